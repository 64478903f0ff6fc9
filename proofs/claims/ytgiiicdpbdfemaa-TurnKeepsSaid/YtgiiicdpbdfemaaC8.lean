/- Part 8. -/
import Derived.Test.YtgiiicdpbdfemaaC7
set_option linter.unusedSimpArgs false
set_option maxHeartbeats 8000000
set_option maxRecDepth 100000
namespace Go.Proofs.Ytgiiicdpbdfemaa
open Go.Conc Go.RowKit Go.Relay
open Go.ConcN (upd upd_ne upd_same)
section
variable {main : Bool} {V : Nat → Option Wait}
structure Made (sw nw : Nat) (l : List (Option Addr × Nat × Nat)) (w0 w : World) (wa : Option Addr) (wc j : Nat) (Ws : List Nat) : Prop where
  old : Old w0 w
  len : Ws.length = j
  row : w.ownsRow w0.heap.size 91 1 (.slice wa j wc) j (Ws.map fun W => Value.pointer (some ⟨W, 0, none⟩))
  at_ : ∀ (i W : Nat) (p : Option Addr × Nat × Nat), Ws[i]? = some W → l[i]? = some p → w.heap[W]? = some (.cells (wkCells sw nw p.1 p.2.1 p.2.2) 156)
  lo : ∀ W ∈ Ws, w0.heap.size ≤ W ∧ W < w.heap.size
  nodup : Ws.Nodup
theorem walkers_loop (sw nw fb fc : Nat) (pv : Value) (l : List (Option Addr × Nat × Nat)) (hn : l.length ≤ 64) (w0 : World) (hl : ∀ j p, l[j]? = some p → w0.cell? ⟨fb, j, none⟩ = some (.slice p.1 p.2.1 p.2.2)) (hA : ∀ b, w0.heap.size ≤ b → Apart V b) (c : Frame) (cs : List Frame) :
    ∀ (r j : Nat) (wa : Option Addr) (wc : Nat) (Ws : List Nat) (u : Nat → Value) (w : World), j + r = l.length → Made sw nw l w0 w wa wc j Ws →
    Walk Try.prog main (DR V) (fun g w' => ∃ wa' wc' Ws', g = G (c.finish (.slice wa' l.length wc')) cs ∧ Made sw nw l w0 w' wa' wc' l.length Ws') (G (hd40 sw nw pv (.slice (some ⟨fb, 0, none⟩) l.length fc) wa wc l.length j u) (c :: cs)) w := by
  intro r
  induction r with
  | zero =>
    intro j wa wc Ws u w hj M
    have hj : j = l.length := hj
    subst hj
    refine (walkers_out sw nw l.length wc pv _ wa u c cs w).mono ?_
    rintro g w' ⟨rfl, d, rfl⟩
    exact ⟨wa, wc, Ws, rfl, ⟨⟨M.old.size, M.old.same⟩, M.len, M.row, M.at_, M.lo, M.nodup⟩⟩
  | succ r ih =>
    intro j wa wc Ws u w hj M
    have hjl : j < l.length := by omega
    have hx := List.getElem?_eq_getElem hjl
    generalize l[j] = p at hx
    have hc := hl j p hx
    have hfb : w.cell? ⟨fb, j, none⟩ = some (.slice p.1 p.2.1 p.2.2) := (World.cell?_of_block (a := ⟨fb, j, none⟩) (M.old.same fb (cell_lt w0 hc))).trans hc
    refine (walkers_go sw nw pv fb l.length fc wc j w0.heap.size wa p.1 p.2.1 p.2.2 _ u (c :: cs) w hjl hn hfb M.row M.old.size (fun g hg => hA g (M.row.lt g hg).1)).then ?_
    rintro g' w1 ⟨g, cap, w3, u', rfl, ⟨d, rfl⟩, hown, hg, hat, hlt⟩
    refine Walk.back ?_ d
    have hs2 : (wkW w sw nw p.1 p.2.1 p.2.2).heap.size = w.heap.size + 2 := by simp [wkW]
    have hrow : ∀ b, (Value.slice wa j wc).ownBlock = some b → w0.heap.size ≤ b ∧ b < w.heap.size ∧ ∀ W ∈ Ws, W ≠ b := fun b hb => by
      refine ⟨(M.row.lt b hb).1, (M.row.lt b hb).2, fun W hW e => ?_⟩
      subst e
      obtain ⟨i, hi⟩ := List.getElem?_of_mem hW
      have hil : i < l.length := by
        have := (List.getElem?_eq_some_iff.1 hi).1
        have := M.len
        omega
      have h1 := M.at_ i W _ hi (List.getElem?_eq_getElem hil)
      rcases M.row.2 with ⟨hv, _⟩ | ⟨gg, cc, cur, hv, _, hh, _⟩
      · rw [hv] at hb; simp [Value.ownBlock] at hb
      · rw [hv] at hb
        simp only [Value.ownBlock, Option.some.injEq] at hb
        subst hb
        rw [h1] at hh
        cases hh
    have hkeep : ∀ b, b < w.heap.size → (Value.slice wa j wc).ownBlock ≠ some b → w3.heap[b]? = w.heap[b]? := fun b hb hne =>
      (hg.block b (by omega) (fun e => hne e.symm)).trans ((heap_new_lt _ _ (by simp; omega)).trans (heap_new_lt w _ hb))
    have hnew : w3.heap[w.heap.size]? = some (.cells (wkCells sw nw p.1 p.2.1 p.2.2) 156) := by
      refine (hg.block w.heap.size (by omega) (fun e => ?_)).trans ((heap_new_lt _ _ (by simp)).trans (heap_alloc_new w _))
      have := (hrow _ e.symm).2.1
      omega
    have hs3 : w.heap.size + 2 ≤ w3.heap.size := hs2 ▸ hg.size
    refine ih (j + 1) (some ⟨g, 0, none⟩) cap (Ws ++ [w.heap.size]) u' w3 (by omega) ⟨⟨by have := M.old.size; omega, fun b hb => ?_⟩, by simp [M.len], by simpa using hown, fun i W q hW hq => ?_, fun W hW => ?_, ?_⟩
    · refine (hkeep b (by have := M.old.size; omega) (fun e => ?_)).trans (M.old.same b hb)
      have := (hrow b e).1
      omega
    · by_cases hi : i < Ws.length
      · rw [List.getElem?_append_left hi] at hW
        have hWm := List.mem_of_getElem? hW
        exact (hkeep W (M.lo W hWm).2 (fun e => (hrow W e).2.2 W hWm rfl)).trans (M.at_ i W q hW hq)
      · rw [List.getElem?_append_right (by omega)] at hW
        have hi0 : i - Ws.length = 0 := by
          have := (List.getElem?_eq_some_iff.1 hW).1
          simp at this
          omega
        rw [hi0] at hW
        simp at hW
        subst hW
        have : i = j := by have := M.len; omega
        subst this
        rw [hx] at hq
        cases hq
        exact hnew
    · rcases List.mem_append.1 hW with h | h
      · have := M.lo W h; omega
      · have := List.mem_singleton.1 h
        have := M.old.size
        omega
    · rw [List.nodup_append]
      refine ⟨M.nodup, by simp, fun a ha b hb e => ?_⟩
      have h1 := (M.lo a ha).2
      have h2 := List.mem_singleton.1 hb
      omega
theorem newWalkers_w (sw nw fb fc : Nat) (pv : Value) (l : List (Option Addr × Nat × Nat)) (hn : l.length ≤ 64) (w : World) (hp : CallV Try.prog main V 70 #[pv] w (.slice (some ⟨fb, 0, none⟩) l.length fc) w) (hl : ∀ j p, l[j]? = some p → w.cell? ⟨fb, j, none⟩ = some (.slice p.1 p.2.1 p.2.2)) (hA : ∀ b, w.heap.size ≤ b → Apart V b) :
    CallW Try.prog main V 40 #[.slice (some ⟨sw, 0, none⟩) nw nw, pv] w (fun v w' => ∃ wa wc Ws, v = .slice wa l.length wc ∧ Made sw nw l w w' wa wc l.length Ws) := by
  intro fr cs
  refine (walkers_in sw nw pv (some ⟨fb, 0, none⟩) l.length fc (fr :: cs) w hp).then ?_
  rintro g w1 ⟨rfl, d, rfl⟩
  refine Walk.back ?_ d
  refine (walkers_loop sw nw fb fc pv l hn w hl hA fr cs l.length 0 none 0 [] (fun _ => undef) w (by omega) ⟨Old.refl w, rfl, World.ownsRow_nil .., fun i W p h => by simp at h, fun W h => by simp at h, List.nodup_nil⟩).mono ?_
  rintro g w2 ⟨wa, wc, Ws, rfl, M⟩
  exact ⟨_, ⟨wa, wc, Ws, rfl, M⟩, rfl⟩
end
section
variable {main : Bool} {V : Nat → Option Wait}
theorem play_go (wv pv sv : Value) (most : Int) (T sw nw wb wc tb n j W : Nat) (y : Value) (u : Nat → Value) (cs : List Frame) (w : World) (hj : j < n) (hn : n ≤ 64) (hp : w.cell? ⟨wb, j, none⟩ = some (.pointer (some ⟨W, 0, none⟩))) (hy : w.cell? ⟨tb, j, none⟩ = some y) (hz : w.frozen? ⟨tb, j, none⟩ = false) (hf : Free V ⟨tb, j, none⟩) :
    Walk Try.prog main (DR V) (fun g w' => (∃ u', g = G (hd14 wv pv sv most T sw nw wb wc tb n (j + 1) u') cs) ∧ ∃ d, w' = (w.setCell ⟨tb, j, none⟩ (.func (.func 41) #[.pointer (some ⟨W, 0, none⟩)] #[])).at d) (G (hd14 wv pv sv most T sw nw wb wc tb n j u) cs) w := by
  have hst : ∀ d, (store ⟨tb, j, none⟩ (.func (.func 41) #[.pointer (some ⟨W, 0, none⟩)] #[])).run Try.prog (w.at d) = .ok () ((w.setCell ⟨tb, j, none⟩ (.func (.func 41) #[.pointer (some ⟨W, 0, none⟩)] #[])).at d) := fun d => by
    have hy' : (w.at d).cell? ⟨tb, j, none⟩ = some y := hy
    have hz' : (w.at d).frozen? ⟨tb, j, none⟩ = false := hz
    rw [run_store Try.prog (w.at d) _ _ _ rfl, hy']
    simp only [hz', Bool.false_eq_true, if_false]
    rfl
  have hse : ∀ d es, (store ⟨tb, j, none⟩ (.func (.func 41) #[.pointer (some ⟨W, 0, none⟩)] #[])).events Try.prog (w.at d) es = es.push ⟨.cell ⟨tb, j, none⟩, true, false⟩ := fun d es => by
    have hy' : (w.at d).cell? ⟨tb, j, none⟩ = some y := hy
    have hz' : (w.at d).frozen? ⟨tb, j, none⟩ = false := hz
    rw [events_store Try.prog (w.at d) es _ _ _ rfl, hy']
    simp only [hz', Bool.false_eq_true, if_false]
    rfl
  have hw1 : IntKind.wrap .i64 ((j : Int) + 1) = (j : Int) + 1 := by rw [IntKind.wrap_i64]; omega
  conv => arg 5; unfold hd14; simp only [body14, Try.f14]
  repeat (first | refine Walk.c rfl ?_ | refine Walk.cR ?_ | refine Walk.cRet ?_ | refine Walk.cEnd ?_ | (refine Walk.oq ?_; try walk_nrm) | (refine Walk.un ?_; walk_nrm))
  refine Walk.opw (W := w.setCell ⟨tb, j, none⟩ (.func (.func 41) #[.pointer (some ⟨W, 0, none⟩)] #[])) rfl (by rfl) (by decide) (fun dd e he => ?_) (fun dd es hes => DR.set' hf hy dd es hes) (fun dd K hK => ?_)
  · simp [go_sem, storedEv, *] at he
    subst he
    exact evR_write _ _ hf
  · go_simp
    try rw [hst dd]
    refine hK _ ?_
    clear hK K hst hse
    try walk_nrm
    repeat (first | refine Walk.c rfl ?_ | refine Walk.cR ?_ | refine Walk.cRet ?_ | refine Walk.cEnd ?_ | (refine Walk.oq ?_; try walk_nrm) | (refine Walk.un ?_; walk_nrm))
    refine Walk.ctl rfl (fun w => stepG_inLoop) ?_
    refine .stop fun d' => ⟨⟨fun k => ([undef, undef, undef, undef, undef, undef, undef, undef, undef, undef, undef, undef, .int .i64 j, .pointer (some ⟨W, 0, none⟩), undef, undef, undef, undef, undef, undef, undef, undef, undef, undef, undef, undef, undef, undef, .bool true, .int .i64 j, .pointer (some ⟨wb, j, none⟩), .pointer (some ⟨W, 0, none⟩), .slice (some ⟨tb, 0, none⟩) n n, .int .i64 j, .pointer (some ⟨W, 0, none⟩), .func (.func 41) #[.pointer (some ⟨W, 0, none⟩)] #[], .pointer (some ⟨tb, j, none⟩), .int .i64 ((j : Int) + 1), u 38, u 39, u 40, u 41, u 42, u 43, u 44, u 45, u 46, u 47, u 48, u 49, u 50, u 51, u 52] : List Value).getD k undef, ?_⟩, d', rfl⟩
    have hc : ((j + 1 : Nat) : Int) = (j : Int) + 1 := by simp
    simp only [hd14, body14, Try.f14, hc]
    rfl
end
section
variable {main : Bool} {V : Nat → Option Wait}
noncomputable def body43 : Code := match Try.f43.body with | some (.seq _ (.seq _ (.seq (.seq _ (.block _ (.loop c))) _))) => c | _ => .skip
noncomputable def rest43 : Code := match Try.f43.body with | some (.seq _ (.seq _ (.seq _ c))) => c | _ => .skip
noncomputable def hd43 (sw q n j : Nat) (u : Nat → Value) : Frame :=
  (base 43).at { tmps := #[.slice (some ⟨sw, 0, none⟩) n n, undef, .slice none 0 0, .slice (some ⟨q, 0, none⟩) n n, u 4, .slice (some ⟨sw, 0, none⟩) n n, .int .i64 n, .slice (some ⟨q, 0, none⟩) n n, .slice (some ⟨sw, 0, none⟩) n n, .int .i64 n, .int .i64 j, u 11, u 12, u 13, u 14, u 15, u 16, u 17, u 18, u 19, u 20, u 21], defers := [] } [.code body43, .inLoop body43, .inBlock 0, .code rest43]
theorem values_in (sw n : Nat) (cs : List Frame) (w : World) (hn : n ≤ 17592186044416) :
    Walk Try.prog main (DR V) (fun g w' => g = G (hd43 sw w.heap.size n 0 (fun _ => undef)) cs ∧ ∃ d, w' = (w.alloc (.cells (madeCells #[.int .i64 0] n) 2)).at d) (G (Frame.enter Try.prog 43 #[.slice (some ⟨sw, 0, none⟩) n n] .normal) cs) w := by
  rw [enter_at _ Try.func43 rfl]
  simp only [Try.f43, List.size_toArray, List.length_cons, List.length_nil, Nat.reduceAdd, Nat.reduceSub, Array.replicate_succ, Array.replicate_zero, List.push_toArray, List.append_toArray, List.nil_append, List.cons_append]
  repeat (first | refine Walk.c rfl ?_ | refine Walk.cR ?_ | refine Walk.cRet ?_ | refine Walk.cEnd ?_ | (refine Walk.oq ?_; try walk_nrm) | (refine Walk.un ?_; walk_nrm))
  have hi2 := Option.some_get (show (Try.prog.info? 2).isSome = true by kernel_rfl)
  refine Walk.make 22 (.tmp 6) (.tmp 6) rfl (by rfl) (by decide) rfl 2 _ (.int .i64 0) 1 8 (by kernel_rfl) hi2.symm (by kernel_rfl) (by kernel_rfl) (by kernel_rfl) n rfl rfl (by omega) hn ?_
  clear hi2
  walk_nrm
  simp only [Value.cells, Nat.mul_one]
  repeat (first | refine Walk.c rfl ?_ | refine Walk.cR ?_ | refine Walk.cRet ?_ | refine Walk.cEnd ?_ | (refine Walk.oq ?_; try walk_nrm) | (refine Walk.un ?_; walk_nrm))
  refine Walk.ctl rfl (fun w => stepG_loop) ?_
  refine .stop fun d => ⟨?_, d, rfl⟩
  simp only [hd43, body43, rest43, Try.f43]
  rfl
theorem values_go (sw q n j : Nat) (x : Int) (y : Value) (u : Nat → Value) (cs : List Frame) (w : World) (hj : j < n) (hn : n ≤ 17592186044416) (hx : w.cell? ⟨sw, j, none⟩ = some (.int .i64 x)) (hy : w.cell? ⟨q, j, none⟩ = some y) (hz : w.frozen? ⟨q, j, none⟩ = false) (hf : Free V ⟨q, j, none⟩) :
    Walk Try.prog main (DR V) (fun g w' => (∃ u', g = G (hd43 sw q n (j + 1) u') cs) ∧ ∃ d, w' = (w.setCell ⟨q, j, none⟩ (.int .i64 x)).at d) (G (hd43 sw q n j u) cs) w := by
  have hw1 : IntKind.wrap .i64 ((j : Int) + 1) = (j : Int) + 1 := by rw [IntKind.wrap_i64]; omega
  conv => arg 5; unfold hd43; simp only [body43, Try.f43]
  repeat (first | refine Walk.c rfl ?_ | refine Walk.cR ?_ | refine Walk.cRet ?_ | refine Walk.cEnd ?_ | (refine Walk.oq ?_; try walk_nrm) | (refine Walk.un ?_; walk_nrm))
  refine Walk.callV (x := .int .i64 x) (W := w) ?_ rfl (by rfl) (by decide) rfl Try.func63 (by kernel_rfl) (by rfl) ?_
  · walk_nrm
    exact load63 _ x w hx
  walk_nrm
  repeat (first | refine Walk.c rfl ?_ | refine Walk.cR ?_ | refine Walk.cRet ?_ | refine Walk.cEnd ?_ | (refine Walk.oq ?_; try walk_nrm) | (refine Walk.un ?_; walk_nrm))
  (refine Walk.os hf hy ?_; try walk_nrm)
  repeat (first | refine Walk.c rfl ?_ | refine Walk.cR ?_ | refine Walk.cRet ?_ | refine Walk.cEnd ?_ | (refine Walk.oq ?_; try walk_nrm) | (refine Walk.un ?_; walk_nrm))
  refine Walk.ctl rfl (fun w => stepG_inLoop) ?_
  refine .stop fun d' => ⟨⟨fun k => ([undef, undef, undef, undef, .int .i64 j, undef, undef, undef, undef, undef, undef, .bool true, .int .i64 j, .slice (some ⟨q, 0, none⟩) n n, .int .i64 j, .slice (some ⟨sw, 0, none⟩) n n, .int .i64 j, .pointer (some ⟨sw, j, none⟩), .int .i64 x, .pointer (some ⟨q, j, none⟩), .int .i64 ((j : Int) + 1), u 21] : List Value).getD k undef, ?_⟩, d', rfl⟩
  have hc : ((j + 1 : Nat) : Int) = (j : Int) + 1 := by simp
  simp only [hd43, body43, Try.f43, hc]
  rfl
theorem values_out (sw q n : Nat) (u : Nat → Value) (c : Frame) (cs : List Frame) (w : World) :
    Walk Try.prog main (DR V) (fun g w' => g = G (c.finish (.slice (some ⟨q, 0, none⟩) n n)) cs ∧ ∃ d, w' = w.at d) (G (hd43 sw q n n u) (c :: cs)) w := by
  unfold hd43
  simp only [body43, rest43, Try.f43]
  repeat (first | refine Walk.c rfl ?_ | refine Walk.cR ?_ | refine Walk.cRet ?_ | refine Walk.cEnd ?_ | (refine Walk.oq ?_; try walk_nrm) | (refine Walk.un ?_; walk_nrm))
  exact (Walk.ret1 (Post := fun v w' => v = .slice (some ⟨q, 0, none⟩) n n ∧ ∃ d, w' = w.at d) rfl rfl Try.func43 rfl fun d => ⟨rfl, d, rfl⟩).mono fun g w' ⟨v, ⟨hv, hd⟩, hg⟩ => ⟨by rw [hg, hv], hd⟩
end
section
variable {main : Bool} {V : Nat → Option Wait}
noncomputable def body42 : Code := match Try.f42.body with | some (.seq _ (.seq _ (.seq (.seq _ (.block _ (.loop c))) _))) => c | _ => .skip
noncomputable def rest42 : Code := match Try.f42.body with | some (.seq _ (.seq _ (.seq _ c))) => c | _ => .skip
noncomputable def hd42 (wa : Option Addr) (cap q n j : Nat) (u : Nat → Value) : Frame :=
  (base 42).at { tmps := #[.slice wa n cap, undef, .slice none 0 0, .slice (some ⟨q, 0, none⟩) n n, u 4, u 5, .slice wa n cap, .int .i64 n, .slice (some ⟨q, 0, none⟩) n n, .slice wa n cap, .int .i64 n, .int .i64 j, u 12, u 13, u 14, u 15, u 16, u 17, u 18, u 19, u 20, u 21, u 22, u 23, u 24], defers := [] } [.code body42, .inLoop body42, .inBlock 0, .code rest42]
theorem told_in (wa : Option Addr) (cap n : Nat) (cs : List Frame) (w : World) (hn : n ≤ 1048576) :
    Walk Try.prog main (DR V) (fun g w' => g = G (hd42 wa cap w.heap.size n 0 (fun _ => undef)) cs ∧ ∃ d, w' = (w.alloc (.cells (madeCells #[.slice none 0 0] n) 36)).at d) (G (Frame.enter Try.prog 42 #[.slice wa n cap] .normal) cs) w := by
  rw [enter_at _ Try.func42 rfl]
  simp only [Try.f42, List.size_toArray, List.length_cons, List.length_nil, Nat.reduceAdd, Nat.reduceSub, Array.replicate_succ, Array.replicate_zero, List.push_toArray, List.append_toArray, List.nil_append, List.cons_append]
  repeat (first | refine Walk.c rfl ?_ | refine Walk.cR ?_ | refine Walk.cRet ?_ | refine Walk.cEnd ?_ | (refine Walk.oq ?_; try walk_nrm) | (refine Walk.un ?_; walk_nrm))
  have hi36 := Option.some_get (show (Try.prog.info? 36).isSome = true by kernel_rfl)
  refine Walk.make 26 (.tmp 7) (.tmp 7) rfl (by rfl) (by decide) rfl 36 _ (.slice none 0 0) 1 24 (by kernel_rfl) hi36.symm (by kernel_rfl) (by kernel_rfl) (by kernel_rfl) n rfl rfl (by omega) (by omega) ?_
  clear hi36
  walk_nrm
  simp only [Value.cells, Nat.mul_one]
  repeat (first | refine Walk.c rfl ?_ | refine Walk.cR ?_ | refine Walk.cRet ?_ | refine Walk.cEnd ?_ | (refine Walk.oq ?_; try walk_nrm) | (refine Walk.un ?_; walk_nrm))
  refine Walk.ctl rfl (fun w => stepG_loop) ?_
  refine .stop fun d => ⟨?_, d, rfl⟩
  simp only [hd42, body42, rest42, Try.f42]
  rfl
theorem told_go (wb cap q n j W : Nat) (ta : Option Addr) (tn tc : Nat) (y : Value) (u : Nat → Value) (cs : List Frame) (w : World) (hj : j < n) (hn : n ≤ 1048576) (hp : w.cell? ⟨wb, j, none⟩ = some (.pointer (some ⟨W, 0, none⟩))) (hx : w.cell? ⟨W, 6, none⟩ = some (.slice ta tn tc)) (hy : w.cell? ⟨q, j, none⟩ = some y) (hz : w.frozen? ⟨q, j, none⟩ = false) (hf : Free V ⟨q, j, none⟩) :
    Walk Try.prog main (DR V) (fun g w' => (∃ u', g = G (hd42 (some ⟨wb, 0, none⟩) cap q n (j + 1) u') cs) ∧ ∃ d, w' = (w.setCell ⟨q, j, none⟩ (.slice ta tn tc)).at d) (G (hd42 (some ⟨wb, 0, none⟩) cap q n j u) cs) w := by
  have hw1 : IntKind.wrap .i64 ((j : Int) + 1) = (j : Int) + 1 := by rw [IntKind.wrap_i64]; omega
  conv => arg 5; unfold hd42; simp only [body42, Try.f42]
  repeat (first | refine Walk.c rfl ?_ | refine Walk.cR ?_ | refine Walk.cRet ?_ | refine Walk.cEnd ?_ | (refine Walk.oq ?_; try walk_nrm) | (refine Walk.un ?_; walk_nrm))
  (refine Walk.os hf hy ?_; try walk_nrm)
  repeat (first | refine Walk.c rfl ?_ | refine Walk.cR ?_ | refine Walk.cRet ?_ | refine Walk.cEnd ?_ | (refine Walk.oq ?_; try walk_nrm) | (refine Walk.un ?_; walk_nrm))
  refine Walk.ctl rfl (fun w => stepG_inLoop) ?_
  refine .stop fun d' => ⟨⟨fun k => ([undef, undef, undef, undef, .int .i64 j, .pointer (some ⟨W, 0, none⟩), undef, undef, undef, undef, undef, undef, .bool true, .int .i64 j, .pointer (some ⟨wb, j, none⟩), .pointer (some ⟨W, 0, none⟩), .slice (some ⟨q, 0, none⟩) n n, .int .i64 j, .pointer (some ⟨W, 0, none⟩), .pointer (some ⟨W, 0, none⟩), .pointer (some ⟨W, 6, none⟩), .slice ta tn tc, .pointer (some ⟨q, j, none⟩), .int .i64 ((j : Int) + 1), u 24] : List Value).getD k undef, ?_⟩, d', rfl⟩
  have hc : ((j + 1 : Nat) : Int) = (j : Int) + 1 := by simp
  simp only [hd42, body42, Try.f42, hc]
  rfl
theorem told_out (wa : Option Addr) (cap q n : Nat) (u : Nat → Value) (c : Frame) (cs : List Frame) (w : World) :
    Walk Try.prog main (DR V) (fun g w' => g = G (c.finish (.slice (some ⟨q, 0, none⟩) n n)) cs ∧ ∃ d, w' = w.at d) (G (hd42 wa cap q n n u) (c :: cs)) w := by
  unfold hd42
  simp only [body42, rest42, Try.f42]
  repeat (first | refine Walk.c rfl ?_ | refine Walk.cR ?_ | refine Walk.cRet ?_ | refine Walk.cEnd ?_ | (refine Walk.oq ?_; try walk_nrm) | (refine Walk.un ?_; walk_nrm))
  exact (Walk.ret1 (Post := fun v w' => v = .slice (some ⟨q, 0, none⟩) n n ∧ ∃ d, w' = w.at d) rfl rfl Try.func42 rfl fun d => ⟨rfl, d, rfl⟩).mono fun g w' ⟨v, ⟨hv, hd⟩, hg⟩ => ⟨by rw [hg, hv], hd⟩
end
section
variable {main : Bool} {V : Nat → Option Wait}
structure Laid (w0 w : World) (ty : TypeId) (n j : Nat) (f : Nat → Value) : Prop where
  old : Old w0 w
  lt : w0.heap.size < w.heap.size
  row : ∃ arr, w.heap[w0.heap.size]? = some (.cells arr ty (0, 0)) ∧ arr.size = n ∧ ∀ i, i < j → arr[i]? = some (f i)
theorem Laid.set {w0 w : World} {ty : TypeId} {n j : Nat} {f : Nat → Value} (H : Laid w0 w ty n j f) (hj : j < n) : Laid w0 (w.setCell ⟨w0.heap.size, j, none⟩ (f j)) ty n (j + 1) f := by
  obtain ⟨arr, h1, h2, h3⟩ := H.row
  refine ⟨⟨by rw [size_set]; exact H.old.size, fun b hb => (heap_set_other _ _ _ _ (by show b ≠ w0.heap.size; omega)).trans (H.old.same b hb)⟩, by rw [size_set]; exact H.lt, _, heap_set_self _ _ h1, by simpa using h2, fun i hi => ?_⟩
  by_cases e : i = j
  · subst e; rw [Array.getElem?_setIfInBounds_self_of_lt (by omega)]
  · rw [Array.getElem?_setIfInBounds_ne (Ne.symm e)]; exact h3 i (by omega)
theorem Laid.cell {w0 w : World} {ty : TypeId} {n j : Nat} {f : Nat → Value} (H : Laid w0 w ty n j f) {i : Nat} (hi : i < n) : (∃ y, w.cell? ⟨w0.heap.size, i, none⟩ = some y) ∧ w.frozen? ⟨w0.heap.size, i, none⟩ = false := by
  obtain ⟨arr, h1, h2, _⟩ := H.row
  exact ⟨⟨arr[i], (cell_of h1 i).trans (Array.getElem?_eq_getElem (by omega))⟩, frozen_of h1 i⟩
theorem Laid.new (w : World) (z : Value) (ty : TypeId) (n : Nat) (f : Nat → Value) : Laid w (w.alloc (.cells (madeCells #[z] n) ty)) ty n 0 f :=
  ⟨⟨by simp, fun b hb => heap_new_lt w _ hb⟩, by simp, _, heap_alloc_new w _, by simp [size_madeCells], fun i hi => absurd hi (Nat.not_lt_zero _)⟩
theorem Laid.at {w0 w : World} {ty : TypeId} {n j : Nat} {f : Nat → Value} (H : Laid w0 w ty n j f) (d : Nat) : Laid w0 (w.at d) ty n j f := ⟨⟨H.old.size, H.old.same⟩, H.lt, H.row⟩
theorem values_loop (sw n : Nat) (words : Nat → Int) (hn : n ≤ 17592186044416) (w0 : World) (hl : WsIs sw n words w0) (hA : Apart V w0.heap.size) (c : Frame) (cs : List Frame) : ∀ (r j : Nat) (u : Nat → Value) (w : World), j + r = n → Laid w0 w 2 n j (fun i => .int .i64 (words i)) →
    Walk Try.prog main (DR V) (fun g w' => g = G (c.finish (.slice (some ⟨w0.heap.size, 0, none⟩) n n)) cs ∧ Laid w0 w' 2 n n (fun i => .int .i64 (words i))) (G (hd43 sw w0.heap.size n j u) (c :: cs)) w := by
  intro r
  induction r with
  | zero =>
    intro j u w hj H
    have hj : j = n := hj
    subst hj
    refine (values_out sw w0.heap.size j u c cs w).mono ?_
    rintro g w' ⟨rfl, d, rfl⟩
    exact ⟨rfl, H.at d⟩
  | succ r ih =>
    intro j u w hj H
    have hjn : j < n := by omega
    obtain ⟨arr, ha, hb⟩ := hl
    have hx : w.cell? ⟨sw, j, none⟩ = some (.int .i64 (words j)) := (cell_of ((H.old.same sw (Array.getElem?_eq_some_iff.1 ha).1).trans ha) j).trans (hb j hjn)
    obtain ⟨⟨y, hy⟩, hz⟩ := H.cell hjn
    refine (values_go sw w0.heap.size n j (words j) y u (c :: cs) w hjn hn hx hy hz (hA.1 _ rfl)).then ?_
    rintro g w' ⟨⟨u', rfl⟩, d, rfl⟩
    exact Walk.back (ih (j + 1) u' _ (by omega) (H.set hjn)) d
theorem values_w (sw n : Nat) (words : Nat → Int) (hn : n ≤ 17592186044416) (w : World) (hl : WsIs sw n words w) (hA : Apart V w.heap.size) :
    CallW Try.prog main V 43 #[.slice (some ⟨sw, 0, none⟩) n n] w (fun v w' => v = .slice (some ⟨w.heap.size, 0, none⟩) n n ∧ Laid w w' 2 n n (fun i => .int .i64 (words i))) := by
  intro fr cs
  refine (values_in sw n (fr :: cs) w hn).then ?_
  rintro g w1 ⟨rfl, d, rfl⟩
  refine Walk.back ?_ d
  refine (values_loop sw n words hn w hl hA fr cs n 0 (fun _ => undef) _ (by omega) (Laid.new w _ 2 n _)).mono ?_
  rintro g w2 ⟨rfl, H⟩
  exact ⟨_, ⟨rfl, H⟩, rfl⟩
theorem told_loop (wb cap n : Nat) (Ws : Nat → Nat) (tv : Nat → Option Addr × Nat × Nat) (hn : n ≤ 1048576) (w0 : World) (hp : ∀ j, j < n → w0.cell? ⟨wb, j, none⟩ = some (.pointer (some ⟨Ws j, 0, none⟩))) (ht : ∀ j, j < n → w0.cell? ⟨Ws j, 6, none⟩ = some (.slice (tv j).1 (tv j).2.1 (tv j).2.2)) (hA : Apart V w0.heap.size) (c : Frame) (cs : List Frame) :
    ∀ (r j : Nat) (u : Nat → Value) (w : World), j + r = n → Laid w0 w 36 n j (fun i => .slice (tv i).1 (tv i).2.1 (tv i).2.2) →
    Walk Try.prog main (DR V) (fun g w' => g = G (c.finish (.slice (some ⟨w0.heap.size, 0, none⟩) n n)) cs ∧ Laid w0 w' 36 n n (fun i => .slice (tv i).1 (tv i).2.1 (tv i).2.2)) (G (hd42 (some ⟨wb, 0, none⟩) cap w0.heap.size n j u) (c :: cs)) w := by
  intro r
  induction r with
  | zero =>
    intro j u w hj H
    have hj : j = n := hj
    subst hj
    refine (told_out (some ⟨wb, 0, none⟩) cap w0.heap.size j u c cs w).mono ?_
    rintro g w' ⟨rfl, d, rfl⟩
    exact ⟨rfl, H.at d⟩
  | succ r ih =>
    intro j u w hj H
    have hjn : j < n := by omega
    have hx := (World.cell?_of_block (a := ⟨wb, j, none⟩) (H.old.same wb (cell_lt w0 (hp j hjn)))).trans (hp j hjn)
    have hy6 := (World.cell?_of_block (a := ⟨Ws j, 6, none⟩) (H.old.same (Ws j) (cell_lt w0 (ht j hjn)))).trans (ht j hjn)
    obtain ⟨⟨y, hy⟩, hz⟩ := H.cell hjn
    refine (told_go wb cap w0.heap.size n j (Ws j) (tv j).1 (tv j).2.1 (tv j).2.2 y u (c :: cs) w hjn hn hx hy6 hy hz (hA.1 _ rfl)).then ?_
    rintro g w' ⟨⟨u', rfl⟩, d, rfl⟩
    exact Walk.back (ih (j + 1) u' _ (by omega) (H.set hjn)) d
theorem told_w (wb cap n : Nat) (Ws : Nat → Nat) (tv : Nat → Option Addr × Nat × Nat) (hn : n ≤ 1048576) (w : World) (hp : ∀ j, j < n → w.cell? ⟨wb, j, none⟩ = some (.pointer (some ⟨Ws j, 0, none⟩))) (ht : ∀ j, j < n → w.cell? ⟨Ws j, 6, none⟩ = some (.slice (tv j).1 (tv j).2.1 (tv j).2.2)) (hA : Apart V w.heap.size) :
    CallW Try.prog main V 42 #[.slice (some ⟨wb, 0, none⟩) n cap] w (fun v w' => v = .slice (some ⟨w.heap.size, 0, none⟩) n n ∧ Laid w w' 36 n n (fun i => .slice (tv i).1 (tv i).2.1 (tv i).2.2)) := by
  intro fr cs
  refine (told_in (some ⟨wb, 0, none⟩) cap n (fr :: cs) w hn).then ?_
  rintro g w1 ⟨rfl, d, rfl⟩
  refine Walk.back ?_ d
  refine (told_loop wb cap n Ws tv hn w hp ht hA fr cs n 0 (fun _ => undef) _ (by omega) (Laid.new w _ 36 n _)).mono ?_
  rintro g w2 ⟨rfl, H⟩
  exact ⟨_, ⟨rfl, H⟩, rfl⟩
end
section
variable {main : Bool} {V : Nat → Option Wait}
def thF (Ws : Nat → Nat) (i : Nat) : Value := .func (.func 41) #[.pointer (some ⟨Ws i, 0, none⟩)] #[]
theorem play_loop {Stop : Goroutine → World → Prop} (wv pv sv : Value) (most : Int) (T sw nw wb wc n : Nat) (Ws : Nat → Nat) (hn : n ≤ 64) (cs : List Frame) (w2 : World) (hp : ∀ j, j < n → w2.cell? ⟨wb, j, none⟩ = some (.pointer (some ⟨Ws j, 0, none⟩))) (hA : Apart V w2.heap.size)
    (hk : ∀ u w', Laid w2 w' 67 n n (thF Ws) → Walk Try.prog main (DR V) Stop (G (Frame.enter Try.prog 23 #[.slice (some ⟨w2.heap.size, 0, none⟩) n n, sv, .int .i64 most] .normal) (fr14 wv pv sv most T sw nw wb wc w2.heap.size n u :: cs)) w') :
    ∀ (r j : Nat) (u : Nat → Value) (w : World), j + r = n → Laid w2 w 67 n j (thF Ws) → Walk Try.prog main (DR V) Stop (G (hd14 wv pv sv most T sw nw wb wc w2.heap.size n j u) cs) w := by
  intro r
  induction r with
  | zero =>
    intro j u w hj H
    have hj : j = n := hj
    subst hj
    exact play_over wv pv sv most T sw nw wb wc w2.heap.size j u cs w fun u' => hk u' w H
  | succ r ih =>
    intro j u w hj H
    have hjn : j < n := by omega
    have hx := (World.cell?_of_block (a := ⟨wb, j, none⟩) (H.old.same wb (cell_lt w2 (hp j hjn)))).trans (hp j hjn)
    obtain ⟨⟨y, hy⟩, hz⟩ := H.cell hjn
    refine (play_go wv pv sv most T sw nw wb wc w2.heap.size n j (Ws j) y u cs w hjn hn hx hy hz (hA.1 _ rfl)).then ?_
    rintro g w' ⟨⟨u', rfl⟩, d, rfl⟩
    exact Walk.back (ih (j + 1) u' _ (by omega) (H.set (f := thF Ws) hjn)) d
theorem play_top {Stop : Goroutine → World → Prop} (wa : Option Addr) (cap fb fc : Nat) (pv sv : Value) (most : Int) (ws : List Int) (l : List (Option Addr × Nat × Nat)) (hws : ws.length ≤ 17592186044416) (hl64 : l.length ≤ 64) (cs : List Frame) (w : World) (hw : IntsAt wa ws w)
    (hp : ∀ w', Old w w' → CallV Try.prog main V 70 #[pv] w' (.slice (some ⟨fb, 0, none⟩) l.length fc) w') (hl : ∀ j p, l[j]? = some p → w.cell? ⟨fb, j, none⟩ = some (.slice p.1 p.2.1 p.2.2)) (hA : ∀ b, w.heap.size ≤ b → Apart V b)
    (hk : ∀ sw w1 wb wc Ws w2 u w3, w.heap.size < sw → Old w w1 → sw < w1.heap.size → WsIs sw ws.length (fun j => ws.getD j 0) w1 → Made sw ws.length l w1 w2 (some ⟨wb, 0, none⟩) wc l.length Ws → Laid w2 w3 67 l.length l.length (thF fun i => Ws.getD i 0) → w1.heap[w.heap.size]? = some (.cells #[.slice none 0 0, .slice none 0 0, .slice none 0 0, .bool false] 28) →
      Walk Try.prog main (DR V) Stop (G (Frame.enter Try.prog 23 #[.slice (some ⟨w2.heap.size, 0, none⟩) l.length l.length, sv, .int .i64 most] .normal) (fr14 (.slice wa ws.length cap) pv sv most w.heap.size sw ws.length wb wc w2.heap.size l.length u :: cs)) w3) (hl1 : 1 ≤ l.length) :
    Walk Try.prog main (DR V) Stop (G (Frame.enter Try.prog 14 #[.slice wa ws.length cap, pv, sv, .int .i64 most] .normal) cs) w := by
  have hold : Old w (w.alloc (.cells #[.slice none 0 0, .slice none 0 0, .slice none 0 0, .bool false] 28)) := ⟨by simp, fun b hb => heap_new_lt w _ hb⟩
  have hs1 : (w.alloc (.cells #[.slice none 0 0, .slice none 0 0, .slice none 0 0, .bool false] 28)).heap.size = w.heap.size + 1 := by simp
  refine play_in (.slice wa ws.length cap) pv sv most (w.heap.size + 1) ws.length (fun w1 => Old w w1 ∧ w.heap.size + 1 < w1.heap.size ∧ WsIs (w.heap.size + 1) ws.length (fun j => ws.getD j 0) w1 ∧ w1.heap[w.heap.size]? = some (.cells #[.slice none 0 0, .slice none 0 0, .slice none 0 0, .bool false] 28))
    (fun wb n wc w2 => ∃ w1 Ws, (Old w w1 ∧ w.heap.size + 1 < w1.heap.size ∧ WsIs (w.heap.size + 1) ws.length (fun j => ws.getD j 0) w1 ∧ w1.heap[w.heap.size]? = some (.cells #[.slice none 0 0, .slice none 0 0, .slice none 0 0, .bool false] 28)) ∧ n = l.length ∧ Made (w.heap.size + 1) ws.length l w1 w2 (some ⟨wb, 0, none⟩) wc l.length Ws) cs w ?_ ?_ ?_
  · intro fr cs'
    refine ((share_w (main := main) (V := V) wa cap ws hws _ (hw.old fun b hb => heap_new_lt w _ hb) (by rw [hs1]; exact hA _ (Nat.le_succ _))) fr cs').mono ?_
    rintro g w' ⟨v, ⟨hv, h1, h2, h3⟩, hg⟩
    rw [hs1] at hv h2 h3
    exact ⟨v, ⟨hv, hold.trans h1, h2, h3, (h1.same _ (by rw [hs1]; exact Nat.lt_succ_self _)).trans (heap_alloc_new w _)⟩, hg⟩
  · rintro w1 ⟨h1, h2, h3, h4⟩ fr cs'
    refine ((newWalkers_w (main := main) (V := V) (w.heap.size + 1) ws.length fb fc pv l hl64 w1 (hp w1 h1) (fun j p hj => (World.cell?_of_block (a := ⟨fb, j, none⟩) (h1.same fb (cell_lt w (hl j p hj)))).trans (hl j p hj)) (fun b hb => hA b (Nat.le_trans h1.size hb))) fr cs').mono ?_
    rintro g w' ⟨v, ⟨wa', wc, Ws, hv, M⟩, hg⟩
    obtain ⟨wb, rfl⟩ : ∃ wb, wa' = some ⟨wb, 0, none⟩ := by
      rcases M.row.2 with ⟨_, e⟩ | ⟨gg, cc, cur, e, _⟩
      · omega
      · cases e; exact ⟨gg, rfl⟩
    exact ⟨v, ⟨wb, l.length, wc, hv, ⟨w1, Ws, ⟨h1, h2, h3, h4⟩, rfl, M⟩, hl64⟩, hg⟩
  · rintro wb n wc w2 ⟨w1, Ws, ⟨h1, h2, h3, h4⟩, rfl, M⟩ hn
    refine play_loop (.slice wa ws.length cap) pv sv most w.heap.size (w.heap.size + 1) ws.length wb wc l.length (fun i => Ws.getD i 0) hn cs w2 (fun j hj => ?_) (hA _ (Nat.le_trans h1.size M.old.size)) (fun u w3 H => hk _ w1 wb wc Ws w2 u w3 (Nat.lt_succ_self _) h1 h2 h3 M H h4) l.length 0 _ _ (by omega) (Laid.new w2 _ 67 _ _)
    rcases M.row with ⟨_, ⟨_, e⟩ | ⟨gg, cc, cur, e, _, hh, hcap, _, hsz, ht⟩⟩
    · omega
    · cases e
      have hjw : j < Ws.length := by have := M.len; omega
      have h1 : (cur.toList.take (l.length * 1))[j]? = cur[j]? := by rw [List.getElem?_take, if_pos (by omega)]; simp
      rw [cell_of hh j, ← h1, ht, List.getElem?_map, List.getElem?_eq_getElem hjw]
      simp only [Option.map_some]
      rw [List.getD_eq_getElem?_getD, List.getElem?_eq_getElem hjw, Option.getD_some]
end
section
structure PG where
  n : Nat
  nw : Nat
  sw : Nat
  wcap : Nat
  W : Nat → Nat
  ca : Nat → Option Addr
  ccap : Nat → Nat
  progs : Nat → List Cd
  ro : Nat → Option Obj
def PG.sv (g : PG) : Value := .slice (some ⟨g.sw, 0, none⟩) g.nw g.wcap
def PG.cv (g : PG) (i : Nat) : Value := .slice (g.ca i) (g.progs i).length (g.ccap i)
structure PX where
  words : Nat → Int
  th : Nat → Th
  out : Nat → Option Bool
  cnt : Nat
def th0 : Th := ⟨0, fun _ => 0, []⟩
def settle (g : PG) (x : PX) (i : Nat) (t : Th) : PX :=
  { x with th := upd x.th i (ownX (g.progs i) g.nw 4096 t).2, out := upd x.out i (if (ownX (g.progs i) g.nw 4096 t).1 then some false else none) }
def bornP (g : PG) (x : PX) (i : Nat) : PX := settle g x i (x.th i)
def nextP (g : PG) (x : PX) (i : Nat) : PX := match codeAt (g.progs i) (x.th i).pc with
  | none => { x with cnt := x.cnt + 1 }
  | some c => settle g { x with words := (reachX c x.words (x.th i)).1, cnt := x.cnt + 1 } i { (reachX c x.words (x.th i)).2 with pc := (x.th i).pc + 1 }
inductive CR where
  | wk (i : Nat)
  | ws
  | ro
  | td (i : Nat)
  | bx (i : Nat)
structure PInv (g : PG) (S : Stile) (k : Nat) (o : Nat → Option Role) (x : PX) (cs : Nat → List Frame) (w : World) (κ : Nat → Option CR) (tas : Nat → Option Addr) (tcs Xs os : Nat → Nat) (us : Nat → Nat → Value) : Prop where
  lt : ∀ b r, κ b = some r → o b = none ∧ b < w.heap.size
  n : S.n = g.n
  wk : ∀ i, i < g.n → WkIs (g.W i) g.sv (g.cv i) (x.th i) (tas i) (tcs i) w
  ws : WsIs g.sw g.nw x.words w
  rW : ∀ i, i < g.n → κ (g.W i) = some (.wk i)
  rS : κ g.sw = some .ws
  rT : ∀ i, i < g.n → ∀ b, (Value.slice (tas i) (x.th i).told.length (tcs i)).ownBlock = some b → κ b = some (.td i)
  rC : ∀ i, i < g.n → ∀ b, g.ca i = some ⟨b, 0, none⟩ → κ b = some .ro
  codes : ∀ i, i < g.n → CodesAt (g.ca i) (g.progs i) w
  rB : κ S.tb = some .ro
  tb : ∀ i, i < g.n → w.cell? ⟨S.tb, i, none⟩ = some (S.F i)
  rN : ∀ s so, S.sa = some ⟨s, so, none⟩ → 0 < S.sl.length → κ s = some .ro
  sch : ∀ (j : Nat) (z : Int), S.sl[j]? = some z → ∃ s so, S.sa = some ⟨s, so, none⟩ ∧ w.cell? ⟨s, so + j, none⟩ = some (.int .i64 z)
  F : ∀ i, i < g.n → S.F i = .func (.func 41) #[.pointer (some ⟨g.W i, 0, none⟩)] #[]
  told : ∀ i, i < g.n → (x.th i).told.length ≤ 4096 * (x.cnt + 1)
  len : ∀ i, i < g.n → (g.progs i).length < 4611686018427387904
  stands : ∀ i, i < k → i < g.n → x.out i = none → ∃ (cd : Cd) (m : Nat), (x.th i).pc = m ∧ (g.progs i)[m]? = some cd ∧ isStepX g.nw cd = true ∧ κ (Xs i) = some (.bx i) ∧ BoxAt (Xs i) cd w ∧
    cs i = [fr41s (g.W i) (Xs i) (.iface 161 (.pointer (some ⟨S.p i, 0, none⟩))) (os i) m (us i)]
  fresh : ∀ i, k ≤ i → i < g.n → x.th i = th0
  kn : k ≤ g.n
  rr : ∀ b ob, g.ro b = some ob → κ b = some .ro ∧ w.heap[b]? = some ob
def invP (g : PG) (S : Stile) (k : Nat) (o : Nat → Option Role) (x : PX) (cs : Nat → List Frame) (w : World) : Prop := ∃ κ tas tcs Xs os us, PInv g S k o x cs w κ tas tcs Xs os us
theorem ownX_told (codes : List Cd) (nw : Nat) : ∀ (k : Nat) (t : Th), (ownX codes nw k t).2.told.length ≤ t.told.length + k
  | 0, t => by simp [ownX]
  | k + 1, t => by
    unfold ownX
    cases codeAt codes t.pc with
    | none => simp
    | some c =>
      simp only []
      by_cases h : isStepX nw c = true
      · rw [if_pos h]; simp
      · rw [if_neg h]
        have h1 := ownX_told codes nw k (reckonX c t)
        have h2 : (reckonX c t).told.length ≤ t.told.length + 1 := by
          unfold reckonX
          repeat' split
          all_goals simp
        omega
section
variable {V : Nat → Option Wait} {g : PG} {S : Stile} {k : Nat} {o : Nat → Option Role} {x : PX} {cs : Nat → List Frame} {w : World} {κ : Nat → Option CR} {tas : Nat → Option Addr} {tcs Xs os : Nat → Nat} {us : Nat → Nat → Value}
theorem PInv.two (_ : PInv g S k o x cs w κ tas tcs Xs os us) {b b' : Nat} {r r' : CR} (h : κ b = some r) (h' : κ b' = some r') (hr : r ≠ r') : b ≠ b' := by
  rintro rfl
  rw [h] at h'
  exact hr (Option.some.inj h')
theorem settle_walk {k' i cnt' : Nat} {words' : Nat → Int} {t : Th} {w1 : World} (P : PInv g S k o x cs w κ tas tcs Xs os us) (hi : i < g.n) (hk : i < k') (hkk : ∀ j, j < k' → j ≠ i → j < k) (hkf : k ≤ k') (hkn : k' ≤ g.n) (hsz : w.heap.size ≤ w1.heap.size) (hsame : ∀ b, b < w.heap.size → b ≠ g.W i → b ≠ g.sw → w1.heap[b]? = w.heap[b]?)
    (H : WkIs (g.W i) g.sv (g.cv i) t (tas i) (tcs i) w1) (hws : WsIs g.sw g.nw words' w1) (htold : t.told = (x.th i).told) (hcnt : x.cnt ≤ cnt') (hc2 : cnt' ≤ 1048576) (htb : t.told.length + 4096 ≤ 4096 * (cnt' + 1)) (hA : ∀ b, o b = none → Apart V b) (hlt : ∀ b r, o b = some r → b < w.heap.size) (f : Frame) (fs : List Frame) (u : Nat → Value) :
    Walk Try.prog false (DR V) (Fin (invP g S) PX.out S k' o (settle g { x with words := words', cnt := cnt' } i t) cs i f fs w) (G (hd41 (g.W i) (.iface 161 (.pointer (some ⟨S.p i, 0, none⟩))) 0 t.pc u) (f :: fs)) w1 := by
  have hW := P.rW i hi
  have hWo := (P.lt _ _ hW).1
  have hT : ∀ b, (Value.slice (tas i) t.told.length (tcs i)).ownBlock = some b → κ b = some (.td i) := fun b h => P.rT i hi b (htold ▸ h)
  have hfr : ∀ b, w.heap.size ≤ b → o b = none := fun b hb => by
    cases h : o b with
    | none => rfl
    | some r => have := hlt b r h; omega
  have hro1 : ∀ b, κ b = some .ro → w1.heap[b]? = w.heap[b]? := fun b hb => hsame b (P.lt _ _ hb).2 (P.two hb hW (by simp)) (P.two hb P.rS (by simp))
  refine (own_run (main := false) (V := V) (W := g.W i) (nw := g.nw) (sv := g.sv) (codes := g.progs i) (S.p i) f fs rfl (fun j => (hA _ hWo).1 _ rfl) (P.len i hi) 4096 0 (by omega) H ((P.codes i hi).same fun cb e => hro1 cb (P.rC i hi cb e))
    (fun cb e => ⟨Nat.lt_of_lt_of_le (P.lt _ _ (P.rC i hi cb e)).2 hsz, P.two (P.rC i hi cb e) hW (by simp), fun e' => P.two (P.rC i hi cb e) (hT cb e') (by simp) rfl⟩) (fun b hb => hA b (hfr b (Nat.le_trans hsz hb))) (fun b hb => hA b (P.lt _ _ (hT b hb)).1) (by omega)).mono ?_
  rintro g2 w2 ⟨R, hS⟩
  obtain ⟨ta', tc', h', g'⟩ := R.is
  obtain ⟨Xo, hXo, hSX⟩ : ∃ Xo : Option Nat, (∀ X, Xo = some X → w1.heap.size ≤ X ∧ X < w2.heap.size ∧ ∃ cd, BoxAt X cd w2) ∧
      (((ownX (g.progs i) g.nw 4096 t).1 = true ∧ g2 = G (f.finish (.tuple #[])) fs ∧ Xo = none) ∨
       ((ownX (g.progs i) g.nw 4096 t).1 = false ∧ ∃ (X own' n : Nat) (u' : Nat → Value) (cd : Cd), Xo = some X ∧ (ownX (g.progs i) g.nw 4096 t).2.pc = n ∧ (g.progs i)[n]? = some cd ∧ isStepX g.nw cd = true ∧ BoxAt X cd w2 ∧ g2 = G (Frame.enter Try.prog 139 #[.pointer (some ⟨S.p i, 0, none⟩)] .normal) (fr41s (g.W i) X (.iface 161 (.pointer (some ⟨S.p i, 0, none⟩))) own' n u' :: f :: fs))) := by
    rcases hS with ⟨h1, h2⟩ | ⟨h1, X, own', n, u', cd, e1, e2, e3, e4, e5, _, e7, e8⟩
    · exact ⟨none, (fun X h => (by cases h)), .inl ⟨h1, h2, rfl⟩⟩
    · exact ⟨some X, (fun X' h => (by cases h; exact ⟨e4, e5, cd, e7⟩)), .inr ⟨h1, X, own', n, u', cd, rfl, e1, e2, e3, e7, e8⟩⟩
  clear hS
  generalize ht' : (ownX (g.progs i) g.nw 4096 t).2 = t' at *
  have htl : t'.told.length ≤ t.told.length + 4096 := ht' ▸ ownX_told _ _ _ _
  have hXt : ∀ X, Xo = some X → (Value.slice ta' t'.told.length tc').ownBlock ≠ some X := fun X hX e => by
    obtain ⟨_, _, cd, hb⟩ := hXo X hX
    rcases h'.row.2 with ⟨hv, _⟩ | ⟨gg, cap, cur, hv, _, hh, _⟩
    · rw [hv] at e; simp [Value.ownBlock] at e
    · rw [hv] at e
      simp only [Value.ownBlock, Option.some.injEq] at e
      subst e
      rw [hb] at hh
      cases hh
  have hs2 : w.heap.size ≤ w2.heap.size := Nat.le_trans hsz R.size
  let κ' : Nat → Option CR := fun b => if Xo = some b then some (.bx i) else if (Value.slice ta' t'.told.length tc').ownBlock = some b then some (.td i) else κ b
  have hkeep : ∀ b r, κ b = some r → κ' b = some r := fun b r h => by
    have hb := (P.lt b r h).2
    have h1 : Xo ≠ some b := fun e => by have := (hXo b e).1; omega
    show (if Xo = some b then some (.bx i) else if (Value.slice ta' t'.told.length tc').ownBlock = some b then some (.td i) else κ b) = some r
    rw [if_neg h1]
    by_cases h2 : (Value.slice ta' t'.told.length tc').ownBlock = some b
    · rw [if_pos h2]
      rcases g' b h2 with h3 | h3
      · rw [hT b h3] at h; exact h
      · omega
    · rw [if_neg h2]; exact h
  have hbk : ∀ b r, κ b = some r → r ≠ .wk i → r ≠ .ws → r ≠ .td i → w2.heap[b]? = w.heap[b]? := fun b r h h1 h2 h3 =>
    (R.same b (Nat.lt_of_lt_of_le (P.lt b r h).2 hsz) (P.two h hW h1) (fun e => P.two h (hT b e) h3 rfl)).trans (hsame b (P.lt b r h).2 (P.two h hW h1) (P.two h P.rS h2))
  have hsw : w2.heap[g.sw]? = w1.heap[g.sw]? := R.same _ (Nat.lt_of_lt_of_le (P.lt _ _ P.rS).2 hsz) (P.two P.rS hW (by simp)) (fun e => P.two P.rS (hT _ e) (by simp) rfl)
  have hinv : ∀ (own' n : Nat) (u' : Nat → Value) (l : List Frame), (∀ X, Xo = some X → ∃ cd, t'.pc = n ∧ (g.progs i)[n]? = some cd ∧ isStepX g.nw cd = true ∧ BoxAt X cd w2 ∧ l = [fr41s (g.W i) X (.iface 161 (.pointer (some ⟨S.p i, 0, none⟩))) own' n u']) → ((ownX (g.progs i) g.nw 4096 t).1 = false → ∃ X, Xo = some X) →
      invP g S k' o (settle g { x with words := words', cnt := cnt' } i t) (upd cs i l) w2 := by
    intro own' n u' l hX hX2
    refine ⟨κ', upd tas i ta', upd tcs i tc', upd Xs i (Xo.getD 0), upd os i own', upd us i u', ?_⟩
    have hth : (settle g { x with words := words', cnt := cnt' } i t).th = upd x.th i t' := by simp only [settle, ht']
    refine ⟨fun b r h => ?_, P.n, fun j hj => ?_, ?_, fun j hj => hkeep _ _ (P.rW j hj), hkeep _ _ P.rS, fun j hj b hb => ?_, fun j hj b e => hkeep _ _ (P.rC j hj b e), fun j hj => (P.codes j hj).same fun cb e => hbk cb _ (P.rC j hj cb e) (by simp) (by simp) (by simp), hkeep _ _ P.rB, fun j hj => ?_, fun s so e h => hkeep _ _ (P.rN s so e h), fun j z hz => ?_, P.F, fun j hj => ?_, P.len, fun j hj hjn hout => ?_, fun j hj hjn => ?_, hkn, fun b ob e => ⟨hkeep _ _ (P.rr b ob e).1, (hbk b _ (P.rr b ob e).1 (by simp) (by simp) (by simp)).trans (P.rr b ob e).2⟩⟩
    · have h : (if Xo = some b then some (CR.bx i) else if (Value.slice ta' t'.told.length tc').ownBlock = some b then some (.td i) else κ b) = some r := h
      by_cases h1 : Xo = some b
      · have := hXo b h1
        exact ⟨hfr b (by omega), this.2.1⟩
      · rw [if_neg h1] at h
        by_cases h2 : (Value.slice ta' t'.told.length tc').ownBlock = some b
        · have hb2 := (h'.row.lt b h2).2
          rcases g' b h2 with h3 | h3
          · exact ⟨(P.lt _ _ (hT b h3)).1, hb2⟩
          · exact ⟨hfr b (by omega), hb2⟩
        · rw [if_neg h2] at h
          have := P.lt b r h
          exact ⟨this.1, by omega⟩
    · rw [hth]
      by_cases e : j = i
      · subst e; simp only [upd_same]; exact h'
      · simp only [upd_ne _ _ e]
        have hj0 := P.wk j hj
        have e1 : (CR.wk j) ≠ .wk i := fun h => e (by cases h; rfl)
        refine ⟨(hbk _ _ (P.rW j hj) e1 (by simp) (by simp)).trans hj0.blk, row_same hj0.row fun b hb => hbk b _ (P.rT j hj b hb) (by simp) (by simp) (fun h => e (by cases h; rfl)), hj0.own⟩
    · obtain ⟨arr, ha, hb⟩ := hws
      exact ⟨arr, hsw.trans ha, hb⟩
    · rw [hth] at hb
      by_cases e : j = i
      · subst e
        simp only [upd_same] at hb
        show (if Xo = some b then some (CR.bx j) else if (Value.slice ta' t'.told.length tc').ownBlock = some b then some (.td j) else κ b) = some (.td j)
        rw [if_neg (fun h => hXt b h hb), if_pos hb]
      · simp only [upd_ne _ _ e] at hb
        exact hkeep _ _ (P.rT j hj b hb)
    · exact (World.cell?_of_block (a := ⟨S.tb, j, none⟩) (hbk _ _ P.rB (by simp) (by simp) (by simp))).trans (P.tb j hj)
    · obtain ⟨s, so, e, hc⟩ := P.sch j z hz
      exact ⟨s, so, e, (World.cell?_of_block (a := ⟨s, so + j, none⟩) (hbk _ _ (P.rN s so e (by have := (List.getElem?_eq_some_iff.1 hz).1; omega)) (by simp) (by simp) (by simp))).trans hc⟩
    · rw [hth]
      show (upd x.th i t' j).told.length ≤ 4096 * (cnt' + 1)
      by_cases e : j = i
      · subst e; rw [upd_same]; omega
      · rw [upd_ne _ _ e]
        have := P.told j hj
        have : 4096 * (x.cnt + 1) ≤ 4096 * (cnt' + 1) := Nat.mul_le_mul_left _ (by omega)
        omega
    · rw [hth]
      by_cases e : j = i
      · subst e
        simp only [upd_same]
        have hf : (ownX (g.progs j) g.nw 4096 t).1 = false := by
          have : upd x.out j (if (ownX (g.progs j) g.nw 4096 t).1 then some false else none) j = none := hout
          rw [upd_same] at this
          revert this
          cases (ownX (g.progs j) g.nw 4096 t).1 <;> simp
        obtain ⟨X, hXX⟩ := hX2 hf
        obtain ⟨cd, e1, e2, e3, e4, e5⟩ := hX X hXX
        refine ⟨cd, n, e1, e2, e3, ?_, ?_, ?_⟩
        · rw [hXX]
          show (if Xo = some X then some (CR.bx j) else _) = _
          rw [if_pos hXX]
        · rw [hXX]; exact e4
        · rw [hXX]; exact e5
      · simp only [upd_ne _ _ e]
        have hout' : x.out j = none := by
          have : upd x.out i (if (ownX (g.progs i) g.nw 4096 t).1 then some false else none) j = none := hout
          rwa [upd_ne _ _ e] at this
        obtain ⟨cd, m, e1, e2, e3, e4, e5, e6⟩ := P.stands j (hkk j hj e) hjn hout'
        exact ⟨cd, m, e1, e2, e3, hkeep _ _ e4, (hbk _ _ e4 (by simp) (by simp) (by simp)).trans e5, e6⟩
    · rw [hth]
      have e : j ≠ i := by omega
      rw [upd_ne _ _ e]
      exact P.fresh j (by omega) hjn
  refine ⟨hs2, fun b r hb => ?_, ?_⟩
  · have hbo : ∀ b' r', κ b' = some r' → b ≠ b' := fun b' r' h e => by rw [e, (P.lt _ _ h).1] at hb; cases hb
    have hbl := hlt b r hb
    exact (R.same b (by omega) (hbo _ _ hW) (fun e => hbo b _ (hT b e) rfl)).trans (hsame b hbl (hbo _ _ hW) (hbo _ _ P.rS))
  · rcases hSX with ⟨h1, rfl, rfl⟩ | ⟨h1, X, own', n, u', cd, rfl, e1, e2, e3, e7, rfl⟩
    · refine ⟨[], hinv 0 0 (fun _ => undef) [] (fun X h => (by cases h)) (fun h => (by rw [h1] at h; cases h)), .inr (.inl ⟨?_, rfl⟩)⟩
      show upd x.out i (if (ownX (g.progs i) g.nw 4096 t).1 then some false else none) i = some false
      rw [upd_same, h1]; rfl
    · refine ⟨[fr41s (g.W i) X (.iface 161 (.pointer (some ⟨S.p i, 0, none⟩))) own' n u'], hinv own' n u' _ (fun X' h => (by cases h; exact ⟨cd, e1, e2, e3, e7, rfl⟩)) (fun _ => ⟨X, rfl⟩), .inl ⟨?_, rfl⟩⟩
      show upd x.out i (if (ownX (g.progs i) g.nw 4096 t).1 then some false else none) i = none
      rw [upd_same, h1]; rfl
end
end
section
theorem reachX_told (c : Cd) (words : Nat → Int) (t : Th) : (reachX c words t).2.told = t.told := by
  unfold reachX
  repeat' split
  all_goals rfl
section
variable {g : PG} {S : Stile} {k : Nat} {o o' : Nat → Option Role} {x : PX} {cs : Nat → List Frame} {w w' : World}
theorem invP_keep (h : invP g S k o x cs w) (K : Keeps o o' w w') : invP g S k o' x cs w' := by
  obtain ⟨κ, tas, tcs, Xs, os, us, P⟩ := h
  have hb : ∀ b r, κ b = some r → w'.heap[b]? = w.heap[b]? := fun b r h => (K.same b (P.lt b r h).2 (P.lt b r h).1).2
  refine ⟨κ, tas, tcs, Xs, os, us, ⟨fun b r h => ⟨(K.same b (P.lt b r h).2 (P.lt b r h).1).1, Nat.lt_of_lt_of_le (P.lt b r h).2 K.size⟩, P.n, fun i hi => ?_, ?_, P.rW, P.rS, P.rT, P.rC, fun i hi => (P.codes i hi).same fun cb e => hb cb _ (P.rC i hi cb e), P.rB, fun i hi => ?_, P.rN, fun j z hz => ?_, P.F, P.told, P.len, fun i hi hin hout => ?_, P.fresh, P.kn, fun b ob e => ⟨(P.rr b ob e).1, (hb b _ (P.rr b ob e).1).trans (P.rr b ob e).2⟩⟩⟩
  · have h := P.wk i hi
    exact ⟨(hb _ _ (P.rW i hi)).trans h.blk, row_same h.row fun b e => hb b _ (P.rT i hi b e), h.own⟩
  · obtain ⟨arr, ha, hr⟩ := P.ws
    exact ⟨arr, (hb _ _ P.rS).trans ha, hr⟩
  · exact (World.cell?_of_block (a := ⟨S.tb, i, none⟩) (hb _ _ P.rB)).trans (P.tb i hi)
  · obtain ⟨s, so, e, hc⟩ := P.sch j z hz
    exact ⟨s, so, e, (World.cell?_of_block (a := ⟨s, so + j, none⟩) (hb _ _ (P.rN s so e (by have := (List.getElem?_eq_some_iff.1 hz).1; omega)))).trans hc⟩
  · obtain ⟨cd, m, e1, e2, e3, e4, e5, e6⟩ := P.stands i hi hin hout
    exact ⟨cd, m, e1, e2, e3, e4, (hb _ _ e4).trans e5, e6⟩
theorem plain41 (W X : Nat) (v : Value) (own : Nat) (next : Int) (u : Nat → Value) : Plain (fr41s W X v own next u) := ⟨rfl, rfl, Try.f41, Try.func41⟩
theorem startP {V : Nat → Option Wait} (f : Frame) (fs : List Frame) (h : invP g S k o x cs w) (hk : k < S.n) (hc : x.cnt < 1048576) (hA : ∀ b, o b = none → Apart V b) (hlt : ∀ b r, o b = some r → b < w.heap.size) :
    ∃ fi fn first cap, S.F k = .func (.func fi) first cap ∧ Try.prog.funcs[fi]? = some fn ∧ (fn.name == "runtime.NumGoroutine") = false ∧ fn.body.isNone = false ∧
      Walk Try.prog false (DR V) (Fin (invP g S) PX.out S (k + 1) o (bornP g x k) cs k f fs w) (G (Frame.enter Try.prog fi (first ++ #[.iface 161 (.pointer (some ⟨S.p k, 0, none⟩))] ++ cap) .normal) (f :: fs)) w := by
  obtain ⟨κ, tas, tcs, Xs, os, us, P⟩ := h
  have hi : k < g.n := P.n ▸ hk
  refine ⟨41, Try.f41, #[.pointer (some ⟨g.W k, 0, none⟩)], #[], P.F k hi, Try.func41, by decide, by rfl, ?_⟩
  have hth := P.fresh k (Nat.le_refl _) hi
  have harr : (#[.pointer (some ⟨g.W k, 0, none⟩)] ++ #[.iface 161 (.pointer (some ⟨S.p k, 0, none⟩))] ++ #[] : Array Value) = #[.pointer (some ⟨g.W k, 0, none⟩), .iface 161 (.pointer (some ⟨S.p k, 0, none⟩))] := rfl
  rw [harr]
  refine (walk_enters (g.W k) _ (f :: fs) w).then ?_
  rintro g1 w1 ⟨rfl, d, rfl⟩
  refine Walk.back ?_ d
  have hs := settle_walk (V := V) (k' := k + 1) (i := k) (cnt' := x.cnt) (words' := x.words) (t := x.th k) (w1 := w) P hi (Nat.lt_succ_self _) (fun j h1 h2 => by omega) (Nat.le_succ _) hi (Nat.le_refl _) (fun b _ _ _ => rfl) (P.wk k hi) P.ws rfl (Nat.le_refl _) (by omega) (by rw [hth]; simp [th0]; omega) hA hlt f fs (fun _ => undef)
  have hpc : (x.th k).pc = 0 := by rw [hth]; rfl
  rw [hpc] at hs
  exact hs
theorem goP {V : Nat → Option Wait} {i : Nat} {c : Frame} {l : List Frame} (f : Frame) (fs : List Frame) (h : invP g S k o x cs w) (hik : i < k) (hout : x.out i = none) (hcs : cs i = c :: l) (hc : x.cnt < 1048576) (hA : ∀ b, o b = none → Apart V b) (hlt : ∀ b r, o b = some r → b < w.heap.size) :
    Walk Try.prog false (DR V) (Fin (invP g S) PX.out S k o (nextP g x i) cs i f fs w) (G (c.finish (.tuple #[])) (l ++ f :: fs)) w := by
  obtain ⟨κ, tas, tcs, Xs, os, us, P⟩ := h
  have hi : i < g.n := Nat.lt_of_lt_of_le hik P.kn
  obtain ⟨cd, m, e1, e2, e3, e4, e5, e6⟩ := P.stands i hik hi hout
  rw [e6] at hcs
  cases hcs
  have hml : m < (g.progs i).length := (List.getElem?_eq_some_iff.1 e2).1
  have hca : codeAt (g.progs i) (x.th i).pc = some cd := by
    unfold codeAt
    rw [e1, if_neg (by omega)]
    simpa using e2
  have hB : Both (g.W i) g.sw g.nw g.sv (g.cv i) x.words (x.th i) (tas i) (tcs i) w := ⟨P.wk i hi, P.ws, P.two P.rS (P.rW i hi) (by simp), fun e => P.two P.rS (P.rT i hi _ e) (by simp) rfl⟩
  have hWo := (P.lt _ _ (P.rW i hi)).1
  have hSo := (P.lt _ _ P.rS).1
  obtain ⟨w1, hcall, hB1, hO⟩ := reach_any (main := false) (V := V) cd g.wcap rfl hB e3 (fun j => (hA _ hWo).1 _ rfl) (fun j => (hA _ hSo).1 _ rfl)
  rw [List.nil_append]
  refine (walk_did (g.W i) (Xs i) _ (os i) m cd.d cd.r cd.a cd.b cd.v (us i) (f :: fs) w w1 (by have := P.len i hi; omega) e5.cells hcall).then ?_
  rintro g1 w2 ⟨⟨u', rfl⟩, d, rfl⟩
  refine Walk.back ?_ d
  have htold := reachX_told cd x.words (x.th i)
  have hs := settle_walk (V := V) (k' := k) (i := i) (cnt' := x.cnt + 1) (words' := (reachX cd x.words (x.th i)).1) (t := { (reachX cd x.words (x.th i)).2 with pc := (x.th i).pc + 1 }) (w1 := w1) P hi hik (fun j h1 _ => h1) (Nat.le_refl _) P.kn hO.size (fun b hb h1 h2 => hO.same b hb h1 h2)
    ⟨hB1.wk.blk, hB1.wk.row, hB1.wk.own⟩ hB1.ws htold (Nat.le_succ _) (by omega) (by
      have := P.told i hi
      show (reachX cd x.words (x.th i)).2.told.length + 4096 ≤ _
      rw [htold]; omega) hA hlt f fs u'
  have hpc : (({ (reachX cd x.words (x.th i)).2 with pc := (x.th i).pc + 1 } : Th)).pc = ((m + 1 : Nat) : Int) := by
    show (x.th i).pc + 1 = _
    rw [e1]; omega
  rw [hpc] at hs
  have hn : nextP g x i = settle g { x with words := (reachX cd x.words (x.th i)).1, cnt := x.cnt + 1 } i { (reachX cd x.words (x.th i)).2 with pc := (x.th i).pc + 1 } := by
    unfold nextP
    rw [hca]
  rw [hn]
  exact hs
end
noncomputable def crewP (g : PG) (S : Stile) : Crew S PX where
  inv := invP g S
  born := bornP g
  next := nextP g
  out := PX.out
  cnt := PX.cnt
  cntBorn := fun _ _ => rfl
  cntNext := fun x i => by unfold nextP; cases codeAt (g.progs i) (x.th i).pc <;> rfl
  keep := invP_keep
  bornOut := fun x i j h => upd_ne _ _ h
  nextOut := fun x i j h => by
    unfold nextP
    cases codeAt (g.progs i) (x.th i).pc with
    | none => rfl
    | some c => exact upd_ne _ _ h
  shape := fun {k o x cs w i} h hik hout => by
    obtain ⟨κ, tas, tcs, Xs, os, us, P⟩ := h
    obtain ⟨cd, m, e1, e2, e3, e4, e5, e6⟩ := P.stands i hik (Nat.lt_of_lt_of_le hik P.kn) hout
    refine ⟨⟨_, [], e6⟩, fun f hf => ?_⟩
    rw [e6] at hf
    rw [List.mem_singleton.1 hf]
    exact plain41 _ _ _ _ _ _
  thr := fun {k o x cs w i} h _ hi => by
    obtain ⟨κ, tas, tcs, Xs, os, us, P⟩ := h
    exact P.tb i (P.n ▸ hi)
  sch := fun {k o x cs w j z} h hz => by
    obtain ⟨κ, tas, tcs, Xs, os, us, P⟩ := h
    exact P.sch j z hz
  start := fun f fs h hk hc hA hlt => .inl (startP f fs h hk hc hA hlt)
  go := fun f fs h hik hout hcs hc hA hlt => goP f fs h hik hout hcs hc hA hlt
end
section
def givenP (l : List (Option Addr × Nat × Nat)) (Ws : List Nat) (tb : Nat) (most : Int) (sa : Option Addr) (sc : Nat) (sl : List Int) : Given where
  g0 := 0
  n := l.length
  tb := tb
  tcap := l.length
  most := most
  F := thF fun i => Ws.getD i 0
  sa := sa
  sc := sc
  sl := sl
def pgP (l : List (Option Addr × Nat × Nat)) (progs : List (List Cd)) (Ws : List Nat) (sw nw : Nat) (ro : Nat → Option Obj) : PG where
  n := l.length
  nw := nw
  sw := sw
  wcap := nw
  W := fun i => Ws.getD i 0
  ca := fun i => (l.getD i (none, 0, 0)).1
  ccap := fun i => (l.getD i (none, 0, 0)).2.2
  progs := fun i => progs.getD i []
  ro := ro
def px0 (ws : List Int) : PX := ⟨fun j => ws.getD j 0, fun _ => th0, fun _ => none, 0⟩
theorem getD_of {α : Type} {l : List α} {i : Nat} {x d : α} (h : l[i]? = some x) : l.getD i d = x := by rw [List.getD_eq_getElem?_getD, h, Option.getD_some]
open Classical in
theorem init_inv (l : List (Option Addr × Nat × Nat)) (progs : List (List Cd)) (ws : List Int) (most : Int) (sa : Option Addr) (sc : Nat) (sl : List Int) {w w1 w2 w3 : World} {sw wb wc : Nat} {Ws : List Nat} (h1 : w.heap.size < sw) (ho : Old w w1) (h2 : sw < w1.heap.size) (hws : WsIs sw ws.length (fun j => ws.getD j 0) w1)
    (M : Made sw ws.length l w1 w2 (some ⟨wb, 0, none⟩) wc l.length Ws) (L : Laid w2 w3 67 l.length l.length (thF fun i => Ws.getD i 0)) (hpl : ∀ (i : Nat) (p : Option Addr × Nat × Nat) (c : List Cd), l[i]? = some p → progs[i]? = some c → p.2.1 = c.length ∧ CodesAt p.1 c w ∧ c.length < 4611686018427387904 ∧ ∀ b, p.1 = some ⟨b, 0, none⟩ → b < w.heap.size)
    (hlen : progs.length = l.length) (hsc : IntsAt sa sl w) (ro : Nat → Option Obj) (hro : ∀ b ob, ro b = some ob → (b ≤ w.heap.size ∨ b = wb) ∧ w3.heap[b]? = some ob) (g0 sb scap : Nat) (B : Nat) (sts : List (Nat × Nat × Nat)) :
    invP (pgP l progs Ws sw ws.length ro) (stile ((givenP l Ws w2.heap.size most sa sc sl).at g0) B sb scap sts) 0 (fun _ => none) (px0 ws) (fun _ => []) w3 := by
  have hW : ∀ i, i < l.length → ∃ W, Ws[i]? = some W ∧ Ws.getD i 0 = W ∧ w1.heap.size ≤ W ∧ W < w2.heap.size ∧ ∀ p, l[i]? = some p → w2.heap[W]? = some (.cells (wkCells sw ws.length p.1 p.2.1 p.2.2) 156) := fun i hi => by
    have hil : i < Ws.length := by have := M.len; omega
    obtain ⟨W, hx⟩ : ∃ W, Ws[i]? = some W := ⟨_, List.getElem?_eq_getElem hil⟩
    have hm := M.lo W (List.mem_of_getElem? hx)
    exact ⟨W, hx, getD_of hx, hm.1, hm.2, fun p hp => M.at_ i W p hx hp⟩
  have hwb : w1.heap.size ≤ wb ∧ wb < w2.heap.size := M.row.lt wb rfl
  have hwbW : ∀ i, i < l.length → wb ≠ Ws.getD i 0 := fun i hi e => by
    obtain ⟨W, e1, e2, _, _, h⟩ := hW i hi
    have hc := h _ (List.getElem?_eq_getElem hi)
    rcases M.row.2 with ⟨hv, _⟩ | ⟨gg, cc, cur, hv, _, hh, _⟩
    · cases hv
    · cases hv
      rw [e, e2, hc] at hh
      cases hh
  have hinj : ∀ i j, i < l.length → j < l.length → Ws.getD i 0 = Ws.getD j 0 → i = j := fun i j hi hj e => by
    obtain ⟨W, e1, e2, _⟩ := hW i hi
    obtain ⟨W', e1', e2', _⟩ := hW j hj
    rw [e2, e2'] at e
    subst e
    obtain ⟨a1, a2⟩ := List.getElem?_eq_some_iff.1 e1
    obtain ⟨b1, b2⟩ := List.getElem?_eq_some_iff.1 e1'
    exact (List.getElem_inj M.nodup).1 (a2.trans b2.symm)
  let κ : Nat → Option CR := fun b => if h : ∃ i, i < l.length ∧ b = Ws.getD i 0 then some (.wk h.choose) else if b = sw then some .ws else if b ≤ w.heap.size ∨ b = wb ∨ b = w2.heap.size then some .ro else none
  have kW : ∀ i, i < l.length → κ (Ws.getD i 0) = some (.wk i) := fun i hi => by
    have h : ∃ j, j < l.length ∧ Ws.getD i 0 = Ws.getD j 0 := ⟨i, hi, rfl⟩
    show (if h : ∃ j, j < l.length ∧ Ws.getD i 0 = Ws.getD j 0 then some (CR.wk h.choose) else _) = _
    rw [dif_pos h, ← hinj i _ hi h.choose_spec.1 h.choose_spec.2]
  have kn : ∀ b, (b < w1.heap.size ∨ b = wb ∨ b = w2.heap.size) → ¬ ∃ i, i < l.length ∧ b = Ws.getD i 0 := fun b hb ⟨i, hi, e⟩ => by
    obtain ⟨W, e1, e2, h3, h4, _⟩ := hW i hi
    rcases hb with hb | hb | hb
    · omega
    · exact hwbW i hi (hb ▸ e)
    · omega
  have kS : κ sw = some .ws := by
    show (if h : ∃ i, i < l.length ∧ sw = Ws.getD i 0 then some (CR.wk h.choose) else if sw = sw then some .ws else _) = _
    rw [dif_neg (kn sw (.inl h2)), if_pos rfl]
  have hs12 : w1.heap.size ≤ w2.heap.size := M.old.size
  have kR : ∀ b, (b ≤ w.heap.size ∨ b = wb ∨ b = w2.heap.size) → κ b = some .ro := fun b hb => by
    show (if h : ∃ i, i < l.length ∧ b = Ws.getD i 0 then some (CR.wk h.choose) else if b = sw then some .ws else if b ≤ w.heap.size ∨ b = wb ∨ b = w2.heap.size then some .ro else none) = _
    rw [dif_neg (kn b (by rcases hb with h | h | h; exact .inl (by omega); exact .inr (.inl h); exact .inr (.inr h))), if_neg (by omega), if_pos hb]
  have old3 : ∀ b, b < w.heap.size → w3.heap[b]? = w.heap[b]? := fun b hb => (L.old.same b (by have := ho.size; omega)).trans ((M.old.same b (by have := ho.size; omega)).trans (ho.same b hb))
  have hsb : ∀ s so, sa = some ⟨s, so, none⟩ → 0 < sl.length → s < w.heap.size := fun s so e h0 => by
    obtain ⟨s', so', e', hc⟩ := hsc 0 _ (List.getElem?_eq_getElem h0)
    rw [e] at e'
    cases e'
    exact cell_lt w hc
  have hcell : ∀ i, i < l.length → ∃ p c, l[i]? = some p ∧ progs[i]? = some c := fun i hi => ⟨_, _, List.getElem?_eq_getElem hi, List.getElem?_eq_getElem (by omega)⟩
  refine ⟨κ, fun _ => none, fun _ => 0, fun _ => 0, fun _ => 0, fun _ _ => undef, ⟨fun b r h => ?_, rfl, fun i hi => ?_, ?_, kW, kS, fun i hi b h => by simp [Value.ownBlock, px0, th0] at h, fun i hi b e => ?_, fun i hi => ?_, kR _ (.inr (.inr rfl)), fun i hi => ?_, fun s so e h0 => kR s (.inl (Nat.le_of_lt (hsb s so e h0))), fun j z hz => ?_, fun i hi => rfl, fun i hi => Nat.zero_le _, fun i hi => ?_, fun i hi => absurd hi (Nat.not_lt_zero _), fun _ _ _ => rfl, Nat.zero_le _, fun b ob e => ?_⟩⟩
  · refine ⟨rfl, ?_⟩
    have hl3 := L.lt
    have h : (if h : ∃ i, i < l.length ∧ b = Ws.getD i 0 then some (CR.wk h.choose) else if b = sw then some .ws else if b ≤ w.heap.size ∨ b = wb ∨ b = w2.heap.size then some .ro else none) = some r := h
    by_cases c1 : ∃ i, i < l.length ∧ b = Ws.getD i 0
    · obtain ⟨i, hi, e⟩ := c1
      obtain ⟨W, e1, e2, h3, h4, _⟩ := hW i hi
      omega
    · rw [dif_neg c1] at h
      by_cases c2 : b = sw
      · omega
      · rw [if_neg c2] at h
        by_cases c3 : b ≤ w.heap.size ∨ b = wb ∨ b = w2.heap.size
        · rcases c3 with c | c | c <;> omega
        · rw [if_neg c3] at h; cases h
  · obtain ⟨p, c, e1, e2⟩ := hcell i hi
    obtain ⟨W, f1, f2, f3, f4, f5⟩ := hW i hi
    have h5 := f5 p e1
    obtain ⟨q1, q2, q3, q4⟩ := hpl i p c e1 e2
    refine ⟨?_, World.ownsRow_nil .., by simp [Value.ownBlock, px0, th0]⟩
    show w3.heap[Ws.getD i 0]? = _
    rw [f2, L.old.same W f4, h5]
    simp only [pgP, PG.sv, PG.cv, px0, th0, wkArr, wkCells, getD_of e1, getD_of e2, q1, List.length_nil]
  · obtain ⟨arr, ha, hb⟩ := hws
    exact ⟨arr, (L.old.same sw (by omega)).trans ((M.old.same sw h2).trans ha), hb⟩
  · obtain ⟨p, c, e1, e2⟩ := hcell i hi
    have e : (l.getD i (none, 0, 0)).1 = some ⟨b, 0, none⟩ := e
    rw [getD_of e1] at e
    exact kR b (.inl (Nat.le_of_lt ((hpl i p c e1 e2).2.2.2 b e)))
  · obtain ⟨p, c, e1, e2⟩ := hcell i hi
    obtain ⟨q1, q2, q3, q4⟩ := hpl i p c e1 e2
    show CodesAt (l.getD i (none, 0, 0)).1 (progs.getD i []) w3
    rw [getD_of e1, getD_of e2]
    exact q2.same fun cb e => old3 cb (q4 cb e)
  · obtain ⟨arr, ha, _, hb⟩ := L.row
    exact (cell_of ha i).trans (hb i hi)
  · obtain ⟨s, so, e, hc⟩ := hsc j z hz
    exact ⟨s, so, e, (World.cell?_of_block (a := ⟨s, so + j, none⟩) (old3 s (cell_lt w hc))).trans hc⟩
  · obtain ⟨p, c, e1, e2⟩ := hcell i hi
    show (progs.getD i []).length < _
    rw [getD_of e2]
    exact (hpl i p c e1 e2).2.2.1
  · obtain ⟨h, hh⟩ := hro b ob e
    exact ⟨kR b (by rcases h with h | h; exact .inl h; exact .inr (.inl h)), hh⟩
end
structure Played (l : List (Option Addr × Nat × Nat)) (progs : List (List Cd)) (ws : List Int) (most : Int) (sl : List Int) (w : World) (cells : Array Value) (w' : World) : Prop where
  all : ∃ (S : Stile) (g : PG) (x : PX) (ord : List Nat) (oa : Option Addr) (oc a s : Nat) (tas : Nat → Option Addr) (tcs : Nat → Nat),
    S.n = l.length ∧ S.most = min (max most 0) 1048576 ∧ g.n = l.length ∧ g.nw = ws.length ∧ (∀ i, g.progs i = progs.getD i []) ∧
    (x, ord) = followX (crewP g S) (bornAll (crewP g S) l.length 0 (px0 ws), []) sl ∧
    cells = #[.slice (some ⟨a, 0, none⟩) l.length l.length, .slice oa ord.length oc, .slice (some ⟨s, 0, none⟩) ws.length ws.length, .bool (decide (0 < goingX (crewP g S) x))] ∧
    w'.ownsRow w.heap.size 3 1 (.slice oa ord.length oc) ord.length (ord.map fun i => .int .i64 (i : Nat)) ∧
    (∀ j, j < ws.length → w'.cell? ⟨s, j, none⟩ = some (.int .i64 (x.words j))) ∧
    (∀ i, i < l.length → w'.cell? ⟨a, i, none⟩ = some (.slice (tas i) (x.th i).told.length (tcs i)) ∧ w'.ownsRow w.heap.size 38 3 (.slice (tas i) (x.th i).told.length (tcs i)) (x.th i).told.length (ansCells (x.th i).told)) ∧
    w.heap.size ≤ a ∧ w.heap.size ≤ s ∧ (0 < l.length → ∃ arr : Array Value, w'.heap[a]? = some (.cells arr 36 (0, 0))) ∧ (∃ arr : Array Value, w'.heap[s]? = some (.cells arr 2 (0, 0)) ∧ ws.length ≤ arr.size) ∧ (∀ i j b, i < l.length → j < l.length → (Value.slice (tas i) (x.th i).told.length (tcs i)).ownBlock = some b → (Value.slice (tas j) (x.th j).told.length (tcs j)).ownBlock = some b → i = j)
  old : Old w w'
theorem setRow_other (w : World) (g k : Nat) (cs : Array Value) (h : k ≠ g) : (w.setRow g cs).heap[k]? = w.heap[k]? := by
  simp only [World.setRow]
  rw [Array.getElem?_modify, if_neg (Ne.symm h)]
theorem setRow_self (w : World) (g : Nat) (cs old : Array Value) {t : TypeId} (h : w.heap[g]? = some (.cells old t (0, 0))) : (w.setRow g cs).heap[g]? = some (.cells cs t (0, 0)) := by
  simp only [World.setRow]
  rw [Array.getElem?_modify, if_pos rfl, h]
  rfl
theorem row_zero {w : World} {base : Nat} {e : TypeId} {size : Nat} {v : Value} {n : Nat} {xs : List Value} (h : w.ownsRow base e size v n xs) : w.ownsRow 0 e size v n xs := by
  refine ⟨h.1, ?_⟩
  rcases h.2 with z | ⟨g, cap, cur, h1, _, h3⟩
  · exact .inl z
  · exact .inr ⟨g, cap, cur, h1, Nat.zero_le _, h3⟩
theorem row_raise {w : World} {base base' : Nat} {e : TypeId} {size : Nat} {v : Value} {n : Nat} {xs : List Value} (h : w.ownsRow base e size v n xs) (hb : ∀ g, v.ownBlock = some g → base' ≤ g) : w.ownsRow base' e size v n xs := by
  refine ⟨h.1, ?_⟩
  rcases h.2 with z | ⟨g, cap, cur, h0, h1, h2⟩
  · exact .inl z
  · exact .inr ⟨g, cap, cur, h0, hb g (by rw [h0]; rfl), h2⟩
section
open Classical in
theorem play_run (wa : Option Addr) (cap fb fc np : Nat) (sa : Option Addr) (sc : Nat) (most : Int) (ws : List Int) (l : List (Option Addr × Nat × Nat)) (progs : List (List Cd)) (sl : List Int) (w : World) (hws : ws.length ≤ 17592186044416) (hsl : sl.length ≤ 17592186044416) (hl1 : 1 ≤ l.length) (hl64 : l.length ≤ 64) (hw : IntsAt wa ws w) (hsc : IntsAt sa sl w)
    (hp : ∀ w', Old w w' → CallV Try.prog true (fun _ => none) 70 #[.slice (some ⟨fb, 0, none⟩) np fc] w' (.slice (some ⟨fb, 0, none⟩) l.length fc) w') (hl : ∀ j p, l[j]? = some p → w.cell? ⟨fb, j, none⟩ = some (.slice p.1 p.2.1 p.2.2)) (hlen : progs.length = l.length)
    (hpl : ∀ (i : Nat) (p : Option Addr × Nat × Nat) (c : List Cd), l[i]? = some p → progs[i]? = some c → p.2.1 = c.length ∧ CodesAt p.1 c w ∧ c.length < 4611686018427387904 ∧ ∀ b, p.1 = some ⟨b, 0, none⟩ → b < w.heap.size) (c : Frame) (cs : List Frame) :
    Runs (fun g w' => ∃ cells, Played l progs ws most sl w cells w' ∧ g = G (c.finish (.agg cells)) cs) (G (Frame.enter Try.prog 14 #[.slice wa ws.length cap, .slice (some ⟨fb, 0, none⟩) np fc, .slice sa sl.length sc, .int .i64 most] .normal) (c :: cs)) w := by
  have hA : ∀ b, Apart (fun _ => none) b := fun b => ⟨fun _ _ _ _ h => (by cases h), fun _ _ h => (by cases h)⟩
  refine Runs.walk (Stop := fun g w3 => ∃ sw w1 wb wc Ws w2 u, w.heap.size < sw ∧ Old w w1 ∧ sw < w1.heap.size ∧ WsIs sw ws.length (fun j => ws.getD j 0) w1 ∧ Made sw ws.length l w1 w2 (some ⟨wb, 0, none⟩) wc l.length Ws ∧ Laid w2 w3 67 l.length l.length (thF fun i => Ws.getD i 0) ∧
      w1.heap[w.heap.size]? = some (.cells #[.slice none 0 0, .slice none 0 0, .slice none 0 0, .bool false] 28) ∧
      g = G (Frame.enter Try.prog 23 #[.slice (some ⟨w2.heap.size, 0, none⟩) l.length l.length, .slice sa sl.length sc, .int .i64 most] .normal) (fr14 (.slice wa ws.length cap) (.slice (some ⟨fb, 0, none⟩) np fc) (.slice sa sl.length sc) most w.heap.size sw ws.length wb wc w2.heap.size l.length u :: c :: cs))
    (play_top wa cap fb fc _ _ most ws l hws hl64 (c :: cs) w hw hp hl (fun b _ => hA b) (fun sw w1 wb wc Ws w2 u w3 h1 h2 h3 h4 h5 h6 h7 => .stop fun d => ⟨sw, w1, wb, wc, Ws, w2, u, h1, h2, h3, h4, h5, ⟨⟨h6.old.size, h6.old.same⟩, h6.lt, h6.row⟩, h7, rfl⟩) hl1) ?_
  rintro _ w3 ⟨sw, w1, wb, wc, Ws, w2, u, h1, h2, h3, h4, M, L, hT, rfl⟩
  have h12 := h2.size
  have h23 := M.old.size
  have hwb := M.row.lt wb rfl
  let ro : Nat → Option Obj := fun b => if b ≤ w.heap.size ∨ b = wb then w3.heap[b]? else none
  have hro : ∀ b ob, ro b = some ob → (b ≤ w.heap.size ∨ b = wb) ∧ w3.heap[b]? = some ob := fun b ob h => by
    have h : (if b ≤ w.heap.size ∨ b = wb then w3.heap[b]? else none) = some ob := h
    by_cases hb : b ≤ w.heap.size ∨ b = wb
    · rw [if_pos hb] at h; exact ⟨hb, h⟩
    · rw [if_neg hb] at h; cases h
  have hkeep : ∀ b, b ≤ w.heap.size ∨ b = wb → ro b = w3.heap[b]? := fun b hb => if_pos hb
  refine Runs.then (over_run (fun S => crewP (pgP l progs Ws sw ws.length ro) S) (px0 ws) (givenP l Ws w2.heap.size most sa sc sl) (.slice (some ⟨w2.heap.size, 0, none⟩) l.length l.length) w3 hl1 hl64 (Nat.le_trans hsl (by decide)) (fun _ => rfl) (by
      have := first_some (main := true) (V := fun _ => none) w2.heap.size l.length l.length w3 (Nat.le_refl _)
      rw [Nat.min_eq_left hl64] at this
      exact this) (fun g0 sb scap sts => ⟨_, init_inv l progs ws most sa sc sl h1 h2 h3 h4 M L hpl hlen hsc ro hro g0 sb scap w3.heap.size sts⟩) _ (c :: cs)) ?_
  rintro _ w4 ⟨_, ⟨g0, sb, scap, sts, x, ord, oa, oc, q, k, own, csx, hx, hov, rfl, hinv, hrow, _, _, _, hsz, _⟩, rfl⟩
  obtain ⟨κ, tas, tcs, Xs, os, us, P⟩ := hinv
  have hfix : ∀ b, b ≤ w.heap.size ∨ b = wb → b < w3.heap.size → w4.heap[b]? = w3.heap[b]? := fun b hb hlt => by
    have h := P.rr b (w3.heap[b]) (by rw [show (pgP l progs Ws sw ws.length ro).ro = ro from rfl, hkeep b hb]; exact Array.getElem?_eq_getElem hlt)
    rw [h.2]; exact (Array.getElem?_eq_getElem hlt).symm
  have h3s : w2.heap.size ≤ w3.heap.size := L.old.size
  have hlt3 : ∀ b, b < w2.heap.size → b < w3.heap.size := fun b hb => Nat.lt_of_lt_of_le hb h3s
  have hT4 : w4.heap[w.heap.size]? = some (.cells #[.slice none 0 0, .slice none 0 0, .slice none 0 0, .bool false] 28) := (hfix _ (.inl (Nat.le_refl _)) (by omega)).trans ((L.old.same _ (by omega)).trans ((M.old.same _ (by omega)).trans hT))
  have hold4 : ∀ b, b < w.heap.size → w4.heap[b]? = w.heap[b]? := fun b hb => (hfix b (.inl (by omega)) (by omega)).trans ((L.old.same b (by omega)).trans ((M.old.same b (by omega)).trans (h2.same b hb)))
  have hTlt : w.heap.size < w4.heap.size := (Array.getElem?_eq_some_iff.1 hT4).1
  have hTro : κ w.heap.size = some .ro := (P.rr w.heap.size _ (by rw [show (pgP l progs Ws sw ws.length ro).ro = ro from rfl, hkeep _ (.inl (Nat.le_refl _)), ← hfix _ (.inl (Nat.le_refl _)) (by omega)]; exact hT4)).1
  have hwb4 : ∀ j, j < l.length → w4.cell? ⟨wb, j, none⟩ = some (.pointer (some ⟨Ws.getD j 0, 0, none⟩)) := fun j hj => by
    rcases M.row with ⟨_, ⟨_, e⟩ | ⟨gg, cc, cur, e, _, hh, hcap, _, hszc, ht⟩⟩
    · omega
    · cases e
      have hjw : j < Ws.length := by have := M.len; omega
      have e1 : (cur.toList.take (l.length * 1))[j]? = cur[j]? := by rw [List.getElem?_take, if_pos (by omega)]; simp
      rw [cell_of ((hfix wb (.inr rfl) (hlt3 _ hwb.2)).trans ((L.old.same wb hwb.2).trans hh)) j, ← e1, ht, List.getElem?_map, List.getElem?_eq_getElem hjw]
      simp only [Option.map_some]
      rw [List.getD_eq_getElem?_getD, List.getElem?_eq_getElem hjw, Option.getD_some]
  refine Runs.walk (Stop := fun g w' => ∃ cells, Played l progs ws most sl w cells w' ∧ g = G (c.finish (.agg cells)) cs) (play_back _ _ _ most w.heap.size sw ws.length wb wc w2.heap.size l.length u oa ord.length oc w4.heap.size _ _ (fun w5 => Laid w4 w5 36 l.length l.length (fun i => .slice (tas i) (x.th i).told.length (tcs i)))
    (fun s w6 => ∃ w5, Laid w4 w5 36 l.length l.length (fun i => .slice (tas i) (x.th i).told.length (tcs i)) ∧ s = w5.heap.size ∧ Laid w5 w6 2 ws.length ws.length (fun i => .int .i64 (x.words i))) (c :: cs) w4 ?_ ?_ ?_ (hA _) ?_) (fun g w h => Runs.now h)
  · exact told_w wb wc l.length (fun i => Ws.getD i 0) (fun i => (tas i, (x.th i).told.length, tcs i)) (by omega) w4 hwb4 (fun j hj => (P.wk j hj).told) (hA _)
  · intro w5 L5 fr cs'
    obtain ⟨arr, ha, hb⟩ := P.ws
    have hws5 : WsIs sw ws.length x.words w5 := ⟨arr, (L5.old.same sw (Array.getElem?_eq_some_iff.1 ha).1).trans ha, hb⟩
    refine ((values_w (main := true) (V := fun _ => none) sw ws.length x.words hws w5 hws5 (hA _)) fr cs').mono ?_
    rintro g w' ⟨v, ⟨hv, h6⟩, hg⟩
    exact ⟨v, ⟨w5.heap.size, hv, w5, L5, rfl, h6⟩, hg⟩
  · rintro s w6 ⟨w5, L5, rfl, L6⟩
    exact (L6.old.same _ (by have := L5.old.size; omega)).trans ((L5.old.same _ hTlt).trans hT4)
  · rintro fr s w6 ⟨w5, L5, rfl, L6⟩ hf hm hn hd h8
    have hT6 := (L6.old.same _ (by have := L5.old.size; omega)).trans ((L5.old.same _ hTlt).trans hT4)
    have hs5 := L5.old.size
    have hs6 := L6.old.size
    have h6to : ∀ b, b < w4.heap.size → b ≠ w.heap.size → (w6.setRow w.heap.size #[.slice (some ⟨w4.heap.size, 0, none⟩) l.length l.length, .slice oa ord.length oc, .slice (some ⟨w5.heap.size, 0, none⟩) ws.length ws.length, .bool (decide (0 < goingX (crewP (pgP l progs Ws sw ws.length ro) (stile ((givenP l Ws w2.heap.size most sa sc sl).at g0) w3.heap.size sb scap sts)) x))]).heap[b]? = w4.heap[b]? := fun b hb hne =>
      (setRow_other _ _ _ _ hne).trans ((L6.old.same b (by omega)).trans (L5.old.same b hb))
    refine (play_leave hf hm hn hd h8 (setRow_self _ _ _ _ hT6) rfl).mono ?_
    rintro g w7 ⟨rfl, d, rfl⟩
    refine ⟨_, ⟨⟨_, pgP l progs Ws sw ws.length ro, x, ord, oa, oc, w4.heap.size, w5.heap.size, tas, tcs, rfl, rfl, rfl, rfl, fun _ => rfl, hx, rfl, ?_, fun j hj => ?_, fun i hi => ⟨?_, ?_⟩, by omega, by omega, fun _ => by
      obtain ⟨arr, ha, _, _⟩ := L5.row
      exact ⟨arr, (setRow_other _ _ _ _ (by omega)).trans ((L6.old.same _ L5.lt).trans ha)⟩, by
      obtain ⟨arr, ha, hsz, _⟩ := L6.row
      exact ⟨arr, (setRow_other _ _ _ _ (by omega)).trans ha, by omega⟩, fun i j b hi hj h1 h2 => by
      have := P.rT i hi b h1
      rw [P.rT j hj b h2] at this
      cases this; rfl⟩, ?_, fun b hb => ?_⟩, rfl⟩
    · exact row_raise (row_same (row_zero hrow) fun g hg => h6to g (hrow.lt g hg).2 (by have := (hrow.lt g hg).1; omega)) fun g hg => by have := (hrow.lt g hg).1; omega
    · obtain ⟨arr, ha, _, hb⟩ := L6.row
      exact (cell_of ((setRow_other _ _ _ _ (by omega)).trans ha) j).trans (hb j hj)
    · obtain ⟨arr, ha, _, hb⟩ := L5.row
      exact (cell_of ((setRow_other _ _ _ _ (by omega)).trans ((L6.old.same _ L5.lt).trans ha)) i).trans (hb i hi)
    · refine row_raise (row_same (P.wk i hi).row fun g hg => h6to g ((P.wk i hi).row.lt g hg).2 (P.two (P.rT i hi g hg) hTro (by simp))) fun g hg => ?_
      rcases Nat.lt_or_ge g w.heap.size with h | h
      · have h1 := (P.rr g _ (by rw [show (pgP l progs Ws sw ws.length ro).ro = ro from rfl, hkeep g (.inl (by omega))]; exact Array.getElem?_eq_getElem (by omega))).1
        rw [P.rT i hi g hg] at h1
        cases h1
      · exact h
    · show w.heap.size ≤ (w6.setRow _ _).heap.size
      simp [World.setRow]
      omega
    · exact (h6to b (by omega) (by omega)).trans (hold4 b hb)
end
section
structure Abs (X : Type) where
  n : Nat
  most : Int
  born : X → Nat → X
  next : X → Nat → X
  out : X → Nat → Option Bool
section
variable {X : Type}
def goingA (C : Abs X) (x : X) : Nat := (List.range C.n).countP (fun i => (C.out x i).isNone)
def overA (C : Abs X) (st : X × List Nat) : Bool := decide (goingA C st.1 = 0) || decide (C.most ≤ st.2.length)
def stepA (C : Abs X) (st : X × List Nat) (z : Int) : X × List Nat :=
  if overA C st = false ∧ 0 ≤ z ∧ z < C.n ∧ C.out st.1 z.toNat = none then (C.next st.1 z.toNat, st.2 ++ [z.toNat]) else st
def roundA (C : Abs X) (st : X × List Nat) : X × List Nat := (List.range C.n).foldl (fun st i => stepA C st (i : Nat)) st
def restA (C : Abs X) : Nat → X × List Nat → X × List Nat
  | 0, st => st
  | f + 1, st => if overA C st then st else restA C f (roundA C st)
def followA (C : Abs X) (st : X × List Nat) (l : List Int) : X × List Nat := restA C C.most.toNat (l.foldl (stepA C) st)
def bornsA (C : Abs X) : Nat → Nat → X → X
  | 0, _, x => x
  | n + 1, k, x => bornsA C n (k + 1) (C.born x k)
def runA (C : Abs X) (x0 : X) (l : List Int) : X × List Nat := followA C (bornsA C C.n 0 x0, []) l
def absOf {S : Stile} (C : Crew S X) : Abs X := ⟨S.n, S.most, C.born, C.next, C.out⟩
theorem rest_abs {S : Stile} (C : Crew S X) : ∀ (f : Nat) (st : X × List Nat), restX C f st = restA (absOf C) f st
  | 0, _ => rfl
  | f + 1, st => by
    unfold restX restA
    rw [rest_abs C f]
    rfl
theorem born_abs {S : Stile} (C : Crew S X) : ∀ (n k : Nat) (x : X), bornAll C n k x = bornsA (absOf C) n k x
  | 0, _, _ => rfl
  | n + 1, k, x => by
    unfold bornAll bornsA
    exact born_abs C n (k + 1) _
theorem follow_abs {S : Stile} (C : Crew S X) (st : X × List Nat) (l : List Int) : followX C st l = followA (absOf C) st l := by
  unfold followX followA
  rw [rest_abs]
  rfl
end
def absP (n : Nat) (most : Int) (nw : Nat) (progs : Nat → List Cd) : Abs PX :=
  ⟨n, most, bornP ⟨0, nw, 0, 0, fun _ => 0, fun _ => none, fun _ => 0, progs, fun _ => none⟩, nextP ⟨0, nw, 0, 0, fun _ => 0, fun _ => none, fun _ => 0, progs, fun _ => none⟩, PX.out⟩
theorem abs_crewP (g : PG) (S : Stile) : absOf (crewP g S) = absP S.n S.most g.nw g.progs := rfl
def playA (progs : List (List Cd)) (ws : List Int) (most : Int) (sl : List Int) : PX × List Nat := runA (absP progs.length (min (max most 0) 1048576) ws.length (fun i => progs.getD i [])) (px0 ws) sl
def stuckA (progs : List (List Cd)) (x : PX) : Bool := decide (0 < (List.range progs.length).countP (fun i => (x.out i).isNone))
theorem Played.abs {l : List (Option Addr × Nat × Nat)} {progs : List (List Cd)} {ws : List Int} {most : Int} {sl : List Int} {w w' : World} {cells : Array Value} (H : Played l progs ws most sl w cells w') (hl : progs.length = l.length) :
    ∃ (oa : Option Addr) (oc a s : Nat) (tas : Nat → Option Addr) (tcs : Nat → Nat),
    cells = #[.slice (some ⟨a, 0, none⟩) progs.length progs.length, .slice oa (playA progs ws most sl).2.length oc, .slice (some ⟨s, 0, none⟩) ws.length ws.length, .bool (stuckA progs (playA progs ws most sl).1)] ∧
    w'.ownsRow w.heap.size 3 1 (.slice oa (playA progs ws most sl).2.length oc) (playA progs ws most sl).2.length ((playA progs ws most sl).2.map fun i => .int .i64 (i : Nat)) ∧
    (∀ j, j < ws.length → w'.cell? ⟨s, j, none⟩ = some (.int .i64 ((playA progs ws most sl).1.words j))) ∧
    (∀ i, i < progs.length → w'.cell? ⟨a, i, none⟩ = some (.slice (tas i) ((playA progs ws most sl).1.th i).told.length (tcs i)) ∧ w'.ownsRow w.heap.size 38 3 (.slice (tas i) ((playA progs ws most sl).1.th i).told.length (tcs i)) ((playA progs ws most sl).1.th i).told.length (ansCells ((playA progs ws most sl).1.th i).told)) ∧
    w.heap.size ≤ a ∧ w.heap.size ≤ s ∧ (0 < progs.length → ∃ arr : Array Value, w'.heap[a]? = some (.cells arr 36 (0, 0))) ∧ (∃ arr : Array Value, w'.heap[s]? = some (.cells arr 2 (0, 0)) ∧ ws.length ≤ arr.size) ∧ (∀ i j b, i < progs.length → j < progs.length → (Value.slice (tas i) ((playA progs ws most sl).1.th i).told.length (tcs i)).ownBlock = some b → (Value.slice (tas j) ((playA progs ws most sl).1.th j).told.length (tcs j)).ownBlock = some b → i = j) := by
  obtain ⟨S, g, x, ord, oa, oc, a, s, tas, tcs, h1, h2, h3, h4, h5, h6, h7, h8, h9, h10, h11⟩ := H.all
  have he : absOf (crewP g S) = absP progs.length (min (max most 0) 1048576) ws.length (fun i => progs.getD i []) := by
    rw [abs_crewP, h1, h2, h4, hl]
    have : g.progs = fun i => progs.getD i [] := funext h5
    rw [this]
  have hp : (x, ord) = playA progs ws most sl := by
    rw [h6, follow_abs, born_abs, he]
    unfold playA runA
    rw [← hl]
    rfl
  have hg : goingX (crewP g S) x = (List.range progs.length).countP (fun i => (x.out i).isNone) := by
    unfold goingX
    rw [h1, hl]
    rfl
  rw [← hp]
  rw [← hl] at h7 h10 h11
  refine ⟨oa, oc, a, s, tas, tcs, ?_, h8, h9, h10, h11⟩
  rw [h7, hg]
  rfl
def adderL : List Cd := [⟨7, 0, 0, 0, 0⟩, ⟨1, 1, 0, 0, 1⟩, ⟨3, 0, 0, 1, 0⟩, ⟨8, 0, 0, 0, 0⟩, ⟨6, 0, 0, 0, 0⟩]
theorem awake_a : (playA [adderL, adderL] [0] 100 [0, 1, 0, 1]).1.words 0 = 1 ∧ stuckA [adderL, adderL] (playA [adderL, adderL] [0] 100 [0, 1, 0, 1]).1 = false ∧ (playA [adderL, adderL] [0] 100 [0, 1, 0, 1]).2.length = 4 := by decide +kernel
theorem awake_b : (playA [adderL, adderL] [0] 100 [0, 0, 1, 1]).1.words 0 = 2 := by decide +kernel
theorem awake_c : stuckA [adderL, adderL] (playA [adderL, adderL] [0] 3 []).1 = true ∧ (playA [adderL, adderL] [0] 3 []).2.length = 3 := by decide +kernel
end
section
section
variable {X : Type}
inductive Stps (C : Abs X) : X × List Nat → X × List Nat → Prop
  | refl (st : X × List Nat) : Stps C st st
  | step {st st' : X × List Nat} (i : Nat) (h : Stps C st st') (hi : i < C.n) (ho : C.out st'.1 i = none) : Stps C st (C.next st'.1 i, st'.2 ++ [i])
theorem Stps.trans {C : Abs X} {a b c : X × List Nat} (h : Stps C a b) (k : Stps C b c) : Stps C a c := by
  induction k with
  | refl => exact h
  | step i _ hi ho ih => exact .step i ih hi ho
theorem Stps.pre {C : Abs X} {a b : X × List Nat} (h : Stps C a b) : ∃ l, b.2 = a.2 ++ l ∧ (l = [] → b = a) ∧ (l ≠ [] → ∃ i, i < C.n ∧ C.out a.1 i = none) := by
  induction h with
  | refl => exact ⟨[], by simp, fun _ => rfl, fun h => absurd rfl h⟩
  | @step st' i h hi ho ih =>
    obtain ⟨l, h1, h2, h3⟩ := ih
    refine ⟨l ++ [i], by simp [h1], fun e => by simp at e, fun _ => ?_⟩
    by_cases hl : l = []
    · rw [h2 hl] at ho
      exact ⟨i, hi, ho⟩
    · exact h3 hl
theorem Stps.out {C : Abs X} (hn : ∀ x i j, j ≠ i → C.out (C.next x i) j = C.out x j) {a b : X × List Nat} (h : Stps C a b) {j : Nat} {v : Bool} (hv : C.out a.1 j = some v) : C.out b.1 j = some v := by
  induction h with
  | refl => exact hv
  | step i _ hi ho ih =>
    have hne : j ≠ i := fun e => by rw [e, ho] at ih; cases ih
    show C.out (C.next _ i) j = _
    rw [hn _ _ _ hne]; exact ih
theorem Stps.keep {C : Abs X} {P : X × List Nat → Prop} (hP : ∀ st i, P st → i < C.n → C.out st.1 i = none → P (C.next st.1 i, st.2 ++ [i])) {a b : X × List Nat} (h : Stps C a b) (ha : P a) : P b := by
  induction h with
  | refl => exact ha
  | step i _ hi ho ih => exact hP _ i ih hi ho
theorem step_stps (C : Abs X) (st : X × List Nat) (z : Int) : Stps C st (stepA C st z) := by
  unfold stepA
  split
  · next h => exact .step _ (.refl st) (by omega) h.2.2.2
  · exact .refl st
theorem foldn_stps (C : Abs X) : ∀ (l : List Nat) (st : X × List Nat), Stps C st (l.foldl (fun st i => stepA C st (i : Nat)) st)
  | [], st => .refl st
  | z :: l, st => (step_stps C st z).trans (foldn_stps C l _)
theorem round_stps (C : Abs X) (st : X × List Nat) : Stps C st (roundA C st) := foldn_stps C _ st
theorem rest_stps (C : Abs X) : ∀ (f : Nat) (st : X × List Nat), Stps C st (restA C f st)
  | 0, st => .refl st
  | f + 1, st => by
    unfold restA
    split
    · exact .refl st
    · exact (round_stps C st).trans (rest_stps C f _)
theorem stepA_len (C : Abs X) (st : X × List Nat) (z : Int) : st.2.length ≤ (stepA C st z).2.length := by
  unfold stepA
  split
  · simp
  · exact Nat.le_refl _
theorem roundA_mono (C : Abs X) : ∀ (l : List Nat) (st : X × List Nat), st.2.length ≤ (l.foldl (fun st i => stepA C st (i : Nat)) st).2.length
  | [], _ => Nat.le_refl _
  | _ :: l, _ => Nat.le_trans (stepA_len C _ _) (roundA_mono C l _)
theorem roundA_grow (C : Abs X) {i : Nat} (hi : i < C.n) : ∀ (l : List Nat) (st : X × List Nat), i ∈ l → overA C st = false → C.out st.1 i = none → st.2.length + 1 ≤ (l.foldl (fun st i => stepA C st (i : Nat)) st).2.length
  | [], _, h, _, _ => by cases h
  | a :: l, st, h, ho, hn => by
    rw [List.foldl_cons]
    by_cases hs : overA C st = false ∧ 0 ≤ (a : Int) ∧ (a : Int) < C.n ∧ C.out st.1 (a : Int).toNat = none
    · have : (stepA C st a).2.length = st.2.length + 1 := by unfold stepA; rw [if_pos hs]; simp
      rw [← this]
      exact roundA_mono C l _
    · have : stepA C st a = st := by unfold stepA; rw [if_neg hs]
      rw [this]
      rcases List.mem_cons.1 h with rfl | h
      · exact absurd ⟨ho, by omega, by omega, by simpa using hn⟩ hs
      · exact roundA_grow C hi l st h ho hn
theorem roundA_one (C : Abs X) {st : X × List Nat} (h : overA C st = false) : st.2.length + 1 ≤ (roundA C st).2.length := by
  have hg : goingA C st.1 ≠ 0 := by
    intro e
    unfold overA at h
    rw [e] at h
    simp at h
  obtain ⟨i, hi, hn⟩ := List.countP_pos_iff.1 (Nat.pos_of_ne_zero hg)
  have hi : i < C.n := List.mem_range.1 hi
  exact roundA_grow C hi _ _ (List.mem_range.2 hi) h (by simpa using hn)
theorem rest_on (C : Abs X) {f : Nat} {st : X × List Nat} (h : overA C st = false) : restA C (f + 1) st = restA C f (roundA C st) := by
  show (if overA C st then st else restA C f (roundA C st)) = _
  rw [h]; rfl
theorem rest_off (C : Abs X) {f : Nat} {st : X × List Nat} (h : overA C st = true) : restA C (f + 1) st = st := by
  show (if overA C st then st else restA C f (roundA C st)) = _
  rw [h]; rfl
def Abs.withMost (C : Abs X) (m : Int) : Abs X := { C with most := m }
section
variable {C : Abs X} {m1 m2 : Nat}
def Both2 (C : Abs X) (m1 : Nat) (a b : X × List Nat) : Prop := Stps C a b ∧ a.2.length ≤ m1 ∧ (a = b ∨ a.2.length = m1)
theorem stps_most {m : Int} {a b : X × List Nat} (h : Stps (C.withMost m) a b) : Stps C a b := by
  induction h with
  | refl => exact .refl _
  | step i _ hi ho ih => exact .step i ih hi ho
theorem over_most (m : Nat) (st : X × List Nat) : overA (C.withMost m) st = (decide (goingA C st.1 = 0) || decide (m ≤ st.2.length)) := by
  unfold overA
  have : decide ((C.withMost m).most ≤ (st.2.length : Int)) = decide (m ≤ st.2.length) := decide_eq_decide.2 (by show (m : Int) ≤ _ ↔ _; omega)
  rw [this]
  rfl
theorem Both2.stp (hm : m1 ≤ m2) {a b : X × List Nat} (h : Both2 C m1 a b) (z : Int) : Both2 C m1 (stepA (C.withMost m1) a z) (stepA (C.withMost m2) b z) := by
  obtain ⟨h1, h2, h3⟩ := h
  have sb := stps_most (step_stps (C.withMost m2) b z)
  by_cases hc : overA (C.withMost m1) a = false ∧ 0 ≤ z ∧ z < C.n ∧ C.out a.1 z.toNat = none
  · have ho := hc.1
    rw [over_most] at ho
    simp only [Bool.or_eq_false_iff, decide_eq_false_iff_not] at ho
    have hab : a = b := h3.resolve_right (by omega)
    subst hab
    have ho2 : overA (C.withMost m2) a = false := by
      rw [over_most]
      simp only [Bool.or_eq_false_iff, decide_eq_false_iff_not]
      omega
    have e1 : stepA (C.withMost m1) a z = (C.next a.1 z.toNat, a.2 ++ [z.toNat]) := by unfold stepA; exact if_pos hc
    have e2 : stepA (C.withMost m2) a z = (C.next a.1 z.toNat, a.2 ++ [z.toNat]) := by unfold stepA; exact if_pos ⟨ho2, hc.2⟩
    rw [e1, e2]
    exact ⟨.refl _, by simp; omega, .inl rfl⟩
  · have e1 : stepA (C.withMost m1) a z = a := by unfold stepA; exact if_neg hc
    rw [e1]
    refine ⟨h1.trans sb, h2, ?_⟩
    rcases h3 with rfl | h3
    · by_cases hc2 : overA (C.withMost m2) a = false ∧ 0 ≤ z ∧ z < C.n ∧ C.out a.1 z.toNat = none
      · right
        have ho2 := hc2.1
        rw [over_most] at ho2
        simp only [Bool.or_eq_false_iff, decide_eq_false_iff_not] at ho2
        have ho1 : overA (C.withMost m1) a = true := by
          cases h : overA (C.withMost m1) a with
          | true => rfl
          | false => exact absurd ⟨h, hc2.2⟩ hc
        rw [over_most] at ho1
        simp only [Bool.or_eq_true, decide_eq_true_eq] at ho1
        omega
      · left
        unfold stepA
        exact (if_neg hc2).symm
    · exact .inr h3
theorem Both2.fold (hm : m1 ≤ m2) : ∀ (l : List Int) {a b : X × List Nat}, Both2 C m1 a b → Both2 C m1 (l.foldl (stepA (C.withMost m1)) a) (l.foldl (stepA (C.withMost m2)) b)
  | [], _, _, h => h
  | z :: l, _, _, h => Both2.fold hm l (h.stp hm z)
theorem Both2.foldn (hm : m1 ≤ m2) : ∀ (l : List Nat) {a b : X × List Nat}, Both2 C m1 a b → Both2 C m1 (l.foldl (fun st i => stepA (C.withMost m1) st (i : Nat)) a) (l.foldl (fun st i => stepA (C.withMost m2) st (i : Nat)) b)
  | [], _, _, h => h
  | z :: l, _, _, h => Both2.foldn hm l (h.stp hm z)
theorem Both2.rest (hm : m1 ≤ m2) : ∀ (f1 f2 : Nat) {a b : X × List Nat}, Both2 C m1 a b → m1 ≤ a.2.length + f1 → f1 ≤ f2 → Both2 C m1 (restA (C.withMost m1) f1 a) (restA (C.withMost m2) f2 b)
  | 0, f2, a, b, h, hf, _ => by
    exact ⟨h.1.trans (stps_most (rest_stps (C.withMost m2) f2 b)), h.2.1, .inr (by show a.2.length = m1; have := h.2.1; omega)⟩
  | f1 + 1, 0, _, _, _, _, hf => absurd hf (by omega)
  | f1 + 1, f2 + 1, a, b, h, hf, hff => by
    obtain ⟨h1, h2, h3⟩ := h
    have sb := stps_most (rest_stps (C.withMost m2) (f2 + 1) b)
    cases ho : overA (C.withMost m1) a with
    | true =>
      have e1 : restA (C.withMost m1) (f1 + 1) a = a := rest_off _ ho
      rw [e1]
      by_cases hl : a.2.length = m1
      · exact ⟨h1.trans sb, h2, .inr hl⟩
      · have hab : a = b := h3.resolve_right hl
        subst hab
        rw [over_most] at ho
        simp only [Bool.or_eq_true, decide_eq_true_eq] at ho
        have hg : goingA C a.1 = 0 := by omega
        have ho2 : overA (C.withMost m2) a = true := by
          rw [over_most]
          simp only [Bool.or_eq_true, decide_eq_true_eq]
          exact .inl hg
        have e2 : restA (C.withMost m2) (f2 + 1) a = a := rest_off _ ho2
        rw [e2]
        exact ⟨.refl a, h2, .inl rfl⟩
    | false =>
      have hlen := roundA_one (C.withMost m1) ho
      have e1 : restA (C.withMost m1) (f1 + 1) a = restA (C.withMost m1) f1 (roundA (C.withMost m1) a) := rest_on _ ho
      rw [e1]
      rw [over_most] at ho
      simp only [Bool.or_eq_false_iff, decide_eq_false_iff_not] at ho
      have hab : a = b := h3.resolve_right (by omega)
      subst hab
      have ho2 : overA (C.withMost m2) a = false := by
        rw [over_most]
        simp only [Bool.or_eq_false_iff, decide_eq_false_iff_not]
        omega
      have e2 : restA (C.withMost m2) (f2 + 1) a = restA (C.withMost m2) f2 (roundA (C.withMost m2) a) := rest_on _ ho2
      rw [e2]
      exact Both2.rest hm f1 f2 (Both2.foldn hm _ ⟨.refl a, h2, .inl rfl⟩) (by omega) (by omega)
theorem Both2.follow (hm : m1 ≤ m2) {a : X × List Nat} (ha : a.2.length ≤ m1) (l : List Int) : Both2 C m1 (followA (C.withMost m1) a l) (followA (C.withMost m2) a l) :=
  Both2.rest hm _ _ (Both2.fold hm l ⟨.refl a, ha, .inl rfl⟩) (by show m1 ≤ _ + (m1 : Int).toNat; omega) (by show (m1 : Int).toNat ≤ (m2 : Int).toNat; omega)
end
end
end
theorem row_cell {w : World} {base : Nat} {e : TypeId} {size : Nat} {v : Value} {n : Nat} {xs : List Value} (h : w.ownsRow base e size v n xs) {j : Nat} {x : Value} (hx : xs[j]? = some x) : ∃ g cap, v = .slice (some ⟨g, 0, none⟩) n cap ∧ n ≤ cap ∧ base ≤ g ∧ g < w.heap.size ∧ w.cell? ⟨g, j, none⟩ = some x := by
  obtain ⟨hl, h⟩ := h
  have hj := (List.getElem?_eq_some_iff.1 hx).1
  rcases h with ⟨_, rfl⟩ | ⟨g, cap, cur, rfl, h1, h2, h3, _, h5, h6⟩
  · omega
  · refine ⟨g, cap, rfl, h3, h1, (Array.getElem?_eq_some_iff.1 h2).1, (cell_of h2 j).trans ?_⟩
    rw [← h6, List.getElem?_take, if_pos (by omega)] at hx
    simpa using hx
theorem row_codes {w : World} {base : Nat} {p : Sl} {c : List Cd} (h : w.ownsRow base 99 5 (slc p) c.length (flatC c)) : CodesAt p.1 c w := by
  intro j d hd
  have hget := fun m (hm : m < 5) => flat_get c j m d hd hm
  obtain ⟨g, cap, e, _, _, _, _⟩ := row_cell h (hget 0 (by omega))
  have e1 : p.1 = some ⟨g, 0, none⟩ := by
    unfold slc at e
    injection e
  refine ⟨g, e1, fun m v hv => ?_⟩
  have hm : m < 5 := (List.getElem?_eq_some_iff.1 hv).1
  obtain ⟨g', cap', e', _, _, _, hc⟩ := row_cell h ((hget m hm).trans hv)
  rw [e] at e'
  injection e' with e' _ _
  injection e' with e'
  injection e' with e'
  subst e'
  exact hc
def PlayOut (base : Nat) (progs : List (List Cd)) (ws : List Int) (most : Int) (sl : List Int) (cells : Array Value) (w' : World) : Prop :=
  ∃ (oa : Option Addr) (oc a s : Nat) (tas : Nat → Option Addr) (tcs : Nat → Nat),
    cells = #[.slice (some ⟨a, 0, none⟩) progs.length progs.length, .slice oa (playA progs ws most sl).2.length oc, .slice (some ⟨s, 0, none⟩) ws.length ws.length, .bool (stuckA progs (playA progs ws most sl).1)] ∧
    w'.ownsRow base 3 1 (.slice oa (playA progs ws most sl).2.length oc) (playA progs ws most sl).2.length ((playA progs ws most sl).2.map fun i => .int .i64 (i : Nat)) ∧
    (∀ j, j < ws.length → w'.cell? ⟨s, j, none⟩ = some (.int .i64 ((playA progs ws most sl).1.words j))) ∧
    (∀ i, i < progs.length → w'.cell? ⟨a, i, none⟩ = some (.slice (tas i) ((playA progs ws most sl).1.th i).told.length (tcs i)) ∧ w'.ownsRow base 38 3 (.slice (tas i) ((playA progs ws most sl).1.th i).told.length (tcs i)) ((playA progs ws most sl).1.th i).told.length (ansCells ((playA progs ws most sl).1.th i).told)) ∧
    base ≤ a ∧ base ≤ s ∧ (0 < progs.length → ∃ arr : Array Value, w'.heap[a]? = some (.cells arr 36 (0, 0))) ∧ (∃ arr : Array Value, w'.heap[s]? = some (.cells arr 2 (0, 0)) ∧ ws.length ≤ arr.size) ∧ (∀ i j b, i < progs.length → j < progs.length → (Value.slice (tas i) ((playA progs ws most sl).1.th i).told.length (tcs i)).ownBlock = some b → (Value.slice (tas j) ((playA progs ws most sl).1.th j).told.length (tcs j)).ownBlock = some b → i = j)
theorem row_old {w w' : World} {base : Nat} {e : TypeId} {size : Nat} {v : Value} {n : Nat} {xs : List Value} (h : w.ownsRow base e size v n xs) (O : Old w w') : w'.ownsRow base e size v n xs := row_same h fun g hg => O.same g (row_at h hg).2.1
theorem play_coded {w0 wc : World} {Ps : List (List Cd)} {fa : Option Addr} {fc : Nat} {ls : List Sl} (M : Coded w0 wc Ps fa fc Ps.length ls) (hn : 1 ≤ Ps.length) (hm : ∀ c ∈ Ps, c.length ≤ 3518437208883) (wa : Option Addr) (cap : Nat) (sa : Option Addr) (sc : Nat) (most : Int) (ws sl : List Int) (w : World) (O : Old wc w) (hws : ws.length ≤ 17592186044416) (hsl : sl.length ≤ 17592186044416)
    (hw : IntsAt wa ws w) (hsc : IntsAt sa sl w) (c : Frame) (cs : List Frame) :
    Runs (fun g w' => ∃ cells, PlayOut w.heap.size (Ps.take 64) ws most sl cells w' ∧ Old w w' ∧ g = G (c.finish (.agg cells)) cs) (G (Frame.enter Try.prog 14 #[.slice wa ws.length cap, .slice fa Ps.length fc, .slice sa sl.length sc, .int .i64 most] .normal) (c :: cs)) w := by
  obtain ⟨p0, hp0⟩ : ∃ p0, ls[0]? = some p0 := ⟨_, List.getElem?_eq_getElem (by rw [M.len]; omega)⟩
  obtain ⟨fb, fc', e, hcap, _, hlt, _⟩ := row_cell M.row (x := slc p0) (j := 0) (by rw [List.getElem?_map, hp0]; rfl)
  injection e with e1 _ e3
  subst e1 e3
  have hll : (ls.take 64).length = (Ps.take 64).length := by rw [List.length_take, List.length_take, M.len]
  have hl64 : (ls.take 64).length ≤ 64 := by rw [List.length_take]; omega
  have htk : ∀ {α : Type} (l : List α) (i : Nat) (x : α), (l.take 64)[i]? = some x → l[i]? = some x := fun l i x h => by
    rw [List.getElem?_take] at h
    split at h
    · exact h
    · cases h
  have hmin : min Ps.length 64 = (ls.take 64).length := by rw [List.length_take, M.len, Nat.min_comm]
  refine (play_run wa cap fb fc Ps.length sa sc most ws (ls.take 64) (Ps.take 64) sl w hws hsl (by rw [List.length_take, M.len]; omega) hl64 hw hsc (fun w' _ => ?_) (fun j p hj => ?_) hll.symm (fun i p c' hi hc => ?_) c cs).then ?_
  · have := first70_some (main := true) (V := fun _ => none) fb Ps.length fc w' hcap
    rw [hmin] at this
    exact this
  · obtain ⟨g, cap', e, _, _, _, hc⟩ := row_cell M.row (j := j) (x := slc p) (by rw [List.getElem?_map, htk ls j p hj]; rfl)
    injection e with e _ _
    injection e with e
    injection e with e
    subst e
    exact old_cell O hc
  · have hc2 := htk Ps i c' hc
    obtain ⟨h1, h2⟩ := M.rows i p c' (htk ls i p hi) hc2
    have h2' := row_old h2 O
    refine ⟨h1, row_codes h2', by have := hm c' (List.mem_of_getElem? hc2); omega, fun b hb => ?_⟩
    exact (row_at h2' (g := b) (by unfold slc; rw [hb]; rfl)).2.1
  · rintro g w' ⟨cells, H, rfl⟩
    exact .now ⟨cells, H.abs hll.symm, H.old, rfl⟩
theorem apart0 (b : Nat) : Apart (fun _ => none) b := ⟨fun _ _ _ _ h => (by cases h), fun _ _ h => (by cases h)⟩
theorem Runs.go {Post : Goroutine → World → Prop} {g : Goroutine} {w : World} (h : Walk Try.prog true (DR (fun _ => none)) (fun g w => Runs Post g w) g w) : Runs Post g w := Runs.walk h fun _ _ h => h
theorem old_alloc (w : World) (o : Obj) : Old w (w.alloc o) := ⟨by simp, fun _ hb => heap_new_lt w o hb⟩
theorem Old.at {w w' : World} (h : Old w w') (d : Nat) : Old w (w'.at d) := ⟨h.size, h.same⟩
theorem Old.un {w w' : World} (d : Nat) (h : Old (w.at d) w') : Old w w' := ⟨h.size, h.same⟩
theorem Walk.slots {P : Program} {main : Bool} {D : World → World → Array Event → Prop} {Stop : Goroutine → World → Prop} {b : Frame} {A : Array Value} {todo : List Item} {cs : List Frame} {w : World} {F : (Nat → Value) → Goroutine} (h : ∀ u, Walk P main D Stop (F u) w) (e : G (b.at ⟨A, []⟩ todo) cs = F (fun k => A.getD k undef)) : Walk P main D Stop (G (b.at ⟨A, []⟩ todo) cs) w := e ▸ h _
noncomputable def tail13 : Code := match Try.f13.body with | some (.seq _ (.seq _ (.seq _ (.seq _ (.seq _ c))))) => c | _ => .skip
noncomputable def opsA13 : Array Oper := match tail13 with | .seq (.seq (.region _ ops _) _) _ => ops | _ => #[]
noncomputable def no13 : Code := match tail13 with | .seq (.seq _ (.cond _ c _)) _ => c | _ => .skip
noncomputable def opsB13 : Array Oper := match tail13 with | .seq _ (.seq (.region _ ops _) _) => ops | _ => #[]
theorem tail13_is : tail13 = .seq (.seq (.region 5 opsA13 false) (.cond (.tmp 41) no13 .skip)) (.seq (.region 7 opsB13 false) .ret) := by kernel_rfl
theorem sizeA13 : opsA13.size = 22 := by kernel_rfl
theorem sizeB13 : opsB13.size = 34 := by kernel_rfl
noncomputable def hd13 (pv : Value) (TA TB TC : Nat) (u : Nat → Value) : Frame :=
  (base 13).at { tmps := #[.bool false, pv, .pointer (some ⟨TA, 0, none⟩), .pointer (some ⟨TB, 0, none⟩), .pointer (some ⟨TC, 0, none⟩), u 5, u 6, u 7, u 8, u 9, u 10, u 11, u 12, u 13, u 14, u 15, u 16, u 17, u 18, u 19, u 20, u 21, u 22, u 23, u 24, u 25, u 26, u 27, u 28, u 29, u 30, u 31, u 32, u 33, u 34, u 35, u 36, u 37, u 38, u 39, u 40, u 41, u 42, u 43, u 44, u 45, u 46, u 47, u 48, u 49, u 50, u 51, u 52, u 53, u 54, u 55, u 56, u 57, u 58, u 59, u 60, u 61, u 62, u 63, u 64, u 65, u 66, u 67, u 68, u 69, u 70, u 71, u 72, u 73, u 74], defers := [] } [.code tail13]
theorem awake_tail (pv : Value) (TA TB TC a1 a2 s1 s2 oc1 oc3 : Nat) (oa1 oa3 : Option Addr) (u : Nat → Value) (c : Frame) (cs : List Frame) (w : World)
    (u10 : w.cell? ⟨TA, 0, none⟩ = some (.slice (some ⟨a1, 0, none⟩) 2 2)) (u11 : w.cell? ⟨TA, 1, none⟩ = some (.slice oa1 4 oc1)) (u12 : w.cell? ⟨TA, 2, none⟩ = some (.slice (some ⟨s1, 0, none⟩) 1 1)) (u13 : w.cell? ⟨TA, 3, none⟩ = some (.bool false))
    (u20 : w.cell? ⟨TB, 0, none⟩ = some (.slice (some ⟨a2, 0, none⟩) 2 2)) (u22 : w.cell? ⟨TB, 2, none⟩ = some (.slice (some ⟨s2, 0, none⟩) 1 1))
    (u31 : w.cell? ⟨TC, 1, none⟩ = some (.slice oa3 3 oc3)) (u33 : w.cell? ⟨TC, 3, none⟩ = some (.bool true)) (hs1 : w.cell? ⟨s1, 0, none⟩ = some (.int .i64 1)) (hs2 : w.cell? ⟨s2, 0, none⟩ = some (.int .i64 2)) :
    Walk Try.prog true (DR (fun _ => none)) (fun g w' => g = G (c.finish (.bool true)) cs ∧ ∃ d, w' = w.at d) (G (hd13 pv TA TB TC u) (c :: cs)) w := by
  unfold hd13
  rw [tail13_is]
  refine Walk.ctl rfl (fun w => stepG_seq) ?_
  refine Walk.ctl rfl (fun w => stepG_seq) ?_
  refine Walk.ctl rfl (fun w => stepG_region) ?_
  rw [sizeA13]
  simp only [List.range, List.range.loop]
  repeat (first | (refine Walk.oq ?_; try walk_nrm) | (refine Walk.un ?_; walk_nrm))
  refine Walk.ctl rfl (fun w => stepG_region_end) ?_
  refine Walk.ctl rfl (fun w => stepG_cond (t := false) rfl) ?_
  simp only [Bool.false_eq_true, if_false]
  refine Walk.ctl rfl (fun w => stepG_skip) ?_
  refine Walk.ctl rfl (fun w => stepG_seq) ?_
  refine Walk.ctl rfl (fun w => stepG_region) ?_
  rw [sizeB13]
  simp only [List.range, List.range.loop]
  repeat (first | (refine Walk.oq ?_; try walk_nrm) | (refine Walk.un ?_; walk_nrm))
  repeat (first | refine Walk.c rfl ?_ | refine Walk.cR ?_ | refine Walk.cRet ?_ | refine Walk.cEnd ?_ | (refine Walk.oq ?_; try walk_nrm) | (refine Walk.un ?_; walk_nrm))
  exact (Walk.ret1 (Post := fun v w' => v = .bool true ∧ ∃ d, w' = w.at d) rfl rfl Try.func13 rfl fun d => ⟨rfl, d, rfl⟩).mono fun g w' ⟨v, ⟨hv, hd⟩, hg⟩ => ⟨by rw [hg, hv], hd⟩
section
variable {main : Bool} {V : Nat → Option Wait}
theorem first70_none (w : World) : CallV Try.prog main V 70 #[.slice none 0 0] w (.slice none 0 0) w := by
  refine callW_in Try.func70 rfl fun fr cs => ?_
  simp only [Try.ntmps70, List.size_toArray, List.length_cons, List.length_nil, Nat.reduceAdd, Nat.reduceSub, Array.replicate_succ, Array.replicate_zero, List.push_toArray, List.append_toArray, List.nil_append, List.cons_append]
  have hmn := @events_min_ints Try.prog
  have hi := Option.some_get (show (Try.prog.info? 94).isSome = true by kernel_rfl)
  have hs := fun w => (run_sl0_of hu30 hi.symm w #[]).1
  have hse := fun w es => (run_sl0_of hu30 hi.symm w es).2
  clear hi
  have hmin : min (0 : Int) 64 = 0 := by decide
  repeat (first | refine Walk.c rfl ?_ | refine Walk.cR ?_ | refine Walk.cRet ?_ | refine Walk.cEnd ?_ | (refine Walk.oq ?_; try walk_nrm) | (refine Walk.un ?_; walk_nrm))
  simp only [hmin]
  repeat (first | refine Walk.c rfl ?_ | refine Walk.cR ?_ | refine Walk.cRet ?_ | refine Walk.cEnd ?_ | (refine Walk.oq ?_; try walk_nrm) | (refine Walk.un ?_; walk_nrm))
  exact Walk.ret1 rfl rfl Try.func70 rfl fun d => ⟨by simp, d, rfl⟩
theorem walkers40_none (sw nw : Nat) (w : World) : CallV Try.prog main V 40 #[.slice (some ⟨sw, 0, none⟩) nw nw, .slice none 0 0] w (.slice none 0 0) w := by
  intro fr cs
  refine (walkers_in sw nw (.slice none 0 0) none 0 0 (fr :: cs) w (first70_none w)).then ?_
  rintro g w1 ⟨rfl, d, rfl⟩
  refine Walk.back ?_ d
  refine (walkers_out sw nw 0 0 _ _ none _ fr cs w).mono ?_
  rintro g w1 ⟨rfl, d, rfl⟩
  exact ⟨_, ⟨rfl, d, rfl⟩, rfl⟩
theorem told42_none (w : World) : CallW Try.prog main V 42 #[.slice none 0 0] w (fun v w' => v = .slice (some ⟨w.heap.size, 0, none⟩) 0 0 ∧ ∃ d, w' = (w.alloc (.cells (madeCells #[.slice none 0 0] 0) 36)).at d) := by
  intro fr cs
  refine (told_in none 0 0 (fr :: cs) w (by decide)).then ?_
  rintro g w1 ⟨rfl, d, rfl⟩
  refine Walk.back ?_ d
  refine (told_out none 0 w.heap.size 0 _ fr cs _).mono ?_
  rintro g w1 ⟨rfl, d, rfl⟩
  exact ⟨_, ⟨rfl, d, rfl⟩, rfl⟩
theorem begin_zero' (B tc : Nat) (ta : Option Addr) (c : Frame) (cs : List Frame) (w : World) (h0 : w.cell? ⟨B, 0, none⟩ = some (.slice none 0 0)) :
    Walk Try.prog main (DR V) (fun g w' => g = G (c.finish (.tuple #[])) cs ∧ ∃ d, w' = w.at d) (G (Frame.enter Try.prog 54 #[.pointer (some ⟨B, 0, none⟩), .slice ta 0 tc] .normal) (c :: cs)) w := by
  rw [enter_at _ Try.func54 rfl]
  simp only [Try.f54, List.size_toArray, List.length_cons, List.length_nil, Nat.reduceAdd, Nat.reduceSub, Array.replicate_succ, Array.replicate_zero, List.push_toArray, List.append_toArray, List.nil_append, List.cons_append]
  repeat (first | refine Walk.c rfl ?_ | refine Walk.cR ?_ | refine Walk.cRet ?_ | refine Walk.cEnd ?_ | (refine Walk.oq ?_; try walk_nrm) | (refine Walk.un ?_; walk_nrm))
  refine Walk.ctl rfl (fun w => stepG_loop) ?_
  repeat (first | refine Walk.c rfl ?_ | refine Walk.cR ?_ | refine Walk.cRet ?_ | refine Walk.cEnd ?_ | (refine Walk.oq ?_; try walk_nrm) | (refine Walk.un ?_; walk_nrm))
  exact Walk.ctl rfl (fun w => stepG_leave rfl rfl Try.func54 (results_none rfl _ _ w) (events_results_none rfl _ _)) (.stop fun d => ⟨rfl, d, rfl⟩)
theorem over_zero' (sa : Option Addr) (m sc tc : Nat) (ta : Option Addr) (most : Int) (og : Value) (c : Frame) (cs : List Frame) (w : World) (hog : CallV Try.prog main V 52 #[og] w (.slice ta 0 tc) w)
    (hs : 0 < m → ∃ s so x, sa = some ⟨s, so, none⟩ ∧ w.cell? ⟨s, so, none⟩ = some (.int .i64 x)) :
    Walk Try.prog main (DR V) (fun g w' => g = G (c.finish (.tuple #[.slice none 0 0, .bool false, .slice (some ⟨w.heap.size + 1, 0, none⟩) 0 0])) cs ∧ ∃ d, w' = ((turnW w 0 most).alloc (.cells (madeCells #[.bool false] 0) 4)).at d)
      (G (Frame.enter Try.prog 23 #[og, .slice sa m sc, .int .i64 most] .normal) (c :: cs)) w := by
  have hs1 : (turnW w 0 most).heap.size = w.heap.size + 1 := by simp [turnW]
  have ht : ∀ i, (turnW w 0 most).cell? ⟨w.heap.size, i, none⟩ = (#[.slice none 0 0, .int .i64 (0 : Nat), .int .i64 (min (max most 0) 1048576), .slice none 0 0] : Array Value)[i]? := fun i => cell_of (heap_alloc_new w _) i
  have t0 := (ht 0).trans rfl
  have t1 := (ht 1).trans rfl
  have t2 := (ht 2).trans rfl
  have t3 := (ht 3).trans rfl
  clear ht
  refine (over_in 0 tc m sc ta sa og most (c :: cs) w hog (nt_in 0 tc ta most (fr23t 0 tc m sc ta sa og most :: c :: cs) w)).then ?_
  rintro _ _ ⟨rfl, d1, rfl⟩
  refine Walk.back ?_ d1
  refine (nt_out w.heap.size 0 tc ta most _ (fr23t 0 tc m sc ta sa og most) (c :: cs) _).then ?_
  rintro _ _ ⟨rfl, d2, rfl⟩
  refine Walk.back ?_ d2
  refine (over_begin w.heap.size 0 tc m sc ta sa og most (c :: cs) _ (begin_zero' w.heap.size tc ta _ (c :: cs) _ t0)).then ?_
  rintro _ _ ⟨rfl, d3, rfl⟩
  refine Walk.back ?_ d3
  refine (over_follow w.heap.size 0 tc m sc ta sa og most (c :: cs) _ (follow_in w.heap.size sa m sc _ _)).then ?_
  rintro _ _ ⟨⟨u4, rfl⟩, d4, rfl⟩
  refine Walk.back ?_ d4
  have back : Walk Try.prog main (DR V) (fun g w' => g = G ((fr23b w.heap.size 0 tc m sc ta sa og most).finish (.tuple #[])) (c :: cs) ∧ ∃ d, w' = (turnW w 0 most).at d) (G (hd55 w.heap.size sa m sc 0 u4) (fr23b w.heap.size 0 tc m sc ta sa og most :: c :: cs)) (turnW w 0 most) := by
    rcases Nat.eq_zero_or_pos m with hm | hm
    · subst hm
      refine (follow_past w.heap.size sa 0 sc u4 _ _).then ?_
      rintro _ _ ⟨⟨u5, rfl⟩, d5, rfl⟩
      refine Walk.back ?_ d5
      exact round_over w.heap.size sa 0 sc (0 : Nat) _ none 0 0 u5 _ (c :: cs) _ t1 t2 t3 (by simp)
    · obtain ⟨s, so, x, rfl, hc⟩ := hs hm
      refine follow_over w.heap.size s so m sc 0 x (0 : Nat) _ none 0 0 u4 _ (c :: cs) _ hm ?_ t1 t2 t3 (by simp)
      exact cell_alloc w _ hc
  refine back.then ?_
  rintro _ _ ⟨rfl, d5, rfl⟩
  refine Walk.back ?_ d5
  refine (over_end w.heap.size 0 tc m sc ta sa og most (0 : Nat) (c :: cs) _ t1 (end_zero w.heap.size _ (c :: cs) _ t0)).then ?_
  rintro _ _ ⟨rfl, d6, rfl⟩
  refine Walk.back ?_ d6
  have t3' := cell_alloc _ (.cells (madeCells #[.bool false] 0) 4) t3
  rw [hs1]
  refine (over_out w.heap.size (w.heap.size + 1) 0 tc m sc ta sa og most (0 : Nat) none 0 0 c cs _ t3').mono ?_
  rintro _ _ ⟨rfl, d7, rfl⟩
  exact ⟨by simp, d7, rfl⟩
noncomputable def reg14_0 : Array Oper := match Try.f14.body with | some (.seq (.region _ ops _) _) => ops | _ => #[]
theorem size14_0 : reg14_0.size = 1 := by kernel_rfl
noncomputable def reg14_1 : Array Oper := match Try.f14.body with | some (.seq _ (.seq (.region _ ops _) _)) => ops | _ => #[]
theorem size14_1 : reg14_1.size = 3 := by kernel_rfl
noncomputable def reg14_2 : Array Oper := match Try.f14.body with | some (.seq _ (.seq _ (.seq (.region _ ops _) _))) => ops | _ => #[]
theorem size14_2 : reg14_2.size = 4 := by kernel_rfl
noncomputable def reg14_3 : Array Oper := match Try.f14.body with | some (.seq _ (.seq _ (.seq _ (.seq (.region _ ops _) _)))) => ops | _ => #[]
theorem size14_3 : reg14_3.size = 4 := by kernel_rfl
noncomputable def reg14_4 : Array Oper := match Try.f14.body with | some (.seq _ (.seq _ (.seq _ (.seq _ (.seq (.seq (.region _ ops _) _) _))))) => ops | _ => #[]
theorem size14_4 : reg14_4.size = 3 := by kernel_rfl
noncomputable def reg14_5 : Array Oper := match Try.f14.body with | some (.seq _ (.seq _ (.seq _ (.seq _ (.seq (.seq _ (.block _ (.loop (.seq (.region _ ops _) _)))) _))))) => ops | _ => #[]
theorem size14_5 : reg14_5.size = 1 := by kernel_rfl
noncomputable def reg14_6 : Array Oper := match Try.f14.body with | some (.seq _ (.seq _ (.seq _ (.seq _ (.seq (.seq _ (.block _ (.loop (.seq _ (.seq _ (.seq (.block _ (.seq (.region _ ops _) _)) _)))))) _))))) => ops | _ => #[]
theorem size14_6 : reg14_6.size = 5 := by kernel_rfl
noncomputable def reg14_7 : Array Oper := match Try.f14.body with | some (.seq _ (.seq _ (.seq _ (.seq _ (.seq (.seq _ (.block _ (.loop (.seq _ (.seq _ (.seq (.block _ (.seq _ (.region _ ops _))) _)))))) _))))) => ops | _ => #[]
theorem size14_7 : reg14_7.size = 6 := by kernel_rfl
noncomputable def reg14_8 : Array Oper := match Try.f14.body with | some (.seq _ (.seq _ (.seq _ (.seq _ (.seq (.seq _ (.block _ (.loop (.seq _ (.seq _ (.seq _ (.region _ ops _))))))) _))))) => ops | _ => #[]
theorem size14_8 : reg14_8.size = 2 := by kernel_rfl
noncomputable def reg14_9 : Array Oper := match Try.f14.body with | some (.seq _ (.seq _ (.seq _ (.seq _ (.seq _ (.seq (.region _ ops _) _)))))) => ops | _ => #[]
theorem size14_9 : reg14_9.size = 11 := by kernel_rfl
noncomputable def reg14_10 : Array Oper := match Try.f14.body with | some (.seq _ (.seq _ (.seq _ (.seq _ (.seq _ (.seq _ (.seq (.region _ ops _) _))))))) => ops | _ => #[]
theorem size14_10 : reg14_10.size = 8 := by kernel_rfl
theorem code14_is : Try.f14.body = some (.seq (.region 0 reg14_0 false) (.seq (.region 1 reg14_1 false) (.seq (.region 2 reg14_2 false) (.seq (.region 3 reg14_3 false) (.seq (.seq (.region 4 reg14_4 false) (.block 0 (.loop (.seq (.region 5 reg14_5 false) (.seq (.cond (.tmp 28 ) (.skip) (.exit 0)) (.seq (.block 1 (.seq (.region 6 reg14_6 false) (.region 7 reg14_7 false))) (.region 8 reg14_8 false))))))) (.seq (.region 9 reg14_9 false) (.seq (.region 10 reg14_10 false) (.ret)))))))) := by kernel_rfl
theorem play_none (wa : Option Addr) (cap : Nat) (ws : List Int) (sa : Option Addr) (m sc : Nat) (most : Int) (c : Frame) (cs : List Frame) (w : World) (hws : ws.length ≤ 17592186044416) (hw : IntsAt wa ws w) (hs : 0 < m → ∃ s so x, sa = some ⟨s, so, none⟩ ∧ w.cell? ⟨s, so, none⟩ = some (.int .i64 x)) :
    Walk Try.prog main (DR (fun _ => none)) (fun g w' => ∃ a s, w.heap.size ≤ a ∧ w.heap.size ≤ s ∧ Old w w' ∧ (∀ j, j < ws.length → w'.cell? ⟨s, j, none⟩ = some (.int .i64 (ws.getD j 0))) ∧ (∃ arr : Array Value, w'.heap[s]? = some (.cells arr 2 (0, 0)) ∧ ws.length ≤ arr.size) ∧ g = G (c.finish (.agg #[.slice (some ⟨a, 0, none⟩) 0 0, .slice none 0 0, .slice (some ⟨s, 0, none⟩) ws.length ws.length, .bool false])) cs)
      (G (Frame.enter Try.prog 14 #[.slice wa ws.length cap, .slice none 0 0, .slice sa m sc, .int .i64 most] .normal) (c :: cs)) w := by
  have hT := heap_alloc_new w (.cells #[.slice none 0 0, .slice none 0 0, .slice none 0 0, .bool false] 28)
  have hO := old_alloc w (.cells #[.slice none 0 0, .slice none 0 0, .slice none 0 0, .bool false] 28)
  have hTl : w.heap.size < (w.alloc (.cells #[.slice none 0 0, .slice none 0 0, .slice none 0 0, .bool false] 28)).heap.size := by simp
  rw [enter_at _ Try.func14 code14_is]
  simp only [Try.ntmps14, List.size_toArray, List.length_cons, List.length_nil, Nat.reduceAdd, Nat.reduceSub, Array.replicate_succ, Array.replicate_zero, List.push_toArray, List.append_toArray, List.nil_append, List.cons_append]
  repeat (first | refine Walk.c rfl ?_ | refine Walk.cRet ?_ | refine Walk.cEnd ?_ | (refine Walk.cReg ?_; simp only [size14_0, size14_1, size14_2, size14_3, size14_4, size14_5, size14_6, size14_7, size14_8, size14_9, size14_10, List.range, List.range.loop]) | (refine Walk.oq ?_; try walk_nrm) | (refine Walk.un ?_; walk_nrm))
  (refine Walk.oa ?_; try walk_nrm)
  generalize w.alloc (.cells #[.slice none 0 0, .slice none 0 0, .slice none 0 0, .bool false] 28) = w1 at *
  generalize hTT : w.heap.size = T at *
  have hw1 := hw.old hO.same
  repeat (first | refine Walk.c rfl ?_ | refine Walk.cRet ?_ | refine Walk.cEnd ?_ | (refine Walk.cReg ?_; simp only [size14_0, size14_1, size14_2, size14_3, size14_4, size14_5, size14_6, size14_7, size14_8, size14_9, size14_10, List.range, List.range.loop]) | (refine Walk.oq ?_; try walk_nrm) | (refine Walk.un ?_; walk_nrm))
  refine Walk.callW (Post := fun v w' => v = .slice (some ⟨w1.heap.size, 0, none⟩) ws.length ws.length ∧ Old w1 w' ∧ w1.heap.size < w'.heap.size ∧ WsIs w1.heap.size ws.length (fun j => ws.getD j 0) w') ?_ (ho_of (by conv => lhs; whnf) (by kernel_rfl)) (by rfl) (by decide) rfl Try.func39 (by kernel_rfl) (by rfl) ?_
  · walk_nrm
    exact share_w wa cap ws hws w1 hw1 (apart0 _)
  rintro v w2 ⟨rfl, O2, hsw, W2⟩
  have hO2 := hO.trans O2
  have hT2 := (O2.same T hTl).trans hT
  have hswT : T ≠ w1.heap.size := by omega
  generalize w1.heap.size = sw at *
  clear hw1 hT O2 hO hw
  walk_nrm
  repeat (first | refine Walk.c rfl ?_ | refine Walk.cRet ?_ | refine Walk.cEnd ?_ | (refine Walk.cReg ?_; simp only [size14_0, size14_1, size14_2, size14_3, size14_4, size14_5, size14_6, size14_7, size14_8, size14_9, size14_10, List.range, List.range.loop]) | (refine Walk.oq ?_; try walk_nrm) | (refine Walk.un ?_; walk_nrm))
  refine Walk.callV (x := .slice none 0 0) (W := w2) ?_ (ho_of (by conv => lhs; whnf) (by kernel_rfl)) (by rfl) (by decide) rfl Try.func40 (by kernel_rfl) (by rfl) ?_
  · walk_nrm
    exact walkers40_none sw ws.length w2
  walk_nrm
  repeat (first | refine Walk.c rfl ?_ | refine Walk.cRet ?_ | refine Walk.cEnd ?_ | (refine Walk.cReg ?_; simp only [size14_0, size14_1, size14_2, size14_3, size14_4, size14_5, size14_6, size14_7, size14_8, size14_9, size14_10, List.range, List.range.loop]) | (refine Walk.oq ?_; try walk_nrm) | (refine Walk.un ?_; walk_nrm))
  have hi67 := Option.some_get (show (Try.prog.info? 67).isSome = true by kernel_rfl)
  refine Walk.make 53 (.tmp 23) (.tmp 23) (ho_of (by conv => lhs; whnf) (by kernel_rfl)) (by rfl) (by decide) rfl 67 _ .nilFunc 1 8 (by kernel_rfl) hi67.symm (by kernel_rfl) (by kernel_rfl) (by kernel_rfl) 0 (by rfl) (by rfl) (by omega) (by omega) ?_
  clear hi67
  walk_nrm
  simp only [Value.cells, Nat.mul_one]
  have O3 := old_alloc w2 (.cells (madeCells #[.nilFunc] 0) 67)
  have hO3 := hO2.trans O3
  have hT3 := (O3.same T (by have := (Array.getElem?_eq_some_iff.1 hT2).1; omega)).trans hT2
  have W3 : WsIs sw ws.length (fun j => ws.getD j 0) (w2.alloc (.cells (madeCells #[.nilFunc] 0) 67)) := by
    obtain ⟨arr, a1, a2⟩ := W2
    exact ⟨arr, (O3.same sw hsw).trans a1, a2⟩
  have hs3 : 0 < m → ∃ s so x, sa = some ⟨s, so, none⟩ ∧ (w2.alloc (.cells (madeCells #[.nilFunc] 0) 67)).cell? ⟨s, so, none⟩ = some (.int .i64 x) := fun h => by
    obtain ⟨s, so, x, e, hc⟩ := hs h
    exact ⟨s, so, x, e, old_cell hO3 hc⟩
  have hsw3 : sw < (w2.alloc (.cells (madeCells #[.nilFunc] 0) 67)).heap.size := by have := O3.size; omega
  generalize w2.alloc (.cells (madeCells #[.nilFunc] 0) 67) = w3 at *
  clear hT2 W2 O3 hO2 hs hsw
  repeat (first | refine Walk.c rfl ?_ | refine Walk.cRet ?_ | refine Walk.cEnd ?_ | (refine Walk.cReg ?_; simp only [size14_0, size14_1, size14_2, size14_3, size14_4, size14_5, size14_6, size14_7, size14_8, size14_9, size14_10, List.range, List.range.loop]) | (refine Walk.oq ?_; try walk_nrm) | (refine Walk.un ?_; walk_nrm))
  refine Walk.ctl rfl (fun w => stepG_loop) ?_
  repeat (first | refine Walk.c rfl ?_ | refine Walk.cRet ?_ | refine Walk.cEnd ?_ | (refine Walk.cReg ?_; simp only [size14_0, size14_1, size14_2, size14_3, size14_4, size14_5, size14_6, size14_7, size14_8, size14_9, size14_10, List.range, List.range.loop]) | (refine Walk.oq ?_; try walk_nrm) | (refine Walk.un ?_; walk_nrm))
  refine Walk.callW (Post := fun v w' => v = .tuple #[.slice none 0 0, .bool false, .slice (some ⟨w3.heap.size + 1, 0, none⟩) 0 0] ∧ ∃ d, w' = ((turnW w3 0 most).alloc (.cells (madeCells #[.bool false] 0) 4)).at d) ?_ (ho_of (by conv => lhs; whnf) (by kernel_rfl)) (by rfl) (by decide) rfl Try.func23 (by kernel_rfl) (by rfl) ?_
  · walk_nrm
    intro fr cs'
    refine (over_zero' (main := main) (V := fun _ => none) sa m sc 0 (some ⟨w2.heap.size, 0, none⟩) most _ fr cs' w3 ?_ hs3).mono ?_
    · have := first_some (main := main) (V := fun _ => none) w2.heap.size 0 0 w3 (Nat.le_refl _)
      simpa using this
    · rintro g w' ⟨h1, h2⟩
      exact ⟨_, ⟨rfl, h2⟩, h1⟩
  rintro v w4' ⟨rfl, d4, rfl⟩
  refine Walk.back ?_ d4
  have O4 : Old w3 ((turnW w3 0 most).alloc (.cells (madeCells #[.bool false] 0) 4)) := (old_alloc w3 _).trans (old_alloc _ _)
  have hO4 := hO3.trans O4
  have hT4 := (O4.same T (Array.getElem?_eq_some_iff.1 hT3).1).trans hT3
  have W4 : WsIs sw ws.length (fun j => ws.getD j 0) ((turnW w3 0 most).alloc (.cells (madeCells #[.bool false] 0) 4)) := by
    obtain ⟨arr, a1, a2⟩ := W3
    exact ⟨arr, (O4.same sw hsw3).trans a1, a2⟩
  have hsw4 : sw < ((turnW w3 0 most).alloc (.cells (madeCells #[.bool false] 0) 4)).heap.size := by have := O4.size; omega
  generalize (turnW w3 0 most).alloc (.cells (madeCells #[.bool false] 0) 4) = w4 at *
  clear hT3 W3 O4 hO3 hs3 hsw3
  walk_nrm
  repeat (first | refine Walk.c rfl ?_ | refine Walk.cRet ?_ | refine Walk.cEnd ?_ | (refine Walk.cReg ?_; simp only [size14_0, size14_1, size14_2, size14_3, size14_4, size14_5, size14_6, size14_7, size14_8, size14_9, size14_10, List.range, List.range.loop]) | (refine Walk.oq ?_; try walk_nrm) | (refine Walk.un ?_; walk_nrm))
  refine Walk.callW (Post := fun v w' => v = .slice (some ⟨w4.heap.size, 0, none⟩) 0 0 ∧ ∃ d, w' = (w4.alloc (.cells (madeCells #[.slice none 0 0] 0) 36)).at d) ?_ (ho_of (by conv => lhs; whnf) (by kernel_rfl)) (by rfl) (by decide) rfl Try.func42 (by kernel_rfl) (by rfl) ?_
  · walk_nrm
    exact told42_none w4
  rintro v w5' ⟨rfl, d5, rfl⟩
  refine Walk.back ?_ d5
  have O5 := old_alloc w4 (.cells (madeCells #[.slice none 0 0] 0) 36)
  have ha4 := hO4.size
  have hO5 := hO4.trans O5
  have hT5 := (O5.same T (Array.getElem?_eq_some_iff.1 hT4).1).trans hT4
  have W5 : WsIs sw ws.length (fun j => ws.getD j 0) (w4.alloc (.cells (madeCells #[.slice none 0 0] 0) 36)) := by
    obtain ⟨arr, a1, a2⟩ := W4
    exact ⟨arr, (O5.same sw hsw4).trans a1, a2⟩
  generalize w4.alloc (.cells (madeCells #[.slice none 0 0] 0) 36) = w5 at *
  clear hT4 W4 O5 hO4 hsw4
  walk_nrm
  repeat (first | refine Walk.c rfl ?_ | refine Walk.cRet ?_ | refine Walk.cEnd ?_ | (refine Walk.cReg ?_; simp only [size14_0, size14_1, size14_2, size14_3, size14_4, size14_5, size14_6, size14_7, size14_8, size14_9, size14_10, List.range, List.range.loop]) | (refine Walk.oq ?_; try walk_nrm) | (refine Walk.un ?_; walk_nrm))
  refine Walk.callW (Post := fun v w' => v = .slice (some ⟨w5.heap.size, 0, none⟩) ws.length ws.length ∧ Laid w5 w' 2 ws.length ws.length (fun i => .int .i64 (ws.getD i 0))) ?_ (ho_of (by conv => lhs; whnf) (by kernel_rfl)) (by rfl) (by decide) rfl Try.func43 (by kernel_rfl) (by rfl) ?_
  · walk_nrm
    exact values_w sw ws.length (fun j => ws.getD j 0) hws w5 W5 (apart0 _)
  rintro v w6 ⟨rfl, L6⟩
  have hO6 := hO5.trans L6.old
  have ha5 := hO5.size
  have hT6 := (L6.old.same T (Array.getElem?_eq_some_iff.1 hT5).1).trans hT5
  obtain ⟨arr, a1, a2, a3⟩ := L6.row
  have hq : w5.heap.size ≠ T := by have := (Array.getElem?_eq_some_iff.1 hT5).1; omega
  have hc6 : ∀ j, j < ws.length → w6.cell? ⟨w5.heap.size, j, none⟩ = some (.int .i64 (ws.getD j 0)) := fun j hj => (cell_of a1 j).trans (a3 j hj)
  generalize w5.heap.size = q at *
  clear hT5 W5 hO5 L6 a3
  walk_nrm
  repeat (first | refine Walk.c rfl ?_ | refine Walk.cRet ?_ | refine Walk.cEnd ?_ | (refine Walk.cReg ?_; simp only [size14_0, size14_1, size14_2, size14_3, size14_4, size14_5, size14_6, size14_7, size14_8, size14_9, size14_10, List.range, List.range.loop]) | (refine Walk.oq ?_; try walk_nrm) | (refine Walk.un ?_; walk_nrm))
  refine Walk.storeS 28 (.tmp 8) (.tmp 52) (ho_of (by conv => lhs; whnf) (by kernel_rfl)) (by rfl) (by decide) rfl T #[.slice (some ⟨w4.heap.size, 0, none⟩) 0 0, .slice none 0 0, .slice (some ⟨q, 0, none⟩) ws.length ws.length, .bool false] _ 28 rfl rfl hT6 (by kernel_rfl) (by rfl) (by simp [Value.oneCell']) (apart0 T) ?_
  have hT7 := setRow_self w6 T #[.slice (some ⟨w4.heap.size, 0, none⟩) 0 0, .slice none 0 0, .slice (some ⟨q, 0, none⟩) ws.length ws.length, .bool false] _ hT6
  have hO7 : Old w (w6.setRow T #[.slice (some ⟨w4.heap.size, 0, none⟩) 0 0, .slice none 0 0, .slice (some ⟨q, 0, none⟩) ws.length ws.length, .bool false]) := ⟨by have := hO6.size; simp [World.setRow]; omega, fun b hb => (setRow_other _ _ _ _ (by omega)).trans (hO6.same b hb)⟩
  have hc7 : ∀ j, j < ws.length → (w6.setRow T #[.slice (some ⟨w4.heap.size, 0, none⟩) 0 0, .slice none 0 0, .slice (some ⟨q, 0, none⟩) ws.length ws.length, .bool false]).cell? ⟨q, j, none⟩ = some (.int .i64 (ws.getD j 0)) := fun j hj => (World.cell?_of_block (a := ⟨q, j, none⟩) (setRow_other _ _ _ _ hq)).trans (hc6 j hj)
  have hq7 : (w6.setRow T #[.slice (some ⟨w4.heap.size, 0, none⟩) 0 0, .slice none 0 0, .slice (some ⟨q, 0, none⟩) ws.length ws.length, .bool false]).heap[q]? = some (.cells arr 2 (0, 0)) := (setRow_other _ _ _ _ hq).trans a1
  clear a1
  generalize w6.setRow T #[.slice (some ⟨w4.heap.size, 0, none⟩) 0 0, .slice none 0 0, .slice (some ⟨q, 0, none⟩) ws.length ws.length, .bool false] = w7 at *
  clear hT6 hO6 hc6
  walk_nrm
  repeat (first | refine Walk.c rfl ?_ | refine Walk.cRet ?_ | refine Walk.cEnd ?_ | (refine Walk.cReg ?_; simp only [size14_0, size14_1, size14_2, size14_3, size14_4, size14_5, size14_6, size14_7, size14_8, size14_9, size14_10, List.range, List.range.loop]) | (refine Walk.oq ?_; try walk_nrm) | (refine Walk.un ?_; walk_nrm))
  refine (play_leave (V := fun _ => none) (main := main) (c := c) (cs := cs) (T := T) (w := w7) rfl rfl rfl rfl rfl hT7 rfl).mono ?_
  rintro g w8 ⟨rfl, d8, rfl⟩
  exact ⟨_, q, by omega, by omega, hO7.at d8, hc7, ⟨arr, hq7, by omega⟩, rfl⟩
end
end Go.Proofs.Ytgiiicdpbdfemaa
