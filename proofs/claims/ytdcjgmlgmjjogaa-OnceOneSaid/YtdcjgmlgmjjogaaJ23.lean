/- Part 23. -/
import Derived.Test.YtdcjgmlgmjjogaaJ11
import Derived.Test.YtdcjgmlgmjjogaaJ16
import Derived.Test.YtdcjgmlgmjjogaaJ20
import Derived.Test.YtdcjgmlgmjjogaaJ22
set_option linter.unusedSimpArgs false
set_option linter.unusedVariables false
set_option maxHeartbeats 8000000
set_option maxRecDepth 100000
namespace Go.Proofs.Ytdcjgmlgmjjogaa
open Go.Conc Go.RowKit Go.Relay
open Go.ConcN (upd upd_ne upd_same)
section
section
variable {P : Program} {main : Bool} {V : Nat → Option Wait} {Stop : Goroutine → World → Prop} {w : World} {b : Frame} {a : Act} {k : List Item} {cs : List Frame} {ops : Array Oper} {i : Nat} {rest : List Nat} {o : Oper}
theorem Walk.makeCap (t : TypeId) (l c : Operand) (ho : ops[i]? = some o) (hw : Region.wanted o (yielded ops a.tmps) = true) (hk : b.kind ≠ .early) (hop : o.op = .makeSlice t l c)
  (e : TypeId) (ti : TypeInfo) (z : Value) (size bytes : Nat) (ht : P.underlying t = some (.slice e)) (hi : P.info? e = some ti) (hz : ti.zero = some z) (hsize : ti.size = size) (hby : ti.bytes = bytes)
  (n : Nat) (hl : a.eval l = .int .i64 0) (hc : a.eval c = .int .i64 n) (hbytes : n * bytes ≤ 140737488355328) (h63 : n ≤ 17592186044416)
  (h : Walk P main (DR V) Stop (G (b.at (a.put o.dst (.slice (some ⟨w.heap.size, 0, none⟩) 0 n)) (.inRegion ops rest :: k)) cs) (w.alloc (.cells (madeCells z.cells (n * size)) e))) :
  Walk P main (DR V) Stop (G (b.at a (.inRegion ops (i :: rest) :: k)) cs) w := by
 subst hsize
 subst hby
 have hb' : (ti.bytes : Int) * (n : Int) ≤ 281474976710656 := by
  have h : ((ti.bytes * n : Nat) : Int) ≤ 281474976710656 := by rw [Nat.mul_comm]; omega
  rwa [Int.natCast_mul] at h
 refine Walk.go rfl fun d => goes_oper_k ho hw hk fun K hK => ?_
 have hr := run_make (P := P) (w.at d) t e ti z ht hi hz .i64 .i64 0 n (by omega) (by omega) hb' (by omega)
 have he := events_make (P := P) (w.at d) t e ti z ht hi hz .i64 .i64 0 n (by omega) (by omega) hb' (by omega) (by simpa using hbytes) #[]
 simp only [Int.toNat_natCast] at hr
 have hx : (execOp a.eval o).run P (w.at d) = .ok (.value (.slice (some ⟨w.heap.size, 0, none⟩) 0 n)) ((w.alloc (.cells (madeCells z.cells (n * ti.size)) e)).at d) := by
  simp only [execOp, hop, hl, hc, Sem.run_bind, hr]
  rfl
 have hv : (execOp a.eval o).events P (w.at d) #[] = #[] := by
  simp only [execOp, hop, hl, hc, Sem.events_bind, hr, he]
  rfl
 rw [hx]
 refine hK _ _ ⟨DR.alloc' d _ fun ev hm => ?_, h.back d⟩
 have hm' := mem_listed hm
 rw [hv] at hm'
 exact absurd hm' (by simp)
end
def intRow (l : List Int) : List Value := l.map (.int .i64)
structure VI (w0 w : World) (pre : List Int) (ta : Option Addr) (tc : Nat) : Prop where
 row : w.ownsRow w0.heap.size 2 1 (.slice ta pre.length tc) pre.length (intRow pre)
 old : ∀ b, b < w0.heap.size → w.heap[b]? = w0.heap[b]?
 size : w0.heap.size ≤ w.heap.size
def ValOut (w0 : World) (l : List Int) (v : Value) (w' : World) : Prop := ∃ ta tc, v = .slice ta l.length tc ∧ VI w0 w' l ta tc
def ozState (s : Oz) (m : Nat) : List Int := (List.range m).flatMap fun i => [s.st i, s.vl i, s.ct i]
theorem ozState_succ (s : Oz) (m : Nat) : ozState s (m + 1) = ozState s m ++ [s.st m, s.vl m, s.ct m] := by simp [ozState, List.range_succ]
theorem ozState_len (s : Oz) : ∀ m : Nat, (ozState s m).length = m * 3
 | 0 => rfl
 | m + 1 => by rw [ozState_succ, List.length_append, ozState_len s m]; simp; omega
noncomputable def reg31_0 := rg Try.f31.body [0]
noncomputable def reg31_1 := rg Try.f31.body [1, 0]
noncomputable def reg31_2 := rg Try.f31.body [1, 1, 0, 0]
noncomputable def reg31_3 := rg Try.f31.body [1, 1, 0, 1, 0, 0, 0]
noncomputable def reg31_4 := rg Try.f31.body [1, 1, 0, 1, 0, 0, 1, 1, 0, 0, 0]
noncomputable def reg31_5 := rg Try.f31.body [1, 1, 0, 1, 0, 0, 1, 1, 0, 0, 1, 0]
noncomputable def reg31_6 := rg Try.f31.body [1, 1, 0, 1, 0, 0, 1, 1, 0, 0, 1, 1]
noncomputable def reg31_7 := rg Try.f31.body [1, 1, 0, 1, 0, 0, 1, 1, 1]
noncomputable def reg31_8 := rg Try.f31.body [1, 1, 1, 0]
theorem z31 : List.range reg31_0.size = [0] ∧ List.range reg31_1.size = [0, 1, 2, 3, 4] ∧ List.range reg31_2.size = [0, 1, 2] ∧ List.range reg31_3.size = [0] ∧ List.range reg31_4.size = [0, 1] ∧ List.range reg31_5.size = [0, 1, 2, 3, 4, 5, 6, 7, 8, 9, 10] ∧ List.range reg31_6.size = [0, 1, 2, 3, 4, 5, 6] ∧ List.range reg31_7.size = [0, 1] ∧ List.range reg31_8.size = [0, 1] := by refine ⟨?_, ?_, ?_, ?_, ?_, ?_, ?_, ?_, ?_⟩ <;> kernel_rfl
theorem code31_is : Try.f31.body = some (.seq (.region 0 reg31_0 false) (.seq (.region 1 reg31_1 false) (.seq (.seq (.region 2 reg31_2 false) (.block 0 (.loop (.seq (.region 3 reg31_3 false) (.seq (.cond (.tmp 15 ) (.skip) (.exit 0)) (.seq (.block 1 (.seq (.region 4 reg31_4 false) (.seq (.region 5 reg31_5 false) (.region 6 reg31_6 false)))) (.region 7 reg31_7 false))))))) (.seq (.region 8 reg31_8 false) (.ret))))) := by kernel_rfl
noncomputable def hdOst (cb m : Nat) (av : Value) (j : Nat) (u : Nat → Value) : Frame :=
 (base 31).at { tmps := #[.slice (some ⟨cb, 0, none⟩) m m, u 1, u 2, av, u 4, u 5, u 6, u 7, u 8, u 9, u 10, u 11, u 12, .int .i64 m, .int .i64 j, u 15, u 16, u 17, u 18, u 19, u 20, u 21, u 22, u 23, u 24, u 25, u 26, u 27, u 28, u 29, u 30, u 31, u 32], defers := [] } [.code (.seq (.region 3 reg31_3 false) (.seq (.cond (.tmp 15 ) (.skip) (.exit 0)) (.seq (.block 1 (.seq (.region 4 reg31_4 false) (.seq (.region 5 reg31_5 false) (.region 6 reg31_6 false)))) (.region 7 reg31_7 false)))), .inLoop (.seq (.region 3 reg31_3 false) (.seq (.cond (.tmp 15 ) (.skip) (.exit 0)) (.seq (.block 1 (.seq (.region 4 reg31_4 false) (.seq (.region 5 reg31_5 false) (.region 6 reg31_6 false)))) (.region 7 reg31_7 false)))), .inBlock 0, .code (.seq (.region 8 reg31_8 false) (.ret))]
section
variable {main : Bool} {V : Nat → Option Wait} {cb m : Nat}
theorem ost_round (s : Oz) (hm : m ≤ 64) (hA : ∀ b, Apart V b) (w0 : World) (I0 : OzI cb m s w0) (j : Nat) (hj : j < m) (ta : Option Addr) (tc : Nat) (u : Nat → Value) (cs : List Frame) (w : World) (H : VI w0 w (ozState s j) ta tc) :
  Walk Try.prog main (DR V) (fun g w' => ∃ ta tc, (∃ u, g = G (hdOst cb m (.slice ta (ozState s (j + 1)).length tc) (j + 1) u) cs) ∧ VI w0 w' (ozState s (j + 1)) ta tc) (G (hdOst cb m (.slice ta (ozState s j).length tc) j u) cs) w := by
 have hi2 := Option.some_get (show (Try.prog.info? 2).isSome = true by kernel_rfl)
 have I : OzI cb m s w := I0.old (H.old _ I0.lt)
 have hj0 : (0 : Int) ≤ j := by omega
 have hj1 : decide ((j : Int) < m) = true := by simp; omega
 have hj3 : decide (j < m) = true := by simp; omega
 have hj4 : (j : Int) < m := by omega
 have hw1 : IntKind.wrap .i64 ((j : Int) + 1) = ((j + 1 : Nat) : Int) := by rw [IntKind.wrap_i64]; omega
 have hc := ostate1_w (main := main) (V := V) s j hj w I
 have hlen : (ozState s j).length ≤ 192 := by rw [ozState_len]; omega
 have hs1 := ozState_succ s j
 generalize hpre : ozState s j = pre at *
 generalize hx : s.st j = x at *
 generalize hy : s.vl j = y at *
 generalize hz : s.ct j = z at *
 unfold hdOst
 repeat (first | refine Walk.cx ?_ | (refine Walk.cReg ?_; simp only [z31]) | (refine Walk.oq ?_; try walk_nrm) | (refine Walk.un ?_; walk_nrm))
 refine Walk.callV (x := .tuple #[.int .i64 x, .int .i64 y, .int .i64 z]) (W := w) ?_ (ho_of (by conv => lhs; whnf) (by kernel_rfl)) (by rfl) (by decide) rfl Try.func15 (by kernel_rfl) (by rfl) ?_
 ·walk_nrm
  exact hc
 walk_nrm
 repeat (first | refine Walk.cx ?_ | (refine Walk.cReg ?_; simp only [z31]) | (refine Walk.oq ?_; try walk_nrm) | (refine Walk.un ?_; walk_nrm))
 (refine Walk.oa ?_; try walk_nrm)
 have d1 := heap_alloc_new w (.cells #[.int .i64 x, .int .i64 y, .int .i64 z] 2)
 have o1 : ∀ b, b < w.heap.size → (w.alloc (.cells #[.int .i64 x, .int .i64 y, .int .i64 z] 2)).heap[b]? = w.heap[b]? := fun b hb => heap_new_lt _ _ hb
 have s1 : (w.alloc (.cells #[.int .i64 x, .int .i64 y, .int .i64 z] 2)).heap.size = w.heap.size + 1 := by simp
 have hHs := H.size
 generalize hN : w.heap.size = N at *
 generalize w.alloc (.cells #[.int .i64 x, .int .i64 y, .int .i64 z] 2) = w1 at *
 have hrow : w1.ownsRow w0.heap.size 2 1 (.slice ta pre.length tc) pre.length (intRow pre) := row_same H.row fun b hb => o1 b (by have := (H.row.lt b hb).2; omega)
 refine Walk.append (.tmp 25) (.tmp 29) 27 (ho_of (by conv => lhs; whnf) (by kernel_rfl)) (by rfl) (by decide) rfl w0.heap.size 2 _ (.int .i64 0) 1 8 (by kernel_rfl) hi2.symm (by rfl) (by rfl) (by rfl) (by rfl) (by decide) (.slice ta pre.length tc) pre.length (intRow pre) rfl hrow ⟨N, 0, none⟩ 3 3 [.int .i64 x, .int .i64 y, .int .i64 z] rfl (by rfl) (fun j u hu => ?_) (by intro u hu; simp only [List.mem_cons, List.not_mem_nil, or_false] at hu; rcases hu with rfl | rfl | rfl <;> rfl) (by decide) (by simp [maxLen]; omega) (by omega) (by omega) (fun b _ => hA b) (fun g gcap w3 hown hgr hat hlt => ?_)
 ·rw [add_none, Nat.zero_add]
  refine (cell_of d1 j).trans ?_
  simpa using hu
 have hs3 := hgr.size
 have hold : ∀ b, b < w0.heap.size → w3.heap[b]? = w0.heap[b]? := fun b hb => by
  refine (hgr.block b (by omega) fun he => ?_).trans ((o1 b (by omega)).trans (H.old b hb))
  have := (H.row.lt b he.symm).1
  omega
 walk_nrm
 repeat (first | refine Walk.cx ?_ | (refine Walk.cReg ?_; simp only [z31]) | (refine Walk.oq ?_; try walk_nrm) | (refine Walk.un ?_; walk_nrm))
 refine Walk.ctl rfl (fun w => stepG_inLoop) ?_
 have hl1 : pre.length + 3 = (ozState s (j + 1)).length := by rw [hs1]; simp
 refine .stop fun d => ?_
 refine ⟨some ⟨g, 0, none⟩, gcap, at_slots ?_, ?_⟩
 ·rw [← hl1]
  simp only [hdOst]
  rfl
 ·refine ⟨?_, hold, ?_⟩
  ·have he : intRow (ozState s (j + 1)) = intRow pre ++ [.int .i64 x, .int .i64 y, .int .i64 z] := by rw [hs1]; simp [intRow]
   rw [he, ← hl1]
   exact hown
  ·show w0.heap.size ≤ w3.heap.size
   omega
theorem ost_loop (s : Oz) (hm : m ≤ 64) (hA : ∀ b, Apart V b) (w0 : World) (I0 : OzI cb m s w0) (cs : List Frame) : ∀ (r j : Nat) (ta : Option Addr) (tc : Nat) (u : Nat → Value) (w : World), j + r = m → VI w0 w (ozState s j) ta tc →
  Walk Try.prog main (DR V) (fun g w' => ∃ ta tc, (∃ u, g = G (hdOst cb m (.slice ta (ozState s m).length tc) m u) cs) ∧ VI w0 w' (ozState s m) ta tc) (G (hdOst cb m (.slice ta (ozState s j).length tc) j u) cs) w := by
 intro r
 induction r with
 | zero =>
  intro j ta tc u w hj H
  obtain rfl : j = m := by omega
  exact .stop fun d => ⟨ta, tc, ⟨u, rfl⟩, H.row, H.old, H.size⟩
 | succ r ih =>
  intro j ta tc u w hj H
  refine (ost_round s hm hA w0 I0 j (by omega) ta tc u cs w H).then ?_
  rintro _ w1 ⟨ta1, tc1, ⟨u1, rfl⟩, H1⟩
  exact ih (j + 1) ta1 tc1 u1 w1 (by omega) H1
theorem ost_in (hm : m ≤ 64) (cs : List Frame) (w : World) : Walk Try.prog main (DR V) (fun g w' => ∃ ta tc, (∃ u, g = G (hdOst cb m (.slice ta 0 tc) 0 u) cs) ∧ VI w w' [] ta tc) (G (Frame.enter Try.prog 31 #[.slice (some ⟨cb, 0, none⟩) m m] .normal) cs) w := by
 have hi2 := Option.some_get (show (Try.prog.info? 2).isSome = true by kernel_rfl)
 have hw1 : IntKind.wrap .i64 (3 * (m : Int)) = ((3 * m : Nat) : Int) := by rw [IntKind.wrap_i64]; omega
 rw [enter_at _ Try.func31 code31_is]
 simp only [Try.ntmps31, ez, Nat.reduceAdd, Nat.reduceSub]
 repeat (first | refine Walk.cx ?_ | (refine Walk.cReg ?_; simp only [z31]) | (refine Walk.oq ?_; try walk_nrm) | (refine Walk.un ?_; walk_nrm))
 refine Walk.makeCap 27 (.const (.int .i64 0)) (.tmp 10) (ho_of (by conv => lhs; whnf) (by kernel_rfl)) (by rfl) (by decide) rfl 2 _ (.int .i64 0) 1 8 (by kernel_rfl) hi2.symm (by rfl) (by rfl) (by rfl) (3 * m) (by rfl) (by rfl) (by omega) (by omega) ?_
 have d1 := heap_alloc_new w (.cells (madeCells (Value.int .i64 0).cells (3 * m * 1)) 2)
 have o1 : ∀ b, b < w.heap.size → (w.alloc (.cells (madeCells (Value.int .i64 0).cells (3 * m * 1)) 2)).heap[b]? = w.heap[b]? := fun b hb => heap_new_lt _ _ hb
 have s1 : (w.alloc (.cells (madeCells (Value.int .i64 0).cells (3 * m * 1)) 2)).heap.size = w.heap.size + 1 := by simp
 have hsz : (madeCells (Value.int .i64 0).cells (3 * m * 1)).size = 3 * m * 1 := by simp [madeCells]
 generalize madeCells (Value.int .i64 0).cells (3 * m * 1) = cur at *
 generalize hN : w.heap.size = N at *
 generalize w.alloc (.cells cur 2) = w1 at *
 walk_nrm
 repeat (first | refine Walk.cx ?_ | (refine Walk.cReg ?_; simp only [z31]) | (refine Walk.oq ?_; try walk_nrm) | (refine Walk.un ?_; walk_nrm))
 refine Walk.ctl rfl (fun w => stepG_loop) ?_
 refine .stop fun d => ⟨some ⟨N, 0, none⟩, 3 * m, at_slots ?_, ?_⟩
 ·simp only [hdOst]
  rfl
 ·refine ⟨⟨rfl, .inr ⟨N, 3 * m, cur, rfl, by omega, d1, Nat.zero_le _, by simp [maxLen]; omega, hsz, rfl⟩⟩, fun b hb => o1 b (by omega), ?_⟩
  show w.heap.size ≤ w1.heap.size
  omega
theorem ost_end (s : Oz) (ta : Option Addr) (tc : Nat) (u : Nat → Value) (c : Frame) (cs : List Frame) (w : World) : Walk Try.prog main (DR V) (fun g w' => g = G (c.finish (.slice ta (ozState s m).length tc)) cs ∧ ∃ d, w' = w.at d) (G (hdOst cb m (.slice ta (ozState s m).length tc) m u) (c :: cs)) w := by
 have hj3 : decide (m < m) = false := by simp
 generalize (ozState s m).length = n
 unfold hdOst
 repeat (first | refine Walk.cx ?_ | (refine Walk.cReg ?_; simp only [z31]) | (refine Walk.oq ?_; try walk_nrm) | (refine Walk.un ?_; walk_nrm))
 exact Walk.on1 rfl rfl Try.func31 rfl (.stop fun d => ⟨rfl, d, rfl⟩)
theorem VI.at {w0 w : World} {pre : List Int} {ta : Option Addr} {tc : Nat} (H : VI w0 w pre ta tc) (d : Nat) : VI w0 (w.at d) pre ta tc := ⟨H.row, H.old, H.size⟩
theorem ostate_w (s : Oz) (hm : m ≤ 64) (hA : ∀ b, Apart V b) (w : World) (I : OzI cb m s w) : CallW Try.prog main V 31 #[.slice (some ⟨cb, 0, none⟩) m m] w (ValOut w (ozState s m)) := by
 intro c cs
 refine (ost_in hm (c :: cs) w).then ?_
 rintro _ w1 ⟨ta, tc, ⟨u, rfl⟩, H⟩
 refine (ost_loop s hm hA w I (c :: cs) m 0 ta tc u w1 (by omega) H).then ?_
 rintro _ w2 ⟨ta2, tc2, ⟨u2, rfl⟩, H2⟩
 refine (ost_end s ta2 tc2 u2 c cs w2).mono ?_
 rintro g w' ⟨rfl, d, rfl⟩
 exact ⟨_, ⟨ta2, tc2, rfl, H2.at d⟩, rfl⟩
end
end
section
variable {main : Bool} {V : Nat → Option Wait}
theorem end_zero (B : Nat) (c : Frame) (cs : List Frame) (w : World) (h0 : w.cell? ⟨B, 0, none⟩ = some (.slice none 0 0)) :
  Walk Try.prog main (DR V) (fun g w' => g = G (c.finish (.slice (some ⟨w.heap.size, 0, none⟩) 0 0)) cs ∧ ∃ d, w' = (w.alloc (.cells (madeCells #[.bool false] 0) 4)).at d) (G (Frame.enter Try.prog 54 #[.pointer (some ⟨B, 0, none⟩)] .normal) (c :: cs)) w := by
 rw [enter_at _ Try.func54 rfl]
 simp only [Try.f54, ez, Nat.reduceAdd, Nat.reduceSub]
 repeat (first | refine Walk.cx ?_ | refine Walk.cR ?_ | (refine Walk.oq ?_; try walk_nrm) | (refine Walk.un ?_; walk_nrm))
 have hi4 := Option.some_get (show (Try.prog.info? 4).isSome = true by kernel_rfl)
 refine Walk.make 66 (.tmp 10) (.tmp 10) rfl (by rfl) (by decide) rfl 4 _ (.bool false) 1 1 (by kernel_rfl) hi4.symm (by rfl) (by rfl) (by rfl) 0 (by rfl) (by rfl) (by omega) (by omega) ?_
 have h0' := cell_alloc w (.cells (madeCells #[.bool false] 0) 4) h0
 walk_nrm
 simp only [Value.cells, Nat.mul_one]
 repeat (first | refine Walk.cx ?_ | refine Walk.cR ?_ | (refine Walk.oq ?_; try walk_nrm) | (refine Walk.un ?_; walk_nrm))
 refine Walk.ctl rfl (fun w => stepG_loop) ?_
 repeat (first | refine Walk.cx ?_ | refine Walk.cR ?_ | (refine Walk.oq ?_; try walk_nrm) | (refine Walk.un ?_; walk_nrm))
 exact (Walk.ret1 (Post := fun v w' => v = .slice (some ⟨w.heap.size, 0, none⟩) 0 0 ∧ ∃ d, w' = (w.alloc (.cells (madeCells #[.bool false] 0) 4)).at d) rfl rfl Try.func54 rfl fun d => ⟨by simp, d, rfl⟩).mono fun g w' ⟨v, ⟨e, d, e'⟩, hg⟩ => ⟨by rw [hg, e], d, e'⟩
end
section
section
variable {main : Bool} {V : Nat → Option Wait}
theorem begin_zero' (B tc : Nat) (ta : Option Addr) (c : Frame) (cs : List Frame) (w : World) (h0 : w.cell? ⟨B, 0, none⟩ = some (.slice none 0 0)) :
  Walk Try.prog main (DR V) (fun g w' => g = G (c.finish (.tuple #[])) cs ∧ ∃ d, w' = w.at d) (G (Frame.enter Try.prog 52 #[.pointer (some ⟨B, 0, none⟩), .slice ta 0 tc] .normal) (c :: cs)) w := by
 rw [enter_at _ Try.func52 rfl]
 simp only [Try.f52, ez, Nat.reduceAdd, Nat.reduceSub]
 repeat (first | refine Walk.cx ?_ | refine Walk.cR ?_ | (refine Walk.oq ?_; try walk_nrm) | (refine Walk.un ?_; walk_nrm))
 refine Walk.ctl rfl (fun w => stepG_loop) ?_
 repeat (first | refine Walk.cx ?_ | refine Walk.cR ?_ | (refine Walk.oq ?_; try walk_nrm) | (refine Walk.un ?_; walk_nrm))
 exact Walk.ctl rfl (fun w => stepG_leave rfl rfl Try.func52 (results_none rfl _ _ w) (events_results_none rfl _ _)) (.stop fun d => ⟨rfl, d, rfl⟩)
theorem over_zero' (sa : Option Addr) (m sc tc : Nat) (ta : Option Addr) (most : Int) (og : Value) (c : Frame) (cs : List Frame) (w : World) (hog : CallV Try.prog main V 50 #[og] w (.slice ta 0 tc) w)
  (hs : 0 < m → ∃ s so x, sa = some ⟨s, so, none⟩ ∧ w.cell? ⟨s, so, none⟩ = some (.int .i64 x)) :
  Walk Try.prog main (DR V) (fun g w' => g = G (c.finish (.tuple #[.slice none 0 0, .bool false, .slice (some ⟨w.heap.size + 1, 0, none⟩) 0 0])) cs ∧ ∃ d, w' = ((turnW w 0 most).alloc (.cells (madeCells #[.bool false] 0) 4)).at d)
   (G (Frame.enter Try.prog 23 #[og, .slice sa m sc, .int .i64 most] .normal) (c :: cs)) w := by
 have hs1 : (turnW w 0 most).heap.size = w.heap.size + 1 := by simp [turnW]
 have ht : ∀ i, (turnW w 0 most).cell? ⟨w.heap.size, i, none⟩ = (#[.slice none 0 0, .int .i64 (0 : Nat), .int .i64 (min (max most 0) 1048576), .slice none 0 0] : Array Value)[i]? := fun i => cell_of (heap_alloc_new w _) i
 have t0 := (ht 0).trans rfl
 have t1 := (ht 1).trans rfl
 have t2 := (ht 2).trans rfl
 have t3 := (ht 3).trans rfl
 clear ht
 refine (over_in 0 tc m sc ta sa og most (c :: cs) w hog (nt_in 0 tc ta most (fr23t 0 tc m sc ta sa og most :: c :: cs) w)).then ?_
 rintro _ _ ⟨rfl, d1, rfl⟩
 refine Walk.back ?_ d1
 refine (nt_out w.heap.size 0 tc ta most _ (fr23t 0 tc m sc ta sa og most) (c :: cs) _).then ?_
 rintro _ _ ⟨rfl, d2, rfl⟩
 refine Walk.back ?_ d2
 refine (over_begin w.heap.size 0 tc m sc ta sa og most (c :: cs) _ (begin_zero' w.heap.size tc ta _ (c :: cs) _ t0)).then ?_
 rintro _ _ ⟨rfl, d3, rfl⟩
 refine Walk.back ?_ d3
 refine (over_follow w.heap.size 0 tc m sc ta sa og most (c :: cs) _ (follow_in w.heap.size sa m sc _ _)).then ?_
 rintro _ _ ⟨⟨u4, rfl⟩, d4, rfl⟩
 refine Walk.back ?_ d4
 have back : Walk Try.prog main (DR V) (fun g w' => g = G ((fr23b w.heap.size 0 tc m sc ta sa og most).finish (.tuple #[])) (c :: cs) ∧ ∃ d, w' = (turnW w 0 most).at d) (G (hd55 w.heap.size sa m sc 0 u4) (fr23b w.heap.size 0 tc m sc ta sa og most :: c :: cs)) (turnW w 0 most) := by
  rcases Nat.eq_zero_or_pos m with hm | hm
  ·subst hm
   refine (follow_past w.heap.size sa 0 sc u4 _ _).then ?_
   rintro _ _ ⟨⟨u5, rfl⟩, d5, rfl⟩
   refine Walk.back ?_ d5
   exact round_over w.heap.size sa 0 sc (0 : Nat) _ none 0 0 u5 _ (c :: cs) _ t1 t2 t3 (by simp)
  ·obtain ⟨s, so, x, rfl, hc⟩ := hs hm
   refine follow_over w.heap.size s so m sc 0 x (0 : Nat) _ none 0 0 u4 _ (c :: cs) _ hm ?_ t1 t2 t3 (by simp)
   exact cell_alloc w _ hc
 refine back.then ?_
 rintro _ _ ⟨rfl, d5, rfl⟩
 refine Walk.back ?_ d5
 refine (over_end w.heap.size 0 tc m sc ta sa og most (0 : Nat) (c :: cs) _ t1 (end_zero w.heap.size _ (c :: cs) _ t0)).then ?_
 rintro _ _ ⟨rfl, d6, rfl⟩
 refine Walk.back ?_ d6
 have t3' := cell_alloc _ (.cells (madeCells #[.bool false] 0) 4) t3
 rw [hs1]
 refine (over_out w.heap.size (w.heap.size + 1) 0 tc m sc ta sa og most (0 : Nat) none 0 0 c cs _ t3').mono ?_
 rintro _ _ ⟨rfl, d7, rfl⟩
 exact ⟨by simp, d7, rfl⟩
theorem huOpsS : Try.prog.underlying 22 = some (.slice 32) := by kernel_rfl
theorem firstOps_some (a : Option Addr) (m cap : Nat) (w : World) (hm : m ≤ cap) (ha : a = none ∧ cap = 0 ∨ ∃ p, a = some p) : CallV Try.prog main V 80 #[.slice a m cap] w (.slice a (min m 64) cap) w := by
 refine callW_in Try.func80 rfl fun fr cs => ?_
 simp only [Try.ntmps80, ez, Nat.reduceAdd, Nat.reduceSub]
 have hmn := @events_min_ints Try.prog
 repeat (first | refine Walk.cx ?_ | refine Walk.cR ?_ | (refine Walk.oq ?_; try walk_nrm) | (refine Walk.un ?_; walk_nrm))
 have hmin : min (m : Int) 64 = ((min m 64 : Nat) : Int) := by omega
 rw [hmin]
 have hxl : min m 64 ≤ cap := by omega
 generalize min m 64 = x at hxl ⊢
 have hi := Option.some_get (show (Try.prog.info? 32).isSome = true by kernel_rfl)
 have hs := fun w => (run_slx huOpsS hi.symm a m cap x hxl ha w #[]).1
 have hse := fun w es => (run_slx huOpsS hi.symm a m cap x hxl ha w es).2
 clear hi
 repeat (first | refine Walk.cx ?_ | refine Walk.cR ?_ | (refine Walk.oq ?_; try walk_nrm) | (refine Walk.un ?_; walk_nrm))
 exact Walk.ret1 rfl rfl Try.func80 rfl fun d => ⟨by simp, d, rfl⟩
end
theorem playO_zero (L : La) (s0 : L.Sg) (ops : Nat → List OpV) (most : Int) (sl : List Int) : playO L s0 ops 0 most sl = (x0O L s0, []) := by
 have hov : overA (absO L 0 (min (max most 0) 1048576) ops) (x0O L s0, []) = true := rfl
 have hst : ∀ z, stepA (absO L 0 (min (max most 0) 1048576) ops) (x0O L s0, []) z = (x0O L s0, []) := fun z => by
  unfold stepA
  rw [hov]
  exact if_neg fun h => by cases h.1
 have hfold : ∀ l : List Int, l.foldl (stepA (absO L 0 (min (max most 0) 1048576) ops)) (x0O L s0, []) = (x0O L s0, []) := fun l => by
  induction l with
  | nil => rfl
  | cons z l ih => rw [List.foldl_cons, hst, ih]
 show restA _ _ (sl.foldl _ (x0O L s0, [])) = _
 rw [hfold]
 generalize (absO L 0 (min (max most 0) 1048576) ops).most.toNat = f
 cases f with
 | zero => rfl
 | succ f =>
  unfold restA
  rw [hov]
  rfl
section
variable {L : La} {fdo : FuncId} {first cap : Array Value}
theorem ops_any (hD : DoFn L fdo first cap) (s0 : L.Sg) (tv : Value) (most : Int) (ta : Option Addr) (tb toff tc n : Nat) (hta : 0 < n → ta = some ⟨tb, toff, none⟩) (hn : n ≤ 64) (oa : Nat → Option Addr) (ln oc : Nat → Nat) (ops : Nat → List OpV) (sa : Option Addr) (sc : Nat) (sl : List Int) (hsl : sl.length ≤ 17592186044416) (c : Frame) (cs : List Frame) (w : World)
  (I : OpsIn tb toff n oa ln oc ops w) (hI : L.I s0 w) (hns : ∀ i, i < n → ∀ (j : Nat) (o : OpV), (ops i)[j]? = some o → ∀ b off, oa i = some ⟨b, off, none⟩ → ¬ L.sh b)
  (hsc : ∀ (j : Nat) (z : Int), sl[j]? = some z → ∃ s so, sa = some ⟨s, so, none⟩ ∧ w.cell? ⟨s, so + j, none⟩ = some (.int .i64 z) ∧ ¬ L.sh s)
  (hp : ∀ w' : World, (∀ b, b < w.heap.size → w'.heap[b]? = w.heap[b]?) → CallV Try.prog true (fun _ => none) 80 #[tv] w' (.slice ta n tc) w') :
  Runs (fun g w' => ∃ cells, OpsOut L s0 ops n most sl w w' cells ∧ g = G (c.finish (.agg cells)) cs) (G (Frame.enter Try.prog 29 #[tv, .func (.func fdo) first cap, .slice sa sl.length sc, .int .i64 most] .normal) (c :: cs)) w := by
 rcases Nat.eq_zero_or_pos n with h0 | h1
 ·subst h0
  have hA : ∀ b, Apart (fun _ => none) b := fun b => ⟨fun _ _ _ _ h => (by cases h), fun _ _ h => (by cases h)⟩
  refine Runs.walk (ops_in fdo first cap tv (.slice sa sl.length sc) most ta tb toff tc 0 hta hn oa ln oc ops c cs w I (fun b _ => hA b) hp) ?_
  rintro _ w2 ⟨fr, w1, rfl, o1, s1, hT, M, hB⟩
  have s2 : w2.heap.size = w.heap.size + 1 + 4 + 2 * 0 := M.size
  have hN := M.cN
  have o2 : ∀ b, b < w.heap.size + 1 → w2.heap[b]? = w1.heap[b]? := fun b hb => M.old b hb
  have hc2 : ∀ {b j : Nat} {v : Value}, w.cell? ⟨b, j, none⟩ = some v → w2.cell? ⟨b, j, none⟩ = some v := fun {b j v} h => (World.cell?_of_block (a := ⟨b, j, none⟩) ((o2 b (by have := cell_lt' h; omega)).trans (o1 b (cell_lt' h)))).trans h
  refine Runs.walk (over_zero' sa sl.length sc 0 (some ⟨w.heap.size + 4, 0, none⟩) most _ fr (c :: cs) w2 ?_ fun h => ?_) ?_
  ·have := first_some (main := true) (V := fun _ => none) (w.heap.size + 4) 0 0 w2 (Nat.le_refl _)
   simpa using this
  ·obtain ⟨s, so, e, hc, _⟩ := hsc 0 (sl[0]'h) (List.getElem?_eq_getElem h)
   exact ⟨s, so, _, e, hc2 hc⟩
  rintro _ _ ⟨rfl, d, rfl⟩
  have o3 : ∀ b, b < w2.heap.size → ((turnW w2 0 most).alloc (.cells (madeCells #[.bool false] 0) 4)).heap[b]? = w2.heap[b]? := fun b hb => by
   rw [heap_new_lt _ _ (by simp [turnW]; omega)]
   exact heap_new_lt _ _ hb
  have s3 : w2.heap.size ≤ ((turnW w2 0 most).alloc (.cells (madeCells #[.bool false] 0) 4)).heap.size := by simp [turnW]; omega
  generalize (turnW w2 0 most).alloc (.cells (madeCells #[.bool false] 0) 4) = w3 at *
  have hT3 : (w3.at d).heap[w.heap.size]? = some (.cells #[.slice none 0 0, .slice none 0 0, .slice none 0 0, .bool false] 29) := (o3 _ (by omega)).trans ((o2 _ (by omega)).trans hT)
  refine Runs.walk (hB none 0 0 _ false _ hT3 (hA _)) ?_
  rintro _ _ ⟨rfl, d', rfl⟩
  have hset : ∀ b, b ≠ w.heap.size → ((w3.at d).setRow w.heap.size #[.slice (some ⟨w.heap.size + 2, 0, none⟩) 0 0, .slice none 0 0, .slice none 0 0, .bool false]).heap[b]? = w3.heap[b]? := fun b hb => setRow_other _ _ hb
  have hold : ∀ b, b < w.heap.size → ((w3.at d).setRow w.heap.size #[.slice (some ⟨w.heap.size + 2, 0, none⟩) 0 0, .slice none 0 0, .slice none 0 0, .bool false]).heap[b]? = w.heap[b]? := fun b hb => (hset b (by omega)).trans ((o3 b (by omega)).trans ((o2 b (by omega)).trans (o1 b hb)))
  have e1 : (playO L s0 ops 0 most sl).2 = [] := by rw [playO_zero]
  have e2 : (playO L s0 ops 0 most sl).1 = x0O L s0 := by rw [playO_zero]
  refine .now ⟨_, ⟨⟨w.heap.size + 2, none, 0, fun _ => .slice none 0 0, madeCells #[.slice none 0 0] 0, ?_, ?_, by omega, ?_, fun i hi => absurd hi (Nat.not_lt_zero _), fun i hi => absurd hi (Nat.not_lt_zero _)⟩, ?_, fun b hb _ => hold b hb, ?_⟩, rfl⟩
  ·rw [e1, e2]; rfl
  ·rw [e1]; exact ⟨rfl, .inl ⟨rfl, rfl⟩⟩
  ·exact (hset _ (by omega)).trans ((o3 _ (by omega)).trans hN)
  ·rw [e2]
   exact L.stable hI fun b h => hold b (L.lt hI h)
  ·show w.heap.size ≤ (World.setRow _ _ _).heap.size
   rw [setRow_size]
   show _ ≤ w3.heap.size
   omega
 ·obtain rfl := hta h1
  exact ops_run hD s0 tv most tb toff tc n h1 hn oa ln oc ops sa sc sl hsl c cs w I hI hns hsc hp
end
end
section
section
variable {X : Type}
inductive Stps (C : Abs X) : X × List Nat → X × List Nat → Prop
 | refl (st : X × List Nat) : Stps C st st
 | step {st st' : X × List Nat} (i : Nat) (h : Stps C st st') (hi : i < C.n) (ho : C.out st'.1 i = none) : Stps C st (C.next st'.1 i, st'.2 ++ [i])
theorem Stps.trans {C : Abs X} {a b c : X × List Nat} (h : Stps C a b) (k : Stps C b c) : Stps C a c := by
 induction k with
 | refl => exact h
 | step i _ hi ho ih => exact .step i ih hi ho
theorem Stps.pre {C : Abs X} {a b : X × List Nat} (h : Stps C a b) : ∃ l, b.2 = a.2 ++ l ∧ (l = [] → b = a) ∧ (l ≠ [] → ∃ i, i < C.n ∧ C.out a.1 i = none) := by
 induction h with
 | refl => exact ⟨[], by simp, fun _ => rfl, fun h => absurd rfl h⟩
 | @step st' i h hi ho ih =>
  obtain ⟨l, h1, h2, h3⟩ := ih
  refine ⟨l ++ [i], by simp [h1], fun e => by simp at e, fun _ => ?_⟩
  by_cases hl : l = []
  ·rw [h2 hl] at ho
   exact ⟨i, hi, ho⟩
  ·exact h3 hl
theorem Stps.out {C : Abs X} (hn : ∀ x i j, j ≠ i → C.out (C.next x i) j = C.out x j) {a b : X × List Nat} (h : Stps C a b) {j : Nat} {v : Bool} (hv : C.out a.1 j = some v) : C.out b.1 j = some v := by
 induction h with
 | refl => exact hv
 | step i _ hi ho ih =>
  have hne : j ≠ i := fun e => by rw [e, ho] at ih; cases ih
  show C.out (C.next _ i) j = _
  rw [hn _ _ _ hne]; exact ih
theorem Stps.keep {C : Abs X} {P : X × List Nat → Prop} (hP : ∀ st i, P st → i < C.n → C.out st.1 i = none → P (C.next st.1 i, st.2 ++ [i])) {a b : X × List Nat} (h : Stps C a b) (ha : P a) : P b := by
 induction h with
 | refl => exact ha
 | step i _ hi ho ih => exact hP _ i ih hi ho
theorem step_stps (C : Abs X) (st : X × List Nat) (z : Int) : Stps C st (stepA C st z) := by
 unfold stepA
 split
 ·next h => exact .step _ (.refl st) (by omega) h.2.2.2
 ·exact .refl st
theorem foldn_stps (C : Abs X) : ∀ (l : List Nat) (st : X × List Nat), Stps C st (l.foldl (fun st i => stepA C st (i : Nat)) st)
 | [], st => .refl st
 | z :: l, st => (step_stps C st z).trans (foldn_stps C l _)
theorem round_stps (C : Abs X) (st : X × List Nat) : Stps C st (roundA C st) := foldn_stps C _ st
theorem rest_stps (C : Abs X) : ∀ (f : Nat) (st : X × List Nat), Stps C st (restA C f st)
 | 0, st => .refl st
 | f + 1, st => by
  unfold restA
  split
  ·exact .refl st
  ·exact (round_stps C st).trans (rest_stps C f _)
theorem stepA_len (C : Abs X) (st : X × List Nat) (z : Int) : st.2.length ≤ (stepA C st z).2.length := by
 unfold stepA
 split
 ·simp
 ·exact Nat.le_refl _
theorem roundA_mono (C : Abs X) : ∀ (l : List Nat) (st : X × List Nat), st.2.length ≤ (l.foldl (fun st i => stepA C st (i : Nat)) st).2.length
 | [], _ => Nat.le_refl _
 | _ :: l, _ => Nat.le_trans (stepA_len C _ _) (roundA_mono C l _)
theorem roundA_grow (C : Abs X) {i : Nat} (hi : i < C.n) : ∀ (l : List Nat) (st : X × List Nat), i ∈ l → overA C st = false → C.out st.1 i = none → st.2.length + 1 ≤ (l.foldl (fun st i => stepA C st (i : Nat)) st).2.length
 | [], _, h, _, _ => by cases h
 | a :: l, st, h, ho, hn => by
  rw [List.foldl_cons]
  by_cases hs : overA C st = false ∧ 0 ≤ (a : Int) ∧ (a : Int) < C.n ∧ C.out st.1 (a : Int).toNat = none
  ·have : (stepA C st a).2.length = st.2.length + 1 := by unfold stepA; rw [if_pos hs]; simp
   rw [← this]
   exact roundA_mono C l _
  ·have : stepA C st a = st := by unfold stepA; rw [if_neg hs]
   rw [this]
   rcases List.mem_cons.1 h with rfl | h
   ·exact absurd ⟨ho, by omega, by omega, by simpa using hn⟩ hs
   ·exact roundA_grow C hi l st h ho hn
theorem roundA_one (C : Abs X) {st : X × List Nat} (h : overA C st = false) : st.2.length + 1 ≤ (roundA C st).2.length := by
 have hg : goingA C st.1 ≠ 0 := by
  intro e
  unfold overA at h
  rw [e] at h
  simp at h
 obtain ⟨i, hi, hn⟩ := List.countP_pos_iff.1 (Nat.pos_of_ne_zero hg)
 have hi : i < C.n := List.mem_range.1 hi
 exact roundA_grow C hi _ _ (List.mem_range.2 hi) h (by simpa using hn)
theorem rest_on (C : Abs X) {f : Nat} {st : X × List Nat} (h : overA C st = false) : restA C (f + 1) st = restA C f (roundA C st) := by
 show (if overA C st then st else restA C f (roundA C st)) = _
 rw [h]; rfl
theorem rest_off (C : Abs X) {f : Nat} {st : X × List Nat} (h : overA C st = true) : restA C (f + 1) st = st := by
 show (if overA C st then st else restA C f (roundA C st)) = _
 rw [h]; rfl
def Abs.withMost (C : Abs X) (m : Int) : Abs X := { C with most := m }
section
variable {C : Abs X} {m1 m2 : Nat}
def Both2 (C : Abs X) (m1 : Nat) (a b : X × List Nat) : Prop := Stps C a b ∧ a.2.length ≤ m1 ∧ (a = b ∨ a.2.length = m1)
theorem stps_most {m : Int} {a b : X × List Nat} (h : Stps (C.withMost m) a b) : Stps C a b := by
 induction h with
 | refl => exact .refl _
 | step i _ hi ho ih => exact .step i ih hi ho
theorem over_most (m : Nat) (st : X × List Nat) : overA (C.withMost m) st = (decide (goingA C st.1 = 0) || decide (m ≤ st.2.length)) := by
 unfold overA
 have : decide ((C.withMost m).most ≤ (st.2.length : Int)) = decide (m ≤ st.2.length) := decide_eq_decide.2 (by show (m : Int) ≤ _ ↔ _; omega)
 rw [this]
 rfl
theorem Both2.stp (hm : m1 ≤ m2) {a b : X × List Nat} (h : Both2 C m1 a b) (z : Int) : Both2 C m1 (stepA (C.withMost m1) a z) (stepA (C.withMost m2) b z) := by
 obtain ⟨h1, h2, h3⟩ := h
 have sb := stps_most (step_stps (C.withMost m2) b z)
 by_cases hc : overA (C.withMost m1) a = false ∧ 0 ≤ z ∧ z < C.n ∧ C.out a.1 z.toNat = none
 ·have ho := hc.1
  rw [over_most] at ho
  simp only [Bool.or_eq_false_iff, decide_eq_false_iff_not] at ho
  have hab : a = b := h3.resolve_right (by omega)
  subst hab
  have ho2 : overA (C.withMost m2) a = false := by
   rw [over_most]
   simp only [Bool.or_eq_false_iff, decide_eq_false_iff_not]
   omega
  have e1 : stepA (C.withMost m1) a z = (C.next a.1 z.toNat, a.2 ++ [z.toNat]) := by unfold stepA; exact if_pos hc
  have e2 : stepA (C.withMost m2) a z = (C.next a.1 z.toNat, a.2 ++ [z.toNat]) := by unfold stepA; exact if_pos ⟨ho2, hc.2⟩
  rw [e1, e2]
  exact ⟨.refl _, by simp; omega, .inl rfl⟩
 ·have e1 : stepA (C.withMost m1) a z = a := by unfold stepA; exact if_neg hc
  rw [e1]
  refine ⟨h1.trans sb, h2, ?_⟩
  rcases h3 with rfl | h3
  ·by_cases hc2 : overA (C.withMost m2) a = false ∧ 0 ≤ z ∧ z < C.n ∧ C.out a.1 z.toNat = none
   ·right
    have ho2 := hc2.1
    rw [over_most] at ho2
    simp only [Bool.or_eq_false_iff, decide_eq_false_iff_not] at ho2
    have ho1 : overA (C.withMost m1) a = true := by
     cases h : overA (C.withMost m1) a with
     | true => rfl
     | false => exact absurd ⟨h, hc2.2⟩ hc
    rw [over_most] at ho1
    simp only [Bool.or_eq_true, decide_eq_true_eq] at ho1
    omega
   ·left
    unfold stepA
    exact (if_neg hc2).symm
  ·exact .inr h3
theorem Both2.fold (hm : m1 ≤ m2) : ∀ (l : List Int) {a b : X × List Nat}, Both2 C m1 a b → Both2 C m1 (l.foldl (stepA (C.withMost m1)) a) (l.foldl (stepA (C.withMost m2)) b)
 | [], _, _, h => h
 | z :: l, _, _, h => Both2.fold hm l (h.stp hm z)
theorem Both2.foldn (hm : m1 ≤ m2) : ∀ (l : List Nat) {a b : X × List Nat}, Both2 C m1 a b → Both2 C m1 (l.foldl (fun st i => stepA (C.withMost m1) st (i : Nat)) a) (l.foldl (fun st i => stepA (C.withMost m2) st (i : Nat)) b)
 | [], _, _, h => h
 | z :: l, _, _, h => Both2.foldn hm l (h.stp hm z)
theorem Both2.rest (hm : m1 ≤ m2) : ∀ (f1 f2 : Nat) {a b : X × List Nat}, Both2 C m1 a b → m1 ≤ a.2.length + f1 → f1 ≤ f2 → Both2 C m1 (restA (C.withMost m1) f1 a) (restA (C.withMost m2) f2 b)
 | 0, f2, a, b, h, hf, _ => by
  exact ⟨h.1.trans (stps_most (rest_stps (C.withMost m2) f2 b)), h.2.1, .inr (by show a.2.length = m1; have := h.2.1; omega)⟩
 | f1 + 1, 0, _, _, _, _, hf => absurd hf (by omega)
 | f1 + 1, f2 + 1, a, b, h, hf, hff => by
  obtain ⟨h1, h2, h3⟩ := h
  have sb := stps_most (rest_stps (C.withMost m2) (f2 + 1) b)
  cases ho : overA (C.withMost m1) a with
  | true =>
   have e1 : restA (C.withMost m1) (f1 + 1) a = a := rest_off _ ho
   rw [e1]
   by_cases hl : a.2.length = m1
   ·exact ⟨h1.trans sb, h2, .inr hl⟩
   ·have hab : a = b := h3.resolve_right hl
    subst hab
    rw [over_most] at ho
    simp only [Bool.or_eq_true, decide_eq_true_eq] at ho
    have hg : goingA C a.1 = 0 := by omega
    have ho2 : overA (C.withMost m2) a = true := by
     rw [over_most]
     simp only [Bool.or_eq_true, decide_eq_true_eq]
     exact .inl hg
    have e2 : restA (C.withMost m2) (f2 + 1) a = a := rest_off _ ho2
    rw [e2]
    exact ⟨.refl a, h2, .inl rfl⟩
  | false =>
   have hlen := roundA_one (C.withMost m1) ho
   have e1 : restA (C.withMost m1) (f1 + 1) a = restA (C.withMost m1) f1 (roundA (C.withMost m1) a) := rest_on _ ho
   rw [e1]
   rw [over_most] at ho
   simp only [Bool.or_eq_false_iff, decide_eq_false_iff_not] at ho
   have hab : a = b := h3.resolve_right (by omega)
   subst hab
   have ho2 : overA (C.withMost m2) a = false := by
    rw [over_most]
    simp only [Bool.or_eq_false_iff, decide_eq_false_iff_not]
    omega
   have e2 : restA (C.withMost m2) (f2 + 1) a = restA (C.withMost m2) f2 (roundA (C.withMost m2) a) := rest_on _ ho2
   rw [e2]
   exact Both2.rest hm f1 f2 (Both2.foldn hm _ ⟨.refl a, h2, .inl rfl⟩) (by omega) (by omega)
theorem Both2.follow (hm : m1 ≤ m2) {a : X × List Nat} (ha : a.2.length ≤ m1) (l : List Int) : Both2 C m1 (followA (C.withMost m1) a l) (followA (C.withMost m2) a l) :=
 Both2.rest hm _ _ (Both2.fold hm l ⟨.refl a, ha, .inl rfl⟩) (by show m1 ≤ _ + (m1 : Int).toNat; omega) (by show (m1 : Int).toNat ≤ (m2 : Int).toNat; omega)
end
end
end
end Go.Proofs.Ytdcjgmlgmjjogaa
