/- Part 23. -/
import Derived.Test.YtgfajibjedfkdaaJK3
import Derived.Test.YtgfajibjedfkdaaJK11
import Derived.Test.YtgfajibjedfkdaaJK15
import Derived.Test.YtgfajibjedfkdaaJK22
import Derived.Deep.Upon
set_option linter.unusedSimpArgs false
set_option linter.unusedVariables false
set_option linter.unusedVariables false
set_option maxHeartbeats 8000000
set_option maxRecDepth 100000
namespace Go.Proofs.Ytgfajibjedfkdaa
open Go.Conc Go.RowKit Go.Relay
open Go.ConcN (upd upd_ne upd_same)
section
noncomputable def reg29_0 := rg Try.f29.body [0]
noncomputable def reg29_1 := rg Try.f29.body [1, 0]
noncomputable def reg29_2 := rg Try.f29.body [1, 1, 0, 0]
noncomputable def reg29_3 := rg Try.f29.body [1, 1, 0, 1, 0, 0, 0]
noncomputable def reg29_4 := rg Try.f29.body [1, 1, 0, 1, 0, 0, 1, 1, 0, 0, 0]
noncomputable def reg29_5 := rg Try.f29.body [1, 1, 0, 1, 0, 0, 1, 1, 0, 0, 1]
noncomputable def reg29_6 := rg Try.f29.body [1, 1, 0, 1, 0, 0, 1, 1, 1]
noncomputable def reg29_7 := rg Try.f29.body [1, 1, 1, 0]
theorem z29 : List.range reg29_0.size = [0] ∧ List.range reg29_1.size = [0, 1, 2] ∧ List.range reg29_2.size = [0] ∧ List.range reg29_3.size = [0] ∧ List.range reg29_4.size = [0, 1] ∧ List.range reg29_5.size = [0, 1, 2, 3, 4, 5] ∧ List.range reg29_6.size = [0, 1] ∧ List.range reg29_7.size = [0, 1] := by refine ⟨?_, ?_, ?_, ?_, ?_, ?_, ?_, ?_⟩ <;> kernel_rfl
theorem code29_is : Try.f29.body = some (.seq (.region 0 reg29_0 false) (.seq (.region 1 reg29_1 false) (.seq (.seq (.region 2 reg29_2 false) (.block 0 (.loop (.seq (.region 3 reg29_3 false) (.seq (.cond (.tmp 6 ) (.skip) (.exit 0)) (.seq (.block 1 (.seq (.region 4 reg29_4 false) (.region 5 reg29_5 false))) (.region 6 reg29_6 false))))))) (.seq (.region 7 reg29_7 false) (.ret))))) := by kernel_rfl
noncomputable def hdNg (gb i : Nat) (u : Nat → Value) : Frame :=
  (base 29).at { tmps := #[u 0, .pointer (some ⟨gb, 0, none⟩), u 2, u 3, u 4, .int .i64 i, u 6, u 7, u 8, u 9, u 10, u 11, u 12, u 13, u 14, u 15], defers := [] } [.code (.seq (.region 3 reg29_3 false) (.seq (.cond (.tmp 6 ) (.skip) (.exit 0)) (.seq (.block 1 (.seq (.region 4 reg29_4 false) (.region 5 reg29_5 false))) (.region 6 reg29_6 false)))), .inLoop (.seq (.region 3 reg29_3 false) (.seq (.cond (.tmp 6 ) (.skip) (.exit 0)) (.seq (.block 1 (.seq (.region 4 reg29_4 false) (.region 5 reg29_5 false))) (.region 6 reg29_6 false)))), .inBlock 0, .code (.seq (.region 7 reg29_7 false) (.ret))]
def ngArr (i : Nat) : Array Value := #[.pointer none] ++ ((List.replicate i (Value.int .i64 (-1))) ++ List.replicate (64 - i) (Value.int .i64 0)).toArray
theorem ngArr_zero : Try.zeroCells105 = ngArr 0 := by kernel_rfl
theorem ngArr_set (j : Nat) (hj : j < 64) : (ngArr j).setIfInBounds (1 + j) (.int .i64 (-1)) = ngArr (j + 1) := by
  apply Array.ext'
  obtain ⟨m, hm⟩ : ∃ m, 64 - j = m + 1 := ⟨64 - j - 1, by omega⟩
  have hm2 : 64 - (j + 1) = m := by omega
  unfold ngArr
  rw [hm, hm2, Nat.add_comm 1 j, List.replicate_succ' (n := j), List.replicate_succ (n := m)]
  simp [List.set_append]
theorem ngArr_at (j : Nat) (hj : j < 64) : (ngArr j)[1 + j]? = some (.int .i64 0) := by
  obtain ⟨m, hm⟩ : ∃ m, 64 - j = m + 1 := ⟨64 - j - 1, by omega⟩
  unfold ngArr
  rw [hm, Nat.add_comm 1 j]
  simp [List.replicate_succ]
section
variable {main : Bool} {V : Nat → Option Wait}
theorem ng_in (w : World) (cs : List Frame) :
    Walk Try.prog main (DR V) (fun g w' => (∃ u, g = G (hdNg w.heap.size 0 u) cs) ∧ ∃ d, w' = (w.alloc (.cells (ngArr 0) 105)).at d) (G (Frame.enter Try.prog 29 #[] .normal) cs) w := by
  rw [← ngArr_zero]
  rw [enter_at _ Try.func29 code29_is]
  simp only [Try.ntmps29, ez, Nat.reduceAdd, Nat.reduceSub]
  repeat (first | refine Walk.cx ?_ | (refine Walk.cReg ?_; simp only [z29]) | (refine Walk.oq ?_; try walk_nrm) | (refine Walk.un ?_; walk_nrm))
  (refine Walk.oa ?_; try walk_nrm)
  generalize w.alloc (.cells Try.zeroCells105 105) = w2 at *
  repeat (first | refine Walk.cx ?_ | (refine Walk.cReg ?_; simp only [z29]) | (refine Walk.oq ?_; try walk_nrm) | (refine Walk.un ?_; walk_nrm))
  refine Walk.ctl rfl (fun w => stepG_loop) ?_
  refine .stop fun d => ⟨at_slots ?_, d, rfl⟩
  simp only [hdNg]
  rfl
structure NgI (w0 : World) (j : Nat) (w : World) : Prop where
  blk : w.heap[w0.heap.size]? = some (.cells (ngArr j) 105)
  old : ∀ b, b < w0.heap.size → w.heap[b]? = w0.heap[b]?
theorem ng_go (j : Nat) (hj : j < 64) (u : Nat → Value) (cs : List Frame) (w0 w : World) (M : NgI w0 j w) (hA : ∀ b, w0.heap.size ≤ b → Apart V b) :
    Walk Try.prog main (DR V) (fun g w' => (∃ u, g = G (hdNg w0.heap.size (j + 1) u) cs) ∧ ∃ w1 d, NgI w0 (j + 1) w1 ∧ w' = w1.at d) (G (hdNg w0.heap.size j u) cs) w := by
  have hap := hA w0.heap.size (Nat.le_refl _)
  have hst := store_nil (main := main) (V := V) w0.heap.size (1 + j) (.int .i64 0) (-1) w ((cell_of M.blk _).trans (ngArr_at j hj)) (frozen_of M.blk _) (hap.1 ⟨w0.heap.size, 1 + j, none⟩ rfl)
  have hI : NgI w0 (j + 1) (w.setCell ⟨w0.heap.size, 1 + j, none⟩ (.int .i64 (-1))) := ⟨by rw [heap_set_self _ _ M.blk, ngArr_set j hj], fun b hb => (heap_set_other _ _ _ _ (fun h : b = w0.heap.size => absurd hb (by omega))).trans (M.old b hb)⟩
  clear hap hA M
  generalize hq : NgI w0 = Q at *
  generalize w0.heap.size = gb at *
  have hx1 := fun w => (ix_num gb j hj w #[]).1
  have hx2 := fun w es => (ix_num gb j hj w es).2
  have hi0 : (0 : Int) ≤ j := by omega
  have hi1 : decide ((j : Int) < 64) = true := by simp; omega
  have hi3 : decide (j < 64) = true := by simp; omega
  have hi4 : (j : Int) < 64 := by omega
  have hw1 : IntKind.wrap .i64 ((j : Int) + 1) = (j : Int) + 1 := by rw [IntKind.wrap_i64]; omega
  have hcc : ((j + 1 : Nat) : Int) = (j : Int) + 1 := by simp
  have hp1 := fun w => run_eql_ptr (P := Try.prog) 74 undGate (some ⟨gb, 0, none⟩) w
  have hp2 := fun w es => ev_eql_ptr (P := Try.prog) 74 undGate (some ⟨gb, 0, none⟩) w es
  simp only [Option.isNone_some] at hp1
  unfold hdNg
  repeat (first | refine Walk.cx ?_ | (refine Walk.cReg ?_; simp only [z29]) | (refine Walk.oq ?_; try walk_nrm) | (refine Walk.un ?_; walk_nrm))
  refine Walk.callV (x := .tuple #[]) (W := w.setCell ⟨gb, 1 + j, none⟩ (.int .i64 (-1))) ?_ (ho_of (by conv => lhs; whnf) (by kernel_rfl)) (by rfl) (by decide) rfl Try.func69 (by kernel_rfl) (by rfl) ?_
  · walk_nrm
    exact hst
  clear hst
  generalize w.setCell ⟨gb, 1 + j, none⟩ (.int .i64 (-1)) = w6 at *
  walk_nrm
  repeat (first | refine Walk.cx ?_ | (refine Walk.cReg ?_; simp only [z29]) | (refine Walk.oq ?_; try walk_nrm) | (refine Walk.un ?_; walk_nrm))
  refine Walk.ctl rfl (fun w => stepG_inLoop) ?_
  refine .stop fun d => ⟨at_slots ?_, w6, d, hI, rfl⟩
  simp only [hdNg, hcc]
  rfl
theorem ng_end (gb : Nat) (u : Nat → Value) (c : Frame) (cs : List Frame) (w : World) :
    Walk Try.prog main (DR V) (fun g w' => g = G (c.finish (.pointer (some ⟨gb, 0, none⟩))) cs ∧ ∃ d, w' = w.at d) (G (hdNg gb 64 u) (c :: cs)) w := by
  unfold hdNg
  repeat (first | refine Walk.cx ?_ | (refine Walk.cReg ?_; simp only [z29]) | (refine Walk.oq ?_; try walk_nrm) | (refine Walk.un ?_; walk_nrm))
  exact Walk.on1 rfl rfl Try.func29 rfl (.stop fun d => ⟨rfl, d, rfl⟩)
theorem ngate_w (w : World) (hA : ∀ b, w.heap.size ≤ b → Apart V b) : CallW Try.prog main V 29 #[] w (fun v w' => v = .pointer (some ⟨w.heap.size, 0, none⟩) ∧ NgI w 64 w') := by
  intro fr cs
  refine (ng_in w (fr :: cs)).then ?_
  rintro g w' ⟨⟨u, rfl⟩, d, rfl⟩
  refine Walk.back ?_ d
  have loop : ∀ (r i : Nat) (u : Nat → Value) (w1 : World), i + r = 64 → NgI w i w1 →
      Walk Try.prog main (DR V) (fun g w' => ∃ v, (v = .pointer (some ⟨w.heap.size, 0, none⟩) ∧ NgI w 64 w') ∧ g = G (fr.finish v) cs) (G (hdNg w.heap.size i u) (fr :: cs)) w1 := by
    intro r
    induction r with
    | zero =>
      intro i u w1 hi M
      obtain rfl : i = 64 := hi
      refine (ng_end _ u fr cs w1).mono ?_
      rintro g w' ⟨rfl, d, rfl⟩
      exact ⟨_, ⟨rfl, M.blk, M.old⟩, rfl⟩
    | succ r ih =>
      intro i u w1 hi M
      refine (ng_go i (by omega) u (fr :: cs) w w1 M hA).then ?_
      rintro g w' ⟨⟨u', rfl⟩, w2, d, M2, rfl⟩
      exact Walk.back (ih (i + 1) u' w2 (by omega) M2) d
  exact loop 64 0 u _ (Nat.zero_add _) ⟨heap_alloc_new _ _, fun b hb => heap_new_lt _ _ hb⟩
theorem NgI.gt {w0 w : World} (h : NgI w0 64 w) : GtI w0.heap.size [Hl.no] ⟨0, [], fun _ => -1⟩ w := by
  refine ⟨rfl, ⟨_, Hl.no, h.blk, by simp [ngArr], rfl, rfl, rfl, fun i hi => ?_⟩, fun x hx => ?_, fun i j x x' hi hj _ => ?_, fun x hx => ?_⟩
  · show (ngArr 64)[1 + i]? = some (Value.int .i64 (-1))
    obtain ⟨n, hn⟩ : ∃ n, n = 64 := ⟨64, rfl⟩
    have h1 : (ngArr n)[1 + i]? = some (Value.int .i64 (-1)) := by
      unfold ngArr
      rw [Nat.add_comm 1 i]
      simp [List.getElem?_append, List.getElem?_replicate, show i < n by omega]
    rw [hn] at h1
    exact h1
  · rw [List.mem_singleton.1 hx]
    exact HlI.none w
  · have h1 := (List.getElem?_eq_some_iff.1 hi).1
    have h2 := (List.getElem?_eq_some_iff.1 hj).1
    simp at h1 h2
    omega
  · rw [List.mem_singleton.1 hx]
    rintro (e | e)
    · cases e
    · cases e
end
end
section
noncomputable def reg35_0 := rg Try.f35.body [0]
noncomputable def reg35_1 := rg Try.f35.body [1, 0, 0]
noncomputable def reg35_2 := rg Try.f35.body [1, 0, 1, 0, 0]
noncomputable def reg35_3 := rg Try.f35.body [1, 1, 0]
noncomputable def reg35_4 := rg Try.f35.body [1, 1, 1, 0, 0]
noncomputable def reg35_5 := rg Try.f35.body [1, 1, 1, 0, 1, 0, 0, 0]
noncomputable def reg35_6 := rg Try.f35.body [1, 1, 1, 0, 1, 0, 0, 1, 1, 0, 0, 0]
noncomputable def reg35_7 := rg Try.f35.body [1, 1, 1, 0, 1, 0, 0, 1, 1, 0, 0, 1]
noncomputable def reg35_8 := rg Try.f35.body [1, 1, 1, 0, 1, 0, 0, 1, 1, 1]
noncomputable def reg35_9 := rg Try.f35.body [1, 1, 1, 1, 0]
theorem z35 : List.range reg35_0.size = [0] ∧ List.range reg35_1.size = [0, 1] ∧ List.range reg35_2.size = [0] ∧ List.range reg35_3.size = [0, 1] ∧ List.range reg35_4.size = [0, 1, 2] ∧ List.range reg35_5.size = [0] ∧ List.range reg35_6.size = [0, 1] ∧ List.range reg35_7.size = [0, 1, 2, 3, 4, 5, 6, 7, 8, 9] ∧ List.range reg35_8.size = [0, 1] ∧ List.range reg35_9.size = [0, 1] := by refine ⟨?_, ?_, ?_, ?_, ?_, ?_, ?_, ?_, ?_, ?_⟩ <;> kernel_rfl
theorem code35_is : Try.f35.body = some (.seq (.region 0 reg35_0 false) (.seq (.seq (.region 1 reg35_1 false) (.cond (.tmp 6 ) (.seq (.region 2 reg35_2 false) (.ret)) (.skip))) (.seq (.region 3 reg35_3 false) (.seq (.seq (.region 4 reg35_4 false) (.block 0 (.loop (.seq (.region 5 reg35_5 false) (.seq (.cond (.tmp 11 ) (.skip) (.exit 0)) (.seq (.block 1 (.seq (.region 6 reg35_6 false) (.region 7 reg35_7 false))) (.region 8 reg35_8 false))))))) (.seq (.region 9 reg35_9 false) (.ret)))))) := by kernel_rfl
noncomputable def hdNu (gb N i : Nat) (u : Nat → Value) : Frame :=
  (base 35).at { tmps := #[.pointer (some ⟨gb, 0, none⟩), u 1, u 2, .slice (some ⟨N, 0, none⟩) 64 64, u 4, u 5, u 6, u 7, u 8, .int .i64 64, .int .i64 i, u 11, u 12, u 13, u 14, u 15, u 16, u 17, u 18, u 19, u 20, u 21, u 22, u 23], defers := [] } [.code (.seq (.region 5 reg35_5 false) (.seq (.cond (.tmp 11 ) (.skip) (.exit 0)) (.seq (.block 1 (.seq (.region 6 reg35_6 false) (.region 7 reg35_7 false))) (.region 8 reg35_8 false)))), .inLoop (.seq (.region 5 reg35_5 false) (.seq (.cond (.tmp 11 ) (.skip) (.exit 0)) (.seq (.block 1 (.seq (.region 6 reg35_6 false) (.region 7 reg35_7 false))) (.region 8 reg35_8 false)))), .inBlock 0, .code (.seq (.region 9 reg35_9 false) (.ret))]
def nuL (s : Gt) (j : Nat) : List Int := (List.range j).map s.n
section
variable {main : Bool} {V : Nat → Option Wait}
structure NuI (w0 : World) (s : Gt) (j : Nat) (w : World) : Prop where
  num : NumB w w0.heap.size (padL (nuL s j) 64)
  old : ∀ b, b < w0.heap.size → w.heap[b]? = w0.heap[b]?
  lo : w0.heap.size < w.heap.size
theorem nu_in (gb : Nat) (s : Gt) (w : World) (cs : List Frame) :
    Walk Try.prog main (DR V) (fun g w' => (∃ u, g = G (hdNu gb w.heap.size 0 u) cs) ∧ ∃ w1 d, NuI w s 0 w1 ∧ w' = w1.at d) (G (Frame.enter Try.prog 35 #[.pointer (some ⟨gb, 0, none⟩)] .normal) cs) w := by
  have hp1 := fun w => run_eql_ptr (P := Try.prog) 74 undGate (some ⟨gb, 0, none⟩) w
  have hp2 := fun w es => ev_eql_ptr (P := Try.prog) 74 undGate (some ⟨gb, 0, none⟩) w es
  simp only [Option.isNone_some] at hp1
  have hi1 := Option.some_get (show (Try.prog.info? 2).isSome = true by kernel_rfl)
  have hI : ∀ w1, NumB w1 w.heap.size (List.replicate 64 0) → (∀ b, b < w.heap.size → w1.heap[b]? = w.heap[b]?) → w.heap.size < w1.heap.size → NuI w s 0 w1 := fun w1 x1 x2 x3 => ⟨x1, x2, x3⟩
  obtain ⟨L64, hL⟩ : ∃ L64, List.replicate 64 (0 : Int) = L64 := ⟨_, rfl⟩
  rw [hL] at hI
  rw [enter_at _ Try.func35 code35_is]
  simp only [Try.ntmps35, ez, Nat.reduceAdd, Nat.reduceSub]
  repeat (first | refine Walk.cx ?_ | (refine Walk.cReg ?_; simp only [z35]) | (refine Walk.oq ?_; try walk_nrm) | (refine Walk.un ?_; walk_nrm))
  refine Walk.make 28 (.const (.int .i64 64)) (.const (.int .i64 64)) (ho_of (by conv => lhs; whnf) (by kernel_rfl)) (by rfl) (by decide) rfl 2 _ (.int .i64 0) 1 8 (by kernel_rfl) hi1.symm (by rfl) (by rfl) (by rfl) 64 (by rfl) (by rfl) (by omega) (by omega) ?_
  simp only [Value.cells, Nat.mul_one, made_zero]
  rw [hL]
  have s1 : (w.alloc (.cells (L64.map fun z => Value.int .i64 z).toArray 2)).heap.size = w.heap.size + 1 := by simp
  have o1 : ∀ b, b < w.heap.size → (w.alloc (.cells (L64.map fun z => Value.int .i64 z).toArray 2)).heap[b]? = w.heap[b]? := fun b hb => heap_new_lt _ _ hb
  have d1 := heap_alloc_new w (.cells (L64.map fun z => Value.int .i64 z).toArray 2)
  have hI1 := hI _ d1 o1 (by omega)
  clear hI d1 o1 s1
  generalize w.alloc (.cells (L64.map fun z => Value.int .i64 z).toArray 2) = w2 at *
  walk_nrm
  repeat (first | refine Walk.cx ?_ | (refine Walk.cReg ?_; simp only [z35]) | (refine Walk.oq ?_; try walk_nrm) | (refine Walk.un ?_; walk_nrm))
  refine Walk.ctl rfl (fun w => stepG_loop) ?_
  refine .stop fun d => ⟨at_slots ?_, w2, d, hI1, rfl⟩
  simp only [hdNu]
  rfl
theorem nu_go (gb : Nat) (y : List Hl) (s : Gt) (j : Nat) (hj : j < 64) (u : Nat → Value) (cs : List Frame) (w0 w : World) (M : NuI w0 s j w) (I : GtI gb y s w0) (hA : ∀ b, w0.heap.size ≤ b → Apart V b) :
    Walk Try.prog main (DR V) (fun g w' => (∃ u, g = G (hdNu gb w0.heap.size (j + 1) u) cs) ∧ ∃ w1 d, NuI w0 s (j + 1) w1 ∧ w' = w1.at d) (G (hdNu gb w0.heap.size j u) cs) w := by
  obtain ⟨hnum, hold, hlo⟩ := M
  have hap := hA w0.heap.size (Nat.le_refl _)
  have hv := value_nil (main := main) (V := V) gb (1 + j) (s.n j) w ((I.same fun b hb => hold b (I.lt hb)).rdN hj).1
  have hl : (nuL s j).length = j := by simp [nuL]
  have c5 := hnum.cell (j := j) (z := 0) (by
    unfold padL
    rw [List.getElem?_append_right (by omega), hl, Nat.sub_self, List.getElem?_replicate, if_pos (by omega)])
  have z5 := hnum.frozen j
  have f5 := hap.1 ⟨w0.heap.size, j, none⟩ rfl
  have hset := hnum.set j (s.n j)
  have hpd := padL_set (l := nuL s j) (n := 64) (by omega) (s.n j)
  rw [hl] at hpd
  have htk : nuL s j ++ [s.n j] = nuL s (j + 1) := by simp [nuL, List.range_succ]
  rw [htk] at hpd
  rw [hpd] at hset
  have hs6 := size_set w ⟨w0.heap.size, j, none⟩ (.int .i64 (s.n j))
  have hI : NuI w0 s (j + 1) (w.setCell ⟨w0.heap.size, j, none⟩ (.int .i64 (s.n j))) := ⟨hset, fun b hb => (heap_set_other _ _ _ _ (fun h : b = w0.heap.size => absurd hb (by omega))).trans (hold b hb), by omega⟩
  clear hset hpd htk hs6 hold hlo hnum hl hA I hap
  generalize s.n j = x at *
  generalize hq : NuI w0 s = Q at *
  generalize w0.heap.size = N at *
  have hx1 := fun w => (ix_num gb j hj w #[]).1
  have hx2 := fun w es => (ix_num gb j hj w es).2
  have hi0 : (0 : Int) ≤ j := by omega
  have hi1 : decide ((j : Int) < 64) = true := by simp; omega
  have hi3 : decide (j < 64) = true := by simp; omega
  have hi4 : (j : Int) < 64 := by omega
  have hw1 : IntKind.wrap .i64 ((j : Int) + 1) = (j : Int) + 1 := by rw [IntKind.wrap_i64]; omega
  have hcc : ((j + 1 : Nat) : Int) = (j : Int) + 1 := by simp
  have hp1 := fun w => run_eql_ptr (P := Try.prog) 74 undGate (some ⟨gb, 0, none⟩) w
  have hp2 := fun w es => ev_eql_ptr (P := Try.prog) 74 undGate (some ⟨gb, 0, none⟩) w es
  simp only [Option.isNone_some] at hp1
  unfold hdNu
  repeat (first | refine Walk.cx ?_ | (refine Walk.cReg ?_; simp only [z35]) | (refine Walk.oq ?_; try walk_nrm) | (refine Walk.un ?_; walk_nrm))
  refine Walk.callV (x := .int .i64 x) (W := w) ?_ (ho_of (by conv => lhs; whnf) (by kernel_rfl)) (by rfl) (by decide) rfl Try.func73 (by kernel_rfl) (by rfl) ?_
  · walk_nrm
    exact hv
  clear hv
  walk_nrm
  repeat (first | refine Walk.cx ?_ | (refine Walk.cReg ?_; simp only [z35]) | (refine Walk.oq ?_; try walk_nrm) | (refine Walk.un ?_; walk_nrm))
  (refine Walk.os f5 c5 ?_; try walk_nrm)
  generalize w.setCell ⟨N, j, none⟩ (.int .i64 x) = w6 at *
  repeat (first | refine Walk.cx ?_ | (refine Walk.cReg ?_; simp only [z35]) | (refine Walk.oq ?_; try walk_nrm) | (refine Walk.un ?_; walk_nrm))
  refine Walk.ctl rfl (fun w => stepG_inLoop) ?_
  refine .stop fun d => ⟨at_slots ?_, w6, d, hI, rfl⟩
  simp only [hdNu, hcc]
  rfl
theorem nu_end (gb N : Nat) (u : Nat → Value) (c : Frame) (cs : List Frame) (w : World) :
    Walk Try.prog main (DR V) (fun g w' => g = G (c.finish (.slice (some ⟨N, 0, none⟩) 64 64)) cs ∧ ∃ d, w' = w.at d) (G (hdNu gb N 64 u) (c :: cs)) w := by
  unfold hdNu
  repeat (first | refine Walk.cx ?_ | (refine Walk.cReg ?_; simp only [z35]) | (refine Walk.oq ?_; try walk_nrm) | (refine Walk.un ?_; walk_nrm))
  exact Walk.on1 rfl rfl Try.func35 rfl (.stop fun d => ⟨rfl, d, rfl⟩)
theorem numbers_w (gb : Nat) (y : List Hl) (s : Gt) (w : World) (I : GtI gb y s w) (hA : ∀ b, w.heap.size ≤ b → Apart V b) : CallW Try.prog main V 35 #[.pointer (some ⟨gb, 0, none⟩)] w (fun v w' => v = .slice (some ⟨w.heap.size, 0, none⟩) 64 64 ∧ NuI w s 64 w') := by
  intro fr cs
  refine (nu_in gb s w (fr :: cs)).then ?_
  rintro g w' ⟨⟨u, rfl⟩, w1, d, M, rfl⟩
  refine Walk.back ?_ d
  have loop : ∀ (r i : Nat) (u : Nat → Value) (w1 : World), i + r = 64 → NuI w s i w1 →
      Walk Try.prog main (DR V) (fun g w' => ∃ v, (v = .slice (some ⟨w.heap.size, 0, none⟩) 64 64 ∧ NuI w s 64 w') ∧ g = G (fr.finish v) cs) (G (hdNu gb w.heap.size i u) (fr :: cs)) w1 := by
    intro r
    induction r with
    | zero =>
      intro i u w1 hi M
      obtain rfl : i = 64 := hi
      refine (nu_end gb _ u fr cs w1).mono ?_
      rintro g w' ⟨rfl, d, rfl⟩
      exact ⟨_, ⟨rfl, M.num, M.old, M.lo⟩, rfl⟩
    | succ r ih =>
      intro i u w1 hi M
      refine (nu_go gb y s i (by omega) u (fr :: cs) w w1 M I hA).then ?_
      rintro g w' ⟨⟨u', rfl⟩, w2, d, M2, rfl⟩
      exact Walk.back (ih (i + 1) u' w2 (by omega) M2) d
  exact loop 64 0 u w1 (Nat.zero_add _) M
end
end
section
noncomputable def reg34_0 := rg Try.f34.body [0]
noncomputable def reg34_1 := rg Try.f34.body [1, 0]
theorem z34 : List.range reg34_0.size = [0] ∧ List.range reg34_1.size = [0, 1, 2] := by refine ⟨?_, ?_⟩ <;> kernel_rfl
theorem code34_is : Try.f34.body = some (.seq (.region 0 reg34_0 false) (.seq (.region 1 reg34_1 false) (.ret))) := by kernel_rfl
section
variable {main : Bool} {V : Nat → Option Wait}
def MemOut (gb : Nat) (y : List Hl) (s : Gt) (w : World) (v : Value) (w' : World) : Prop := ∃ a c y', v = .slice a s.l.length c ∧ NumA a s.l w' ∧ s.l.length ≤ 64 ∧ Lone (gtLa gb) y w (s, ⟨true, 0, s.l⟩) w' y'
theorem members_w (gb : Nat) (y : List Hl) (s : Gt) (w : World) (I : GtI gb y s w) (hA : ∀ b, Apart V b) : CallW Try.prog main V 34 #[.pointer (some ⟨gb, 0, none⟩)] w (MemOut gb y s w) := by
  have hrun : runN (gtLa gb) 2 (s, .inr .t1) = some (s, ⟨true, 0, s.l⟩) := rfl
  refine callW_in Try.func34 code34_is fun fr cs => ?_
  simp only [Try.ntmps34, ez, Nat.reduceAdd, Nat.reduceSub]
  repeat (first | refine Walk.cx ?_ | (refine Walk.cReg ?_; simp only [z34]) | (refine Walk.oq ?_; try walk_nrm) | (refine Walk.un ?_; walk_nrm))
  refine Walk.callLone (L := gtLa gb) (Rel := fun v x w' P => ∃ a c, v = .slice a x.l.length c ∧ NumA a x.l w' ∧ x.l.length ≤ 64) 2 y s (.inr .t1) hA I hrun (fun K e ht => ?_) (ho_of (by conv => lhs; whnf) (by kernel_rfl)) (by rfl) (by decide) rfl Try.func72 (by kernel_rfl) (by rfl) ⟨rfl, rfl, _, Try.func34⟩ ?_
  · walk_nrm
    refine (glist_all K e ht).mono ?_
    rintro v e' ⟨l, h1, ⟨a, c, h2, h3, _⟩, h4⟩
    exact ⟨⟨true, 0, l⟩, ⟨a, c, h2, h3, h1⟩, h4⟩
  rintro v w' y' ⟨a, c, rfl, h3, h1⟩ hL
  have hout : ∀ d, MemOut gb y s w (.slice a s.l.length c) (w'.at d) := fun d => ⟨a, c, y', rfl, fun i x hx => h3 i x hx, h1, ⟨hL.le, (gtLa gb).stable hL.I fun _ _ => rfl, hL.size, hL.old, hL.pub⟩⟩
  clear h3 h1 hL hrun
  replace hout : ∀ d, MemOut gb y s w (.slice a s.l.length c) (w'.at d) := hout
  show Walk _ _ _ _ _ _
  generalize hQ : MemOut gb y s w = Q at *
  walk_nrm
  generalize s.l.length = n at *
  repeat (first | refine Walk.cx ?_ | (refine Walk.cReg ?_; simp only [z34]) | (refine Walk.oq ?_; try walk_nrm) | (refine Walk.un ?_; walk_nrm))
  exact Walk.on1 rfl rfl Try.func34 rfl (.stop fun d => ⟨_, hout d, rfl⟩)
end
end
section
noncomputable def reg64_0 := rg Try.f64.body [0]
noncomputable def reg64_1 := rg Try.f64.body [1, 0]
noncomputable def reg64_2 := rg Try.f64.body [1, 1, 0, 0]
noncomputable def reg64_3 := rg Try.f64.body [1, 1, 0, 1, 0, 0, 0]
noncomputable def reg64_4 := rg Try.f64.body [1, 1, 0, 1, 0, 0, 1, 1, 0, 0, 0]
noncomputable def reg64_5 := rg Try.f64.body [1, 1, 0, 1, 0, 0, 1, 1, 0, 0, 1]
noncomputable def reg64_6 := rg Try.f64.body [1, 1, 0, 1, 0, 0, 1, 1, 1]
noncomputable def reg64_7 := rg Try.f64.body [1, 1, 1, 0]
theorem z64 : List.range reg64_0.size = [0] ∧ List.range reg64_1.size = [0, 1] ∧ List.range reg64_2.size = [0, 1, 2, 3, 4, 5, 6] ∧ List.range reg64_3.size = [0] ∧ List.range reg64_4.size = [0, 1, 2, 3, 4] ∧ List.range reg64_5.size = [0, 1, 2, 3] ∧ List.range reg64_6.size = [0, 1] ∧ List.range reg64_7.size = [0, 1] := by refine ⟨?_, ?_, ?_, ?_, ?_, ?_, ?_, ?_⟩ <;> kernel_rfl
theorem code64_is : Try.f64.body = some (.seq (.region 0 reg64_0 false) (.seq (.region 1 reg64_1 false) (.seq (.seq (.region 2 reg64_2 false) (.block 0 (.loop (.seq (.region 3 reg64_3 false) (.seq (.cond (.tmp 14 ) (.skip) (.exit 0)) (.seq (.block 1 (.seq (.region 4 reg64_4 false) (.region 5 reg64_5 false))) (.region 6 reg64_6 false))))))) (.seq (.region 7 reg64_7 false) (.ret))))) := by kernel_rfl
noncomputable def hdNt (st : Value) (gb : Nat) (sl : Value) (m i : Nat) (u : Nat → Value) : Frame :=
  (base 64).at { tmps := #[st, u 1, u 2, .pointer (some ⟨gb, 0, none⟩), u 4, u 5, u 6, u 7, u 8, u 9, u 10, sl, .int .i64 m, .int .i64 i, u 14, u 15, u 16, u 17, u 18, u 19, u 20, u 21, u 22, u 23], defers := [] } [.code (.seq (.region 3 reg64_3 false) (.seq (.cond (.tmp 14 ) (.skip) (.exit 0)) (.seq (.block 1 (.seq (.region 4 reg64_4 false) (.region 5 reg64_5 false))) (.region 6 reg64_6 false)))), .inLoop (.seq (.region 3 reg64_3 false) (.seq (.cond (.tmp 14 ) (.skip) (.exit 0)) (.seq (.block 1 (.seq (.region 4 reg64_4 false) (.region 5 reg64_5 false))) (.region 6 reg64_6 false)))), .inBlock 0, .code (.seq (.region 7 reg64_7 false) (.ret))]
def gtN (l : List Int) (j : Nat) : Gt := ⟨j, (List.range j).map fun i : Nat => (i : Int), fun i => if i < j then l.getD i 0 else -1⟩
theorem gtN_next (l : List Int) (j : Nat) : ((gtN l j).put j (l.getD j 0)).lay ((gtN l j).l ++ [(j : Int)]) = gtN l (j + 1) := by
  unfold gtN Gt.put Gt.lay
  congr 1
  · simp [List.range_succ]
  · funext i
    by_cases h : i = j
    · subst h
      simp [upd_same]
    · show upd (fun i => if i < j then l.getD i 0 else -1) j (l.getD j 0) i = _
      rw [upd_ne _ _ h]
      by_cases h2 : i < j
      · rw [if_pos h2, if_pos (by omega)]
      · rw [if_neg h2, if_neg (by omega)]
theorem run3 {L : La} {s s1 s2 s3 : L.Sg} {d d1 d2 : L.D} {a : Ans} (h1 : L.act s d = (s1, .inr d1)) (h2 : L.act s1 d1 = (s2, .inr d2)) (h3 : L.act s2 d2 = (s3, .inl a)) : runN L 4 (s, .inr d) = some (s3, a) := by
  simp only [runN, h1, h2, h3]
theorem gtN_run (gb : Nat) (l : List Int) (j : Nat) : runN (gtLa gb) 4 (gtN l j, .inr (.j1 j (l.getD j 0))) = some (gtN l (j + 1), ⟨true, 0, []⟩) := by
  have hn : (j : Int) ∉ (gtN l j).l := by
    unfold gtN
    intro h
    obtain ⟨i, h1, h2⟩ := List.mem_map.1 h
    have := List.mem_range.1 h1
    omega
  have h1 : gtAct (gtN l j) (.j1 j (l.getD j 0)) = (gtN l j, .inr (.j2 j (l.getD j 0) (gtN l j).k (gtN l j).l)) := by
    simp only [gtAct]
    rw [if_neg hn]
  have h3 : gtAct ((gtN l j).put j (l.getD j 0)) (.j3 j (l.getD j 0) (gtN l j).k (gtN l j).l) = (gtN l (j + 1), .inl ⟨true, 0, []⟩) := by
    simp only [gtAct]
    rw [if_pos (show ((gtN l j).put j (l.getD j 0)).k = (gtN l j).k from rfl), gtN_next]
    rfl
  exact run3 (L := gtLa gb) (s := gtN l j) (s1 := gtN l j) (s2 := (gtN l j).put j (l.getD j 0)) h1 rfl h3
def NtI (w0 : World) (gb : Nat) (l : List Int) (j : Nat) (w : World) : Prop := ∃ y, GtI gb y (gtN l j) w ∧ (∀ b, b < w0.heap.size → ¬ gtSh gb y b) ∧ (∀ b, b < w0.heap.size → w.heap[b]? = w0.heap[b]?) ∧ w0.heap.size ≤ w.heap.size
theorem NtI.at {w0 : World} {gb : Nat} {l : List Int} {j : Nat} {w : World} (h : NtI w0 gb l j w) (d : Nat) : NtI w0 gb l j (w.at d) := by
  obtain ⟨y, h1, h2, h3, h4⟩ := h
  exact ⟨y, h1.same fun _ _ => rfl, h2, h3, h4⟩
section
variable {main : Bool} {V : Nat → Option Wait}
theorem ntg_go (gb : Nat) (hA : ∀ b, Apart V b) (st : Value) (b o m c j : Nat) (l : List Int) (hl : m ≤ l.length) (hm : m ≤ 64) (hj : j < m) (u : Nat → Value) (cs : List Frame) (w0 w : World) (M : NtI w0 gb l j w) (hz : w.cell? ⟨b, o + j, none⟩ = some (.int .i64 (l.getD j 0))) :
    Walk Try.prog main (DR V) (fun gr w' => (∃ u, gr = G (hdNt st gb (.slice (some ⟨b, o, none⟩) m c) m (j + 1) u) cs) ∧ NtI w0 gb l (j + 1) w') (G (hdNt st gb (.slice (some ⟨b, o, none⟩) m c) m j u) cs) w := by
  obtain ⟨y, I, hns, hold, hsz⟩ := M
  have hrun := gtN_run gb l j
  have hq : gOK (j : Nat) := ⟨by omega, by omega⟩
  have hnext : ∀ w' y', Lone (gtLa gb) y w (gtN l (j + 1), ⟨true, 0, []⟩) w' y' → NtI w0 gb l (j + 1) w' := fun w' y' hL => ⟨y', hL.I, fun b hb hs => hns b hb (hL.pub b hs (by omega)), fun b hb => (hL.old b (by omega) (hns b hb)).trans (hold b hb), Nat.le_trans hsz hL.size⟩
  clear hns hold hsz
  generalize l.getD j 0 = z at *
  generalize gtN l j = s at *
  generalize gtN l (j + 1) = s' at *
  generalize hP : NtI w0 gb l (j + 1) = P at *
  have hj0 : (0 : Int) ≤ j := by omega
  have hj1 : decide ((j : Int) < m) = true := by simp; omega
  have hj3 : decide (j < m) = true := by simp; omega
  have hj4 : (j : Int) < m := by omega
  have hw1 : IntKind.wrap .i64 ((j : Int) + 1) = (j : Int) + 1 := by rw [IntKind.wrap_i64]; omega
  have hc : ((j + 1 : Nat) : Int) = (j : Int) + 1 := by simp
  have hPat : ∀ w d, P w → P (w.at d) := fun w d h => by subst hP; exact NtI.at h d
  conv => arg 5; unfold hdNt
  repeat (first | refine Walk.cx ?_ | (refine Walk.cReg ?_; simp only [z64]) | (refine Walk.oq ?_; try walk_nrm) | (refine Walk.un ?_; walk_nrm))
  clear hz
  refine Walk.callLone (L := gtLa gb) (Rel := fun v x w' P => ∃ c, v = .int .i64 c) 4 y s (.inr (.j1 (j : Nat) z)) hA I hrun (fun K e ht => ?_) (ho_of (by conv => lhs; whnf) (by kernel_rfl)) (by rfl) (by decide) rfl Try.func60 (by kernel_rfl) (by rfl) ⟨rfl, rfl, _, Try.func64⟩ ?_
  · walk_nrm
    exact (join_s (gateIn gb) K e (j : Nat) z hq (.j1 j z) (.j2 j z) (.j3 j z) gErr (fun _ => rfl) (fun _ _ _ => rfl) (fun _ _ _ => rfl) ht).mono fun v e' ⟨c, h1, h2⟩ => ⟨_, ⟨c, h1⟩, h2⟩
  rintro v w' y' ⟨c', rfl⟩ hL
  have hp := hnext w' y' hL
  clear hL hrun I hnext
  walk_nrm
  repeat (first | refine Walk.cx ?_ | (refine Walk.cReg ?_; simp only [z64]) | (refine Walk.oq ?_; try walk_nrm) | (refine Walk.un ?_; walk_nrm))
  refine Walk.ctl rfl (fun w => stepG_inLoop) ?_
  refine .stop fun d' => ⟨at_slots ?_, hPat _ _ hp⟩
  simp only [hdNt, hc]
  rfl
theorem ntg_end (st sl : Value) (gb m : Nat) (u : Nat → Value) (c : Frame) (cs : List Frame) (w : World) :
    Walk Try.prog main (DR V) (fun gr w' => gr = G (c.finish (.pointer (some ⟨gb, 0, none⟩))) cs ∧ ∃ d, w' = w.at d) (G (hdNt st gb sl m m u) (c :: cs)) w := by
  have hj1 : decide ((m : Int) < m) = false := by simp
  have hj3 : decide (m < m) = false := by simp
  unfold hdNt
  repeat (first | refine Walk.cx ?_ | (refine Walk.cReg ?_; simp only [z64]) | (refine Walk.oq ?_; try walk_nrm) | (refine Walk.un ?_; walk_nrm))
  exact Walk.on1 rfl rfl Try.func64 rfl (.stop fun d => ⟨rfl, d, rfl⟩)
end
end
section
section
variable {P : Program} {t e : TypeId} {ti : TypeInfo}
theorem run_uptoG (hu : P.underlying t = some (.slice e)) (hi : P.info? e = some ti) (hz : ti.size = 1) (a : Option Addr) (n m cap : Nat) (h : m ≤ n) (hc : n ≤ cap) (ha : a = none → cap = 0) (w : World) (es : Array Event) : (Instr.sliceAt t (.slice a n cap) none (some (.int .i64 (m : Int))) none).run P w = .ok (.slice a m cap) w ∧
    (Instr.sliceAt t (.slice a n cap) none (some (.int .i64 (m : Int))) none).events P w es = es := by
  have g1 : (m : Int) ≤ (cap : Int) := by omega
  have g2 : ¬ ((m : Int) < 0) := by omega
  have g3 : (0 : Int) ≤ (m : Int) := by omega
  have g5 : m ≤ cap := by omega
  have g6 : ¬ cap < m := by omega
  cases a with
  | none =>
    obtain rfl := ha rfl
    obtain rfl : n = 0 := by omega
    obtain rfl : m = 0 := by omega
    constructor <;> simp [Instr.sliceAt, Instr.slice, run_underlying hu, Instr.sliceBounds, Instr.sliceBound, asIntOf, sizeOf, typeInfo, hi, hz, Addr.add]
  | some x =>
    constructor <;> simp [Instr.sliceAt, Instr.slice, run_underlying hu, Instr.sliceBounds, Instr.sliceBound, asIntOf, sizeOf, typeInfo, hi, hz, Addr.add, g1, g2, g3, g5, g6]
end
section
variable {main : Bool} {V : Nat → Option Wait}
theorem ntg_in (a : Option Addr) (n c : Nat) (hcap : n ≤ c) (ha : a = none → c = 0) (l : List Int) (hA : ∀ b, Apart V b) (cs : List Frame) (w : World) :
    Walk Try.prog main (DR V) (fun gr w' => (∃ u, gr = G (hdNt (.slice a n c) w.heap.size (.slice a (min n 64) c) (min n 64) 0 u) cs) ∧ NtI w w.heap.size l 0 w') (G (Frame.enter Try.prog 64 #[.slice a n c] .normal) cs) w := by
  have hmx := @events_min_ints Try.prog
  have hnew := ngate_w (main := main) (V := V) w (fun b _ => hA b)
  have hu64 : Try.prog.underlying 28 = some (.slice 2) := by kernel_rfl
  have hi64 := Option.some_get (show (Try.prog.info? 2).isSome = true by kernel_rfl)
  have htl := fun w es => run_uptoG (P := Try.prog) hu64 hi64.symm (by rfl) a n (min n 64) c (Nat.min_le_left _ _) hcap ha w es
  have ht1 := fun w => (htl w #[]).1
  have ht2 := fun w es => (htl w es).2
  have hmn : min (n : Int) 64 = ((min n 64 : Nat) : Int) := by omega
  clear htl hi64
  generalize min n 64 = m at *
  rw [enter_at _ Try.func64 code64_is]
  simp only [Try.ntmps64, ez, Nat.reduceAdd, Nat.reduceSub]
  repeat (first | refine Walk.cx ?_ | (refine Walk.cReg ?_; simp only [z64]) | (refine Walk.oq ?_; try walk_nrm) | (refine Walk.un ?_; walk_nrm))
  refine Walk.callW (Post := fun v w' => v = .pointer (some ⟨w.heap.size, 0, none⟩) ∧ NgI w 64 w') ?_ (ho_of (by conv => lhs; whnf) (by kernel_rfl)) (by rfl) (by decide) rfl Try.func29 (by kernel_rfl) (by rfl) ?_
  · walk_nrm
    exact hnew
  rintro v w2 ⟨rfl, hN⟩
  have hs2 : w.heap.size < w2.heap.size := (Array.getElem?_eq_some_iff.1 hN.blk).1
  have hns : ∀ b, b < w.heap.size → ¬ gtSh w.heap.size [Hl.no] b := fun b hb hs => by
    rcases hs with e | ⟨h, hm, e⟩
    · omega
    · rw [List.mem_singleton.1 hm] at e
      rcases e with e | e
      · cases e
      · cases e
  have he : (⟨0, [], fun _ => -1⟩ : Gt) = gtN l 0 := by
    unfold gtN
    congr 1
  have hG := hN.gt
  rw [he] at hG
  have hI : NtI w w.heap.size l 0 w2 := ⟨[Hl.no], hG, hns, hN.old, Nat.le_of_lt hs2⟩
  clear he hG hns
  clear hnew hN hs2
  generalize hP : NtI w w.heap.size l 0 = P9 at *
  have hPat : ∀ w d, P9 w → P9 (w.at d) := fun w d h => by subst hP; exact NtI.at h d
  clear hP
  generalize w.heap.size = gb at *
  walk_nrm
  repeat (first | refine Walk.cx ?_ | (refine Walk.cReg ?_; simp only [z64]) | (refine Walk.oq ?_; try walk_nrm) | (refine Walk.un ?_; walk_nrm))
  refine Walk.ctl rfl (fun w => stepG_loop) ?_
  refine .stop fun d => ⟨at_slots ?_, hPat _ _ hI⟩
  simp only [hdNt]
  rfl
theorem newgate_w (a : Option Addr) (l : List Int) (c : Nat) (hcap : l.length ≤ c) (ha : a = none → c = 0) (hA : ∀ b, Apart V b) (w : World) (hz : NumA a l w) : CallW Try.prog main V 64 #[.slice a l.length c] w (fun v w' => v = .pointer (some ⟨w.heap.size, 0, none⟩) ∧ NtI w w.heap.size l (min l.length 64) w') := by
  intro fr cs
  refine (ntg_in a l.length c hcap ha l hA (fr :: cs) w).then ?_
  rintro g w1 ⟨⟨u, rfl⟩, M⟩
  have loop : ∀ (r i : Nat) (u : Nat → Value) (w1 : World), i + r = min l.length 64 → NtI w w.heap.size l i w1 →
      Walk Try.prog main (DR V) (fun g w' => ∃ v, (v = .pointer (some ⟨w.heap.size, 0, none⟩) ∧ NtI w w.heap.size l (min l.length 64) w') ∧ g = G (fr.finish v) cs) (G (hdNt (.slice a l.length c) w.heap.size (.slice a (min l.length 64) c) (min l.length 64) i u) (fr :: cs)) w1 := by
    intro r
    induction r with
    | zero =>
      intro i u w1 hi M
      obtain rfl : i = min l.length 64 := hi
      refine (ntg_end _ _ _ _ u fr cs w1).mono ?_
      rintro g w' ⟨rfl, d, rfl⟩
      exact ⟨_, ⟨rfl, M.at d⟩, rfl⟩
    | succ r ih =>
      intro i u w1 hi M
      have hil : i < l.length := by omega
      have hold : ∀ b, b < w.heap.size → w1.heap[b]? = w.heap[b]? := by
        obtain ⟨y, _, _, h, _⟩ := M
        exact h
      obtain ⟨b, o, e, hc⟩ := (hz.old hold) i _ (List.getElem?_eq_getElem hil)
      have hgd : l.getD i 0 = l[i] := by simp [List.getD_eq_getElem?_getD, List.getElem?_eq_getElem hil]
      rw [← hgd] at hc
      rw [e]
      refine (ntg_go w.heap.size hA _ b o (min l.length 64) c i l (Nat.min_le_left _ _) (Nat.min_le_right _ _) (by omega) u (fr :: cs) w w1 M hc).then ?_
      rintro g w2 ⟨⟨u', rfl⟩, M2⟩
      rw [← e]
      exact ih (i + 1) u' w2 (by omega) M2
  exact loop _ 0 u w1 (Nat.zero_add _) M
end
end
end Go.Proofs.Ytgfajibjedfkdaa
namespace Go.Relay
section
open Go.Conc Go.RowKit
section
variable {P : Program}
theorem run_append_none (w : World) (t ty e : TypeId) (i : TypeInfo) (ht : P.underlying t = some (.slice e)) (hi : P.info? e = some i) (ad : Addr) (n c : Nat) (hle : n ≤ c) (a2 : Option Addr) (c2 : Nat) :
    (Builtin.append_ #[t, t] ty #[.slice (some ad) n c, .slice a2 0 c2]).run P w = .ok (.slice (some ad) n c) w ∧ (Builtin.append_ #[t, t] ty #[.slice (some ad) n c, .slice a2 0 c2]).events P w #[] = #[] := by
  constructor <;> cases a2 <;> simp [Builtin.append_, run_underlying ht, sizeOf, typeInfo, hi, Builtin.lenOf, Builtin.firstCells, loadCells, hle] <;> rfl
end
section
variable {P : Program} {main : Bool} {V : Nat → Option Wait} {Stop : Goroutine → World → Prop} {w : World} {b : Frame} {a : Act} {k : List Item} {cs : List Frame} {ops : Array Oper} {i : Nat} {rest : List Nat} {o : Oper}
theorem Walk.appendM (s x : Operand) (t : TypeId) (ho : ops[i]? = some o) (hw : Region.wanted o (yielded ops a.tmps) = true) (hk : b.kind ≠ .early) (hop : o.op = .call { callee := .builtin .append, args := #[s, x], argTypes := #[t, t] })
    (base : Nat) (e : TypeId) (ti : TypeInfo) (z : Value) (size bytes : Nat) (ht : P.underlying t = some (.slice e)) (hi : P.info? e = some ti) (hz : ti.zero = some z) (hsize : ti.size = size) (hby : ti.bytes = bytes) (hzs : z.cells.size = size) (hsz : 0 < size)
    (v : Value) (n : Nat) (xs : List Value) (hs : a.eval s = v) (hown : w.ownsRow base e size v n xs)
    (ad : Addr) (m c : Nat) (news : List Value) (hx : a.eval x = .slice (some ad) m c) (hl : news.length = m * size) (hnews : ∀ j u, news[j]? = some u → w.cell? (ad.add j) = some u) (h1 : ∀ u ∈ news, u.oneCell' = true)
    (hn : 0 < n) (h63 : n + m ≤ maxLen) (hbytes : (n + m) * bytes ≤ 140737488355328) (hbase : base ≤ w.heap.size) (hap : ∀ g, v.ownBlock = some g → Apart V g)
    (h : ∀ g cap w', w'.ownsRow base e size (.slice (some ⟨g, 0, none⟩) (n + m) cap) (n + m) (xs ++ news) → w.grownBy w' v.ownBlock → (v.ownBlock = some g ∨ g = w.heap.size) → g < w'.heap.size →
      Walk P main (DR V) Stop (G (b.at (a.put o.dst (.slice (some ⟨g, 0, none⟩) (n + m) cap)) (.inRegion ops rest :: k)) cs) w') :
    Walk P main (DR V) Stop (G (b.at a (.inRegion ops (i :: rest) :: k)) cs) w := by
  rcases Nat.eq_zero_or_pos m with h0 | h0
  · subst h0
    obtain rfl : news = [] := List.eq_nil_of_length_eq_zero (by simpa using hl)
    obtain ⟨g, cap, rfl, hlt, hle⟩ : ∃ g cap, v = .slice (some ⟨g, 0, none⟩) n cap ∧ g < w.heap.size ∧ n ≤ cap := by
      rcases hown.2 with ⟨e1, e2⟩ | ⟨g, cap, cur, e1, _, hc, hle, _⟩
      · exact absurd (e2 : n = 0) (by omega)
      · exact ⟨g, cap, e1, (Array.getElem?_eq_some_iff.1 hc).1, hle⟩
    have hown' : w.ownsRow base e size (.slice (some ⟨g, 0, none⟩) (n + 0) cap) (n + 0) (xs ++ []) := by rw [List.append_nil]; exact hown
    refine Walk.go rfl fun d => goes_oper_k ho hw hk fun K hK => ?_
    obtain ⟨hr, hev⟩ := run_append_none (P := P) (w.at d) t o.type e ti ht hi ⟨g, 0, none⟩ n cap hle (some ad) c
    refine uponK_append s x t hop hs hx hr (hK _ _ ⟨DR.quiet fun ev hev' => ?_, h g cap _ hown' ⟨rfl, rfl, rfl, Nat.le_refl _, fun _ _ _ => rfl⟩ (.inl rfl) hlt⟩)
    have hm' := mem_listed hev'
    rw [events_append_op s x t hop hs hx, hev] at hm'
    simp at hm'
  · exact Walk.append s x t ho hw hk hop base e ti z size bytes ht hi hz hsize hby hzs hsz v n xs hs hown ad m c news hx hl hnews h1 h0 h63 hbytes hbase hap h
end
end
end Go.Relay
