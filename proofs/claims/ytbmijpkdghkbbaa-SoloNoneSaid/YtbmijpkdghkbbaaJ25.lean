/- Part 25. -/
import Derived.Test.YtbmijpkdghkbbaaJ18
import Derived.Test.YtbmijpkdghkbbaaJ24
set_option linter.unusedSimpArgs false
set_option linter.unusedVariables false
set_option linter.unusedVariables false
set_option maxHeartbeats 8000000
set_option maxRecDepth 100000
namespace Go.Proofs.Ytbmijpkdghkbbaa
open Go.Conc Go.RowKit Go.Relay
open Go.ConcN (upd upd_ne upd_same)
section
section
variable {main : Bool} {V : Nat → Option Wait}
theorem store_nil (b q : Nat) (u : Value) (v : Int) (w : World) (hc : w.cell? ⟨b, q, none⟩ = some u) (hz : w.frozen? ⟨b, q, none⟩ = false) (hf : Free V ⟨b, q, none⟩) : CallV Try.prog main V 63 #[.pointer (some ⟨b, q, none⟩), .nilIface, .int .i64 v] w (.tuple #[]) (w.setCell ⟨b, q, none⟩ (.int .i64 v)) := by
  have hp1 := fun w => run_eql_ptr (P := Try.prog) 175 undWord (some ⟨b, q, none⟩) w
  have hp2 := fun w es => ev_eql_ptr (P := Try.prog) 175 undWord (some ⟨b, q, none⟩) w es
  simp only [Option.isNone_some] at hp1
  refine callW_in Try.func63 code63_is fun fr cs => ?_
  simp only [Try.ntmps63, ez, Nat.reduceAdd, Nat.reduceSub]
  repeat (first | refine Walk.cx ?_ | (refine Walk.cReg ?_; simp only [z63]) | (refine Walk.oq ?_; try walk_nrm) | (refine Walk.un ?_; walk_nrm))
  refine Walk.callV (x := .tuple #[]) (W := w) ?_ (ho_of (by conv => lhs; whnf) (by kernel_rfl)) (by rfl) (by decide) rfl Try.func101 (by kernel_rfl) (by rfl) ?_
  · walk_nrm
    exact step_nil w
  walk_nrm
  repeat (first | refine Walk.cx ?_ | (refine Walk.cReg ?_; simp only [z63]) | (refine Walk.oq ?_; try walk_nrm) | (refine Walk.un ?_; walk_nrm))
  refine Walk.callV (x := .tuple #[]) (W := w.setCell ⟨b, q, none⟩ (.int .i64 v)) ?_ (ho_of (by conv => lhs; whnf) (by kernel_rfl)) (by rfl) (by decide) rfl Try.func102 (by kernel_rfl) (by rfl) ?_
  · walk_nrm
    exact atStore b q u v w hc hz hf
  walk_nrm
  repeat (first | refine Walk.cx ?_ | (refine Walk.cReg ?_; simp only [z63]) | (refine Walk.oq ?_; try walk_nrm) | (refine Walk.un ?_; walk_nrm))
  exact Walk.ret0 rfl rfl Try.func63 rfl fun d => ⟨rfl, d, rfl⟩
end
theorem made2 (n j : Nat) (hj : j < n * 2) : (madeCells #[.int .i64 0, .int .i64 0] (n * 2))[j]? = some (.int .i64 0) := by
  unfold madeCells
  simp [hj]
  have : j % 2 = 0 ∨ j % 2 = 1 := by omega
  rcases this with h | h <;> simp [h]
noncomputable def reg18_0 := rg Try.f18.body [0]
noncomputable def reg18_1 := rg Try.f18.body [1, 0, 0]
noncomputable def reg18_2 := rg Try.f18.body [1, 0, 1, 0, 0]
noncomputable def reg18_3 := rg Try.f18.body [1, 1, 0]
noncomputable def reg18_4 := rg Try.f18.body [1, 1, 1, 0, 0]
noncomputable def reg18_5 := rg Try.f18.body [1, 1, 1, 0, 1, 0, 0, 0]
noncomputable def reg18_6 := rg Try.f18.body [1, 1, 1, 0, 1, 0, 0, 1, 1, 0, 0, 0]
noncomputable def reg18_7 := rg Try.f18.body [1, 1, 1, 0, 1, 0, 0, 1, 1, 0, 0, 1]
noncomputable def reg18_8 := rg Try.f18.body [1, 1, 1, 0, 1, 0, 0, 1, 1, 1]
noncomputable def reg18_9 := rg Try.f18.body [1, 1, 1, 1, 0]
theorem z18 : List.range reg18_0.size = [0, 1] ∧ List.range reg18_1.size = [0, 1, 2, 3, 4, 5, 6, 7, 8, 9, 10, 11, 12] ∧ List.range reg18_2.size = [0, 1] ∧ List.range reg18_3.size = [0, 1, 2, 3, 4] ∧ List.range reg18_4.size = [0, 1, 2, 3, 4, 5] ∧ List.range reg18_5.size = [0] ∧ List.range reg18_6.size = [0, 1] ∧ List.range reg18_7.size = [0, 1, 2, 3, 4, 5, 6, 7] ∧ List.range reg18_8.size = [0, 1] ∧ List.range reg18_9.size = [0, 1, 2] := by refine ⟨?_, ?_, ?_, ?_, ?_, ?_, ?_, ?_, ?_, ?_⟩ <;> kernel_rfl
theorem code18_is : Try.f18.body = some (.seq (.region 0 reg18_0 false) (.seq (.seq (.region 1 reg18_1 false) (.cond (.tmp 18 ) (.seq (.region 2 reg18_2 false) (.ret)) (.skip))) (.seq (.region 3 reg18_3 false) (.seq (.seq (.region 4 reg18_4 false) (.block 0 (.loop (.seq (.region 5 reg18_5 false) (.seq (.cond (.tmp 29 ) (.skip) (.exit 0)) (.seq (.block 1 (.seq (.region 6 reg18_6 false) (.region 7 reg18_7 false))) (.region 8 reg18_8 false))))))) (.seq (.region 9 reg18_9 false) (.ret)))))) := by kernel_rfl
noncomputable def hdNw (rb n j : Nat) (u : Nat → Value) : Frame :=
  (base 18).at { tmps := #[u 0, u 1, .pointer none, .int .i64 0, .pointer (some ⟨rb, 0, none⟩), u 5, u 6, u 7, u 8, u 9, u 10, u 11, u 12, u 13, u 14, u 15, u 16, u 17, u 18, u 19, u 20, u 21, u 22, u 23, u 24, u 25, u 26, .int .i64 n, .int .i64 j, u 29, u 30, u 31, u 32, u 33, u 34, u 35, u 36, u 37, u 38, u 39, u 40], defers := [] } [.code (.seq (.region 5 reg18_5 false) (.seq (.cond (.tmp 29 ) (.skip) (.exit 0)) (.seq (.block 1 (.seq (.region 6 reg18_6 false) (.region 7 reg18_7 false))) (.region 8 reg18_8 false)))), .inLoop (.seq (.region 5 reg18_5 false) (.seq (.cond (.tmp 29 ) (.skip) (.exit 0)) (.seq (.block 1 (.seq (.region 6 reg18_6 false) (.region 7 reg18_7 false))) (.region 8 reg18_8 false)))), .inBlock 0, .code (.seq (.region 9 reg18_9 false) (.ret))]
def okS (sz : Int) : Prop := 1 ≤ sz ∧ sz ≤ 65536 ∧ bits .and .i64 sz (sz - 1) = 0
instance (sz : Int) : Decidable (okS sz) := inferInstanceAs (Decidable (_ ∧ _ ∧ _))
def rgJ (j : Nat) : Rg := ⟨fun i => if i < j then -2 else 0, fun _ => 0⟩
theorem rgJ_put (j : Nat) : rgPutS (rgJ j) j (-2) = rgJ (j + 1) := by
  unfold rgPutS rgJ
  congr 1
  funext i
  simp only [upd]
  by_cases e : i = j
  · rw [if_pos e, if_pos (by omega)]
  · rw [if_neg e]
    by_cases h : i < j
    · rw [if_pos h, if_pos (by omega)]
    · rw [if_neg h, if_neg (by omega)]
end
section
section
variable {main : Bool} {V : Nat → Option Wait} {n : Nat}
structure NwR (w0 : World) (rb sb n j : Nat) (w : World) : Prop where
  I : RgI rb sb n (rgJ j) w
  old : ∀ b, b < w0.heap.size → w.heap[b]? = w0.heap[b]?
  size : w0.heap.size ≤ w.heap.size
theorem NwR.at {w0 w : World} {rb sb j : Nat} (h : NwR w0 rb sb n j w) (d : Nat) : NwR w0 rb sb n j (w.at d) := ⟨⟨h.I.hd, h.I.sl, h.I.pos⟩, h.old, h.size⟩
theorem new_in (sz : Int) (hz : sz = (n : Nat)) (hok : okS sz) (cs : List Frame) (w : World) :
    Walk Try.prog main (DR V) (fun gr w' => (∃ u, gr = G (hdNw (w.heap.size + 1) n 0 u) cs) ∧ NwR w (w.heap.size + 1) w.heap.size n 0 w') (G (Frame.enter Try.prog 18 #[.int .i64 sz] .normal) cs) w := by
  have hi1 := Option.some_get (show (Try.prog.info? 131).isSome = true by kernel_rfl)
  subst hz
  obtain ⟨h1, h2, h3⟩ := hok
  have hw1 : IntKind.wrap .i64 ((n : Int) - 1) = (n : Int) - 1 := by rw [IntKind.wrap_i64]; omega
  have g1 : decide ((n : Int) < 1) = false := decide_eq_false (by omega)
  have g2 : decide (65536 < (n : Int)) = false := decide_eq_false (by omega)
  have g3 : (bits .and .i64 (n : Int) ((n : Int) - 1) != 0) = false := by rw [h3]; rfl
  rw [enter_at _ Try.func18 code18_is]
  simp only [Try.ntmps18, ez, Nat.reduceAdd, Nat.reduceSub]
  repeat (first | refine Walk.cx ?_ | (refine Walk.cReg ?_; simp only [z18]) | (refine Walk.oq ?_; try walk_nrm) | (refine Walk.un ?_; walk_nrm))
  clear g1 g2 g3 h3 hw1
  refine Walk.make 70 (.tmp 19) (.tmp 19) (ho_of (by conv => lhs; whnf) (by kernel_rfl)) (by rfl) (by decide) rfl 131 _ (.agg #[.int .i64 0, .int .i64 0]) 2 16 (by kernel_rfl) hi1.symm (by rfl) (by rfl) (by rfl) n (by rfl) (by rfl) (by omega) (by omega) ?_
  walk_nrm
  simp only [Value.cells]
  have s1 : (w.alloc (.cells (madeCells #[.int .i64 0, .int .i64 0] (n * 2)) 131)).heap.size = w.heap.size + 1 := by simp
  have o1 : ∀ b, b < w.heap.size → (w.alloc (.cells (madeCells #[.int .i64 0, .int .i64 0] (n * 2)) 131)).heap[b]? = w.heap[b]? := fun b hb => heap_new_lt _ _ hb
  have d1 := heap_alloc_new w (.cells (madeCells #[.int .i64 0, .int .i64 0] (n * 2)) 131)
  generalize hN : w.heap.size = N at *
  generalize w.alloc (.cells (madeCells #[.int .i64 0, .int .i64 0] (n * 2)) 131) = w1 at *
  repeat (first | (refine Walk.oq ?_; try walk_nrm) | (refine Walk.un ?_; walk_nrm))
  (refine Walk.oa ?_; try walk_nrm)
  have s2 : (w1.alloc (.cells #[.slice (some ⟨N, 0, none⟩) n n] 72)).heap.size = w1.heap.size + 1 := by simp
  have o2 : ∀ b, b < w1.heap.size → (w1.alloc (.cells #[.slice (some ⟨N, 0, none⟩) n n] 72)).heap[b]? = w1.heap[b]? := fun b hb => heap_new_lt _ _ hb
  have d2 := heap_alloc_new w1 (.cells #[.slice (some ⟨N, 0, none⟩) n n] 72)
  try simp only [s1]
  rw [s1] at d2
  generalize w1.alloc (.cells #[.slice (some ⟨N, 0, none⟩) n n] 72) = w2 at *
  have I : RgI (N + 1) N n (rgJ 0) w2 := ⟨d2, ⟨_, (o2 N (by omega)).trans d1, by rw [size_madeCells]; omega, fun i hi => ⟨(made2 n (i * 2) (by omega)).trans (by simp [rgJ]), (made2 n (i * 2 + 1) (by omega)).trans (by simp [rgJ])⟩⟩, by omega⟩
  have c1 := I.size
  repeat (first | refine Walk.cx ?_ | (refine Walk.cReg ?_; simp only [z18]) | (refine Walk.oq ?_; try walk_nrm) | (refine Walk.un ?_; walk_nrm))
  refine Walk.ctl rfl (fun w => stepG_loop) ?_
  refine .stop fun d => ⟨at_slots ?_, NwR.at ⟨I, fun b hb => (o2 b (by omega)).trans (o1 b (by omega)), by omega⟩ d⟩
  simp only [hdNw]
  rfl
theorem new_go (w0 : World) (rb sb j : Nat) (hj : j < n) (u : Nat → Value) (cs : List Frame) (w : World) (hap : Apart V sb) (E : NwR w0 rb sb n j w) (hsb : w0.heap.size ≤ sb) :
    Walk Try.prog main (DR V) (fun gr w' => (∃ u, gr = G (hdNw rb n (j + 1) u) cs) ∧ NwR w0 rb sb n (j + 1) w') (G (hdNw rb n j u) cs) w := by
  have hn := E.I.pos
  have c1 := E.I.size
  obtain ⟨hc0, hz0⟩ := E.I.rdS hj
  have hst := store_nil (main := main) (V := V) sb (j * 2) _ (-2) w hc0 hz0 (hap.1 _ rfl)
  have I2 := E.I.wrS hj (-2)
  rw [rgJ_put] at I2
  have E2 : NwR w0 rb sb n (j + 1) (w.setCell ⟨sb, j * 2, none⟩ (.int .i64 (-2))) := ⟨I2, fun b hb => (heap_set_other _ _ _ _ (fun e : b = sb => by omega)).trans (E.old b hb), by rw [size_set]; exact E.size⟩
  have hj0 : (0 : Int) ≤ j := by omega
  have hj1 : decide ((j : Int) < n) = true := by simp; omega
  have hj3 : decide (j < n) = true := by simp; omega
  have hj4 : (j : Int) < n := by omega
  have hw1 : IntKind.wrap .i64 ((j : Int) + 1) = (j : Int) + 1 := by rw [IntKind.wrap_i64]; omega
  have hc : ((j + 1 : Nat) : Int) = (j : Int) + 1 := by simp
  clear E I2 hc0 hz0
  conv => arg 5; unfold hdNw
  repeat (first | refine Walk.cx ?_ | (refine Walk.cReg ?_; simp only [z18]) | (refine Walk.oq ?_; try walk_nrm) | (refine Walk.un ?_; walk_nrm))
  refine Walk.callV (x := .tuple #[]) (W := w.setCell ⟨sb, j * 2, none⟩ (.int .i64 (-2))) ?_ (ho_of (by conv => lhs; whnf) (by kernel_rfl)) (by rfl) (by decide) rfl Try.func63 (by kernel_rfl) (by rfl) ?_
  · walk_nrm
    exact hst
  clear hst c1
  generalize w.setCell ⟨sb, j * 2, none⟩ (.int .i64 (-2)) = w2 at *
  walk_nrm
  repeat (first | refine Walk.cx ?_ | (refine Walk.cReg ?_; simp only [z18]) | (refine Walk.oq ?_; try walk_nrm) | (refine Walk.un ?_; walk_nrm))
  refine Walk.ctl rfl (fun w => stepG_inLoop) ?_
  refine .stop fun d' => ⟨at_slots ?_, E2.at d'⟩
  simp only [hdNw, hc]
  rfl
theorem new_out (rb : Nat) (u : Nat → Value) (c : Frame) (cs : List Frame) (w : World) :
    Walk Try.prog main (DR V) (fun gr w' => gr = G (c.finish (.tuple #[.pointer (some ⟨rb, 0, none⟩), .int .i64 0])) cs ∧ ∃ d, w' = w.at d) (G (hdNw rb n n u) (c :: cs)) w := by
  have hj1 : decide ((n : Int) < n) = false := by simp
  have hj3 : decide (n < n) = false := by simp
  conv => arg 5; unfold hdNw
  repeat (first | refine Walk.cx ?_ | (refine Walk.cReg ?_; simp only [z18]) | (refine Walk.oq ?_; try walk_nrm) | (refine Walk.un ?_; walk_nrm))
  exact Walk.on2 rfl rfl Try.func18 rfl (.stop fun d => ⟨rfl, d, rfl⟩)
theorem new_loop (w0 : World) (rb sb : Nat) (cs : List Frame) (hap : Apart V sb) (hsb : w0.heap.size ≤ sb) :
    ∀ (r j : Nat) (u : Nat → Value) (w : World), j + r = n → NwR w0 rb sb n j w → Walk Try.prog main (DR V) (fun gr w' => (∃ u, gr = G (hdNw rb n n u) cs) ∧ NwR w0 rb sb n n w') (G (hdNw rb n j u) cs) w := by
  intro r
  induction r with
  | zero =>
    intro j u w hj E
    have hj : j = n := hj
    subst hj
    exact .stop fun d => ⟨⟨u, rfl⟩, E.at d⟩
  | succ r ih =>
    intro j u w hj E
    refine (new_go w0 rb sb j (by omega) u cs w hap E hsb).then ?_
    rintro _ w2 ⟨⟨u2, rfl⟩, E2⟩
    exact ih (j + 1) u2 w2 (by omega) E2
theorem new_w (sz : Int) (hok : okS sz) (w : World) (hA : ∀ b, w.heap.size ≤ b → Apart V b) : CallW Try.prog main V 18 #[.int .i64 sz] w (fun v w' => v = .tuple #[.pointer (some ⟨w.heap.size + 1, 0, none⟩), .int .i64 0] ∧ NwR w (w.heap.size + 1) w.heap.size sz.toNat sz.toNat w') := fun fr cs => by
  have hz : sz = ((sz.toNat : Nat) : Int) := by have := hok.1; omega
  refine (new_in sz hz hok (fr :: cs) w).then ?_
  rintro _ w1 ⟨⟨u, rfl⟩, E1⟩
  refine (new_loop w (w.heap.size + 1) w.heap.size (fr :: cs) (hA _ (Nat.le_refl _)) (Nat.le_refl _) sz.toNat 0 u w1 (Nat.zero_add _) E1).then ?_
  rintro _ w2 ⟨⟨u2, rfl⟩, E2⟩
  refine (new_out (w.heap.size + 1) u2 fr cs w2).mono ?_
  rintro _ _ ⟨rfl, d, rfl⟩
  exact ⟨_, ⟨rfl, E2.at d⟩, rfl⟩
end
end
section
section
variable {P : Program} {t e : TypeId} {ti : TypeInfo}
theorem run_tail (hu : P.underlying t = some (.slice e)) (hi : P.info? e = some ti) (hz : ti.size = 1) (b o y cap : Nat) (hc : y + 1 ≤ cap) : ∃ a' : Option Addr, (0 < y → a' = some ⟨b, o + 1, none⟩) ∧ ∀ (w : World) (es : Array Event), (Instr.sliceAt t (.slice (some ⟨b, o, none⟩) (y + 1) cap) (some (.int .i64 1)) none none).run P w = .ok (.slice a' y (cap - 1)) w ∧
    (Instr.sliceAt t (.slice (some ⟨b, o, none⟩) (y + 1) cap) (some (.int .i64 1)) none none).events P w es = es := by
  have g1 : (1 : Int) ≤ ((y + 1 : Nat) : Int) := by omega
  have g3 : (1 : Int) ≤ (y : Int) + 1 := by omega
  have g4 : ¬ ((y : Int) + 1 < 1) := by omega
  by_cases g2 : cap = 1
  · subst g2
    have hy : y = 0 := by omega
    subst hy
    refine ⟨some ⟨b, o, none⟩, fun h => by omega, fun w es => ?_⟩
    constructor <;> simp [Instr.sliceAt, Instr.slice, run_underlying hu, Instr.sliceBounds, Instr.sliceBound, asIntOf, sizeOf, typeInfo, hi, hz, Addr.add]
  · refine ⟨some ⟨b, o + 1, none⟩, fun _ => rfl, fun w es => ?_⟩
    constructor <;> simp [Instr.sliceAt, Instr.slice, run_underlying hu, Instr.sliceBounds, Instr.sliceBound, asIntOf, sizeOf, typeInfo, hi, hz, g1, g2, g3, g4, Addr.add]
end
def rgLay (n : Nat) (s : Rg) (q v : Int) : Rg := rgPutS (rgPutV (rgPutS s (ixR n q) (laR n q - 1)) (ixR n q) v) (ixR n q) (laR n q)
theorem rgLay_run (rb sb n : Nat) (s : Rg) (q v : Int) : runN (rgLa rb sb n) 3 (s, .inr (.p1 q v)) = some (rgLay n s q v, ⟨true, 0, []⟩) := rfl
def rgAll (n : Nat) : Nat → List Int → Rg → Rg
  | _, [], s => s
  | q, v :: l, s => rgAll n (q + 1) l (rgLay n s (q : Nat) v)
end
section
noncomputable def reg57_0 := rg Try.f57.body [0]
noncomputable def reg57_1 := rg Try.f57.body [1, 0, 0]
noncomputable def reg57_2 := rg Try.f57.body [1, 0, 1, 0, 0]
noncomputable def reg57_3 := rg Try.f57.body [1, 1, 0]
noncomputable def reg57_4 := rg Try.f57.body [1, 1, 1, 0, 0]
noncomputable def reg57_5 := rg Try.f57.body [1, 1, 1, 0, 1, 0, 0]
noncomputable def reg57_6 := rg Try.f57.body [1, 1, 1, 1, 0, 0]
noncomputable def reg57_7 := rg Try.f57.body [1, 1, 1, 1, 0, 1, 0, 0, 0]
noncomputable def reg57_8 := rg Try.f57.body [1, 1, 1, 1, 0, 1, 0, 0, 1, 1, 0, 0, 0]
noncomputable def reg57_9 := rg Try.f57.body [1, 1, 1, 1, 0, 1, 0, 0, 1, 1, 0, 0, 1]
noncomputable def reg57_10 := rg Try.f57.body [1, 1, 1, 1, 0, 1, 0, 0, 1, 1, 1]
noncomputable def reg57_11 := rg Try.f57.body [1, 1, 1, 1, 1, 0]
theorem z57 : List.range reg57_0.size = [0] ∧ List.range reg57_1.size = [0, 1, 2, 3, 4, 5, 6, 7, 8] ∧ List.range reg57_2.size = [0] ∧ List.range reg57_3.size = [0, 1, 2, 3, 4, 5, 6, 7, 8, 9] ∧ List.range reg57_4.size = [0, 1] ∧ List.range reg57_5.size = [0] ∧ List.range reg57_6.size = [0, 1, 2, 3] ∧ List.range reg57_7.size = [0] ∧ List.range reg57_8.size = [0, 1, 2, 3, 4] ∧ List.range reg57_9.size = [0, 1, 2, 3] ∧ List.range reg57_10.size = [0, 1] ∧ List.range reg57_11.size = [0, 1] := by refine ⟨?_, ?_, ?_, ?_, ?_, ?_, ?_, ?_, ?_, ?_, ?_, ?_⟩ <;> kernel_rfl
theorem code57_is : Try.f57.body = some (.seq (.region 0 reg57_0 false) (.seq (.seq (.region 1 reg57_1 false) (.cond (.tmp 15 ) (.seq (.region 2 reg57_2 false) (.ret)) (.skip))) (.seq (.region 3 reg57_3 false) (.seq (.seq (.region 4 reg57_4 false) (.cond (.tmp 25 ) (.seq (.region 5 reg57_5 false) (.ret)) (.skip))) (.seq (.seq (.region 6 reg57_6 false) (.block 0 (.loop (.seq (.region 7 reg57_7 false) (.seq (.cond (.tmp 30 ) (.skip) (.exit 0)) (.seq (.block 1 (.seq (.region 8 reg57_8 false) (.region 9 reg57_9 false))) (.region 10 reg57_10 false))))))) (.seq (.region 11 reg57_11 false) (.ret))))))) := by kernel_rfl
noncomputable def hdNr (st : Value) (rb : Nat) (rv : Value) (m j : Nat) (u : Nat → Value) : Frame :=
  (base 57).at { tmps := #[st, u 1, .pointer none, .pointer (some ⟨rb, 0, none⟩), .int .i64 0, u 5, u 6, u 7, u 8, u 9, u 10, u 11, u 12, u 13, u 14, u 15, u 16, u 17, u 18, u 19, u 20, u 21, u 22, u 23, u 24, u 25, u 26, rv, .int .i64 m, .int .i64 j, u 30, u 31, u 32, u 33, u 34, u 35, u 36, u 37, u 38, u 39], defers := [] } [.code (.seq (.region 7 reg57_7 false) (.seq (.cond (.tmp 30 ) (.skip) (.exit 0)) (.seq (.block 1 (.seq (.region 8 reg57_8 false) (.region 9 reg57_9 false))) (.region 10 reg57_10 false)))), .inLoop (.seq (.region 7 reg57_7 false) (.seq (.cond (.tmp 30 ) (.skip) (.exit 0)) (.seq (.block 1 (.seq (.region 8 reg57_8 false) (.region 9 reg57_9 false))) (.region 10 reg57_10 false)))), .inBlock 0, .code (.seq (.region 11 reg57_11 false) (.ret))]
section
variable {main : Bool} {V : Nat → Option Wait} {rb sb n : Nat}
theorem nr_go (hA : ∀ b, Apart V b) (st : Value) (b o m c j : Nat) (z : Int) (s : Rg) (hj : j < m) (hm : m ≤ 17592186044416) (u : Nat → Value) (cs : List Frame) (w : World) (I : RgI rb sb n s w) (hz : w.cell? ⟨b, o + j, none⟩ = some (.int .i64 z)) :
    Walk Try.prog main (DR V) (fun gr w' => (∃ u, gr = G (hdNr st rb (.slice (some ⟨b, o, none⟩) m c) m (j + 1) u) cs) ∧ RgI rb sb n (rgLay n s (j : Nat) z) w' ∧ (∀ x, x < w.heap.size → x ≠ rb → x ≠ sb → w'.heap[x]? = w.heap[x]?) ∧ w.heap.size ≤ w'.heap.size) (G (hdNr st rb (.slice (some ⟨b, o, none⟩) m c) m j u) cs) w := by
  have hq : good (j : Nat) := ⟨by omega, by omega⟩
  have hrun := rgLay_run rb sb n s (j : Nat) z
  have hj0 : (0 : Int) ≤ j := by omega
  have hj1 : decide ((j : Int) < m) = true := by simp; omega
  have hj3 : decide (j < m) = true := by simp; omega
  have hj4 : (j : Int) < m := by omega
  have hw1 : IntKind.wrap .i64 ((j : Int) + 1) = (j : Int) + 1 := by rw [IntKind.wrap_i64]; omega
  have hc : ((j + 1 : Nat) : Int) = (j : Int) + 1 := by simp
  conv => arg 5; unfold hdNr
  repeat (first | refine Walk.cx ?_ | (refine Walk.cReg ?_; simp only [z57]) | (refine Walk.oq ?_; try walk_nrm) | (refine Walk.un ?_; walk_nrm))
  clear hz
  refine Walk.callLone (L := rgLa rb sb n) (Rel := fun v x w' P => v = .int .i64 0) 3 () s (.inr (.p1 (j : Nat) z)) hA I hrun (fun K e ht => ?_) (ho_of (by conv => lhs; whnf) (by kernel_rfl)) (by rfl) (by decide) rfl Try.func33 (by kernel_rfl) (by rfl) ⟨rfl, rfl, _, Try.func57⟩ ?_
  · walk_nrm
    exact (put_s K e (j : Nat) z hq ht).mono fun v e' ⟨h1, h2⟩ => ⟨⟨true, 0, []⟩, h1, h2⟩
  rintro v w' y rfl hL
  have I2 : RgI rb sb n (rgLay n s (j : Nat) z) w' := hL.I
  have hold : ∀ x, x < w.heap.size → x ≠ rb → x ≠ sb → w'.heap[x]? = w.heap[x]? := fun x hx h1 h2 => hL.old x hx fun h => h.elim h1 h2
  have hsz := hL.size
  clear hL hrun I
  walk_nrm
  repeat (first | refine Walk.cx ?_ | (refine Walk.cReg ?_; simp only [z57]) | (refine Walk.oq ?_; try walk_nrm) | (refine Walk.un ?_; walk_nrm))
  refine Walk.ctl rfl (fun w => stepG_inLoop) ?_
  refine .stop fun d' => ⟨at_slots ?_, ⟨I2.hd, I2.sl, I2.pos⟩, hold, hsz⟩
  simp only [hdNr, hc]
  rfl
theorem nr_out (st rv : Value) (m : Nat) (u : Nat → Value) (c : Frame) (cs : List Frame) (w : World) :
    Walk Try.prog main (DR V) (fun gr w' => gr = G (c.finish (.pointer (some ⟨rb, 0, none⟩))) cs ∧ ∃ d, w' = w.at d) (G (hdNr st rb rv m m u) (c :: cs)) w := by
  have hj1 : decide ((m : Int) < m) = false := by simp
  have hj3 : decide (m < m) = false := by simp
  conv => arg 5; unfold hdNr
  repeat (first | refine Walk.cx ?_ | (refine Walk.cReg ?_; simp only [z57]) | (refine Walk.oq ?_; try walk_nrm) | (refine Walk.un ?_; walk_nrm))
  exact Walk.on1 rfl rfl Try.func57 rfl (.stop fun d => ⟨rfl, d, rfl⟩)
theorem nr_loop (hA : ∀ b, Apart V b) (st : Value) (b o m c : Nat) (a' : Option Addr) (ha : 0 < m → a' = some ⟨b, o, none⟩) (l : List Int) (hl : l.length = m) (hm : m ≤ 17592186044416) (cs : List Frame) (w0 : World) (hne : b ≠ rb ∧ b ≠ sb) (hz : ∀ (j : Nat) (z : Int), l[j]? = some z → w0.cell? ⟨b, o + j, none⟩ = some (.int .i64 z)) :
    ∀ (r j : Nat) (s : Rg) (u : Nat → Value) (w : World), j + r = m → RgI rb sb n s w → (∀ x, x < w0.heap.size → x ≠ rb → x ≠ sb → w.heap[x]? = w0.heap[x]?) → w0.heap.size ≤ w.heap.size →
      Walk Try.prog main (DR V) (fun gr w' => (∃ u, gr = G (hdNr st rb (.slice a' m c) m m u) cs) ∧ RgI rb sb n (rgAll n j (l.drop j) s) w' ∧ (∀ x, x < w0.heap.size → x ≠ rb → x ≠ sb → w'.heap[x]? = w0.heap[x]?) ∧ w0.heap.size ≤ w'.heap.size) (G (hdNr st rb (.slice a' m c) m j u) cs) w := by
  intro r
  induction r with
  | zero =>
    intro j s u w hj I hO hS
    have hj : j = m := hj
    subst hj
    refine .stop fun d => ⟨⟨u, rfl⟩, ?_, hO, hS⟩
    rw [List.drop_eq_nil_of_le (by omega)]
    exact ⟨I.hd, I.sl, I.pos⟩
  | succ r ih =>
    intro j s u w hj I hO hS
    have hjm : j < m := by omega
    obtain rfl := ha (by omega)
    obtain ⟨z, hzz⟩ : ∃ z, l[j]? = some z := ⟨_, List.getElem?_eq_getElem (by omega)⟩
    have hc0 := hz j z hzz
    have hb : b < w0.heap.size := cell_lt' hc0
    have hc1 : w.cell? ⟨b, o + j, none⟩ = some (.int .i64 z) := (World.cell?_of_block (a := ⟨b, o + j, none⟩) (hO b hb hne.1 hne.2)).trans hc0
    refine (nr_go hA st b o m c j z s hjm hm u cs w I hc1).then ?_
    rintro _ w2 ⟨⟨u2, rfl⟩, I2, O2, S2⟩
    refine (ih (j + 1) _ u2 w2 (by omega) I2 (fun x hx h1 h2 => (O2 x (by omega) h1 h2).trans (hO x hx h1 h2)) (by omega)).mono ?_
    rintro _ w3 ⟨hu, I3, O3, S3⟩
    refine ⟨hu, ?_, O3, S3⟩
    have hd : l.drop j = z :: l.drop (j + 1) := by
      obtain ⟨h, e⟩ := List.getElem?_eq_some_iff.1 hzz
      rw [← e]
      exact List.drop_eq_getElem_cons h
    rw [hd]
    exact I3
end
end
section
section
variable {main : Bool} {V : Nat → Option Wait}
theorem nr_in (b o y c : Nat) (hcap : y + 1 ≤ c) (x : Int) (hx : x ≤ 65536) (hok : okS (max x 0)) (hA : ∀ b, Apart V b) (cs : List Frame) (w : World) (hc : w.cell? ⟨b, o, none⟩ = some (.int .i64 x)) :
    Walk Try.prog main (DR V) (fun gr w' => (∃ u a', (0 < y → a' = some ⟨b, o + 1, none⟩) ∧ gr = G (hdNr (.slice (some ⟨b, o, none⟩) (y + 1) c) (w.heap.size + 1) (.slice a' y (c - 1)) y 0 u) cs) ∧ NwR w (w.heap.size + 1) w.heap.size (max x 0).toNat (max x 0).toNat w') (G (Frame.enter Try.prog 57 #[.slice (some ⟨b, o, none⟩) (y + 1) c] .normal) cs) w := by
  have hmx := @events_max_ints Try.prog
  have i0 : (0 : Int) ≤ 0 := by omega
  have hnew := new_w (main := main) (V := V) (max x 0) hok w (fun b _ => hA b)
  have hu64 : Try.prog.underlying 22 = some (.slice 2) := by kernel_rfl
  have hi64 := Option.some_get (show (Try.prog.info? 2).isSome = true by kernel_rfl)
  obtain ⟨a', ha', htl⟩ := run_tail (P := Try.prog) hu64 hi64.symm (by rfl) b o y c hcap
  have ht1 := fun w => (htl w #[]).1
  have ht2 := fun w es => (htl w es).2
  clear htl hok hi64
  generalize hln : y + 1 = ln at *
  have i1 : (0 : Int) < (ln : Int) := by omega
  have i5 : 0 < ln := by omega
  have i2 : ((ln : Int) == 0) = false := by simp; omega
  have i3 : (ln == 0) = false := by simp; omega
  have i4 : decide (65536 < x) = false := by simp [hx]
  rw [enter_at _ Try.func57 code57_is]
  simp only [Try.ntmps57, ez, Nat.reduceAdd, Nat.reduceSub]
  repeat (first | refine Walk.cx ?_ | (refine Walk.cReg ?_; simp only [z57]) | (refine Walk.oq ?_; try walk_nrm) | (refine Walk.un ?_; walk_nrm))
  refine Walk.callW (Post := fun v w' => v = .tuple #[.pointer (some ⟨w.heap.size + 1, 0, none⟩), .int .i64 0] ∧ NwR w (w.heap.size + 1) w.heap.size (max x 0).toNat (max x 0).toNat w') ?_ (ho_of (by conv => lhs; whnf) (by kernel_rfl)) (by rfl) (by decide) rfl Try.func18 (by kernel_rfl) (by rfl) ?_
  · walk_nrm
    exact hnew
  rintro v w1 ⟨rfl, E⟩
  clear hnew hc
  walk_nrm
  repeat (first | refine Walk.cx ?_ | (refine Walk.cReg ?_; simp only [z57]) | (refine Walk.oq ?_; try walk_nrm) | (refine Walk.un ?_; walk_nrm))
  refine Walk.ctl rfl (fun w => stepG_loop) ?_
  refine .stop fun d => ⟨?_, E.at d⟩
  refine (at_slots (F := fun u => G (hdNr (.slice (some ⟨b, o, none⟩) ln c) (w.heap.size + 1) (.slice a' y (c - 1)) y 0 u) cs) ?_).imp fun u hu => ⟨a', ha', hu⟩
  simp only [hdNr]
  rfl
end
end
section
def isR (xs : List Int) : Prop := ∃ x l, xs = x :: l ∧ x ≤ 65536 ∧ okS (max x 0)
def szR (xs : List Int) : Nat := (max (xs.headD 0) 0).toNat
def r0R (xs : List Int) : Rg := rgAll (szR xs) 0 xs.tail (rgJ (szR xs))
section
variable {main : Bool} {V : Nat → Option Wait}
theorem newRing_w (hA : ∀ b, Apart V b) (xa : Option Addr) (xs : List Int) (xc : Nat) (hr : isR xs) (hxn : xs.length ≤ 17592186044416) (w : World) (hx : LsR (.slice xa xs.length xc) xs w) :
    CallW Try.prog main V 57 #[.slice xa xs.length xc] w (fun v w' => v = .pointer (some ⟨w.heap.size + 1, 0, none⟩) ∧ RgI (w.heap.size + 1) w.heap.size (szR xs) (r0R xs) w' ∧ (∀ b, b < w.heap.size → w'.heap[b]? = w.heap[b]?) ∧ w.heap.size ≤ w'.heap.size) := fun fr cs => by
  obtain ⟨x, l, rfl, h1, hok⟩ := hr
  obtain ⟨a, c, e, hcap, _, h⟩ := hx
  injection e with e1 _ e3
  obtain ⟨b, o, e2, hc⟩ := h 0 x rfl
  subst e1 e3 e2
  have hb : b < w.heap.size := cell_lt' hc
  have hz : ∀ (j : Nat) (z : Int), l[j]? = some z → w.cell? ⟨b, o + 1 + j, none⟩ = some (.int .i64 z) := fun j z hz => by
    obtain ⟨b', o', e', hc'⟩ := h (j + 1) z (by simpa using hz)
    cases e'
    rw [show o + 1 + j = o + (j + 1) by omega]
    exact hc'
  have hl : l.length ≤ 17592186044416 := by simp only [List.length_cons] at hxn; omega
  refine (nr_in b o l.length xc hcap x h1 hok hA (fr :: cs) w hc).then ?_
  rintro _ w1 ⟨⟨u, a', ha', rfl⟩, E⟩
  refine (nr_loop hA _ b (o + 1) l.length (xc - 1) a' ha' l rfl hl (fr :: cs) w1 ⟨by omega, by omega⟩ (fun j z hj => (World.cell?_of_block (a := ⟨b, o + 1 + j, none⟩) (E.old b hb)).trans (hz j z hj)) l.length 0 _ u w1 (Nat.zero_add _) E.I (fun _ _ _ _ => rfl) (Nat.le_refl _)).then ?_
  rintro _ w2 ⟨⟨u2, rfl⟩, I2, O2, S2⟩
  refine (nr_out _ _ l.length u2 fr cs w2).mono ?_
  rintro _ _ ⟨rfl, d, rfl⟩
  have hs := E.size
  exact ⟨_, ⟨rfl, ⟨I2.hd, I2.sl, I2.pos⟩, fun x hx => (O2 x (by omega) (by omega) (by omega)).trans (E.old x hx), by show w.heap.size ≤ w2.heap.size; omega⟩, rfl⟩
end
end
end Go.Proofs.Ytbmijpkdghkbbaa
