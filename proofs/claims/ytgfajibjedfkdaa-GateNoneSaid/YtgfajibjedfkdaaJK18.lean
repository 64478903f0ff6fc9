/- Part 18. -/
import Derived.Test.YtgfajibjedfkdaaJK16
import Derived.Test.YtgfajibjedfkdaaJK17
set_option linter.unusedSimpArgs false
set_option linter.unusedVariables false
set_option linter.unusedVariables false
set_option maxHeartbeats 8000000
set_option maxRecDepth 100000
namespace Go.Proofs.Ytgfajibjedfkdaa
open Go.Conc Go.RowKit Go.Relay
open Go.ConcN (upd upd_ne upd_same)
section
section
variable {P : Program}
theorem run_upto_nil {t e : TypeId} {ti : TypeInfo} (hu : P.underlying t = some (.slice e)) (hi : P.info? e = some ti) (hz : ti.size = 1) (w : World) (es : Array Event) : (Instr.sliceAt t (.slice none 0 0) none (some (.int .i64 0)) none).run P w = .ok (.slice none 0 0) w ∧ (Instr.sliceAt t (.slice none 0 0) none (some (.int .i64 0)) none).events P w es = es := by
  constructor <;> simp [Instr.sliceAt, Instr.slice, run_underlying hu, Instr.sliceBounds, Instr.sliceBound, asIntOf, sizeOf, typeInfo, hi, hz, Addr.add]
theorem run_appN {t e : TypeId} {ti : TypeInfo} (hu : P.underlying t = some (.slice e)) (hi : P.info? e = some ti) (ty : TypeId) (a : Addr) (m cap : Nat) (hm : m ≤ cap) (x : Option Addr) (c : Nat) (w : World) (es : Array Event) : (Builtin.append_ #[t, t] ty #[.slice (some a) m cap, .slice x 0 c]).run P w = .ok (.slice (some a) m cap) w ∧ (Builtin.append_ #[t, t] ty #[.slice (some a) m cap, .slice x 0 c]).events P w es = es := by
  constructor <;> cases x <;> simp [Builtin.append_, run_underlying hu, sizeOf, typeInfo, hi, Builtin.lenOf, Builtin.firstCells, loadCells, hm] <;> rfl
end
theorem tiInt : ∃ ti, Try.prog.info? 3 = some ti ∧ ti.size = 1 ∧ ti.zero = some (.int .i64 0) ∧ ti.bytes = 8 := by
  obtain ⟨ti, h⟩ := Option.isSome_iff_exists.1 (show (Try.prog.info? 3).isSome = true by kernel_rfl)
  have h2 : (Try.prog.info? 3).map (·.size) = some 1 := by kernel_rfl
  have h3 : (Try.prog.info? 3).map (·.zero) = some (some (.int .i64 0)) := by kernel_rfl
  have h4 : (Try.prog.info? 3).map (·.bytes) = some 8 := by kernel_rfl
  rw [h] at h2 h3 h4
  exact ⟨ti, h, Option.some.inj h2, Option.some.inj h3, Option.some.inj h4⟩
theorem undInt : ∃ k, Try.prog.underlying 3 = some (.int k) := by
  have h : (match Try.prog.underlying 3 with | some (.int _) => true | _ => false) = true := by kernel_rfl
  revert h
  cases Try.prog.underlying 3 with
  | none => simp
  | some d =>
    cases d with
    | int k => exact fun _ => ⟨k, rfl⟩
    | _ => simp
noncomputable def reg145_0 := rg Try.f145.body [0]
noncomputable def reg145_1 := rg Try.f145.body [1, 0, 0]
noncomputable def reg145_2 := rg Try.f145.body [1, 0, 1, 0]
noncomputable def reg145_3 := rg Try.f145.body [1, 1, 0, 0]
noncomputable def reg145_4 := rg Try.f145.body [1, 1, 0, 1, 0]
noncomputable def reg145_5 := rg Try.f145.body [1, 1, 0, 1, 1, 0]
noncomputable def reg145_6 := rg Try.f145.body [1, 1, 1, 0]
theorem z145 : List.range reg145_0.size = [0] ∧ List.range reg145_1.size = [0, 1] ∧ List.range reg145_2.size = [0, 1] ∧ List.range reg145_3.size = [0, 1, 2, 3, 4, 5, 6, 7] ∧ List.range reg145_4.size = [0, 1] ∧ List.range reg145_5.size = [0, 1, 2, 3, 4, 5, 6, 7, 8, 9] ∧ List.range reg145_6.size = [0, 1] := by refine ⟨?_, ?_, ?_, ?_, ?_, ?_, ?_⟩ <;> kernel_rfl
theorem code145_is : Try.f145.body = some (.seq (.region 0 reg145_0 false) (.seq (.seq (.region 1 reg145_1 false) (.cond (.tmp 6 ) (.region 2 reg145_2 false) (.skip))) (.seq (.seq (.region 3 reg145_3 false) (.seq (.region 4 reg145_4 false) (.cond (.tmp 16 ) (.region 5 reg145_5 false) (.skip)))) (.seq (.region 6 reg145_6 false) (.ret))))) := by kernel_rfl
noncomputable def reg123_0 := rg Try.f123.body [0]
noncomputable def reg123_1 := rg Try.f123.body [1, 0]
noncomputable def reg123_2 := rg Try.f123.body [1, 1, 0, 0]
noncomputable def reg123_3 := rg Try.f123.body [1, 1, 0, 1, 0, 0, 0]
noncomputable def reg123_4 := rg Try.f123.body [1, 1, 0, 1, 0, 0, 1, 1, 0, 0, 0]
noncomputable def reg123_5 := rg Try.f123.body [1, 1, 0, 1, 0, 0, 1, 1, 0, 0, 1, 0]
noncomputable def reg123_6 := rg Try.f123.body [1, 1, 0, 1, 0, 0, 1, 1, 0, 0, 1, 1, 0]
noncomputable def reg123_7 := rg Try.f123.body [1, 1, 0, 1, 0, 0, 1, 1, 0, 0, 1, 1, 1, 0]
noncomputable def reg123_8 := rg Try.f123.body [1, 1, 0, 1, 0, 0, 1, 1, 1]
noncomputable def reg123_9 := rg Try.f123.body [1, 1, 1, 0]
noncomputable def reg123_10 := rg Try.f123.body [1, 1, 1, 1, 0, 0]
noncomputable def reg123_11 := rg Try.f123.body [1, 1, 1, 1, 0, 1, 0, 0, 0]
noncomputable def reg123_12 := rg Try.f123.body [1, 1, 1, 1, 0, 1, 0, 0, 1, 1, 0, 0, 0]
noncomputable def reg123_13 := rg Try.f123.body [1, 1, 1, 1, 0, 1, 0, 0, 1, 1, 0, 0, 1]
noncomputable def reg123_14 := rg Try.f123.body [1, 1, 1, 1, 0, 1, 0, 0, 1, 1, 1]
noncomputable def reg123_15 := rg Try.f123.body [1, 1, 1, 1, 1, 0]
theorem z123 : List.range reg123_0.size = [0] ∧ List.range reg123_1.size = [0] ∧ List.range reg123_2.size = [0, 1, 2] ∧ List.range reg123_3.size = [0] ∧ List.range reg123_4.size = [0, 1, 2] ∧ List.range reg123_5.size = [0, 1, 2, 3, 4] ∧ List.range reg123_6.size = [0, 1] ∧ List.range reg123_7.size = [0, 1] ∧ List.range reg123_8.size = [0, 1] ∧ List.range reg123_9.size = [0, 1, 2] ∧ List.range reg123_10.size = [0, 1, 2] ∧ List.range reg123_11.size = [0] ∧ List.range reg123_12.size = [0, 1, 2] ∧ List.range reg123_13.size = [0, 1, 2, 3] ∧ List.range reg123_14.size = [0, 1] ∧ List.range reg123_15.size = [0, 1] := by refine ⟨?_, ?_, ?_, ?_, ?_, ?_, ?_, ?_, ?_, ?_, ?_, ?_, ?_, ?_, ?_, ?_⟩ <;> kernel_rfl
theorem code123_is : Try.f123.body = some (.seq (.region 0 reg123_0 false) (.seq (.region 1 reg123_1 false) (.seq (.seq (.region 2 reg123_2 false) (.block 0 (.loop (.seq (.region 3 reg123_3 false) (.seq (.cond (.tmp 12 ) (.skip) (.exit 0)) (.seq (.block 1 (.seq (.region 4 reg123_4 false) (.seq (.region 5 reg123_5 false) (.seq (.region 6 reg123_6 false) (.cond (.tmp 20 ) (.region 7 reg123_7 false) (.skip)))))) (.region 8 reg123_8 false))))))) (.seq (.region 9 reg123_9 false) (.seq (.seq (.region 10 reg123_10 false) (.block 2 (.loop (.seq (.region 11 reg123_11 false) (.seq (.cond (.tmp 28 ) (.skip) (.exit 2)) (.seq (.block 3 (.seq (.region 12 reg123_12 false) (.region 13 reg123_13 false))) (.region 14 reg123_14 false))))))) (.seq (.region 15 reg123_15 false) (.ret))))))) := by kernel_rfl
noncomputable def reg94_0 := rg Try.f94.body [0]
noncomputable def reg94_1 := rg Try.f94.body [1, 0]
theorem z94 : List.range reg94_0.size = [0] ∧ List.range reg94_1.size = [0, 1, 2, 3, 4, 5] := by refine ⟨?_, ?_⟩ <;> kernel_rfl
theorem code94_is : Try.f94.body = some (.seq (.region 0 reg94_0 false) (.seq (.region 1 reg94_1 false) (.ret))) := by kernel_rfl
noncomputable def hdCa (B : Nat) (s i : Nat) (u : Nat → Value) : Frame :=
  (base 123).at { tmps := #[.slice (some ⟨B, 0, none⟩) 2 2, u 1, u 2, .int .i64 s, u 4, u 5, u 6, u 7, u 8, .slice (some ⟨B, 0, none⟩) 2 2, .int .i64 2, .int .i64 i, u 12, u 13, u 14, u 15, u 16, u 17, u 18, u 19, u 20, u 21, u 22, u 23, u 24, u 25, u 26, u 27, u 28, u 29, u 30, u 31, u 32, u 33, u 34, u 35], defers := [] } [.code (.seq (.region 3 reg123_3 false) (.seq (.cond (.tmp 12 ) (.skip) (.exit 0)) (.seq (.block 1 (.seq (.region 4 reg123_4 false) (.seq (.region 5 reg123_5 false) (.seq (.region 6 reg123_6 false) (.cond (.tmp 20 ) (.region 7 reg123_7 false) (.skip)))))) (.region 8 reg123_8 false)))), .inLoop (.seq (.region 3 reg123_3 false) (.seq (.cond (.tmp 12 ) (.skip) (.exit 0)) (.seq (.block 1 (.seq (.region 4 reg123_4 false) (.seq (.region 5 reg123_5 false) (.seq (.region 6 reg123_6 false) (.cond (.tmp 20 ) (.region 7 reg123_7 false) (.skip)))))) (.region 8 reg123_8 false)))), .inBlock 0, .code (.seq (.region 9 reg123_9 false) (.seq (.seq (.region 10 reg123_10 false) (.block 2 (.loop (.seq (.region 11 reg123_11 false) (.seq (.cond (.tmp 28 ) (.skip) (.exit 2)) (.seq (.block 3 (.seq (.region 12 reg123_12 false) (.region 13 reg123_13 false))) (.region 14 reg123_14 false))))))) (.seq (.region 15 reg123_15 false) (.ret))))]
noncomputable def hdCb (B : Nat) (v : Value) (i : Nat) (u : Nat → Value) : Frame :=
  (base 123).at { tmps := #[.slice (some ⟨B, 0, none⟩) 2 2, u 1, u 2, u 3, u 4, u 5, v, u 7, u 8, u 9, u 10, u 11, u 12, u 13, u 14, u 15, u 16, u 17, u 18, u 19, u 20, u 21, u 22, u 23, u 24, .slice (some ⟨B, 0, none⟩) 2 2, .int .i64 2, .int .i64 i, u 28, u 29, u 30, u 31, u 32, u 33, u 34, u 35], defers := [] } [.code (.seq (.region 11 reg123_11 false) (.seq (.cond (.tmp 28 ) (.skip) (.exit 2)) (.seq (.block 3 (.seq (.region 12 reg123_12 false) (.region 13 reg123_13 false))) (.region 14 reg123_14 false)))), .inLoop (.seq (.region 11 reg123_11 false) (.seq (.cond (.tmp 28 ) (.skip) (.exit 2)) (.seq (.block 3 (.seq (.region 12 reg123_12 false) (.region 13 reg123_13 false))) (.region 14 reg123_14 false)))), .inBlock 2, .code (.seq (.region 15 reg123_15 false) (.ret))]
section
variable {main : Bool} {V : Nat → Option Wait}
theorem grow_w (n : Nat) (h0 : 0 < n) (hn : n ≤ 1048576) (w : World) : CallW Try.prog main V 145 #[.slice none 0 0, .int .i64 n] w (fun v w' => ∃ cap, v = .slice (some ⟨w.heap.size, 0, none⟩) 0 cap ∧ w'.ownsRow w.heap.size 3 1 (.slice (some ⟨w.heap.size, 0, none⟩) 0 cap) 0 [] ∧ n ≤ cap ∧ (∀ b, b < w.heap.size → w'.heap[b]? = w.heap[b]?) ∧ w.heap.size < w'.heap.size) := by
  obtain ⟨ti, hti, htz, htv, htb⟩ := tiInt
  obtain ⟨kn, hkn⟩ := undInt
  have hn1 : decide ((n : Int) < 0) = false := decide_eq_false (by omega)
  have hn2 : decide ((0 : Int) < n) = true := by simp; omega
  have hn3 : decide (0 < n) = true := by simp; omega
  have hw0 : IntKind.wrap .i64 0 = 0 := by decide
  have hw1 : IntKind.wrap .i64 ((n : Int) - 0) = n := by rw [IntKind.wrap_i64]; omega
  have hw2 : IntKind.wrap .i64 (n : Int) = n := by rw [IntKind.wrap_i64]; omega
  have hc1 : ∀ (ty : TypeId) (w : World), (Builtin.cap_ #[57] ty #[.slice none 0 0]).run Try.prog w = .ok (.int .i64 0) w := fun ty w => by simp [Builtin.cap_, run_underlying huIn, goInt]
  have hc2 : ∀ (ty : TypeId) (w : World) (es : Array Event), (Builtin.cap_ #[57] ty #[.slice none 0 0]).events Try.prog w es = es := fun ty w es => by simp [Builtin.cap_, run_underlying huIn, goInt]
  have hz1 := fun w => (run_upto_nil (P := Try.prog) huIn hti htz w #[]).1
  have hz2 := fun w es => (run_upto_nil (P := Try.prog) huIn hti htz w es).2
  refine callW_in Try.func145 code145_is fun fr cs => ?_
  simp only [Try.ntmps145, ez, Nat.reduceAdd, Nat.reduceSub]
  repeat (first | refine Walk.cx ?_ | (refine Walk.cReg ?_; simp only [z145]) | (refine Walk.oq ?_; try walk_nrm) | (refine Walk.un ?_; walk_nrm))
  refine Walk.appendZ (.tmp 20) (.tmp 21) 57 3 3 .i64 kn (ho_of (by conv => lhs; whnf) (by kernel_rfl)) (by rfl) (by decide) rfl ti (.int .i64 0) huIn hkn hti htv htz htb (by rfl) n rfl rfl h0 hn ?_
  intro cap w1 hown hcap hold hsz
  have hu1 : ∀ w0 : World, (Instr.sliceAt 57 (.slice (some ⟨w.heap.size, 0, none⟩) n cap) none (some (.int .i64 0)) none).run Try.prog w0 = .ok (.slice (some ⟨w.heap.size, 0, none⟩) 0 cap) w0 := fun w0 => (run_upto (P := Try.prog) huIn hti htz w.heap.size 0 0 n cap (by omega) h0 hcap w0 #[]).1
  have hu2 : ∀ (w0 : World) (es : Array Event), (Instr.sliceAt 57 (.slice (some ⟨w.heap.size, 0, none⟩) n cap) none (some (.int .i64 0)) none).events Try.prog w0 es = es := fun w0 es => (run_upto (P := Try.prog) huIn hti htz w.heap.size 0 0 n cap (by omega) h0 hcap w0 es).2
  generalize hT : w.heap.size = T at *
  walk_nrm
  repeat (first | refine Walk.cx ?_ | (refine Walk.cReg ?_; simp only [z145]) | (refine Walk.oq ?_; try walk_nrm) | (refine Walk.un ?_; walk_nrm))
  exact Walk.on1 rfl rfl Try.func145 rfl (.stop fun d => ⟨_, ⟨cap, rfl, row_same hown fun _ _ => rfl, hcap, hold, hsz⟩, rfl⟩)
end
end
section
section
variable {main : Bool} {V : Nat → Option Wait}
theorem ca_in (B : Nat) (cs : List Frame) (w : World) :
    Walk Try.prog main (DR V) (fun g w' => (∃ u, g = G (hdCa B 0 0 u) cs) ∧ ∃ d, w' = w.at d) (G (Frame.enter Try.prog 123 #[.slice (some ⟨B, 0, none⟩) 2 2] .normal) cs) w := by
  rw [enter_at _ Try.func123 code123_is]
  simp only [Try.ntmps123, ez, Nat.reduceAdd, Nat.reduceSub]
  repeat (first | refine Walk.cx ?_ | (refine Walk.cReg ?_; simp only [z123]) | (refine Walk.oq ?_; try walk_nrm) | (refine Walk.un ?_; walk_nrm))
  refine Walk.ctl rfl (fun w => stepG_loop) ?_
  refine .stop fun d => ⟨at_slots ?_, d, rfl⟩
  simp only [hdCa]
  rfl
theorem ca_go (B s i : Nat) (hi : i < 2) (a : Option Addr) (n c : Nat) (hs : s + n ≤ 1048576) (u : Nat → Value) (cs : List Frame) (w : World) (hc : w.cell? ⟨B, i, none⟩ = some (.slice a n c)) :
    Walk Try.prog main (DR V) (fun g w' => (∃ u, g = G (hdCa B (s + n) (i + 1) u) cs) ∧ ∃ d, w' = w.at d) (G (hdCa B s i u) cs) w := by
  have hi1 : decide ((i : Int) < 2) = true := by simp; omega
  have hi4 : (i : Int) < 2 := by omega
  have hi0 : (0 : Int) ≤ i := by omega
  have hw1 : IntKind.wrap .i64 ((i : Int) + 1) = (i : Int) + 1 := by rw [IntKind.wrap_i64]; omega
  have hw2 : IntKind.wrap .i64 ((s : Int) + n) = (s : Int) + n := by rw [IntKind.wrap_i64]; omega
  have hn : decide ((s : Int) + n < 0) = false := decide_eq_false (by omega)
  have hc1 : ((i + 1 : Nat) : Int) = (i : Int) + 1 := by simp
  have hc2 : ((s + n : Nat) : Int) = (s : Int) + n := by simp
  conv => arg 5; unfold hdCa
  repeat (first | refine Walk.cx ?_ | (refine Walk.cReg ?_; simp only [z123]) | (refine Walk.oq ?_; try walk_nrm) | (refine Walk.un ?_; walk_nrm))
  refine Walk.ctl rfl (fun w => stepG_inLoop) ?_
  refine .stop fun d => ⟨at_slots ?_, d, rfl⟩
  simp only [hdCa, hc1, hc2]
  rfl
theorem ca_out (B s : Nat) (h0 : 0 < s) (hs : s ≤ 1048576) (u : Nat → Value) (cs : List Frame) (w : World) :
    Walk Try.prog main (DR V) (fun g w' => ∃ cap, (∃ u, g = G (hdCb B (.slice (some ⟨w.heap.size, 0, none⟩) 0 cap) 0 u) cs) ∧ w'.ownsRow w.heap.size 3 1 (.slice (some ⟨w.heap.size, 0, none⟩) 0 cap) 0 [] ∧ (∀ b, b < w.heap.size → w'.heap[b]? = w.heap[b]?) ∧ w.heap.size < w'.heap.size) (G (hdCa B s 2 u) cs) w := by
  have hg := grow_w (main := main) (V := V) s h0 hs w
  generalize hT : w.heap.size = T at *
  clear hT
  conv => arg 5; unfold hdCa
  repeat (first | refine Walk.cx ?_ | (refine Walk.cReg ?_; simp only [z123]) | (refine Walk.oq ?_; try walk_nrm) | (refine Walk.un ?_; walk_nrm))
  refine Walk.callW (Post := fun v w' => ∃ cap, v = .slice (some ⟨T, 0, none⟩) 0 cap ∧ w'.ownsRow T 3 1 (.slice (some ⟨T, 0, none⟩) 0 cap) 0 [] ∧ s ≤ cap ∧ (∀ b, b < T → w'.heap[b]? = w.heap[b]?) ∧ T < w'.heap.size) ?_ (ho_of (by conv => lhs; whnf) (by kernel_rfl)) (by rfl) (by decide) rfl Try.func145 (by kernel_rfl) (by rfl) ?_
  · walk_nrm
    exact hg
  rintro v w1 ⟨cap, rfl, hown, hcap, hold, hsz⟩
  clear hg
  walk_nrm
  repeat (first | refine Walk.cx ?_ | (refine Walk.cReg ?_; simp only [z123]) | (refine Walk.oq ?_; try walk_nrm) | (refine Walk.un ?_; walk_nrm))
  refine Walk.ctl rfl (fun w => stepG_loop) ?_
  refine .stop fun d => ⟨cap, at_slots ?_, row_same hown fun _ _ => rfl, hold, hsz⟩
  simp only [hdCb]
  rfl
structure CbI (T : Nat) (w0 : World) (g m cap : Nat) (xs : List Int) (w : World) : Prop where
  row : w.ownsRow T 3 1 (.slice (some ⟨g, 0, none⟩) m cap) m (xs.map fun z => .int .i64 z)
  len : xs.length = m
  old : ∀ b, b < T → w.heap[b]? = w0.heap[b]?
theorem CbI.at {T : Nat} {w0 w : World} {g m cap : Nat} {xs : List Int} (h : CbI T w0 g m cap xs w) (d : Nat) : CbI T w0 g m cap xs (w.at d) := ⟨row_same h.row fun _ _ => rfl, h.len, h.old⟩
theorem CbI.lt {T : Nat} {w0 w : World} {g m cap : Nat} {xs : List Int} (h : CbI T w0 g m cap xs w) : T ≤ g ∧ g < w.heap.size := h.row.lt g rfl
theorem cb_go (B i T : Nat) (hi : i < 2) (w0 : World) (a : Option Addr) (l : List Int) (c : Nat) (hl : l.length ≤ 1000) (g m cap : Nat) (hm : m ≤ 1000) (xs : List Int) (u : Nat → Value) (cs : List Frame) (w : World) (I : CbI T w0 g m cap xs w) (hc : w.cell? ⟨B, i, none⟩ = some (.slice a l.length c)) (ha : NumA a l w) (hA : ∀ b, T ≤ b → Apart V b) :
    Walk Try.prog main (DR V) (fun gr w' => ∃ g' cap', (∃ u, gr = G (hdCb B (.slice (some ⟨g', 0, none⟩) (m + l.length) cap') (i + 1) u) cs) ∧ CbI T w0 g' (m + l.length) cap' (xs ++ l) w') (G (hdCb B (.slice (some ⟨g, 0, none⟩) m cap) i u) cs) w := by
  have hi1 : decide ((i : Int) < 2) = true := by simp; omega
  have hi4 : (i : Int) < 2 := by omega
  have hi0 : (0 : Int) ≤ i := by omega
  have hw1 : IntKind.wrap .i64 ((i : Int) + 1) = (i : Int) + 1 := by rw [IntKind.wrap_i64]; omega
  have hc1 : ((i + 1 : Nat) : Int) = (i : Int) + 1 := by simp
  obtain ⟨ti, hti, htz, htv, htb⟩ := tiInt
  obtain ⟨hgT, hgl⟩ := I.lt
  have hcap : m ≤ cap := by
    rcases I.row.2 with ⟨e, _⟩ | ⟨g', cap', cur, e, _, _, hle, _⟩
    · cases e
    · injection e with _ _ e3
      rw [e3]; exact hle
  conv => arg 5; unfold hdCb
  cases l with
  | nil =>
    have hz := fun ty w es => run_appN (P := Try.prog) huIn hti ty ⟨g, 0, none⟩ m cap hcap a c w es
    have hc0 : w.cell? ⟨B, i, none⟩ = some (.slice a 0 c) := hc
    clear hc hcap ha
    repeat (first | refine Walk.cx ?_ | (refine Walk.cReg ?_; simp only [z123]) | (refine Walk.oq ?_; try walk_nrm) | (refine Walk.un ?_; walk_nrm))
    refine Walk.opq (ho_of (by conv => lhs; whnf) (by kernel_rfl)) (by rfl) (by decide) (fun dd e he => ?_) (fun dd K hK => uponK_append (.tmp 31) (.tmp 32) 57 rfl rfl rfl (hz _ (w.at dd) #[]).1 (hK _ ?_))
    · rw [events_append_op (v := .slice (some ⟨g, 0, none⟩) m cap) (xv := .slice a 0 c) (.tmp 31) (.tmp 32) 57 rfl (by rfl) (by rfl), (hz _ (w.at dd) #[]).2] at he
      simp at he
    clear hz hK
    walk_nrm
    repeat (first | refine Walk.cx ?_ | (refine Walk.cReg ?_; simp only [z123]) | (refine Walk.oq ?_; try walk_nrm) | (refine Walk.un ?_; walk_nrm))
    refine Walk.ctl rfl (fun w => stepG_inLoop) ?_
    refine .stop fun d => ⟨g, cap, at_slots ?_, ?_⟩
    · simp only [hdCb, hc1, List.length_nil, Nat.add_zero]
      rfl
    · rw [List.append_nil]
      exact I.at d
  | cons z l =>
    obtain ⟨b, off, rfl, _⟩ := ha 0 z rfl
    have hn0 : 0 < (z :: l).length := by simp
    generalize hn : (z :: l).length = n at *
    repeat (first | refine Walk.cx ?_ | (refine Walk.cReg ?_; simp only [z123]) | (refine Walk.oq ?_; try walk_nrm) | (refine Walk.un ?_; walk_nrm))
    refine Walk.append (.tmp 31) (.tmp 32) 57 (ho_of (by conv => lhs; whnf) (by kernel_rfl)) (by rfl) (by decide) rfl T 3 ti (.int .i64 0) 1 8 huIn hti htv htz htb (by rfl) (by decide) (.slice (some ⟨g, 0, none⟩) m cap) m (xs.map fun z => .int .i64 z) rfl I.row ⟨b, off, none⟩ n c ((z :: l).map fun z => .int .i64 z) rfl (by simp [← hn]) (fun j u hu => ?_) (fun u hu => ?_) hn0 (by simp only [maxLen]; omega) (by omega) (by omega) (fun g' hg' => ?_) (fun g' cap' w' hown' hgr hat hlt => ?_)
    · rw [List.getElem?_map, Option.map_eq_some_iff] at hu
      obtain ⟨y, hy, rfl⟩ := hu
      obtain ⟨b', off', e, h⟩ := ha j y hy
      obtain ⟨rfl, rfl, _⟩ := Addr.mk.inj (Option.some.inj e)
      rw [add_none]; exact h
    · obtain ⟨y, _, rfl⟩ := List.mem_map.1 hu
      rfl
    · simp only [Value.ownBlock, Option.some.injEq] at hg'
      rw [← hg']; exact hA g hgT
    · walk_nrm
      repeat (first | refine Walk.cx ?_ | (refine Walk.cReg ?_; simp only [z123]) | (refine Walk.oq ?_; try walk_nrm) | (refine Walk.un ?_; walk_nrm))
      refine Walk.ctl rfl (fun w => stepG_inLoop) ?_
      refine .stop fun d => ⟨g', cap', at_slots ?_, ⟨?_, ?_, fun b' hb' => ?_⟩⟩
      · simp only [hdCb, hc1]
        rfl
      · rw [List.map_append]
        exact row_same hown' fun _ _ => rfl
      · rw [List.length_append, I.len, hn]
      · exact (hgr.block b' (by omega) (by simp [Value.ownBlock]; omega)).trans (I.old b' hb')
theorem cb_out (B : Nat) (v : Value) (u : Nat → Value) (c : Frame) (cs : List Frame) (w : World) :
    Walk Try.prog main (DR V) (fun g w' => g = G (c.finish v) cs ∧ ∃ d, w' = w.at d) (G (hdCb B v 2 u) (c :: cs)) w := by
  unfold hdCb
  repeat (first | refine Walk.cx ?_ | (refine Walk.cReg ?_; simp only [z123]) | (refine Walk.oq ?_; try walk_nrm) | (refine Walk.un ?_; walk_nrm))
  exact Walk.on1 rfl rfl Try.func123 rfl (.stop fun d => ⟨rfl, d, rfl⟩)
theorem NumA.same {a : Option Addr} {l : List Int} {w w' : World} (h : NumA a l w) (hb : ∀ b, b < w.heap.size → w'.heap[b]? = w.heap[b]?) : NumA a l w' := fun j z hj => by
  obtain ⟨b, off, e, hc⟩ := h j z hj
  exact ⟨b, off, e, (World.cell?_of_block (a := ⟨b, off + j, none⟩) (hb b (cell_lt' hc))).trans hc⟩
theorem concat_w (B : Nat) (a1 a2 : Option Addr) (l1 l2 : List Int) (c1 c2 : Nat) (h1 : l1.length ≤ 500) (h2 : l2.length ≤ 500) (h0 : 0 < l1.length + l2.length) (w : World) (hB : w.heap[B]? = some (.cells #[.slice a1 l1.length c1, .slice a2 l2.length c2] 57)) (n1 : NumA a1 l1 w) (n2 : NumA a2 l2 w) (hA : ∀ b, w.heap.size ≤ b → Apart V b) :
    CallW Try.prog main V 123 #[.slice (some ⟨B, 0, none⟩) 2 2] w (fun v w' => ∃ g cap, v = .slice (some ⟨g, 0, none⟩) (l1.length + l2.length) cap ∧ CbI w.heap.size w g (l1.length + l2.length) cap (l1 ++ l2) w') := by
  intro fr cs
  have x1 := (cell_of hB 0).trans rfl
  have x2 := (cell_of hB 1).trans rfl
  refine (ca_in B (fr :: cs) w).then ?_
  rintro _ _ ⟨⟨u, rfl⟩, d, rfl⟩
  refine Walk.back ?_ d
  refine (ca_go B 0 0 (by omega) a1 l1.length c1 (by omega) u (fr :: cs) w x1).then ?_
  rintro _ _ ⟨⟨u, rfl⟩, d, rfl⟩
  refine Walk.back ?_ d
  refine (ca_go B (0 + l1.length) (0 + 1) (by omega) a2 l2.length c2 (by omega) u (fr :: cs) w x2).then ?_
  rintro _ _ ⟨⟨u, rfl⟩, d, rfl⟩
  refine Walk.back ?_ d
  refine (ca_out B (0 + l1.length + l2.length) (by omega) (by omega) u (fr :: cs) w).then ?_
  rintro _ w1 ⟨cap, ⟨u, rfl⟩, hown, hold, hsz⟩
  have I1 : CbI w.heap.size w w.heap.size 0 cap [] w1 := ⟨hown, rfl, hold⟩
  have hBl : B < w.heap.size := (Array.getElem?_eq_some_iff.1 hB).1
  have y1 := (World.cell?_of_block (a := ⟨B, 0, none⟩) (hold B hBl)).trans x1
  refine (cb_go B 0 w.heap.size (by omega) w a1 l1 c1 (by omega) w.heap.size 0 cap (by omega) [] u (fr :: cs) w1 I1 y1 (n1.same hold) hA).then ?_
  rintro _ w2 ⟨g2, cap2, ⟨u, rfl⟩, I2⟩
  have y2 := (World.cell?_of_block (a := ⟨B, 1, none⟩) (I2.old B hBl)).trans x2
  refine (cb_go B (0 + 1) w.heap.size (by omega) w a2 l2 c2 (by omega) g2 (0 + l1.length) cap2 (by omega) ([] ++ l1) u (fr :: cs) w2 I2 y2 (n2.same I2.old) hA).then ?_
  rintro _ w3 ⟨g3, cap3, ⟨u, rfl⟩, I3⟩
  refine (cb_out B _ u fr cs w3).mono ?_
  rintro _ _ ⟨rfl, d, rfl⟩
  rw [Nat.zero_add, List.nil_append] at I3
  exact ⟨_, ⟨g3, cap3, by rw [Nat.zero_add], I3.at d⟩, rfl⟩
theorem with_core (a : Option Addr) (n ca : Nat) (p : Int) (w : World) (D : Value → World → Prop) (hD : ∀ v w' d, D v w' → D v (w'.at d))
    (hc : ∀ w1 : World, w1 = (w.alloc (.cells #[.int .i64 p] 3)).alloc (.cells #[.slice a n ca, .slice (some ⟨w.heap.size, 0, none⟩) 1 1] 57) → CallW Try.prog main V 123 #[.slice (some ⟨(w.alloc (.cells #[.int .i64 p] 3)).heap.size, 0, none⟩) 2 2] w1 D) :
    CallW Try.prog main V 94 #[.slice a n ca, .int .i64 p] w D := by
  have h1 := hc _ rfl
  clear hc
  refine callW_in Try.func94 code94_is fun fr cs => ?_
  simp only [Try.ntmps94, ez, Nat.reduceAdd, Nat.reduceSub]
  repeat (first | refine Walk.cx ?_ | (refine Walk.cReg ?_; simp only [z94]) | (refine Walk.oq ?_; try walk_nrm) | (refine Walk.un ?_; walk_nrm))
  (refine Walk.oa ?_; try walk_nrm)
  generalize w.heap.size = T at *
  generalize w.alloc (.cells #[.int .i64 p] 3) = w1 at *
  repeat (first | refine Walk.cx ?_ | (refine Walk.cReg ?_; simp only [z94]) | (refine Walk.oq ?_; try walk_nrm) | (refine Walk.un ?_; walk_nrm))
  (refine Walk.oa ?_; try walk_nrm)
  generalize w1.heap.size = T1 at *
  generalize w1.alloc (.cells #[.slice a n ca, .slice (some ⟨T, 0, none⟩) 1 1] 57) = w2 at *
  repeat (first | refine Walk.cx ?_ | (refine Walk.cReg ?_; simp only [z94]) | (refine Walk.oq ?_; try walk_nrm) | (refine Walk.un ?_; walk_nrm))
  refine Walk.callW (Post := D) ?_ (ho_of (by conv => lhs; whnf) (by kernel_rfl)) (by rfl) (by decide) rfl Try.func123 (by kernel_rfl) (by rfl) ?_
  · walk_nrm
    exact h1
  intro v3 w3 hD3
  clear h1
  walk_nrm
  repeat (first | refine Walk.cx ?_ | (refine Walk.cReg ?_; simp only [z94]) | (refine Walk.oq ?_; try walk_nrm) | (refine Walk.un ?_; walk_nrm))
  exact Walk.on1 rfl rfl Try.func94 rfl (.stop fun d => ⟨_, hD _ _ d hD3, rfl⟩)
theorem with_w (a : Option Addr) (ca : Nat) (l : List Int) (p : Int) (hok : l.length ≤ 64) (w : World) (hrow : w.ownsRow 0 3 1 (.slice a l.length ca) l.length (l.map fun z => .int .i64 z)) (hA : ∀ b, w.heap.size ≤ b → Apart V b) :
    CallW Try.prog main V 94 #[.slice a l.length ca, .int .i64 p] w (fun v w' => ∃ g c, v = .slice (some ⟨g, 0, none⟩) (l ++ [p]).length c ∧ w.heap.size ≤ g ∧ g < w'.heap.size ∧ w'.ownsRow 0 3 1 v (l ++ [p]).length ((l ++ [p]).map fun z => .int .i64 z) ∧ (∀ b, b < w.heap.size → w'.heap[b]? = w.heap[b]?) ∧ w.heap.size ≤ w'.heap.size) := by
  have s1 : (w.alloc (.cells #[.int .i64 p] 3)).heap.size = w.heap.size + 1 := by simp
  have o1 : ∀ b, b < w.heap.size → (w.alloc (.cells #[.int .i64 p] 3)).heap[b]? = w.heap[b]? := fun b hb => heap_new_lt _ _ hb
  have d1 := heap_alloc_new w (.cells #[.int .i64 p] 3)
  refine with_core a l.length ca p w _ ?_ ?_
  · rintro v w' d ⟨g, c, e, x1, x2, x3, x4, x5⟩
    exact ⟨g, c, e, x1, x2, x3, x4, x5⟩
  rintro w2 e2
  have s2 : w2.heap.size = w.heap.size + 2 := by rw [e2]; simp
  have o2 : ∀ b, b < w.heap.size + 1 → w2.heap[b]? = (w.alloc (.cells #[.int .i64 p] 3)).heap[b]? := fun b hb => by rw [e2]; exact heap_new_lt _ _ (by omega)
  have d2 : w2.heap[(w.alloc (.cells #[.int .i64 p] 3)).heap.size]? = some (.cells #[.slice a l.length ca, .slice (some ⟨w.heap.size, 0, none⟩) 1 1] 57) := by rw [e2]; exact heap_alloc_new _ _
  have n1 : NumA a l w2 := (LsI.numA (P := fun _ => True) hrow).same fun b hb => (o2 b (by omega)).trans (o1 b hb)
  have n2 : NumA (some ⟨w.heap.size, 0, none⟩) [p] w2 := fun j z hj => by
    cases j with
    | zero =>
      cases hj
      exact ⟨w.heap.size, 0, rfl, (cell_of ((o2 w.heap.size (by omega)).trans d1) 0).trans rfl⟩
    | succ j => simp at hj
  have hc := concat_w (main := main) (V := V) (w.alloc (.cells #[.int .i64 p] 3)).heap.size a (some ⟨w.heap.size, 0, none⟩) l [p] ca 1 (by omega) (by simp) (by simp) w2 d2 n1 n2 (fun b hb => hA b (by omega))
  intro fr cs
  refine (hc fr cs).mono ?_
  rintro _ w3 ⟨v, ⟨g, cap, rfl, I⟩, rfl⟩
  have hlt := I.lt
  refine ⟨_, ⟨g, cap, by simp, by omega, hlt.2, ?_, fun b hb => (I.old b (by omega)).trans ((o2 b (by omega)).trans (o1 b hb)), by omega⟩, rfl⟩
  have hr := I.row
  rw [List.length_append]
  exact ⟨hr.1, hr.2.imp id fun ⟨g', cap', cur, x1, x2, x3⟩ => ⟨g', cap', cur, x1, Nat.zero_le _, x3⟩⟩
end
end
section
variable {main : Bool} {V : Nat → Option Wait}
theorem undAtomicP : Try.prog.underlying 209 = some (.pointer 95) := by kernel_rfl
noncomputable def rowLoadBP : Bool := match Try.prog.info? 209 with
  | some ti => (match ti.methods.find? (·.name == "Load") with
    | some m => m.path.isEmpty && (m.func == some (177, true))
    | none => false)
  | none => false
theorem rowLoadP : ∃ ti m, Try.prog.info? 209 = some ti ∧ ti.methods.find? (·.name == "Load") = some m ∧ m.path = #[] ∧ m.func = some (177, true) := by
  have h : rowLoadBP = true := by kernel_rfl
  unfold rowLoadBP at h
  revert h
  cases h1 : Try.prog.info? 209 with
  | none => simp
  | some ti =>
    simp only []
    cases h2 : ti.methods.find? (·.name == "Load") with
    | none => simp
    | some m =>
      simp only [Bool.and_eq_true, Array.isEmpty_iff, beq_iff_eq]
      exact fun h => ⟨ti, m, rfl, h2, h.1, h.2⟩
theorem method_loadP (p q : Nat) (w : World) (es : Array Event) : (method (Try.prog.types.size + Made.depth) 209 (.pointer (some ⟨p, q, none⟩)) "Load").run Try.prog w = .ok (177, .pointer (some ⟨p, q, none⟩)) w ∧ (method (Try.prog.types.size + Made.depth) 209 (.pointer (some ⟨p, q, none⟩)) "Load").events Try.prog w es = es := by
  obtain ⟨ti, m, h1, h2, h3, h4⟩ := rowLoadP
  obtain ⟨k, hk⟩ : ∃ k, Try.prog.types.size + Made.depth = k + 1 := ⟨Try.prog.types.size + (Made.depth - 1), by (have : 1 ≤ Made.depth := by decide); omega⟩
  rw [hk]
  unfold method
  refine ⟨?_, ?_⟩
  · simp [typeInfo, h1, h2, h3, h4, follow, receiverAt, run_underlying undAtomicP, Place.get]
  · simp [typeInfo, h1, h2, h3, h4, follow, receiverAt, run_underlying undAtomicP, Place.get]
section
variable {Stop : Goroutine → World → Prop} {w : World} {b : Frame} {a : Act} {k : List Item} {cs : List Frame} {ops : Array Oper} {i : Nat} {rest : List Nat} {o : Oper}
theorem stepG_invokeLoadP {x : Operand} {ats : Array TypeId} (p q : Nat) (ho : ops[i]? = some o) (hw : Region.wanted o (yielded ops a.tmps) = true) (hk : b.kind ≠ .early) (hop : o.op = .call { callee := .invoke x "Load", args := #[], argTypes := ats }) (hx : a.eval x = .iface 209 (.pointer (some ⟨p, q, none⟩))) :
    stepG Try.prog main (G (b.at a (.inRegion ops (i :: rest) :: k)) cs) w = .go (G (Frame.enter Try.prog 177 #[.pointer (some ⟨p, q, none⟩)] .normal) (b.at a (.inRegion ops (i :: rest) :: k) :: cs)) w := by
  have h1 : ¬ Try.f177.name = "runtime.NumGoroutine" := by decide
  have h2 : ¬ Try.f177.body = none := by simp [Try.f177]
  have hm := method_loadP p q w #[]
  rw [show Try.prog.types.size = 269 from by kernel_rfl] at hm
  have hr : (execOp a.eval o).run Try.prog w = .ok (.enter 177 #[.pointer (some ⟨p, q, none⟩)]) w := by
    unfold execOp
    simp [hop, resolve, invoke, callMethod, callFunc, hm.1, Try.func177, h1, h2, hx]
  have he : (execOp a.eval o).events Try.prog w #[] = #[] := by
    unfold execOp
    simp [hop, resolve, invoke, callMethod, callFunc, hm.1, hm.2, Try.func177, h1, h2, hx]
  rw [stepG_enter ho hw hk hr]
  have : listed Try.prog b.fn a o w = #[] := by unfold listed; rw [he]; exact seen_none Try.prog _
  rw [this]
theorem Walk.invokeLoadP {x : Operand} {ats : Array TypeId} (p q : Nat) (ho : ops[i]? = some o) (hw : Region.wanted o (yielded ops a.tmps) = true) (hk : b.kind ≠ .early) (hop : o.op = .call { callee := .invoke x "Load", args := #[], argTypes := ats }) (hx : a.eval x = .iface 209 (.pointer (some ⟨p, q, none⟩)))
    (h : Walk Try.prog main (DR V) Stop (G (Frame.enter Try.prog 177 #[.pointer (some ⟨p, q, none⟩)] .normal) (b.at a (.inRegion ops (i :: rest) :: k) :: cs)) w) : Walk Try.prog main (DR V) Stop (G (b.at a (.inRegion ops (i :: rest) :: k)) cs) w :=
  Walk.ctl rfl (fun _ => stepG_invokeLoadP p q ho hw hk hop hx) h
end
section
theorem run_ifaceAtomicP (a : Option Addr) (w : World) : (Instr.makeInterface 209 (.pointer a)).run Try.prog w = .ok (.iface 209 (.pointer a)) w := by simp [Instr.makeInterface, run_underlying undAtomicP]
theorem ev_ifaceAtomicP (a : Option Addr) (w : World) (es : Array Event) : (Instr.makeInterface 209 (.pointer a)).events Try.prog w es = es := by simp [Instr.makeInterface, run_underlying undAtomicP]
end
end
section
section
variable {L : La} {gb : Nat} {sv : Value}
theorem GateIn.rd (R : GateIn L gb) {y : L.Gh} {s : L.Sg} {w : World} (h : L.I y s w) : ∃ h0, (R.gh y)[(R.gt s).k]? = some h0 ∧ h0.l = (R.gt s).l ∧ w.cell? ⟨gb, 0, none⟩ = some (ptrV h0.p) ∧ w.frozen? ⟨gb, 0, none⟩ = false ∧ HlI h0 w := by
  have I := R.I h
  obtain ⟨arr, h0, h1, h2, h3, h4, h5, h6⟩ := I.top
  exact ⟨h0, h3, h4, (cell_of h1 0).trans h5, frozen_of h1 0, I.held h0 (List.mem_of_getElem? h3)⟩
theorem GateIn.keep (R : GateIn L gb) {y y' : L.Gh} (hl : L.le y y') {k : Nat} {h : Hl} (e : (R.gh y)[k]? = some h) : (R.gh y')[k]? = some h := by
  obtain ⟨t, ht⟩ := R.le hl
  rw [← ht, List.getElem?_append_left (List.getElem?_eq_some_iff.1 e).1]
  exact e
theorem Aft.around {K : Lg L sv} {e e1 e2 e3 : K.E} {d : L.D} {w1 w3 : World} (m1 : Mv K.toLb e e1 (K.s e) w1) (hs1 : (K.w e).heap.size ≤ w1.heap.size) (h1 : ∀ b, b < (K.w e).heap.size → w1.heap[b]? = (K.w e).heap[b]?) (ha : Aft K.toLb e1 d e2) (m3 : Mv K.toLb e2 e3 (K.s e2) w3) (hs3 : (K.w e2).heap.size ≤ w3.heap.size) (h3 : ∀ b, b < (K.w e).heap.size → w3.heap[b]? = (K.w e2).heap[b]?) : Aft K.toLb e d e3 := by
  refine ⟨by rw [m3.tgt, ha.tgt, m3.s], by rw [m3.fuel, ← m1.fuel]; exact ha.fuel, ?_, ?_, fun b hb => ?_⟩
  · rw [m3.gh, ← m1.gh]
    exact ha.le
  · have := ha.size
    rw [m1.w] at this
    rw [m3.w]
    omega
  · have hlt := (K.mineA e b hb).2.2
    obtain ⟨x1, x2⟩ := ha.mine b ((m1.mine b).2 (.inl hb))
    refine ⟨(m3.mine b).2 (.inl x1), ?_⟩
    rw [m3.w, h3 b hlt, x2, m1.w, h1 b hlt]
noncomputable def reg118_0 := rg Try.f118.body [0]
noncomputable def reg118_1 := rg Try.f118.body [1, 0]
noncomputable def reg118_2 := rg Try.f118.body [1, 1, 0]
theorem z118 : List.range reg118_0.size = [0] ∧ List.range reg118_1.size = [0, 1] ∧ List.range reg118_2.size = [0, 1, 2, 3] := by refine ⟨?_, ?_, ?_⟩ <;> kernel_rfl
theorem code118_is : Try.f118.body = some (.seq (.region 0 reg118_0 false) (.seq (.region 1 reg118_1 false) (.seq (.region 2 reg118_2 false) (.ret)))) := by kernel_rfl
noncomputable def reg90_0 := rg Try.f90.body [0]
noncomputable def reg90_1 := rg Try.f90.body [1, 0, 0]
noncomputable def reg90_2 := rg Try.f90.body [1, 0, 1, 0, 0]
noncomputable def reg90_3 := rg Try.f90.body [1, 1, 0]
theorem z90 : List.range reg90_0.size = [0] ∧ List.range reg90_1.size = [0, 1] ∧ List.range reg90_2.size = [0, 1] ∧ List.range reg90_3.size = [0, 1, 2, 3, 4, 5, 6, 7] := by refine ⟨?_, ?_, ?_, ?_⟩ <;> kernel_rfl
theorem code90_is : Try.f90.body = some (.seq (.region 0 reg90_0 false) (.seq (.seq (.region 1 reg90_1 false) (.cond (.tmp 6 ) (.seq (.region 2 reg90_2 false) (.ret)) (.skip))) (.seq (.region 3 reg90_3 false) (.ret)))) := by kernel_rfl
theorem holdsL_s (R : GateIn L gb) (K : Lg L sv) (e : K.E) (d : L.D) (ht : K.tgt e = (K.s e, .inr d)) : SCall K.toLb 118 #[sv, .pointer (some ⟨gb, 0, none⟩)] e (fun v e' => Aft K.toLb e d e' ∧ ∃ h, (R.gh (K.gh e'))[(R.gt (K.s e')).k]? = some h ∧ h.l = (R.gt (K.s e')).l ∧ v = ptrV h.p) := by
  intro fr l hp hl hk
  unfold LW
  rw [enter_at _ Try.func118 code118_is]
  simp only [Try.ntmps118, ez, Nat.reduceAdd, Nat.reduceSub]
  repeat (first | refine Walk.cx ?_ | (refine Walk.cReg ?_; simp only [z118]) | (refine Walk.oq ?_; try walk_nrm) | (refine Walk.un ?_; walk_nrm))
  refine LW.callS (K := K.toLb) (e := e) (l := fr :: l) (f := 78) (Q := fun _ e' => Aft K.toLb e d e') ?_ (ho_of (by conv => lhs; whnf) (by kernel_rfl)) (by rfl) (by decide) rfl Try.func78 (by kernel_rfl) (by rfl) ⟨rfl, rfl, _, Try.func118⟩ (plain_cons hp hl) ?_
  · walk_nrm
    exact step_s K e d ht
  intro v e' ha
  obtain ⟨h0, hy, hl0, hc, hz, hH⟩ := R.rd (K.inv e')
  have hi1 := run_ifaceAtomicP
  have hi2 := ev_ifaceAtomicP
  unfold LW
  walk_nrm
  repeat (first | refine Walk.cx ?_ | (refine Walk.cReg ?_; simp only [z118]) | (refine Walk.oq ?_; try walk_nrm) | (refine Walk.un ?_; walk_nrm))
  refine Walk.invokeLoadP gb 0 (ho_of (by conv => lhs; whnf) (by kernel_rfl)) (by rfl) (by decide) rfl rfl ?_
  refine (loadL gb 0 h0.p (K.w e') hc hH.ptr _ _).then ?_
  rintro g' w' ⟨v', ⟨rfl, dd, rfl⟩, rfl⟩
  refine Walk.back ?_ dd
  refine Walk.finish (ho_of (by conv => lhs; whnf) (by kernel_rfl)) ?_
  walk_nrm
  repeat (first | refine Walk.cx ?_ | (refine Walk.cReg ?_; simp only [z118]) | (refine Walk.oq ?_; try walk_nrm) | (refine Walk.un ?_; walk_nrm))
  exact Walk.on1 rfl rfl Try.func118 rfl (hk _ e' ⟨ha, h0, hy, hl0, rfl⟩)
theorem box_load (R : GateIn L gb) (K : Lg L sv) (e : K.E) (d : L.D) (ht : K.tgt e = (K.s e, .inr d)) : SCall K.toLb 90 #[.pointer (some ⟨gb, 0, none⟩), sv] e (fun v e' => Aft K.toLb e d e' ∧ ∃ h, (R.gh (K.gh e'))[(R.gt (K.s e')).k]? = some h ∧ h.l = (R.gt (K.s e')).l ∧ v = heldV (.pointer (some ⟨gb, 0, none⟩)) h.p) := by
  intro fr l hp hl hk
  have hp1 := fun w => run_eql_ptr (P := Try.prog) 177 undBoxL (some ⟨gb, 0, none⟩) w
  have hp2 := fun w es => ev_eql_ptr (P := Try.prog) 177 undBoxL (some ⟨gb, 0, none⟩) w es
  simp only [Option.isNone_some] at hp1
  have c1 := heap_alloc_new (K.w e) (.cells #[.pointer none, .pointer none] 179)
  have s1 : ((K.w e).alloc (.cells #[.pointer none, .pointer none] 179)).heap.size = (K.w e).heap.size + 1 := by simp
  have o1 : ∀ b, b < (K.w e).heap.size → ((K.w e).alloc (.cells #[.pointer none, .pointer none] 179)).heap[b]? = (K.w e).heap[b]? := fun b hb => heap_new_lt _ _ hb
  obtain ⟨e1, m1⟩ := K.grow e (w' := (K.w e).alloc (.cells #[.pointer none, .pointer none] 179)) (by omega) o1
  have ht1 : K.tgt e1 = (K.s e1, .inr d) := by rw [m1.tgt, m1.s]; exact ht
  have hh := holdsL_s R K e1 d ht1
  unfold LW
  rw [enter_at _ Try.func90 code90_is]
  simp only [Try.ntmps90, ez, Nat.reduceAdd, Nat.reduceSub]
  repeat (first | refine Walk.cx ?_ | (refine Walk.cReg ?_; simp only [z90]) | (refine Walk.oq ?_; try walk_nrm) | (refine Walk.un ?_; walk_nrm))
  (refine Walk.oa ?_; try walk_nrm)
  generalize hR : (K.w e).heap.size = Rb at *
  generalize (K.w e).alloc (.cells #[.pointer none, .pointer none] 179) = w1 at *
  have hmR : K.mine e1 Rb := m1.new (by omega) (by omega)
  refine LW.to (l := fr :: l) m1 ?_
  unfold LW
  repeat (first | refine Walk.cx ?_ | (refine Walk.cReg ?_; simp only [z90]) | (refine Walk.oq ?_; try walk_nrm) | (refine Walk.un ?_; walk_nrm))
  refine LW.callS (K := K.toLb) (e := e1) (l := fr :: l) (f := 118) (Q := fun v e' => Aft K.toLb e1 d e' ∧ ∃ h, (R.gh (K.gh e'))[(R.gt (K.s e')).k]? = some h ∧ h.l = (R.gt (K.s e')).l ∧ v = ptrV h.p) ?_ (ho_of (by conv => lhs; whnf) (by kernel_rfl)) (by rfl) (by decide) rfl Try.func118 (by kernel_rfl) (by rfl) ⟨rfl, rfl, _, Try.func90⟩ (plain_cons hp hl) ?_
  · walk_nrm
    exact hh
  rintro v e2 ⟨ha, h, hy, hlh, rfl⟩
  have d2 : (K.w e2).heap[Rb]? = some (.cells #[.pointer none, .pointer none] 179) := (ha.mine Rb hmR).2.trans (by rw [m1.w]; exact c1)
  have hm2 := (ha.mine Rb hmR).1
  have hap := (K.mineA e2 Rb hm2).1
  have hR2 := (K.mineA e2 Rb hm2).2.2
  obtain ⟨q, hq⟩ : ∃ q, h.p.map (fun b => (⟨b, 0, none⟩ : Addr)) = q := ⟨_, rfl⟩
  obtain ⟨e3, m3⟩ := K.own e2 (w' := (K.w e2).setRow Rb #[.pointer (some ⟨gb, 0, none⟩), .pointer q]) (by rw [setRow_size]; exact Nat.le_refl _) (fun b hb hm => setRow_other _ _ fun e => hm (e ▸ hm2))
  have d3 := setRow_self (cells := #[.pointer (some ⟨gb, 0, none⟩), .pointer q]) d2
  have hA := Aft.around m1 (by omega) (fun b hb => o1 b (by omega)) ha m3 (by rw [setRow_size]; exact Nat.le_refl _) (fun b hb => setRow_other _ _ (by omega))
  have hkk := hk (heldV (.pointer (some ⟨gb, 0, none⟩)) h.p) e3 ⟨hA, h, by rw [m3.gh, m3.s]; exact hy, by rw [m3.s]; exact hlh, rfl⟩
  clear hk hh ha hA hmR hm2 m1 o1 c1 s1
  unfold heldV ptrV at hkk
  rw [hq] at hkk
  unfold LW ptrV
  rw [hq]
  clear hy hlh hq
  walk_nrm
  repeat (first | refine Walk.cx ?_ | (refine Walk.cReg ?_; simp only [z90]) | (refine Walk.oq ?_; try walk_nrm) | (refine Walk.un ?_; walk_nrm))
  refine Walk.storeS 179 (.tmp 4) (.tmp 14) (ho_of (by conv => lhs; whnf) (by kernel_rfl)) (by rfl) (by decide) rfl Rb #[.pointer (some ⟨gb, 0, none⟩), .pointer q] _ 179 rfl rfl d2 (by kernel_rfl) (by rfl) (by simp [Value.oneCell']) hap ?_
  refine LW.to (l := fr :: l) m3 ?_
  rw [← m3.w] at d3
  unfold LW at hkk ⊢
  walk_nrm
  repeat (first | refine Walk.cx ?_ | (refine Walk.cReg ?_; simp only [z90]) | (refine Walk.oq ?_; try walk_nrm) | (refine Walk.un ?_; walk_nrm))
  exact Walk.onCell (T := Rb) rfl rfl rfl Try.func90 rfl (by rfl) d3 (by kernel_rfl) (by kernel_rfl) hkk
end
end
end Go.Proofs.Ytgfajibjedfkdaa
