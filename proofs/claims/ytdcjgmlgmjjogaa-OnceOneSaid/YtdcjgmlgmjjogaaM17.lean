/- Part 17. -/
import Derived.Test.YtdcjgmlgmjjogaaM11
import Derived.Test.YtdcjgmlgmjjogaaM14
import Derived.Test.YtdcjgmlgmjjogaaM16
set_option linter.unusedSimpArgs false
set_option linter.unusedVariables false
set_option maxHeartbeats 8000000
set_option maxRecDepth 100000
namespace Go.Proofs.Ytdcjgmlgmjjogaa
open Go.Conc Go.RowKit Go.Relay
open Go.ConcN (upd upd_ne upd_same)
noncomputable def reg5_0 : Array Oper := match Try.f5.body with | some (.seq (.region _ ops _) _) => ops | _ => #[]
theorem size5_0 : reg5_0.size = 1 := by kernel_rfl
noncomputable def reg5_1 : Array Oper := match Try.f5.body with | some (.seq _ (.seq (.seq (.region _ ops _) _) _)) => ops | _ => #[]
theorem size5_1 : reg5_1.size = 2 := by kernel_rfl
noncomputable def reg5_2 : Array Oper := match Try.f5.body with | some (.seq _ (.seq (.seq _ (.cond _ (.seq (.region _ ops _) _) _)) _)) => ops | _ => #[]
theorem size5_2 : reg5_2.size = 1 := by kernel_rfl
noncomputable def reg5_3 : Array Oper := match Try.f5.body with | some (.seq _ (.seq _ (.seq (.region _ ops _) _))) => ops | _ => #[]
theorem size5_3 : reg5_3.size = 5 := by kernel_rfl
noncomputable def reg5_4 : Array Oper := match Try.f5.body with | some (.seq _ (.seq _ (.seq _ (.seq (.region _ ops _) _)))) => ops | _ => #[]
theorem size5_4 : reg5_4.size = 4 := by kernel_rfl
noncomputable def reg5_5 : Array Oper := match Try.f5.body with | some (.seq _ (.seq _ (.seq _ (.seq _ (.seq (.region _ ops _) _))))) => ops | _ => #[]
theorem size5_5 : reg5_5.size = 9 := by kernel_rfl
noncomputable def reg5_6 : Array Oper := match Try.f5.body with | some (.seq _ (.seq _ (.seq _ (.seq _ (.seq _ (.seq (.seq (.region _ ops _) _) _)))))) => ops | _ => #[]
theorem size5_6 : reg5_6.size = 14 := by kernel_rfl
noncomputable def reg5_7 : Array Oper := match Try.f5.body with | some (.seq _ (.seq _ (.seq _ (.seq _ (.seq _ (.seq (.seq _ (.cond _ (.seq (.region _ ops _) _) _)) _)))))) => ops | _ => #[]
theorem size5_7 : reg5_7.size = 1 := by kernel_rfl
noncomputable def reg5_8 : Array Oper := match Try.f5.body with | some (.seq _ (.seq _ (.seq _ (.seq _ (.seq _ (.seq _ (.seq (.region _ ops _) _))))))) => ops | _ => #[]
theorem size5_8 : reg5_8.size = 8 := by kernel_rfl
theorem code5_is : Try.f5.body = some (.seq (.region 0 reg5_0 false) (.seq (.seq (.region 1 reg5_1 false) (.cond (.tmp 13 ) (.seq (.region 2 reg5_2 false) (.ret)) (.skip))) (.seq (.region 3 reg5_3 false) (.seq (.region 4 reg5_4 false) (.seq (.region 5 reg5_5 false) (.seq (.seq (.region 6 reg5_6 false) (.cond (.tmp 41 ) (.seq (.region 7 reg5_7 false) (.ret)) (.skip))) (.seq (.region 8 reg5_8 false) (.ret)))))))) := by kernel_rfl
theorem cvO1 (k : Int) (w : World) (es : Array Event) : (convert 5 3 (.int .u8 k)).run Try.prog w = .ok (.int .i64 (IntKind.i64.wrap k)) w ∧ (convert 5 3 (.int .u8 k)).events Try.prog w es = es := by
  have h := run_convert_int (P := Try.prog) (w := w) 5 3 .u8 k (by kernel_rfl) (by kernel_rfl)
  rw [show Try.prog.intKind 3 = .i64 from by kernel_rfl] at h
  exact ⟨h, events_convert_int 5 3 .u8 k (by kernel_rfl) (by kernel_rfl) es⟩
theorem cvO2 (k : Int) (w : World) (es : Array Event) : (convert 57 3 (.int .u16 k)).run Try.prog w = .ok (.int .i64 (IntKind.i64.wrap k)) w ∧ (convert 57 3 (.int .u16 k)).events Try.prog w es = es := by
  have h := run_convert_int (P := Try.prog) (w := w) 57 3 .u16 k (by kernel_rfl) (by kernel_rfl)
  rw [show Try.prog.intKind 3 = .i64 from by kernel_rfl] at h
  exact ⟨h, events_convert_int 57 3 .u16 k (by kernel_rfl) (by kernel_rfl) es⟩
def OneOK (n : Nat) (own : Value) (cells : Array Value) (w : World) : Prop := CallW Try.prog true (fun _ => none) 18 #[.int .i64 n, own, .agg cells] w (fun v w' => v = .bool true ∧ Chg (fun _ => False) w w')
def PO3 (n : Nat) (own : Value) (fr : Frame) : Prop := ∀ (cells : Array Value) (w : World), OneOK n own cells w → Walk Try.prog true (DR (fun _ => none)) (fun g w' => Closing 5 8 (.bool true) g ∧ Chg (fun _ => False) w w') (G (fr.finish (.agg cells)) []) w
def PO2 (n : Nat) (own sv : Value) (M : Nat) (fr : Frame) : Prop := ∀ (ba oa sa : Option Addr) (nT bc nO oc nS sc : Nat) (kk : Bool) (w : World), nO ≤ M → (∀ w1 : World, Chg (fun _ => False) w w1 → OneOK n own (trC (.slice ba nT bc) (.slice oa nO oc) (.slice sa nS sc) kk) w1) →
  Walk Try.prog true (DR (fun _ => none)) (fun g w' => ∃ fr2, g = G (Frame.enter Try.prog 11 #[.int .i64 n, own, sv, .int .i64 1048576] .normal) [fr2] ∧ Chg (fun _ => False) w w' ∧ PO3 n own fr2) (G (fr.finish (.agg (trC (.slice ba nT bc) (.slice oa nO oc) (.slice sa nS sc) kk))) []) w
def PO1 (n : Nat) (tv sv : Value) (M : Nat) (fr : Frame) : Prop := ∀ (w : World) (Y : Value → World → Prop), CallW Try.prog true (fun _ => none) 17 #[.int .i64 n, tv] w Y →
  Walk Try.prog true (DR (fun _ => none)) (fun g w' => ∃ own w1 fr2, g = G (Frame.enter Try.prog 11 #[.int .i64 n, own, sv, .int .i64 M] .normal) [fr2] ∧ Y own w1 ∧ (∃ d, w' = w1.at d) ∧ PO2 n own sv M fr2) (G (fr.finish (.bool true)) []) w
theorem oo_in (ce mo : Int) (n M : Nat) (tv sv : Value) (hn : 1 + ce.tmod 3 = n) (hn3 : n ≤ 3) (hn1 : 1 ≤ n) (hM : mo.tmod 200 = M) (hM2 : M < 200) (w : World) : Walk Try.prog true (DR (fun _ => none)) (fun g w' => ∃ fr, g = G (Frame.enter Try.prog 9 #[] .normal) [fr] ∧ (∃ d, w' = w.at d) ∧ PO1 n tv sv M fr) (G (Frame.enter Try.prog 5 #[.int .u8 ce, tv, sv, .int .u16 mo] .normal) []) w := by
  obtain ⟨R, hR⟩ : ∃ R : Nat, ce.tmod 3 = R := ⟨n - 1, by omega⟩
  have hn' : (1 : Int) + (R : Int) = n := by rw [← hR]; exact hn
  have r1 : IntKind.i64.wrap (R : Int) = (R : Int) := by rw [IntKind.wrap_i64]; omega
  have r2 : IntKind.i64.wrap ((1 : Int) + (R : Int)) = (n : Int) := by rw [IntKind.wrap_i64]; omega
  have m1 : IntKind.i64.wrap (M : Int) = (M : Int) := by rw [IntKind.wrap_i64]; omega
  have r3 : IntKind.u8.wrap (R : Int) = (R : Int) := by rw [IntKind.wrap_u8]; omega
  have m3 : IntKind.u16.wrap (M : Int) = (M : Int) := by rw [IntKind.wrap_u16]; omega
  have v1 := fun w => (cvO1 (R : Int) w #[]).1
  have v2 := fun w es => (cvO1 (R : Int) w es).2
  have v3 := fun w => (cvO2 (M : Int) w #[]).1
  have v4 := fun w es => (cvO2 (M : Int) w es).2
  rw [r1] at v1
  rw [m1] at v3
  clear hn hn'
  obtain ⟨fsT, huT⟩ := structT 29 (by kernel_rfl)
  rw [enter_at _ Try.func5 code5_is]
  simp only [Try.ntmps5, List.size_toArray, List.length_cons, List.length_nil, Nat.reduceAdd, Nat.reduceSub, Array.replicate_succ, Array.replicate_zero, List.push_toArray, List.append_toArray, List.nil_append, List.cons_append]
  repeat (first | refine Walk.c rfl ?_ | refine Walk.cRet ?_ | refine Walk.cEnd ?_ | (refine Walk.cReg ?_; simp only [size5_0, size5_1, size5_2, size5_3, size5_4, size5_5, size5_6, size5_7, size5_8, List.range, List.range.loop]) | (refine Walk.oq ?_; try walk_nrm) | (refine Walk.un ?_; walk_nrm))
  refine Walk.callE (ho_of (by conv => lhs; whnf) (by kernel_rfl)) (by rfl) (by decide) rfl Try.func9 (by kernel_rfl) (by rfl) ?_
  walk_nrm
  refine .stop fun d => ⟨_, rfl, ⟨d, rfl⟩, ?_⟩
  intro w1 Y hY
  refine Walk.finish (ho_of (by conv => lhs; whnf) (by kernel_rfl)) ?_
  walk_nrm
  repeat (first | refine Walk.c rfl ?_ | refine Walk.cRet ?_ | refine Walk.cEnd ?_ | (refine Walk.cReg ?_; simp only [size5_0, size5_1, size5_2, size5_3, size5_4, size5_5, size5_6, size5_7, size5_8, List.range, List.range.loop]) | (refine Walk.oq ?_; try walk_nrm) | (refine Walk.un ?_; walk_nrm))
  refine Walk.callW (Post := Y) ?_ (ho_of (by conv => lhs; whnf) (by kernel_rfl)) (by rfl) (by decide) rfl Try.func17 (by kernel_rfl) (by rfl) ?_
  · walk_nrm
    exact hY
  intro own w2 hY2
  clear hY
  walk_nrm
  repeat (first | refine Walk.c rfl ?_ | refine Walk.cRet ?_ | refine Walk.cEnd ?_ | (refine Walk.cReg ?_; simp only [size5_0, size5_1, size5_2, size5_3, size5_4, size5_5, size5_6, size5_7, size5_8, List.range, List.range.loop]) | (refine Walk.oq ?_; try walk_nrm) | (refine Walk.un ?_; walk_nrm))
  refine Walk.callE (ho_of (by conv => lhs; whnf) (by kernel_rfl)) (by rfl) (by decide) rfl Try.func11 (by kernel_rfl) (by rfl) ?_
  walk_nrm
  refine .stop fun d => ⟨own, w2, _, rfl, hY2, ⟨d, rfl⟩, ?_⟩
  intro ba oa sa nT bc nO oc nS sc kk w3 hO hone
  have g1 : decide ((M : Int) < nO) = false := by simp; omega
  have g2 : decide (M < nO) = false := by simp; omega
  unfold trC
  refine Walk.finish (ho_of (by conv => lhs; whnf) (by kernel_rfl)) ?_
  walk_nrm
  (refine Walk.oa ?_; try walk_nrm)
  have d1 := heap_alloc_new w3 (.cells #[.slice none 0 0, .slice none 0 0, .slice none 0 0, .bool false] 29)
  have p1 : ∀ b, b < w3.heap.size → (w3.alloc (.cells #[.slice none 0 0, .slice none 0 0, .slice none 0 0, .bool false] 29)).heap[b]? = w3.heap[b]? := fun b hb => heap_new_lt _ _ hb
  have s1 : (w3.alloc (.cells #[.slice none 0 0, .slice none 0 0, .slice none 0 0, .bool false] 29)).heap.size = w3.heap.size + 1 := by simp
  generalize hQ : w3.heap.size = Q at *
  generalize w3.alloc (.cells #[.slice none 0 0, .slice none 0 0, .slice none 0 0, .bool false] 29) = w4 at *
  repeat (first | (refine Walk.oq ?_; try walk_nrm) | (refine Walk.un ?_; walk_nrm))
  refine Walk.storeS 29 (.tmp 11) (.tmp 27) (ho_of (by conv => lhs; whnf) (by kernel_rfl)) (by rfl) (by decide) rfl Q #[.slice ba nT bc, .slice oa nO oc, .slice sa nS sc, .bool kk] _ 29 rfl rfl d1 (by kernel_rfl) (by rfl) (by simp [Value.oneCell']) (ap0 _) ?_
  have d2 := setRow_self (cells := #[.slice ba nT bc, .slice oa nO oc, .slice sa nS sc, .bool kk]) d1
  have p2 : ∀ b, b < Q → (w4.setRow Q #[.slice ba nT bc, .slice oa nO oc, .slice sa nS sc, .bool kk]).heap[b]? = w3.heap[b]? := fun b hb => (setRow_other _ _ (by omega)).trans (p1 b hb)
  have s2 := (setRow_size w4 Q #[.slice ba nT bc, .slice oa nO oc, .slice sa nS sc, .bool kk]).trans s1
  clear d1 p1 s1
  generalize w4.setRow Q #[.slice ba nT bc, .slice oa nO oc, .slice sa nS sc, .bool kk] = w5 at *
  have C5 : Chg (fun _ => False) w3 w5 := ⟨by omega, fun b hb _ => p2 b (by omega)⟩
  have hone5 := hone w5 C5
  clear hone
  walk_nrm
  repeat (first | refine Walk.c rfl ?_ | refine Walk.cRet ?_ | refine Walk.cEnd ?_ | (refine Walk.cReg ?_; simp only [size5_0, size5_1, size5_2, size5_3, size5_4, size5_5, size5_6, size5_7, size5_8, List.range, List.range.loop]) | (refine Walk.oq ?_; try walk_nrm) | (refine Walk.un ?_; walk_nrm))
  refine Walk.loadS 29 (.tmp 11) (ho_of (by conv => lhs; whnf) (by kernel_rfl)) (by rfl) (by decide) rfl Q 0 [.slice ba nT bc, .slice oa nO oc, .slice sa nS sc, .bool kk] (.struct fsT) rfl (fun y v hv => ?_) huT rfl (by kernel_rfl) ?_
  · rw [Nat.zero_add, cell_of d2]
    simpa using hv
  walk_nrm
  refine Walk.callW (Post := fun v w' => v = .bool true ∧ Chg (fun _ => False) w5 w') ?_ (ho_of (by conv => lhs; whnf) (by kernel_rfl)) (by rfl) (by decide) rfl Try.func18 (by kernel_rfl) (by rfl) ?_
  · walk_nrm
    exact hone5
  rintro v w6 ⟨rfl, C6⟩
  have s6 := C6.size
  have k1 : w6.cell? ⟨Q, 1, none⟩ = some (.slice oa nO oc) := (World.cell?_of_block (a := ⟨Q, 1, none⟩) (C6.same Q (by omega) id)).trans ((cell_of d2 1).trans rfl)
  clear hone5 d2
  walk_nrm
  repeat (first | refine Walk.c rfl ?_ | refine Walk.cRet ?_ | refine Walk.cEnd ?_ | (refine Walk.cReg ?_; simp only [size5_0, size5_1, size5_2, size5_3, size5_4, size5_5, size5_6, size5_7, size5_8, List.range, List.range.loop]) | (refine Walk.oq ?_; try walk_nrm) | (refine Walk.un ?_; walk_nrm))
  refine Walk.callE (ho_of (by conv => lhs; whnf) (by kernel_rfl)) (by rfl) (by decide) rfl Try.func11 (by kernel_rfl) (by rfl) ?_
  walk_nrm
  refine .stop fun d => ⟨_, rfl, ⟨by show w3.heap.size ≤ w6.heap.size; omega, fun b hb _ => (C6.same b (by omega) id).trans (p2 b (by omega))⟩, ?_⟩
  intro cells w7 hone7
  refine Walk.finish (ho_of (by conv => lhs; whnf) (by kernel_rfl)) ?_
  walk_nrm
  refine Walk.callW (Post := fun v w' => v = .bool true ∧ Chg (fun _ => False) w7 w') ?_ (ho_of (by conv => lhs; whnf) (by kernel_rfl)) (by rfl) (by decide) rfl Try.func18 (by kernel_rfl) (by rfl) ?_
  · walk_nrm
    exact hone7
  rintro v w8 ⟨rfl, C8⟩
  clear hone7
  walk_nrm
  repeat (first | refine Walk.c rfl ?_ | refine Walk.cRet ?_ | refine Walk.cEnd ?_ | (refine Walk.cReg ?_; simp only [size5_0, size5_1, size5_2, size5_3, size5_4, size5_5, size5_6, size5_7, size5_8, List.range, List.range.loop]) | (refine Walk.oq ?_; try walk_nrm) | (refine Walk.un ?_; walk_nrm))
  exact .stop fun d => ⟨⟨_, rfl, rfl, rfl, rfl, rfl, rfl⟩, C8.at d⟩
end Go.Proofs.Ytdcjgmlgmjjogaa
