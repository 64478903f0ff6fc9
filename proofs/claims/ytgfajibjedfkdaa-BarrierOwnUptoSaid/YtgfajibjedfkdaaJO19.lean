/- Part 19. -/
import Derived.Test.YtgfajibjedfkdaaJO18
set_option linter.unusedSimpArgs false
set_option linter.unusedVariables false
set_option linter.unusedVariables false
set_option maxHeartbeats 8000000
set_option maxRecDepth 100000
namespace Go.Proofs.Ytgfajibjedfkdaa
open Go.Conc Go.RowKit Go.Relay
open Go.ConcN (upd upd_ne upd_same)
section
theorem cw_imp {main : Bool} {V : Nat → Option Wait} {f : FuncId} {args : Array Value} {w : World} {Post Post' : Value → World → Prop} (h : CallW Try.prog main V f args w Post) (hp : ∀ v w', Post v w' → Post' v w') : CallW Try.prog main V f args w Post' :=
  fun fr cs => (h fr cs).mono fun g w' ⟨v, hv, hg⟩ => ⟨v, hp v w' hv, hg⟩
theorem run_ifaceR (a : Option Addr) (w : World) : (Instr.makeInterface 27 (.pointer a)).run Try.prog w = .ok (.iface 27 (.pointer a)) w := by simp [Instr.makeInterface, run_underlying und15r]
theorem ev_ifaceR (a : Option Addr) (w : World) (es : Array Event) : (Instr.makeInterface 27 (.pointer a)).events Try.prog w es = es := by simp [Instr.makeInterface, run_underlying und15r]
theorem run_ifaceS (a : Option Addr) (w : World) : (Instr.makeInterface 35 (.pointer a)).run Try.prog w = .ok (.iface 35 (.pointer a)) w := by simp [Instr.makeInterface, run_underlying und15s]
theorem ev_ifaceS (a : Option Addr) (w : World) (es : Array Event) : (Instr.makeInterface 35 (.pointer a)).events Try.prog w es = es := by simp [Instr.makeInterface, run_underlying und15s]
def wLs (i : Nat) : List Int := if i = 0 then [5] else [3]
def wS0 : Rs := ⟨0, fun _ => 0, false⟩
def wS1 : Rs := wS0.lim 1 2
def wR1 : Rs × Int × Int := waitR wLs 2 1 3 1 1 wS1
def wR2 : Rs × Int × Int := waitR wLs 2 1 3 1 2 wR1.1
def wR3 : Rs × Int × Int := waitR wLs 2 1 3 2 2 wR2.1
def wR4 : Rs × Int × Int := waitR wLs 2 1 4 2 3 wR3.1
theorem wV0 : limV wLs wS0 1 2 = 3 := by kernel_rfl
theorem wV1 : wR1.2 = (3, 0) := by kernel_rfl
theorem wV2 : wR2.2 = (0, 4) := by kernel_rfl
theorem wV3 : wR3.2 = (3, 0) := by kernel_rfl
theorem wV4 : wR4.2.2 = 4 := by kernel_rfl
theorem wN1 : wS1.n = 2 := by kernel_rfl
theorem wN4 : wR4.1.n = 16 := by kernel_rfl
theorem bd_two {X : RX} {s : Rs} (hk : X.k = 2) (h : decide (s.n + 4096 < 1152921504606846976 ∧ s.ld 0 + 4096 < 1152921504606846976 ∧ s.ld 1 + 4096 < 1152921504606846976) = true) : Bd X s ((X.k + 2) * 1024) := by
  obtain ⟨h1, h2, h3⟩ := of_decide_eq_true h
  rw [hk]
  refine ⟨h1, fun i hi => ?_⟩
  rw [hk] at hi
  match i, hi with
  | 0, _ => exact h2
  | 1, _ => exact h3
def wX (base : World) (T P bb g sc : Nat) : RX := ⟨base, P, 2, fun i => if i = 0 then T + 1 else T + 3, fun i => some ⟨if i = 0 then T else T + 2, 0, none⟩, wLs, fun _ => 1, bb, g, some ⟨g, 0, none⟩, sc, fun _ => True, fun _ _ _ h => h⟩
theorem wX_ri {base w : World} {T P bb g sc : Nat} (hT : T = base.heap.size)
    (h1 : w.heap[T]? = some (.cells #[.int .i64 5] 2)) (h2 : w.heap[T + 1]? = some (.cells #[.slice (some ⟨T, 0, none⟩) 1 1, .int .i64 0] 30))
    (h3 : w.heap[T + 2]? = some (.cells #[.int .i64 3] 2)) (h4 : w.heap[T + 3]? = some (.cells #[.slice (some ⟨T + 2, 0, none⟩) 1 1, .int .i64 0] 30))
    (hP : w.heap[P]? = some (.cells #[.int .i64 0] 37)) (hPl : T ≤ P)
    (hB : w.heap[bb]? = some (.cells #[.slice (some ⟨g, 0, none⟩) 2 sc, .int .u32 0] 54)) (hBl : T ≤ bb)
    (hg : ∃ arr : Array Value, w.heap[g]? = some (.cells arr 32) ∧ ∀ (i r : Nat), ([some (T + 1), some (T + 3)] : List (Option Nat))[i]? = some (some r) → arr[i]? = some (srcV r)) (hsc : 2 ≤ sc)
    (ho : ∀ b, b < base.heap.size → w.heap[b]? = base.heap[b]?) (hs : base.heap.size ≤ w.heap.size) : RI (wX base T P bb g sc) wS0 w := by
  refine ⟨hP, fun i hi => ?_, fun i hi _ => ?_, fun i j hi hj h => ?_, hB, fun _ => ⟨rfl, ?_⟩, hsc, ho, ⟨by subst hT; exact hPl, by subst hT; exact hBl, fun i hi => ?_⟩, hs, trivial⟩
  · match i, hi with
    | 0, _ => exact h2
    | 1, _ => exact h4
  · match i, hi with
    | 0, _ =>
      refine ⟨T, _, rfl, h1, fun j z hz => ?_⟩
      match j, hz with
      | 0, hz => cases hz; rfl
    | 1, _ =>
      refine ⟨T + 2, _, rfl, h3, fun j z hz => ?_⟩
      match j, hz with
      | 0, hz => cases hz; rfl
  · match i, j, hi, hj, h with
    | 0, 0, _, _, _ => rfl
    | 1, 1, _, _, _ => rfl
    | 0, 1, _, _, h =>
      have h' : T + 1 = T + 3 := h
      omega
    | 1, 0, _, _, h =>
      have h' : T + 3 = T + 1 := h
      omega
  · obtain ⟨arr, x1, x2⟩ := hg
    refine ⟨arr, x1, fun i hi => ?_⟩
    match i, hi with
    | 0, _ => exact x2 0 (T + 1) rfl
    | 1, _ => exact x2 1 (T + 3) rfl
  · subst hT
    match i, hi with
    | 0, _ => exact (Nat.le_succ _ : base.heap.size ≤ base.heap.size + 1)
    | 1, _ => exact (Nat.le_add_right _ _ : base.heap.size ≤ base.heap.size + 3)
noncomputable def reg12_0 := rg Try.f12.body [0]
noncomputable def reg12_1 := rg Try.f12.body [1, 0]
noncomputable def reg12_2 := rg Try.f12.body [1, 1, 0, 0]
noncomputable def reg12_3 := rg Try.f12.body [1, 1, 0, 1, 0, 0]
noncomputable def reg12_4 := rg Try.f12.body [1, 1, 1, 0]
noncomputable def reg12_5 := rg Try.f12.body [1, 1, 1, 1, 0, 0]
noncomputable def reg12_6 := rg Try.f12.body [1, 1, 1, 1, 0, 1, 0, 0]
noncomputable def reg12_7 := rg Try.f12.body [1, 1, 1, 1, 1, 0]
noncomputable def reg12_8 := rg Try.f12.body [1, 1, 1, 1, 1, 1, 0]
noncomputable def reg12_9 := rg Try.f12.body [1, 1, 1, 1, 1, 1, 1, 0]
noncomputable def reg12_10 := rg Try.f12.body [1, 1, 1, 1, 1, 1, 1, 1, 0]
noncomputable def reg12_11 := rg Try.f12.body [1, 1, 1, 1, 1, 1, 1, 1, 1, 0]
theorem z12 : List.range reg12_0.size = [0] ∧ List.range reg12_1.size = [0, 1, 2, 3, 4, 5, 6, 7, 8, 9, 10] ∧ List.range reg12_2.size = [0, 1] ∧ List.range reg12_3.size = [0] ∧ List.range reg12_4.size = [0, 1, 2] ∧ List.range reg12_5.size = [0, 1, 2, 3, 4, 5, 6, 7, 8, 9, 10, 11] ∧ List.range reg12_6.size = [0] ∧ List.range reg12_7.size = [0, 1, 2, 3, 4, 5, 6, 7, 8] ∧ List.range reg12_8.size = [0, 1, 2, 3, 4, 5, 6, 7, 8] ∧ List.range reg12_9.size = [0, 1, 2, 3, 4, 5, 6, 7, 8] ∧ List.range reg12_10.size = [0, 1, 2, 3, 4, 5, 6, 7, 8] ∧ List.range reg12_11.size = [0, 1, 2, 3, 4, 5, 6, 7, 8, 9, 10, 11, 12, 13, 14, 15, 16, 17, 18, 19, 20, 21, 22, 23, 24, 25, 26, 27, 28, 29, 30, 31, 32, 33] := by refine ⟨?_, ?_, ?_, ?_, ?_, ?_, ?_, ?_, ?_, ?_, ?_, ?_⟩ <;> kernel_rfl
theorem code12_is : Try.f12.body = some (.seq (.region 0 reg12_0 false) (.seq (.region 1 reg12_1 false) (.seq (.seq (.region 2 reg12_2 false) (.cond (.tmp 22 ) (.seq (.region 3 reg12_3 false) (.ret)) (.skip))) (.seq (.region 4 reg12_4 false) (.seq (.seq (.region 5 reg12_5 false) (.cond (.tmp 36 ) (.seq (.region 6 reg12_6 false) (.ret)) (.skip))) (.seq (.region 7 reg12_7 false) (.seq (.region 8 reg12_8 false) (.seq (.region 9 reg12_9 false) (.seq (.region 10 reg12_10 false) (.seq (.region 11 reg12_11 false) (.ret))))))))))) := by kernel_rfl
section
variable {main : Bool} {V : Nat → Option Wait} {X : RX} {w : World}
theorem wCal0 (hA : ∀ b, Apart V b) (hk : X.k = 2) (hl : X.ls = wLs) (I : RI X wS0 w) : CallW Try.prog main V 15 #[.pointer (some ⟨X.bb, 0, none⟩), cntV X.p] w (fun v w' => v = .int .i64 3 ∧ RI X wS1 w') := by
  have h := limit15 (main := main) (sv := cntV X.p) (dl := 1) hA I (.inl ⟨rfl, rfl⟩) (by omega) (by omega) ((bd_two hk (by kernel_rfl)).le (by omega))
  rw [hk, hl, wV0] at h
  exact h
theorem wCal1 (hA : ∀ b, Apart V b) (hk : X.k = 2) (hl : X.ls = wLs) (I : RI X wS1 w) : CallW Try.prog main V 14 #[.pointer (some ⟨X.bb, 0, none⟩), cntV X.p, .int .i64 3, .int .i64 1, .int .i64 1] w (fun v w' => v = .tuple #[.int .i64 3, .int .i64 0] ∧ RI X wR1.1 w') := by
  have h := wait15 (main := main) (sv := cntV X.p) (dl := 1) hA (.inl ⟨rfl, rfl⟩) (by omega) 3 1 1 I (bd_two hk (by kernel_rfl))
  rw [hk, hl, show waitR wLs 2 1 3 1 1 wS1 = wR1 from rfl] at h
  refine cw_imp h ?_
  rintro v w' ⟨rfl, I'⟩
  exact ⟨by rw [wV1], I'⟩
theorem wCal2 (hA : ∀ b, Apart V b) (hk : X.k = 2) (hl : X.ls = wLs) (I : RI X wR1.1 w) : CallW Try.prog main V 14 #[.pointer (some ⟨X.bb, 0, none⟩), cntV X.p, .int .i64 3, .int .i64 1, .int .i64 2] w (fun v w' => v = .tuple #[.int .i64 0, .int .i64 4] ∧ RI X wR2.1 w') := by
  have h := wait15 (main := main) (sv := cntV X.p) (dl := 1) hA (.inl ⟨rfl, rfl⟩) (by omega) 3 1 2 I (bd_two hk (by kernel_rfl))
  rw [hk, hl, show waitR wLs 2 1 3 1 2 wR1.1 = wR2 from rfl] at h
  refine cw_imp h ?_
  rintro v w' ⟨rfl, I'⟩
  exact ⟨by rw [wV2], I'⟩
theorem wCal3 (hA : ∀ b, Apart V b) (hk : X.k = 2) (hl : X.ls = wLs) (I : RI X wR2.1 w) : CallW Try.prog main V 14 #[.pointer (some ⟨X.bb, 0, none⟩), cntV X.p, .int .i64 3, .int .i64 2, .int .i64 2] w (fun v w' => v = .tuple #[.int .i64 3, .int .i64 0] ∧ RI X wR3.1 w') := by
  have h := wait15 (main := main) (sv := cntV X.p) (dl := 1) hA (.inl ⟨rfl, rfl⟩) (by omega) 3 2 2 I (bd_two hk (by kernel_rfl))
  rw [hk, hl, show waitR wLs 2 1 3 2 2 wR2.1 = wR3 from rfl] at h
  refine cw_imp h ?_
  rintro v w' ⟨rfl, I'⟩
  exact ⟨by rw [wV3], I'⟩
theorem wCal4 (hA : ∀ b, Apart V b) (hk : X.k = 2) (hl : X.ls = wLs) (I : RI X wR3.1 w) : CallW Try.prog main V 14 #[.pointer (some ⟨X.bb, 0, none⟩), cntV X.p, .int .i64 4, .int .i64 2, .int .i64 3] w (fun v w' => v = .tuple #[.int .i64 wR4.2.1, .int .i64 4] ∧ RI X wR4.1 w') := by
  have h := wait15 (main := main) (sv := cntV X.p) (dl := 1) hA (.inl ⟨rfl, rfl⟩) (by omega) 4 2 3 I (bd_two hk (by kernel_rfl))
  rw [hk, hl, show waitR wLs 2 1 4 2 3 wR3.1 = wR4 from rfl] at h
  refine cw_imp h ?_
  rintro v w' ⟨rfl, I'⟩
  exact ⟨by rw [wV4], I'⟩
theorem waits_w (hA : ∀ b, Apart V b) (w : World) : CallW Try.prog main V 12 #[] w (fun v w' => v = .bool true ∧ (∀ b, b < w.heap.size → w'.heap[b]? = w.heap[b]?) ∧ w.heap.size ≤ w'.heap.size) := by
  have r1 := run_ifaceR
  have r2 := ev_ifaceR
  refine callW_in Try.func12 code12_is fun fr cs => ?_
  simp only [Try.ntmps12, ez, Nat.reduceAdd, Nat.reduceSub]
  obtain ⟨T, hT⟩ : ∃ T, w.heap.size = T := ⟨_, rfl⟩
  rw [hT]
  repeat (first | refine Walk.cx ?_ | (refine Walk.cReg ?_; simp only [z12]) | (refine Walk.oq ?_; try walk_nrm) | (refine Walk.un ?_; walk_nrm))
  (refine Walk.oa ?_; try walk_nrm)
  have s1 : (w.alloc (.cells #[.int .i64 5] 2)).heap.size = T + 1 := by simp [hT]
  have o1 : ∀ b, b < T → (w.alloc (.cells #[.int .i64 5] 2)).heap[b]? = w.heap[b]? := fun b hb => heap_new_lt _ _ (by omega)
  have d1 : (w.alloc (.cells #[.int .i64 5] 2)).heap[T]? = some (.cells #[.int .i64 5] 2) := hT ▸ heap_alloc_new w (.cells #[.int .i64 5] 2)
  try simp only [hT]
  change Walk Try.prog main _ _ _ (w.alloc (.cells #[.int .i64 5] 2))
  generalize w.alloc (.cells #[.int .i64 5] 2) = x1 at *
  repeat (first | (refine Walk.oq ?_; try walk_nrm) | (refine Walk.un ?_; walk_nrm))
  (refine Walk.oa ?_; try walk_nrm)
  have s2 : (x1.alloc (.cells #[.slice (some ⟨T, 0, none⟩) 1 1, .int .i64 0] 30)).heap.size = T + 2 := by simp [s1]
  have o2 : ∀ b, b < (T + 1) → (x1.alloc (.cells #[.slice (some ⟨T, 0, none⟩) 1 1, .int .i64 0] 30)).heap[b]? = x1.heap[b]? := fun b hb => heap_new_lt _ _ (by omega)
  have d2 : (x1.alloc (.cells #[.slice (some ⟨T, 0, none⟩) 1 1, .int .i64 0] 30)).heap[(T + 1)]? = some (.cells #[.slice (some ⟨T, 0, none⟩) 1 1, .int .i64 0] 30) := s1 ▸ heap_alloc_new x1 (.cells #[.slice (some ⟨T, 0, none⟩) 1 1, .int .i64 0] 30)
  try simp only [s1]
  change Walk Try.prog main _ _ _ (x1.alloc (.cells #[.slice (some ⟨T, 0, none⟩) 1 1, .int .i64 0] 30))
  generalize x1.alloc (.cells #[.slice (some ⟨T, 0, none⟩) 1 1, .int .i64 0] 30) = x2 at *
  repeat (first | (refine Walk.oq ?_; try walk_nrm) | (refine Walk.un ?_; walk_nrm))
  (refine Walk.oa ?_; try walk_nrm)
  have s3 : (x2.alloc (.cells #[.int .i64 3] 2)).heap.size = T + 3 := by simp [s2]
  have o3 : ∀ b, b < (T + 2) → (x2.alloc (.cells #[.int .i64 3] 2)).heap[b]? = x2.heap[b]? := fun b hb => heap_new_lt _ _ (by omega)
  have d3 : (x2.alloc (.cells #[.int .i64 3] 2)).heap[(T + 2)]? = some (.cells #[.int .i64 3] 2) := s2 ▸ heap_alloc_new x2 (.cells #[.int .i64 3] 2)
  try simp only [s2]
  change Walk Try.prog main _ _ _ (x2.alloc (.cells #[.int .i64 3] 2))
  generalize x2.alloc (.cells #[.int .i64 3] 2) = x3 at *
  repeat (first | (refine Walk.oq ?_; try walk_nrm) | (refine Walk.un ?_; walk_nrm))
  (refine Walk.oa ?_; try walk_nrm)
  have s4 : (x3.alloc (.cells #[.slice (some ⟨T + 2, 0, none⟩) 1 1, .int .i64 0] 30)).heap.size = T + 4 := by simp [s3]
  have o4 : ∀ b, b < (T + 3) → (x3.alloc (.cells #[.slice (some ⟨T + 2, 0, none⟩) 1 1, .int .i64 0] 30)).heap[b]? = x3.heap[b]? := fun b hb => heap_new_lt _ _ (by omega)
  have d4 : (x3.alloc (.cells #[.slice (some ⟨T + 2, 0, none⟩) 1 1, .int .i64 0] 30)).heap[(T + 3)]? = some (.cells #[.slice (some ⟨T + 2, 0, none⟩) 1 1, .int .i64 0] 30) := s3 ▸ heap_alloc_new x3 (.cells #[.slice (some ⟨T + 2, 0, none⟩) 1 1, .int .i64 0] 30)
  try simp only [s3]
  change Walk Try.prog main _ _ _ (x3.alloc (.cells #[.slice (some ⟨T + 2, 0, none⟩) 1 1, .int .i64 0] 30))
  generalize x3.alloc (.cells #[.slice (some ⟨T + 2, 0, none⟩) 1 1, .int .i64 0] 30) = x4 at *
  repeat (first | (refine Walk.oq ?_; try walk_nrm) | (refine Walk.un ?_; walk_nrm))
  (refine Walk.oa ?_; try walk_nrm)
  have s5 : (x4.alloc (.cells #[.nilIface, .iface 27 (.pointer (some ⟨T + 3, 0, none⟩))] 32)).heap.size = T + 5 := by simp [s4]
  have o5 : ∀ b, b < (T + 4) → (x4.alloc (.cells #[.nilIface, .iface 27 (.pointer (some ⟨T + 3, 0, none⟩))] 32)).heap[b]? = x4.heap[b]? := fun b hb => heap_new_lt _ _ (by omega)
  have d5 : (x4.alloc (.cells #[.nilIface, .iface 27 (.pointer (some ⟨T + 3, 0, none⟩))] 32)).heap[(T + 4)]? = some (.cells #[.nilIface, .iface 27 (.pointer (some ⟨T + 3, 0, none⟩))] 32) := s4 ▸ heap_alloc_new x4 (.cells #[.nilIface, .iface 27 (.pointer (some ⟨T + 3, 0, none⟩))] 32)
  try simp only [s4]
  change Walk Try.prog main _ _ _ (x4.alloc (.cells #[.nilIface, .iface 27 (.pointer (some ⟨T + 3, 0, none⟩))] 32))
  generalize x4.alloc (.cells #[.nilIface, .iface 27 (.pointer (some ⟨T + 3, 0, none⟩))] 32) = x5 at *
  repeat (first | (refine Walk.oq ?_; try walk_nrm) | (refine Walk.un ?_; walk_nrm))
  have hsrc : SrcA (some ⟨T + 4, 0, none⟩) [none, some (T + 3)] x5 := fun j z hj => by
    refine ⟨T + 4, 0, rfl, ?_⟩
    rw [Nat.zero_add, cell_of d5]
    match j, hj with
    | 0, hj => cases hj; rfl
    | 1, hj => cases hj; rfl
  have hnw : CallW Try.prog main V 13 #[.iface 27 (.pointer (some ⟨T + 1, 0, none⟩)), .slice (some ⟨T + 4, 0, none⟩) 2 2] x5 (fun v w' => ∃ bb g sc, v = .pointer (some ⟨bb, 0, none⟩) ∧ NewB x5 [some (T + 1), some (T + 3)] bb g sc w') := newB_w (some (T + 1)) [none, some (T + 3)] _ 2 (by simp) hA x5 hsrc
  clear hsrc r1 r2
  refine Walk.callW (Post := fun v w' => ∃ bb g sc, v = .pointer (some ⟨bb, 0, none⟩) ∧ NewB x5 [some (T + 1), some (T + 3)] bb g sc w') ?_ (ho_of (by conv => lhs; whnf) (by kernel_rfl)) (by rfl) (by decide) rfl Try.func13 (by kernel_rfl) (by rfl) ?_
  · try walk_nrm
    exact hnw
  rintro v x6 ⟨bb, g, sc, rfl, N⟩
  clear hnw
  have hp1 := fun w => run_eql_ptr (P := Try.prog) 33 undBarr (some ⟨bb, 0, none⟩) w
  have hp2 := fun w es => ev_eql_ptr (P := Try.prog) 33 undBarr (some ⟨bb, 0, none⟩) w es
  simp only [Option.isNone_some] at hp1
  walk_nrm
  repeat (first | refine Walk.cx ?_ | (refine Walk.cReg ?_; simp only [z12]) | (refine Walk.oq ?_; try walk_nrm) | (refine Walk.un ?_; walk_nrm))
  (refine Walk.oa ?_; try walk_nrm)
  have hN := N
  have o7 : ∀ b, b < x6.heap.size → (x6.alloc (.cells #[.int .i64 0] 37)).heap[b]? = x6.heap[b]? := fun b hb => heap_new_lt _ _ hb
  have d7 := heap_alloc_new x6 (.cells #[.int .i64 0] 37)
  have s7 : (x6.alloc (.cells #[.int .i64 0] 37)).heap.size = x6.heap.size + 1 := by simp
  have hX : ∃ X : RX, X.p = x6.heap.size ∧ X.bb = bb ∧ X.k = 2 ∧ X.ls = wLs ∧ X.base = w ∧ RI X wS0 (x6.alloc (.cells #[.int .i64 0] 37)) := by
    have hsz := N.size
    have lt6 : ∀ {b : Nat} {o : Obj}, x6.heap[b]? = some o → (x6.alloc (.cells #[.int .i64 0] 37)).heap[b]? = some o := fun {b o} h => (o7 b (Array.getElem?_eq_some_iff.1 h).1).trans h
    have up : ∀ b, b < T + 5 → (x6.alloc (.cells #[.int .i64 0] 37)).heap[b]? = x5.heap[b]? := fun b hb => (o7 b (by omega)).trans (N.old b (by omega))
    refine ⟨wX w T x6.heap.size bb g sc, rfl, rfl, rfl, rfl, rfl, wX_ri hT.symm ((up _ (by omega)).trans ((o5 _ (by omega)).trans ((o4 _ (by omega)).trans ((o3 _ (by omega)).trans ((o2 _ (by omega)).trans d1))))) ((up _ (by omega)).trans ((o5 _ (by omega)).trans ((o4 _ (by omega)).trans ((o3 _ (by omega)).trans d2)))) ((up _ (by omega)).trans ((o5 _ (by omega)).trans ((o4 _ (by omega)).trans d3))) ((up _ (by omega)).trans ((o5 _ (by omega)).trans d4)) d7 (by omega) (lt6 N.bar) (by have := N.lo; omega) ?_ N.cap (fun b hb => (up b (by omega)).trans ((o5 b (by omega)).trans ((o4 b (by omega)).trans ((o3 b (by omega)).trans ((o2 b (by omega)).trans (o1 b (by omega))))))) (by omega)⟩
    obtain ⟨arr, x1, x2⟩ := N.src
    exact ⟨arr, lt6 x1, x2⟩
  obtain ⟨X, hXp, hXb, hXk, hXl, hXbase, I7⟩ := hX
  clear N hN o7 d7 s7 o1 o2 o3 o4 o5 d1 d2 d3 d4 d5 s1 s2 s3 s4 s5 hp1 hp2
  generalize x6.alloc (.cells #[.int .i64 0] 37) = x7 at *
  generalize x6.heap.size = P at *
  subst hXp hXb
  have r3 := run_ifaceS
  have r4 := ev_ifaceS
  have hc := wCal0 (main := main) hA hXk hXl I7
  unfold cntV at hc
  clear I7
  repeat (first | refine Walk.cx ?_ | (refine Walk.cReg ?_; simp only [z12]) | (refine Walk.oq ?_; try walk_nrm) | (refine Walk.un ?_; walk_nrm))
  refine Walk.callW (Post := fun v w' => v = .int .i64 3 ∧ RI X wS1 w') ?_ (ho_of (by conv => lhs; whnf) (by kernel_rfl)) (by rfl) (by decide) rfl Try.func15 (by kernel_rfl) (by rfl) ?_
  · try walk_nrm
    exact hc
  rintro v y0 ⟨rfl, J0⟩
  clear hc
  have k0 : y0.cell? ⟨X.p, 0, none⟩ = some (.int .i64 2) := (cell_of J0.cnt 0).trans (by rw [wN1]; rfl)
  have hc := wCal1 (main := main) hA hXk hXl J0
  unfold cntV at hc
  clear J0
  walk_nrm
  repeat (first | refine Walk.cx ?_ | (refine Walk.cReg ?_; simp only [z12]) | (refine Walk.oq ?_; try walk_nrm) | (refine Walk.un ?_; walk_nrm))
  refine Walk.callW (Post := fun v w' => v = .tuple #[.int .i64 3, .int .i64 0] ∧ RI X wR1.1 w') ?_ (ho_of (by conv => lhs; whnf) (by kernel_rfl)) (by rfl) (by decide) rfl Try.func14 (by kernel_rfl) (by rfl) ?_
  · try walk_nrm
    exact hc
  rintro v y1 ⟨rfl, J1⟩
  clear hc
  have hc := wCal2 (main := main) hA hXk hXl J1
  unfold cntV at hc
  clear J1
  walk_nrm
  repeat (first | refine Walk.cx ?_ | (refine Walk.cReg ?_; simp only [z12]) | (refine Walk.oq ?_; try walk_nrm) | (refine Walk.un ?_; walk_nrm))
  refine Walk.callW (Post := fun v w' => v = .tuple #[.int .i64 0, .int .i64 4] ∧ RI X wR2.1 w') ?_ (ho_of (by conv => lhs; whnf) (by kernel_rfl)) (by rfl) (by decide) rfl Try.func14 (by kernel_rfl) (by rfl) ?_
  · try walk_nrm
    exact hc
  rintro v y2 ⟨rfl, J2⟩
  clear hc
  have hc := wCal3 (main := main) hA hXk hXl J2
  unfold cntV at hc
  clear J2
  walk_nrm
  repeat (first | refine Walk.cx ?_ | (refine Walk.cReg ?_; simp only [z12]) | (refine Walk.oq ?_; try walk_nrm) | (refine Walk.un ?_; walk_nrm))
  refine Walk.callW (Post := fun v w' => v = .tuple #[.int .i64 3, .int .i64 0] ∧ RI X wR3.1 w') ?_ (ho_of (by conv => lhs; whnf) (by kernel_rfl)) (by rfl) (by decide) rfl Try.func14 (by kernel_rfl) (by rfl) ?_
  · try walk_nrm
    exact hc
  rintro v y3 ⟨rfl, J3⟩
  clear hc
  have hc := wCal4 (main := main) hA hXk hXl J3
  unfold cntV at hc
  clear J3
  walk_nrm
  repeat (first | refine Walk.cx ?_ | (refine Walk.cReg ?_; simp only [z12]) | (refine Walk.oq ?_; try walk_nrm) | (refine Walk.un ?_; walk_nrm))
  refine Walk.callW (Post := fun v w' => v = .tuple #[.int .i64 wR4.2.1, .int .i64 4] ∧ RI X wR4.1 w') ?_ (ho_of (by conv => lhs; whnf) (by kernel_rfl)) (by rfl) (by decide) rfl Try.func14 (by kernel_rfl) (by rfl) ?_
  · try walk_nrm
    exact hc
  rintro v y4 ⟨rfl, J4⟩
  clear hc
  have k4 : y4.cell? ⟨X.p, 0, none⟩ = some (.int .i64 16) := (cell_of J4.cnt 0).trans (by rw [wN4]; rfl)
  clear k0 r3 r4
  generalize wR4.2.1 = z at *
  have hold := J4.old
  have hsz := J4.size
  rw [hXbase] at hold hsz
  clear J4 hXk hXl hXbase
  walk_nrm
  repeat (first | refine Walk.cx ?_ | (refine Walk.cReg ?_; simp only [z12]) | (refine Walk.oq ?_; try walk_nrm) | (refine Walk.un ?_; walk_nrm))
  exact Walk.on1 rfl rfl Try.func12 rfl (.stop fun d => ⟨_, ⟨rfl, fun b hb => hold b (by omega), by show T ≤ y4.heap.size; omega⟩, rfl⟩)
end
end
end Go.Proofs.Ytgfajibjedfkdaa
