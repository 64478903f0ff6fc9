/- Part 22. -/
import Derived.Test.YtgfajibjedfkdaaJL21
set_option linter.unusedSimpArgs false
set_option linter.unusedVariables false
set_option maxHeartbeats 8000000
set_option maxRecDepth 100000
namespace Go.Proofs.Ytgfajibjedfkdaa
open Go.Conc Go.RowKit Go.Relay
open Go.ConcN (upd upd_ne upd_same)
section
theorem limV_le {ls : Nat → List Int} {s : Rs} {dl : Nat} {m : Int} (h : ∀ a, rvl (ls 0) a ≤ m) : ∀ k, 0 < k → limV ls s dl k ≤ m
  | 0, h0 => absurd h0 (Nat.lt_irrefl 0)
  | 1, _ => Int.le_trans (Int.min_le_right _ _) (h _)
  | k + 2, _ => by
    have := limV_le (s := s) (dl := dl) h (k + 1) (Nat.succ_pos k)
    show min (limV ls s dl (k + 1)) _ ≤ m
    omega
theorem togR_never {ls : Nat → List Int} {k dl : Nat} {q m : Int} {on : Nat} (hk : 0 < k) (hm : m < q) (h : ∀ a, rvl (ls 0) a ≤ m) : ∀ (r t : Nat) (s : Rs), s.al = false → (togR ls k dl q on r t s).2.2 = 4
  | 0, t, s, _ => rfl
  | r + 1, t, s, ha => by
    unfold togR
    rw [if_neg (fun x => by rw [ha] at x; cases x.2), if_neg (fun x => by
      have := limV_le (s := if t % on = 0 then s.tick dl else s) (dl := dl) h k hk
      omega)]
    refine togR_never hk hm h r (t + 1) _ ?_
    rw [lim_al]
    split <;> exact ha
theorem oneR_never {ls : Nat → List Int} {k dl : Nat} {q m : Int} (hm : m < q) (h : ∀ a, rvl (ls 0) a ≤ m) : ∀ (r : Nat) (x : Int) (s : Rs), s.al = false → (oneR ls k dl q r 0 x s).2.2 = 4
  | 0, x, s, _ => rfl
  | r + 1, x, s, ha => by
    unfold oneR
    rw [if_neg (fun x => by rw [ha] at x; cases x), if_pos (by have := h ((s.tick dl).ld 0); omega)]
    exact oneR_never hm h r x _ ha
theorem rvl_le {l : List Int} {m : Int} (hm : 0 ≤ m) (h : ∀ z ∈ l, z ≤ m) (a : Nat) : rvl l a ≤ m := by
  by_cases hl : l = []
  · unfold rvl
    rw [if_pos hl]
    exact hm
  · exact h _ (List.mem_of_getElem? (rvl_mem hl))
theorem wait_alarm {ls : Nat → List Int} {k dl : Nat} {q tries way : Int} {s : Rs} (hk : 0 < k) (h1 : 1 ≤ way) (h3 : way ≤ 3) (ha : s.al = true) : waitR ls k dl q tries way s = (s.tick dl, 0, 5) := by
  have ht : 1 ≤ triesN tries := by unfold triesN; omega
  obtain ⟨n, hn⟩ : ∃ n, triesN tries = n + 1 := ⟨triesN tries - 1, by omega⟩
  unfold waitR
  rw [if_neg (by omega), if_neg (by omega), hn]
  by_cases h2 : way = 2
  · rw [if_pos h2]
    unfold oneR
    rw [if_pos ha]
  · rw [if_neg h2]
    unfold togR
    rw [if_pos ⟨Nat.zero_mod _, ha⟩]
theorem wait_never {ls : Nat → List Int} {k dl : Nat} {q tries way m : Int} {s : Rs} (hk : 0 < k) (h1 : 1 ≤ way) (h3 : way ≤ 3) (ha : s.al = false) (hm : m < q) (h : ∀ a, rvl (ls 0) a ≤ m) : (waitR ls k dl q tries way s).2.2 = 4 := by
  unfold waitR
  rw [if_neg (by omega), if_neg (by omega)]
  by_cases h2 : way = 2
  · rw [if_pos h2]
    exact oneR_never hm h _ _ s ha
  · rw [if_neg h2]
    exact togR_never hk hm h _ _ s ha
def aX (base : World) (P R bb g sc : Nat) (la : Option Addr) (l : List Int) (lc : Nat) : RX := ⟨base, P, 1, fun _ => R, fun _ => la, fun _ => l, fun _ => lc, bb, g, some ⟨g, 0, none⟩, sc⟩
theorem aX_ri {base w : World} {P R bb g sc : Nat} {la : Option Addr} {l : List Int} {lc : Nat} (hR : base.heap.size = R)
    (h1 : w.heap[R]? = some (.cells #[.slice la l.length lc, .int .i64 0] 30)) (hn : l ≠ [] → ∃ (b : Nat) (arr : Array Value), la = some ⟨b, 0, none⟩ ∧ w.heap[b]? = some (.cells arr 2) ∧ ∀ (j : Nat) (z : Int), l[j]? = some z → arr[j]? = some (.int .i64 z))
    (hP : w.heap[P]? = some (.cells #[.int .i64 0] 37)) (hPl : R ≤ P)
    (hB : w.heap[bb]? = some (.cells #[.slice (some ⟨g, 0, none⟩) 1 sc, .int .u32 0] 54)) (hBl : R ≤ bb)
    (hg : ∃ arr : Array Value, w.heap[g]? = some (.cells arr 32) ∧ ∀ (i r : Nat), ([some R] : List (Option Nat))[i]? = some (some r) → arr[i]? = some (srcV r)) (hsc : 1 ≤ sc)
    (ho : ∀ b, b < base.heap.size → w.heap[b]? = base.heap[b]?) (hs : base.heap.size ≤ w.heap.size) : RI (aX base P R bb g sc la l lc) wS0 w := by
  subst hR
  refine ⟨hP, fun i hi => h1, fun i hi h => hn h, fun i j hi hj _ => ?_, hB, fun _ => ⟨rfl, ?_⟩, hsc, ho, ⟨hPl, hBl, fun i hi => Nat.le_refl _⟩, hs⟩
  · have hi : i < 1 := hi
    have hj : j < 1 := hj
    omega
  · obtain ⟨arr, x1, x2⟩ := hg
    refine ⟨arr, x1, fun i hi => ?_⟩
    have hi : i < 1 := hi
    obtain rfl : i = 0 := by omega
    exact x2 0 _ rfl
theorem bd_one {X : RX} {s : Rs} (hk : X.k = 1) (h : decide (s.n + 3072 < 1152921504606846976 ∧ s.ld 0 + 3072 < 1152921504606846976) = true) : Bd X s ((X.k + 2) * 1024) := by
  obtain ⟨h1, h2⟩ := of_decide_eq_true h
  rw [hk]
  refine ⟨h1, fun i hi => ?_⟩
  rw [hk] at hi
  obtain rfl : i = 0 := by omega
  exact h2
theorem convU8way (k : Int) (w : World) (es : Array Event) : (convert 5 41 (.int .u8 k)).run Try.prog w = .ok (.int .i64 (IntKind.i64.wrap k)) w ∧ (convert 5 41 (.int .u8 k)).events Try.prog w es = es := by
  have h := run_convert_int (P := Try.prog) (w := w) 5 41 .u8 k (by kernel_rfl) (by kernel_rfl)
  exact ⟨h, events_convert_int 5 41 .u8 k (by kernel_rfl) (by kernel_rfl) es⟩
section
variable {main : Bool} {V : Nat → Option Wait}
theorem al_in (hA : ∀ b, Apart V b) (nv : Value) (na : Option Addr) (L nc : Nat) (hnv : nv = .slice na L nc) (tries way : Int) (W : World) :
    Walk Try.prog main (DR V) (fun g w' => ∃ R, W.heap.size ≤ R ∧ (∃ u, g = G (hdAl R nv tries way L 0 u) []) ∧ ∃ W0 : World, W0.heap.size = R ∧ (∀ b, b < W.heap.size → W0.heap[b]? = W.heap[b]?) ∧ GrI W0 R [] (.slice none 0 0) w') (G (Frame.enter Try.prog 4 #[nv, .int .i64 tries, .int .u8 way] .normal) []) W := by
  have hwt := waits_w (main := main) (V := V) hA W
  subst hnv
  rw [enter_at _ Try.func4 code4_is]
  simp only [Try.ntmps4, List.size_toArray, List.length_cons, List.length_nil, Nat.reduceAdd, Nat.reduceSub, Array.replicate_succ, Array.replicate_zero, List.push_toArray, List.append_toArray, List.nil_append, List.cons_append]
  repeat (first | refine Walk.c rfl ?_ | refine Walk.cRet ?_ | refine Walk.cEnd ?_ | (refine Walk.cReg ?_; simp only [size4_0, size4_1, size4_2, size4_3, size4_4, size4_5, size4_6, size4_7, size4_8, size4_9, size4_10, size4_11, size4_12, size4_13, size4_14, size4_15, size4_16, size4_17, size4_18, size4_19, List.range, List.range.loop]) | (refine Walk.oq ?_; try walk_nrm) | (refine Walk.un ?_; walk_nrm))
  refine Walk.callW (Post := fun v w' => v = .bool true ∧ (∀ b, b < W.heap.size → w'.heap[b]? = W.heap[b]?) ∧ W.heap.size ≤ w'.heap.size) ?_ (ho_of (by conv => lhs; whnf) (by kernel_rfl)) (by rfl) (by decide) rfl Try.func12 (by kernel_rfl) (by rfl) ?_
  · try walk_nrm
    exact hwt
  rintro v w0 ⟨rfl, O0, Z0⟩
  clear hwt
  walk_nrm
  repeat (first | refine Walk.c rfl ?_ | refine Walk.cRet ?_ | refine Walk.cEnd ?_ | (refine Walk.cReg ?_; simp only [size4_0, size4_1, size4_2, size4_3, size4_4, size4_5, size4_6, size4_7, size4_8, size4_9, size4_10, size4_11, size4_12, size4_13, size4_14, size4_15, size4_16, size4_17, size4_18, size4_19, List.range, List.range.loop]) | (refine Walk.oq ?_; try walk_nrm) | (refine Walk.un ?_; walk_nrm))
  (refine Walk.oa ?_; try walk_nrm)
  have s1 : (w0.alloc (.cells #[.slice none 0 0, .int .i64 0] 30)).heap.size = w0.heap.size + 1 := by simp
  have o1 : ∀ b, b < w0.heap.size → (w0.alloc (.cells #[.slice none 0 0, .int .i64 0] 30)).heap[b]? = w0.heap[b]? := fun b hb => heap_new_lt _ _ hb
  have d1 := heap_alloc_new w0 (.cells #[.slice none 0 0, .int .i64 0] 30)
  have hG : GrI w0 w0.heap.size [] (.slice none 0 0) (w0.alloc (.cells #[.slice none 0 0, .int .i64 0] 30)) := ⟨d1, ⟨rfl, .inl ⟨rfl, rfl⟩⟩, o1, by omega⟩
  obtain ⟨R, hR⟩ : ∃ R, w0.heap.size = R := ⟨_, rfl⟩
  rw [hR] at hG Z0 ⊢
  generalize w0.alloc (.cells #[.slice none 0 0, .int .i64 0] 30) = w1 at *
  clear s1 o1 d1
  repeat (first | refine Walk.c rfl ?_ | refine Walk.cRet ?_ | refine Walk.cEnd ?_ | (refine Walk.cReg ?_; simp only [size4_0, size4_1, size4_2, size4_3, size4_4, size4_5, size4_6, size4_7, size4_8, size4_9, size4_10, size4_11, size4_12, size4_13, size4_14, size4_15, size4_16, size4_17, size4_18, size4_19, List.range, List.range.loop]) | (refine Walk.oq ?_; try walk_nrm) | (refine Walk.un ?_; walk_nrm))
  refine Walk.ctl rfl (fun w => stepG_loop) ?_
  refine .stop fun d => ⟨R, Z0, at_slots ?_, w0, hR, O0, hG.at d⟩
  simp only [hdAl]
  rfl
theorem al_end (hA : ∀ b, Apart V b) (R L : Nat) (nv : Value) (tries way : Int) (hw0 : 0 ≤ way) (hw1 : way < 256) (W W0 : World) (hR : W0.heap.size = R) (hWR : W.heap.size ≤ R) (hW0 : ∀ b, b < W.heap.size → W0.heap[b]? = W.heap[b]?) (l : List Int) (hl : ∀ z ∈ l, z ≤ 255) (v : Value) (w : World) (I : GrI W0 R l v w) (u : Nat → Value) :
    Walk Try.prog main (DR V) (fun g w' => Closing 4 6 (.bool true) g ∧ ∀ b, b < W.heap.size → w'.heap[b]? = W.heap[b]?) (G (hdAl R nv tries way L L u) []) w := by
  have hi1 : decide ((L : Int) < L) = false := by simp
  have hi3 : decide (L < L) = false := by simp
  have r1 := run_ifaceR
  have r2 := ev_ifaceR
  obtain ⟨la, lc, rfl⟩ := I.shape
  have hnw : CallW Try.prog main V 13 #[.iface 27 (.pointer (some ⟨R, 0, none⟩)), .slice none 0 0] w (fun v w' => ∃ bb g sc, v = .pointer (some ⟨bb, 0, none⟩) ∧ NewB w [some R] bb g sc w') := newB_w (some R) [] none 0 (by simp) hA w (fun j o h => by simp at h)
  obtain ⟨wy, hwy, hy1, hy3⟩ : ∃ wy : Int, IntKind.wrap .i64 (IntKind.wrap .u8 (1 + Int.tmod way 3)) = wy ∧ 1 ≤ wy ∧ wy ≤ 3 := by
    have h0 : 0 ≤ Int.tmod way 3 := Int.tmod_nonneg _ hw0
    have h1 : Int.tmod way 3 < 3 := Int.tmod_lt_of_pos _ (by decide)
    refine ⟨_, rfl, ?_, ?_⟩
    · rw [IntKind.wrap_i64, IntKind.wrap_u8]; omega
    · rw [IntKind.wrap_i64, IntKind.wrap_u8]; omega
  have hu8 : IntKind.wrap .u8 (Int.tmod way 3) = Int.tmod way 3 := by
    have h0 : 0 ≤ Int.tmod way 3 := Int.tmod_nonneg _ hw0
    have h1 : Int.tmod way 3 < 3 := Int.tmod_lt_of_pos _ (by decide)
    rw [IntKind.wrap_u8]; omega
  have hcv := fun w => (convU8way (IntKind.wrap .u8 (1 + Int.tmod way 3)) w #[]).1
  have hcv2 := fun w es => (convU8way (IntKind.wrap .u8 (1 + Int.tmod way 3)) w es).2
  rw [hwy] at hcv
  clear hwy
  conv => arg 5; unfold hdAl
  repeat (first | refine Walk.c rfl ?_ | refine Walk.cRet ?_ | refine Walk.cEnd ?_ | (refine Walk.cReg ?_; simp only [size4_0, size4_1, size4_2, size4_3, size4_4, size4_5, size4_6, size4_7, size4_8, size4_9, size4_10, size4_11, size4_12, size4_13, size4_14, size4_15, size4_16, size4_17, size4_18, size4_19, List.range, List.range.loop]) | (refine Walk.oq ?_; try walk_nrm) | (refine Walk.un ?_; walk_nrm))
  refine Walk.callW (Post := fun v w' => ∃ bb g sc, v = .pointer (some ⟨bb, 0, none⟩) ∧ NewB w [some R] bb g sc w') ?_ (ho_of (by conv => lhs; whnf) (by kernel_rfl)) (by rfl) (by decide) rfl Try.func13 (by kernel_rfl) (by rfl) ?_
  · try walk_nrm
    exact hnw
  rintro v w6 ⟨bb, g, sc, rfl, N⟩
  clear hnw r1 r2
  walk_nrm
  repeat (first | refine Walk.c rfl ?_ | refine Walk.cRet ?_ | refine Walk.cEnd ?_ | (refine Walk.cReg ?_; simp only [size4_0, size4_1, size4_2, size4_3, size4_4, size4_5, size4_6, size4_7, size4_8, size4_9, size4_10, size4_11, size4_12, size4_13, size4_14, size4_15, size4_16, size4_17, size4_18, size4_19, List.range, List.range.loop]) | (refine Walk.oq ?_; try walk_nrm) | (refine Walk.un ?_; walk_nrm))
  (refine Walk.oa ?_; try walk_nrm)
  have o7 : ∀ b, b < w6.heap.size → (w6.alloc (.cells #[.int .i64 0] 37)).heap[b]? = w6.heap[b]? := fun b hb => heap_new_lt _ _ hb
  have d7 := heap_alloc_new w6 (.cells #[.int .i64 0] 37)
  have s7 : (w6.alloc (.cells #[.int .i64 0] 37)).heap.size = w6.heap.size + 1 := by simp
  have hX : ∃ X : RX, X.p = w6.heap.size ∧ X.bb = bb ∧ X.k = 1 ∧ (X.ls = fun _ => l) ∧ X.base = W0 ∧ X.rb 0 = R ∧ RI X wS0 (w6.alloc (.cells #[.int .i64 0] 37)) := by
    have hsz := N.size
    have hlt := I.lt
    have lt6 : ∀ {b : Nat} {o : Obj}, w6.heap[b]? = some o → (w6.alloc (.cells #[.int .i64 0] 37)).heap[b]? = some o := fun {b o} h => (o7 b (Array.getElem?_eq_some_iff.1 h).1).trans h
    have up : ∀ b, b < w.heap.size → (w6.alloc (.cells #[.int .i64 0] 37)).heap[b]? = w.heap[b]? := fun b hb => (o7 b (by omega)).trans (N.old b hb)
    refine ⟨aX W0 w6.heap.size R bb g sc la l lc, rfl, rfl, rfl, rfl, rfl, rfl, aX_ri hR ((up R hlt).trans I.src) (fun hne => ?_) d7 (by omega) (lt6 N.bar) (by have := N.lo; omega) ?_ N.cap (fun b hb => (up b (by omega)).trans (I.old b (by omega))) (by omega)⟩
    · obtain ⟨b, arr, c, e, hb, h1, h2⟩ := I.num hne
      injection e with e1 _ _
      exact ⟨b, arr, e1, (up b (Array.getElem?_eq_some_iff.1 h1).1).trans h1, h2⟩
    · obtain ⟨arr, x1, x2⟩ := N.src
      exact ⟨arr, lt6 x1, x2⟩
  obtain ⟨X, hXp, hXb, hXk, hXl, hXbase, hXr, J⟩ := hX
  have hrv : ∀ a, rvl (X.ls 0) a ≤ 255 := by
    rw [hXl]
    exact rvl_le (by decide) hl
  clear N I o7 d7 s7 hXl hl
  generalize w6.alloc (.cells #[.int .i64 0] 37) = w7 at *
  generalize w6.heap.size = P at *
  subst hXp hXb hXr
  have r3 := run_ifaceS
  have r4 := ev_ifaceS
  repeat (first | refine Walk.c rfl ?_ | refine Walk.cRet ?_ | refine Walk.cEnd ?_ | (refine Walk.cReg ?_; simp only [size4_0, size4_1, size4_2, size4_3, size4_4, size4_5, size4_6, size4_7, size4_8, size4_9, size4_10, size4_11, size4_12, size4_13, size4_14, size4_15, size4_16, size4_17, size4_18, size4_19, List.range, List.range.loop]) | (refine Walk.oq ?_; try walk_nrm) | (refine Walk.un ?_; walk_nrm))
  have hc : CallW Try.prog main V 16 #[.pointer (some ⟨X.bb, 0, none⟩), .iface 35 (.pointer (some ⟨X.p, 0, none⟩))] w7 (fun v w' => v = .bool false ∧ RI X (wS0.tick 1) w') := alerted15 (X := X) (dl := 1) hA J (by decide) (.inl ⟨rfl, rfl⟩)
  clear J
  refine Walk.callW (Post := fun v w' => v = .bool false ∧ RI X (wS0.tick 1) w') ?_ (ho_of (by conv => lhs; whnf) (by kernel_rfl)) (by rfl) (by decide) rfl Try.func16 (by kernel_rfl) (by rfl) ?_
  · try walk_nrm
    exact hc
  rintro v y0 ⟨rfl, J0⟩
  clear hc
  walk_nrm
  repeat (first | refine Walk.c rfl ?_ | refine Walk.cRet ?_ | refine Walk.cEnd ?_ | (refine Walk.cReg ?_; simp only [size4_0, size4_1, size4_2, size4_3, size4_4, size4_5, size4_6, size4_7, size4_8, size4_9, size4_10, size4_11, size4_12, size4_13, size4_14, size4_15, size4_16, size4_17, size4_18, size4_19, List.range, List.range.loop]) | (refine Walk.oq ?_; try walk_nrm) | (refine Walk.un ?_; walk_nrm))
  have hc : CallW Try.prog main V 17 #[.pointer (some ⟨X.bb, 0, none⟩), .iface 35 (.pointer (some ⟨X.p, 0, none⟩))] y0 (fun v w' => v = .bool true ∧ RI X (⟨2, fun _ => 0, true⟩ : Rs) w') := alert15 (X := X) (dl := 1) hA J0 (by decide) (.inl ⟨rfl, rfl⟩)
  clear J0
  refine Walk.callW (Post := fun v w' => v = .bool true ∧ RI X (⟨2, fun _ => 0, true⟩ : Rs) w') ?_ (ho_of (by conv => lhs; whnf) (by kernel_rfl)) (by rfl) (by decide) rfl Try.func17 (by kernel_rfl) (by rfl) ?_
  · try walk_nrm
    exact hc
  rintro v y1 ⟨rfl, J1⟩
  clear hc
  walk_nrm
  repeat (first | refine Walk.c rfl ?_ | refine Walk.cRet ?_ | refine Walk.cEnd ?_ | (refine Walk.cReg ?_; simp only [size4_0, size4_1, size4_2, size4_3, size4_4, size4_5, size4_6, size4_7, size4_8, size4_9, size4_10, size4_11, size4_12, size4_13, size4_14, size4_15, size4_16, size4_17, size4_18, size4_19, List.range, List.range.loop]) | (refine Walk.oq ?_; try walk_nrm) | (refine Walk.un ?_; walk_nrm))
  have hc : CallW Try.prog main V 17 #[.pointer (some ⟨X.bb, 0, none⟩), .iface 35 (.pointer (some ⟨X.p, 0, none⟩))] y1 (fun v w' => v = .bool false ∧ RI X (⟨3, fun _ => 0, true⟩ : Rs) w') := alert15 (X := X) (dl := 1) hA J1 (by decide) (.inl ⟨rfl, rfl⟩)
  clear J1
  refine Walk.callW (Post := fun v w' => v = .bool false ∧ RI X (⟨3, fun _ => 0, true⟩ : Rs) w') ?_ (ho_of (by conv => lhs; whnf) (by kernel_rfl)) (by rfl) (by decide) rfl Try.func17 (by kernel_rfl) (by rfl) ?_
  · try walk_nrm
    exact hc
  rintro v y2 ⟨rfl, J2⟩
  clear hc
  walk_nrm
  repeat (first | refine Walk.c rfl ?_ | refine Walk.cRet ?_ | refine Walk.cEnd ?_ | (refine Walk.cReg ?_; simp only [size4_0, size4_1, size4_2, size4_3, size4_4, size4_5, size4_6, size4_7, size4_8, size4_9, size4_10, size4_11, size4_12, size4_13, size4_14, size4_15, size4_16, size4_17, size4_18, size4_19, List.range, List.range.loop]) | (refine Walk.oq ?_; try walk_nrm) | (refine Walk.un ?_; walk_nrm))
  have hc : CallW Try.prog main V 16 #[.pointer (some ⟨X.bb, 0, none⟩), .iface 35 (.pointer (some ⟨X.p, 0, none⟩))] y2 (fun v w' => v = .bool true ∧ RI X (⟨4, fun _ => 0, true⟩ : Rs) w') := alerted15 (X := X) (dl := 1) hA J2 (by decide) (.inl ⟨rfl, rfl⟩)
  clear J2
  refine Walk.callW (Post := fun v w' => v = .bool true ∧ RI X (⟨4, fun _ => 0, true⟩ : Rs) w') ?_ (ho_of (by conv => lhs; whnf) (by kernel_rfl)) (by rfl) (by decide) rfl Try.func16 (by kernel_rfl) (by rfl) ?_
  · try walk_nrm
    exact hc
  rintro v y3 ⟨rfl, J3⟩
  clear hc
  have k4 : y3.cell? ⟨X.p, 0, none⟩ = some (.int .i64 4) := (cell_of J3.cnt 0).trans rfl
  walk_nrm
  repeat (first | refine Walk.c rfl ?_ | refine Walk.cRet ?_ | refine Walk.cEnd ?_ | (refine Walk.cReg ?_; simp only [size4_0, size4_1, size4_2, size4_3, size4_4, size4_5, size4_6, size4_7, size4_8, size4_9, size4_10, size4_11, size4_12, size4_13, size4_14, size4_15, size4_16, size4_17, size4_18, size4_19, List.range, List.range.loop]) | (refine Walk.oq ?_; try walk_nrm) | (refine Walk.un ?_; walk_nrm))
  have hc : CallW Try.prog main V 14 #[.pointer (some ⟨X.bb, 0, none⟩), .iface 35 (.pointer (some ⟨X.p, 0, none⟩)), .int .i64 1099511627776, .int .i64 tries, .int .i64 wy] y3 (fun v w' => v = .tuple #[.int .i64 0, .int .i64 5] ∧ RI X (⟨5, fun _ => 0, true⟩ : Rs) w') := by
    have h := wait15 (main := main) (X := X) (sv := cntV X.p) (dl := 1) hA (.inl ⟨rfl, rfl⟩) (by omega) 1099511627776 tries wy J3 (bd_one hXk (by kernel_rfl))
    rw [wait_alarm (by omega) hy1 hy3 rfl] at h
    exact h
  clear J3
  refine Walk.callW (Post := fun v w' => v = .tuple #[.int .i64 0, .int .i64 5] ∧ RI X (⟨5, fun _ => 0, true⟩ : Rs) w') ?_ (ho_of (by conv => lhs; whnf) (by kernel_rfl)) (by rfl) (by decide) rfl Try.func14 (by kernel_rfl) (by rfl) ?_
  · try walk_nrm
    exact hc
  rintro v y4 ⟨rfl, J4⟩
  clear hc
  have k5 : y4.cell? ⟨X.p, 0, none⟩ = some (.int .i64 5) := (cell_of J4.cnt 0).trans rfl
  have k6 : y4.cell? ⟨X.rb 0, 1, none⟩ = some (.int .i64 0) := (cell_of (J4.src 0 (by omega)) 1).trans rfl
  clear k4
  walk_nrm
  repeat (first | refine Walk.c rfl ?_ | refine Walk.cRet ?_ | refine Walk.cEnd ?_ | (refine Walk.cReg ?_; simp only [size4_0, size4_1, size4_2, size4_3, size4_4, size4_5, size4_6, size4_7, size4_8, size4_9, size4_10, size4_11, size4_12, size4_13, size4_14, size4_15, size4_16, size4_17, size4_18, size4_19, List.range, List.range.loop]) | (refine Walk.oq ?_; try walk_nrm) | (refine Walk.un ?_; walk_nrm))
  have hc : CallW Try.prog main V 18 #[.pointer (some ⟨X.bb, 0, none⟩), .iface 35 (.pointer (some ⟨X.p, 0, none⟩))] y4 (fun v w' => v = .bool true ∧ RI X (⟨6, fun _ => 0, false⟩ : Rs) w') := clear15 (X := X) (dl := 1) hA J4 (by decide) (.inl ⟨rfl, rfl⟩)
  clear J4
  refine Walk.callW (Post := fun v w' => v = .bool true ∧ RI X (⟨6, fun _ => 0, false⟩ : Rs) w') ?_ (ho_of (by conv => lhs; whnf) (by kernel_rfl)) (by rfl) (by decide) rfl Try.func18 (by kernel_rfl) (by rfl) ?_
  · try walk_nrm
    exact hc
  rintro v y5 ⟨rfl, J5⟩
  clear hc
  walk_nrm
  repeat (first | refine Walk.c rfl ?_ | refine Walk.cRet ?_ | refine Walk.cEnd ?_ | (refine Walk.cReg ?_; simp only [size4_0, size4_1, size4_2, size4_3, size4_4, size4_5, size4_6, size4_7, size4_8, size4_9, size4_10, size4_11, size4_12, size4_13, size4_14, size4_15, size4_16, size4_17, size4_18, size4_19, List.range, List.range.loop]) | (refine Walk.oq ?_; try walk_nrm) | (refine Walk.un ?_; walk_nrm))
  clear k5 k6
  have hc : CallW Try.prog main V 18 #[.pointer (some ⟨X.bb, 0, none⟩), .iface 35 (.pointer (some ⟨X.p, 0, none⟩))] y5 (fun v w' => v = .bool false ∧ RI X (⟨7, fun _ => 0, false⟩ : Rs) w') := clear15 (X := X) (dl := 1) hA J5 (by decide) (.inl ⟨rfl, rfl⟩)
  clear J5
  refine Walk.callW (Post := fun v w' => v = .bool false ∧ RI X (⟨7, fun _ => 0, false⟩ : Rs) w') ?_ (ho_of (by conv => lhs; whnf) (by kernel_rfl)) (by rfl) (by decide) rfl Try.func18 (by kernel_rfl) (by rfl) ?_
  · try walk_nrm
    exact hc
  rintro v y6 ⟨rfl, J6⟩
  clear hc
  walk_nrm
  repeat (first | refine Walk.c rfl ?_ | refine Walk.cRet ?_ | refine Walk.cEnd ?_ | (refine Walk.cReg ?_; simp only [size4_0, size4_1, size4_2, size4_3, size4_4, size4_5, size4_6, size4_7, size4_8, size4_9, size4_10, size4_11, size4_12, size4_13, size4_14, size4_15, size4_16, size4_17, size4_18, size4_19, List.range, List.range.loop]) | (refine Walk.oq ?_; try walk_nrm) | (refine Walk.un ?_; walk_nrm))
  have hc : CallW Try.prog main V 16 #[.pointer (some ⟨X.bb, 0, none⟩), .iface 35 (.pointer (some ⟨X.p, 0, none⟩))] y6 (fun v w' => v = .bool false ∧ RI X (⟨8, fun _ => 0, false⟩ : Rs) w') := alerted15 (X := X) (dl := 1) hA J6 (by decide) (.inl ⟨rfl, rfl⟩)
  clear J6
  refine Walk.callW (Post := fun v w' => v = .bool false ∧ RI X (⟨8, fun _ => 0, false⟩ : Rs) w') ?_ (ho_of (by conv => lhs; whnf) (by kernel_rfl)) (by rfl) (by decide) rfl Try.func16 (by kernel_rfl) (by rfl) ?_
  · try walk_nrm
    exact hc
  rintro v y7 ⟨rfl, J7⟩
  clear hc
  walk_nrm
  repeat (first | refine Walk.c rfl ?_ | refine Walk.cRet ?_ | refine Walk.cEnd ?_ | (refine Walk.cReg ?_; simp only [size4_0, size4_1, size4_2, size4_3, size4_4, size4_5, size4_6, size4_7, size4_8, size4_9, size4_10, size4_11, size4_12, size4_13, size4_14, size4_15, size4_16, size4_17, size4_18, size4_19, List.range, List.range.loop]) | (refine Walk.oq ?_; try walk_nrm) | (refine Walk.un ?_; walk_nrm))
  have hc : CallW Try.prog main V 14 #[.pointer (some ⟨X.bb, 0, none⟩), .nilIface, .int .i64 1099511627776, .int .i64 tries, .int .i64 wy] y7 (fun v w' => ∃ z, v = .tuple #[.int .i64 z, .int .i64 4] ∧ ∃ s', RI X s' w') := by
    have h := wait15 (main := main) (X := X) (sv := .nilIface) (dl := 0) hA (.inr ⟨rfl, rfl⟩) (by omega) 1099511627776 tries wy J7 (bd_one hXk (by kernel_rfl))
    refine cw_imp h ?_
    rintro v w' ⟨rfl, h'⟩
    rw [wait_never (m := 255) (by omega) hy1 hy3 rfl (by decide) hrv]
    exact ⟨_, rfl, _, h'⟩
  clear J7 hrv
  refine Walk.callW (Post := fun v w' => ∃ z, v = .tuple #[.int .i64 z, .int .i64 4] ∧ ∃ s', RI X s' w') ?_ (ho_of (by conv => lhs; whnf) (by kernel_rfl)) (by rfl) (by decide) rfl Try.func14 (by kernel_rfl) (by rfl) ?_
  · try walk_nrm
    exact hc
  rintro v y8 ⟨z, rfl, s', J8⟩
  clear hc
  have hold := J8.old
  rw [hXbase] at hold
  clear J8 r3 r4
  walk_nrm
  repeat (first | refine Walk.c rfl ?_ | refine Walk.cRet ?_ | refine Walk.cEnd ?_ | (refine Walk.cReg ?_; simp only [size4_0, size4_1, size4_2, size4_3, size4_4, size4_5, size4_6, size4_7, size4_8, size4_9, size4_10, size4_11, size4_12, size4_13, size4_14, size4_15, size4_16, size4_17, size4_18, size4_19, List.range, List.range.loop]) | (refine Walk.oq ?_; try walk_nrm) | (refine Walk.un ?_; walk_nrm))
  exact .stop fun d => ⟨⟨_, rfl, rfl, rfl, rfl, rfl, rfl⟩, fun b hb => (hold b (by omega)).trans (hW0 b hb)⟩
end
end
end Go.Proofs.Ytgfajibjedfkdaa
