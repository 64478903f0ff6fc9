/- Part 22. -/
import Derived.Test.YtcdcnmphjhfbpaaJ14
import Derived.Test.YtcdcnmphjhfbpaaJ21
set_option linter.unusedSimpArgs false
set_option linter.unusedVariables false
set_option linter.unusedVariables false
set_option maxHeartbeats 8000000
set_option maxRecDepth 100000
namespace Go.Proofs.Ytcdcnmphjhfbpaa
open Go.Conc Go.RowKit Go.Relay
open Go.ConcN (upd upd_ne upd_same)
section
section
variable {P : Program} {t e : TypeId} {ti : TypeInfo}
theorem run_from (hu : P.underlying t = some (.slice e)) (hi : P.info? e = some ti) (hz : ti.size = 1) (b o p y cap : Nat) (hc : p + y ≤ cap) : ∃ a' : Option Addr, (0 < y → a' = some ⟨b, o + p, none⟩) ∧ ∀ (w : World) (es : Array Event), (Instr.sliceAt t (.slice (some ⟨b, o, none⟩) (p + y) cap) (some (.int .i64 (p : Nat))) none none).run P w = .ok (.slice a' y (cap - p)) w ∧
    (Instr.sliceAt t (.slice (some ⟨b, o, none⟩) (p + y) cap) (some (.int .i64 (p : Nat))) none none).events P w es = es := by
  have g1 : (p : Int) ≤ ((p + y : Nat) : Int) := by omega
  have g3 : (p : Int) ≤ (p : Int) + y := by omega
  have g4 : ¬ ((p : Int) + y < p) := by omega
  have g5 : (0 : Int) ≤ p := by omega
  have g6 : ¬ ((p : Int) < 0) := by omega
  have g7 : p + y - p = y := by omega
  have g8 : ¬ (p + y < p) := by omega
  by_cases g2 : cap = p
  · subst g2
    have hy : y = 0 := by omega
    subst hy
    refine ⟨some ⟨b, o, none⟩, fun h => by omega, fun w es => ?_⟩
    constructor <;> simp [Instr.sliceAt, Instr.slice, run_underlying hu, Instr.sliceBounds, Instr.sliceBound, asIntOf, sizeOf, typeInfo, hi, hz, g6, Addr.add]
  · have g9 : ¬ p = cap := fun e => g2 e.symm
    have g10 : ¬ (cap ≤ p) := by omega
    refine ⟨some ⟨b, o + p, none⟩, fun _ => rfl, fun w es => ?_⟩
    constructor <;> simp [Instr.sliceAt, Instr.slice, run_underlying hu, Instr.sliceBounds, Instr.sliceBound, asIntOf, sizeOf, typeInfo, hi, hz, g1, g2, g3, g4, g5, g6, g7, g8, g9, g10, Addr.add]
theorem run_from_nil (hu : P.underlying t = some (.slice e)) (hi : P.info? e = some ti) (hz : ti.size = 1) (w : World) (es : Array Event) : (Instr.sliceAt t (.slice none 0 0) (some (.int .i64 0)) none none).run P w = .ok (.slice none 0 0) w ∧ (Instr.sliceAt t (.slice none 0 0) (some (.int .i64 0)) none none).events P w es = es := by
  constructor <;> simp [Instr.sliceAt, Instr.slice, run_underlying hu, Instr.sliceBounds, Instr.sliceBound, asIntOf, sizeOf, typeInfo, hi, hz, Addr.add]
theorem run_upto (hu : P.underlying t = some (.slice e)) (hi : P.info? e = some ti) (hz : ti.size = 1) (b o q y cap : Nat) (hq : q ≤ y) (hy : 0 < y) (hc : y ≤ cap) (w : World) (es : Array Event) : (Instr.sliceAt t (.slice (some ⟨b, o, none⟩) y cap) none (some (.int .i64 (q : Nat))) none).run P w = .ok (.slice (some ⟨b, o, none⟩) q cap) w ∧ (Instr.sliceAt t (.slice (some ⟨b, o, none⟩) y cap) none (some (.int .i64 (q : Nat))) none).events P w es = es := by
  have g1 : (q : Int) ≤ (cap : Nat) := by omega
  have g2 : ¬ ((q : Int) < 0) := by omega
  have g3 : (0 : Int) ≤ q := by omega
  have g4 : ¬ cap = 0 := by omega
  have g5 : q ≤ cap := by omega
  have g6 : 0 < cap := by omega
  constructor <;> simp [Instr.sliceAt, Instr.slice, run_underlying hu, Instr.sliceBounds, Instr.sliceBound, asIntOf, sizeOf, typeInfo, hi, hz, g1, g2, g3, g4, g5, g6, Addr.add]
end
end
section
theorem pb_some (n k ob : Nat) (ab ac p y : Nat) (tb : Nat) (sb so sc : Nat) (L i : Nat) (wv kd a b cx : Int) (r : Nat) (mo : Nat) (hk : k ≤ 2) (hr : r < k) (hwv0 : 0 ≤ wv) (hwv1 : wv < 256) (hwho : wv.tmod ((k : Int) + 1) = (r : Int) + 1) (hub : 0 ≤ IntKind.wrap .u64 a) (hm : (IntKind.wrap .u64 a).tmod 5 = mo) (hm2 : mo ≤ 4) (hi : i < L) (hL : L ≤ 17592186044416) (hpy : p + y < 4611686018427387904) (w : World) (j : Nat) (hy : 0 < y) (hc : p + y ≤ ac) (hjy : j ≤ y) (hj : min (y : Int) (max (mo : Int) 1) = j) (Q : Nat → Nat → World → Prop) (hQ : ∀ g gc w', Q g gc w' → w'.cell? ⟨tb, r, none⟩ = some (.int .i64 (p : Nat)) ∧ w'.frozen? ⟨tb, r, none⟩ = false ∧ CallV Try.prog true (fun _ => none) 43 #[.slice (some ⟨g, 0, none⟩) j gc, .slice (some ⟨ab, p, none⟩) j (ac - p)] w' (.bool true) w') (hcal : ∀ w2 : World, w2.heap.size = w.heap.size + 1 → (∀ b, b < w.heap.size → w2.heap[b]? = w.heap[b]?) → CallP true (fun _ => none) 42 #[.pointer (some ⟨ob, 0, none⟩), .nilIface, .int .i64 r, .int .i64 mo] w2 (fun v w' => ∃ g gc, v = .tuple #[.slice (some ⟨g, 0, none⟩) j gc, .int .i64 0] ∧ Q g gc w'))
    (hcs : ∀ (y : Nat) (v : Value), ([.int .u8 wv, .int .i64 kd, .int .i64 a, .int .i64 b, .int .i64 cx] : List Value)[y]? = some v → w.cell? ⟨sb, so + i * 5 + y, none⟩ = some v) (cs : List Frame) (u : Nat → Value) :
    Walk Try.prog true (DR (fun _ => none)) (fun g w' => (∃ u, g = G (hdPa n k ob (.slice (some ⟨ab, 0, none⟩) (p + y) ac) (.slice (some ⟨tb, 0, none⟩) k k) (.slice (some ⟨sb, so, none⟩) L sc) L (i + 1) u) cs) ∧ ∃ g gc w3, Q g gc w3 ∧ ∃ d, w' = (w3.setCell ⟨tb, r, none⟩ (.int .i64 ((p : Int) + j))).at d) (G (hdPa n k ob (.slice (some ⟨ab, 0, none⟩) (p + y) ac) (.slice (some ⟨tb, 0, none⟩) k k) (.slice (some ⟨sb, so, none⟩) L sc) L i u) cs) w := by
  have hA : ∀ b, Apart (fun _ => none) b := fun b => ⟨fun _ _ _ _ h => (by cases h), fun _ _ h => (by cases h)⟩
  obtain ⟨fsA, huA⟩ := structT 80 (by kernel_rfl)
  have hiI := Option.some_get (show (Try.prog.info? 2).isSome = true by kernel_rfl)
  have hmn := @events_min_ints Try.prog
  have hmx := @events_max_ints Try.prog
  have hi0 : (0 : Int) ≤ i := by omega
  have hi1 : decide ((i : Int) < L) = true := by simp; omega
  have hi3 : decide (i < L) = true := by simp; omega
  have hi4 : (i : Int) < L := by omega
  have hr0 : (0 : Int) ≤ r := by omega
  have hr1 : decide ((r : Int) < k) = true := by simp; omega
  have hr3 : decide (r < k) = true := by simp; omega
  have hr4 : (r : Int) < k := by omega
  have hw1 : IntKind.wrap .i64 ((k : Int) + 1) = (k : Int) + 1 := by rw [IntKind.wrap_i64]; omega
  have hw2 : IntKind.wrap .i64 ((r : Int) + 1) = (r : Int) + 1 := by rw [IntKind.wrap_i64]; omega
  have hw3 : IntKind.wrap .i64 ((r : Int) + 1 - 1) = r := by rw [IntKind.wrap_i64]; omega
  have hw9 : IntKind.wrap .i64 (r : Int) = r := by rw [IntKind.wrap_i64]; omega
  have hw4 : IntKind.wrap .i64 (mo : Int) = mo := by rw [IntKind.wrap_i64]; omega
  have hw5 : IntKind.wrap .i64 wv = wv := by rw [IntKind.wrap_i64]; omega
  have hw6 : IntKind.wrap .u64 (mo : Int) = mo := by rw [IntKind.wrap_u64]; omega
  have hw7 : IntKind.wrap .i64 ((i : Int) + 1) = (i : Int) + 1 := by rw [IntKind.wrap_i64]; omega
  have hcc : ((i + 1 : Nat) : Int) = (i : Int) + 1 := by simp
  have z1 : ((k : Int) + 1 == 0) = false := by simp; omega
  have z3 : ¬ ((k : Int) + 1 = 0) := by omega
  have z5 : ((r : Int) + 1 == 0) = false := by simp; omega
  have z6 : ¬ ((r : Int) + 1 = 0) := by omega
  obtain ⟨ua, hua⟩ : ∃ ua, IntKind.wrap .u64 a = ua := ⟨_, rfl⟩
  rw [hua] at hm hub
  conv => arg 5; unfold hdPa
  repeat (first | refine Walk.cx ?_ | (refine Walk.cReg ?_; simp only [z9]) | (refine Walk.oq ?_; try walk_nrm) | (refine Walk.un ?_; walk_nrm))
  refine Walk.loadS 80 (.tmp 72) (ho_of (by conv => lhs; whnf) (by kernel_rfl)) (by rfl) (by decide) rfl sb (so + i * 5) [.int .u8 wv, .int .i64 kd, .int .i64 a, .int .i64 b, .int .i64 cx] (.struct fsA) rfl hcs huA rfl (by kernel_rfl) ?_
  clear hcs
  walk_nrm
  (refine Walk.oa ?_; try walk_nrm)
  have s1 : (w.alloc (.cells #[.int .u8 0, .int .i64 0, .int .i64 0, .int .i64 0, .int .i64 0] 80)).heap.size = w.heap.size + 1 := by simp
  have o1 : ∀ b, b < w.heap.size → (w.alloc (.cells #[.int .u8 0, .int .i64 0, .int .i64 0, .int .i64 0, .int .i64 0] 80)).heap[b]? = w.heap[b]? := fun b hb => heap_new_lt _ _ hb
  have d1 := heap_alloc_new w (.cells #[.int .u8 0, .int .i64 0, .int .i64 0, .int .i64 0, .int .i64 0] 80)
  generalize hT : w.heap.size = T at *
  generalize w.alloc (.cells #[.int .u8 0, .int .i64 0, .int .i64 0, .int .i64 0, .int .i64 0] 80) = w1 at *
  refine Walk.storeS 80 (.tmp 14) (.tmp 73) (ho_of (by conv => lhs; whnf) (by kernel_rfl)) (by rfl) (by decide) rfl T #[.int .u8 wv, .int .i64 kd, .int .i64 a, .int .i64 b, .int .i64 cx] _ 80 rfl rfl d1 (by kernel_rfl) (by rfl) (by simp [Value.oneCell']) (hA _) ?_
  have d2 := setRow_self (cells := #[.int .u8 wv, .int .i64 kd, .int .i64 a, .int .i64 b, .int .i64 cx]) d1
  have o2 : ∀ x, x < T → (w1.setRow T #[.int .u8 wv, .int .i64 kd, .int .i64 a, .int .i64 b, .int .i64 cx]).heap[x]? = w.heap[x]? := fun x hx => (setRow_other _ _ (by omega)).trans (o1 x hx)
  have s2 := setRow_size w1 T #[.int .u8 wv, .int .i64 kd, .int .i64 a, .int .i64 b, .int .i64 cx]
  rw [s1] at s2
  generalize w1.setRow T #[.int .u8 wv, .int .i64 kd, .int .i64 a, .int .i64 b, .int .i64 cx] = w2 at *
  have c0 : w2.cell? ⟨T, 0, none⟩ = some (.int .u8 wv) := (cell_of d2 0).trans rfl
  have c2 : w2.cell? ⟨T, 2, none⟩ = some (.int .i64 a) := (cell_of d2 2).trans rfl
  have hcal2 := hcal w2 s2 o2
  clear d1 d2 o1 s1 hcal
  try walk_nrm
  repeat (first | refine Walk.cx ?_ | (refine Walk.cReg ?_; simp only [z9]) | (refine Walk.oq ?_; try walk_nrm) | (refine Walk.un ?_; walk_nrm))
  refine Walk.callP (Post := fun v w' => ∃ g gc, v = .tuple #[.slice (some ⟨g, 0, none⟩) j gc, .int .i64 0] ∧ Q g gc w') ?_ (ho_of (by conv => lhs; whnf) (by kernel_rfl)) (by rfl) (by decide) rfl Try.func42 (by kernel_rfl) (by rfl) ⟨rfl, rfl, _, Try.func9⟩ ?_
  · walk_nrm
    exact hcal2
  rintro _ w3 ⟨g, gc, rfl, hq⟩
  obtain ⟨hp, hfz, hsm⟩ := hQ g gc w3 hq
  clear hcal2 c0 c2 o2
  have hfree : Free (fun _ => none) ⟨tb, r, none⟩ := (hA tb).1 _ rfl
  have hw8 : IntKind.wrap .i64 ((p : Int) + j) = (p : Int) + j := by rw [IntKind.wrap_i64]; omega
  obtain ⟨a', ha, hrf⟩ := run_from (P := Try.prog) (t := 22) (by kernel_rfl) hiI.symm (by kernel_rfl) ab 0 p y ac hc
  obtain rfl := ha hy
  rw [Nat.zero_add] at hrf
  have hf1 := fun w => (hrf w #[]).1
  have hf2 := fun w es => (hrf w es).2
  have hu1 := fun w => (run_upto (P := Try.prog) (t := 22) (by kernel_rfl) hiI.symm (by kernel_rfl) ab p j y (ac - p) hjy hy (by omega) w #[]).1
  have hu2 := fun w es => (run_upto (P := Try.prog) (t := 22) (by kernel_rfl) hiI.symm (by kernel_rfl) ab p j y (ac - p) hjy hy (by omega) w es).2
  have y0 : ((y : Int) == 0) = false := by simp; omega
  have y1 : (y == 0) = false := by simp; omega
  have y2 : ¬ y = 0 := by omega
  clear hrf ha
  walk_nrm
  repeat (first | refine Walk.cx ?_ | (refine Walk.cReg ?_; simp only [z9]) | (refine Walk.oq ?_; try walk_nrm) | (refine Walk.un ?_; walk_nrm))
  refine Walk.callV (x := .bool true) (W := w3) ?_ (ho_of (by conv => lhs; whnf) (by kernel_rfl)) (by rfl) (by decide) rfl Try.func43 (by kernel_rfl) (by rfl) ?_
  · walk_nrm
    exact hsm
  clear hsm hf1 hf2 hu1 hu2
  walk_nrm
  repeat (first | refine Walk.cx ?_ | (refine Walk.cReg ?_; simp only [z9]) | (refine Walk.oq ?_; try walk_nrm) | (refine Walk.un ?_; walk_nrm))
  (refine Walk.os hfree hp ?_; try walk_nrm)
  generalize hwS : w3.setCell ⟨tb, r, none⟩ (.int .i64 ((p : Int) + j)) = w4 at *
  clear hp hfz
  repeat (first | refine Walk.cx ?_ | (refine Walk.cReg ?_; simp only [z9]) | (refine Walk.oq ?_; try walk_nrm) | (refine Walk.un ?_; walk_nrm))
  refine Walk.ctl rfl (fun w => stepG_inLoop) ?_
  refine .stop fun d => ⟨at_slots ?_, g, gc, w3, hq, d, by rw [hwS]⟩
  simp only [hdPa, hcc]
  rfl
end
section
theorem pb_none (n k ob : Nat) (ab ac p y : Nat) (tb : Nat) (sb so sc : Nat) (L i : Nat) (wv kd a b cx : Int) (r : Nat) (mo : Nat) (hk : k ≤ 2) (hr : r < k) (hwv0 : 0 ≤ wv) (hwv1 : wv < 256) (hwho : wv.tmod ((k : Int) + 1) = (r : Int) + 1) (hub : 0 ≤ IntKind.wrap .u64 a) (hm : (IntKind.wrap .u64 a).tmod 5 = mo) (hm2 : mo ≤ 4) (hi : i < L) (hL : L ≤ 17592186044416) (hpy : p + y < 4611686018427387904) (w : World) (av : Value) (la : Option Addr) (lc : Nat) (hf1 : ∀ w : World, (Instr.sliceAt 22 av (some (.int .i64 (p : Nat))) none none).run Try.prog w = .ok (.slice la 0 lc) w) (hf2 : ∀ (w : World) (es : Array Event), (Instr.sliceAt 22 av (some (.int .i64 (p : Nat))) none none).events Try.prog w es = es) (Q : World → Prop) (hQ : ∀ w', Q w' → w'.cell? ⟨tb, r, none⟩ = some (.int .i64 (p : Nat))) (hcal : ∀ w2 : World, w2.heap.size = w.heap.size + 1 → (∀ b, b < w.heap.size → w2.heap[b]? = w.heap[b]?) → CallP true (fun _ => none) 42 #[.pointer (some ⟨ob, 0, none⟩), .nilIface, .int .i64 r, .int .i64 mo] w2 (fun v w' => ∃ a cp, v = .tuple #[.slice a 0 cp, .int .i64 4] ∧ Q w'))
    (hcs : ∀ (y : Nat) (v : Value), ([.int .u8 wv, .int .i64 kd, .int .i64 a, .int .i64 b, .int .i64 cx] : List Value)[y]? = some v → w.cell? ⟨sb, so + i * 5 + y, none⟩ = some v) (cs : List Frame) (u : Nat → Value) :
    Walk Try.prog true (DR (fun _ => none)) (fun g w' => (∃ u, g = G (hdPa n k ob av (.slice (some ⟨tb, 0, none⟩) k k) (.slice (some ⟨sb, so, none⟩) L sc) L (i + 1) u) cs) ∧ ∃ w3, Q w3 ∧ ∃ d, w' = w3.at d) (G (hdPa n k ob av (.slice (some ⟨tb, 0, none⟩) k k) (.slice (some ⟨sb, so, none⟩) L sc) L i u) cs) w := by
  have hA : ∀ b, Apart (fun _ => none) b := fun b => ⟨fun _ _ _ _ h => (by cases h), fun _ _ h => (by cases h)⟩
  obtain ⟨fsA, huA⟩ := structT 80 (by kernel_rfl)
  have hiI := Option.some_get (show (Try.prog.info? 2).isSome = true by kernel_rfl)
  have hmn := @events_min_ints Try.prog
  have hmx := @events_max_ints Try.prog
  have hi0 : (0 : Int) ≤ i := by omega
  have hi1 : decide ((i : Int) < L) = true := by simp; omega
  have hi3 : decide (i < L) = true := by simp; omega
  have hi4 : (i : Int) < L := by omega
  have hr0 : (0 : Int) ≤ r := by omega
  have hr1 : decide ((r : Int) < k) = true := by simp; omega
  have hr3 : decide (r < k) = true := by simp; omega
  have hr4 : (r : Int) < k := by omega
  have hw1 : IntKind.wrap .i64 ((k : Int) + 1) = (k : Int) + 1 := by rw [IntKind.wrap_i64]; omega
  have hw2 : IntKind.wrap .i64 ((r : Int) + 1) = (r : Int) + 1 := by rw [IntKind.wrap_i64]; omega
  have hw3 : IntKind.wrap .i64 ((r : Int) + 1 - 1) = r := by rw [IntKind.wrap_i64]; omega
  have hw9 : IntKind.wrap .i64 (r : Int) = r := by rw [IntKind.wrap_i64]; omega
  have hw4 : IntKind.wrap .i64 (mo : Int) = mo := by rw [IntKind.wrap_i64]; omega
  have hw5 : IntKind.wrap .i64 wv = wv := by rw [IntKind.wrap_i64]; omega
  have hw6 : IntKind.wrap .u64 (mo : Int) = mo := by rw [IntKind.wrap_u64]; omega
  have hw7 : IntKind.wrap .i64 ((i : Int) + 1) = (i : Int) + 1 := by rw [IntKind.wrap_i64]; omega
  have hcc : ((i + 1 : Nat) : Int) = (i : Int) + 1 := by simp
  have z1 : ((k : Int) + 1 == 0) = false := by simp; omega
  have z3 : ¬ ((k : Int) + 1 = 0) := by omega
  have z5 : ((r : Int) + 1 == 0) = false := by simp; omega
  have z6 : ¬ ((r : Int) + 1 = 0) := by omega
  obtain ⟨ua, hua⟩ : ∃ ua, IntKind.wrap .u64 a = ua := ⟨_, rfl⟩
  rw [hua] at hm hub
  conv => arg 5; unfold hdPa
  repeat (first | refine Walk.cx ?_ | (refine Walk.cReg ?_; simp only [z9]) | (refine Walk.oq ?_; try walk_nrm) | (refine Walk.un ?_; walk_nrm))
  refine Walk.loadS 80 (.tmp 72) (ho_of (by conv => lhs; whnf) (by kernel_rfl)) (by rfl) (by decide) rfl sb (so + i * 5) [.int .u8 wv, .int .i64 kd, .int .i64 a, .int .i64 b, .int .i64 cx] (.struct fsA) rfl hcs huA rfl (by kernel_rfl) ?_
  clear hcs
  walk_nrm
  (refine Walk.oa ?_; try walk_nrm)
  have s1 : (w.alloc (.cells #[.int .u8 0, .int .i64 0, .int .i64 0, .int .i64 0, .int .i64 0] 80)).heap.size = w.heap.size + 1 := by simp
  have o1 : ∀ b, b < w.heap.size → (w.alloc (.cells #[.int .u8 0, .int .i64 0, .int .i64 0, .int .i64 0, .int .i64 0] 80)).heap[b]? = w.heap[b]? := fun b hb => heap_new_lt _ _ hb
  have d1 := heap_alloc_new w (.cells #[.int .u8 0, .int .i64 0, .int .i64 0, .int .i64 0, .int .i64 0] 80)
  generalize hT : w.heap.size = T at *
  generalize w.alloc (.cells #[.int .u8 0, .int .i64 0, .int .i64 0, .int .i64 0, .int .i64 0] 80) = w1 at *
  refine Walk.storeS 80 (.tmp 14) (.tmp 73) (ho_of (by conv => lhs; whnf) (by kernel_rfl)) (by rfl) (by decide) rfl T #[.int .u8 wv, .int .i64 kd, .int .i64 a, .int .i64 b, .int .i64 cx] _ 80 rfl rfl d1 (by kernel_rfl) (by rfl) (by simp [Value.oneCell']) (hA _) ?_
  have d2 := setRow_self (cells := #[.int .u8 wv, .int .i64 kd, .int .i64 a, .int .i64 b, .int .i64 cx]) d1
  have o2 : ∀ x, x < T → (w1.setRow T #[.int .u8 wv, .int .i64 kd, .int .i64 a, .int .i64 b, .int .i64 cx]).heap[x]? = w.heap[x]? := fun x hx => (setRow_other _ _ (by omega)).trans (o1 x hx)
  have s2 := setRow_size w1 T #[.int .u8 wv, .int .i64 kd, .int .i64 a, .int .i64 b, .int .i64 cx]
  rw [s1] at s2
  generalize w1.setRow T #[.int .u8 wv, .int .i64 kd, .int .i64 a, .int .i64 b, .int .i64 cx] = w2 at *
  have c0 : w2.cell? ⟨T, 0, none⟩ = some (.int .u8 wv) := (cell_of d2 0).trans rfl
  have c2 : w2.cell? ⟨T, 2, none⟩ = some (.int .i64 a) := (cell_of d2 2).trans rfl
  have hcal2 := hcal w2 s2 o2
  clear d1 d2 o1 s1 hcal
  try walk_nrm
  repeat (first | refine Walk.cx ?_ | (refine Walk.cReg ?_; simp only [z9]) | (refine Walk.oq ?_; try walk_nrm) | (refine Walk.un ?_; walk_nrm))
  refine Walk.callP (Post := fun v w' => ∃ a cp, v = .tuple #[.slice a 0 cp, .int .i64 4] ∧ Q w') ?_ (ho_of (by conv => lhs; whnf) (by kernel_rfl)) (by rfl) (by decide) rfl Try.func42 (by kernel_rfl) (by rfl) ⟨rfl, rfl, _, Try.func9⟩ ?_
  · walk_nrm
    exact hcal2
  rintro _ w3 ⟨ra, rc, rfl, hq⟩
  have hp := hQ w3 hq
  clear hcal2 c0 c2 o2
  walk_nrm
  repeat (first | refine Walk.cx ?_ | (refine Walk.cReg ?_; simp only [z9]) | (refine Walk.oq ?_; try walk_nrm) | (refine Walk.un ?_; walk_nrm))
  refine Walk.ctl rfl (fun w => stepG_inLoop) ?_
  refine .stop fun d => ⟨at_slots ?_, w3, hq, d, rfl⟩
  simp only [hdPa, hcc]
  rfl
end
end Go.Proofs.Ytcdcnmphjhfbpaa
