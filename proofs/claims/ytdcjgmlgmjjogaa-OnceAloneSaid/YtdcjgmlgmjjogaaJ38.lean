/- Part 38. -/
import Derived.Test.YtdcjgmlgmjjogaaJ30
import Derived.Test.YtdcjgmlgmjjogaaJ37
set_option linter.unusedSimpArgs false
set_option linter.unusedVariables false
set_option maxHeartbeats 8000000
set_option maxRecDepth 100000
namespace Go.Proofs.Ytdcjgmlgmjjogaa
open Go.Conc Go.RowKit Go.Relay
open Go.ConcN (upd upd_ne upd_same)
structure Closing (f : FuncId) (t : Tmp) (v : Value) (g : Goroutine) : Prop where
 all : ∃ fr, g = G fr [] ∧ fr.mode = .returning ∧ fr.kind = .normal ∧ fr.defers = [] ∧ fr.fn = f ∧ fr.tmps.getD t undef = v
theorem q5 {α β γ δ ε : Type} {a a' : α} {b b' : β} {c c' : γ} {d d' : δ} {e e' : ε} (h : (a, b, c, d, e) = (a', b', c', d', e')) : a = a' ∧ b = b' ∧ c = c' ∧ d = d' ∧ e = e' := by simpa using h
theorem sets_run (c : Frame) (cs : List Frame) (w : World) : Runs (fun g w' => g = G (c.finish (.bool true)) cs ∧ (∀ b, b < w.heap.size → w'.heap[b]? = w.heap[b]?) ∧ w.heap.size ≤ w'.heap.size) (G (Frame.enter Try.prog 9 #[] .normal) (c :: cs)) w := by
 refine Runs.walk (sets_in c cs w) ?_
 rintro _ w1 ⟨fr, rfl, O1, Z1, I1, hs1, hB⟩
 refine Runs.then (oplay_any 1 (.slice (some ⟨w.heap.size + 2, 0, none⟩) 2 2) 100 (some ⟨w.heap.size + 2, 0, none⟩) (w.heap.size + 2) 0 2 2 (fun _ => rfl) (by decide) (seOa w.heap.size) (fun _ => 1) (fun _ => 1) seOps (some ⟨w.heap.size + 3, 0, none⟩) 5 seSl (by decide) fr (c :: cs) w1 I1 (fun j z hz => ⟨_, _, rfl, hs1 j z hz⟩) fun w' _ => firstOps_some (some ⟨w.heap.size + 2, 0, none⟩) 2 2 w' (Nat.le_refl _) (.inr ⟨_, rfl⟩)) ?_
 rintro _ w2 ⟨cells, H, rfl⟩
 have O2 := H.old
 have Z2 := H.size
 have hT := H.tr
 rw [cellsN1] at hT
 obtain ⟨e1, e2, e3, e4, e5⟩ := q5 (se_run (w1.heap.size + 1))
 unfold sePlay at e1 e2 e3 e4 e5
 rw [e1, e2] at hT
 refine Runs.walk (hB cells _ _ w2 hT e3 e4 e5) ?_
 rintro _ w3 ⟨rfl, O3, Z3⟩
 exact .now ⟨rfl, fun b hb => (O3 b (by omega)).trans ((O2 b (by omega)).trans (O1 b hb)), by omega⟩
theorem ozI_new {b : Nat} {w : World} (h : w.heap[b]? = some (.cells #[.int .i64 0, .int .i64 0, .int .i64 0] 45)) : OzI b 1 oz0 w := ⟨⟨_, h, fun i hi => by
 obtain rfl : i = 0 := by omega
 exact ⟨rfl, rfl, rfl⟩⟩⟩
theorem once_new2 {main : Bool} {V : Nat → Option Wait} (w : World) : CallW Try.prog main V 13 #[] w (fun v w' => v = .pointer (some ⟨w.heap.size, 0, none⟩) ∧ w'.heap[w.heap.size]? = some (.cells #[.int .i64 0, .int .i64 0, .int .i64 0] 45) ∧ (∀ b, b < w.heap.size → w'.heap[b]? = w.heap[b]?) ∧ w'.heap.size = w.heap.size + 1) := by
 intro c cs
 rw [enter_at _ Try.func13 code13_is]
 simp only [Try.ntmps13, ez, Nat.reduceAdd, Nat.reduceSub]
 repeat (first | refine Walk.cx ?_ | (refine Walk.cReg ?_; simp only [z13]) | (refine Walk.oq ?_; try walk_nrm) | (refine Walk.un ?_; walk_nrm))
 (refine Walk.oa ?_; try walk_nrm)
 repeat (first | refine Walk.cx ?_ | (refine Walk.cReg ?_; simp only [z13]) | (refine Walk.oq ?_; try walk_nrm) | (refine Walk.un ?_; walk_nrm))
 refine Walk.on1 rfl rfl Try.func13 rfl (.stop fun d => ⟨_, ⟨rfl, heap_alloc_new _ _, fun b hb => heap_new_lt _ _ hb, ?_⟩, rfl⟩)
 simp [World.at]
def PA1 (ta : Option Addr) (n0 tc : Nat) (fr : Frame) : Prop := ∀ w : World, Walk Try.prog true (DR (fun _ => none)) (fun g w' => (∃ u, g = G (hdOwn ta n0 tc (.slice none 0 0) 0 u) []) ∧ ∃ d, w' = w.at d) (G (fr.finish (.bool true)) []) w
theorem oal_in (ta : Option Addr) (n0 tc : Nat) (w : World) : Walk Try.prog true (DR (fun _ => none)) (fun g w' => ∃ fr, g = G (Frame.enter Try.prog 9 #[] .normal) [fr] ∧ (∃ d, w' = w.at d) ∧ PA1 ta n0 tc fr) (G (Frame.enter Try.prog 4 #[.slice ta n0 tc] .normal) []) w := by
 rw [enter_at _ Try.func4 code4_is]
 simp only [Try.ntmps4, ez, Nat.reduceAdd, Nat.reduceSub]
 repeat (first | refine Walk.cx ?_ | (refine Walk.cReg ?_; simp only [z4]) | (refine Walk.oq ?_; try walk_nrm) | (refine Walk.un ?_; walk_nrm))
 refine Walk.callE (ho_of (by conv => lhs; whnf) (by kernel_rfl)) (by rfl) (by decide) rfl Try.func9 (by kernel_rfl) (by rfl) ?_
 walk_nrm
 refine .stop fun d => ⟨_, rfl, ⟨d, rfl⟩, ?_⟩
 intro w0
 refine Walk.finish (ho_of (by conv => lhs; whnf) (by kernel_rfl)) ?_
 walk_nrm
 repeat (first | refine Walk.cx ?_ | (refine Walk.cReg ?_; simp only [z4]) | (refine Walk.oq ?_; try walk_nrm) | (refine Walk.un ?_; walk_nrm))
 refine Walk.ctl rfl (fun w => stepG_loop) ?_
 refine .stop fun d => ⟨at_slots ?_, d, rfl⟩
 simp only [hdOwn]
 rfl
theorem oal_go (ta : Option Addr) (n0 tc : Nat) (xa : Option Addr) (xc : Nat) (u : Nat → Value) (w0 : World) (Y : Array Value → World → Prop) (Z : Array Value → World → Bool → Option Addr → Nat → Prop) (m : Nat)
  (hplay : ∀ w1, (∀ b, b < w0.heap.size → w1.heap[b]? = w0.heap[b]?) → w1.heap[w0.heap.size]? = some (.cells #[.slice xa n0 xc] 32) → w1.heap.size = w0.heap.size + 1 → CallW Try.prog true (fun _ => none) 12 #[.int .i64 1, .slice (some ⟨w0.heap.size, 0, none⟩) 1 1, .slice none 0 0, .int .i64 1048576] w1 (fun v w' => ∃ cells, v = .agg cells ∧ Y cells w' ∧ Chg (fun _ => False) w1 w'))
  (hY : ∀ cells w1, Y cells w1 → ∃ a oa ol oc sa sl sc k bb oo aa ac, cells = trC (.slice (some ⟨bb, oo, none⟩) 1 a) (.slice oa ol oc) (.slice sa sl sc) k ∧ w1.cell? ⟨bb, oo, none⟩ = some (.slice aa m ac) ∧ Z cells w1 k aa ac) :
  Walk Try.prog true (DR (fun _ => none)) (fun g w' => (Closing 4 2 (.bool true) g ∧ ∀ b, b < w0.heap.size → w'.heap[b]? = w0.heap[b]?) ∨
   ∃ cells w1 R aa ac, Z cells w1 false aa ac ∧ (∀ b, b < w1.heap.size → w'.heap[b]? = w1.heap[b]?) ∧ (∀ b, b < w0.heap.size → w1.heap[b]? = w0.heap[b]?) ∧ w0.heap.size ≤ w1.heap.size ∧ w1.heap.size ≤ R ∧ w'.heap[R]? = some (.cells cells 29) ∧
    OzI (R + 1) 1 oz0 w' ∧ OzI (R + 2) 1 oz0 w' ∧ w'.heap[R + 3]? = some (.cells #[.int .i64 0] 48) ∧ w'.heap.size = R + 4 ∧
    ∃ u, g = G (hdAlo xa n0 xc R (R + 1) (R + 2) (R + 3) aa m ac 0 u) []) (G (hdOwn ta n0 tc (.slice xa n0 xc) n0 u) []) w0 := by
 have hi3 : decide (n0 < n0) = false := by simp
 have hi1 : decide ((n0 : Int) < n0) = false := by simp
 unfold hdOwn
 repeat (first | refine Walk.cx ?_ | (refine Walk.cReg ?_; simp only [z4]) | (refine Walk.oq ?_; try walk_nrm) | (refine Walk.un ?_; walk_nrm))
 (refine Walk.oa ?_; try walk_nrm)
 have s1 : (w0.alloc (.cells #[.slice xa n0 xc] 32)).heap.size = w0.heap.size + 1 := by simp
 have o1 : ∀ b, b < w0.heap.size → (w0.alloc (.cells #[.slice xa n0 xc] 32)).heap[b]? = w0.heap[b]? := fun b hb => heap_new_lt _ _ hb
 have d1 := heap_alloc_new w0 (.cells #[.slice xa n0 xc] 32)
 have hp := hplay _ o1 d1 s1
 generalize w0.alloc (.cells #[.slice xa n0 xc] 32) = w1 at *
 repeat (first | (refine Walk.oq ?_; try walk_nrm) | (refine Walk.un ?_; walk_nrm))
 refine Walk.callW (Post := fun v w' => ∃ cells, v = .agg cells ∧ Y cells w' ∧ Chg (fun _ => False) w1 w') ?_ (ho_of (by conv => lhs; whnf) (by kernel_rfl)) (by rfl) (by decide) rfl Try.func12 (by kernel_rfl) (by rfl) ?_
 ·walk_nrm
  exact hp
 rintro v w2 ⟨cells, rfl, y2, C2⟩
 obtain ⟨ca, oa, ol, oc, sa, sl, sc, k, bb, oo, aa, ac, rfl, hbb, y2⟩ := hY cells w2 y2
 have s2 := C2.size
 have o2 : ∀ b, b < w0.heap.size → w2.heap[b]? = w0.heap[b]? := fun b hb => (C2.same b (by omega) id).trans (o1 b hb)
 clear hp hplay hY
 walk_nrm
 (refine Walk.oa ?_; try walk_nrm)
 have hR := heap_alloc_new w2 (.cells #[.slice none 0 0, .slice none 0 0, .slice none 0 0, .bool false] 29)
 have o3 : ∀ b, b < w2.heap.size → (w2.alloc (.cells #[.slice none 0 0, .slice none 0 0, .slice none 0 0, .bool false] 29)).heap[b]? = w2.heap[b]? := fun b hb => heap_new_lt _ _ hb
 have s3 : (w2.alloc (.cells #[.slice none 0 0, .slice none 0 0, .slice none 0 0, .bool false] 29)).heap.size = w2.heap.size + 1 := by simp
 generalize hRR : w2.heap.size = R at *
 generalize w2.alloc (.cells #[.slice none 0 0, .slice none 0 0, .slice none 0 0, .bool false] 29) = w3 at *
 simp only [trC]
 repeat (first | (refine Walk.oq ?_; try walk_nrm) | (refine Walk.un ?_; walk_nrm))
 refine Walk.storeS 29 (.tmp 6) (.tmp 36) (ho_of (by conv => lhs; whnf) (by kernel_rfl)) (by rfl) (by decide) rfl R #[.slice (some ⟨bb, oo, none⟩) 1 ca, .slice oa ol oc, .slice sa sl sc, .bool k] _ 29 rfl rfl hR (by kernel_rfl) (by rfl) (by simp [Value.oneCell']) (ap0 _) ?_
 have dR := setRow_self (cells := #[.slice (some ⟨bb, oo, none⟩) 1 ca, .slice oa ol oc, .slice sa sl sc, .bool k]) hR
 have o4 : ∀ b, b < R → (w3.setRow R #[.slice (some ⟨bb, oo, none⟩) 1 ca, .slice oa ol oc, .slice sa sl sc, .bool k]).heap[b]? = w2.heap[b]? := fun b hb => (setRow_other _ _ (by omega)).trans (o3 b hb)
 have s4 : (w3.setRow R #[.slice (some ⟨bb, oo, none⟩) 1 ca, .slice oa ol oc, .slice sa sl sc, .bool k]).heap.size = R + 1 := by rw [setRow_size, s3]
 clear o3 s3 hR
 generalize w3.setRow R #[.slice (some ⟨bb, oo, none⟩) 1 ca, .slice oa ol oc, .slice sa sl sc, .bool k] = w4 at *
 have k3 : w4.cell? ⟨R, 3, none⟩ = some (.bool k) := (cell_of dR 3).trans rfl
 have k0 : w4.cell? ⟨R, 0, none⟩ = some (.slice (some ⟨bb, oo, none⟩) 1 ca) := (cell_of dR 0).trans rfl
 walk_nrm
 repeat (first | refine Walk.cx ?_ | (refine Walk.cReg ?_; simp only [z4]) | (refine Walk.oq ?_; try walk_nrm) | (refine Walk.un ?_; walk_nrm))
 cases k with
 | true =>
  repeat (first | refine Walk.cx ?_ | (refine Walk.cReg ?_; simp only [z4]) | (refine Walk.oq ?_; try walk_nrm) | (refine Walk.un ?_; walk_nrm))
  exact .stop fun d => .inl ⟨⟨_, rfl, rfl, rfl, rfl, rfl, rfl⟩, fun b hb => (o4 b (by omega)).trans (o2 b hb)⟩
 | false =>
  clear k3
  repeat (first | refine Walk.cx ?_ | (refine Walk.cReg ?_; simp only [z4]) | (refine Walk.oq ?_; try walk_nrm) | (refine Walk.un ?_; walk_nrm))
  have hn1 := once_new2 (main := true) (V := fun _ => none) w4
  simp only [s4] at hn1
  refine Walk.callW (Post := fun v w' => v = .pointer (some ⟨R + 1, 0, none⟩) ∧ w'.heap[R + 1]? = some (.cells #[.int .i64 0, .int .i64 0, .int .i64 0] 45) ∧ (∀ b, b < R + 1 → w'.heap[b]? = w4.heap[b]?) ∧ w'.heap.size = R + 1 + 1) ?_ (ho_of (by conv => lhs; whnf) (by kernel_rfl)) (by rfl) (by decide) rfl Try.func13 (by kernel_rfl) (by rfl) ?_
  ·walk_nrm
   exact hn1
  rintro v w5 ⟨rfl, I5, o5, s5⟩
  clear hn1
  walk_nrm
  repeat (first | (refine Walk.oq ?_; try walk_nrm) | (refine Walk.un ?_; walk_nrm))
  (refine Walk.oa ?_; try walk_nrm)
  have d6 := heap_alloc_new w5 (.cells #[.int .i64 0, .int .i64 0, .int .i64 0] 45)
  have o6 : ∀ b, b < w5.heap.size → (w5.alloc (.cells #[.int .i64 0, .int .i64 0, .int .i64 0] 45)).heap[b]? = w5.heap[b]? := fun b hb => heap_new_lt _ _ hb
  have s6 : (w5.alloc (.cells #[.int .i64 0, .int .i64 0, .int .i64 0] 45)).heap.size = R + 3 := by simp [s5]
  rw [s5] at d6
  try simp only [s5]
  generalize w5.alloc (.cells #[.int .i64 0, .int .i64 0, .int .i64 0] 45) = w6 at *
  repeat (first | (refine Walk.oq ?_; try walk_nrm) | (refine Walk.un ?_; walk_nrm))
  (refine Walk.oa ?_; try walk_nrm)
  have d7 := heap_alloc_new w6 (.cells #[.int .i64 0] 48)
  have o7 : ∀ b, b < w6.heap.size → (w6.alloc (.cells #[.int .i64 0] 48)).heap[b]? = w6.heap[b]? := fun b hb => heap_new_lt _ _ hb
  have s7 : (w6.alloc (.cells #[.int .i64 0] 48)).heap.size = R + 4 := by simp [s6]
  rw [s6] at d7
  try simp only [s6]
  generalize w6.alloc (.cells #[.int .i64 0] 48) = w7 at *
  have o74 : ∀ b, b < R + 1 → w7.heap[b]? = w4.heap[b]? := fun b hb => (o7 b (by omega)).trans ((o6 b (by omega)).trans (o5 b hb))
  have k7 : w7.cell? ⟨R, 0, none⟩ = some (.slice (some ⟨bb, oo, none⟩) 1 ca) := (World.cell?_of_block (a := ⟨R, 0, none⟩) (o74 R (by omega))).trans k0
  have hbb7 : w7.cell? ⟨bb, oo, none⟩ = some (.slice aa m ac) := (World.cell?_of_block (a := ⟨bb, oo, none⟩) ((o74 bb (by have := cell_lt' hbb; omega)).trans (o4 bb (by have := cell_lt' hbb; omega)))).trans hbb
  have hR7 := (o74 R (by omega)).trans dR
  have I7 : OzI (R + 1) 1 oz0 w7 := ozI_new ((o7 _ (by omega)).trans ((o6 _ (by omega)).trans I5))
  have J7 : OzI (R + 2) 1 oz0 w7 := ozI_new ((o7 _ (by omega)).trans d6)
  clear k0 hbb dR I5 d6
  repeat (first | refine Walk.cx ?_ | (refine Walk.cReg ?_; simp only [z4]) | (refine Walk.oq ?_; try walk_nrm) | (refine Walk.un ?_; walk_nrm))
  refine Walk.ctl rfl (fun w => stepG_loop) ?_
  refine .stop fun d => .inr ⟨_, w2, R, aa, ac, y2, fun b hb => (o74 b (by omega)).trans (o4 b (by omega)), o2, by omega, by omega, hR7, I7.old rfl, J7.old rfl, d7, s7, at_slots ?_⟩
  simp only [hdAlo]
  rfl
def tmW (R p : Nat) (S : Oz) (u : Nat → Value) : Array Value := #[u 0, u 1, u 2, u 3, u 4, u 5, .pointer (some ⟨R, 0, none⟩), u 7, u 8, .pointer (some ⟨p, 0, none⟩), u 10, u 11, u 12, u 13, .int .i64 (S.st 0), .int .i64 (S.vl 0), .int .i64 (S.ct 0), .int .i64 (S.st 0), .int .i64 (S.vl 0), .int .i64 (S.ct 0), u 20, u 21, u 22, u 23, u 24, u 25, u 26, u 27, u 28, u 29, u 30, u 31, u 32, u 33, u 34, u 35, u 36, u 37, u 38, u 39, u 40, u 41, u 42, u 43, u 44, u 45, u 46, u 47, u 48, u 49, u 50, u 51, u 52, u 53, u 54, u 55, u 56, u 57, u 58, u 59, u 60, u 61, u 62, u 63, u 64, u 65, u 66, u 67, u 68, u 69, u 70, u 71, u 72, u 73, u 74, u 75, u 76, u 77, u 78, u 79, u 80, u 81, u 82, u 83, u 84, u 85, u 86, u 87, u 88, u 89, u 90, u 91, u 92, u 93, u 94, u 95, u 96, u 97, u 98, u 99, u 100, u 101, u 102, u 103, u 104, u 105, u 106, u 107, u 108, u 109, u 110, u 111, u 112, u 113, u 114, u 115, u 116, u 117, u 118, u 119, u 120, u 121, u 122, u 123, u 124, u 125, u 126, u 127, u 128, u 129, u 130, u 131, u 132]
theorem oal_out (xa : Option Addr) (n0 xc R kb lb p : Nat) (aa : Option Addr) (m ac : Nat) (S : Oz) (u : Nat → Value) (w : World) (hk : OzI kb 1 S w) (hl : OzI lb 1 S w) :
  Walk Try.prog true (DR (fun _ => none)) (fun g w' => (∃ u, g = G ((base 4).at ⟨tmW R p S u, []⟩ [.code (.region 23 reg4_23 true), .code .ret]) []) ∧ ∃ d, w' = w.at d) (G (hdAlo xa n0 xc R kb lb p aa m ac m u) []) w := by
 have h1 := ostate1_w (main := true) (V := fun _ => none) S 0 (by decide) w hk
 have h2 := ostate1_w (main := true) (V := fun _ => none) S 0 (by decide) w hl
 rw [Nat.zero_mul] at h1 h2
 have hi3 : decide (m < m) = false := by simp
 have hi1 : decide ((m : Int) < m) = false := by simp
 unfold hdAlo
 repeat (first | refine Walk.cx ?_ | (refine Walk.cReg ?_; simp only [z4]) | (refine Walk.oq ?_; try walk_nrm) | (refine Walk.un ?_; walk_nrm))
 refine Walk.callV (x := .tuple #[.int .i64 (S.st 0), .int .i64 (S.vl 0), .int .i64 (S.ct 0)]) (W := w) ?_ (ho_of (by conv => lhs; whnf) (by kernel_rfl)) (by rfl) (by decide) rfl Try.func15 (by kernel_rfl) (by rfl) ?_
 ·walk_nrm
  exact h1
 walk_nrm
 repeat (first | refine Walk.cx ?_ | (refine Walk.cReg ?_; simp only [z4]) | (refine Walk.oq ?_; try walk_nrm) | (refine Walk.un ?_; walk_nrm))
 refine Walk.callV (x := .tuple #[.int .i64 (S.st 0), .int .i64 (S.vl 0), .int .i64 (S.ct 0)]) (W := w) ?_ (ho_of (by conv => lhs; whnf) (by kernel_rfl)) (by rfl) (by decide) rfl Try.func15 (by kernel_rfl) (by rfl) ?_
 ·walk_nrm
  exact h2
 walk_nrm
 repeat (first | refine Walk.cx ?_ | (refine Walk.cReg ?_; simp only [z4]) | (refine Walk.oq ?_; try walk_nrm) | (refine Walk.un ?_; walk_nrm))
 refine .stop fun d => ⟨at_slots ?_, d, rfl⟩
 simp only [tmW]
 rfl
def stZ (S : Oz) : List Int := [S.st 0, S.vl 0, S.ct 0]
def dsQ : List Nat := [107, 108, 109, 110, 111, 112, 113, 114, 115, 116, 117, 118, 119, 120, 121, 122, 123, 124, 125, 126, 127, 128, 129, 130, 131, 132, 2]
def vsQ (p c2 R : Nat) (S : Oz) (oa sb : Option Addr) (oc sd : Nat) (A B : Nat) : List Value := [.pointer (some ⟨p, 0, none⟩), .pointer (some ⟨p, 0, none⟩), .pointer (some ⟨p, 0, none⟩), .int .i64 (c2 : Nat), .pointer (some ⟨R, 1, none⟩), .slice oa c2 oc, .int .i64 (c2 : Nat), .bool true, .bool true, .pointer (some ⟨R, 2, none⟩), .slice sb 3 sd, .int .i64 (S.st 0), .int .i64 (S.vl 0), .int .i64 (S.ct 0), .slice (some ⟨A, 0, none⟩) 3 3, .bool true, .bool true, .bool true, .pointer (some ⟨R, 2, none⟩), .slice sb 3 sd, .int .i64 (S.st 0), .int .i64 (S.vl 0), .int .i64 (S.ct 0), .slice (some ⟨B, 0, none⟩) 3 3, .bool true, .bool true, .bool true]
theorem vsQ_a (p c2 R : Nat) (S : Oz) (oa sb : Option Addr) (oc sd : Nat) (A B : Nat) (A2 : Nat) {j : Nat} (h : j ≠ 14) : (vsQ p c2 R S oa sb oc sd A2 B)[j]? = (vsQ p c2 R S oa sb oc sd A B)[j]? := by
 show _ = ((vsQ p c2 R S oa sb oc sd A2 B).set 14 (.slice (some ⟨A, 0, none⟩) 3 3))[j]?
 rw [List.getElem?_set_ne (Ne.symm h)]
theorem vsQ_b (p c2 R : Nat) (S : Oz) (oa sb : Option Addr) (oc sd : Nat) (A B : Nat) (B2 : Nat) {j : Nat} (h : j ≠ 23) : (vsQ p c2 R S oa sb oc sd A B2)[j]? = (vsQ p c2 R S oa sb oc sd A B)[j]? := by
 show _ = ((vsQ p c2 R S oa sb oc sd A B2).set 23 (.slice (some ⟨B, 0, none⟩) 3 3))[j]?
 rw [List.getElem?_set_ne (Ne.symm h)]
structure LaQ (W : World) (vs : List Int) (f : Nat → Bool) (A B : Nat) (w : World) : Prop where
 old : ∀ b, b < W.heap.size → w.heap[b]? = W.heap[b]?
 size : W.heap.size ≤ w.heap.size
 a : f 14 = true → NumA (some ⟨A, 0, none⟩) vs w
 b : f 23 = true → NumA (some ⟨B, 0, none⟩) vs w
theorem LaQ.quiet {W : World} {vs : List Int} {f : Nat → Bool} {A B : Nat} {w : World} (h : LaQ W vs f A B w) {i : Nat} (h1 : i ≠ 14) (h2 : i ≠ 23) : LaQ W vs (upd f i true) A B w :=
 ⟨h.old, h.size, fun e => h.a (by rwa [upd_ne _ _ (Ne.symm h1)] at e), fun e => h.b (by rwa [upd_ne _ _ (Ne.symm h2)] at e)⟩
theorem numA_new (S : Oz) (w : World) : NumA (some ⟨w.heap.size, 0, none⟩) (stZ S) (w.alloc (.cells #[.int .i64 (S.st 0), .int .i64 (S.vl 0), .int .i64 (S.ct 0)] 2)) := fun i x hx => by
 refine ⟨_, 0, rfl, ?_⟩
 rw [Nat.zero_add]
 refine (cell_of (heap_alloc_new w _) i).trans ?_
 match i, hx with
 | 0, hx => cases hx; rfl
 | 1, hx => cases hx; rfl
 | 2, hx => cases hx; rfl
theorem NumA.old {a : Option Addr} {l : List Int} {w w' : World} (h : NumA a l w) (ho : ∀ b, b < w.heap.size → w'.heap[b]? = w.heap[b]?) : NumA a l w' := fun i x hx => by
 obtain ⟨b, o, e, hc⟩ := h i x hx
 exact ⟨b, o, e, (World.cell?_of_block (a := ⟨b, o + i, none⟩) (ho b (cell_lt' hc))).trans hc⟩
theorem alone_last {main : Bool} (R p : Nat) (S : Oz) (c2 : Nat) (W : World) (hc : W.heap[p]? = some (.cells #[.int .i64 (c2 : Nat)] 48)) (x0 : Value) (kk : Bool) (oa sb : Option Addr) (oc sd : Nat) (hR : W.heap[R]? = some (.cells (trC x0 (.slice oa c2 oc) (.slice sb 3 sd) kk) 29)) (hsb : NumA sb (stZ S) W) (k : List Item) (cs : List Frame) (u0 : Nat → Value) {Stop : Goroutine → World → Prop}
  (hend : ∀ (u : Nat → Value) (w : World), u 2 = .bool true → (∀ b, b < W.heap.size → w.heap[b]? = W.heap[b]?) → Walk Try.prog main (DR (fun _ => none)) Stop (G ((base 4).at ⟨tmW R p S u, []⟩ (.inRegion reg4_23 [] :: k)) cs) w) :
  Walk Try.prog main (DR (fun _ => none)) Stop (G ((base 4).at ⟨tmW R p S u0, []⟩ (.code (.region 23 reg4_23 true) :: k)) cs) W := by
 refine Walk.drawnJ (Inv := fun f ac' w => ∃ u A B, ac' = ⟨tmW R p S u, []⟩ ∧ Facts dsQ (vsQ p c2 R S oa sb oc sd A B) f u ∧ LaQ W (stZ S) f A B w) (by kernel_rfl) (by kernel_rfl) (fun d => ⟨u0, 0, 0, rfl, Facts.none _ _ _, ⟨fun _ _ => rfl, Nat.le_refl _, fun h => (by cases h), fun h => (by cases h)⟩⟩) ?_ ?_
 ·rintro f j op act w ⟨u, A, B, rfl, F0, Q⟩ hC hfj ho hdeps rest hr
  have hj : j < 27 := by have := (Array.getElem?_eq_some_iff.1 ho).1; rw [size4_23] at this; exact this
  match j, hj with
  | 0, _ =>
   clear hdeps hC hend
   simp only [tmW] at hr ⊢
   (refine Walk.oq ?_; try walk_nrm)
   refine hr _ _ ⟨upd u 107 (.pointer (some ⟨p, 0, none⟩)), A, B, ?_, F0.set (by decide) rfl rfl, Q.quiet (by decide) (by decide)⟩
   simp [tmW, upd]
  | 1, _ =>
   have hd := deps_of (l := [0]) (by kernel_rfl) ho hdeps
   have e107 := F0 0 107 _ (hd 0 (by simp)) rfl rfl
   clear hdeps hC hend
   simp only [tmW] at hr ⊢
   simp only [e107]
   (refine Walk.oq ?_; try walk_nrm)
   refine hr _ _ ⟨upd u 108 (.pointer (some ⟨p, 0, none⟩)), A, B, ?_, F0.set (by decide) rfl rfl, Q.quiet (by decide) (by decide)⟩
   simp [tmW, upd, e107]
  | 2, _ =>
   have hd := deps_of (l := [1]) (by kernel_rfl) ho hdeps
   have e108 := F0 1 108 _ (hd 1 (by simp)) rfl rfl
   clear hdeps hC hend
   simp only [tmW] at hr ⊢
   simp only [e108]
   (refine Walk.oq ?_; try walk_nrm)
   refine hr _ _ ⟨upd u 109 (.pointer (some ⟨p, 0, none⟩)), A, B, ?_, F0.set (by decide) rfl rfl, Q.quiet (by decide) (by decide)⟩
   simp [tmW, upd, e108]
  | 3, _ =>
   have hd := deps_of (l := [2]) (by kernel_rfl) ho hdeps
   have e109 := F0 2 109 _ (hd 2 (by simp)) rfl rfl
   have c0 : w.cell? ⟨p, 0, none⟩ = some (.int .i64 (c2 : Nat)) := (cell_of ((Q.old p (Array.getElem?_eq_some_iff.1 hc).1).trans hc) 0).trans rfl
   clear hdeps hC hend
   simp only [tmW] at hr ⊢
   simp only [e109]
   (refine Walk.oq ?_; try walk_nrm)
   refine hr _ _ ⟨upd u 110 (.int .i64 (c2 : Nat)), A, B, ?_, F0.set (by decide) rfl rfl, Q.quiet (by decide) (by decide)⟩
   simp [tmW, upd, e109]
  | 4, _ =>
   clear hdeps hC hend
   simp only [tmW] at hr ⊢
   (refine Walk.oq ?_; try walk_nrm)
   refine hr _ _ ⟨upd u 111 (.pointer (some ⟨R, 1, none⟩)), A, B, ?_, F0.set (by decide) rfl rfl, Q.quiet (by decide) (by decide)⟩
   simp [tmW, upd]
  | 5, _ =>
   have hd := deps_of (l := [4]) (by kernel_rfl) ho hdeps
   have e111 := F0 4 111 _ (hd 4 (by simp)) rfl rfl
   have c0 : w.cell? ⟨R, 1, none⟩ = some (.slice oa c2 oc) := (cell_of ((Q.old R (Array.getElem?_eq_some_iff.1 hR).1).trans hR) 1).trans rfl
   clear hdeps hC hend
   simp only [tmW] at hr ⊢
   simp only [e111]
   (refine Walk.oq ?_; try walk_nrm)
   refine hr _ _ ⟨upd u 112 (.slice oa c2 oc), A, B, ?_, F0.set (by decide) rfl rfl, Q.quiet (by decide) (by decide)⟩
   simp [tmW, upd, e111]
  | 6, _ =>
   have hd := deps_of (l := [5]) (by kernel_rfl) ho hdeps
   have e112 := F0 5 112 _ (hd 5 (by simp)) rfl rfl
   clear hdeps hC hend
   simp only [tmW] at hr ⊢
   simp only [e112]
   (refine Walk.oq ?_; try walk_nrm)
   refine hr _ _ ⟨upd u 113 (.int .i64 (c2 : Nat)), A, B, ?_, F0.set (by decide) rfl rfl, Q.quiet (by decide) (by decide)⟩
   simp [tmW, upd, e112]
  | 7, _ =>
   have hd := deps_of (l := [3, 6]) (by kernel_rfl) ho hdeps
   have e110 := F0 3 110 _ (hd 3 (by simp)) rfl rfl
   have e113 := F0 6 113 _ (hd 6 (by simp)) rfl rfl
   clear hdeps hC hend
   simp only [tmW] at hr ⊢
   simp only [e110, e113]
   (refine Walk.oq ?_; try walk_nrm)
   refine hr _ _ ⟨upd u 114 (.bool true), A, B, ?_, F0.set (by decide) rfl rfl, Q.quiet (by decide) (by decide)⟩
   simp [tmW, upd, e110, e113]
  | 8, _ =>
   have hd := deps_of (l := [7]) (by kernel_rfl) ho hdeps
   have e114 := F0 7 114 _ (hd 7 (by simp)) rfl rfl
   clear hdeps hC hend
   simp only [tmW] at hr ⊢
   simp only [e114]
   (refine Walk.oq ?_; try walk_nrm)
   refine hr _ _ ⟨upd u 115 (.bool true), A, B, ?_, F0.set (by decide) rfl rfl, Q.quiet (by decide) (by decide)⟩
   simp [tmW, upd, e114]
  | 9, _ =>
   have hd := deps_of (l := [8]) (by kernel_rfl) ho hdeps
   have e115 := F0 8 115 _ (hd 8 (by simp)) rfl rfl
   clear hdeps hC hend
   simp only [tmW] at hr ⊢
   simp only [e115]
   (refine Walk.oq ?_; try walk_nrm)
   refine hr _ _ ⟨upd u 116 (.pointer (some ⟨R, 2, none⟩)), A, B, ?_, F0.set (by decide) rfl rfl, Q.quiet (by decide) (by decide)⟩
   simp [tmW, upd, e115]
  | 10, _ =>
   have hd := deps_of (l := [9, 8]) (by kernel_rfl) ho hdeps
   have e115 := F0 8 115 _ (hd 8 (by simp)) rfl rfl
   have e116 := F0 9 116 _ (hd 9 (by simp)) rfl rfl
   have c0 : w.cell? ⟨R, 2, none⟩ = some (.slice sb 3 sd) := (cell_of ((Q.old R (Array.getElem?_eq_some_iff.1 hR).1).trans hR) 2).trans rfl
   clear hdeps hC hend
   simp only [tmW] at hr ⊢
   simp only [e115, e116]
   (refine Walk.oq ?_; try walk_nrm)
   refine hr _ _ ⟨upd u 117 (.slice sb 3 sd), A, B, ?_, F0.set (by decide) rfl rfl, Q.quiet (by decide) (by decide)⟩
   simp [tmW, upd, e115, e116]
  | 11, _ =>
   have hd := deps_of (l := [8]) (by kernel_rfl) ho hdeps
   have e115 := F0 8 115 _ (hd 8 (by simp)) rfl rfl
   clear hdeps hC hend
   simp only [tmW] at hr ⊢
   simp only [e115]
   (refine Walk.oq ?_; try walk_nrm)
   refine hr _ _ ⟨upd u 118 (.int .i64 (S.st 0)), A, B, ?_, F0.set (by decide) rfl rfl, Q.quiet (by decide) (by decide)⟩
   simp [tmW, upd, e115]
  | 12, _ =>
   have hd := deps_of (l := [8]) (by kernel_rfl) ho hdeps
   have e115 := F0 8 115 _ (hd 8 (by simp)) rfl rfl
   clear hdeps hC hend
   simp only [tmW] at hr ⊢
   simp only [e115]
   (refine Walk.oq ?_; try walk_nrm)
   refine hr _ _ ⟨upd u 119 (.int .i64 (S.vl 0)), A, B, ?_, F0.set (by decide) rfl rfl, Q.quiet (by decide) (by decide)⟩
   simp [tmW, upd, e115]
  | 13, _ =>
   have hd := deps_of (l := [8]) (by kernel_rfl) ho hdeps
   have e115 := F0 8 115 _ (hd 8 (by simp)) rfl rfl
   clear hdeps hC hend
   simp only [tmW] at hr ⊢
   simp only [e115]
   (refine Walk.oq ?_; try walk_nrm)
   refine hr _ _ ⟨upd u 120 (.int .i64 (S.ct 0)), A, B, ?_, F0.set (by decide) rfl rfl, Q.quiet (by decide) (by decide)⟩
   simp [tmW, upd, e115]
  | 14, _ =>
   have hd := deps_of (l := [11, 12, 13, 8]) (by kernel_rfl) ho hdeps
   have e115 := F0 8 115 _ (hd 8 (by simp)) rfl rfl
   have e118 := F0 11 118 _ (hd 11 (by simp)) rfl rfl
   have e119 := F0 12 119 _ (hd 12 (by simp)) rfl rfl
   have e120 := F0 13 120 _ (hd 13 (by simp)) rfl rfl
   have hO : ∀ b, b < w.heap.size → (w.alloc (.cells #[.int .i64 (S.st 0), .int .i64 (S.vl 0), .int .i64 (S.ct 0)] 2)).heap[b]? = w.heap[b]? := fun b hb => heap_new_lt _ _ hb
   have hZ : (w.alloc (.cells #[.int .i64 (S.st 0), .int .i64 (S.vl 0), .int .i64 (S.ct 0)] 2)).heap.size = w.heap.size + 1 := by simp
   have hNw := numA_new S w
   have hQs := Q.size
   clear hdeps hC hend
   simp only [tmW] at hr ⊢
   simp only [e115, e118, e119, e120]
   (refine Walk.oa ?_; try walk_nrm)
   refine hr _ _ ⟨upd u 121 (.slice (some ⟨w.heap.size, 0, none⟩) 3 3), w.heap.size, B, ?_, Facts.set (facts_vals F0 fun j v hf hv => (vsQ_a p c2 R S oa sb oc sd A B w.heap.size (fun e => by rw [e, hfj] at hf; cases hf)).symm.trans hv) (by decide) rfl rfl, ⟨fun b hb => (hO b (by omega)).trans (Q.old b hb), by omega, fun e => ?_, fun e => ?_⟩⟩
   ·simp [tmW, upd, e115, e118, e119, e120]
   ·exact hNw
   ·rw [upd_ne _ _ (by decide)] at e
    exact (Q.b e).old hO
  | 15, _ =>
   have hd := deps_of (l := [10, 14, 8, 8]) (by kernel_rfl) ho hdeps
   have e115 := F0 8 115 _ (hd 8 (by simp)) rfl rfl
   have e117 := F0 10 117 _ (hd 10 (by simp)) rfl rfl
   have e121 := F0 14 121 _ (hd 14 (by simp)) rfl rfl
   have Hc := sn_w (main := main) (V := fun _ => none) sb (some ⟨A, 0, none⟩) (stZ S) sd 3 (by simp [stZ]) w (hsb.old Q.old) (Q.a (hd 14 (by simp)))
   simp only [stZ, List.length_cons, List.length_nil, Nat.zero_add, Nat.reduceAdd] at Hc
   clear hdeps hC hend
   simp only [tmW] at hr ⊢
   simp only [e115, e117, e121]
   refine Walk.callV (x := .bool true) (W := w) ?_ (ho_of (by conv => lhs; whnf) (by kernel_rfl)) (by rfl) (by decide) rfl Try.func16 (by kernel_rfl) (by rfl) ?_
   ·walk_nrm
    exact Hc
   walk_nrm
   refine hr _ _ ⟨upd u 122 (.bool true), A, B, ?_, F0.set (by decide) rfl rfl, Q.quiet (by decide) (by decide)⟩
   simp [tmW, upd, e115, e117, e121]
  | 16, _ =>
   have hd := deps_of (l := [8, 15]) (by kernel_rfl) ho hdeps
   have e115 := F0 8 115 _ (hd 8 (by simp)) rfl rfl
   have e122 := F0 15 122 _ (hd 15 (by simp)) rfl rfl
   clear hdeps hC hend
   simp only [tmW] at hr ⊢
   simp only [e115, e122]
   (refine Walk.oq ?_; try walk_nrm)
   refine hr _ _ ⟨upd u 123 (.bool true), A, B, ?_, F0.set (by decide) rfl rfl, Q.quiet (by decide) (by decide)⟩
   simp [tmW, upd, e115, e122]
  | 17, _ =>
   have hd := deps_of (l := [16, 15]) (by kernel_rfl) ho hdeps
   have e122 := F0 15 122 _ (hd 15 (by simp)) rfl rfl
   have e123 := F0 16 123 _ (hd 16 (by simp)) rfl rfl
   clear hdeps hC hend
   simp only [tmW] at hr ⊢
   simp only [e122, e123]
   (refine Walk.oq ?_; try walk_nrm)
   refine hr _ _ ⟨upd u 124 (.bool true), A, B, ?_, F0.set (by decide) rfl rfl, Q.quiet (by decide) (by decide)⟩
   simp [tmW, upd, e122, e123]
  | 18, _ =>
   have hd := deps_of (l := [17]) (by kernel_rfl) ho hdeps
   have e124 := F0 17 124 _ (hd 17 (by simp)) rfl rfl
   clear hdeps hC hend
   simp only [tmW] at hr ⊢
   simp only [e124]
   (refine Walk.oq ?_; try walk_nrm)
   refine hr _ _ ⟨upd u 125 (.pointer (some ⟨R, 2, none⟩)), A, B, ?_, F0.set (by decide) rfl rfl, Q.quiet (by decide) (by decide)⟩
   simp [tmW, upd, e124]
  | 19, _ =>
   have hd := deps_of (l := [18, 17]) (by kernel_rfl) ho hdeps
   have e124 := F0 17 124 _ (hd 17 (by simp)) rfl rfl
   have e125 := F0 18 125 _ (hd 18 (by simp)) rfl rfl
   have c0 : w.cell? ⟨R, 2, none⟩ = some (.slice sb 3 sd) := (cell_of ((Q.old R (Array.getElem?_eq_some_iff.1 hR).1).trans hR) 2).trans rfl
   clear hdeps hC hend
   simp only [tmW] at hr ⊢
   simp only [e124, e125]
   (refine Walk.oq ?_; try walk_nrm)
   refine hr _ _ ⟨upd u 126 (.slice sb 3 sd), A, B, ?_, F0.set (by decide) rfl rfl, Q.quiet (by decide) (by decide)⟩
   simp [tmW, upd, e124, e125]
  | 20, _ =>
   have hd := deps_of (l := [17]) (by kernel_rfl) ho hdeps
   have e124 := F0 17 124 _ (hd 17 (by simp)) rfl rfl
   clear hdeps hC hend
   simp only [tmW] at hr ⊢
   simp only [e124]
   (refine Walk.oq ?_; try walk_nrm)
   refine hr _ _ ⟨upd u 127 (.int .i64 (S.st 0)), A, B, ?_, F0.set (by decide) rfl rfl, Q.quiet (by decide) (by decide)⟩
   simp [tmW, upd, e124]
  | 21, _ =>
   have hd := deps_of (l := [17]) (by kernel_rfl) ho hdeps
   have e124 := F0 17 124 _ (hd 17 (by simp)) rfl rfl
   clear hdeps hC hend
   simp only [tmW] at hr ⊢
   simp only [e124]
   (refine Walk.oq ?_; try walk_nrm)
   refine hr _ _ ⟨upd u 128 (.int .i64 (S.vl 0)), A, B, ?_, F0.set (by decide) rfl rfl, Q.quiet (by decide) (by decide)⟩
   simp [tmW, upd, e124]
  | 22, _ =>
   have hd := deps_of (l := [17]) (by kernel_rfl) ho hdeps
   have e124 := F0 17 124 _ (hd 17 (by simp)) rfl rfl
   clear hdeps hC hend
   simp only [tmW] at hr ⊢
   simp only [e124]
   (refine Walk.oq ?_; try walk_nrm)
   refine hr _ _ ⟨upd u 129 (.int .i64 (S.ct 0)), A, B, ?_, F0.set (by decide) rfl rfl, Q.quiet (by decide) (by decide)⟩
   simp [tmW, upd, e124]
  | 23, _ =>
   have hd := deps_of (l := [20, 21, 22, 17]) (by kernel_rfl) ho hdeps
   have e124 := F0 17 124 _ (hd 17 (by simp)) rfl rfl
   have e127 := F0 20 127 _ (hd 20 (by simp)) rfl rfl
   have e128 := F0 21 128 _ (hd 21 (by simp)) rfl rfl
   have e129 := F0 22 129 _ (hd 22 (by simp)) rfl rfl
   have hO : ∀ b, b < w.heap.size → (w.alloc (.cells #[.int .i64 (S.st 0), .int .i64 (S.vl 0), .int .i64 (S.ct 0)] 2)).heap[b]? = w.heap[b]? := fun b hb => heap_new_lt _ _ hb
   have hZ : (w.alloc (.cells #[.int .i64 (S.st 0), .int .i64 (S.vl 0), .int .i64 (S.ct 0)] 2)).heap.size = w.heap.size + 1 := by simp
   have hNw := numA_new S w
   have hQs := Q.size
   clear hdeps hC hend
   simp only [tmW] at hr ⊢
   simp only [e124, e127, e128, e129]
   (refine Walk.oa ?_; try walk_nrm)
   refine hr _ _ ⟨upd u 130 (.slice (some ⟨w.heap.size, 0, none⟩) 3 3), A, w.heap.size, ?_, Facts.set (facts_vals F0 fun j v hf hv => (vsQ_b p c2 R S oa sb oc sd A B w.heap.size (fun e => by rw [e, hfj] at hf; cases hf)).symm.trans hv) (by decide) rfl rfl, ⟨fun b hb => (hO b (by omega)).trans (Q.old b hb), by omega, fun e => ?_, fun e => ?_⟩⟩
   ·simp [tmW, upd, e124, e127, e128, e129]
   ·rw [upd_ne _ _ (by decide)] at e
    exact (Q.a e).old hO
   ·exact hNw
  | 24, _ =>
   have hd := deps_of (l := [19, 23, 17, 17]) (by kernel_rfl) ho hdeps
   have e124 := F0 17 124 _ (hd 17 (by simp)) rfl rfl
   have e126 := F0 19 126 _ (hd 19 (by simp)) rfl rfl
   have e130 := F0 23 130 _ (hd 23 (by simp)) rfl rfl
   have Hc := sn_w (main := main) (V := fun _ => none) sb (some ⟨B, 0, none⟩) (stZ S) sd 3 (by simp [stZ]) w (hsb.old Q.old) (Q.b (hd 23 (by simp)))
   simp only [stZ, List.length_cons, List.length_nil, Nat.zero_add, Nat.reduceAdd] at Hc
   clear hdeps hC hend
   simp only [tmW] at hr ⊢
   simp only [e124, e126, e130]
   refine Walk.callV (x := .bool true) (W := w) ?_ (ho_of (by conv => lhs; whnf) (by kernel_rfl)) (by rfl) (by decide) rfl Try.func16 (by kernel_rfl) (by rfl) ?_
   ·walk_nrm
    exact Hc
   walk_nrm
   refine hr _ _ ⟨upd u 131 (.bool true), A, B, ?_, F0.set (by decide) rfl rfl, Q.quiet (by decide) (by decide)⟩
   simp [tmW, upd, e124, e126, e130]
  | 25, _ =>
   have hd := deps_of (l := [17, 24]) (by kernel_rfl) ho hdeps
   have e124 := F0 17 124 _ (hd 17 (by simp)) rfl rfl
   have e131 := F0 24 131 _ (hd 24 (by simp)) rfl rfl
   clear hdeps hC hend
   simp only [tmW] at hr ⊢
   simp only [e124, e131]
   (refine Walk.oq ?_; try walk_nrm)
   refine hr _ _ ⟨upd u 132 (.bool true), A, B, ?_, F0.set (by decide) rfl rfl, Q.quiet (by decide) (by decide)⟩
   simp [tmW, upd, e124, e131]
  | 26, _ =>
   have hd := deps_of (l := [25, 24, 0, 1, 2, 3, 4, 5, 6, 7, 8, 9, 10, 11, 12, 13, 14, 15, 16, 17, 18, 19, 20, 21, 22, 23, 24, 25]) (by kernel_rfl) ho hdeps
   have e131 := F0 24 131 _ (hd 24 (by simp)) rfl rfl
   have e132 := F0 25 132 _ (hd 25 (by simp)) rfl rfl
   clear hdeps hC hend
   simp only [tmW] at hr ⊢
   simp only [e131, e132]
   (refine Walk.oq ?_; try walk_nrm)
   refine hr _ _ ⟨upd u 2 (.bool true), A, B, ?_, F0.set (by decide) rfl rfl, Q.quiet (by decide) (by decide)⟩
   simp [tmW, upd, e131, e132]
 ·rintro f act w ⟨u, A, B, rfl, F0, Q⟩ hall
  exact hend u w (F0 26 2 _ (hall 26 (by rw [size4_23]; decide)) rfl rfl) Q.old
end Go.Proofs.Ytdcjgmlgmjjogaa
