/- Part 4. -/
import Derived.Test.YtnnakajldnaldaaM1
set_option linter.unusedSimpArgs false
set_option linter.unusedVariables false
set_option maxHeartbeats 8000000
set_option maxRecDepth 100000
namespace Go.Proofs.Ytnnakajldnaldaa
open Go.Conc Go.RowKit Go.Relay
open Go.ConcN (upd upd_ne upd_same)
def opRow (l : List OpV) : List Value := l.flatMap fun o => [.int .i64 o.k, .int .i64 o.a, .int .i64 o.b, .int .i64 o.c]
theorem opRow_get : ∀ (l : List OpV) (k j : Nat) (o : OpV) (v : Value), l[k]? = some o → ([.int .i64 o.k, .int .i64 o.a, .int .i64 o.b, .int .i64 o.c] : List Value)[j]? = some v → (opRow l)[k * 4 + j]? = some v
  | o' :: l, 0, j, o, v, hk, hv => by
    simp only [List.getElem?_cons_zero, Option.some.injEq] at hk
    subst hk
    have hj := (List.getElem?_eq_some_iff.1 hv).1
    have : opRow (o' :: l) = [.int .i64 o'.k, .int .i64 o'.a, .int .i64 o'.b, .int .i64 o'.c] ++ opRow l := by simp [opRow]
    rw [this, Nat.zero_mul, Nat.zero_add, List.getElem?_append_left hj]
    exact hv
  | o' :: l, k + 1, j, o, v, hk, hv => by
    have : opRow (o' :: l) = [.int .i64 o'.k, .int .i64 o'.a, .int .i64 o'.b, .int .i64 o'.c] ++ opRow l := by simp [opRow]
    rw [this, List.getElem?_append_right (by simp; omega)]
    have h := opRow_get l k j o v (by simpa using hk) hv
    rw [← h]
    congr 1
    simp
    omega
section
def adV (x : Int) : Int := (IntKind.u64.wrap x).tmod 1000
def adO (i : Nat) (x : Int) : OpV := ⟨1, i + x.tmod 3, adV x, 0⟩
theorem u64_range (x : Int) : 0 ≤ IntKind.u64.wrap x ∧ IntKind.u64.wrap x < 18446744073709551616 := by rw [IntKind.wrap_u64]; omega
theorem adV_in (x : Int) : 0 ≤ adV x ∧ adV x ≤ 999 := by
  obtain ⟨h1, _⟩ := u64_range x
  have h2 := Int.tmod_nonneg 1000 h1
  have h3 := Int.tmod_lt_of_pos (IntKind.u64.wrap x) (show (0 : Int) < 1000 by decide)
  unfold adV
  omega
theorem cvU3 (k : Int) (w : World) (es : Array Event) : (convert 2 87 (.int .i64 k)).run Try.prog w = .ok (.int .u64 (IntKind.u64.wrap k)) w ∧ (convert 2 87 (.int .i64 k)).events Try.prog w es = es := by
  have h := run_convert_int (P := Try.prog) (w := w) 2 87 .i64 k (by kernel_rfl) (by kernel_rfl)
  rw [show Try.prog.intKind 87 = .u64 from by kernel_rfl] at h
  exact ⟨h, events_convert_int 2 87 .i64 k (by kernel_rfl) (by kernel_rfl) es⟩
theorem cvU5 (k : Int) (w : World) (es : Array Event) : (convert 87 2 (.int .u64 k)).run Try.prog w = .ok (.int .i64 (IntKind.i64.wrap k)) w ∧ (convert 87 2 (.int .u64 k)).events Try.prog w es = es := by
  have h := run_convert_int (P := Try.prog) (w := w) 87 2 .u64 k (by kernel_rfl) (by kernel_rfl)
  rw [show Try.prog.intKind 2 = .i64 from by kernel_rfl] at h
  exact ⟨h, events_convert_int 87 2 .u64 k (by kernel_rfl) (by kernel_rfl) es⟩
structure OwI (W w : World) (l : List OpV) (oa : Option Addr) (oc : Nat) : Prop where
  row : w.ownsRow W.heap.size 46 4 (.slice oa l.length oc) l.length (opRow l)
  old : ∀ b, b < W.heap.size → w.heap[b]? = W.heap[b]?
  size : W.heap.size ≤ w.heap.size
noncomputable def reg23_0 : Array Oper := match Try.f23.body with | some (.seq (.region _ ops _) _) => ops | _ => #[]
theorem size23_0 : reg23_0.size = 2 := by kernel_rfl
noncomputable def reg23_1 : Array Oper := match Try.f23.body with | some (.seq _ (.seq (.region _ ops _) _)) => ops | _ => #[]
theorem size23_1 : reg23_1.size = 1 := by kernel_rfl
noncomputable def reg23_2 : Array Oper := match Try.f23.body with | some (.seq _ (.seq _ (.seq (.region _ ops _) _))) => ops | _ => #[]
theorem size23_2 : reg23_2.size = 1 := by kernel_rfl
noncomputable def reg23_3 : Array Oper := match Try.f23.body with | some (.seq _ (.seq _ (.seq _ (.seq (.seq (.region _ ops _) _) _)))) => ops | _ => #[]
theorem size23_3 : reg23_3.size = 1 := by kernel_rfl
noncomputable def reg23_4 : Array Oper := match Try.f23.body with | some (.seq _ (.seq _ (.seq _ (.seq (.seq _ (.block _ (.loop (.seq (.seq (.region _ ops _) _) _)))) _)))) => ops | _ => #[]
theorem size23_4 : reg23_4.size = 8 := by kernel_rfl
noncomputable def reg23_6 : Array Oper := match Try.f23.body with | some (.seq _ (.seq _ (.seq _ (.seq (.seq _ (.block _ (.loop (.seq _ (.seq (.block _ (.seq (.region _ ops _) _)) _))))) _)))) => ops | _ => #[]
theorem size23_6 : reg23_6.size = 1 := by kernel_rfl
noncomputable def reg23_7 : Array Oper := match Try.f23.body with | some (.seq _ (.seq _ (.seq _ (.seq (.seq _ (.block _ (.loop (.seq _ (.seq (.block _ (.seq _ (.seq (.seq (.region _ ops _) _) _))) _))))) _)))) => ops | _ => #[]
theorem size23_7 : reg23_7.size = 1 := by kernel_rfl
noncomputable def reg23_8 : Array Oper := match Try.f23.body with | some (.seq _ (.seq _ (.seq _ (.seq (.seq _ (.block _ (.loop (.seq _ (.seq (.block _ (.seq _ (.seq (.seq _ (.block _ (.loop (.seq (.seq (.region _ ops _) _) _)))) _))) _))))) _)))) => ops | _ => #[]
theorem size23_8 : reg23_8.size = 11 := by kernel_rfl
noncomputable def reg23_10 : Array Oper := match Try.f23.body with | some (.seq _ (.seq _ (.seq _ (.seq (.seq _ (.block _ (.loop (.seq _ (.seq (.block _ (.seq _ (.seq (.seq _ (.block _ (.loop (.seq _ (.seq (.block _ (.seq (.region _ ops _) _)) _))))) _))) _))))) _)))) => ops | _ => #[]
theorem size23_10 : reg23_10.size = 11 := by kernel_rfl
noncomputable def reg23_11 : Array Oper := match Try.f23.body with | some (.seq _ (.seq _ (.seq _ (.seq (.seq _ (.block _ (.loop (.seq _ (.seq (.block _ (.seq _ (.seq (.seq _ (.block _ (.loop (.seq _ (.seq (.block _ (.seq _ (.seq (.region _ ops _) _))) _))))) _))) _))))) _)))) => ops | _ => #[]
theorem size23_11 : reg23_11.size = 16 := by kernel_rfl
noncomputable def reg23_12 : Array Oper := match Try.f23.body with | some (.seq _ (.seq _ (.seq _ (.seq (.seq _ (.block _ (.loop (.seq _ (.seq (.block _ (.seq _ (.seq (.seq _ (.block _ (.loop (.seq _ (.seq (.block _ (.seq _ (.seq _ (.region _ ops _)))) _))))) _))) _))))) _)))) => ops | _ => #[]
theorem size23_12 : reg23_12.size = 4 := by kernel_rfl
noncomputable def reg23_9 : Array Oper := match Try.f23.body with | some (.seq _ (.seq _ (.seq _ (.seq (.seq _ (.block _ (.loop (.seq _ (.seq (.block _ (.seq _ (.seq (.seq _ (.block _ (.loop (.seq _ (.seq _ (.region _ ops _)))))) _))) _))))) _)))) => ops | _ => #[]
theorem size23_9 : reg23_9.size = 3 := by kernel_rfl
noncomputable def reg23_13 : Array Oper := match Try.f23.body with | some (.seq _ (.seq _ (.seq _ (.seq (.seq _ (.block _ (.loop (.seq _ (.seq (.block _ (.seq _ (.seq _ (.region _ ops _)))) _))))) _)))) => ops | _ => #[]
theorem size23_13 : reg23_13.size = 5 := by kernel_rfl
noncomputable def reg23_5 : Array Oper := match Try.f23.body with | some (.seq _ (.seq _ (.seq _ (.seq (.seq _ (.block _ (.loop (.seq _ (.seq _ (.region _ ops _)))))) _)))) => ops | _ => #[]
theorem size23_5 : reg23_5.size = 3 := by kernel_rfl
noncomputable def reg23_14 : Array Oper := match Try.f23.body with | some (.seq _ (.seq _ (.seq _ (.seq _ (.seq (.region _ ops _) _))))) => ops | _ => #[]
theorem size23_14 : reg23_14.size = 4 := by kernel_rfl
theorem code23_is : Try.f23.body = some (.seq (.region 0 reg23_0 false) (.seq (.region 1 reg23_1 false) (.seq (.region 2 reg23_2 false) (.seq (.seq (.region 3 reg23_3 false) (.block 0 (.loop (.seq (.seq (.region 4 reg23_4 false) (.cond (.tmp 17 ) (.skip) (.exit 0))) (.seq (.block 1 (.seq (.region 6 reg23_6 false) (.seq (.seq (.region 7 reg23_7 false) (.block 2 (.loop (.seq (.seq (.region 8 reg23_8 false) (.cond (.tmp 30 ) (.skip) (.exit 2))) (.seq (.block 3 (.seq (.region 10 reg23_10 false) (.seq (.region 11 reg23_11 false) (.region 12 reg23_12 false)))) (.region 9 reg23_9 false)))))) (.region 13 reg23_13 false)))) (.region 5 reg23_5 false)))))) (.seq (.region 14 reg23_14 false) (.ret)))))) := by kernel_rfl
noncomputable def hdAo (lv tv : Value) (t : Int) (i : Nat) (u : Nat → Value) : Frame :=
  (base 23).at { tmps := #[lv, u 1, u 2, u 3, tv, .int .i64 t, .int .i64 i, u 7, u 8, u 9, u 10, u 11, u 12, u 13, u 14, u 15, u 16, u 17, u 18, u 19, u 20, u 21, u 22, u 23, u 24, u 25, u 26, u 27, u 28, u 29, u 30, u 31, u 32, u 33, u 34, u 35, u 36, u 37, u 38, u 39, u 40, u 41, u 42, u 43, u 44, u 45, u 46, u 47, u 48, u 49, u 50, u 51, u 52, u 53, u 54, u 55, u 56, u 57, u 58, u 59, u 60, u 61, u 62, u 63, u 64, u 65, u 66], defers := [] } [.code (.seq (.seq (.region 4 reg23_4 false) (.cond (.tmp 17 ) (.skip) (.exit 0))) (.seq (.block 1 (.seq (.region 6 reg23_6 false) (.seq (.seq (.region 7 reg23_7 false) (.block 2 (.loop (.seq (.seq (.region 8 reg23_8 false) (.cond (.tmp 30 ) (.skip) (.exit 2))) (.seq (.block 3 (.seq (.region 10 reg23_10 false) (.seq (.region 11 reg23_11 false) (.region 12 reg23_12 false)))) (.region 9 reg23_9 false)))))) (.region 13 reg23_13 false)))) (.region 5 reg23_5 false))), .inLoop (.seq (.seq (.region 4 reg23_4 false) (.cond (.tmp 17 ) (.skip) (.exit 0))) (.seq (.block 1 (.seq (.region 6 reg23_6 false) (.seq (.seq (.region 7 reg23_7 false) (.block 2 (.loop (.seq (.seq (.region 8 reg23_8 false) (.cond (.tmp 30 ) (.skip) (.exit 2))) (.seq (.block 3 (.seq (.region 10 reg23_10 false) (.seq (.region 11 reg23_11 false) (.region 12 reg23_12 false)))) (.region 9 reg23_9 false)))))) (.region 13 reg23_13 false)))) (.region 5 reg23_5 false))), .inBlock 0, .code (.seq (.region 14 reg23_14 false) (.ret))]
noncomputable def hdAi (lv tv : Value) (t : Int) (i : Nat) (ov : Value) (k : Nat) (u : Nat → Value) : Frame :=
  (base 23).at { tmps := #[lv, u 1, u 2, u 3, tv, .int .i64 t, .int .i64 i, ov, .int .i64 k, u 9, u 10, u 11, u 12, u 13, u 14, u 15, u 16, u 17, u 18, u 19, u 20, u 21, u 22, u 23, u 24, u 25, u 26, u 27, u 28, u 29, u 30, u 31, u 32, u 33, u 34, u 35, u 36, u 37, u 38, u 39, u 40, u 41, u 42, u 43, u 44, u 45, u 46, u 47, u 48, u 49, u 50, u 51, u 52, u 53, u 54, u 55, u 56, u 57, u 58, u 59, u 60, u 61, u 62, u 63, u 64, u 65, u 66], defers := [] } [.code (.seq (.seq (.region 8 reg23_8 false) (.cond (.tmp 30 ) (.skip) (.exit 2))) (.seq (.block 3 (.seq (.region 10 reg23_10 false) (.seq (.region 11 reg23_11 false) (.region 12 reg23_12 false)))) (.region 9 reg23_9 false))), .inLoop (.seq (.seq (.region 8 reg23_8 false) (.cond (.tmp 30 ) (.skip) (.exit 2))) (.seq (.block 3 (.seq (.region 10 reg23_10 false) (.seq (.region 11 reg23_11 false) (.region 12 reg23_12 false)))) (.region 9 reg23_9 false))), .inBlock 2, .code (.region 13 reg23_13 false), .inBlock 1, .code (.region 5 reg23_5 false), .inLoop (.seq (.seq (.region 4 reg23_4 false) (.cond (.tmp 17 ) (.skip) (.exit 0))) (.seq (.block 1 (.seq (.region 6 reg23_6 false) (.seq (.seq (.region 7 reg23_7 false) (.block 2 (.loop (.seq (.seq (.region 8 reg23_8 false) (.cond (.tmp 30 ) (.skip) (.exit 2))) (.seq (.block 3 (.seq (.region 10 reg23_10 false) (.seq (.region 11 reg23_11 false) (.region 12 reg23_12 false)))) (.region 9 reg23_9 false)))))) (.region 13 reg23_13 false)))) (.region 5 reg23_5 false))), .inBlock 0, .code (.seq (.region 14 reg23_14 false) (.ret))]
section
variable {main : Bool}
theorem add_round (lb lo n0 lc : Nat) (tv : Value) (t : Int) (i xb xo xl xc k : Nat) (pre : List OpV) (x : Int) (oa : Option Addr) (oc : Nat) (hpk : pre.length = k) (hk : k < xl) (hk5 : k < 500) (hi : i < n0) (hi63 : i < 63) (ht0 : 0 ≤ t) (ht1 : t ≤ 40000000) (u : Nat → Value) (cs : List Frame) (W w : World) (H : OwI W w pre oa oc)
    (c0 : W.cell? ⟨lb, lo + i, none⟩ = some (.slice (some ⟨xb, xo, none⟩) xl xc)) (c1 : W.cell? ⟨xb, xo + k, none⟩ = some (.int .i64 x)) :
    Walk Try.prog main (DR (fun _ => none)) (fun g w' => ∃ oa oc, (∃ u, g = G (hdAi (.slice (some ⟨lb, lo, none⟩) n0 lc) tv (t + adV x) i (.slice oa (k + 1) oc) (k + 1) u) cs) ∧ OwI W w' (pre ++ [adO i x]) oa oc) (G (hdAi (.slice (some ⟨lb, lo, none⟩) n0 lc) tv t i (.slice oa k oc) k u) cs) w := by
  have hiO := Option.some_get (show (Try.prog.info? 46).isSome = true by kernel_rfl)
  have hi0 : (0 : Int) ≤ i := by omega
  have hi4 : (i : Int) < n0 := by omega
  have hk0 : (0 : Int) ≤ k := by omega
  have hk1 : decide ((k : Int) < xl) = true := by simp; omega
  have hk3 : decide (k < xl) = true := by simp; omega
  have hk4 : (k : Int) < xl := by omega
  have hk6 : decide ((k : Int) < 500) = true := by simp; omega
  have hk7 : decide (k < 500) = true := by simp; omega
  have hw1 : IntKind.wrap .i64 ((k : Int) + 1) = (k : Int) + 1 := by rw [IntKind.wrap_i64]; omega
  have hcell : ∀ {x y : Nat} {v : Value}, W.cell? ⟨x, y, none⟩ = some v → w.cell? ⟨x, y, none⟩ = some v := fun {x y v} h => (World.cell?_of_block (a := ⟨x, y, none⟩) (H.old x (cell_lt' h))).trans h
  have d0 := hcell c0
  have d1 := hcell c1
  clear c0 c1 hcell
  have hHs := H.size
  have hrow0 := H.row
  have hold0 := H.old
  rw [hpk] at hrow0
  obtain ⟨r1, r1'⟩ := u64_range x
  have hro : opRow pre ++ [.int .i64 1, .int .i64 ((i : Int) + x.tmod 3), .int .i64 ((IntKind.u64.wrap x).tmod 1000), .int .i64 0] = opRow (pre ++ [adO i x]) := by simp [opRow, adO, adV]
  have hlen : (pre ++ [adO i x]).length = k + 1 := by simp [hpk]
  have hV : adV x = (IntKind.u64.wrap x).tmod 1000 := rfl
  generalize hPre : pre ++ [adO i x] = pre' at *
  rw [hV]
  clear hV
  have v3 := fun w => (cvU3 x w #[]).1
  have v4 := fun w es => (cvU3 x w es).2
  generalize hU : IntKind.u64.wrap x = U at *
  have a1 := Int.tmod_lt_of_pos U (show (0 : Int) < 1000 by decide)
  have b1 := Int.tmod_nonneg 1000 r1
  have m1 : IntKind.u64.wrap (U.tmod 1000) = U.tmod 1000 := by rw [IntKind.wrap_u64]; omega
  have x3 := fun w => (cvU5 (U.tmod 1000) w #[]).1
  have x4 := fun w es => (cvU5 (U.tmod 1000) w es).2
  have e2 : IntKind.i64.wrap (U.tmod 1000) = U.tmod 1000 := by rw [IntKind.wrap_i64]; omega
  rw [e2] at x3
  have q1 := Int.tmod_lt_of_pos x (show (0 : Int) < 3 by decide)
  have q2 := Int.lt_tmod_of_pos x (show (0 : Int) < 3 by decide)
  have m2 : IntKind.i64.wrap (x.tmod 3) = x.tmod 3 := by rw [IntKind.wrap_i64]; omega
  have m3 : IntKind.i64.wrap ((i : Int) + x.tmod 3) = (i : Int) + x.tmod 3 := by rw [IntKind.wrap_i64]; omega
  have m4 : IntKind.i64.wrap (t + U.tmod 1000) = t + U.tmod 1000 := by rw [IntKind.wrap_i64]; omega
  generalize hR : U.tmod 1000 = R at *
  generalize hM : x.tmod 3 = M at *
  generalize hA : (i : Int) + M = A at *
  clear r1 r1' a1 b1 q1 q2
  unfold hdAi
  repeat (first | refine Walk.c rfl ?_ | refine Walk.cRet ?_ | refine Walk.cEnd ?_ | (refine Walk.cReg ?_; simp only [size23_0, size23_1, size23_2, size23_3, size23_4, size23_6, size23_7, size23_8, size23_10, size23_11, size23_12, size23_9, size23_13, size23_5, size23_14, List.range, List.range.loop]) | (refine Walk.oq ?_; try walk_nrm) | (refine Walk.un ?_; walk_nrm))
  (refine Walk.oa ?_; try walk_nrm)
  have d6 := heap_alloc_new w (.cells #[.int .i64 1, .int .i64 A, .int .i64 R, .int .i64 0] 46)
  have p6 : ∀ b, b < w.heap.size → (w.alloc (.cells #[.int .i64 1, .int .i64 A, .int .i64 R, .int .i64 0] 46)).heap[b]? = w.heap[b]? := fun b hb => heap_new_lt _ _ hb
  have s6 : (w.alloc (.cells #[.int .i64 1, .int .i64 A, .int .i64 R, .int .i64 0] 46)).heap.size = w.heap.size + 1 := by simp
  have hrow6 : (w.alloc (.cells #[.int .i64 1, .int .i64 A, .int .i64 R, .int .i64 0] 46)).ownsRow W.heap.size 46 4 (.slice oa k oc) k (opRow pre) := row_same hrow0 fun b hb => p6 b (hrow0.lt b hb).2
  generalize hQ : w.heap.size = Q at *
  generalize w.alloc (.cells #[.int .i64 1, .int .i64 A, .int .i64 R, .int .i64 0] 46) = w6 at *
  repeat (first | (refine Walk.oq ?_; try walk_nrm) | (refine Walk.un ?_; walk_nrm))
  refine Walk.append (.tmp 43) (.tmp 56) 34 (ho_of (by conv => lhs; whnf) (by kernel_rfl)) (by rfl) (by decide) rfl W.heap.size 46 _ (.agg #[.int .i64 0, .int .i64 0, .int .i64 0, .int .i64 0]) 4 32 (by kernel_rfl) hiO.symm (by rfl) (by rfl) (by rfl) (by rfl) (by decide) (.slice oa k oc) k (opRow pre) rfl hrow6 ⟨Q, 0, none⟩ 1 1 [.int .i64 1, .int .i64 A, .int .i64 R, .int .i64 0] rfl (by rfl) (fun y v hv => ?_) (by intro v hv; simp only [List.mem_cons, List.not_mem_nil, or_false] at hv; rcases hv with rfl | rfl | rfl | rfl <;> rfl) (by decide) (by simp [maxLen]; omega) (by omega) (by omega) (fun b _ => ap0 b) (fun g gcap w7 hown hgr hat hlt => ?_)
  · rw [add_none, Nat.zero_add]
    refine (cell_of d6 y).trans ?_
    simpa using hv
  have s7 := hgr.size
  have hne : ∀ b, b < W.heap.size → w7.heap[b]? = w6.heap[b]? := fun b hb => hgr.block b (by omega) fun he => by have := (hrow6.lt b he.symm).1; omega
  rw [hro] at hown
  walk_nrm
  repeat (first | refine Walk.c rfl ?_ | refine Walk.cRet ?_ | refine Walk.cEnd ?_ | (refine Walk.cReg ?_; simp only [size23_0, size23_1, size23_2, size23_3, size23_4, size23_6, size23_7, size23_8, size23_10, size23_11, size23_12, size23_9, size23_13, size23_5, size23_14, List.range, List.range.loop]) | (refine Walk.oq ?_; try walk_nrm) | (refine Walk.un ?_; walk_nrm))
  refine Walk.ctl rfl (fun w => stepG_inLoop) ?_
  refine .stop fun d => ⟨some ⟨g, 0, none⟩, gcap, at_slots ?_, ⟨by rw [hlen]; exact hown, fun b hb => (hne b hb).trans ((p6 b (by omega)).trans (hold0 b hb)), ?_⟩⟩
  · have hc : ((k + 1 : Nat) : Int) = (k : Int) + 1 := by simp
    simp only [hdAi, hc]
    rfl
  · show W.heap.size ≤ w7.heap.size
    omega
theorem add_ops (lb lo n0 lc : Nat) (tv : Value) (i xb xo xl xc n6 : Nat) (xa : Option Addr) (xs : List Int) (hlen : xs.length = xl) (hn6 : n6 = min xl 500) (hxa : 0 < n6 → xa = some ⟨xb, xo, none⟩) (hi : i < n0) (hi63 : i < 63) (cs : List Frame) (W : World)
    (c0 : W.cell? ⟨lb, lo + i, none⟩ = some (.slice xa xl xc)) (hop : ∀ (k : Nat) (x : Int), xs[k]? = some x → xa = some ⟨xb, xo, none⟩ → W.cell? ⟨xb, xo + k, none⟩ = some (.int .i64 x)) :
    ∀ (r k : Nat) (t : Int) (oa : Option Addr) (oc : Nat) (u : Nat → Value) (w : World), k + r = n6 → 0 ≤ t → t ≤ 500000 * i + 1000 * k → OwI W w ((xs.take k).map (adO i)) oa oc →
    Walk Try.prog main (DR (fun _ => none)) (fun g w' => ∃ t oa oc, 0 ≤ t ∧ t ≤ 500000 * (i : Int) + 500000 ∧ (∃ u, g = G (hdAi (.slice (some ⟨lb, lo, none⟩) n0 lc) tv t i (.slice oa n6 oc) n6 u) cs) ∧ OwI W w' ((xs.take 500).map (adO i)) oa oc) (G (hdAi (.slice (some ⟨lb, lo, none⟩) n0 lc) tv t i (.slice oa k oc) k u) cs) w := by
  intro r
  induction r with
  | zero =>
    intro k t oa oc u w hk ht0 ht1 H
    obtain rfl : k = n6 := hk
    have e : xs.take k = xs.take 500 := by
      by_cases h : xl ≤ 500
      · rw [List.take_of_length_le (by omega), List.take_of_length_le (by omega)]
      · rw [show k = 500 by omega]
    rw [e] at H
    exact .stop fun d => ⟨t, oa, oc, ht0, by omega, ⟨u, rfl⟩, H.row, H.old, H.size⟩
  | succ r ih =>
    intro k t oa oc u w hk ht0 ht1 H
    have hkx : k < xs.length := by omega
    have hget : xs[k]? = some xs[k] := List.getElem?_eq_getElem hkx
    obtain rfl := hxa (by omega)
    have c1 := hop k _ hget rfl
    have hv := adV_in xs[k]
    refine (add_round lb lo n0 lc tv t i xb xo xl xc k _ (xs[k]) oa oc (by simp; omega) (by omega) (by omega) hi hi63 ht0 (by omega) u cs W w H c0 c1).then ?_
    rintro _ w1 ⟨oa1, oc1, ⟨u1, rfl⟩, H1⟩
    have ht : (xs.take k).map (adO i) ++ [adO i xs[k]] = (xs.take (k + 1)).map (adO i) := by
      rw [List.take_succ_eq_append_getElem hkx, List.map_append]
      rfl
    rw [ht] at H1
    exact ih (k + 1) _ oa1 oc1 u1 w1 (by omega) (by omega) (by omega) H1
end
end
end Go.Proofs.Ytnnakajldnaldaa
