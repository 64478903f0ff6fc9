/- Part 10. -/
import Derived.Test.YtnnakajldnaldaaM7
import Derived.Test.YtnnakajldnaldaaM9
set_option linter.unusedSimpArgs false
set_option linter.unusedVariables false
set_option maxHeartbeats 8000000
set_option maxRecDepth 100000
namespace Go.Proofs.Ytnnakajldnaldaa
open Go.Conc Go.RowKit Go.Relay
open Go.ConcN (upd upd_ne upd_same)
theorem cvB1 (k : Int) (w : World) (es : Array Event) : (convert 5 3 (.int .u8 k)).run Try.prog w = .ok (.int .i64 (IntKind.i64.wrap k)) w ∧ (convert 5 3 (.int .u8 k)).events Try.prog w es = es := by
  have h := run_convert_int (P := Try.prog) (w := w) 5 3 .u8 k (by kernel_rfl) (by kernel_rfl)
  rw [show Try.prog.intKind 3 = .i64 from by kernel_rfl] at h
  exact ⟨h, events_convert_int 5 3 .u8 k (by kernel_rfl) (by kernel_rfl) es⟩
def opsX (xs : Nat → List Int) (K k : Nat) : List OpV := if k = K then [rdS, rdE, rdS] else adOps xs k
theorem AdI.congr {ops ops' : Nat → List OpV} {W w : World} {i : Nat} {oa : Option Addr} {oc : Nat} {ra : Nat → Option Addr} {rc : Nat → Nat} (H : AdI ops W w i oa oc ra rc) (e : ∀ k, k < i → ops' k = ops k) : AdI ops' W w i oa oc ra rc := by
  refine ⟨?_, fun k hk => ?_, fun k hk => ?_, H.old, H.size⟩
  · have h : ((List.range i).map fun k => Value.slice (ra k) (ops' k).length (rc k)) = (List.range i).map fun k => Value.slice (ra k) (ops k).length (rc k) := List.map_congr_left fun k hk => by rw [e k (List.mem_range.1 hk)]
    rw [h]
    exact H.row
  · rw [e k hk]
    exact H.rows k hk
  · rw [e k hk]
    exact H.apart k hk
theorem rd_row {w : World} {Z base : Nat} (h : w.heap[Z]? = some (.cells #[.int .i64 2, .int .i64 0, .int .i64 0, .int .i64 0, .int .i64 5, .int .i64 0, .int .i64 0, .int .i64 0, .int .i64 2, .int .i64 0, .int .i64 0, .int .i64 0] 46)) (hb : base ≤ Z) : w.ownsRow base 46 4 (.slice (some ⟨Z, 0, none⟩) 3 3) 3 (opRow [rdS, rdE, rdS]) :=
  ⟨rfl, .inr ⟨Z, 3, _, rfl, hb, h, Nat.le_refl _, by decide, rfl, rfl⟩⟩
def PB2 (m K : Nat) (tv : Value) (fr : Frame) : Prop := ∀ (ab ao ac : Nat) (oa sa : Option Addr) (ln oc sn sc rb ro rc3 : Nat) (w3 : World), w3.cell? ⟨ab, ao + K, none⟩ = some (.slice (some ⟨rb, ro, none⟩) 3 rc3) →
  Walk Try.prog true (DR (fun _ => none)) (fun g w' => ∃ W, (∃ d, w' = World.at W d) ∧ (∃ u, g = G (hdBo m w3.heap.size tv K (.slice (some ⟨w3.heap.size + 1, 0, none⟩) (K + 1) (K + 1)) 0 (.slice none 0 0) (.slice none 0 0) 0 u) []) ∧ W.heap.size = w3.heap.size + 2 ∧ W.heap[w3.heap.size]? = some (.cells (trC (.slice (some ⟨ab, ao, none⟩) (K + 1) ac) (.slice oa ln oc) (.slice sa sn sc) false) 31) ∧
      W.heap[w3.heap.size + 1]? = some (.cells (madeCells #[.int .i64 0] ((K + 1) * 1)) 3) ∧ ∀ b, b < w3.heap.size → W.heap[b]? = w3.heap[b]?)
    (G (fr.finish (.agg (trC (.slice (some ⟨ab, ao, none⟩) (K + 1) ac) (.slice oa ln oc) (.slice sa sn sc) false))) []) w3
def PB1 (m K : Nat) (xs : Nat → List Int) (lv sv : Value) (fr : Frame) : Prop := ∀ w1 : World, CallW Try.prog true (fun _ => none) 23 #[lv] w1 (fun v w' => ∃ t oa oc ra rc, v = .tuple #[.slice oa K oc, .int .i64 t] ∧ AdI (adOps xs) w1 w' K oa oc ra rc) →
  Walk Try.prog true (DR (fun _ => none)) (fun g w' => ∃ fr2 oa oc ra rc wy wz, g = G (Frame.enter Try.prog 14 #[.slice (some ⟨wy.heap.size, 0, none⟩) m m, .slice oa (K + 1) oc, sv, .int .i64 1048576] .normal) [fr2] ∧ AdI (opsX xs K) w1 wy (K + 1) oa oc ra rc ∧ wz.heap[wy.heap.size]? = some (.cells (madeCells #[.int .i64 0] (m * 1)) 2) ∧ (∀ b, b < wy.heap.size → wz.heap[b]? = wy.heap[b]?) ∧ wz.heap.size = wy.heap.size + 1 ∧ (∃ d, w' = World.at wz d) ∧ PB2 m K (.slice oa (K + 1) oc) fr2) (G (fr.finish (.bool true)) []) w1
theorem bo_in (st : Int) (m K : Nat) (xs : Nat → List Int) (lv sv : Value) (hm : 1 + st.tmod 8 = m) (hm1 : 1 ≤ m) (hm8 : m ≤ 8) (hK : K ≤ 63) (w : World) : Walk Try.prog true (DR (fun _ => none)) (fun g w' => ∃ fr, g = G (Frame.enter Try.prog 12 #[] .normal) [fr] ∧ (∃ d, w' = w.at d) ∧ PB1 m K xs lv sv fr) (G (Frame.enter Try.prog 5 #[.int .u8 st, lv, sv] .normal) []) w := by
  obtain ⟨R, hR⟩ : ∃ R : Nat, st.tmod 8 = R := ⟨m - 1, by omega⟩
  have hm' : (1 : Int) + (R : Int) = m := by rw [← hR]; exact hm
  have r1 : IntKind.i64.wrap (R : Int) = (R : Int) := by rw [IntKind.wrap_i64]; omega
  have r2 : IntKind.i64.wrap ((1 : Int) + (R : Int)) = (m : Int) := by rw [IntKind.wrap_i64]; omega
  have r3 : IntKind.u8.wrap (R : Int) = (R : Int) := by rw [IntKind.wrap_u8]; omega
  have v1 := fun w => (cvB1 (R : Int) w #[]).1
  have v2 := fun w es => (cvB1 (R : Int) w es).2
  rw [r1] at v1
  clear hm hm'
  have hi2 := Option.some_get (show (Try.prog.info? 2).isSome = true by kernel_rfl)
  have hi3 := Option.some_get (show (Try.prog.info? 3).isSome = true by kernel_rfl)
  have hiO := Option.some_get (show (Try.prog.info? 34).isSome = true by kernel_rfl)
  rw [enter_at _ Try.func5 code5_is]
  simp only [Try.ntmps5, List.size_toArray, List.length_cons, List.length_nil, Nat.reduceAdd, Nat.reduceSub, Array.replicate_succ, Array.replicate_zero, List.push_toArray, List.append_toArray, List.nil_append, List.cons_append]
  repeat (first | refine Walk.c rfl ?_ | refine Walk.cRet ?_ | refine Walk.cEnd ?_ | (refine Walk.cReg ?_; simp only [size5_0, size5_1, size5_2, size5_3, size5_4, size5_5, size5_6, size5_7, size5_8, size5_9, size5_10, size5_11, size5_12, size5_13, size5_14, size5_15, size5_17, size5_18, size5_19, size5_20, size5_21, size5_22, size5_23, size5_24, size5_25, size5_26, size5_16, size5_27, size5_28, size5_29, size5_30, size5_31, size5_32, size5_33, size5_34, size5_35, List.range, List.range.loop]) | (refine Walk.oq ?_; try walk_nrm) | (refine Walk.un ?_; walk_nrm))
  refine Walk.callE (ho_of (by conv => lhs; whnf) (by kernel_rfl)) (by rfl) (by decide) rfl Try.func12 (by kernel_rfl) (by rfl) ?_
  walk_nrm
  refine .stop fun d => ⟨_, rfl, ⟨d, rfl⟩, ?_⟩
  intro w1 hY
  refine Walk.finish (ho_of (by conv => lhs; whnf) (by kernel_rfl)) ?_
  walk_nrm
  repeat (first | refine Walk.c rfl ?_ | refine Walk.cRet ?_ | refine Walk.cEnd ?_ | (refine Walk.cReg ?_; simp only [size5_0, size5_1, size5_2, size5_3, size5_4, size5_5, size5_6, size5_7, size5_8, size5_9, size5_10, size5_11, size5_12, size5_13, size5_14, size5_15, size5_17, size5_18, size5_19, size5_20, size5_21, size5_22, size5_23, size5_24, size5_25, size5_26, size5_16, size5_27, size5_28, size5_29, size5_30, size5_31, size5_32, size5_33, size5_34, size5_35, List.range, List.range.loop]) | (refine Walk.oq ?_; try walk_nrm) | (refine Walk.un ?_; walk_nrm))
  refine Walk.callW (Post := fun v w' => ∃ t oa oc ra rc, v = .tuple #[.slice oa K oc, .int .i64 t] ∧ AdI (adOps xs) w1 w' K oa oc ra rc) ?_ (ho_of (by conv => lhs; whnf) (by kernel_rfl)) (by rfl) (by decide) rfl Try.func23 (by kernel_rfl) (by rfl) ?_
  · walk_nrm
    exact hY
  rintro _ w2 ⟨t, oa, oc, ra, rc, rfl, H⟩
  clear hY
  have H' : AdI (opsX xs K) w1 w2 K oa oc ra rc := H.congr fun k hk => if_neg (by omega)
  clear H
  have z0 := H'.size
  have hrow := H'.row
  have eK : opsX xs K K = [rdS, rdE, rdS] := if_pos rfl
  walk_nrm
  repeat (first | refine Walk.c rfl ?_ | refine Walk.cRet ?_ | refine Walk.cEnd ?_ | (refine Walk.cReg ?_; simp only [size5_0, size5_1, size5_2, size5_3, size5_4, size5_5, size5_6, size5_7, size5_8, size5_9, size5_10, size5_11, size5_12, size5_13, size5_14, size5_15, size5_17, size5_18, size5_19, size5_20, size5_21, size5_22, size5_23, size5_24, size5_25, size5_26, size5_16, size5_27, size5_28, size5_29, size5_30, size5_31, size5_32, size5_33, size5_34, size5_35, List.range, List.range.loop]) | (refine Walk.oq ?_; try walk_nrm) | (refine Walk.un ?_; walk_nrm))
  (refine Walk.oa ?_; try walk_nrm)
  have d1 := heap_alloc_new w2 (.cells #[.int .i64 2, .int .i64 0, .int .i64 0, .int .i64 0, .int .i64 5, .int .i64 0, .int .i64 0, .int .i64 0, .int .i64 2, .int .i64 0, .int .i64 0, .int .i64 0] 46)
  have p1 : ∀ b, b < w2.heap.size → (w2.alloc (.cells #[.int .i64 2, .int .i64 0, .int .i64 0, .int .i64 0, .int .i64 5, .int .i64 0, .int .i64 0, .int .i64 0, .int .i64 2, .int .i64 0, .int .i64 0, .int .i64 0] 46)).heap[b]? = w2.heap[b]? := fun b hb => heap_new_lt _ _ hb
  have s1 : (w2.alloc (.cells #[.int .i64 2, .int .i64 0, .int .i64 0, .int .i64 0, .int .i64 5, .int .i64 0, .int .i64 0, .int .i64 0, .int .i64 2, .int .i64 0, .int .i64 0, .int .i64 0] 46)).heap.size = w2.heap.size + 1 := by simp
  generalize hQ : w2.heap.size = Q at *
  generalize w2.alloc (.cells #[.int .i64 2, .int .i64 0, .int .i64 0, .int .i64 0, .int .i64 5, .int .i64 0, .int .i64 0, .int .i64 0, .int .i64 2, .int .i64 0, .int .i64 0, .int .i64 0] 46) = x1 at *
  repeat (first | (refine Walk.oq ?_; try walk_nrm) | (refine Walk.un ?_; walk_nrm))
  (refine Walk.oa ?_; try walk_nrm)
  have d2 : (x1.alloc (.cells #[.slice (some ⟨Q, 0, none⟩) 3 3] 34)).heap[Q + 1]? = some (.cells #[.slice (some ⟨Q, 0, none⟩) 3 3] 34) := s1 ▸ heap_alloc_new x1 (.cells #[.slice (some ⟨Q, 0, none⟩) 3 3] 34)
  have p2 : ∀ b, b < Q + 1 → (x1.alloc (.cells #[.slice (some ⟨Q, 0, none⟩) 3 3] 34)).heap[b]? = x1.heap[b]? := fun b hb => heap_new_lt _ _ (by omega)
  have s2 : (x1.alloc (.cells #[.slice (some ⟨Q, 0, none⟩) 3 3] 34)).heap.size = Q + 1 + 1 := by simp [s1]
  try simp only [s1]
  have hlt := fun b (h : (Value.slice oa K oc).ownBlock = some b) => hrow.lt b h
  have R1 : OwI w2 x1 (opsX xs K K) (some ⟨Q, 0, none⟩) 3 := ⟨by rw [eK]; exact rd_row d1 (by omega), fun b hb => p1 b (by omega), by omega⟩
  have hrow2 : (x1.alloc (.cells #[.slice (some ⟨Q, 0, none⟩) 3 3] 34)).ownsRow w1.heap.size 34 1 (.slice oa K oc) K ((List.range K).map fun k => .slice (ra k) (opsX xs K k).length (rc k)) := row_same hrow fun b hb => (p2 b (by have := (hlt b hb).2; omega)).trans (p1 b (by have := (hlt b hb).2; omega))
  generalize x1.alloc (.cells #[.slice (some ⟨Q, 0, none⟩) 3 3] 34) = x2 at *
  repeat (first | (refine Walk.oq ?_; try walk_nrm) | (refine Walk.un ?_; walk_nrm))
  refine Walk.append (.tmp 33) (.tmp 38) 23 (ho_of (by conv => lhs; whnf) (by kernel_rfl)) (by rfl) (by decide) rfl w1.heap.size 34 _ (.slice none 0 0) 1 24 (by kernel_rfl) hiO.symm (by rfl) (by rfl) (by rfl) (by rfl) (by decide) (.slice oa K oc) K ((List.range K).map fun k => .slice (ra k) (opsX xs K k).length (rc k)) rfl hrow2 ⟨Q + 1, 0, none⟩ 1 1 [.slice (some ⟨Q, 0, none⟩) 3 3] rfl (by rfl) (fun y v hv => ?_) (by intro v hv; simp only [List.mem_cons, List.not_mem_nil, or_false] at hv; subst hv; rfl) (by decide) (by simp [maxLen]; omega) (by omega) (by omega) (fun b _ => ap0 b) (fun g gcap x3 hown hgr hat hltg => ?_)
  · rw [add_none, Nat.zero_add]
    refine (cell_of d2 y).trans ?_
    simpa using hv
  have HF : AdI (opsX xs K) w1 x3 (K + 1) (some ⟨g, 0, none⟩) gcap (upd ra K (some ⟨Q, 0, none⟩)) (upd rc K 3) := adI_put H' R1 (by rw [eK]; rfl) rfl (fun b hb => p2 b (by omega)) (by omega) hown hgr hat hltg
  clear d2 p2 hrow2 hown hgr hat hltg R1 H' hrow d1 p1 hlt eK s1
  walk_nrm
  repeat (first | refine Walk.c rfl ?_ | refine Walk.cRet ?_ | refine Walk.cEnd ?_ | (refine Walk.cReg ?_; simp only [size5_0, size5_1, size5_2, size5_3, size5_4, size5_5, size5_6, size5_7, size5_8, size5_9, size5_10, size5_11, size5_12, size5_13, size5_14, size5_15, size5_17, size5_18, size5_19, size5_20, size5_21, size5_22, size5_23, size5_24, size5_25, size5_26, size5_16, size5_27, size5_28, size5_29, size5_30, size5_31, size5_32, size5_33, size5_34, size5_35, List.range, List.range.loop]) | (refine Walk.oq ?_; try walk_nrm) | (refine Walk.un ?_; walk_nrm))
  refine Walk.make 22 (.tmp 40) (.tmp 40) (ho_of (by conv => lhs; whnf) (by kernel_rfl)) (by rfl) (by decide) rfl 2 _ (.int .i64 0) 1 8 (by kernel_rfl) hi2.symm (by rfl) (by rfl) (by rfl) m (by rfl) (by rfl) (by omega) (by omega) ?_
  walk_nrm
  have e1 : x3.alloc (.cells (madeCells (Value.int IntKind.i64 0).cells (m * 1)) 2) = x3.alloc (.cells (madeCells #[.int .i64 0] (m * 1)) 2) := rfl
  try rw [e1]
  clear e1
  have s4 : (x3.alloc (.cells (madeCells #[.int .i64 0] (m * 1)) 2)).heap.size = x3.heap.size + 1 := by simp
  have o4 : ∀ b, b < x3.heap.size → (x3.alloc (.cells (madeCells #[.int .i64 0] (m * 1)) 2)).heap[b]? = x3.heap[b]? := fun b hb => heap_new_lt _ _ hb
  have d4 := heap_alloc_new x3 (.cells (madeCells #[.int .i64 0] (m * 1)) 2)
  generalize x3.alloc (.cells (madeCells #[.int .i64 0] (m * 1)) 2) = x4 at *
  repeat (first | (refine Walk.oq ?_; try walk_nrm) | (refine Walk.un ?_; walk_nrm))
  refine Walk.callE (ho_of (by conv => lhs; whnf) (by kernel_rfl)) (by rfl) (by decide) rfl Try.func14 (by kernel_rfl) (by rfl) ?_
  walk_nrm
  refine .stop fun d => ⟨_, some ⟨g, 0, none⟩, gcap, _, _, x3, x4, rfl, HF, d4, o4, s4, ⟨d, rfl⟩, ?_⟩
  clear HF d4 o4 s4
  intro ab ao ac oa3 sa3 ln oc3 sn sc rb ro rc3 w3 hx0
  generalize hn : K + 1 = n at *
  have k0 : K < n := by omega
  have kn : n ≤ 64 := by omega
  clear hn
  have k1 : (K : Int) < n := by omega
  have k2 : (0 : Int) ≤ K := by omega
  have k3 : ((n : Int) != (n : Int)) = false := by simp
  have k4 : (((3 : Nat) : Int) != 3) = false := rfl
  unfold trC
  refine Walk.finish (ho_of (by conv => lhs; whnf) (by kernel_rfl)) ?_
  walk_nrm
  (refine Walk.oa ?_; try walk_nrm)
  have d1 := heap_alloc_new w3 zTr
  have p1 : ∀ b, b < w3.heap.size → (w3.alloc zTr).heap[b]? = w3.heap[b]? := fun b hb => heap_new_lt _ _ hb
  have s1 : (w3.alloc zTr).heap.size = w3.heap.size + 1 := by simp
  have e4 : w3.alloc (.cells #[.slice none 0 0, .slice none 0 0, .slice none 0 0, .bool false] 31) = w3.alloc zTr := rfl
  try rw [e4]
  clear e4
  generalize hQ3 : w3.heap.size = T at *
  generalize w3.alloc zTr = y1 at *
  unfold zTr at d1
  repeat (first | (refine Walk.oq ?_; try walk_nrm) | (refine Walk.un ?_; walk_nrm))
  refine Walk.storeS 31 (.tmp 11) (.tmp 44) (ho_of (by conv => lhs; whnf) (by kernel_rfl)) (by rfl) (by decide) rfl T #[.slice (some ⟨ab, ao, none⟩) n ac, .slice oa3 ln oc3, .slice sa3 sn sc, .bool false] _ 31 rfl rfl d1 (by kernel_rfl) (by rfl) (by simp [Value.oneCell']) (ap0 _) ?_
  have d2 := setRow_self (cells := #[.slice (some ⟨ab, ao, none⟩) n ac, .slice oa3 ln oc3, .slice sa3 sn sc, .bool false]) d1
  have p2 : ∀ b, b < T → (y1.setRow T #[.slice (some ⟨ab, ao, none⟩) n ac, .slice oa3 ln oc3, .slice sa3 sn sc, .bool false]).heap[b]? = w3.heap[b]? := fun b hb => (setRow_other _ _ (by omega)).trans (p1 b hb)
  have s2 := (setRow_size y1 T #[.slice (some ⟨ab, ao, none⟩) n ac, .slice oa3 ln oc3, .slice sa3 sn sc, .bool false]).trans s1
  clear d1 p1 s1
  generalize y1.setRow T #[.slice (some ⟨ab, ao, none⟩) n ac, .slice oa3 ln oc3, .slice sa3 sn sc, .bool false] = y2 at *
  have c0 : y2.cell? ⟨T, 0, none⟩ = some (.slice (some ⟨ab, ao, none⟩) n ac) := (cell_of d2 0).trans rfl
  have c3 : y2.cell? ⟨T, 3, none⟩ = some (.bool false) := (cell_of d2 3).trans rfl
  have cx : y2.cell? ⟨ab, ao + K, none⟩ = some (.slice (some ⟨rb, ro, none⟩) 3 rc3) := (World.cell?_of_block (a := ⟨ab, ao + K, none⟩) (p2 ab (hQ3 ▸ cell_lt' hx0))).trans hx0
  walk_nrm
  repeat (first | refine Walk.c rfl ?_ | refine Walk.cRet ?_ | refine Walk.cEnd ?_ | (refine Walk.cReg ?_; simp only [size5_0, size5_1, size5_2, size5_3, size5_4, size5_5, size5_6, size5_7, size5_8, size5_9, size5_10, size5_11, size5_12, size5_13, size5_14, size5_15, size5_17, size5_18, size5_19, size5_20, size5_21, size5_22, size5_23, size5_24, size5_25, size5_26, size5_16, size5_27, size5_28, size5_29, size5_30, size5_31, size5_32, size5_33, size5_34, size5_35, List.range, List.range.loop]) | (refine Walk.oq ?_; try walk_nrm) | (refine Walk.un ?_; walk_nrm))
  refine Walk.make 24 (.tmp 65) (.tmp 65) (ho_of (by conv => lhs; whnf) (by kernel_rfl)) (by rfl) (by decide) rfl 3 _ (.int .i64 0) 1 8 (by kernel_rfl) hi3.symm (by rfl) (by rfl) (by rfl) n (by rfl) (by rfl) (by omega) (by omega) ?_
  walk_nrm
  have e1 : y2.alloc (.cells (madeCells (Value.int IntKind.i64 0).cells (n * 1)) 3) = y2.alloc (.cells (madeCells #[.int .i64 0] (n * 1)) 3) := rfl
  try rw [e1]
  clear e1
  have s5 : (y2.alloc (.cells (madeCells #[.int .i64 0] (n * 1)) 3)).heap.size = T + 2 := by simp [s2]
  have o5 : ∀ b, b < T + 1 → (y2.alloc (.cells (madeCells #[.int .i64 0] (n * 1)) 3)).heap[b]? = y2.heap[b]? := fun b hb => heap_new_lt _ _ (by omega)
  have d5 : (y2.alloc (.cells (madeCells #[.int .i64 0] (n * 1)) 3)).heap[T + 1]? = some (.cells (madeCells #[.int .i64 0] (n * 1)) 3) := s2 ▸ heap_alloc_new y2 (.cells (madeCells #[.int .i64 0] (n * 1)) 3)
  try simp only [s2]
  generalize y2.alloc (.cells (madeCells #[.int .i64 0] (n * 1)) 3) = y3 at *
  have dT : y3.heap[T]? = some (.cells #[.slice (some ⟨ab, ao, none⟩) n ac, .slice oa3 ln oc3, .slice sa3 sn sc, .bool false] 31) := (o5 T (by omega)).trans d2
  have oT : ∀ b, b < T → y3.heap[b]? = w3.heap[b]? := fun b hb => (o5 b (by omega)).trans (p2 b hb)
  clear c0 c3 cx d2 p2 o5 hx0 s2
  repeat (first | refine Walk.c rfl ?_ | refine Walk.cRet ?_ | refine Walk.cEnd ?_ | (refine Walk.cReg ?_; simp only [size5_0, size5_1, size5_2, size5_3, size5_4, size5_5, size5_6, size5_7, size5_8, size5_9, size5_10, size5_11, size5_12, size5_13, size5_14, size5_15, size5_17, size5_18, size5_19, size5_20, size5_21, size5_22, size5_23, size5_24, size5_25, size5_26, size5_16, size5_27, size5_28, size5_29, size5_30, size5_31, size5_32, size5_33, size5_34, size5_35, List.range, List.range.loop]) | (refine Walk.oq ?_; try walk_nrm) | (refine Walk.un ?_; walk_nrm))
  refine Walk.ctl rfl (fun w => stepG_loop) ?_
  refine .stop fun d => ⟨y3, ⟨d, rfl⟩, at_slots ?_, s5, dT, d5, oT⟩
  simp only [hdBo]
  rfl
end Go.Proofs.Ytnnakajldnaldaa
