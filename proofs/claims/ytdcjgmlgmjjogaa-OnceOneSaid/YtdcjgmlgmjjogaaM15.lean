/- Part 15. -/
import Derived.Test.YtdcjgmlgmjjogaaM10
set_option linter.unusedSimpArgs false
set_option linter.unusedVariables false
set_option maxHeartbeats 8000000
set_option maxRecDepth 100000
namespace Go.Proofs.Ytdcjgmlgmjjogaa
open Go.Conc Go.RowKit Go.Relay
open Go.ConcN (upd upd_ne upd_same)
theorem undBoxI : Try.prog.underlying 85 = some (.pointer 138) := by kernel_rfl
theorem undLazyI : Try.prog.underlying 87 = some (.pointer 151) := by kernel_rfl
structure SeCells (X : Nat) (aa oa sa : Option Addr) (ac oc sc : Nat) (b o b0 o0 b1 o1 sb so : Nat) (tc0 tc1 : Nat) (w : World) : Prop where
  x : w.heap[X]? = some (.cells (trC (.slice (some ⟨b, o, none⟩) 2 ac) (.slice oa 5 oc) (.slice (some ⟨sb, so, none⟩) 3 sc) false) 29)
  a0 : w.cell? ⟨b, o, none⟩ = some (.slice (some ⟨b0, o0, none⟩) 1 tc0)
  a1 : w.cell? ⟨b, o + 1, none⟩ = some (.slice (some ⟨b1, o1, none⟩) 1 tc1)
  k0 : w.cell? ⟨b0, o0, none⟩ = some (.bool true)
  v0 : w.cell? ⟨b0, o0 + 1, none⟩ = some (.int .i64 7)
  k1 : w.cell? ⟨b1, o1, none⟩ = some (.bool false)
  v1 : w.cell? ⟨b1, o1 + 1, none⟩ = some (.int .i64 0)
  s0 : w.cell? ⟨sb, so, none⟩ = some (.int .i64 2)
  s1 : w.cell? ⟨sb, so + 1, none⟩ = some (.int .i64 7)
theorem SeCells.old {X : Nat} {aa oa sa : Option Addr} {ac oc sc : Nat} {b o b0 o0 b1 o1 sb so : Nat} {tc0 tc1 : Nat} {w w' : World} (H : SeCells X aa oa sa ac oc sc b o b0 o0 b1 o1 sb so tc0 tc1 w) (h : ∀ b, b < w.heap.size → w'.heap[b]? = w.heap[b]?) : SeCells X aa oa sa ac oc sc b o b0 o0 b1 o1 sb so tc0 tc1 w' := by
  have hc : ∀ {b j : Nat} {v : Value}, w.cell? ⟨b, j, none⟩ = some v → w'.cell? ⟨b, j, none⟩ = some v := fun {b j v} e => (World.cell?_of_block (a := ⟨b, j, none⟩) (h b (cell_lt' e))).trans e
  exact ⟨(h X (Array.getElem?_eq_some_iff.1 H.x).1).trans H.x, hc H.a0, hc H.a1, hc H.k0, hc H.v0, hc H.k1, hc H.v1, hc H.s0, hc H.s1⟩
noncomputable def reg9_0 : Array Oper := match Try.f9.body with | some (.seq (.region _ ops _) _) => ops | _ => #[]
theorem size9_0 : reg9_0.size = 1 := by kernel_rfl
noncomputable def reg9_1 : Array Oper := match Try.f9.body with | some (.seq _ (.seq (.region _ ops _) _)) => ops | _ => #[]
theorem size9_1 : reg9_1.size = 9 := by kernel_rfl
noncomputable def reg9_2 : Array Oper := match Try.f9.body with | some (.seq _ (.seq _ (.seq (.seq (.region _ ops _) _) _))) => ops | _ => #[]
theorem size9_2 : reg9_2.size = 44 := by kernel_rfl
noncomputable def reg9_3 : Array Oper := match Try.f9.body with | some (.seq _ (.seq _ (.seq (.seq _ (.cond _ (.seq (.region _ ops _) _) _)) _))) => ops | _ => #[]
theorem size9_3 : reg9_3.size = 1 := by kernel_rfl
noncomputable def reg9_4 : Array Oper := match Try.f9.body with | some (.seq _ (.seq _ (.seq _ (.seq (.region _ ops _) _)))) => ops | _ => #[]
theorem size9_4 : reg9_4.size = 57 := by kernel_rfl
theorem code9_is : Try.f9.body = some (.seq (.region 0 reg9_0 false) (.seq (.region 1 reg9_1 false) (.seq (.seq (.region 2 reg9_2 false) (.cond (.tmp 52 ) (.seq (.region 3 reg9_3 false) (.ret)) (.skip))) (.seq (.region 4 reg9_4 false) (.ret))))) := by kernel_rfl
def SeBack (fr c : Frame) (cs : List Frame) : Prop := ∀ (cells : Array Value) (F : Nat → List Ans) (ord : List Nat) (w : World), TrA cells 2 F ord [2, 7, 0] false w → F 0 = [(true, 7)] → F 1 = [(false, 0)] → ord.length = 5 →
  Walk Try.prog true (DR (fun _ => none)) (fun g w' => g = G (c.finish (.bool true)) cs ∧ (∀ b, b < w.heap.size → w'.heap[b]? = w.heap[b]?) ∧ w.heap.size ≤ w'.heap.size) (G (fr.finish (.agg cells)) (c :: cs)) w
theorem sets_in (c : Frame) (cs : List Frame) (w : World) :
    Walk Try.prog true (DR (fun _ => none)) (fun g w' => ∃ fr, g = G (Frame.enter Try.prog 11 #[.int .i64 1, .slice (some ⟨w.heap.size + 2, 0, none⟩) 2 2, .slice (some ⟨w.heap.size + 3, 0, none⟩) seSl.length 5, .int .i64 100] .normal) (fr :: c :: cs) ∧ (∀ b, b < w.heap.size → w'.heap[b]? = w.heap[b]?) ∧ w.heap.size ≤ w'.heap.size ∧
        OpsIn (w.heap.size + 2) 0 2 (seOa w.heap.size) (fun _ => 1) (fun _ => 1) seOps w' ∧ (∀ (j : Nat) (z : Int), seSl[j]? = some z → w'.cell? ⟨w.heap.size + 3, 0 + j, none⟩ = some (.int .i64 z)) ∧ SeBack fr c cs)
      (G (Frame.enter Try.prog 9 #[] .normal) (c :: cs)) w := by
  have hA : ∀ b, Apart (fun _ => none) b := fun b => ⟨fun _ _ _ _ h => (by cases h), fun _ _ h => (by cases h)⟩
  rw [enter_at _ Try.func9 code9_is]
  simp only [Try.ntmps9, List.size_toArray, List.length_cons, List.length_nil, Nat.reduceAdd, Nat.reduceSub, Array.replicate_succ, Array.replicate_zero, List.push_toArray, List.append_toArray, List.nil_append, List.cons_append]
  repeat (first | refine Walk.c rfl ?_ | refine Walk.cRet ?_ | refine Walk.cEnd ?_ | (refine Walk.cReg ?_; simp only [size9_0, size9_1, size9_2, size9_3, size9_4, List.range, List.range.loop]) | (refine Walk.oq ?_; try walk_nrm) | (refine Walk.un ?_; walk_nrm))
  (refine Walk.oa ?_; try walk_nrm)
  have s1 : (w.alloc (.cells seA 34)).heap.size = w.heap.size + 1 := by simp
  have o1 : ∀ b, b < w.heap.size → (w.alloc (.cells seA 34)).heap[b]? = w.heap[b]? := fun b hb => heap_new_lt _ _ hb
  have d1 := heap_alloc_new w (.cells seA 34)
  generalize hT : w.heap.size = T at *
  change Walk Try.prog true _ _ _ (w.alloc (.cells seA 34))
  generalize w.alloc (.cells seA 34) = x1 at *
  repeat (first | refine Walk.c rfl ?_ | refine Walk.cRet ?_ | refine Walk.cEnd ?_ | (refine Walk.cReg ?_; simp only [size9_0, size9_1, size9_2, size9_3, size9_4, List.range, List.range.loop]) | (refine Walk.oq ?_; try walk_nrm) | (refine Walk.un ?_; walk_nrm))
  (refine Walk.oa ?_; try walk_nrm)
  have s2 : (x1.alloc (.cells seB 34)).heap.size = T + 2 := by simp [s1]
  have o2 : ∀ b, b < T + 1 → (x1.alloc (.cells seB 34)).heap[b]? = x1.heap[b]? := fun b hb => heap_new_lt _ _ (by omega)
  have d2 : (x1.alloc (.cells seB 34)).heap[T + 1]? = some (.cells seB 34) := s1 ▸ heap_alloc_new x1 (.cells seB 34)
  try simp only [s1]
  change Walk Try.prog true _ _ _ (x1.alloc (.cells seB 34))
  generalize x1.alloc (.cells seB 34) = x2 at *
  repeat (first | refine Walk.c rfl ?_ | refine Walk.cRet ?_ | refine Walk.cEnd ?_ | (refine Walk.cReg ?_; simp only [size9_0, size9_1, size9_2, size9_3, size9_4, List.range, List.range.loop]) | (refine Walk.oq ?_; try walk_nrm) | (refine Walk.un ?_; walk_nrm))
  (refine Walk.oa ?_; try walk_nrm)
  have s3 : (x2.alloc (.cells (seH T) 32)).heap.size = T + 3 := by simp [s2]
  have o3 : ∀ b, b < T + 2 → (x2.alloc (.cells (seH T) 32)).heap[b]? = x2.heap[b]? := fun b hb => heap_new_lt _ _ (by omega)
  have d3 : (x2.alloc (.cells (seH T) 32)).heap[T + 2]? = some (.cells (seH T) 32) := s2 ▸ heap_alloc_new x2 (.cells (seH T) 32)
  try simp only [s2]
  change Walk Try.prog true _ _ _ (x2.alloc (.cells (seH T) 32))
  generalize x2.alloc (.cells (seH T) 32) = x3 at *
  repeat (first | refine Walk.c rfl ?_ | refine Walk.cRet ?_ | refine Walk.cEnd ?_ | (refine Walk.cReg ?_; simp only [size9_0, size9_1, size9_2, size9_3, size9_4, List.range, List.range.loop]) | (refine Walk.oq ?_; try walk_nrm) | (refine Walk.un ?_; walk_nrm))
  (refine Walk.oa ?_; try walk_nrm)
  have s4 : (x3.alloc (.cells seS 3)).heap.size = T + 4 := by simp [s3]
  have o4 : ∀ b, b < T + 3 → (x3.alloc (.cells seS 3)).heap[b]? = x3.heap[b]? := fun b hb => heap_new_lt _ _ (by omega)
  have d4 : (x3.alloc (.cells seS 3)).heap[T + 3]? = some (.cells seS 3) := s3 ▸ heap_alloc_new x3 (.cells seS 3)
  try simp only [s3]
  change Walk Try.prog true _ _ _ (x3.alloc (.cells seS 3))
  generalize x3.alloc (.cells seS 3) = x4 at *
  repeat (first | refine Walk.c rfl ?_ | refine Walk.cRet ?_ | refine Walk.cEnd ?_ | (refine Walk.cReg ?_; simp only [size9_0, size9_1, size9_2, size9_3, size9_4, List.range, List.range.loop]) | (refine Walk.oq ?_; try walk_nrm) | (refine Walk.un ?_; walk_nrm))
  refine Walk.callE (ho_of (by conv => lhs; whnf) (by kernel_rfl)) (by rfl) (by decide) rfl Try.func11 (by kernel_rfl) (by rfl) ?_
  walk_nrm
  refine .stop fun d => ⟨_, rfl, fun b hb => ?_, ?_, se_ops ?_ ?_ ?_, fun j z hz => ?_, ?_⟩
  · exact (o4 b (by omega)).trans ((o3 b (by omega)).trans ((o2 b (by omega)).trans (o1 b (by omega))))
  · show T ≤ x4.heap.size
    omega
  · exact (o4 _ (by omega)).trans ((o3 _ (by omega)).trans ((o2 _ (by omega)).trans d1))
  · exact (o4 _ (by omega)).trans ((o3 _ (by omega)).trans d2)
  · exact (o4 _ (by omega)).trans d3
  · rw [Nat.zero_add]
    refine (cell_of (w := x4) d4 j).trans ?_
    have h : (seSl.map (Value.int .i64))[j]? = some (.int .i64 z) := by rw [List.getElem?_map, hz]; rfl
    simpa [seS, seSl] using h
  · intro cells F ord w6 hTr hF0 hF1 hord
    obtain ⟨aa, ac, oa, oc, sa, sc, rfl, n1, n2, n3⟩ := hTr.all
    obtain ⟨b, o, ta0, tc0, rfl, a0, A0⟩ := n3 0 (by decide)
    obtain ⟨b', o', ta1, tc1, e, a1, A1⟩ := n3 1 (by decide)
    cases e
    rw [hF0] at a0 A0
    rw [hF1] at a1 A1
    rw [hord]
    obtain ⟨b0, o0, rfl, k0, v0, _⟩ := A0 0 _ rfl
    obtain ⟨b1, o1', rfl, k1, v1, _⟩ := A1 0 _ rfl
    obtain ⟨sb, so, rfl, t0⟩ := n2 0 _ rfl
    obtain ⟨sb', so', e, t1⟩ := n2 1 _ rfl
    cases e
    simp only [Nat.zero_mul, Nat.add_zero, List.length_cons, List.length_nil, Nat.zero_add] at a0 a1 k0 v0 k1 v1 t0 t1
    simp only [List.length_cons, List.length_nil, Nat.zero_add, Nat.reduceAdd, trC]
    refine Walk.finish (ho_of (by conv => lhs; whnf) (by kernel_rfl)) ?_
    walk_nrm
    (refine Walk.oa ?_; try walk_nrm)
    have s7 : (w6.alloc (.cells #[.slice none 0 0, .slice none 0 0, .slice none 0 0, .bool false] 29)).heap.size = w6.heap.size + 1 := by simp
    have o7 : ∀ b, b < w6.heap.size → (w6.alloc (.cells #[.slice none 0 0, .slice none 0 0, .slice none 0 0, .bool false] 29)).heap[b]? = w6.heap[b]? := fun b hb => heap_new_lt _ _ hb
    have d7 := heap_alloc_new w6 (.cells #[.slice none 0 0, .slice none 0 0, .slice none 0 0, .bool false] 29)
    have hc6 : ∀ {b j : Nat} {v : Value}, w6.cell? ⟨b, j, none⟩ = some v → b < w6.heap.size := fun h => cell_lt' h
    have l1 := hc6 a0
    have l2 := hc6 k0
    have l3 := hc6 k1
    have l4 := hc6 t0
    clear hc6
    generalize hT1 : w6.heap.size = T1 at *
    generalize w6.alloc (.cells #[.slice none 0 0, .slice none 0 0, .slice none 0 0, .bool false] 29) = w7 at *
    refine Walk.storeS 29 (.tmp 1) (.tmp 8) (ho_of (by conv => lhs; whnf) (by kernel_rfl)) (by rfl) (by decide) rfl T1 #[.slice (some ⟨b, o, none⟩) 2 ac, .slice oa 5 oc, .slice (some ⟨sb, so, none⟩) 3 sc, .bool false] _ 29 rfl rfl d7 (by kernel_rfl) (by rfl) (by simp [Value.oneCell']) (hA _) ?_
    have d8 := setRow_self (cells := #[.slice (some ⟨b, o, none⟩) 2 ac, .slice oa 5 oc, .slice (some ⟨sb, so, none⟩) 3 sc, .bool false]) d7
    have o8 : ∀ x, x < T1 → (w7.setRow T1 #[.slice (some ⟨b, o, none⟩) 2 ac, .slice oa 5 oc, .slice (some ⟨sb, so, none⟩) 3 sc, .bool false]).heap[x]? = w6.heap[x]? := fun x hx => (setRow_other _ _ (by omega)).trans (o7 x hx)
    have s8 := setRow_size w7 T1 #[.slice (some ⟨b, o, none⟩) 2 ac, .slice oa 5 oc, .slice (some ⟨sb, so, none⟩) 3 sc, .bool false]
    rw [s7] at s8
    replace s8 := Nat.le_of_eq s8.symm
    generalize w7.setRow T1 #[.slice (some ⟨b, o, none⟩) 2 ac, .slice oa 5 oc, .slice (some ⟨sb, so, none⟩) 3 sc, .bool false] = w8 at *
    have hc8 : ∀ {x j : Nat} {v : Value}, x < T1 → w6.cell? ⟨x, j, none⟩ = some v → w8.cell? ⟨x, j, none⟩ = some v := fun {x j v} hx h => (World.cell?_of_block (a := ⟨x, j, none⟩) (o8 x hx)).trans h
    have C8 : SeCells T1 none oa none ac oc sc b o b0 o0 b1 o1' sb so tc0 tc1 w8 := ⟨d8, hc8 l1 a0, hc8 l1 a1, hc8 l2 k0, hc8 l2 v0, hc8 l3 k1, hc8 l3 v1, hc8 l4 t0, hc8 l4 t1⟩
    clear n1 n2 n3 A0 A1 a0 a1 k0 v0 k1 v1 t0 t1 d1 d2 d3 d4 d7 d8 hTr s1 s2 s3 s4 s7 hT hA hc8
    have x0 : w8.cell? ⟨T1, 0, none⟩ = some (.slice (some ⟨b, o, none⟩) 2 ac) := (cell_of C8.x 0).trans rfl
    have x1' : w8.cell? ⟨T1, 1, none⟩ = some (.slice oa 5 oc) := (cell_of C8.x 1).trans rfl
    have x2' : w8.cell? ⟨T1, 2, none⟩ = some (.slice (some ⟨sb, so, none⟩) 3 sc) := (cell_of C8.x 2).trans rfl
    have a0 := C8.a0
    have a1 := C8.a1
    walk_nrm
    repeat (first | refine Walk.c rfl ?_ | refine Walk.cRet ?_ | refine Walk.cEnd ?_ | (refine Walk.cReg ?_; simp only [size9_0, size9_1, size9_2, size9_3, size9_4, List.range, List.range.loop]) | (refine Walk.oq ?_; try walk_nrm) | (refine Walk.un ?_; walk_nrm))
    refine Walk.callW (Post := NewOut w8) ?_ (ho_of (by conv => lhs; whnf) (by kernel_rfl)) (by rfl) (by decide) rfl Try.func13 (by kernel_rfl) (by rfl) ?_
    · walk_nrm
      exact once_new w8
    rintro v w9 ⟨rfl, O9, Z9⟩
    clear x0 x1' x2' a0 a1
    have hp1 := fun w => run_eql_ptr (P := Try.prog) 35 undOnce (some ⟨w8.heap.size, 0, none⟩) w
    have hp2 := fun w es => ev_eql_ptr (P := Try.prog) 35 undOnce (some ⟨w8.heap.size, 0, none⟩) w es
    simp only [Option.isNone_some] at hp1
    walk_nrm
    repeat (first | refine Walk.c rfl ?_ | refine Walk.cRet ?_ | refine Walk.cEnd ?_ | (refine Walk.cReg ?_; simp only [size9_0, size9_1, size9_2, size9_3, size9_4, List.range, List.range.loop]) | (refine Walk.oq ?_; try walk_nrm) | (refine Walk.un ?_; walk_nrm))
    refine Walk.callW (Post := NewOut w9) ?_ (ho_of (by conv => lhs; whnf) (by kernel_rfl)) (by rfl) (by decide) rfl Try.func25 (by kernel_rfl) (by rfl) ?_
    · walk_nrm
      exact once_box w9
    rintro v w10 ⟨rfl, O10, Z10⟩
    clear hp1 hp2
    have hp1 := fun w => run_eql_ptr (P := Try.prog) 85 undBoxI (some ⟨w9.heap.size, 0, none⟩) w
    have hp2 := fun w es => ev_eql_ptr (P := Try.prog) 85 undBoxI (some ⟨w9.heap.size, 0, none⟩) w es
    simp only [Option.isNone_some] at hp1
    walk_nrm
    repeat (first | refine Walk.c rfl ?_ | refine Walk.cRet ?_ | refine Walk.cEnd ?_ | (refine Walk.cReg ?_; simp only [size9_0, size9_1, size9_2, size9_3, size9_4, List.range, List.range.loop]) | (refine Walk.oq ?_; try walk_nrm) | (refine Walk.un ?_; walk_nrm))
    refine Walk.callW (Post := NewOut w10) ?_ (ho_of (by conv => lhs; whnf) (by kernel_rfl)) (by rfl) (by decide) rfl Try.func26 (by kernel_rfl) (by rfl) ?_
    · walk_nrm
      exact once_lazy w10
    rintro v w11 ⟨rfl, O11, Z11⟩
    clear hp1 hp2
    have hp1 := fun w => run_eql_ptr (P := Try.prog) 87 undLazyI (some ⟨w10.heap.size, 0, none⟩) w
    have hp2 := fun w es => ev_eql_ptr (P := Try.prog) 87 undLazyI (some ⟨w10.heap.size, 0, none⟩) w es
    simp only [Option.isNone_some] at hp1
    have O : ∀ x, x < w8.heap.size → w11.heap[x]? = w8.heap[x]? := fun x hx => (O11 x (by omega)).trans ((O10 x (by omega)).trans (O9 x hx))
    have C := C8.old O
    have O' : ∀ x, x < T1 → w11.heap[x]? = w6.heap[x]? := fun x hx => (O x (by omega)).trans (o8 x hx)
    have Z : T1 ≤ w11.heap.size := by omega
    clear C8 O9 O10 O11 o8 O
    have x0 : w11.cell? ⟨T1, 0, none⟩ = some (.slice (some ⟨b, o, none⟩) 2 ac) := (cell_of C.x 0).trans rfl
    have x2' : w11.cell? ⟨T1, 2, none⟩ = some (.slice (some ⟨sb, so, none⟩) 3 sc) := (cell_of C.x 2).trans rfl
    have x3' : w11.cell? ⟨T1, 3, none⟩ = some (.bool false) := (cell_of C.x 3).trans rfl
    obtain ⟨_, a0, a1, k0, v0, k1, v1, t0, t1⟩ := C
    walk_nrm
    repeat (first | refine Walk.c rfl ?_ | refine Walk.cRet ?_ | refine Walk.cEnd ?_ | (refine Walk.cReg ?_; simp only [size9_0, size9_1, size9_2, size9_3, size9_4, List.range, List.range.loop]) | (refine Walk.oq ?_; try walk_nrm) | (refine Walk.un ?_; walk_nrm))
    refine Walk.on1 rfl rfl Try.func9 rfl (.stop fun d => ⟨rfl, O', Z⟩)
end Go.Proofs.Ytdcjgmlgmjjogaa
