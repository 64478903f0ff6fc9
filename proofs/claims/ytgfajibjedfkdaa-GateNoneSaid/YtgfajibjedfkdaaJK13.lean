/- Part 13. -/
import Derived.Test.YtgfajibjedfkdaaJK3
import Derived.Test.YtgfajibjedfkdaaJK4
import Derived.Test.YtgfajibjedfkdaaJK12
set_option linter.unusedSimpArgs false
set_option linter.unusedVariables false
set_option linter.unusedVariables false
set_option maxHeartbeats 8000000
set_option maxRecDepth 100000
namespace Go.Proofs.Ytgfajibjedfkdaa
open Go.Conc Go.RowKit Go.Relay
open Go.ConcN (upd upd_ne upd_same)
section
structure DoFn (L : La) (fdo : FuncId) (first cap : Array Value) : Prop where
  fn : ∃ fn, Try.prog.funcs[fdo]? = some fn ∧ (fn.name == "runtime.NumGoroutine") = false ∧ fn.body.isNone = false
  ok : DoOK L fdo first cap
def OThr (L : La) (g : OG) (S : Stile) (fdo : FuncId) (first cap : Array Value) : Prop := ∀ i, i < g.n → ∃ pO pA pI pD acap oa oc, ThS L g i pO pA pI pD acap oa oc (.func (.func fdo) first cap) ∧
  S.F i = .func (.func 109) #[] #[.pointer (some ⟨pO, 0, none⟩), .pointer (some ⟨pA, 0, none⟩), .pointer (some ⟨pI, 0, none⟩), .pointer (some ⟨pD, 0, none⟩)]
def inv2 (L : La) (g : OG) (S : Stile) (yb : L.Gh) (fdo : FuncId) (first cap : Array Value) (k : Nat) (o : Nat → Option Role) (x : OX L) (cs : Nat → List Frame) (w : World) : Prop := OThr L g S fdo first cap ∧ invO L g S yb k o x cs w
section
variable {L : La} {g : OG} {S : Stile} {fdo : FuncId} {first cap : Array Value} {k : Nat} {o o' : Nat → Option Role} {x : OX L} {cs : Nat → List Frame} {w w' : World} {yb : L.Gh}
theorem fin2 (hT : OThr L g S fdo first cap) {k' i : Nat} {x' : OX L} {f : Frame} {fs : List Frame} {g' : Goroutine} (h : Fin (invO L g S yb) OX.out S k' o x' cs i f fs w g' w') : Fin (inv2 L g S yb fdo first cap) OX.out S k' o x' cs i f fs w g' w' := by
  obtain ⟨h1, h2, l, h3, h4⟩ := h
  exact ⟨h1, h2, l, ⟨hT, h3⟩, h4⟩
theorem startO (hD : DoFn L fdo first cap) {V : Nat → Option Wait} (f : Frame) (fs : List Frame) (h : inv2 L g S yb fdo first cap k o x cs w) (hk : k < S.n) (_hc : x.cnt < 1048576) (hA : ∀ b, o b = none → Apart V b) (hlt : ∀ b r, o b = some r → b < w.heap.size) :
    ∃ fi fn first' cap', S.F k = .func (.func fi) first' cap' ∧ Try.prog.funcs[fi]? = some fn ∧ (fn.name == "runtime.NumGoroutine") = false ∧ fn.body.isNone = false ∧
      Walk Try.prog false (DR V) (Fin (inv2 L g S yb fdo first cap) OX.out S (k + 1) o (bornO g.ops x k) cs k f fs w) (G (Frame.enter Try.prog fi (first' ++ #[.iface 230 (.pointer (some ⟨S.p k, 0, none⟩))] ++ cap') .normal) (f :: fs)) w := by
  obtain ⟨hT, pr, hd, y, hy, P⟩ := h
  have hi : k < g.n := P.st.n ▸ hk
  obtain ⟨pO, pA, pI, pD, acap, oa, oc, T, hF⟩ := hT k hi
  obtain ⟨fn, q1, q2, q3⟩ := hD.fn
  have hth := P.fresh k (Nat.le_refl _) hi
  have hrow := P.row k hi
  rw [hth] at hrow
  refine ⟨109, Try.f109, _, _, hF, Try.func109, by decide, by rfl, ?_⟩
  have hAn : AnT g k w w (hd k) := by
    obtain ⟨arr, ha, hz, hr⟩ := P.an
    exact ⟨arr, arr, ha, ha, rfl, hr k hi, fun _ _ => rfl⟩
  have key := enter68 (S := S) T q1 q2 q3 hD.ok { τ := ⟨V, f, fs, w, y, fun b => pr b = some k, settleO L (k : Nat) x.s (g.ops k) []⟩, N := 1048577 - x.cnt, w := w, y := y, s := x.s, ans := [], hd := hd k, le := L.refl _, size := Nat.le_refl _, frame := fun _ _ _ _ _ => rfl, pub := fun b h => .inl h, rely := ⟨hd k, P.rely hi hA hlt⟩, an := hAn, row := hrow.imp fun b hb => ⟨.inl hb, (P.prl b k hb).2.2.2⟩, inv := P.I } rfl rfl
  unfold EW at key
  refine Walk.mono ?_ fun g' w' hS => fin2 hT (fin_of_stop (V := V) (cnt' := x.cnt) hy P hi (Nat.lt_succ_self _) (fun j h1 h2 => by omega) (Nat.le_succ _) hi (Nat.le_refl _) hlt hS)
  exact key
theorem inv2_keep (h : inv2 L g S yb fdo first cap k o x cs w) (K : Keeps o o' w w') : inv2 L g S yb fdo first cap k o' x cs w' := ⟨h.1, invO_keep h.2 K⟩
noncomputable def crewO (L : La) (g : OG) (yb : L.Gh) {fdo : FuncId} {first cap : Array Value} (hD : DoFn L fdo first cap) (S : Stile) : Crew S (OX L) where
  inv := inv2 L g S yb fdo first cap
  born := bornO g.ops
  next := nextO
  out := OX.out
  cnt := OX.cnt
  cntBorn := fun _ _ => rfl
  cntNext := fun x i => by unfold nextO; cases (x.th i).d <;> rfl
  keep := inv2_keep
  bornOut := fun x i j h => upd_ne _ _ h
  nextOut := fun x i j h => by
    unfold nextO
    cases (x.th i).d with
    | none => rfl
    | some d => exact upd_ne _ _ h
  shape := fun {k o x cs w i} h hik hout => invO_shape h.2 hik hout
  thr := fun {k o x cs w i} h _ hi => invO_thr h.2 hi
  sch := fun {k o x cs w j z} h hz => invO_sch h.2 hz
  start := fun f fs h hk hc hA hlt => .inl (startO hD f fs h hk hc hA hlt)
  go := fun f fs h hik hout hcs hc hA hlt => (goO f fs h.2 hik hout hcs hc hA hlt).mono fun _ _ hF => fin2 h.1 hF
end
end
section
variable {main : Bool} {V : Nat → Option Wait}
section
variable {P : Program} {t e : TypeId} {ti : TypeInfo}
theorem run_sl_of (hu : P.underlying t = some (.slice e)) (hi : P.info? e = some ti) (tb m cap x : Nat) (hx : x ≤ cap) (w : World) (es : Array Event) : (Instr.sliceAt t (.slice (some ⟨tb, 0, none⟩) m cap) none (some (.int .i64 x)) none).run P w = .ok (.slice (some ⟨tb, 0, none⟩) x cap) w ∧
    (Instr.sliceAt t (.slice (some ⟨tb, 0, none⟩) m cap) none (some (.int .i64 x)) none).events P w es = es := by
  have h1 : (x : Int) ≤ cap := by omega
  constructor <;> simp [Instr.sliceAt, Instr.slice, run_underlying hu, Instr.sliceBounds, Instr.sliceBound, asIntOf, sizeOf, typeInfo, hi, h1, hx, Addr.add]
end
theorem hu53 : Try.prog.underlying 159 = some (.slice 153) := by kernel_rfl
theorem first_some (tb m tcap : Nat) (w : World) (hm : m ≤ tcap) : CallV Try.prog main V 111 #[.slice (some ⟨tb, 0, none⟩) m tcap] w (.slice (some ⟨tb, 0, none⟩) (min m 64) tcap) w := by
  refine callW_in Try.func111 rfl fun fr cs => ?_
  simp only [Try.ntmps111, ez, Nat.reduceAdd, Nat.reduceSub]
  have hmn := @events_min_ints Try.prog
  repeat (first | refine Walk.cx ?_ | refine Walk.cR ?_ | (refine Walk.oq ?_; try walk_nrm) | (refine Walk.un ?_; walk_nrm))
  have hmin : min (m : Int) 64 = ((min m 64 : Nat) : Int) := by omega
  rw [hmin]
  have hxl : min m 64 ≤ tcap := by omega
  generalize min m 64 = x at hxl ⊢
  have hi := Option.some_get (show (Try.prog.info? 153).isSome = true by kernel_rfl)
  have hs := fun w => (run_sl_of hu53 hi.symm tb m tcap x hxl w #[]).1
  have hse := fun w es => (run_sl_of hu53 hi.symm tb m tcap x hxl w es).2
  clear hi
  repeat (first | refine Walk.cx ?_ | refine Walk.cR ?_ | (refine Walk.oq ?_; try walk_nrm) | (refine Walk.un ?_; walk_nrm))
  exact Walk.ret1 rfl rfl Try.func111 rfl fun d => ⟨by simp, d, rfl⟩
end
section
noncomputable def reg80_0 := rg Try.f80.body [0]
noncomputable def reg80_1 := rg Try.f80.body [1, 0]
noncomputable def reg80_2 := rg Try.f80.body [1, 1, 0]
noncomputable def reg80_3 := rg Try.f80.body [1, 1, 1, 0]
noncomputable def reg80_4 := rg Try.f80.body [1, 1, 1, 1, 0, 0]
noncomputable def reg80_5 := rg Try.f80.body [1, 1, 1, 1, 0, 1, 0, 0, 0]
noncomputable def reg80_6 := rg Try.f80.body [1, 1, 1, 1, 0, 1, 0, 0, 1, 1, 0, 0, 0]
noncomputable def reg80_7 := rg Try.f80.body [1, 1, 1, 1, 0, 1, 0, 0, 1, 1, 0, 0, 1, 0]
noncomputable def reg80_8 := rg Try.f80.body [1, 1, 1, 1, 0, 1, 0, 0, 1, 1, 0, 0, 1, 1]
noncomputable def reg80_9 := rg Try.f80.body [1, 1, 1, 1, 0, 1, 0, 0, 1, 1, 1]
noncomputable def reg80_10 := rg Try.f80.body [1, 1, 1, 1, 1, 0]
theorem size80_10 : reg80_10.size = 4 := by kernel_rfl
theorem z80 : List.range reg80_0.size = [0, 1, 2] ∧ List.range reg80_1.size = [0, 1, 2] ∧ List.range reg80_2.size = [0, 1, 2, 3, 4] ∧ List.range reg80_3.size = [0, 1, 2, 3] ∧ List.range reg80_4.size = [0, 1, 2] ∧ List.range reg80_5.size = [0] ∧ List.range reg80_6.size = [0, 1, 2, 3, 4, 5, 6] ∧ List.range reg80_7.size = [0, 1, 2, 3, 4, 5] ∧ List.range reg80_8.size = [0, 1, 2, 3, 4] ∧ List.range reg80_9.size = [0, 1] ∧ List.range reg80_10.size = [0, 1, 2, 3] := by refine ⟨?_, ?_, ?_, ?_, ?_, ?_, ?_, ?_, ?_, ?_, ?_⟩ <;> kernel_rfl
theorem code80_is : Try.f80.body = some (.seq (.region 0 reg80_0 false) (.seq (.region 1 reg80_1 false) (.seq (.region 2 reg80_2 false) (.seq (.region 3 reg80_3 false) (.seq (.seq (.region 4 reg80_4 false) (.block 0 (.loop (.seq (.region 5 reg80_5 false) (.seq (.cond (.tmp 21 ) (.skip) (.exit 0)) (.seq (.block 1 (.seq (.region 6 reg80_6 false) (.seq (.region 7 reg80_7 false) (.region 8 reg80_8 false)))) (.region 9 reg80_9 false))))))) (.seq (.region 10 reg80_10 true) (.ret))))))) := by kernel_rfl
def thrO (N i : Nat) : Value := .func (.func 109) #[] #[.pointer (some ⟨N + 5 + 2 * i, 0, none⟩), .pointer (some ⟨N + 2, 0, none⟩), .pointer (some ⟨N + 4 + 2 * i, 0, none⟩), .pointer (some ⟨N, 0, none⟩)]
structure MkO (N n : Nat) (dv : Value) (oa : Nat → Option Addr) (ln oc : Nat → Nat) (w0 w : World) (i : Nat) : Prop where
  size : w.heap.size = N + 4 + 2 * i
  old : ∀ b, b < N → w.heap[b]? = w0.heap[b]?
  cD : w.heap[N]? = some (.cells #[dv] 119)
  cN : w.heap[N + 1]? = some (.cells (madeCells #[.slice none 0 0] n) 79)
  cA : w.heap[N + 2]? = some (.cells #[.slice (some ⟨N + 1, 0, none⟩) n n] 61)
  cF : ∃ arr : Array Value, w.heap[N + 3]? = some (.cells arr 153) ∧ arr.size = n ∧ ∀ j, j < i → arr[j]? = some (thrO N j)
  cI : ∀ j, j < i → w.heap[N + 4 + 2 * j]? = some (.cells #[.int .i64 (j : Nat)] 3)
  cO : ∀ j, j < i → w.heap[N + 5 + 2 * j]? = some (.cells #[.slice (oa j) (min (ln j) 65536) (oc j)] 73)
theorem MkO.at {N n : Nat} {dv : Value} {oa : Nat → Option Addr} {ln oc : Nat → Nat} {w0 w : World} {i : Nat} (h : MkO N n dv oa ln oc w0 w i) (d : Nat) : MkO N n dv oa ln oc w0 (w.at d) i := ⟨h.size, h.old, h.cD, h.cN, h.cA, h.cF, h.cI, h.cO⟩
section
variable {P : Program} {t e : TypeId} {ti : TypeInfo}
theorem run_slx (hu : P.underlying t = some (.slice e)) (hi : P.info? e = some ti) (a : Option Addr) (m cap x : Nat) (hx : x ≤ cap) (ha : a = none ∧ cap = 0 ∨ ∃ p, a = some p) (w : World) (es : Array Event) : (Instr.sliceAt t (.slice a m cap) none (some (.int .i64 x)) none).run P w = .ok (.slice a x cap) w ∧
    (Instr.sliceAt t (.slice a m cap) none (some (.int .i64 x)) none).events P w es = es := by
  have h1 : (x : Int) ≤ cap := by omega
  rcases ha with ⟨rfl, rfl⟩ | ⟨p, rfl⟩
  · have : x = 0 := by omega
    subst this
    constructor <;> simp [Instr.sliceAt, Instr.slice, run_underlying hu, Instr.sliceBounds, Instr.sliceBound, asIntOf, sizeOf, typeInfo, hi]
  · constructor <;> simp [Instr.sliceAt, Instr.slice, run_underlying hu, Instr.sliceBounds, Instr.sliceBound, asIntOf, sizeOf, typeInfo, hi, h1, hx, Addr.add]
end
theorem huOps : Try.prog.underlying 73 = some (.slice 84) := by kernel_rfl
noncomputable def hd46 (dv : Value) (ta : Option Addr) (tc N n j : Nat) (u : Nat → Value) : Frame :=
  (base 80).at { tmps := #[.slice ta n tc, dv, u 2, .pointer (some ⟨N, 0, none⟩), u 4, u 5, .pointer (some ⟨N + 2, 0, none⟩), .slice (some ⟨N + 3, 0, none⟩) n n, u 8, u 9, u 10, u 11, u 12, u 13, u 14, u 15, u 16, u 17, .slice ta n tc, .int .i64 n, .int .i64 j, u 21, u 22, u 23, u 24, u 25, u 26, u 27, u 28, u 29, u 30, u 31, u 32, u 33, u 34, u 35, u 36], defers := [] } [.code (.seq (.region 5 reg80_5 false) (.seq (.cond (.tmp 21 ) (.skip) (.exit 0)) (.seq (.block 1 (.seq (.region 6 reg80_6 false) (.seq (.region 7 reg80_7 false) (.region 8 reg80_8 false)))) (.region 9 reg80_9 false)))), .inLoop (.seq (.region 5 reg80_5 false) (.seq (.cond (.tmp 21 ) (.skip) (.exit 0)) (.seq (.block 1 (.seq (.region 6 reg80_6 false) (.seq (.region 7 reg80_7 false) (.region 8 reg80_8 false)))) (.region 9 reg80_9 false)))), .inBlock 0, .code (.seq (.region 10 reg80_10 true) (.ret))]
section
variable {main : Bool} {V : Nat → Option Wait}
theorem madeCells_get (v : Value) (n i : Nat) (hi : i < n) : (madeCells #[v] n)[i]? = some v := by
  have : (madeCells #[v] n)[i]? = (madeCells #[v] n).toList[i]? := by simp
  rw [this, toList_madeCells_one, List.getElem?_replicate, if_pos hi]
theorem madeCells_size (v : Value) (n : Nat) : (madeCells #[v] n).size = n := by
  rw [← Array.length_toList, toList_madeCells_one, List.length_replicate]
theorem opThreads_in (fdo : FuncId) (first cap : Array Value) (tv : Value) (ta : Option Addr) (tc n : Nat) (hn : n ≤ 64) (cs : List Frame) (w : World) (hA : ∀ b, w.heap.size ≤ b → Apart V b)
    (hp : ∀ w' : World, (∀ b, b < w.heap.size → w'.heap[b]? = w.heap[b]?) → CallV Try.prog main V 108 #[tv] w' (.slice ta n tc) w') (oa : Nat → Option Addr) (ln oc : Nat → Nat) :
    Walk Try.prog main (DR V) (fun g w' => (∃ u, g = G (hd46 (.func (.func fdo) first cap) ta tc w.heap.size n 0 u) cs) ∧ MkO w.heap.size n (.func (.func fdo) first cap) oa ln oc w w' 0) (G (Frame.enter Try.prog 80 #[tv, .func (.func fdo) first cap] .normal) cs) w := by
  have hi1 := Option.some_get (show (Try.prog.info? 79).isSome = true by kernel_rfl)
  have hi2 := Option.some_get (show (Try.prog.info? 153).isSome = true by kernel_rfl)
  rw [enter_at _ Try.func80 code80_is]
  simp only [Try.ntmps80, ez, Nat.reduceAdd, Nat.reduceSub]
  repeat (first | refine Walk.cx ?_ | (refine Walk.cReg ?_; simp only [z80]) | (refine Walk.oq ?_; try walk_nrm) | (refine Walk.un ?_; walk_nrm))
  (refine Walk.oa ?_; try walk_nrm)
  have s1 : (w.alloc (.cells #[.func (.func fdo) first cap] 119)).heap.size = w.heap.size + 1 := by simp
  have o1 : ∀ b, b < w.heap.size → (w.alloc (.cells #[.func (.func fdo) first cap] 119)).heap[b]? = w.heap[b]? := fun b hb => heap_new_lt _ _ hb
  have d1 := heap_alloc_new w (.cells #[.func (.func fdo) first cap] 119)
  generalize hN : w.heap.size = N at *
  generalize w.alloc (.cells #[.func (.func fdo) first cap] 119) = w1 at *
  repeat (first | refine Walk.cx ?_ | (refine Walk.cReg ?_; simp only [z80]) | (refine Walk.oq ?_; try walk_nrm) | (refine Walk.un ?_; walk_nrm))
  refine Walk.callV (x := .slice ta n tc) (W := w1) ?_ (ho_of (by conv => lhs; whnf) (by kernel_rfl)) (by rfl) (by decide) rfl Try.func108 (by kernel_rfl) (by rfl) ?_
  · walk_nrm
    exact hp w1 o1
  walk_nrm
  repeat (first | refine Walk.cx ?_ | (refine Walk.cReg ?_; simp only [z80]) | (refine Walk.oq ?_; try walk_nrm) | (refine Walk.un ?_; walk_nrm))
  refine Walk.make 61 (.tmp 13) (.tmp 13) (ho_of (by conv => lhs; whnf) (by kernel_rfl)) (by rfl) (by decide) rfl 79 _ (.slice none 0 0) 1 24 (by kernel_rfl) hi1.symm (by rfl) (by rfl) (by rfl) n (by rfl) (by rfl) (by omega) (by omega) ?_
  walk_nrm
  simp only [Value.cells, Nat.mul_one]
  have s2 : (w1.alloc (.cells (madeCells #[.slice none 0 0] n) 79)).heap.size = N + 2 := by simp [s1]
  have o2 : ∀ b, b < N + 1 → (w1.alloc (.cells (madeCells #[.slice none 0 0] n) 79)).heap[b]? = w1.heap[b]? := fun b hb => heap_new_lt _ _ (by omega)
  have d2 := heap_alloc_new w1 (.cells (madeCells #[.slice none 0 0] n) 79)
  rw [s1] at d2
  try simp only [s1]
  generalize w1.alloc (.cells (madeCells #[.slice none 0 0] n) 79) = w2 at *
  (refine Walk.oa ?_; try walk_nrm)
  have s3 : (w2.alloc (.cells #[.slice none 0 0] 61)).heap.size = N + 3 := by simp [s2]
  have o3 : ∀ b, b < N + 2 → (w2.alloc (.cells #[.slice none 0 0] 61)).heap[b]? = w2.heap[b]? := fun b hb => heap_new_lt _ _ (by omega)
  have d3 := heap_alloc_new w2 (.cells #[.slice none 0 0] 61)
  rw [s2] at d3
  try simp only [s2]
  generalize w2.alloc (.cells #[.slice none 0 0] 61) = w3 at *
  have c3 := (cell_of d3 0).trans rfl
  have z3 := frozen_of d3 0
  have f3 := (hA (N + 2) (by omega)).1 ⟨N + 2, 0, none⟩ rfl
  (refine Walk.os f3 c3 ?_; try walk_nrm)
  have s4 := size_set w3 ⟨N + 2, 0, none⟩ (.slice (some ⟨N + 1, 0, none⟩) n n)
  have o4 : ∀ b, b ≠ N + 2 → (w3.setCell ⟨N + 2, 0, none⟩ (.slice (some ⟨N + 1, 0, none⟩) n n)).heap[b]? = w3.heap[b]? := fun b hb => heap_set_other _ _ _ _ hb
  have d4 : (w3.setCell ⟨N + 2, 0, none⟩ (.slice (some ⟨N + 1, 0, none⟩) n n)).heap[N + 2]? = some (.cells #[.slice (some ⟨N + 1, 0, none⟩) n n] 61) := by
    rw [heap_set_self _ _ d3]
    simp
  rw [s3] at s4
  clear c3 z3 f3
  generalize w3.setCell ⟨N + 2, 0, none⟩ (.slice (some ⟨N + 1, 0, none⟩) n n) = w4 at *
  repeat (first | refine Walk.cx ?_ | (refine Walk.cReg ?_; simp only [z80]) | (refine Walk.oq ?_; try walk_nrm) | (refine Walk.un ?_; walk_nrm))
  refine Walk.make 159 (.tmp 16) (.tmp 16) (ho_of (by conv => lhs; whnf) (by kernel_rfl)) (by rfl) (by decide) rfl 153 _ .nilFunc 1 8 (by kernel_rfl) hi2.symm (by rfl) (by rfl) (by rfl) n (by rfl) (by rfl) (by omega) (by omega) ?_
  walk_nrm
  simp only [Value.cells, Nat.mul_one]
  have s5 : (w4.alloc (.cells (madeCells #[.nilFunc] n) 153)).heap.size = N + 4 := by simp [s4]
  have o5 : ∀ b, b < N + 3 → (w4.alloc (.cells (madeCells #[.nilFunc] n) 153)).heap[b]? = w4.heap[b]? := fun b hb => heap_new_lt _ _ (by omega)
  have d5 := heap_alloc_new w4 (.cells (madeCells #[.nilFunc] n) 153)
  rw [s4] at d5
  try simp only [s4]
  generalize w4.alloc (.cells (madeCells #[.nilFunc] n) 153) = w5 at *
  repeat (first | refine Walk.cx ?_ | (refine Walk.cReg ?_; simp only [z80]) | (refine Walk.oq ?_; try walk_nrm) | (refine Walk.un ?_; walk_nrm))
  refine Walk.ctl rfl (fun w => stepG_loop) ?_
  refine .stop fun d => ⟨at_slots ?_, MkO.at ⟨by omega, fun b hb => ?_, ?_, ?_, ?_, ⟨_, d5, madeCells_size _ _, fun j hj => absurd hj (Nat.not_lt_zero _)⟩, fun j hj => absurd hj (Nat.not_lt_zero _), fun j hj => absurd hj (Nat.not_lt_zero _)⟩ d⟩
  · simp only [hd46]
    rfl
  · rw [o5 b (by omega), o4 b (by omega), o3 b (by omega), o2 b (by omega), o1 b hb]
  · rw [o5 N (by omega), o4 N (by omega), o3 N (by omega), o2 N (by omega), d1]
  · rw [o5 _ (by omega), o4 _ (by omega), o3 _ (by omega), d2]
  · rw [o5 _ (by omega), d4]
end
end
section
section
variable {main : Bool} {V : Nat → Option Wait}
structure OpsIn (tb toff n : Nat) (oa : Nat → Option Addr) (ln oc : Nat → Nat) (ops : Nat → List OpV) (w : World) : Prop where
  hd : ∀ i, i < n → w.cell? ⟨tb, toff + i, none⟩ = some (.slice (oa i) (ln i) (oc i))
  cap : ∀ i, i < n → ln i ≤ oc i
  ad : ∀ i, i < n → (oa i = none ∧ oc i = 0) ∨ ∃ p, oa i = some p
  len : ∀ i, i < n → (ops i).length = min (ln i) 65536
  ops : ∀ i, i < n → ∀ (j : Nat) (o : OpV), (ops i)[j]? = some o → ∃ b off, oa i = some ⟨b, off, none⟩ ∧ w.cell? ⟨b, off + j * 4, none⟩ = some (.int .i64 o.k) ∧ w.cell? ⟨b, off + j * 4 + 1, none⟩ = some (.int .i64 o.a) ∧ w.cell? ⟨b, off + j * 4 + 2, none⟩ = some (.int .i64 o.b) ∧ w.cell? ⟨b, off + j * 4 + 3, none⟩ = some (.int .i64 o.c)
theorem opThreads_go (dv : Value) (tb toff tc N n i : Nat) (hn : n ≤ 64) (hi : i < n) (oa : Nat → Option Addr) (ln oc : Nat → Nat) (u : Nat → Value) (cs : List Frame) (w0 w : World) (hN : w0.heap.size = N) (M : MkO N n dv oa ln oc w0 w i) (hA : ∀ b, N ≤ b → Apart V b)
    (hh : w0.cell? ⟨tb, toff + i, none⟩ = some (.slice (oa i) (ln i) (oc i))) (hcap : ln i ≤ oc i) (had : (oa i = none ∧ oc i = 0) ∨ ∃ p, oa i = some p) :
    Walk Try.prog main (DR V) (fun g w' => (∃ u, g = G (hd46 dv (some ⟨tb, toff, none⟩) tc N n (i + 1) u) cs) ∧ MkO N n dv oa ln oc w0 w' (i + 1)) (G (hd46 dv (some ⟨tb, toff, none⟩) tc N n i u) cs) w := by
  have hmn := @events_min_ints Try.prog
  have hiOp := Option.some_get (show (Try.prog.info? 84).isSome = true by kernel_rfl)
  have hx : w.cell? ⟨tb, toff + i, none⟩ = some (.slice (oa i) (ln i) (oc i)) := (World.cell?_of_block (a := ⟨tb, toff + i, none⟩) (M.old tb (by have := cell_lt' hh; omega))).trans hh
  obtain ⟨arr, c5, hsz, hF⟩ := M.cF
  have hs := M.size
  have hi0 : (0 : Int) ≤ i := by omega
  have hi1 : decide ((i : Int) < n) = true := by simp; omega
  have hi2 : decide (n ≤ i) = false := by simp; omega
  have hi3 : decide (i < n) = true := by simp; omega
  have hw1 : IntKind.wrap .i64 ((i : Int) + 1) = (i : Int) + 1 := by rw [IntKind.wrap_i64]; omega
  unfold hd46
  repeat (first | refine Walk.cx ?_ | (refine Walk.cReg ?_; simp only [z80]) | (refine Walk.oq ?_; try walk_nrm) | (refine Walk.un ?_; walk_nrm))
  (refine Walk.oa ?_; try walk_nrm)
  have s1 : (w.alloc (.cells #[.int .i64 0] 3)).heap.size = N + 5 + 2 * i := by simp [hs]; omega
  have d1 : (w.alloc (.cells #[.int .i64 0] 3)).heap[N + 4 + 2 * i]? = some (.cells #[.int .i64 0] 3) := hs ▸ heap_alloc_new w (.cells #[.int .i64 0] 3)
  have o1 : ∀ b, b < N + 4 + 2 * i → (w.alloc (.cells #[.int .i64 0] 3)).heap[b]? = w.heap[b]? := fun b hb => heap_new_lt _ _ (by omega)
  try simp only [hs]
  generalize w.alloc (.cells #[.int .i64 0] 3) = w1 at *
  (refine Walk.oa ?_; try walk_nrm)
  have s2 : (w1.alloc (.cells #[.slice none 0 0] 73)).heap.size = N + 6 + 2 * i := by simp [s1]; omega
  have d2 : (w1.alloc (.cells #[.slice none 0 0] 73)).heap[N + 5 + 2 * i]? = some (.cells #[.slice none 0 0] 73) := s1 ▸ heap_alloc_new w1 (.cells #[.slice none 0 0] 73)
  have o2 : ∀ b, b < N + 5 + 2 * i → (w1.alloc (.cells #[.slice none 0 0] 73)).heap[b]? = w1.heap[b]? := fun b hb => heap_new_lt _ _ (by omega)
  try simp only [s1]
  generalize w1.alloc (.cells #[.slice none 0 0] 73) = w2 at *
  have d1' := (o2 (N + 4 + 2 * i) (by omega)).trans d1
  have c1 := (cell_of d1' 0).trans rfl
  have z1 := frozen_of d1' 0
  have f1 := (hA (N + 4 + 2 * i) (by omega)).1 ⟨N + 4 + 2 * i, 0, none⟩ rfl
  (refine Walk.os f1 c1 ?_; try walk_nrm)
  have s3 := size_set w2 ⟨N + 4 + 2 * i, 0, none⟩ (.int .i64 (i : Nat))
  have o3 : ∀ b, b ≠ N + 4 + 2 * i → (w2.setCell ⟨N + 4 + 2 * i, 0, none⟩ (.int .i64 (i : Nat))).heap[b]? = w2.heap[b]? := fun b hb => heap_set_other _ _ _ _ hb
  have d3 : (w2.setCell ⟨N + 4 + 2 * i, 0, none⟩ (.int .i64 (i : Nat))).heap[N + 4 + 2 * i]? = some (.cells #[.int .i64 (i : Nat)] 3) := by
    rw [heap_set_self _ _ d1']
    simp
  clear c1 z1 f1
  generalize w2.setCell ⟨N + 4 + 2 * i, 0, none⟩ (.int .i64 (i : Nat)) = w3 at *
  have d2' := (o3 (N + 5 + 2 * i) (by omega)).trans d2
  have c2 := (cell_of d2' 0).trans rfl
  have z2 := frozen_of d2' 0
  have f2 := (hA (N + 5 + 2 * i) (by omega)).1 ⟨N + 5 + 2 * i, 0, none⟩ rfl
  (refine Walk.os f2 c2 ?_; try walk_nrm)
  have s4 := size_set w3 ⟨N + 5 + 2 * i, 0, none⟩ (.slice (oa i) (ln i) (oc i))
  have o4 : ∀ b, b ≠ N + 5 + 2 * i → (w3.setCell ⟨N + 5 + 2 * i, 0, none⟩ (.slice (oa i) (ln i) (oc i))).heap[b]? = w3.heap[b]? := fun b hb => heap_set_other _ _ _ _ hb
  have d4 : (w3.setCell ⟨N + 5 + 2 * i, 0, none⟩ (.slice (oa i) (ln i) (oc i))).heap[N + 5 + 2 * i]? = some (.cells #[.slice (oa i) (ln i) (oc i)] 73) := by
    rw [heap_set_self _ _ d2']
    simp
  clear c2 z2
  generalize w3.setCell ⟨N + 5 + 2 * i, 0, none⟩ (.slice (oa i) (ln i) (oc i)) = w4 at *
  have c4 := (cell_of d4 0).trans rfl
  have z4 := frozen_of d4 0
  repeat (first | refine Walk.cx ?_ | (refine Walk.cReg ?_; simp only [z80]) | (refine Walk.oq ?_; try walk_nrm) | (refine Walk.un ?_; walk_nrm))
  have hmin : min (ln i : Int) 65536 = ((min (ln i) 65536 : Nat) : Int) := by omega
  try rw [hmin]
  have hxl : min (ln i) 65536 ≤ oc i := by omega
  generalize hxx : min (ln i) 65536 = x at hxl ⊢
  have hsl := fun w => (run_slx huOps hiOp.symm (oa i) (ln i) (oc i) x hxl (by rcases had with h | h; exact .inl h; exact .inr h) w #[]).1
  have hse := fun w es => (run_slx huOps hiOp.symm (oa i) (ln i) (oc i) x hxl (by rcases had with h | h; exact .inl h; exact .inr h) w es).2
  repeat (first | refine Walk.cx ?_ | (refine Walk.cReg ?_; simp only [z80]) | (refine Walk.oq ?_; try walk_nrm) | (refine Walk.un ?_; walk_nrm))
  (refine Walk.os f2 c4 ?_; try walk_nrm)
  have s5 := size_set w4 ⟨N + 5 + 2 * i, 0, none⟩ (.slice (oa i) x (oc i))
  have o5 : ∀ b, b ≠ N + 5 + 2 * i → (w4.setCell ⟨N + 5 + 2 * i, 0, none⟩ (.slice (oa i) x (oc i))).heap[b]? = w4.heap[b]? := fun b hb => heap_set_other _ _ _ _ hb
  have d5 : (w4.setCell ⟨N + 5 + 2 * i, 0, none⟩ (.slice (oa i) x (oc i))).heap[N + 5 + 2 * i]? = some (.cells #[.slice (oa i) x (oc i)] 73) := by
    rw [heap_set_self _ _ d4]
    simp
  clear c4 z4 hsl hse hmn
  generalize w4.setCell ⟨N + 5 + 2 * i, 0, none⟩ (.slice (oa i) x (oc i)) = w5 at *
  have d3' := (o5 (N + 4 + 2 * i) (by omega)).trans ((o4 (N + 4 + 2 * i) (by omega)).trans d3)
  have c3 := (cell_of d3' 0).trans rfl
  have old5 : ∀ b, b < N + 4 + 2 * i → w5.heap[b]? = w.heap[b]? := fun b hb => by rw [o5 b (by omega), o4 b (by omega), o3 b (by omega), o2 b (by omega), o1 b hb]
  have e5 := (old5 (N + 3) (by omega)).trans c5
  have hil : i < arr.size := by omega
  have c6 := (cell_of e5 i).trans (Array.getElem?_eq_getElem hil)
  have z6 := frozen_of e5 i
  have f6 := (hA (N + 3) (by omega)).1 ⟨N + 3, i, none⟩ rfl
  have hst : ∀ d, (store ⟨N + 3, i, none⟩ (thrO N i)).run Try.prog (w5.at d) = .ok () ((w5.setCell ⟨N + 3, i, none⟩ (thrO N i)).at d) := fun d => by
    have hy' : (w5.at d).cell? ⟨N + 3, i, none⟩ = some arr[i] := c6
    have hz' : (w5.at d).frozen? ⟨N + 3, i, none⟩ = false := z6
    rw [run_store Try.prog (w5.at d) _ _ _ rfl, hy']
    simp only [hz', Bool.false_eq_true, if_false]
    rfl
  have hse : ∀ d es, (store ⟨N + 3, i, none⟩ (thrO N i)).events Try.prog (w5.at d) es = es.push ⟨.cell ⟨N + 3, i, none⟩, true, false⟩ := fun d es => by
    have hy' : (w5.at d).cell? ⟨N + 3, i, none⟩ = some arr[i] := c6
    have hz' : (w5.at d).frozen? ⟨N + 3, i, none⟩ = false := z6
    rw [events_store Try.prog (w5.at d) es _ _ _ rfl, hy']
    simp only [hz', Bool.false_eq_true, if_false]
    rfl
  simp only [thrO] at hst hse
  repeat (first | refine Walk.cx ?_ | (refine Walk.cReg ?_; simp only [z80]) | (refine Walk.oq ?_; try walk_nrm) | (refine Walk.un ?_; walk_nrm))
  refine Walk.opw (W := w5.setCell ⟨N + 3, i, none⟩ (thrO N i)) (ho_of (by conv => lhs; whnf) (by kernel_rfl)) (by rfl) (by decide) (fun dd e he => ?_) (fun dd es hes => DR.set' f6 c6 dd es hes) (fun dd K hK => ?_)
  · simp [go_sem, storedEv, *] at he
    subst he
    exact evR_write _ _ f6
  · have e6 : (w5.setCell ⟨N + 3, i, none⟩ (thrO N i)).heap[N + 3]? = some (.cells (arr.setIfInBounds i (thrO N i)) 153) := heap_set_self _ _ e5
    have o6 : ∀ b, b ≠ N + 3 → (w5.setCell ⟨N + 3, i, none⟩ (thrO N i)).heap[b]? = w5.heap[b]? := fun b hb => heap_set_other _ _ _ _ hb
    have s6 := size_set w5 ⟨N + 3, i, none⟩ (thrO N i)
    go_simp
    try rw [hst dd]
    refine hK _ ?_
    clear hK K hst hse
    try walk_nrm
    repeat (first | refine Walk.cx ?_ | (refine Walk.cReg ?_; simp only [z80]) | (refine Walk.oq ?_; try walk_nrm) | (refine Walk.un ?_; walk_nrm))
    refine Walk.ctl rfl (fun w => stepG_inLoop) ?_
    refine .stop fun d' => ⟨at_slots ?_, MkO.at ⟨by omega, fun b hb => ?_, ?_, ?_, ?_, ⟨_, e6, by simp [hsz], fun j hj => ?_⟩, fun j hj => ?_, fun j hj => ?_⟩ d'⟩
    · have hc : ((i + 1 : Nat) : Int) = (i : Int) + 1 := by simp
      simp only [hd46, hc]
      rfl
    · rw [o6 b (by omega), old5 b (by omega)]; exact M.old b hb
    · rw [o6 _ (by omega), old5 _ (by omega)]; exact M.cD
    · rw [o6 _ (by omega), old5 _ (by omega)]; exact M.cN
    · rw [o6 _ (by omega), old5 _ (by omega)]; exact M.cA
    · by_cases h : j = i
      · subst h
        exact Array.getElem?_setIfInBounds_self_of_lt hil
      · rw [Array.getElem?_setIfInBounds_ne (Ne.symm h)]
        exact hF j (by omega)
    · by_cases h : j = i
      · subst h
        rw [o6 _ (by omega)]; exact d3'
      · rw [o6 _ (by omega), old5 _ (by omega)]; exact M.cI j (by omega)
    · by_cases h : j = i
      · subst h
        rw [o6 _ (by omega), hxx]; exact d5
      · rw [o6 _ (by omega), old5 _ (by omega)]; exact M.cO j (by omega)
theorem opThreads_out (dv : Value) (ta : Option Addr) (tc N n : Nat) (u : Nat → Value) (c : Frame) (cs : List Frame) (w : World) (hA2 : w.cell? ⟨N + 2, 0, none⟩ = some (.slice (some ⟨N + 1, 0, none⟩) n n)) :
    Walk Try.prog main (DR V) (fun g w' => g = G (c.finish (.tuple #[.slice (some ⟨N + 3, 0, none⟩) n n, .slice (some ⟨N + 1, 0, none⟩) n n])) cs ∧ ∃ d, w' = w.at d) (G (hd46 dv ta tc N n n u) (c :: cs)) w := by
  unfold hd46
  repeat (first | refine Walk.cx ?_ | (refine Walk.cReg ?_; simp only [z80]) | (refine Walk.oq ?_; try walk_nrm) | (refine Walk.un ?_; walk_nrm))
  (refine Walk.drawnCW (by kernel_rfl) size80_10 (by kernel_rfl) (by kernel_rfl) (by decide) ?_; simp only [List.range, List.range.loop]; repeat (first | (refine Cm.oq ?_) | (refine Cm.unw (ho_of (by conv => lhs; whnf) (by kernel_rfl)) (by rfl) ?_; walk_nrm)))
  refine Cm.done ?_
  repeat (first | refine Walk.cx ?_ | (refine Walk.cReg ?_; simp only [z80]) | (refine Walk.oq ?_; try walk_nrm) | (refine Walk.un ?_; walk_nrm))
  refine Walk.on2 rfl rfl Try.func80 rfl (.stop fun d => ⟨rfl, d, rfl⟩)
end
end
section
section
variable {main : Bool} {V : Nat → Option Wait}
theorem opThreads_w (fdo : FuncId) (first cap : Array Value) (tv : Value) (ta : Option Addr) (tb toff tc n : Nat) (hta : 0 < n → ta = some ⟨tb, toff, none⟩) (hn : n ≤ 64) (oa : Nat → Option Addr) (ln oc : Nat → Nat) (ops : Nat → List OpV) (w : World) (I : OpsIn tb toff n oa ln oc ops w) (hA : ∀ b, w.heap.size ≤ b → Apart V b)
    (hp : ∀ w' : World, (∀ b, b < w.heap.size → w'.heap[b]? = w.heap[b]?) → CallV Try.prog main V 108 #[tv] w' (.slice ta n tc) w') :
    CallW Try.prog main V 80 #[tv, .func (.func fdo) first cap] w (fun v w' => v = .tuple #[.slice (some ⟨w.heap.size + 3, 0, none⟩) n n, .slice (some ⟨w.heap.size + 1, 0, none⟩) n n] ∧ MkO w.heap.size n (.func (.func fdo) first cap) oa ln oc w w' n) := by
  intro c cs
  refine (opThreads_in fdo first cap tv ta tc n hn (c :: cs) w hA hp oa ln oc).then ?_
  rintro g w1 ⟨⟨u, rfl⟩, M⟩
  have loop : ∀ (r i : Nat) (u : Nat → Value) (w1 : World), i + r = n → MkO w.heap.size n (.func (.func fdo) first cap) oa ln oc w w1 i →
      Walk Try.prog main (DR V) (fun g w' => ∃ v, (v = .tuple #[.slice (some ⟨w.heap.size + 3, 0, none⟩) n n, .slice (some ⟨w.heap.size + 1, 0, none⟩) n n] ∧ MkO w.heap.size n (.func (.func fdo) first cap) oa ln oc w w' n) ∧ g = G (c.finish v) cs) (G (hd46 (.func (.func fdo) first cap) ta tc w.heap.size n i u) (c :: cs)) w1 := by
    intro r
    induction r with
    | zero =>
      intro i u w1 hi M
      obtain rfl : i = n := hi
      refine (opThreads_out _ ta tc w.heap.size i u c cs w1 ((cell_of M.cA 0).trans rfl)).mono ?_
      rintro g w' ⟨rfl, d, rfl⟩
      exact ⟨_, ⟨rfl, M.at d⟩, rfl⟩
    | succ r ih =>
      intro i u w1 hi M
      have hin : i < n := by omega
      obtain rfl := hta (by omega)
      refine (opThreads_go _ tb toff tc w.heap.size n i hn hin oa ln oc u (c :: cs) w w1 rfl M hA (I.hd i hin) (I.cap i hin) (I.ad i hin)).then ?_
      rintro g w' ⟨⟨u', rfl⟩, M'⟩
      exact ih (i + 1) u' w' (by omega) M'
  exact loop n 0 u w1 (by omega) M
noncomputable def reg50_0 := rg Try.f50.body [0]
noncomputable def reg50_1 := rg Try.f50.body [1, 0]
noncomputable def reg50_2 := rg Try.f50.body [1, 1, 0]
noncomputable def reg50_3 := rg Try.f50.body [1, 1, 1, 0]
theorem z50 : List.range reg50_0.size = [0] ∧ List.range reg50_1.size = [0, 1, 2, 3, 4, 5, 6, 7] ∧ List.range reg50_2.size = [0, 1, 2, 3, 4, 5, 6, 7, 8, 9, 10] ∧ List.range reg50_3.size = [0, 1, 2, 3, 4] := by refine ⟨?_, ?_, ?_, ?_⟩ <;> kernel_rfl
theorem code50_is : Try.f50.body = some (.seq (.region 0 reg50_0 false) (.seq (.region 1 reg50_1 false) (.seq (.region 2 reg50_2 false) (.seq (.region 3 reg50_3 false) (.ret))))) := by kernel_rfl
def OpsBack (main : Bool) (V : Nat → Option Wait) (T A n : Nat) (fr c : Frame) (cs : List Frame) : Prop := ∀ (oo : Option Addr) (ol ok : Nat) (bv : Value) (stuck : Bool) (w : World), w.heap[T]? = some (.cells #[.slice none 0 0, .slice none 0 0, .slice none 0 0, .bool false] 63) → Apart V T →
  Walk Try.prog main (DR V) (fun g w' => g = G (c.finish (.agg #[.slice (some ⟨A, 0, none⟩) n n, .slice oo ol ok, .slice none 0 0, .bool stuck])) cs ∧ ∃ d, w' = (w.setRow T #[.slice (some ⟨A, 0, none⟩) n n, .slice oo ol ok, .slice none 0 0, .bool stuck]).at d) (G (fr.finish (.tuple #[.slice oo ol ok, .bool stuck, bv])) (c :: cs)) w
theorem ops_in (fdo : FuncId) (first cap : Array Value) (tv sv : Value) (most : Int) (ta : Option Addr) (tb toff tc n : Nat) (hta : 0 < n → ta = some ⟨tb, toff, none⟩) (hn : n ≤ 64) (oa : Nat → Option Addr) (ln oc : Nat → Nat) (ops : Nat → List OpV) (c : Frame) (cs : List Frame) (w : World) (I : OpsIn tb toff n oa ln oc ops w) (hA : ∀ b, w.heap.size ≤ b → Apart V b)
    (hp : ∀ w' : World, (∀ b, b < w.heap.size → w'.heap[b]? = w.heap[b]?) → CallV Try.prog main V 108 #[tv] w' (.slice ta n tc) w') :
    Walk Try.prog main (DR V) (fun g w' => ∃ fr w1, g = G (Frame.enter Try.prog 81 #[.slice (some ⟨w.heap.size + 4, 0, none⟩) n n, sv, .int .i64 most] .normal) (fr :: c :: cs) ∧ (∀ b, b < w.heap.size → w1.heap[b]? = w.heap[b]?) ∧ w1.heap.size = w.heap.size + 1 ∧ w1.heap[w.heap.size]? = some (.cells #[.slice none 0 0, .slice none 0 0, .slice none 0 0, .bool false] 63) ∧ MkO (w.heap.size + 1) n (.func (.func fdo) first cap) oa ln oc w1 w' n ∧ OpsBack main V w.heap.size (w.heap.size + 2) n fr c cs)
      (G (Frame.enter Try.prog 50 #[tv, .func (.func fdo) first cap, sv, .int .i64 most] .normal) (c :: cs)) w := by
  rw [enter_at _ Try.func50 code50_is]
  simp only [Try.ntmps50, ez, Nat.reduceAdd, Nat.reduceSub]
  repeat (first | refine Walk.cx ?_ | (refine Walk.cReg ?_; simp only [z50]) | (refine Walk.oq ?_; try walk_nrm) | (refine Walk.un ?_; walk_nrm))
  (refine Walk.oa ?_; try walk_nrm)
  have s1 : (w.alloc (.cells #[.slice none 0 0, .slice none 0 0, .slice none 0 0, .bool false] 63)).heap.size = w.heap.size + 1 := by simp
  have o1 : ∀ b, b < w.heap.size → (w.alloc (.cells #[.slice none 0 0, .slice none 0 0, .slice none 0 0, .bool false] 63)).heap[b]? = w.heap[b]? := fun b hb => heap_new_lt _ _ hb
  have d1 := heap_alloc_new w (.cells #[.slice none 0 0, .slice none 0 0, .slice none 0 0, .bool false] 63)
  generalize hN : w.heap.size = T at *
  generalize w.alloc (.cells #[.slice none 0 0, .slice none 0 0, .slice none 0 0, .bool false] 63) = w1 at *
  have I1 : OpsIn tb toff n oa ln oc ops w1 := by
    have hc : ∀ {b j : Nat} {v : Value}, w.cell? ⟨b, j, none⟩ = some v → w1.cell? ⟨b, j, none⟩ = some v := fun {b j v} h => (World.cell?_of_block (a := ⟨b, j, none⟩) (o1 b (hN ▸ cell_lt' h))).trans h
    exact ⟨fun i hi => hc (I.hd i hi), I.cap, I.ad, I.len, fun i hi j o ho => by
      obtain ⟨b, off, e, c0, c1, c2, c3⟩ := I.ops i hi j o ho
      exact ⟨b, off, e, hc c0, hc c1, hc c2, hc c3⟩⟩
  repeat (first | refine Walk.cx ?_ | (refine Walk.cReg ?_; simp only [z50]) | (refine Walk.oq ?_; try walk_nrm) | (refine Walk.un ?_; walk_nrm))
  refine Walk.callW (Post := fun v w' => v = .tuple #[.slice (some ⟨w1.heap.size + 3, 0, none⟩) n n, .slice (some ⟨w1.heap.size + 1, 0, none⟩) n n] ∧ MkO w1.heap.size n (.func (.func fdo) first cap) oa ln oc w1 w' n) ?_ (ho_of (by conv => lhs; whnf) (by kernel_rfl)) (by rfl) (by decide) rfl Try.func80 (by kernel_rfl) (by rfl) ?_
  · walk_nrm
    exact opThreads_w fdo first cap tv ta tb toff tc n hta hn oa ln oc ops w1 I1 (fun b hb => hA b (by omega)) (fun w' hw' => hp w' fun b hb => (hw' b (by omega)).trans (o1 b hb))
  rintro v w2 ⟨rfl, M⟩
  rw [s1] at M ⊢
  walk_nrm
  repeat (first | refine Walk.cx ?_ | (refine Walk.cReg ?_; simp only [z50]) | (refine Walk.oq ?_; try walk_nrm) | (refine Walk.un ?_; walk_nrm))
  refine Walk.callE (ho_of (by conv => lhs; whnf) (by kernel_rfl)) (by rfl) (by decide) rfl Try.func81 (by kernel_rfl) (by rfl) ?_
  walk_nrm
  refine .stop fun d => ⟨_, w1, rfl, o1, s1, d1, M.at d, ?_⟩
  intro oo ol ok bv stuck w3 hT hap
  refine Walk.finish (ho_of (by conv => lhs; whnf) (by kernel_rfl)) ?_
  walk_nrm
  repeat (first | refine Walk.cx ?_ | (refine Walk.cReg ?_; simp only [z50]) | (refine Walk.oq ?_; try walk_nrm) | (refine Walk.un ?_; walk_nrm))
  refine Walk.storeS 63 (.tmp 8) (.tmp 31) (ho_of (by conv => lhs; whnf) (by kernel_rfl)) (by rfl) (by decide) rfl T #[.slice (some ⟨T + 2, 0, none⟩) n n, .slice oo ol ok, .slice none 0 0, .bool stuck] _ 63 rfl rfl hT (by kernel_rfl) (by rfl) (by simp [Value.oneCell']) hap ?_
  have c9 := setRow_self (cells := #[.slice (some ⟨T + 2, 0, none⟩) n n, .slice oo ol ok, .slice none 0 0, .bool stuck]) hT
  walk_nrm
  repeat (first | refine Walk.cx ?_ | (refine Walk.cReg ?_; simp only [z50]) | (refine Walk.oq ?_; try walk_nrm) | (refine Walk.un ?_; walk_nrm))
  exact Walk.onCell (T := T) rfl rfl rfl Try.func50 rfl (by rfl) c9 (by kernel_rfl) (by kernel_rfl) (.stop fun d => ⟨rfl, d, rfl⟩)
end
end
section
structure Abs (X : Type) where
  n : Nat
  most : Int
  born : X → Nat → X
  next : X → Nat → X
  out : X → Nat → Option Bool
section
variable {X : Type}
def goingA (C : Abs X) (x : X) : Nat := (List.range C.n).countP (fun i => (C.out x i).isNone)
def overA (C : Abs X) (st : X × List Nat) : Bool := decide (goingA C st.1 = 0) || decide (C.most ≤ st.2.length)
def stepA (C : Abs X) (st : X × List Nat) (z : Int) : X × List Nat :=
  if overA C st = false ∧ 0 ≤ z ∧ z < C.n ∧ C.out st.1 z.toNat = none then (C.next st.1 z.toNat, st.2 ++ [z.toNat]) else st
def roundA (C : Abs X) (st : X × List Nat) : X × List Nat := (List.range C.n).foldl (fun st i => stepA C st (i : Nat)) st
def restA (C : Abs X) : Nat → X × List Nat → X × List Nat
  | 0, st => st
  | f + 1, st => if overA C st then st else restA C f (roundA C st)
def followA (C : Abs X) (st : X × List Nat) (l : List Int) : X × List Nat := restA C C.most.toNat (l.foldl (stepA C) st)
def bornsA (C : Abs X) : Nat → Nat → X → X
  | 0, _, x => x
  | n + 1, k, x => bornsA C n (k + 1) (C.born x k)
def runA (C : Abs X) (x0 : X) (l : List Int) : X × List Nat := followA C (bornsA C C.n 0 x0, []) l
def absOf {S : Stile} (C : Crew S X) : Abs X := ⟨S.n, S.most, C.born, C.next, C.out⟩
theorem rest_abs {S : Stile} (C : Crew S X) : ∀ (f : Nat) (st : X × List Nat), restX C f st = restA (absOf C) f st
  | 0, _ => rfl
  | f + 1, st => by
    unfold restX restA
    rw [rest_abs C f]
    rfl
theorem born_abs {S : Stile} (C : Crew S X) : ∀ (n k : Nat) (x : X), bornAll C n k x = bornsA (absOf C) n k x
  | 0, _, _ => rfl
  | n + 1, k, x => by
    unfold bornAll bornsA
    exact born_abs C n (k + 1) _
theorem follow_abs {S : Stile} (C : Crew S X) (st : X × List Nat) (l : List Int) : followX C st l = followA (absOf C) st l := by
  unfold followX followA
  rw [rest_abs]
  rfl
end
def absO (L : La) (n : Nat) (most : Int) (ops : Nat → List OpV) : Abs (OX L) := ⟨n, most, bornO ops, nextO, OX.out⟩
def x0O (L : La) (s0 : L.Sg) : OX L := ⟨s0, fun _ => t0 L, fun _ => none, 0⟩
def playO (L : La) (s0 : L.Sg) (ops : Nat → List OpV) (n : Nat) (most : Int) (sl : List Int) : OX L × List Nat := runA (absO L n (min (max most 0) 1048576) ops) (x0O L s0) sl
def stuckO {L : La} (n : Nat) (x : OX L) : Bool := decide (0 < (List.range n).countP (fun i => (x.out i).isNone))
structure OpsAll (L : La) (y0 : L.Gh) (w w' : World) (n : Nat) (x : OX L) (ord : List Nat) (cells : Array Value) (y : L.Gh) (A : Nat) (oo : Option Addr) (ok : Nat) (hd : Nat → Value) (own : Nat → Nat → Prop) : Prop where
  eq : cells = #[.slice (some ⟨A, 0, none⟩) n n, .slice oo ord.length ok, .slice none 0 0, .bool (stuckO n x)]
  orow : w'.ownsRow w.heap.size 3 1 (.slice oo ord.length ok) ord.length (ord.map fun i => .int .i64 (i : Nat))
  Alo : w.heap.size ≤ A
  heads : ∃ arr : Array Value, w'.heap[A]? = some (.cells arr 79) ∧ arr.size = n ∧ ∀ i, i < n → arr[i]? = some (hd i)
  rows : ∀ i, i < n → RowA w.heap.size (own i) (hd i) (x.th i).ans w'
  one : ∀ i j b, own i b → own j b → i = j
  ownA : ∀ i b, own i b → b ≠ A ∧ ¬ L.sh y b
  ownO : ∀ i b, own i b → (Value.slice oo ord.length ok).ownBlock ≠ some b
  shA : ∀ b, L.sh y b → b ≠ A ∧ (Value.slice oo ord.length ok).ownBlock ≠ some b
  Aord : (Value.slice oo ord.length ok).ownBlock ≠ some A
  le : L.le y0 y
  I : L.I y x.s w'
  pub : ∀ b, L.sh y b → b < w.heap.size → L.sh y0 b
structure OpsOut (L : La) (y0 : L.Gh) (s0 : L.Sg) (ops : Nat → List OpV) (n : Nat) (most : Int) (sl : List Int) (w w' : World) (cells : Array Value) : Prop where
  all : ∃ y A oo ok hd own, OpsAll L y0 w w' n (playO L s0 ops n most sl).1 (playO L s0 ops n most sl).2 cells y A oo ok hd own
  old : ∀ b, b < w.heap.size → ¬ L.sh y0 b → w'.heap[b]? = w.heap[b]?
  size : w.heap.size ≤ w'.heap.size
theorem row_raise {w : World} {base base' : Nat} {e : TypeId} {size : Nat} {v : Value} {n : Nat} {xs : List Value} (h : w.ownsRow base e size v n xs) (hb : ∀ g, v.ownBlock = some g → base' ≤ g) : w.ownsRow base' e size v n xs := by
  refine ⟨h.1, ?_⟩
  rcases h.2 with z | ⟨g, cap, cur, h0, h1, h2⟩
  · exact .inl z
  · exact .inr ⟨g, cap, cur, h0, hb g (by rw [h0]; rfl), h2⟩
section
variable {L : La} {fdo : FuncId} {first cap : Array Value}
theorem ops_run (hD : DoFn L fdo first cap) (y0 : L.Gh) (s0 : L.Sg) (tv : Value) (most : Int) (tb toff tc n : Nat) (hn1 : 1 ≤ n) (hn : n ≤ 64) (oa : Nat → Option Addr) (ln oc : Nat → Nat) (ops : Nat → List OpV) (sa : Option Addr) (sc : Nat) (sl : List Int) (hsl : sl.length ≤ 17592186044416) (c : Frame) (cs : List Frame) (w : World)
    (I : OpsIn tb toff n oa ln oc ops w) (hI : L.I y0 s0 w) (hns : ∀ i, i < n → ∀ (j : Nat) (o : OpV), (ops i)[j]? = some o → ∀ b off, oa i = some ⟨b, off, none⟩ → ¬ L.sh y0 b)
    (hsc : ∀ (j : Nat) (z : Int), sl[j]? = some z → ∃ s so, sa = some ⟨s, so, none⟩ ∧ w.cell? ⟨s, so + j, none⟩ = some (.int .i64 z) ∧ ¬ L.sh y0 s)
    (hp : ∀ w' : World, (∀ b, b < w.heap.size → w'.heap[b]? = w.heap[b]?) → CallV Try.prog true (fun _ => none) 108 #[tv] w' (.slice (some ⟨tb, toff, none⟩) n tc) w') :
    Runs (fun g w' => ∃ cells, OpsOut L y0 s0 ops n most sl w w' cells ∧ g = G (c.finish (.agg cells)) cs) (G (Frame.enter Try.prog 50 #[tv, .func (.func fdo) first cap, .slice sa sl.length sc, .int .i64 most] .normal) (c :: cs)) w := by
  have hA : ∀ b, Apart (fun _ => none) b := fun b => ⟨fun _ _ _ _ h => (by cases h), fun _ _ h => (by cases h)⟩
  refine Runs.walk (ops_in fdo first cap tv (.slice sa sl.length sc) most (some ⟨tb, toff, none⟩) tb toff tc n (fun _ => rfl) hn oa ln oc ops c cs w I (fun b _ => hA b) hp) ?_
  rintro _ w2 ⟨fr, w1, rfl, o1, s1, hT, M, hB⟩
  have hshw : ∀ b, L.sh y0 b → b < w.heap.size := fun b h => L.lt hI h
  have s2 : w2.heap.size = w.heap.size + 1 + 4 + 2 * n := M.size
  have o2 : ∀ b, b < w.heap.size → w2.heap[b]? = w.heap[b]? := fun b hb => (M.old b (by omega)).trans (o1 b hb)
  have hc2 : ∀ {b j : Nat} {v : Value}, w.cell? ⟨b, j, none⟩ = some v → w2.cell? ⟨b, j, none⟩ = some v := fun {b j v} h => (World.cell?_of_block (a := ⟨b, j, none⟩) (o2 b (cell_lt' h))).trans h
  have hI2 : L.I y0 s0 w2 := L.stable hI fun b h => o2 b (hshw b h)
  let g : OG := ⟨n, w2, w.heap.size + 1 + 1, ops, L.sh y0⟩
  let Q : Given := ⟨0, n, w.heap.size + 4, n, most, fun i => thrO (w.heap.size + 1) i, sa, sc, sl⟩
  obtain ⟨farr, hF1, hF2, hF3⟩ := M.cF
  have hfree : ∀ b, w.heap.size ≤ b → ¬ L.sh y0 b := fun b hb h => by have := hshw b h; omega
  refine Runs.then (over_run (fun S => crewO L g y0 hD S) (x0O L s0) Q (.slice (some ⟨w.heap.size + 4, 0, none⟩) n n) w2 hn1 hn hsl (fun _ => rfl) (by
      have := first_some (main := true) (V := fun _ => none) (w.heap.size + 4) n n w2 (Nat.le_refl _)
      rw [Nat.min_eq_left hn] at this
      exact this) (fun g0 sb scap sts => ⟨fun _ => [], ?_, fun _ => none, fun _ => .slice none 0 0, ?_⟩) fr (c :: cs)) ?_
  · intro i hi
    refine ⟨w.heap.size + 1 + 5 + 2 * i, w.heap.size + 1 + 2, w.heap.size + 1 + 4 + 2 * i, w.heap.size + 1, n, oa i, oc i, ⟨hi, hn, by rw [show g.ops i = ops i from rfl, I.len i hi]; omega, ?_, (cell_of M.cA 0).trans rfl, (cell_of (M.cI i hi) 0).trans rfl, (cell_of M.cD 0).trans rfl, ⟨hfree _ (by omega), show _ ≠ w.heap.size + 1 + 1 by omega⟩, ⟨hfree _ (by omega), show _ ≠ w.heap.size + 1 + 1 by omega⟩, ⟨hfree _ (by omega), show _ ≠ w.heap.size + 1 + 1 by omega⟩, ⟨hfree _ (by omega), show _ ≠ w.heap.size + 1 + 1 by omega⟩, fun j o ho => ?_⟩, rfl⟩
    · rw [show (g.ops i).length = min (ln i) 65536 from I.len i hi]
      exact (cell_of (M.cO i hi) 0).trans rfl
    · obtain ⟨b, off, e, c0, c1, c2, c3⟩ := I.ops i hi j o ho
      exact ⟨b, off, e, hns i hi j o ho b off e, show b ≠ w.heap.size + 1 + 1 by have := cell_lt' c0; omega, hc2 c0, hc2 c1, hc2 c2, hc2 c3⟩
  · refine ⟨y0, L.refl _, ⟨⟨rfl, show w.heap.size + 1 + 1 < w2.heap.size by omega, ⟨hfree _ (show w.heap.size ≤ w.heap.size + 4 by omega), show w.heap.size + 4 ≠ w.heap.size + 1 + 1 by omega⟩, fun i hi => ?_, fun j z hz => ?_⟩, Nat.zero_le _, Nat.le_refl _, fun _ _ => rfl, fun _ _ _ _ => rfl, fun _ _ h => (by cases h), fun b h => ⟨rfl, by have := hshw b h; show b ≠ w.heap.size + 1 + 1; omega, by have := hshw b h; show b < w2.heap.size; omega, fun _ => h⟩, hI2, ⟨_, M.cN, madeCells_size _ _, fun i hi => madeCells_get _ n i hi⟩, fun i hi => RowA.nil _ _ _, fun i hi => absurd hi (Nat.not_lt_zero _), fun _ _ _ => rfl⟩⟩
    · exact (cell_of hF1 i).trans (hF3 i hi)
    · obtain ⟨s, so, e, hc, h1⟩ := hsc j z hz
      exact ⟨s, so, e, hc2 hc, h1, show s ≠ w.heap.size + 1 + 1 by have := cell_lt' hc; omega⟩
  · rintro _ w4 ⟨_, ⟨g0, sb, scap, sts, x, ord, oa', oc', q, k, own, csx, hx, hov, rfl, ⟨hThr, pr, hd, y, hy, P⟩, hrow, hrb, hq, hqs, hsz, _⟩, rfl⟩
    have hT4 : w4.heap[w.heap.size]? = some (.cells #[.slice none 0 0, .slice none 0 0, .slice none 0 0, .bool false] 63) := (P.old _ (show w.heap.size < w2.heap.size by omega) (hfree _ (Nat.le_refl _)) (show w.heap.size ≠ w.heap.size + 1 + 1 by omega)).trans ((M.old _ (by omega)).trans hT)
    have hp : (x, ord) = playO L s0 ops n most sl := by
      rw [hx, follow_abs, born_abs]
      rfl
    have hg : decide (0 < goingX (crewO L g y0 hD (stile (Q.at g0) w2.heap.size sb scap sts)) x) = stuckO n x := rfl
    refine Runs.walk (hB oa' ord.length oc' _ _ w4 hT4 (hA _)) ?_
    rintro _ _ ⟨rfl, d, rfl⟩
    obtain ⟨arr, hAr, hAz, hAi⟩ := P.an
    have hset : ∀ b, b ≠ w.heap.size → (w4.setRow w.heap.size #[.slice (some ⟨w.heap.size + 2, 0, none⟩) n n, .slice oa' ord.length oc', .slice none 0 0, .bool (stuckO n x)]).heap[b]? = w4.heap[b]? := fun b hb => setRow_other _ _ hb
    have hle : w2.heap.size ≤ w4.heap.size := P.size
    have hshn : ∀ b, L.sh y b → b ≠ w.heap.size := fun b h e => hfree b (by omega) ((P.shl b h).2.2.2 (show b < w2.heap.size by omega))
    have hprn : ∀ b i, pr b = some i → b ≠ w.heap.size := fun b i h e => by
      have h1 : w2.heap.size ≤ b := (P.prl b i h).1
      omega
    have hoA : own (w.heap.size + 1 + 1) = none := P.base _ (show w.heap.size + 1 + 1 < w2.heap.size by omega)
    have e2 : (playO L s0 ops n most sl).1 = x := by rw [← hp]
    have e3 : (playO L s0 ops n most sl).2 = ord := by rw [← hp]
    refine .now ⟨_, ⟨?_, fun b hb hs => ?_, ?_⟩, rfl⟩
    · rw [e2, e3]
      refine ⟨y, w.heap.size + 2, oa', oc', hd, fun i b => pr b = some i, ⟨?_, ?_, by omega, ⟨arr, (hset _ (by omega)).trans hAr, hAz, hAi⟩, fun i hi => ?_, fun i j b h1 h2 => ?_, fun i b h => ⟨?_, (P.prl b i h).2.2.2⟩, fun i b h e => ?_, fun b h => ⟨(P.shl b h).2.1, fun e => ?_⟩, fun e => ?_, hy, L.stable P.I fun b h => hset b (hshn b h), fun b h hb => (P.shl b h).2.2.2 (show b < w2.heap.size by omega)⟩⟩
      · rw [hg]
      · refine row_same (row_raise hrow fun b hb => ?_) fun b hb => hset b ?_
        · have := hrow.lt b hb; omega
        · have := hrow.lt b hb; omega
      · exact ((P.row i hi).same fun b h => hset b (hprn b i h)).low (show w.heap.size ≤ w2.heap.size by omega)
      · rw [h1] at h2; exact Option.some.inj h2
      · have h1 : w2.heap.size ≤ b := (P.prl b i h).1
        omega
      · have h1 := (hrb b e).1
        rw [(P.prl b i h).2.2.1] at h1; cases h1
      · have h1 := (hrb b e).1
        rw [(P.shl b h).1] at h1; cases h1
      · have h1 := (hrb _ e).1
        rw [show w.heap.size + 2 = w.heap.size + 1 + 1 by omega, hoA] at h1; cases h1
    · exact (hset b (by omega)).trans ((P.old b (show b < w2.heap.size by omega) hs (show b ≠ w.heap.size + 1 + 1 by omega)).trans (o2 b hb))
    · show w.heap.size ≤ (w4.setRow _ _).heap.size
      rw [setRow_size]; omega
end
end
end Go.Proofs.Ytgfajibjedfkdaa
