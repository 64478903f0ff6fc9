/- Part 19. -/
import Derived.Test.YtjenoiekfkhafaaJ4
import Derived.Test.YtjenoiekfkhafaaJ5
import Derived.Test.YtjenoiekfkhafaaJ17
import Derived.Test.YtjenoiekfkhafaaJ18
set_option linter.unusedSimpArgs false
set_option linter.unusedVariables false
set_option linter.unusedVariables false
set_option maxHeartbeats 8000000
set_option maxRecDepth 100000
namespace Go.Proofs.Ytjenoiekfkhafaa
open Go.Conc Go.RowKit Go.Relay
open Go.ConcN (upd upd_ne upd_same)
section
noncomputable def reg18_0 := rg Try.f18.body [0]
noncomputable def reg18_1 := rg Try.f18.body [1, 0]
noncomputable def reg18_2 := rg Try.f18.body [1, 1, 0]
theorem z18 : List.range reg18_0.size = [0] ∧ List.range reg18_1.size = [0, 1, 2, 3, 4, 5, 6] ∧ List.range reg18_2.size = [0, 1] := by refine ⟨?_, ?_, ?_⟩ <;> kernel_rfl
theorem code18_is : Try.f18.body = some (.seq (.region 0 reg18_0 false) (.seq (.region 1 reg18_1 false) (.seq (.region 2 reg18_2 false) (.ret)))) := by kernel_rfl
noncomputable def reg22_0 := rg Try.f22.body [0]
noncomputable def reg22_1 := rg Try.f22.body [1, 0]
theorem z22 : List.range reg22_0.size = [0] ∧ List.range reg22_1.size = [0, 1, 2] := by refine ⟨?_, ?_⟩ <;> kernel_rfl
theorem code22_is : Try.f22.body = some (.seq (.region 0 reg22_0 false) (.seq (.region 1 reg22_1 false) (.ret))) := by kernel_rfl
noncomputable def reg35_0 := rg Try.f35.body [0]
noncomputable def reg35_1 := rg Try.f35.body [1, 0]
theorem z35 : List.range reg35_0.size = [0] ∧ List.range reg35_1.size = [0, 1, 2, 3, 4, 5, 6] := by refine ⟨?_, ?_⟩ <;> kernel_rfl
theorem code35_is : Try.f35.body = some (.seq (.region 0 reg35_0 false) (.seq (.region 1 reg35_1 false) (.ret))) := by kernel_rfl
section
variable {lb k : Nat} {s : Sq} {main : Bool} {V : Nat → Option Wait}
def wdL (k : Nat) (s : Sq) : List Int := (List.range (k + 1)).map s.w
def stL (k : Nat) (s : Sq) : List Int := s.v :: wdL k s
def dQ (k : Nat) (i : Nat) (l : List Int) : Ans ⊕ QD := if i = k + 1 then .inl ⟨true, 0, l⟩ else .inr (.q i l)
theorem dQ_eq {i : Nat} {l : List Int} (hi : i ≤ k) : dQ k i l = .inr (.q i l) := if_neg (by omega)
theorem dQ_act (s : Sq) (i : Nat) (l : List Int) : sqAct k s (.q i l) = (s, dQ k (i + 1) (l ++ [s.w i])) := by
  show (s, if i = k then _ else _) = _
  unfold dQ
  by_cases e : i = k
  · rw [if_pos e, if_pos (by omega)]
  · rw [if_neg e, if_neg (by omega)]
theorem dQ_run : ∀ (r i : Nat) (l : List Int), i + r = k + 1 → runN (sqLa lb k) r (s, dQ k i l) = some (s, ⟨true, 0, l ++ (List.range' i r).map s.w⟩)
  | 0, i, l, h => by
    have h : i = k + 1 := h
    unfold dQ
    rw [if_pos h]
    exact (runN_inl (sqLa lb k) 0 s _).trans (by simp; rfl)
  | r + 1, i, l, h => by
    have h1 : dQ k i l = .inr (.q i l) := dQ_eq (by omega)
    rw [h1]
    refine (congrArg (runN (sqLa lb k) r) (dQ_act (k := k) s i l)).trans ?_
    refine (dQ_run r (i + 1) (l ++ [s.w i]) (by omega)).trans ?_
    rw [List.range'_succ]
    simp
    rfl
structure Calm (lb k : Nat) (s : Sq) (w w' : World) : Prop where
  I : SqI lb k s w'
  old : ∀ b, b < w.heap.size → b ≠ lb → w'.heap[b]? = w.heap[b]?
  size : w.heap.size ≤ w'.heap.size
def ValsOut (lb k : Nat) (s : Sq) (w : World) (v : Value) (w' : World) : Prop := ∃ B, v = .slice (some ⟨B, 0, none⟩) (k + 1) (k + 1) ∧ NumB w' B (wdL k s) ∧ w.heap.size ≤ B ∧ Calm lb k s w w'
theorem lvalues_w (hA : ∀ b, Apart V b) (w : World) (I : SqI lb k s w) : CallW Try.prog main V 22 #[.pointer (some ⟨lb, 0, none⟩)] w (ValsOut lb k s w) := by
  have hrun := dQ_run (lb := lb) (k := k) (s := s) (k + 1) 0 [] (by omega)
  rw [List.nil_append, ← List.range_eq_range'] at hrun
  refine callW_in Try.func22 code22_is fun fr cs => ?_
  simp only [Try.ntmps22, ez, Nat.reduceAdd, Nat.reduceSub]
  repeat (first | refine Walk.cx ?_ | (refine Walk.cReg ?_; simp only [z22]) | (refine Walk.oq ?_; try walk_nrm) | (refine Walk.un ?_; walk_nrm))
  refine Walk.callLone (L := sqLa lb k) (Rel := fun v x w' P => ∃ B, v = .slice (some ⟨B, 0, none⟩) (k + 1) (k + 1) ∧ P B ∧ NumB w' B x.l) (k + 1) () s (dQ k 0 []) hA I hrun (fun K e ht => ?_) (ho_of (by conv => lhs; whnf) (by kernel_rfl)) (by rfl) (by decide) rfl Try.func31 (by kernel_rfl) (by rfl) ⟨rfl, rfl, _, Try.func22⟩ ?_
  · walk_nrm
    exact (raw_s K (dQ k) .q (fun i l hi => dQ_eq hi) (fun s i l _ => dQ_act s i l) e ht).mono fun v e' ⟨B, l, h1, h2, h3, h4, h5⟩ => ⟨⟨true, 0, l⟩, ⟨B, h1, h3, h4⟩, h5.trans (by unfold dQ; rw [if_pos rfl] <;> rfl)⟩
  rintro v w' y ⟨B, rfl, hB, hN⟩ hL
  walk_nrm
  repeat (first | refine Walk.cx ?_ | (refine Walk.cReg ?_; simp only [z22]) | (refine Walk.oq ?_; try walk_nrm) | (refine Walk.un ?_; walk_nrm))
  exact Walk.ret1 rfl rfl Try.func22 rfl fun d => ⟨B, rfl, hN, hB.1.1, hL.I.old rfl, fun b hb hne => hL.old b hb hne, hL.size⟩
theorem version_w (hA : ∀ b, Apart V b) (w : World) (I : SqI lb k s w) : CallW Try.prog main V 18 #[.pointer (some ⟨lb, 0, none⟩)] w (fun v w' => v = .int .i64 s.v ∧ Calm lb k s w w') := by
  have hrun : runN (sqLa lb k) 1 (s, .inr (.n1 0)) = some (s, ⟨decide (0 < s.v), s.v, []⟩) := rfl
  refine callW_in Try.func18 code18_is fun fr cs => ?_
  simp only [Try.ntmps18, ez, Nat.reduceAdd, Nat.reduceSub]
  repeat (first | refine Walk.cx ?_ | (refine Walk.cReg ?_; simp only [z18]) | (refine Walk.oq ?_; try walk_nrm) | (refine Walk.un ?_; walk_nrm))
  refine Walk.callLone (L := sqLa lb k) (Rel := fun v x w' P => v = .tuple #[.int .i64 x.n, .bool x.ok]) 1 () s (.inr (.n1 0)) hA I hrun (fun K e ht => ?_) (ho_of (by conv => lhs; whnf) (by kernel_rfl)) (by rfl) (by decide) rfl Try.func30 (by kernel_rfl) (by rfl) ⟨rfl, rfl, _, Try.func18⟩ ?_
  · walk_nrm
    exact (newer_s K e 0 ht).mono fun v e' ⟨b, x, h1, h2⟩ => ⟨⟨b, x, []⟩, h1, h2⟩
  rintro v w' y rfl hL
  walk_nrm
  repeat (first | refine Walk.cx ?_ | (refine Walk.cReg ?_; simp only [z18]) | (refine Walk.oq ?_; try walk_nrm) | (refine Walk.un ?_; walk_nrm))
  exact Walk.ret1 rfl rfl Try.func18 rfl fun d => ⟨rfl, hL.I.old rfl, fun b hb hne => hL.old b hb hne, hL.size⟩
theorem Calm.trans {w w1 w2 : World} (h1 : Calm lb k s w w1) (h2 : Calm lb k s w1 w2) : Calm lb k s w w2 :=
  ⟨h2.I, fun b hb hn => (h2.old b (Nat.lt_of_lt_of_le hb h1.size) hn).trans (h1.old b hb hn), Nat.le_trans h1.size h2.size⟩
def StOut (lb k : Nat) (s : Sq) (w : World) (v : Value) (w' : World) : Prop := ∃ B c, v = .slice (some ⟨B, 0, none⟩) (k + 2) c ∧ w'.ownsRow w.heap.size 2 1 (.slice (some ⟨B, 0, none⟩) (k + 2) c) (k + 2) ((stL k s).map fun z => .int .i64 z) ∧ Calm lb k s w w'
theorem state_w (hA : ∀ b, Apart V b) (w : World) (I : SqI lb k s w) : CallW Try.prog main V 35 #[.pointer (some ⟨lb, 0, none⟩)] w (StOut lb k s w) := by
  have hk15 := I.pos
  have hi1 := Option.some_get (show (Try.prog.info? 2).isSome = true by kernel_rfl)
  have hlen : (wdL k s).length = k + 1 := by simp [wdL]
  have hv := version_w (main := main) hA w I
  have hlt0 := I.lt
  refine callW_in Try.func35 code35_is fun fr cs => ?_
  simp only [Try.ntmps35, ez, Nat.reduceAdd, Nat.reduceSub]
  repeat (first | refine Walk.cx ?_ | (refine Walk.cReg ?_; simp only [z35]) | (refine Walk.oq ?_; try walk_nrm) | (refine Walk.un ?_; walk_nrm))
  refine Walk.callW (Post := fun v w' => v = .int .i64 s.v ∧ Calm lb k s w w') ?_ (ho_of (by conv => lhs; whnf) (by kernel_rfl)) (by rfl) (by decide) rfl Try.func18 (by kernel_rfl) (by rfl) ?_
  · walk_nrm
    exact hv
  rintro v w1 ⟨rfl, hC1⟩
  walk_nrm
  (refine Walk.oa ?_; try walk_nrm)
  have d1 := heap_alloc_new w1 (.cells #[.int .i64 s.v] 2)
  have s1 : (w1.alloc (.cells #[.int .i64 s.v] 2)).heap.size = w1.heap.size + 1 := by simp
  have o1 : ∀ b, b < w1.heap.size → (w1.alloc (.cells #[.int .i64 s.v] 2)).heap[b]? = w1.heap[b]? := fun b hb => heap_new_lt _ _ hb
  have hC2 : Calm lb k s w (w1.alloc (.cells #[.int .i64 s.v] 2)) := hC1.trans ⟨hC1.I.old (o1 lb (by have := hC1.size; omega)), fun b hb _ => o1 b hb, by omega⟩
  have hw1s := hC1.size
  generalize hN : w1.heap.size = N at *
  generalize w1.alloc (.cells #[.int .i64 s.v] 2) = w2 at *
  have hvl := lvalues_w (main := main) hA w2 hC2.I
  repeat (first | refine Walk.cx ?_ | (refine Walk.cReg ?_; simp only [z35]) | (refine Walk.oq ?_; try walk_nrm) | (refine Walk.un ?_; walk_nrm))
  refine Walk.callW (Post := ValsOut lb k s w2) ?_ (ho_of (by conv => lhs; whnf) (by kernel_rfl)) (by rfl) (by decide) rfl Try.func22 (by kernel_rfl) (by rfl) ?_
  · walk_nrm
    exact hvl
  rintro v w3 ⟨B, rfl, hNB, hB, hC3⟩
  have d3 := (hC3.old N (by omega) (by omega)).trans d1
  have hC4 := hC2.trans hC3
  have hown : w3.ownsRow w.heap.size 2 1 (.slice (some ⟨N, 0, none⟩) 1 1) 1 [.int .i64 s.v] := ⟨rfl, .inr ⟨N, 1, _, rfl, by omega, d3, Nat.le_refl _, by decide, rfl, rfl⟩⟩
  clear hv hvl
  walk_nrm
  repeat (first | refine Walk.cx ?_ | (refine Walk.cReg ?_; simp only [z35]) | (refine Walk.oq ?_; try walk_nrm) | (refine Walk.un ?_; walk_nrm))
  refine Walk.append (.tmp 5) (.tmp 7) 22 (ho_of (by conv => lhs; whnf) (by kernel_rfl)) (by rfl) (by decide) rfl w.heap.size 2 _ (.int .i64 0) 1 8 huI64s hi1.symm (by rfl) (by rfl) (by rfl) (by rfl) (by decide) (.slice (some ⟨N, 0, none⟩) 1 1) 1 [.int .i64 s.v] rfl hown ⟨B, 0, none⟩ (k + 1) (k + 1) ((wdL k s).map fun z => .int .i64 z) rfl (by simp [hlen]) (fun j u hu => ?_) (fun u hu => ?_) (by omega) (by simp only [maxLen]; omega) (by omega) hC4.size (fun g hg => hA g) (fun g cap w' hown' hgr hat hlt => ?_)
  · rw [List.getElem?_map, Option.map_eq_some_iff] at hu
    obtain ⟨y, hy, rfl⟩ := hu
    rw [add_none, Nat.zero_add]
    exact hNB.cell hy
  · obtain ⟨y, _, rfl⟩ := List.mem_map.1 hu
    rfl
  have hgN : some lb ≠ (Value.slice (some ⟨N, 0, none⟩) 1 1).ownBlock := fun e => by
    have : lb = N := Option.some.inj e
    omega
  have hC5 : Calm lb k s w w' := ⟨hC4.I.old (hgr.block lb (by have := hC4.size; omega) hgN), fun b hb hn => (hgr.block b (by have := hC4.size; omega) fun e => by
    have : b = N := Option.some.inj e
    omega).trans (hC4.old b hb hn), Nat.le_trans hC4.size hgr.size⟩
  walk_nrm
  repeat (first | refine Walk.cx ?_ | (refine Walk.cReg ?_; simp only [z35]) | (refine Walk.oq ?_; try walk_nrm) | (refine Walk.un ?_; walk_nrm))
  refine Walk.ret1 rfl rfl Try.func35 rfl fun d => ⟨g, cap, by rw [Nat.add_comm 1]; rfl, ?_, hC5.I.old rfl, hC5.old, hC5.size⟩
  have h := hown'
  rw [Nat.add_comm 1] at h
  exact row_same h fun _ _ => rfl
end
end
section
variable {main : Bool} {V : Nat → Option Wait}
section
variable {P : Program} {t e : TypeId} {ti : TypeInfo}
theorem run_sl_of (hu : P.underlying t = some (.slice e)) (hi : P.info? e = some ti) (tb m cap x : Nat) (hx : x ≤ cap) (w : World) (es : Array Event) : (Instr.sliceAt t (.slice (some ⟨tb, 0, none⟩) m cap) none (some (.int .i64 x)) none).run P w = .ok (.slice (some ⟨tb, 0, none⟩) x cap) w ∧
    (Instr.sliceAt t (.slice (some ⟨tb, 0, none⟩) m cap) none (some (.int .i64 x)) none).events P w es = es := by
  have h1 : (x : Int) ≤ cap := by omega
  constructor <;> simp [Instr.sliceAt, Instr.slice, run_underlying hu, Instr.sliceBounds, Instr.sliceBound, asIntOf, sizeOf, typeInfo, hi, h1, hx, Addr.add]
end
theorem hu53 : Try.prog.underlying 101 = some (.slice 114) := by kernel_rfl
theorem first_some (tb m tcap : Nat) (w : World) (hm : m ≤ tcap) : CallV Try.prog main V 65 #[.slice (some ⟨tb, 0, none⟩) m tcap] w (.slice (some ⟨tb, 0, none⟩) (min m 64) tcap) w := by
  refine callW_in Try.func65 rfl fun fr cs => ?_
  simp only [Try.ntmps65, ez, Nat.reduceAdd, Nat.reduceSub]
  have hmn := @events_min_ints Try.prog
  repeat (first | refine Walk.cx ?_ | refine Walk.cR ?_ | (refine Walk.oq ?_; try walk_nrm) | (refine Walk.un ?_; walk_nrm))
  have hmin : min (m : Int) 64 = ((min m 64 : Nat) : Int) := by omega
  rw [hmin]
  have hxl : min m 64 ≤ tcap := by omega
  generalize min m 64 = x at hxl ⊢
  have hi := Option.some_get (show (Try.prog.info? 114).isSome = true by kernel_rfl)
  have hs := fun w => (run_sl_of hu53 hi.symm tb m tcap x hxl w #[]).1
  have hse := fun w es => (run_sl_of hu53 hi.symm tb m tcap x hxl w es).2
  clear hi
  repeat (first | refine Walk.cx ?_ | refine Walk.cR ?_ | (refine Walk.oq ?_; try walk_nrm) | (refine Walk.un ?_; walk_nrm))
  exact Walk.ret1 rfl rfl Try.func65 rfl fun d => ⟨by simp, d, rfl⟩
end
section
noncomputable def reg49_0 := rg Try.f49.body [0]
noncomputable def reg49_1 := rg Try.f49.body [1, 0]
noncomputable def reg49_2 := rg Try.f49.body [1, 1, 0]
noncomputable def reg49_3 := rg Try.f49.body [1, 1, 1, 0]
noncomputable def reg49_4 := rg Try.f49.body [1, 1, 1, 1, 0, 0]
noncomputable def reg49_5 := rg Try.f49.body [1, 1, 1, 1, 0, 1, 0, 0, 0]
noncomputable def reg49_6 := rg Try.f49.body [1, 1, 1, 1, 0, 1, 0, 0, 1, 1, 0, 0, 0]
noncomputable def reg49_7 := rg Try.f49.body [1, 1, 1, 1, 0, 1, 0, 0, 1, 1, 0, 0, 1, 0]
noncomputable def reg49_8 := rg Try.f49.body [1, 1, 1, 1, 0, 1, 0, 0, 1, 1, 0, 0, 1, 1]
noncomputable def reg49_9 := rg Try.f49.body [1, 1, 1, 1, 0, 1, 0, 0, 1, 1, 1]
noncomputable def reg49_10 := rg Try.f49.body [1, 1, 1, 1, 1, 0]
theorem size49_10 : reg49_10.size = 4 := by kernel_rfl
theorem z49 : List.range reg49_0.size = [0, 1, 2] ∧ List.range reg49_1.size = [0, 1, 2] ∧ List.range reg49_2.size = [0, 1, 2, 3, 4] ∧ List.range reg49_3.size = [0, 1, 2, 3] ∧ List.range reg49_4.size = [0, 1, 2] ∧ List.range reg49_5.size = [0] ∧ List.range reg49_6.size = [0, 1, 2, 3, 4, 5, 6] ∧ List.range reg49_7.size = [0, 1, 2, 3, 4, 5] ∧ List.range reg49_8.size = [0, 1, 2, 3, 4] ∧ List.range reg49_9.size = [0, 1] ∧ List.range reg49_10.size = [0, 1, 2, 3] := by refine ⟨?_, ?_, ?_, ?_, ?_, ?_, ?_, ?_, ?_, ?_, ?_⟩ <;> kernel_rfl
theorem code49_is : Try.f49.body = some (.seq (.region 0 reg49_0 false) (.seq (.region 1 reg49_1 false) (.seq (.region 2 reg49_2 false) (.seq (.region 3 reg49_3 false) (.seq (.seq (.region 4 reg49_4 false) (.block 0 (.loop (.seq (.region 5 reg49_5 false) (.seq (.cond (.tmp 21 ) (.skip) (.exit 0)) (.seq (.block 1 (.seq (.region 6 reg49_6 false) (.seq (.region 7 reg49_7 false) (.region 8 reg49_8 false)))) (.region 9 reg49_9 false))))))) (.seq (.region 10 reg49_10 true) (.ret))))))) := by kernel_rfl
def thrO (N i : Nat) : Value := .func (.func 63) #[] #[.pointer (some ⟨N + 5 + 2 * i, 0, none⟩), .pointer (some ⟨N + 2, 0, none⟩), .pointer (some ⟨N + 4 + 2 * i, 0, none⟩), .pointer (some ⟨N, 0, none⟩)]
structure MkO (N n : Nat) (dv : Value) (oa : Nat → Option Addr) (ln oc : Nat → Nat) (w0 w : World) (i : Nat) : Prop where
  size : w.heap.size = N + 4 + 2 * i
  old : ∀ b, b < N → w.heap[b]? = w0.heap[b]?
  cD : w.heap[N]? = some (.cells #[dv] 83)
  cN : w.heap[N + 1]? = some (.cells (madeCells #[.slice none 0 0] n) 42)
  cA : w.heap[N + 2]? = some (.cells #[.slice (some ⟨N + 1, 0, none⟩) n n] 29)
  cF : ∃ arr : Array Value, w.heap[N + 3]? = some (.cells arr 114) ∧ arr.size = n ∧ ∀ j, j < i → arr[j]? = some (thrO N j)
  cI : ∀ j, j < i → w.heap[N + 4 + 2 * j]? = some (.cells #[.int .i64 (j : Nat)] 3)
  cO : ∀ j, j < i → w.heap[N + 5 + 2 * j]? = some (.cells #[.slice (oa j) (min (ln j) 65536) (oc j)] 34)
theorem MkO.at {N n : Nat} {dv : Value} {oa : Nat → Option Addr} {ln oc : Nat → Nat} {w0 w : World} {i : Nat} (h : MkO N n dv oa ln oc w0 w i) (d : Nat) : MkO N n dv oa ln oc w0 (w.at d) i := ⟨h.size, h.old, h.cD, h.cN, h.cA, h.cF, h.cI, h.cO⟩
section
variable {P : Program} {t e : TypeId} {ti : TypeInfo}
theorem run_slx (hu : P.underlying t = some (.slice e)) (hi : P.info? e = some ti) (a : Option Addr) (m cap x : Nat) (hx : x ≤ cap) (ha : a = none ∧ cap = 0 ∨ ∃ p, a = some p) (w : World) (es : Array Event) : (Instr.sliceAt t (.slice a m cap) none (some (.int .i64 x)) none).run P w = .ok (.slice a x cap) w ∧
    (Instr.sliceAt t (.slice a m cap) none (some (.int .i64 x)) none).events P w es = es := by
  have h1 : (x : Int) ≤ cap := by omega
  rcases ha with ⟨rfl, rfl⟩ | ⟨p, rfl⟩
  · have : x = 0 := by omega
    subst this
    constructor <;> simp [Instr.sliceAt, Instr.slice, run_underlying hu, Instr.sliceBounds, Instr.sliceBound, asIntOf, sizeOf, typeInfo, hi]
  · constructor <;> simp [Instr.sliceAt, Instr.slice, run_underlying hu, Instr.sliceBounds, Instr.sliceBound, asIntOf, sizeOf, typeInfo, hi, h1, hx, Addr.add]
end
theorem huOps : Try.prog.underlying 34 = some (.slice 47) := by kernel_rfl
noncomputable def hd46 (dv : Value) (ta : Option Addr) (tc N n j : Nat) (u : Nat → Value) : Frame :=
  (base 49).at { tmps := #[.slice ta n tc, dv, u 2, .pointer (some ⟨N, 0, none⟩), u 4, u 5, .pointer (some ⟨N + 2, 0, none⟩), .slice (some ⟨N + 3, 0, none⟩) n n, u 8, u 9, u 10, u 11, u 12, u 13, u 14, u 15, u 16, u 17, .slice ta n tc, .int .i64 n, .int .i64 j, u 21, u 22, u 23, u 24, u 25, u 26, u 27, u 28, u 29, u 30, u 31, u 32, u 33, u 34, u 35, u 36], defers := [] } [.code (.seq (.region 5 reg49_5 false) (.seq (.cond (.tmp 21 ) (.skip) (.exit 0)) (.seq (.block 1 (.seq (.region 6 reg49_6 false) (.seq (.region 7 reg49_7 false) (.region 8 reg49_8 false)))) (.region 9 reg49_9 false)))), .inLoop (.seq (.region 5 reg49_5 false) (.seq (.cond (.tmp 21 ) (.skip) (.exit 0)) (.seq (.block 1 (.seq (.region 6 reg49_6 false) (.seq (.region 7 reg49_7 false) (.region 8 reg49_8 false)))) (.region 9 reg49_9 false)))), .inBlock 0, .code (.seq (.region 10 reg49_10 true) (.ret))]
section
variable {main : Bool} {V : Nat → Option Wait}
theorem madeCells_get (v : Value) (n i : Nat) (hi : i < n) : (madeCells #[v] n)[i]? = some v := by
  have : (madeCells #[v] n)[i]? = (madeCells #[v] n).toList[i]? := by simp
  rw [this, toList_madeCells_one, List.getElem?_replicate, if_pos hi]
theorem madeCells_size (v : Value) (n : Nat) : (madeCells #[v] n).size = n := by
  rw [← Array.length_toList, toList_madeCells_one, List.length_replicate]
theorem opThreads_in (fdo : FuncId) (first cap : Array Value) (tv : Value) (ta : Option Addr) (tc n : Nat) (hn : n ≤ 64) (cs : List Frame) (w : World) (hA : ∀ b, w.heap.size ≤ b → Apart V b)
    (hp : ∀ w' : World, (∀ b, b < w.heap.size → w'.heap[b]? = w.heap[b]?) → CallV Try.prog main V 62 #[tv] w' (.slice ta n tc) w') (oa : Nat → Option Addr) (ln oc : Nat → Nat) :
    Walk Try.prog main (DR V) (fun g w' => (∃ u, g = G (hd46 (.func (.func fdo) first cap) ta tc w.heap.size n 0 u) cs) ∧ MkO w.heap.size n (.func (.func fdo) first cap) oa ln oc w w' 0) (G (Frame.enter Try.prog 49 #[tv, .func (.func fdo) first cap] .normal) cs) w := by
  have hi1 := Option.some_get (show (Try.prog.info? 42).isSome = true by kernel_rfl)
  have hi2 := Option.some_get (show (Try.prog.info? 114).isSome = true by kernel_rfl)
  rw [enter_at _ Try.func49 code49_is]
  simp only [Try.ntmps49, ez, Nat.reduceAdd, Nat.reduceSub]
  repeat (first | refine Walk.cx ?_ | (refine Walk.cReg ?_; simp only [z49]) | (refine Walk.oq ?_; try walk_nrm) | (refine Walk.un ?_; walk_nrm))
  (refine Walk.oa ?_; try walk_nrm)
  have s1 : (w.alloc (.cells #[.func (.func fdo) first cap] 83)).heap.size = w.heap.size + 1 := by simp
  have o1 : ∀ b, b < w.heap.size → (w.alloc (.cells #[.func (.func fdo) first cap] 83)).heap[b]? = w.heap[b]? := fun b hb => heap_new_lt _ _ hb
  have d1 := heap_alloc_new w (.cells #[.func (.func fdo) first cap] 83)
  generalize hN : w.heap.size = N at *
  generalize w.alloc (.cells #[.func (.func fdo) first cap] 83) = w1 at *
  repeat (first | refine Walk.cx ?_ | (refine Walk.cReg ?_; simp only [z49]) | (refine Walk.oq ?_; try walk_nrm) | (refine Walk.un ?_; walk_nrm))
  refine Walk.callV (x := .slice ta n tc) (W := w1) ?_ (ho_of (by conv => lhs; whnf) (by kernel_rfl)) (by rfl) (by decide) rfl Try.func62 (by kernel_rfl) (by rfl) ?_
  · walk_nrm
    exact hp w1 o1
  walk_nrm
  repeat (first | refine Walk.cx ?_ | (refine Walk.cReg ?_; simp only [z49]) | (refine Walk.oq ?_; try walk_nrm) | (refine Walk.un ?_; walk_nrm))
  refine Walk.make 29 (.tmp 13) (.tmp 13) (ho_of (by conv => lhs; whnf) (by kernel_rfl)) (by rfl) (by decide) rfl 42 _ (.slice none 0 0) 1 24 (by kernel_rfl) hi1.symm (by rfl) (by rfl) (by rfl) n (by rfl) (by rfl) (by omega) (by omega) ?_
  walk_nrm
  simp only [Value.cells, Nat.mul_one]
  have s2 : (w1.alloc (.cells (madeCells #[.slice none 0 0] n) 42)).heap.size = N + 2 := by simp [s1]
  have o2 : ∀ b, b < N + 1 → (w1.alloc (.cells (madeCells #[.slice none 0 0] n) 42)).heap[b]? = w1.heap[b]? := fun b hb => heap_new_lt _ _ (by omega)
  have d2 := heap_alloc_new w1 (.cells (madeCells #[.slice none 0 0] n) 42)
  rw [s1] at d2
  try simp only [s1]
  generalize w1.alloc (.cells (madeCells #[.slice none 0 0] n) 42) = w2 at *
  (refine Walk.oa ?_; try walk_nrm)
  have s3 : (w2.alloc (.cells #[.slice none 0 0] 29)).heap.size = N + 3 := by simp [s2]
  have o3 : ∀ b, b < N + 2 → (w2.alloc (.cells #[.slice none 0 0] 29)).heap[b]? = w2.heap[b]? := fun b hb => heap_new_lt _ _ (by omega)
  have d3 := heap_alloc_new w2 (.cells #[.slice none 0 0] 29)
  rw [s2] at d3
  try simp only [s2]
  generalize w2.alloc (.cells #[.slice none 0 0] 29) = w3 at *
  have c3 := (cell_of d3 0).trans rfl
  have z3 := frozen_of d3 0
  have f3 := (hA (N + 2) (by omega)).1 ⟨N + 2, 0, none⟩ rfl
  (refine Walk.os f3 c3 ?_; try walk_nrm)
  have s4 := size_set w3 ⟨N + 2, 0, none⟩ (.slice (some ⟨N + 1, 0, none⟩) n n)
  have o4 : ∀ b, b ≠ N + 2 → (w3.setCell ⟨N + 2, 0, none⟩ (.slice (some ⟨N + 1, 0, none⟩) n n)).heap[b]? = w3.heap[b]? := fun b hb => heap_set_other _ _ _ _ hb
  have d4 : (w3.setCell ⟨N + 2, 0, none⟩ (.slice (some ⟨N + 1, 0, none⟩) n n)).heap[N + 2]? = some (.cells #[.slice (some ⟨N + 1, 0, none⟩) n n] 29) := by
    rw [heap_set_self _ _ d3]
    simp
  rw [s3] at s4
  clear c3 z3 f3
  generalize w3.setCell ⟨N + 2, 0, none⟩ (.slice (some ⟨N + 1, 0, none⟩) n n) = w4 at *
  repeat (first | refine Walk.cx ?_ | (refine Walk.cReg ?_; simp only [z49]) | (refine Walk.oq ?_; try walk_nrm) | (refine Walk.un ?_; walk_nrm))
  refine Walk.make 101 (.tmp 16) (.tmp 16) (ho_of (by conv => lhs; whnf) (by kernel_rfl)) (by rfl) (by decide) rfl 114 _ .nilFunc 1 8 (by kernel_rfl) hi2.symm (by rfl) (by rfl) (by rfl) n (by rfl) (by rfl) (by omega) (by omega) ?_
  walk_nrm
  simp only [Value.cells, Nat.mul_one]
  have s5 : (w4.alloc (.cells (madeCells #[.nilFunc] n) 114)).heap.size = N + 4 := by simp [s4]
  have o5 : ∀ b, b < N + 3 → (w4.alloc (.cells (madeCells #[.nilFunc] n) 114)).heap[b]? = w4.heap[b]? := fun b hb => heap_new_lt _ _ (by omega)
  have d5 := heap_alloc_new w4 (.cells (madeCells #[.nilFunc] n) 114)
  rw [s4] at d5
  try simp only [s4]
  generalize w4.alloc (.cells (madeCells #[.nilFunc] n) 114) = w5 at *
  repeat (first | refine Walk.cx ?_ | (refine Walk.cReg ?_; simp only [z49]) | (refine Walk.oq ?_; try walk_nrm) | (refine Walk.un ?_; walk_nrm))
  refine Walk.ctl rfl (fun w => stepG_loop) ?_
  refine .stop fun d => ⟨at_slots ?_, MkO.at ⟨by omega, fun b hb => ?_, ?_, ?_, ?_, ⟨_, d5, madeCells_size _ _, fun j hj => absurd hj (Nat.not_lt_zero _)⟩, fun j hj => absurd hj (Nat.not_lt_zero _), fun j hj => absurd hj (Nat.not_lt_zero _)⟩ d⟩
  · simp only [hd46]
    rfl
  · rw [o5 b (by omega), o4 b (by omega), o3 b (by omega), o2 b (by omega), o1 b hb]
  · rw [o5 N (by omega), o4 N (by omega), o3 N (by omega), o2 N (by omega), d1]
  · rw [o5 _ (by omega), o4 _ (by omega), o3 _ (by omega), d2]
  · rw [o5 _ (by omega), d4]
end
end
section
section
variable {main : Bool} {V : Nat → Option Wait}
structure OpsIn (tb toff n : Nat) (oa : Nat → Option Addr) (ln oc : Nat → Nat) (ops : Nat → List OpV) (w : World) : Prop where
  hd : ∀ i, i < n → w.cell? ⟨tb, toff + i, none⟩ = some (.slice (oa i) (ln i) (oc i))
  cap : ∀ i, i < n → ln i ≤ oc i
  ad : ∀ i, i < n → (oa i = none ∧ oc i = 0) ∨ ∃ p, oa i = some p
  len : ∀ i, i < n → (ops i).length = min (ln i) 65536
  ops : ∀ i, i < n → ∀ (j : Nat) (o : OpV), (ops i)[j]? = some o → ∃ b off, oa i = some ⟨b, off, none⟩ ∧ w.cell? ⟨b, off + j * 4, none⟩ = some (.int .i64 o.k) ∧ w.cell? ⟨b, off + j * 4 + 1, none⟩ = some (.int .i64 o.a) ∧ w.cell? ⟨b, off + j * 4 + 2, none⟩ = some (.int .i64 o.b) ∧ w.cell? ⟨b, off + j * 4 + 3, none⟩ = some (.int .i64 o.c)
theorem opThreads_go (dv : Value) (tb toff tc N n i : Nat) (hn : n ≤ 64) (hi : i < n) (oa : Nat → Option Addr) (ln oc : Nat → Nat) (u : Nat → Value) (cs : List Frame) (w0 w : World) (hN : w0.heap.size = N) (M : MkO N n dv oa ln oc w0 w i) (hA : ∀ b, N ≤ b → Apart V b)
    (hh : w0.cell? ⟨tb, toff + i, none⟩ = some (.slice (oa i) (ln i) (oc i))) (hcap : ln i ≤ oc i) (had : (oa i = none ∧ oc i = 0) ∨ ∃ p, oa i = some p) :
    Walk Try.prog main (DR V) (fun g w' => (∃ u, g = G (hd46 dv (some ⟨tb, toff, none⟩) tc N n (i + 1) u) cs) ∧ MkO N n dv oa ln oc w0 w' (i + 1)) (G (hd46 dv (some ⟨tb, toff, none⟩) tc N n i u) cs) w := by
  have hmn := @events_min_ints Try.prog
  have hiOp := Option.some_get (show (Try.prog.info? 47).isSome = true by kernel_rfl)
  have hx : w.cell? ⟨tb, toff + i, none⟩ = some (.slice (oa i) (ln i) (oc i)) := (World.cell?_of_block (a := ⟨tb, toff + i, none⟩) (M.old tb (by have := cell_lt' hh; omega))).trans hh
  obtain ⟨arr, c5, hsz, hF⟩ := M.cF
  have hs := M.size
  have hi0 : (0 : Int) ≤ i := by omega
  have hi1 : decide ((i : Int) < n) = true := by simp; omega
  have hi2 : decide (n ≤ i) = false := by simp; omega
  have hi3 : decide (i < n) = true := by simp; omega
  have hw1 : IntKind.wrap .i64 ((i : Int) + 1) = (i : Int) + 1 := by rw [IntKind.wrap_i64]; omega
  unfold hd46
  repeat (first | refine Walk.cx ?_ | (refine Walk.cReg ?_; simp only [z49]) | (refine Walk.oq ?_; try walk_nrm) | (refine Walk.un ?_; walk_nrm))
  (refine Walk.oa ?_; try walk_nrm)
  have s1 : (w.alloc (.cells #[.int .i64 0] 3)).heap.size = N + 5 + 2 * i := by simp [hs]; omega
  have d1 : (w.alloc (.cells #[.int .i64 0] 3)).heap[N + 4 + 2 * i]? = some (.cells #[.int .i64 0] 3) := hs ▸ heap_alloc_new w (.cells #[.int .i64 0] 3)
  have o1 : ∀ b, b < N + 4 + 2 * i → (w.alloc (.cells #[.int .i64 0] 3)).heap[b]? = w.heap[b]? := fun b hb => heap_new_lt _ _ (by omega)
  try simp only [hs]
  generalize w.alloc (.cells #[.int .i64 0] 3) = w1 at *
  (refine Walk.oa ?_; try walk_nrm)
  have s2 : (w1.alloc (.cells #[.slice none 0 0] 34)).heap.size = N + 6 + 2 * i := by simp [s1]; omega
  have d2 : (w1.alloc (.cells #[.slice none 0 0] 34)).heap[N + 5 + 2 * i]? = some (.cells #[.slice none 0 0] 34) := s1 ▸ heap_alloc_new w1 (.cells #[.slice none 0 0] 34)
  have o2 : ∀ b, b < N + 5 + 2 * i → (w1.alloc (.cells #[.slice none 0 0] 34)).heap[b]? = w1.heap[b]? := fun b hb => heap_new_lt _ _ (by omega)
  try simp only [s1]
  generalize w1.alloc (.cells #[.slice none 0 0] 34) = w2 at *
  have d1' := (o2 (N + 4 + 2 * i) (by omega)).trans d1
  have c1 := (cell_of d1' 0).trans rfl
  have z1 := frozen_of d1' 0
  have f1 := (hA (N + 4 + 2 * i) (by omega)).1 ⟨N + 4 + 2 * i, 0, none⟩ rfl
  (refine Walk.os f1 c1 ?_; try walk_nrm)
  have s3 := size_set w2 ⟨N + 4 + 2 * i, 0, none⟩ (.int .i64 (i : Nat))
  have o3 : ∀ b, b ≠ N + 4 + 2 * i → (w2.setCell ⟨N + 4 + 2 * i, 0, none⟩ (.int .i64 (i : Nat))).heap[b]? = w2.heap[b]? := fun b hb => heap_set_other _ _ _ _ hb
  have d3 : (w2.setCell ⟨N + 4 + 2 * i, 0, none⟩ (.int .i64 (i : Nat))).heap[N + 4 + 2 * i]? = some (.cells #[.int .i64 (i : Nat)] 3) := by
    rw [heap_set_self _ _ d1']
    simp
  clear c1 z1 f1
  generalize w2.setCell ⟨N + 4 + 2 * i, 0, none⟩ (.int .i64 (i : Nat)) = w3 at *
  have d2' := (o3 (N + 5 + 2 * i) (by omega)).trans d2
  have c2 := (cell_of d2' 0).trans rfl
  have z2 := frozen_of d2' 0
  have f2 := (hA (N + 5 + 2 * i) (by omega)).1 ⟨N + 5 + 2 * i, 0, none⟩ rfl
  (refine Walk.os f2 c2 ?_; try walk_nrm)
  have s4 := size_set w3 ⟨N + 5 + 2 * i, 0, none⟩ (.slice (oa i) (ln i) (oc i))
  have o4 : ∀ b, b ≠ N + 5 + 2 * i → (w3.setCell ⟨N + 5 + 2 * i, 0, none⟩ (.slice (oa i) (ln i) (oc i))).heap[b]? = w3.heap[b]? := fun b hb => heap_set_other _ _ _ _ hb
  have d4 : (w3.setCell ⟨N + 5 + 2 * i, 0, none⟩ (.slice (oa i) (ln i) (oc i))).heap[N + 5 + 2 * i]? = some (.cells #[.slice (oa i) (ln i) (oc i)] 34) := by
    rw [heap_set_self _ _ d2']
    simp
  clear c2 z2
  generalize w3.setCell ⟨N + 5 + 2 * i, 0, none⟩ (.slice (oa i) (ln i) (oc i)) = w4 at *
  have c4 := (cell_of d4 0).trans rfl
  have z4 := frozen_of d4 0
  repeat (first | refine Walk.cx ?_ | (refine Walk.cReg ?_; simp only [z49]) | (refine Walk.oq ?_; try walk_nrm) | (refine Walk.un ?_; walk_nrm))
  have hmin : min (ln i : Int) 65536 = ((min (ln i) 65536 : Nat) : Int) := by omega
  try rw [hmin]
  have hxl : min (ln i) 65536 ≤ oc i := by omega
  generalize hxx : min (ln i) 65536 = x at hxl ⊢
  have hsl := fun w => (run_slx huOps hiOp.symm (oa i) (ln i) (oc i) x hxl (by rcases had with h | h; exact .inl h; exact .inr h) w #[]).1
  have hse := fun w es => (run_slx huOps hiOp.symm (oa i) (ln i) (oc i) x hxl (by rcases had with h | h; exact .inl h; exact .inr h) w es).2
  repeat (first | refine Walk.cx ?_ | (refine Walk.cReg ?_; simp only [z49]) | (refine Walk.oq ?_; try walk_nrm) | (refine Walk.un ?_; walk_nrm))
  (refine Walk.os f2 c4 ?_; try walk_nrm)
  have s5 := size_set w4 ⟨N + 5 + 2 * i, 0, none⟩ (.slice (oa i) x (oc i))
  have o5 : ∀ b, b ≠ N + 5 + 2 * i → (w4.setCell ⟨N + 5 + 2 * i, 0, none⟩ (.slice (oa i) x (oc i))).heap[b]? = w4.heap[b]? := fun b hb => heap_set_other _ _ _ _ hb
  have d5 : (w4.setCell ⟨N + 5 + 2 * i, 0, none⟩ (.slice (oa i) x (oc i))).heap[N + 5 + 2 * i]? = some (.cells #[.slice (oa i) x (oc i)] 34) := by
    rw [heap_set_self _ _ d4]
    simp
  clear c4 z4 hsl hse hmn
  generalize w4.setCell ⟨N + 5 + 2 * i, 0, none⟩ (.slice (oa i) x (oc i)) = w5 at *
  have d3' := (o5 (N + 4 + 2 * i) (by omega)).trans ((o4 (N + 4 + 2 * i) (by omega)).trans d3)
  have c3 := (cell_of d3' 0).trans rfl
  have old5 : ∀ b, b < N + 4 + 2 * i → w5.heap[b]? = w.heap[b]? := fun b hb => by rw [o5 b (by omega), o4 b (by omega), o3 b (by omega), o2 b (by omega), o1 b hb]
  have e5 := (old5 (N + 3) (by omega)).trans c5
  have hil : i < arr.size := by omega
  have c6 := (cell_of e5 i).trans (Array.getElem?_eq_getElem hil)
  have z6 := frozen_of e5 i
  have f6 := (hA (N + 3) (by omega)).1 ⟨N + 3, i, none⟩ rfl
  have hst : ∀ d, (store ⟨N + 3, i, none⟩ (thrO N i)).run Try.prog (w5.at d) = .ok () ((w5.setCell ⟨N + 3, i, none⟩ (thrO N i)).at d) := fun d => by
    have hy' : (w5.at d).cell? ⟨N + 3, i, none⟩ = some arr[i] := c6
    have hz' : (w5.at d).frozen? ⟨N + 3, i, none⟩ = false := z6
    rw [run_store Try.prog (w5.at d) _ _ _ rfl, hy']
    simp only [hz', Bool.false_eq_true, if_false]
    rfl
  have hse : ∀ d es, (store ⟨N + 3, i, none⟩ (thrO N i)).events Try.prog (w5.at d) es = es.push ⟨.cell ⟨N + 3, i, none⟩, true, false⟩ := fun d es => by
    have hy' : (w5.at d).cell? ⟨N + 3, i, none⟩ = some arr[i] := c6
    have hz' : (w5.at d).frozen? ⟨N + 3, i, none⟩ = false := z6
    rw [events_store Try.prog (w5.at d) es _ _ _ rfl, hy']
    simp only [hz', Bool.false_eq_true, if_false]
    rfl
  simp only [thrO] at hst hse
  repeat (first | refine Walk.cx ?_ | (refine Walk.cReg ?_; simp only [z49]) | (refine Walk.oq ?_; try walk_nrm) | (refine Walk.un ?_; walk_nrm))
  refine Walk.opw (W := w5.setCell ⟨N + 3, i, none⟩ (thrO N i)) (ho_of (by conv => lhs; whnf) (by kernel_rfl)) (by rfl) (by decide) (fun dd e he => ?_) (fun dd es hes => DR.set' f6 c6 dd es hes) (fun dd K hK => ?_)
  · simp [go_sem, storedEv, *] at he
    subst he
    exact evR_write _ _ f6
  · have e6 : (w5.setCell ⟨N + 3, i, none⟩ (thrO N i)).heap[N + 3]? = some (.cells (arr.setIfInBounds i (thrO N i)) 114) := heap_set_self _ _ e5
    have o6 : ∀ b, b ≠ N + 3 → (w5.setCell ⟨N + 3, i, none⟩ (thrO N i)).heap[b]? = w5.heap[b]? := fun b hb => heap_set_other _ _ _ _ hb
    have s6 := size_set w5 ⟨N + 3, i, none⟩ (thrO N i)
    go_simp
    try rw [hst dd]
    refine hK _ ?_
    clear hK K hst hse
    try walk_nrm
    repeat (first | refine Walk.cx ?_ | (refine Walk.cReg ?_; simp only [z49]) | (refine Walk.oq ?_; try walk_nrm) | (refine Walk.un ?_; walk_nrm))
    refine Walk.ctl rfl (fun w => stepG_inLoop) ?_
    refine .stop fun d' => ⟨at_slots ?_, MkO.at ⟨by omega, fun b hb => ?_, ?_, ?_, ?_, ⟨_, e6, by simp [hsz], fun j hj => ?_⟩, fun j hj => ?_, fun j hj => ?_⟩ d'⟩
    · have hc : ((i + 1 : Nat) : Int) = (i : Int) + 1 := by simp
      simp only [hd46, hc]
      rfl
    · rw [o6 b (by omega), old5 b (by omega)]; exact M.old b hb
    · rw [o6 _ (by omega), old5 _ (by omega)]; exact M.cD
    · rw [o6 _ (by omega), old5 _ (by omega)]; exact M.cN
    · rw [o6 _ (by omega), old5 _ (by omega)]; exact M.cA
    · by_cases h : j = i
      · subst h
        exact Array.getElem?_setIfInBounds_self_of_lt hil
      · rw [Array.getElem?_setIfInBounds_ne (Ne.symm h)]
        exact hF j (by omega)
    · by_cases h : j = i
      · subst h
        rw [o6 _ (by omega)]; exact d3'
      · rw [o6 _ (by omega), old5 _ (by omega)]; exact M.cI j (by omega)
    · by_cases h : j = i
      · subst h
        rw [o6 _ (by omega), hxx]; exact d5
      · rw [o6 _ (by omega), old5 _ (by omega)]; exact M.cO j (by omega)
theorem opThreads_out (dv : Value) (ta : Option Addr) (tc N n : Nat) (u : Nat → Value) (c : Frame) (cs : List Frame) (w : World) (hA2 : w.cell? ⟨N + 2, 0, none⟩ = some (.slice (some ⟨N + 1, 0, none⟩) n n)) :
    Walk Try.prog main (DR V) (fun g w' => g = G (c.finish (.tuple #[.slice (some ⟨N + 3, 0, none⟩) n n, .slice (some ⟨N + 1, 0, none⟩) n n])) cs ∧ ∃ d, w' = w.at d) (G (hd46 dv ta tc N n n u) (c :: cs)) w := by
  unfold hd46
  repeat (first | refine Walk.cx ?_ | (refine Walk.cReg ?_; simp only [z49]) | (refine Walk.oq ?_; try walk_nrm) | (refine Walk.un ?_; walk_nrm))
  (refine Walk.drawnCW (by kernel_rfl) size49_10 (by kernel_rfl) (by kernel_rfl) (by decide) ?_; simp only [List.range, List.range.loop]; repeat (first | (refine Cm.oq ?_) | (refine Cm.unw (ho_of (by conv => lhs; whnf) (by kernel_rfl)) (by rfl) ?_; walk_nrm)))
  refine Cm.done ?_
  repeat (first | refine Walk.cx ?_ | (refine Walk.cReg ?_; simp only [z49]) | (refine Walk.oq ?_; try walk_nrm) | (refine Walk.un ?_; walk_nrm))
  refine Walk.on2 rfl rfl Try.func49 rfl (.stop fun d => ⟨rfl, d, rfl⟩)
end
end
end Go.Proofs.Ytjenoiekfkhafaa
