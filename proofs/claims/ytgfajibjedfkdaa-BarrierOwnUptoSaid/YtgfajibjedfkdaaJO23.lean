/- Part 23. -/
import Derived.Test.YtgfajibjedfkdaaJO2
import Derived.Test.YtgfajibjedfkdaaJO5
import Derived.Test.YtgfajibjedfkdaaJO7
import Derived.Test.YtgfajibjedfkdaaJO9
import Derived.Test.YtgfajibjedfkdaaJO13
import Derived.Test.YtgfajibjedfkdaaJO16
import Derived.Test.YtgfajibjedfkdaaJO17
import Derived.Test.YtgfajibjedfkdaaJO22
import Derived.Conc.AtomicLaws2
import Derived.Conc.SmallLaws
import Derived.Laws.LoneSync
import Derived.LaidEql
set_option linter.unusedSimpArgs false
set_option linter.unusedVariables false
set_option linter.unusedVariables false
set_option maxHeartbeats 8000000
set_option maxRecDepth 100000
namespace Go.Proofs.Ytgfajibjedfkdaa
open Go.Conc Go.RowKit Go.Relay
open Go.ConcN (upd upd_ne upd_same)
section
section
variable {main : Bool} {V : Nat → Option Wait}
theorem od_go (go K oc : Nat) (bp : Value) (P : Nat) (q tries way n e : Int) (ld : Nat) (i r a : Nat) (hi : i < K) (hK : K ≤ 5) (hld : ld ≤ 1000000) (ha : a ≤ 1000000) (w : World) (h0 : w.cell? ⟨go, i, none⟩ = some (.pointer (some ⟨r, 0, none⟩))) (h1 : w.cell? ⟨r, 1, none⟩ = some (.int .i64 a)) (u : Nat → Value) (cs : List Frame) :
    Walk Try.prog main (DR V) (fun gr w' => (∃ u, gr = G (hdOd (some ⟨go, 0, none⟩) K oc bp P q tries way n e ((ld + a : Nat) : Int) (i + 1) u) cs) ∧ ∃ d, w' = w.at d) (G (hdOd (some ⟨go, 0, none⟩) K oc bp P q tries way n e ld i u) cs) w := by
  have hi1 : decide ((i : Int) < K) = true := by simp; omega
  have hi3 : decide (i < K) = true := by simp; omega
  have hi4 : (i : Int) < K := by omega
  have hi0 : (0 : Int) ≤ i := by omega
  have hw1 : IntKind.wrap .i64 ((i : Int) + 1) = (i : Int) + 1 := by rw [IntKind.wrap_i64]; omega
  have hcc : ((i + 1 : Nat) : Int) = (i : Int) + 1 := by simp
  have hw2 : IntKind.wrap .i64 ((ld : Int) + a) = ((ld + a : Nat) : Int) := by rw [IntKind.wrap_i64]; omega
  generalize ((ld + a : Nat) : Int) = x at *
  conv => arg 5; unfold hdOd
  repeat (first | refine Walk.cx ?_ | (refine Walk.cReg ?_; simp only [z3]) | (refine Walk.oq ?_; try walk_nrm) | (refine Walk.un ?_; walk_nrm))
  refine Walk.ctl rfl (fun w => stepG_inLoop) ?_
  refine .stop fun d => ⟨at_slots ?_, d, rfl⟩
  simp only [hdOd, hcc]
  rfl
end
end
section
section
variable {main : Bool} {V : Nat → Option Wait}
theorem od_in (hA : ∀ b, Apart V b) (oa : Option Addr) (K oc n : Nat) (vb kv : Value) (q tries way : Int) (X : RX) (hkm : X.k ≤ 1000) (w : World) (hp : X.p = w.heap.size) (I : RI X wS0 (w.alloc (.cells #[.int .i64 0] 37))) (R : Rs × Int × Int) (hR : waitR X.ls X.k 1 q tries way wS0 = R) (u : Nat → Value) (cs : List Frame) :
    Walk Try.prog main (DR V) (fun gr w' => (∃ u, gr = G (hdOd oa K oc (.pointer (some ⟨X.bb, 0, none⟩)) X.p q tries way R.2.1 R.2.2 0 0 u) cs) ∧ RI X R.1 w') (G (hdOc (.slice oa K oc) vb kv (.pointer (some ⟨X.bb, 0, none⟩)) q tries way n n u) cs) w := by
  have hi1 : decide ((n : Int) < n) = false := by simp
  have hi3 : decide (n < n) = false := by simp
  have r3 := run_ifaceS
  have r4 := ev_ifaceS
  have hb0 : Bd X wS0 ((X.k + 2) * 1024) := ⟨by show 0 + (X.k + 2) * 1024 < _; omega, fun i _ => by show 0 + (X.k + 2) * 1024 < _; omega⟩
  have hc := wait15 (main := main) (sv := cntV X.p) (dl := 1) hA (.inl ⟨rfl, rfl⟩) (by omega) q tries way I hb0
  rw [hR] at hc
  unfold cntV at hc
  clear hb0 I hR
  have hp2 : w.heap.size = X.p := hp.symm
  clear hp
  conv => arg 5; unfold hdOc
  repeat (first | refine Walk.cx ?_ | (refine Walk.cReg ?_; simp only [z3]) | (refine Walk.oq ?_; try walk_nrm) | (refine Walk.un ?_; walk_nrm))
  (refine Walk.oa ?_; try walk_nrm)
  try rw [hp2]
  change Walk Try.prog main _ _ _ (w.alloc (.cells #[.int .i64 0] 37))
  generalize w.alloc (.cells #[.int .i64 0] 37) = w1 at *
  clear hp2
  repeat (first | refine Walk.cx ?_ | (refine Walk.cReg ?_; simp only [z3]) | (refine Walk.oq ?_; try walk_nrm) | (refine Walk.un ?_; walk_nrm))
  refine Walk.callW (Post := fun v w' => v = .tuple #[.int .i64 R.2.1, .int .i64 R.2.2] ∧ RI X R.1 w') ?_ (ho_of (by conv => lhs; whnf) (by kernel_rfl)) (by rfl) (by decide) rfl Try.func14 (by kernel_rfl) (by rfl) ?_
  · try walk_nrm
    exact hc
  rintro v w2 ⟨rfl, J⟩
  clear hc r3 r4
  walk_nrm
  repeat (first | refine Walk.cx ?_ | (refine Walk.cReg ?_; simp only [z3]) | (refine Walk.oq ?_; try walk_nrm) | (refine Walk.un ?_; walk_nrm))
  refine Walk.ctl rfl (fun w => stepG_loop) ?_
  refine .stop fun d => ⟨at_slots ?_, J.at d⟩
  simp only [hdOd]
  rfl
end
end
section
section
variable {main : Bool} {V : Nat → Option Wait}
structure CbI (T : Nat) (w0 : World) (g m cap : Nat) (xs : List Int) (w : World) : Prop where
  row : w.ownsRow T 3 1 (.slice (some ⟨g, 0, none⟩) m cap) m (xs.map fun z => .int .i64 z)
  len : xs.length = m
  old : ∀ b, b < T → w.heap[b]? = w0.heap[b]?
theorem CbI.at {T : Nat} {w0 w : World} {g m cap : Nat} {xs : List Int} (h : CbI T w0 g m cap xs w) (d : Nat) : CbI T w0 g m cap xs (w.at d) := ⟨row_same h.row fun _ _ => rfl, h.len, h.old⟩
theorem CbI.lt {T : Nat} {w0 w : World} {g m cap : Nat} {xs : List Int} (h : CbI T w0 g m cap xs w) : T ≤ g ∧ g < w.heap.size := h.row.lt g rfl
theorem NumA.same {a : Option Addr} {l : List Int} {w w' : World} (h : NumA a l w) (hb : ∀ b, b < w.heap.size → w'.heap[b]? = w.heap[b]?) : NumA a l w' := fun j z hj => by
  obtain ⟨b, off, e, hc⟩ := h j z hj
  exact ⟨b, off, e, (World.cell?_of_block (a := ⟨b, off + j, none⟩) (hb b (cell_lt' hc))).trans hc⟩
end
end
section
section
variable {L : La} {gb : Nat} {sv : Value}
theorem GateIn.rd (R : GateIn L gb) {y : L.Gh} {s : L.Sg} {w : World} (h : L.I y s w) : ∃ h0, (R.gh y)[(R.gt s).k]? = some h0 ∧ h0.l = (R.gt s).l ∧ w.cell? ⟨gb, 0, none⟩ = some (ptrV h0.p) ∧ w.frozen? ⟨gb, 0, none⟩ = false ∧ HlI h0 w := by
  have I := R.I h
  obtain ⟨arr, h0, h1, h2, h3, h4, h5, h6⟩ := I.top
  exact ⟨h0, h3, h4, (cell_of h1 0).trans h5, frozen_of h1 0, I.held h0 (List.mem_of_getElem? h3)⟩
theorem GateIn.keep (R : GateIn L gb) {y y' : L.Gh} (hl : L.le y y') {k : Nat} {h : Hl} (e : (R.gh y)[k]? = some h) : (R.gh y')[k]? = some h := by
  obtain ⟨t, ht⟩ := R.le hl
  rw [← ht, List.getElem?_append_left (List.getElem?_eq_some_iff.1 e).1]
  exact e
end
end
theorem HlI.slice {h : Hl} {w : World} (H : HlI h w) : ∃ a c, h.sl = .slice a h.l.length c ∧ NumA a h.l w := by
  rcases H.row.2 with ⟨e, e0⟩ | ⟨g, cap, cur, e, _⟩
  · have hn : h.l = [] := List.eq_nil_of_length_eq_zero e0
    exact ⟨Option.none, 0, by rw [e, hn]; rfl, fun j z hj => by rw [hn] at hj; simp at hj⟩
  · have hr := H.row
    rw [e] at hr
    exact ⟨_, _, e, LsI.numA (P := fun _ => True) hr⟩
def Gr (w w' : World) : Prop := w.heap.size ≤ w'.heap.size ∧ ∀ b, b < w.heap.size → w'.heap[b]? = w.heap[b]?
theorem Gr.refl (w : World) : Gr w w := ⟨Nat.le_refl _, fun _ _ => rfl⟩
theorem Gr.trans {a b c : World} (h : Gr a b) (h' : Gr b c) : Gr a c := ⟨Nat.le_trans h.1 h'.1, fun x hx => (h'.2 x (by have := h.1; omega)).trans (h.2 x hx)⟩
structure HdI {L : La} {gb : Nat} {sv : Value} (R : GateIn L gb) (K : Lg L sv) (e : K.E) (Hb k0 : Nat) (h0 : Hl) : Prop where
  own : K.mine e Hb
  blk : (K.w e).heap[Hb]? = some (.cells #[.pointer (some ⟨gb, 0, none⟩), .pointer (h0.p.map fun b => (⟨b, 0, none⟩ : Addr))] 179)
  top : (R.gh (K.gh e))[k0]? = some h0
theorem HdI.mv {L : La} {gb : Nat} {sv : Value} {R : GateIn L gb} {K : Lg L sv} {e e' : K.E} {Hb k0 : Nat} {h0 : Hl} {w' : World} (H : HdI R K e Hb k0 h0) (m : Mv K.toLb e e' (K.s e) w') (hg : Gr (K.w e) w') : HdI R K e' Hb k0 h0 :=
  ⟨(m.mine Hb).2 (.inl H.own), by rw [m.w, hg.2 Hb (K.mineA e Hb H.own).2.2]; exact H.blk, by rw [m.gh]; exact H.top⟩
section
section
variable {main : Bool} {V : Nat → Option Wait}
theorem NumA.old {a : Option Addr} {l : List Int} {w w' : World} (h : NumA a l w) (ho : ∀ b, b < w.heap.size → w'.heap[b]? = w.heap[b]?) : NumA a l w' := fun i x hx => by
  obtain ⟨b, o, e, hc⟩ := h i x hx
  refine ⟨b, o, e, ?_⟩
  have hb : b < w.heap.size := by
    unfold World.cell? at hc
    rcases h : w.heap[b]? with _ | v
    · simp [h] at hc
    · exact (Array.getElem?_eq_some_iff.1 h).1
  exact (World.cell?_of_block (a := ⟨b, o + i, none⟩) (ho b hb)).trans hc
end
end
section
def ngArr (i : Nat) : Array Value := #[.pointer none] ++ ((List.replicate i (Value.int .i64 (-1))) ++ List.replicate (64 - i) (Value.int .i64 0)).toArray
section
variable {main : Bool} {V : Nat → Option Wait}
structure NgI (w0 : World) (j : Nat) (w : World) : Prop where
  blk : w.heap[w0.heap.size]? = some (.cells (ngArr j) 105)
  old : ∀ b, b < w0.heap.size → w.heap[b]? = w0.heap[b]?
theorem NgI.gt {w0 w : World} (h : NgI w0 64 w) : GtI w0.heap.size [Hl.no] ⟨0, [], fun _ => -1⟩ w := by
  refine ⟨rfl, ⟨_, Hl.no, h.blk, by simp [ngArr], rfl, rfl, rfl, fun i hi => ?_⟩, fun x hx => ?_, fun i j x x' hi hj _ => ?_, fun x hx => ?_⟩
  · show (ngArr 64)[1 + i]? = some (Value.int .i64 (-1))
    obtain ⟨n, hn⟩ : ∃ n, n = 64 := ⟨64, rfl⟩
    have h1 : (ngArr n)[1 + i]? = some (Value.int .i64 (-1)) := by
      unfold ngArr
      rw [Nat.add_comm 1 i]
      simp [List.getElem?_append, List.getElem?_replicate, show i < n by omega]
    rw [hn] at h1
    exact h1
  · rw [List.mem_singleton.1 hx]
    exact HlI.none w
  · have h1 := (List.getElem?_eq_some_iff.1 hi).1
    have h2 := (List.getElem?_eq_some_iff.1 hj).1
    simp at h1 h2
    omega
  · rw [List.mem_singleton.1 hx]
    rintro (e | e)
    · cases e
    · cases e
end
end
def gtN (l : List Int) (j : Nat) : Gt := ⟨j, (List.range j).map fun i : Nat => (i : Int), fun i => if i < j then l.getD i 0 else -1⟩
def NtI (w0 : World) (gb : Nat) (l : List Int) (j : Nat) (w : World) : Prop := ∃ y, GtI gb y (gtN l j) w ∧ (∀ b, b < w0.heap.size → ¬ gtSh gb y b) ∧ (∀ b, b < w0.heap.size → w.heap[b]? = w0.heap[b]?) ∧ w0.heap.size ≤ w.heap.size
theorem NtI.at {w0 : World} {gb : Nat} {l : List Int} {j : Nat} {w : World} (h : NtI w0 gb l j w) (d : Nat) : NtI w0 gb l j (w.at d) := by
  obtain ⟨y, h1, h2, h3, h4⟩ := h
  exact ⟨y, h1.same fun _ _ => rfl, h2, h3, h4⟩
section
section
variable {P : Program} {t e : TypeId} {ti : TypeInfo}
theorem run_uptoG (hu : P.underlying t = some (.slice e)) (hi : P.info? e = some ti) (hz : ti.size = 1) (a : Option Addr) (n m cap : Nat) (h : m ≤ n) (hc : n ≤ cap) (ha : a = none → cap = 0) (w : World) (es : Array Event) : (Instr.sliceAt t (.slice a n cap) none (some (.int .i64 (m : Int))) none).run P w = .ok (.slice a m cap) w ∧
    (Instr.sliceAt t (.slice a n cap) none (some (.int .i64 (m : Int))) none).events P w es = es := by
  have g1 : (m : Int) ≤ (cap : Int) := by omega
  have g2 : ¬ ((m : Int) < 0) := by omega
  have g3 : (0 : Int) ≤ (m : Int) := by omega
  have g5 : m ≤ cap := by omega
  have g6 : ¬ cap < m := by omega
  cases a with
  | none =>
    obtain rfl := ha rfl
    obtain rfl : n = 0 := by omega
    obtain rfl : m = 0 := by omega
    constructor <;> simp [Instr.sliceAt, Instr.slice, run_underlying hu, Instr.sliceBounds, Instr.sliceBound, asIntOf, sizeOf, typeInfo, hi, hz, Addr.add]
  | some x =>
    constructor <;> simp [Instr.sliceAt, Instr.slice, run_underlying hu, Instr.sliceBounds, Instr.sliceBound, asIntOf, sizeOf, typeInfo, hi, hz, Addr.add, g1, g2, g3, g5, g6]
end
end
section
def BytI (W : World) (a : Option Addr) (L : Nat) : Prop := ∀ i, i < L → ∃ b o x, a = some ⟨b, o, none⟩ ∧ 0 ≤ x ∧ x < 256 ∧ W.cell? ⟨b, o + i, none⟩ = some (.int .u8 x)
def LstI (W : World) (a : Option Addr) (L : Nat) : Prop := ∀ i, i < L → ∃ (b o : Nat) (ba : Option Addr) (n c : Nat), a = some ⟨b, o, none⟩ ∧ W.cell? ⟨b, o + i, none⟩ = some (.slice ba n c) ∧ n ≤ 1048576 ∧ BytI W ba n
theorem huByt : Try.prog.underlying 22 = some (.slice 26) := by kernel_rfl
theorem tiByt : ∃ ti, Try.prog.info? 26 = some ti ∧ ti.size = 1 := by
  obtain ⟨ti, h⟩ := Option.isSome_iff_exists.1 (show (Try.prog.info? 26).isSome = true by kernel_rfl)
  have h2 : (Try.prog.info? 26).map (·.size) = some 1 := by kernel_rfl
  rw [h] at h2
  exact ⟨ti, h, Option.some.inj h2⟩
theorem OwI.ll {W0 : World} {rs : List Nat} {ll ll' : Nat → List Int} {vo vb : Value} {hi : Nat} {w : World} (h : OwI W0 rs ll vo vb hi w) (e : ∀ i, i < rs.length → ll' i = ll i) : OwI W0 rs ll' vo vb hi w :=
  ⟨h.own, h.beh, fun i r hr => by rw [e i (List.getElem?_eq_some_iff.1 hr).1]; exact h.src i r hr, h.nd, h.old, h.size, h.le⟩
section
variable {main : Bool} {V : Nat → Option Wait}
theorem bo_in (hA : ∀ b, Apart V b) (la : Option Addr) (L lc : Nat) (hlc : L ≤ lc) (hla : la = none → lc = 0) (q tries way : Int) (W : World) :
    Walk Try.prog main (DR V) (fun g w' => ∃ W0 : World, (∃ u, g = G (hdOa (.slice none 0 0) (.slice none 0 0) (.slice la L lc) (.slice la (min L 5) lc) q tries way (min L 5) 0 u) []) ∧ (∀ b, b < W.heap.size → W0.heap[b]? = W.heap[b]?) ∧ W.heap.size ≤ W0.heap.size ∧ ∃ d, w' = W0.at d) (G (Frame.enter Try.prog 3 #[.slice la L lc, .int .i64 q, .int .i64 tries, .int .i64 way] .normal) []) W := by
  have hwt := waits_w (main := main) (V := V) hA W
  obtain ⟨ti, hti, htz⟩ := tiByt
  have hmn := @events_min_ints Try.prog
  obtain ⟨K, hK⟩ : ∃ K, min L 5 = K := ⟨_, rfl⟩
  have hmi : min (L : Int) 5 = (K : Int) := by omega
  have hs1 := fun w => (run_uptoG (P := Try.prog) huByt hti htz la L K lc (by omega) hlc hla w #[]).1
  have hs2 := fun w es => (run_uptoG (P := Try.prog) huByt hti htz la L K lc (by omega) hlc hla w es).2
  rw [hK]
  clear hK hlc hla
  rw [enter_at _ Try.func3 code3_is]
  simp only [Try.ntmps3, ez, Nat.reduceAdd, Nat.reduceSub]
  repeat (first | refine Walk.cx ?_ | (refine Walk.cReg ?_; simp only [z3]) | (refine Walk.oq ?_; try walk_nrm) | (refine Walk.un ?_; walk_nrm))
  refine Walk.callW (Post := fun v w' => v = .bool true ∧ (∀ b, b < W.heap.size → w'.heap[b]? = W.heap[b]?) ∧ W.heap.size ≤ w'.heap.size) ?_ (ho_of (by conv => lhs; whnf) (by kernel_rfl)) (by rfl) (by decide) rfl Try.func12 (by kernel_rfl) (by rfl) ?_
  · try walk_nrm
    exact hwt
  rintro v w0 ⟨rfl, O0, Z0⟩
  clear hwt
  walk_nrm
  repeat (first | refine Walk.cx ?_ | (refine Walk.cReg ?_; simp only [z3]) | (refine Walk.oq ?_; try walk_nrm) | (refine Walk.un ?_; walk_nrm))
  refine Walk.ctl rfl (fun w => stepG_loop) ?_
  refine .stop fun d => ⟨w0, at_slots ?_, O0, Z0, d, rfl⟩
  simp only [hdOa]
  rfl
theorem ob_loop (hA : ∀ b, Apart V b) (R : Nat) (vo vb nv lv : Value) (q tries way : Int) (K i : Nat) (ba : Option Addr) (L nc : Nat) (hL : L ≤ 1048576) (W W1 : World) (hW : ∀ b, b < W.heap.size → W1.heap[b]? = W.heap[b]?) (hWR : W.heap.size ≤ R) (hin : BytI W ba L) (cs : List Frame) (Stop : Goroutine → World → Prop)
    (hend : ∀ (s : Int) (l : List Int) (v : Value) (u : Nat → Value) (w : World), GrI W1 R l v w → Walk Try.prog main (DR V) Stop (G (hdOb vo vb nv lv q tries way K i R s (.slice ba L nc) L L u) cs) w) :
    ∀ (r j : Nat) (s : Int) (l : List Int) (v : Value) (u : Nat → Value) (w : World), j + r = L → l.length = j → 0 ≤ s → s ≤ 8 * j → GrI W1 R l v w → Walk Try.prog main (DR V) Stop (G (hdOb vo vb nv lv q tries way K i R s (.slice ba L nc) L j u) cs) w := by
  intro r
  induction r with
  | zero =>
    intro j s l v u w hj hl h0 h1 I
    have hj : j = L := hj
    subst hj
    exact hend s l v u w I
  | succ r ih =>
    intro j s l v u w hj hl h0 h1 I
    obtain ⟨b, o, x, rfl, x0, x1, hc⟩ := hin j (by omega)
    have hbl : b < W.heap.size := cell_lt' hc
    have hc' : w.cell? ⟨b, o + j, none⟩ = some (.int .u8 x) := (World.cell?_of_block (a := ⟨b, o + j, none⟩) ((I.old b (by omega)).trans (hW b hbl))).trans hc
    have t0 : 0 ≤ Int.tmod x 8 := Int.tmod_nonneg _ x0
    have t1 : Int.tmod x 8 < 8 := Int.tmod_lt_of_pos _ (by decide)
    refine (ob_go hA R b o L nc j vo vb nv lv q tries way K i s x x0 x1 (by omega) hL h0 h1 W1 l hl v w I hc' u cs).then ?_
    rintro _ w' ⟨⟨u', rfl⟩, v', I'⟩
    exact ih (j + 1) _ _ v' u' w' (by omega) (by simp [hl]) (by omega) (by omega) I'
theorem oa_loop (hA : ∀ b, Apart V b) (nv : Value) (q tries way : Int) (K : Nat) (hK : K ≤ 5) (la : Option Addr) (lc : Nat) (W W0 : World) (hW : ∀ b, b < W.heap.size → W0.heap[b]? = W.heap[b]?) (hWR : W.heap.size ≤ W0.heap.size) (hin : LstI W la K) (cs : List Frame) (Stop : Goroutine → World → Prop)
    (hend : ∀ (rs : List Nat) (ll : Nat → List Int) (vo vb : Value) (u : Nat → Value) (w : World), rs.length = K → (K = 0 → vo = .slice none 0 0 ∧ vb = .slice none 0 0) → OwI W0 rs ll vo vb w.heap.size w → Walk Try.prog main (DR V) Stop (G (hdOa vo vb nv (.slice la K lc) q tries way K K u) cs) w) :
    ∀ (r i : Nat) (rs : List Nat) (ll : Nat → List Int) (vo vb : Value) (u : Nat → Value) (w : World), i + r = K → rs.length = i → (i = 0 → vo = .slice none 0 0 ∧ vb = .slice none 0 0) → OwI W0 rs ll vo vb w.heap.size w → Walk Try.prog main (DR V) Stop (G (hdOa vo vb nv (.slice la K lc) q tries way K i u) cs) w := by
  intro r
  induction r with
  | zero =>
    intro i rs ll vo vb u w hi hl h0 O
    have hi : i = K := hi
    subst hi
    exact hend rs ll vo vb u w hl h0 O
  | succ r ih =>
    intro i rs ll vo vb u w hi hl h0 O
    obtain ⟨lb, lo, ba, n, c, rfl, hc, hn, hb⟩ := hin i (by omega)
    have hbl : lb < W.heap.size := cell_lt' hc
    have hz := O.size
    have hold : ∀ b, b < W.heap.size → w.heap[b]? = W.heap[b]? := fun b hb => (O.old b (by omega)).trans (hW b hb)
    have hc' : w.cell? ⟨lb, lo + i, none⟩ = some (.slice ba n c) := (World.cell?_of_block (a := ⟨lb, lo + i, none⟩) (hold lb hbl)).trans hc
    refine (oa_in ba n c vo vb nv q tries way K i lb lo lc (by omega) hK w hc' u cs).then ?_
    rintro _ w1 ⟨⟨u1, rfl⟩, I1⟩
    refine ob_loop hA w.heap.size vo vb nv _ q tries way K i ba n c hn W w hold (by omega) hb cs Stop ?_ n 0 0 [] _ u1 w1 (Nat.zero_add _) rfl (Int.le_refl _) (by simp) I1
    intro s l v u2 w2 I2
    have O' := O.ll (ll' := fun k => if k = i then l else ll k) (fun k hk => by
      show (if k = i then l else ll k) = ll k
      rw [if_neg (by omega)])
    refine (ob_out hA w.heap.size vo vb nv _ _ q tries way K i (by omega) hK s n W0 w rs hl (fun k => if k = i then l else ll k) rfl O' l (if_pos rfl) v w2 I2 u2 cs).then ?_
    rintro _ w3 ⟨vo', vb', ⟨u3, rfl⟩, O3⟩
    exact ih (i + 1) (rs ++ [w.heap.size]) _ vo' vb' u3 w3 (by omega) (by simp [hl]) (fun h => absurd h (Nat.succ_ne_zero _)) O3
theorem ov_loop (hA : ∀ b, Apart V b) (vo bp : Value) (gb off bc kb kc : Nat) (bl : List (Option Nat)) (hn : bl.length ≤ 100) (q tries way : Int) (w5 : World) (hg : gb < w5.heap.size) (hkb : kb < w5.heap.size) (hkg : kb ≠ gb) (hk : ∀ (j : Nat) (o : Option Nat), bl[j]? = some o → w5.cell? ⟨kb, j, none⟩ = some (srcO o)) (cs : List Frame) :
    ∀ (r i : Nat) (u : Nat → Value) (w : World), i + r = bl.length → OvI gb off bl.length i bl w5 w → Walk Try.prog main (DR V) (fun gr w' => (∃ u, gr = G (hdOc vo (.slice (some ⟨gb, off, none⟩) bl.length bc) (.slice (some ⟨kb, 0, none⟩) bl.length kc) bp q tries way bl.length bl.length u) cs) ∧ OvI gb off bl.length bl.length bl w5 w') (G (hdOc vo (.slice (some ⟨gb, off, none⟩) bl.length bc) (.slice (some ⟨kb, 0, none⟩) bl.length kc) bp q tries way bl.length i u) cs) w := by
  intro r
  induction r with
  | zero =>
    intro i u w hi I
    have hi : i = bl.length := hi
    subst hi
    exact .stop fun d => ⟨⟨u, rfl⟩, I.at d⟩
  | succ r ih =>
    intro i u w hi I
    have hil : i < bl.length := by omega
    have hx := List.getElem?_eq_getElem hil
    have hsz := I.size
    obtain ⟨cur, c1, c2⟩ := I.row
    have hc : w.cell? ⟨gb, off + i, none⟩ = some (srcO bl[i]) := (cell_of c1 _).trans (c2 i _ (Nat.le_refl _) hx)
    have hz : w.frozen? ⟨gb, off + i, none⟩ = false := frozen_of c1 _
    have hk' : w.cell? ⟨kb, i, none⟩ = some (srcO bl[i]) := (World.cell?_of_block (a := ⟨kb, i, none⟩) (I.old kb hkb hkg)).trans (hk i _ hx)
    have hnx : ∀ w2 : World, (∀ b, b < w.heap.size → w2.heap[b]? = w.heap[b]?) → w.heap.size ≤ w2.heap.size → ∀ v, OvI gb off bl.length (i + 1) bl w5 (w2.setCell ⟨gb, off + i, none⟩ v) := fun w2 h1 h2 v => I.next (by omega) v h1 h2
    have go : ∀ o : Option Nat, bl[i] = o → Walk Try.prog main (DR V) (fun gr w' => (∃ u, gr = G (hdOc vo (.slice (some ⟨gb, off, none⟩) bl.length bc) (.slice (some ⟨kb, 0, none⟩) bl.length kc) bp q tries way bl.length (i + 1) u) cs) ∧ OvI gb off bl.length (i + 1) bl w5 w') (G (hdOc vo (.slice (some ⟨gb, off, none⟩) bl.length bc) (.slice (some ⟨kb, 0, none⟩) bl.length kc) bp q tries way bl.length i u) cs) w := fun o ho => by
      rw [ho] at hc hk'
      cases o with
      | none => exact ov_n hA vo bp gb off bl.length bc kb kc i 0 q tries way hil hn w5 w hc hz hk' _ (fun _ d h => h.at d) hnx (by omega) u cs
      | some r => exact ov_s hA vo bp gb off bl.length bc kb kc i r q tries way hil hn w5 w hc hz hk' _ (fun _ d h => h.at d) hnx (by omega) u cs
    refine (go _ rfl).then ?_
    rintro _ w' ⟨⟨u', rfl⟩, I'⟩
    exact ih (i + 1) u' w' (by omega) I'
theorem od_loop (go K oc : Nat) (bp : Value) (q tries way n e : Int) (hK : K ≤ 5) (X : RX) (hXk : X.k = K) (s : Rs) (hs : ∀ i, i < K → s.ld i ≤ 1024) (w : World) (I : RI X s w) (hcur : ∀ i, i < K → w.cell? ⟨go, i, none⟩ = some (risV (X.rb i))) (cs : List Frame) (Stop : Goroutine → World → Prop)
    (hend : ∀ (u : Nat → Value) (d : Nat), Walk Try.prog main (DR V) Stop (G (hdOd (some ⟨go, 0, none⟩) K oc bp X.p q tries way n e (sumL s K : Nat) K u) cs) (w.at d)) :
    ∀ (r i : Nat) (u : Nat → Value) (d : Nat), i + r = K → Walk Try.prog main (DR V) Stop (G (hdOd (some ⟨go, 0, none⟩) K oc bp X.p q tries way n e (sumL s i : Nat) i u) cs) (w.at d) := by
  have hsum : ∀ i, i ≤ K → sumL s i ≤ 1024 * i := fun i => by
    induction i with
    | zero => intro _; exact Nat.le_refl 0
    | succ i ih =>
      intro hi
      have := ih (by omega)
      have := hs i (by omega)
      show sumL s i + s.ld i ≤ _
      omega
  intro r
  induction r with
  | zero =>
    intro i u d hi
    have hi : i = K := hi
    subst hi
    exact hend u d
  | succ r ih =>
    intro i u d hi
    have h1 := hsum i (by omega)
    refine Walk.back ?_ d
    refine (od_go go K oc bp X.p q tries way n e (sumL s i) i (X.rb i) (s.ld i) (by omega) hK (by omega) (by have := hs i (by omega); omega) w (hcur i (by omega)) ((cell_of (I.src i (by omega)) 1).trans rfl) u cs).then ?_
    rintro _ _ ⟨⟨u', rfl⟩, d', rfl⟩
    exact ih (i + 1) u' d' (by omega)
end
theorem wait_ld (ls : Nat → List Int) (K : Nat) (q tries way : Int) (hq : q ≤ 9223372036854775807) : ∀ i, i < K → (waitR ls K 1 q tries way wS0).1.ld i ≤ 1024 := by
  have hN : triesN tries ≤ 1024 := by unfold triesN; omega
  intro i hi
  unfold waitR
  by_cases hw : way < 1 ∨ 3 < way
  · rw [if_pos hw]; exact Nat.zero_le _
  · rw [if_neg hw, if_neg (by omega)]
    by_cases h2 : way = 2
    · rw [if_pos h2]
      obtain ⟨u, h1, h2, _⟩ := oneR_is ls K q (triesN tries) 0 9223372036854775807 wS0 rfl (by omega) hq
      have hle : ∀ (s : Rs) (k j : Nat), j < k → s.ld j ≤ sumL s k := fun s k => by
        induction k with
        | zero => intro j h; omega
        | succ k ih =>
          intro j h
          show s.ld j ≤ sumL s k + s.ld k
          by_cases e : j = k
          · subst e; omega
          · have := ih j (by omega); omega
      have h0 : ∀ k, sumL wS0 k = 0 := fun k => by
        induction k with
        | zero => rfl
        | succ k ih => show sumL wS0 k + 0 = 0; omega
      have := hle (oneR ls K 1 q (triesN tries) 0 9223372036854775807 wS0).1 K i hi
      rw [h2, h0] at this
      omega
    · rw [if_neg h2]
      obtain ⟨on, A, hon, hA⟩ : ∃ (on : Nat) (A : Nat → Nat), (if way = 3 then 8 else 1) = on ∧ ∀ t, A (t + 1) = A t + if t % on = 0 then 1 else 0 := by
        by_cases h3 : way = 3
        · refine ⟨8, fun t => (t + 7) / 8, by rw [if_pos h3], fun t => ?_⟩
          show (t + 1 + 7) / 8 = (t + 7) / 8 + _
          split <;> omega
        · refine ⟨1, fun t => t, by rw [if_neg h3], fun t => ?_⟩
          show t + 1 = t + _
          rw [if_pos (Nat.mod_one t)]
      rw [hon]
      obtain ⟨u, h1, h3, _⟩ := togR_is ls K q on A hA (triesN tries) 0 wS0 rfl
      rw [h3 i hi]
      show 0 + u ≤ 1024
      omega
end
end Go.Proofs.Ytgfajibjedfkdaa
