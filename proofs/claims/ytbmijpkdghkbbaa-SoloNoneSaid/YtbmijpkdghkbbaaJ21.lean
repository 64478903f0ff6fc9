/- Part 21. -/
import Derived.Test.YtbmijpkdghkbbaaJ5
import Derived.Test.YtbmijpkdghkbbaaJ6
import Derived.Test.YtbmijpkdghkbbaaJ20
set_option linter.unusedSimpArgs false
set_option linter.unusedVariables false
set_option linter.unusedVariables false
set_option maxHeartbeats 8000000
set_option maxRecDepth 100000
namespace Go.Proofs.Ytbmijpkdghkbbaa
open Go.Conc Go.RowKit Go.Relay
open Go.ConcN (upd upd_ne upd_same)
section
noncomputable def hd68 (sv : Value) (pO pA pI pD : Nat) (ov : Value) (ln j : Nat) (u : Nat → Value) : Frame :=
  (base 114).at { tmps := #[sv, .pointer (some ⟨pO, 0, none⟩), .pointer (some ⟨pA, 0, none⟩), .pointer (some ⟨pI, 0, none⟩), .pointer (some ⟨pD, 0, none⟩), u 5, u 6, u 7, ov, .int .i64 ln, .int .i64 j, u 11, u 12, u 13, u 14, u 15, u 16, u 17, u 18, u 19, u 20, u 21, u 22, u 23, u 24, u 25, u 26, u 27, u 28], defers := [] } [.code (.seq (.region 1 reg114_1 false) (.seq (.cond (.tmp 11 ) (.skip) (.exit 0)) (.seq (.block 1 (.seq (.region 2 reg114_2 false) (.region 3 reg114_3 true))) (.region 4 reg114_4 false)))), .inLoop (.seq (.region 1 reg114_1 false) (.seq (.cond (.tmp 11 ) (.skip) (.exit 0)) (.seq (.block 1 (.seq (.region 2 reg114_2 false) (.region 3 reg114_3 true))) (.region 4 reg114_4 false)))), .inBlock 0]
section
variable {L : La} {g : OG} {S : Stile} {i : Nat}
def EW (e : EC L g S i) (fr : Frame) : Prop := Walk Try.prog false (DR e.τ.V) (StopT L g S i (Cont L g S i e.N) e.τ) (G fr (e.τ.f :: e.τ.fs)) e.w
theorem EC.grow (e : EC L g S i) (w' : World) (hs : e.w.heap.size ≤ w'.heap.size) (hb : ∀ b, b < e.w.heap.size → w'.heap[b]? = e.w.heap[b]?) : ∃ e' : EC L g S i, e'.τ = e.τ ∧ e'.N = e.N ∧ e'.s = e.s ∧ e'.ans = e.ans ∧ e'.hd = e.hd ∧ e'.w = w' := by
  obtain ⟨hd0, r⟩ := e.rely
  obtain ⟨arr, arr', a1, a2, a3, a4, a5⟩ := e.an
  have hA : g.A < e.w.heap.size := by have := r.alo; have := r.size; have := e.size; omega
  exact ⟨{ τ := e.τ, N := e.N, w := w', y := e.y, s := e.s, ans := e.ans, hd := e.hd, le := e.le, size := Nat.le_trans e.size hs, frame := fun b h1 h2 h3 h4 => (hb b (Nat.lt_of_lt_of_le h1 e.size)).trans (e.frame b h1 h2 h3 h4), pub := e.pub, rely := e.rely, an := ⟨arr, arr', a1, (hb _ hA).trans a2, a3, a4, a5⟩, row := (e.row.same fun b h => hb b (e.lo h).2).imp fun b h => ⟨h.1.imp id fun h => ⟨h.1, by omega⟩, h.2⟩, inv := L.stable e.inv fun b h => hb b (L.lt e.inv h) }, rfl, rfl, rfl, rfl, rfl, rfl⟩
variable {pO pA pI pD acap : Nat} {oa : Option Addr} {oc : Nat} {fdo : FuncId} {first cap : Array Value}
theorem loop68_end (T : ThS L g i pO pA pI pD acap oa oc (.func (.func fdo) first cap)) (e : EC L g S i) (hg : e.τ.goal = settleO L (i : Nat) e.s [] e.ans) (ov : Value) (u : Nat → Value) :
    EW e (hd68 (.iface 224 (.pointer (some ⟨S.p i, 0, none⟩))) pO pA pI pD ov (g.ops i).length (g.ops i).length u) := by
  unfold EW hd68
  repeat (first | refine Walk.cx ?_ | (refine Walk.cReg ?_; simp only [z114]) | (refine Walk.oq ?_; try walk_nrm) | (refine Walk.un ?_; walk_nrm))
  refine Walk.on0 rfl rfl Try.func114 rfl ?_
  refine .stop fun d => ⟨e.y, e.le, e.size, e.frame, ?_, e.pub, e.hd, e.an, ?_, .inl ⟨?_, rfl⟩⟩
  · rw [hg]; exact L.stable e.inv fun _ _ => rfl
  · rw [hg]; exact e.row.same fun _ _ => rfl
  · rw [hg]; rfl
theorem loop68_go (T : ThS L g i pO pA pI pD acap oa oc (.func (.func fdo) first cap)) {fn : Func} (hf : Try.prog.funcs[fdo]? = some fn) (hname : (fn.name == "runtime.NumGoroutine") = false) (hb : fn.body.isNone = false) (hdo : DoOK L fdo first cap)
    (e : EC L g S i) (j : Nat) (o : OpV) (rest : List OpV) (ho : (g.ops i)[j]? = some o) (hlen : e.ans.length = j) (hg : e.τ.goal = settleO L (i : Nat) e.s (o :: rest) e.ans) (u : Nat → Value)
    (hk : ∀ (e' : EC L g S i) (u' : Nat → Value), e'.ans.length = j + 1 → e'.τ.goal = settleO L (i : Nat) e'.s rest e'.ans → EW e' (hd68 (.iface 224 (.pointer (some ⟨S.p i, 0, none⟩))) pO pA pI pD (.slice oa (g.ops i).length oc) (g.ops i).length (j + 1) u')) :
    EW e (hd68 (.iface 224 (.pointer (some ⟨S.p i, 0, none⟩))) pO pA pI pD (.slice oa (g.ops i).length oc) (g.ops i).length j u) := by
  obtain ⟨fsO, huO⟩ := structT 49 (by kernel_rfl)
  have hjl : j < (g.ops i).length := (List.getElem?_eq_some_iff.1 ho).1
  have hl64 := T.len
  obtain ⟨ob, off, rfl, n1, n2, c0, c1, c2, c3⟩ := T.ops j o ho
  replace c0 := e.cell c0 ⟨n1, n2⟩
  replace c1 := e.cell c1 ⟨n1, n2⟩
  replace c2 := e.cell c2 ⟨n1, n2⟩
  replace c3 := e.cell c3 ⟨n1, n2⟩
  have hw1 : IntKind.wrap .i64 ((j : Int) + 1) = (j : Int) + 1 := by rw [IntKind.wrap_i64]; omega
  generalize hln : (g.ops i).length = ln at *
  have hi0 : (0 : Int) ≤ j := by omega
  have hi1 : decide ((j : Int) < ln) = true := by simp; omega
  have hi2 : decide (ln ≤ j) = false := by simp; omega
  have hi3 : decide (j < ln) = true := by simp; omega
  unfold EW hd68
  repeat (first | refine Walk.cx ?_ | (refine Walk.cReg ?_; simp only [z114]) | (refine Walk.oq ?_; try walk_nrm) | (refine Walk.un ?_; walk_nrm))
  refine Walk.loadS 49 (.tmp 12) (ho_of (by conv => lhs; whnf) (by kernel_rfl)) (by rfl) (by decide) rfl ob (off + j * 4) [.int .i64 o.k, .int .i64 o.a, .int .i64 o.b, .int .i64 o.c] (.struct fsO) (by simp [Act.eval]) (fun q v hq => ?_) huO rfl (by kernel_rfl) ?_
  · match q, hq with
    | 0, hq => cases hq; exact c0
    | 1, hq => cases hq; exact c1
    | 2, hq => cases hq; exact c2
    | 3, hq => cases hq; exact c3
  walk_nrm
  (refine Walk.oa ?_; try walk_nrm)
  have hX := heap_alloc_new e.w (.cells #[.int .i64 0, .int .i64 0, .int .i64 0, .int .i64 0] 49)
  have hap := e.apart (b := e.w.heap.size) (.inr (.inr (.inl (Nat.le_refl _))))
  refine Walk.storeS 49 (.tmp 7) (.tmp 13) (ho_of (by conv => lhs; whnf) (by kernel_rfl)) (by rfl) (by decide) rfl e.w.heap.size #[.int .i64 o.k, .int .i64 o.a, .int .i64 o.b, .int .i64 o.c] _ 49 rfl rfl hX (by kernel_rfl) (by rfl) (by simp [Value.oneCell']) hap ?_
  have hX2 := setRow_self (cells := #[.int .i64 o.k, .int .i64 o.a, .int .i64 o.b, .int .i64 o.c]) hX
  walk_nrm
  repeat (first | refine Walk.cx ?_ | (refine Walk.cReg ?_; simp only [z114]) | (refine Walk.oq ?_; try walk_nrm) | (refine Walk.un ?_; walk_nrm))
  obtain ⟨e1, q1, q2, q3, q4, q5, q6⟩ := e.grow ((e.w.alloc (.cells #[.int .i64 0, .int .i64 0, .int .i64 0, .int .i64 0] 49)).setRow e.w.heap.size #[.int .i64 o.k, .int .i64 o.a, .int .i64 o.b, .int .i64 o.c]) (by rw [setRow_size]; simp) (fun b hb' => (setRow_other _ _ (by omega)).trans (heap_new_lt _ _ hb'))
  have key := reg68_walk (rest' := rest) (X := e.w.heap.size) T hf hname hb hdo e1 (by rw [q4]; omega) (by rw [q1, q3, q4, hg]; rfl) (by rw [q6]; exact hX2) (.slice (some ⟨ob, off, none⟩) ln oc) ln j
  rw [q1, q2, q6] at key
  simp only [tm68] at key
  refine key (fun k => ([u 0, u 1, u 2, u 3, u 4, u 5, u 6, u 7, u 8, u 9, u 10, .bool true, .pointer (some ⟨ob, off + j * 4, none⟩), opVal o, u 14, u 15, u 16, u 17, u 18, u 19, u 20, u 21, u 22, u 23, u 24, u 25, u 26, u 27, u 28] : List Value).getD k undef) _ ?_
  · intro u' e' a ha hg'
    have := hk e' (fun k => ([u' 0, u' 1, u' 2, u' 3, u' 4, u' 5, u' 6, .pointer (some ⟨e.w.heap.size, 0, none⟩), u' 8, u' 9, u' 10, u' 11, u' 12, u' 13, u' 14, u' 15, u' 16, u' 17, u' 18, u' 19, u' 20, u' 21, u' 22, u' 23, u' 24, u' 25, u' 26, u' 27, .int .i64 ((j : Int) + 1)] : List Value).getD k undef) (by rw [ha, q4]; simp; omega) hg'
    unfold EW hd68 at this
    have hc : ((j + 1 : Nat) : Int) = (j : Int) + 1 := by simp
    simp only [hc] at this
    repeat (first | refine Walk.cx ?_ | (refine Walk.cReg ?_; simp only [z114]) | (refine Walk.oq ?_; try walk_nrm) | (refine Walk.un ?_; walk_nrm))
    refine Walk.ctl rfl (fun w => stepG_inLoop) ?_
    exact this
theorem loop68 (T : ThS L g i pO pA pI pD acap oa oc (.func (.func fdo) first cap)) {fn : Func} (hf : Try.prog.funcs[fdo]? = some fn) (hname : (fn.name == "runtime.NumGoroutine") = false) (hb : fn.body.isNone = false) (hdo : DoOK L fdo first cap) :
    ∀ (left : List OpV) (e : EC L g S i) (u : Nat → Value), (g.ops i).drop e.ans.length = left → e.ans.length ≤ (g.ops i).length → e.τ.goal = settleO L (i : Nat) e.s left e.ans → EW e (hd68 (.iface 224 (.pointer (some ⟨S.p i, 0, none⟩))) pO pA pI pD (.slice oa (g.ops i).length oc) (g.ops i).length e.ans.length u) := by
  intro left
  induction left with
  | nil =>
    intro e u hd hl hg
    have : e.ans.length = (g.ops i).length := by have := List.drop_eq_nil_iff.1 hd; omega
    rw [this]
    exact loop68_end T e hg _ u
  | cons o rest ih =>
    intro e u hd hl hg
    have hj : e.ans.length < (g.ops i).length := by
      refine Nat.lt_of_not_le fun h => ?_
      rw [List.drop_eq_nil_iff.2 h] at hd; cases hd
    rw [List.drop_eq_getElem_cons hj] at hd
    obtain ⟨h1, h2⟩ := List.cons.inj hd
    refine loop68_go T hf hname hb hdo e _ o rest (by rw [List.getElem?_eq_getElem hj, h1]) rfl hg u fun e' u' h3 h4 => ?_
    rw [← h3]
    exact ih e' u' (by rw [h3]; exact h2) (by omega) h4
theorem enter68 (T : ThS L g i pO pA pI pD acap oa oc (.func (.func fdo) first cap)) {fn : Func} (hf : Try.prog.funcs[fdo]? = some fn) (hname : (fn.name == "runtime.NumGoroutine") = false) (hb : fn.body.isNone = false) (hdo : DoOK L fdo first cap)
    (e : EC L g S i) (ha : e.ans = []) (hg : e.τ.goal = settleO L (i : Nat) e.s (g.ops i) []) :
    EW e (Frame.enter Try.prog 114 #[.iface 224 (.pointer (some ⟨S.p i, 0, none⟩)), .pointer (some ⟨pO, 0, none⟩), .pointer (some ⟨pA, 0, none⟩), .pointer (some ⟨pI, 0, none⟩), .pointer (some ⟨pD, 0, none⟩)] .normal) := by
  have h := loop68 T hf hname hb hdo (g.ops i) e (fun _ => undef) (by rw [ha]; rfl) (by rw [ha]; simp) (by rw [ha]; exact hg)
  have cO := e.cell T.cO T.nO
  rw [ha] at h
  unfold EW hd68 at h
  unfold EW
  simp only [List.length_nil] at h
  rw [enter_at _ Try.func114 code114_is]
  simp only [Try.ntmps114, ez, Nat.reduceAdd, Nat.reduceSub]
  repeat (first | refine Walk.cx ?_ | (refine Walk.cReg ?_; simp only [z114]) | (refine Walk.oq ?_; try walk_nrm) | (refine Walk.un ?_; walk_nrm))
  refine Walk.ctl rfl (fun w => stepG_loop) ?_
  exact h
end
end
section
structure DoFn (L : La) (fdo : FuncId) (first cap : Array Value) : Prop where
  fn : ∃ fn, Try.prog.funcs[fdo]? = some fn ∧ (fn.name == "runtime.NumGoroutine") = false ∧ fn.body.isNone = false
  ok : DoOK L fdo first cap
def OThr (L : La) (g : OG) (S : Stile) (fdo : FuncId) (first cap : Array Value) : Prop := ∀ i, i < g.n → ∃ pO pA pI pD acap oa oc, ThS L g i pO pA pI pD acap oa oc (.func (.func fdo) first cap) ∧
  S.F i = .func (.func 114) #[] #[.pointer (some ⟨pO, 0, none⟩), .pointer (some ⟨pA, 0, none⟩), .pointer (some ⟨pI, 0, none⟩), .pointer (some ⟨pD, 0, none⟩)]
def inv2 (L : La) (g : OG) (S : Stile) (yb : L.Gh) (fdo : FuncId) (first cap : Array Value) (k : Nat) (o : Nat → Option Role) (x : OX L) (cs : Nat → List Frame) (w : World) : Prop := OThr L g S fdo first cap ∧ invO L g S yb k o x cs w
section
variable {L : La} {g : OG} {S : Stile} {fdo : FuncId} {first cap : Array Value} {k : Nat} {o o' : Nat → Option Role} {x : OX L} {cs : Nat → List Frame} {w w' : World} {yb : L.Gh}
theorem fin2 (hT : OThr L g S fdo first cap) {k' i : Nat} {x' : OX L} {f : Frame} {fs : List Frame} {g' : Goroutine} (h : Fin (invO L g S yb) OX.out S k' o x' cs i f fs w g' w') : Fin (inv2 L g S yb fdo first cap) OX.out S k' o x' cs i f fs w g' w' := by
  obtain ⟨h1, h2, l, h3, h4⟩ := h
  exact ⟨h1, h2, l, ⟨hT, h3⟩, h4⟩
theorem startO (hD : DoFn L fdo first cap) {V : Nat → Option Wait} (f : Frame) (fs : List Frame) (h : inv2 L g S yb fdo first cap k o x cs w) (hk : k < S.n) (_hc : x.cnt < 1048576) (hA : ∀ b, o b = none → Apart V b) (hlt : ∀ b r, o b = some r → b < w.heap.size) :
    ∃ fi fn first' cap', S.F k = .func (.func fi) first' cap' ∧ Try.prog.funcs[fi]? = some fn ∧ (fn.name == "runtime.NumGoroutine") = false ∧ fn.body.isNone = false ∧
      Walk Try.prog false (DR V) (Fin (inv2 L g S yb fdo first cap) OX.out S (k + 1) o (bornO g.ops x k) cs k f fs w) (G (Frame.enter Try.prog fi (first' ++ #[.iface 224 (.pointer (some ⟨S.p k, 0, none⟩))] ++ cap') .normal) (f :: fs)) w := by
  obtain ⟨hT, pr, hd, y, hy, P⟩ := h
  have hi : k < g.n := P.st.n ▸ hk
  obtain ⟨pO, pA, pI, pD, acap, oa, oc, T, hF⟩ := hT k hi
  obtain ⟨fn, q1, q2, q3⟩ := hD.fn
  have hth := P.fresh k (Nat.le_refl _) hi
  have hrow := P.row k hi
  rw [hth] at hrow
  refine ⟨114, Try.f114, _, _, hF, Try.func114, by decide, by rfl, ?_⟩
  have hAn : AnT g k w w (hd k) := by
    obtain ⟨arr, ha, hz, hr⟩ := P.an
    exact ⟨arr, arr, ha, ha, rfl, hr k hi, fun _ _ => rfl⟩
  have key := enter68 (S := S) T q1 q2 q3 hD.ok { τ := ⟨V, f, fs, w, y, fun b => pr b = some k, settleO L (k : Nat) x.s (g.ops k) []⟩, N := 1048577 - x.cnt, w := w, y := y, s := x.s, ans := [], hd := hd k, le := L.refl _, size := Nat.le_refl _, frame := fun _ _ _ _ _ => rfl, pub := fun b h => .inl h, rely := ⟨hd k, P.rely hi hA hlt⟩, an := hAn, row := hrow.imp fun b hb => ⟨.inl hb, (P.prl b k hb).2.2.2⟩, inv := P.I } rfl rfl
  unfold EW at key
  refine Walk.mono ?_ fun g' w' hS => fin2 hT (fin_of_stop (V := V) (cnt' := x.cnt) hy P hi (Nat.lt_succ_self _) (fun j h1 h2 => by omega) (Nat.le_succ _) hi (Nat.le_refl _) hlt hS)
  exact key
theorem inv2_keep (h : inv2 L g S yb fdo first cap k o x cs w) (K : Keeps o o' w w') : inv2 L g S yb fdo first cap k o' x cs w' := ⟨h.1, invO_keep h.2 K⟩
noncomputable def crewO (L : La) (g : OG) (yb : L.Gh) {fdo : FuncId} {first cap : Array Value} (hD : DoFn L fdo first cap) (S : Stile) : Crew S (OX L) where
  inv := inv2 L g S yb fdo first cap
  born := bornO g.ops
  next := nextO
  out := OX.out
  cnt := OX.cnt
  cntBorn := fun _ _ => rfl
  cntNext := fun x i => by unfold nextO; cases (x.th i).d <;> rfl
  keep := inv2_keep
  bornOut := fun x i j h => upd_ne _ _ h
  nextOut := fun x i j h => by
    unfold nextO
    cases (x.th i).d with
    | none => rfl
    | some d => exact upd_ne _ _ h
  shape := fun {k o x cs w i} h hik hout => invO_shape h.2 hik hout
  thr := fun {k o x cs w i} h _ hi => invO_thr h.2 hi
  sch := fun {k o x cs w j z} h hz => invO_sch h.2 hz
  start := fun f fs h hk hc hA hlt => .inl (startO hD f fs h hk hc hA hlt)
  go := fun f fs h hik hout hcs hc hA hlt => (goO f fs h.2 hik hout hcs hc hA hlt).mono fun _ _ hF => fin2 h.1 hF
end
end
section
variable {main : Bool} {V : Nat → Option Wait}
section
variable {P : Program} {t e : TypeId} {ti : TypeInfo}
theorem run_sl_of (hu : P.underlying t = some (.slice e)) (hi : P.info? e = some ti) (tb m cap x : Nat) (hx : x ≤ cap) (w : World) (es : Array Event) : (Instr.sliceAt t (.slice (some ⟨tb, 0, none⟩) m cap) none (some (.int .i64 x)) none).run P w = .ok (.slice (some ⟨tb, 0, none⟩) x cap) w ∧
    (Instr.sliceAt t (.slice (some ⟨tb, 0, none⟩) m cap) none (some (.int .i64 x)) none).events P w es = es := by
  have h1 : (x : Int) ≤ cap := by omega
  constructor <;> simp [Instr.sliceAt, Instr.slice, run_underlying hu, Instr.sliceBounds, Instr.sliceBound, asIntOf, sizeOf, typeInfo, hi, h1, hx, Addr.add]
end
theorem hu53 : Try.prog.underlying 164 = some (.slice 176) := by kernel_rfl
theorem first_some (tb m tcap : Nat) (w : World) (hm : m ≤ tcap) : CallV Try.prog main V 116 #[.slice (some ⟨tb, 0, none⟩) m tcap] w (.slice (some ⟨tb, 0, none⟩) (min m 64) tcap) w := by
  refine callW_in Try.func116 rfl fun fr cs => ?_
  simp only [Try.ntmps116, ez, Nat.reduceAdd, Nat.reduceSub]
  have hmn := @events_min_ints Try.prog
  repeat (first | refine Walk.cx ?_ | refine Walk.cR ?_ | (refine Walk.oq ?_; try walk_nrm) | (refine Walk.un ?_; walk_nrm))
  have hmin : min (m : Int) 64 = ((min m 64 : Nat) : Int) := by omega
  rw [hmin]
  have hxl : min m 64 ≤ tcap := by omega
  generalize min m 64 = x at hxl ⊢
  have hi := Option.some_get (show (Try.prog.info? 176).isSome = true by kernel_rfl)
  have hs := fun w => (run_sl_of hu53 hi.symm tb m tcap x hxl w #[]).1
  have hse := fun w es => (run_sl_of hu53 hi.symm tb m tcap x hxl w es).2
  clear hi
  repeat (first | refine Walk.cx ?_ | refine Walk.cR ?_ | (refine Walk.oq ?_; try walk_nrm) | (refine Walk.un ?_; walk_nrm))
  exact Walk.ret1 rfl rfl Try.func116 rfl fun d => ⟨by simp, d, rfl⟩
end
section
noncomputable def reg92_0 := rg Try.f92.body [0]
noncomputable def reg92_1 := rg Try.f92.body [1, 0]
noncomputable def reg92_2 := rg Try.f92.body [1, 1, 0]
noncomputable def reg92_3 := rg Try.f92.body [1, 1, 1, 0]
noncomputable def reg92_4 := rg Try.f92.body [1, 1, 1, 1, 0, 0]
noncomputable def reg92_5 := rg Try.f92.body [1, 1, 1, 1, 0, 1, 0, 0, 0]
noncomputable def reg92_6 := rg Try.f92.body [1, 1, 1, 1, 0, 1, 0, 0, 1, 1, 0, 0, 0]
noncomputable def reg92_7 := rg Try.f92.body [1, 1, 1, 1, 0, 1, 0, 0, 1, 1, 0, 0, 1, 0]
noncomputable def reg92_8 := rg Try.f92.body [1, 1, 1, 1, 0, 1, 0, 0, 1, 1, 0, 0, 1, 1]
noncomputable def reg92_9 := rg Try.f92.body [1, 1, 1, 1, 0, 1, 0, 0, 1, 1, 1]
noncomputable def reg92_10 := rg Try.f92.body [1, 1, 1, 1, 1, 0]
theorem size92_10 : reg92_10.size = 4 := by kernel_rfl
theorem z92 : List.range reg92_0.size = [0, 1, 2] ∧ List.range reg92_1.size = [0, 1, 2] ∧ List.range reg92_2.size = [0, 1, 2, 3, 4] ∧ List.range reg92_3.size = [0, 1, 2, 3] ∧ List.range reg92_4.size = [0, 1, 2] ∧ List.range reg92_5.size = [0] ∧ List.range reg92_6.size = [0, 1, 2, 3, 4, 5, 6] ∧ List.range reg92_7.size = [0, 1, 2, 3, 4, 5] ∧ List.range reg92_8.size = [0, 1, 2, 3, 4] ∧ List.range reg92_9.size = [0, 1] ∧ List.range reg92_10.size = [0, 1, 2, 3] := by refine ⟨?_, ?_, ?_, ?_, ?_, ?_, ?_, ?_, ?_, ?_, ?_⟩ <;> kernel_rfl
theorem code92_is : Try.f92.body = some (.seq (.region 0 reg92_0 false) (.seq (.region 1 reg92_1 false) (.seq (.region 2 reg92_2 false) (.seq (.region 3 reg92_3 false) (.seq (.seq (.region 4 reg92_4 false) (.block 0 (.loop (.seq (.region 5 reg92_5 false) (.seq (.cond (.tmp 21 ) (.skip) (.exit 0)) (.seq (.block 1 (.seq (.region 6 reg92_6 false) (.seq (.region 7 reg92_7 false) (.region 8 reg92_8 false)))) (.region 9 reg92_9 false))))))) (.seq (.region 10 reg92_10 true) (.ret))))))) := by kernel_rfl
def thrO (N i : Nat) : Value := .func (.func 114) #[] #[.pointer (some ⟨N + 5 + 2 * i, 0, none⟩), .pointer (some ⟨N + 2, 0, none⟩), .pointer (some ⟨N + 4 + 2 * i, 0, none⟩), .pointer (some ⟨N, 0, none⟩)]
structure MkO (N n : Nat) (dv : Value) (oa : Nat → Option Addr) (ln oc : Nat → Nat) (w0 w : World) (i : Nat) : Prop where
  size : w.heap.size = N + 4 + 2 * i
  old : ∀ b, b < N → w.heap[b]? = w0.heap[b]?
  cD : w.heap[N]? = some (.cells #[dv] 126)
  cN : w.heap[N + 1]? = some (.cells (madeCells #[.slice none 0 0] n) 44)
  cA : w.heap[N + 2]? = some (.cells #[.slice (some ⟨N + 1, 0, none⟩) n n] 29)
  cF : ∃ arr : Array Value, w.heap[N + 3]? = some (.cells arr 176) ∧ arr.size = n ∧ ∀ j, j < i → arr[j]? = some (thrO N j)
  cI : ∀ j, j < i → w.heap[N + 4 + 2 * j]? = some (.cells #[.int .i64 (j : Nat)] 3)
  cO : ∀ j, j < i → w.heap[N + 5 + 2 * j]? = some (.cells #[.slice (oa j) (min (ln j) 65536) (oc j)] 34)
theorem MkO.at {N n : Nat} {dv : Value} {oa : Nat → Option Addr} {ln oc : Nat → Nat} {w0 w : World} {i : Nat} (h : MkO N n dv oa ln oc w0 w i) (d : Nat) : MkO N n dv oa ln oc w0 (w.at d) i := ⟨h.size, h.old, h.cD, h.cN, h.cA, h.cF, h.cI, h.cO⟩
section
variable {P : Program} {t e : TypeId} {ti : TypeInfo}
theorem run_slx (hu : P.underlying t = some (.slice e)) (hi : P.info? e = some ti) (a : Option Addr) (m cap x : Nat) (hx : x ≤ cap) (ha : a = none ∧ cap = 0 ∨ ∃ p, a = some p) (w : World) (es : Array Event) : (Instr.sliceAt t (.slice a m cap) none (some (.int .i64 x)) none).run P w = .ok (.slice a x cap) w ∧
    (Instr.sliceAt t (.slice a m cap) none (some (.int .i64 x)) none).events P w es = es := by
  have h1 : (x : Int) ≤ cap := by omega
  rcases ha with ⟨rfl, rfl⟩ | ⟨p, rfl⟩
  · have : x = 0 := by omega
    subst this
    constructor <;> simp [Instr.sliceAt, Instr.slice, run_underlying hu, Instr.sliceBounds, Instr.sliceBound, asIntOf, sizeOf, typeInfo, hi]
  · constructor <;> simp [Instr.sliceAt, Instr.slice, run_underlying hu, Instr.sliceBounds, Instr.sliceBound, asIntOf, sizeOf, typeInfo, hi, h1, hx, Addr.add]
end
theorem huOps : Try.prog.underlying 34 = some (.slice 49) := by kernel_rfl
noncomputable def hd46 (dv : Value) (ta : Option Addr) (tc N n j : Nat) (u : Nat → Value) : Frame :=
  (base 92).at { tmps := #[.slice ta n tc, dv, u 2, .pointer (some ⟨N, 0, none⟩), u 4, u 5, .pointer (some ⟨N + 2, 0, none⟩), .slice (some ⟨N + 3, 0, none⟩) n n, u 8, u 9, u 10, u 11, u 12, u 13, u 14, u 15, u 16, u 17, .slice ta n tc, .int .i64 n, .int .i64 j, u 21, u 22, u 23, u 24, u 25, u 26, u 27, u 28, u 29, u 30, u 31, u 32, u 33, u 34, u 35, u 36], defers := [] } [.code (.seq (.region 5 reg92_5 false) (.seq (.cond (.tmp 21 ) (.skip) (.exit 0)) (.seq (.block 1 (.seq (.region 6 reg92_6 false) (.seq (.region 7 reg92_7 false) (.region 8 reg92_8 false)))) (.region 9 reg92_9 false)))), .inLoop (.seq (.region 5 reg92_5 false) (.seq (.cond (.tmp 21 ) (.skip) (.exit 0)) (.seq (.block 1 (.seq (.region 6 reg92_6 false) (.seq (.region 7 reg92_7 false) (.region 8 reg92_8 false)))) (.region 9 reg92_9 false)))), .inBlock 0, .code (.seq (.region 10 reg92_10 true) (.ret))]
section
variable {main : Bool} {V : Nat → Option Wait}
theorem madeCells_get (v : Value) (n i : Nat) (hi : i < n) : (madeCells #[v] n)[i]? = some v := by
  have : (madeCells #[v] n)[i]? = (madeCells #[v] n).toList[i]? := by simp
  rw [this, toList_madeCells_one, List.getElem?_replicate, if_pos hi]
theorem madeCells_size (v : Value) (n : Nat) : (madeCells #[v] n).size = n := by
  rw [← Array.length_toList, toList_madeCells_one, List.length_replicate]
theorem opThreads_in (fdo : FuncId) (first cap : Array Value) (tv : Value) (ta : Option Addr) (tc n : Nat) (hn : n ≤ 64) (cs : List Frame) (w : World) (hA : ∀ b, w.heap.size ≤ b → Apart V b)
    (hp : ∀ w' : World, (∀ b, b < w.heap.size → w'.heap[b]? = w.heap[b]?) → CallV Try.prog main V 113 #[tv] w' (.slice ta n tc) w') (oa : Nat → Option Addr) (ln oc : Nat → Nat) :
    Walk Try.prog main (DR V) (fun g w' => (∃ u, g = G (hd46 (.func (.func fdo) first cap) ta tc w.heap.size n 0 u) cs) ∧ MkO w.heap.size n (.func (.func fdo) first cap) oa ln oc w w' 0) (G (Frame.enter Try.prog 92 #[tv, .func (.func fdo) first cap] .normal) cs) w := by
  have hi1 := Option.some_get (show (Try.prog.info? 44).isSome = true by kernel_rfl)
  have hi2 := Option.some_get (show (Try.prog.info? 176).isSome = true by kernel_rfl)
  rw [enter_at _ Try.func92 code92_is]
  simp only [Try.ntmps92, ez, Nat.reduceAdd, Nat.reduceSub]
  repeat (first | refine Walk.cx ?_ | (refine Walk.cReg ?_; simp only [z92]) | (refine Walk.oq ?_; try walk_nrm) | (refine Walk.un ?_; walk_nrm))
  (refine Walk.oa ?_; try walk_nrm)
  have s1 : (w.alloc (.cells #[.func (.func fdo) first cap] 126)).heap.size = w.heap.size + 1 := by simp
  have o1 : ∀ b, b < w.heap.size → (w.alloc (.cells #[.func (.func fdo) first cap] 126)).heap[b]? = w.heap[b]? := fun b hb => heap_new_lt _ _ hb
  have d1 := heap_alloc_new w (.cells #[.func (.func fdo) first cap] 126)
  generalize hN : w.heap.size = N at *
  generalize w.alloc (.cells #[.func (.func fdo) first cap] 126) = w1 at *
  repeat (first | refine Walk.cx ?_ | (refine Walk.cReg ?_; simp only [z92]) | (refine Walk.oq ?_; try walk_nrm) | (refine Walk.un ?_; walk_nrm))
  refine Walk.callV (x := .slice ta n tc) (W := w1) ?_ (ho_of (by conv => lhs; whnf) (by kernel_rfl)) (by rfl) (by decide) rfl Try.func113 (by kernel_rfl) (by rfl) ?_
  · walk_nrm
    exact hp w1 o1
  walk_nrm
  repeat (first | refine Walk.cx ?_ | (refine Walk.cReg ?_; simp only [z92]) | (refine Walk.oq ?_; try walk_nrm) | (refine Walk.un ?_; walk_nrm))
  refine Walk.make 29 (.tmp 13) (.tmp 13) (ho_of (by conv => lhs; whnf) (by kernel_rfl)) (by rfl) (by decide) rfl 44 _ (.slice none 0 0) 1 24 (by kernel_rfl) hi1.symm (by rfl) (by rfl) (by rfl) n (by rfl) (by rfl) (by omega) (by omega) ?_
  walk_nrm
  simp only [Value.cells, Nat.mul_one]
  have s2 : (w1.alloc (.cells (madeCells #[.slice none 0 0] n) 44)).heap.size = N + 2 := by simp [s1]
  have o2 : ∀ b, b < N + 1 → (w1.alloc (.cells (madeCells #[.slice none 0 0] n) 44)).heap[b]? = w1.heap[b]? := fun b hb => heap_new_lt _ _ (by omega)
  have d2 := heap_alloc_new w1 (.cells (madeCells #[.slice none 0 0] n) 44)
  rw [s1] at d2
  try simp only [s1]
  generalize w1.alloc (.cells (madeCells #[.slice none 0 0] n) 44) = w2 at *
  (refine Walk.oa ?_; try walk_nrm)
  have s3 : (w2.alloc (.cells #[.slice none 0 0] 29)).heap.size = N + 3 := by simp [s2]
  have o3 : ∀ b, b < N + 2 → (w2.alloc (.cells #[.slice none 0 0] 29)).heap[b]? = w2.heap[b]? := fun b hb => heap_new_lt _ _ (by omega)
  have d3 := heap_alloc_new w2 (.cells #[.slice none 0 0] 29)
  rw [s2] at d3
  try simp only [s2]
  generalize w2.alloc (.cells #[.slice none 0 0] 29) = w3 at *
  have c3 := (cell_of d3 0).trans rfl
  have z3 := frozen_of d3 0
  have f3 := (hA (N + 2) (by omega)).1 ⟨N + 2, 0, none⟩ rfl
  (refine Walk.os f3 c3 ?_; try walk_nrm)
  have s4 := size_set w3 ⟨N + 2, 0, none⟩ (.slice (some ⟨N + 1, 0, none⟩) n n)
  have o4 : ∀ b, b ≠ N + 2 → (w3.setCell ⟨N + 2, 0, none⟩ (.slice (some ⟨N + 1, 0, none⟩) n n)).heap[b]? = w3.heap[b]? := fun b hb => heap_set_other _ _ _ _ hb
  have d4 : (w3.setCell ⟨N + 2, 0, none⟩ (.slice (some ⟨N + 1, 0, none⟩) n n)).heap[N + 2]? = some (.cells #[.slice (some ⟨N + 1, 0, none⟩) n n] 29) := by
    rw [heap_set_self _ _ d3]
    simp
  rw [s3] at s4
  clear c3 z3 f3
  generalize w3.setCell ⟨N + 2, 0, none⟩ (.slice (some ⟨N + 1, 0, none⟩) n n) = w4 at *
  repeat (first | refine Walk.cx ?_ | (refine Walk.cReg ?_; simp only [z92]) | (refine Walk.oq ?_; try walk_nrm) | (refine Walk.un ?_; walk_nrm))
  refine Walk.make 164 (.tmp 16) (.tmp 16) (ho_of (by conv => lhs; whnf) (by kernel_rfl)) (by rfl) (by decide) rfl 176 _ .nilFunc 1 8 (by kernel_rfl) hi2.symm (by rfl) (by rfl) (by rfl) n (by rfl) (by rfl) (by omega) (by omega) ?_
  walk_nrm
  simp only [Value.cells, Nat.mul_one]
  have s5 : (w4.alloc (.cells (madeCells #[.nilFunc] n) 176)).heap.size = N + 4 := by simp [s4]
  have o5 : ∀ b, b < N + 3 → (w4.alloc (.cells (madeCells #[.nilFunc] n) 176)).heap[b]? = w4.heap[b]? := fun b hb => heap_new_lt _ _ (by omega)
  have d5 := heap_alloc_new w4 (.cells (madeCells #[.nilFunc] n) 176)
  rw [s4] at d5
  try simp only [s4]
  generalize w4.alloc (.cells (madeCells #[.nilFunc] n) 176) = w5 at *
  repeat (first | refine Walk.cx ?_ | (refine Walk.cReg ?_; simp only [z92]) | (refine Walk.oq ?_; try walk_nrm) | (refine Walk.un ?_; walk_nrm))
  refine Walk.ctl rfl (fun w => stepG_loop) ?_
  refine .stop fun d => ⟨at_slots ?_, MkO.at ⟨by omega, fun b hb => ?_, ?_, ?_, ?_, ⟨_, d5, madeCells_size _ _, fun j hj => absurd hj (Nat.not_lt_zero _)⟩, fun j hj => absurd hj (Nat.not_lt_zero _), fun j hj => absurd hj (Nat.not_lt_zero _)⟩ d⟩
  · simp only [hd46]
    rfl
  · rw [o5 b (by omega), o4 b (by omega), o3 b (by omega), o2 b (by omega), o1 b hb]
  · rw [o5 N (by omega), o4 N (by omega), o3 N (by omega), o2 N (by omega), d1]
  · rw [o5 _ (by omega), o4 _ (by omega), o3 _ (by omega), d2]
  · rw [o5 _ (by omega), d4]
end
end
end Go.Proofs.Ytbmijpkdghkbbaa
