/- Part 17. -/
import Derived.Test.YtjenoiekfkhafaaJ15
import Derived.Test.YtjenoiekfkhafaaJ16
set_option linter.unusedSimpArgs false
set_option linter.unusedVariables false
set_option linter.unusedVariables false
set_option maxHeartbeats 8000000
set_option maxRecDepth 100000
namespace Go.Proofs.Ytjenoiekfkhafaa
open Go.Conc Go.RowKit Go.Relay
open Go.ConcN (upd upd_ne upd_same)
section
noncomputable def hd68 (sv : Value) (pO pA pI pD : Nat) (ov : Value) (ln j : Nat) (u : Nat → Value) : Frame :=
  (base 63).at { tmps := #[sv, .pointer (some ⟨pO, 0, none⟩), .pointer (some ⟨pA, 0, none⟩), .pointer (some ⟨pI, 0, none⟩), .pointer (some ⟨pD, 0, none⟩), u 5, u 6, u 7, ov, .int .i64 ln, .int .i64 j, u 11, u 12, u 13, u 14, u 15, u 16, u 17, u 18, u 19, u 20, u 21, u 22, u 23, u 24, u 25, u 26, u 27, u 28], defers := [] } [.code (.seq (.region 1 reg63_1 false) (.seq (.cond (.tmp 11 ) (.skip) (.exit 0)) (.seq (.block 1 (.seq (.region 2 reg63_2 false) (.region 3 reg63_3 true))) (.region 4 reg63_4 false)))), .inLoop (.seq (.region 1 reg63_1 false) (.seq (.cond (.tmp 11 ) (.skip) (.exit 0)) (.seq (.block 1 (.seq (.region 2 reg63_2 false) (.region 3 reg63_3 true))) (.region 4 reg63_4 false)))), .inBlock 0]
section
variable {L : La} {g : OG} {S : Stile} {i : Nat}
def EW (e : EC L g S i) (fr : Frame) : Prop := Walk Try.prog false (DR e.τ.V) (StopT L g S i (Cont L g S i e.N) e.τ) (G fr (e.τ.f :: e.τ.fs)) e.w
theorem EC.grow (e : EC L g S i) (w' : World) (hs : e.w.heap.size ≤ w'.heap.size) (hb : ∀ b, b < e.w.heap.size → w'.heap[b]? = e.w.heap[b]?) : ∃ e' : EC L g S i, e'.τ = e.τ ∧ e'.N = e.N ∧ e'.s = e.s ∧ e'.ans = e.ans ∧ e'.hd = e.hd ∧ e'.w = w' := by
  obtain ⟨hd0, r⟩ := e.rely
  obtain ⟨arr, arr', a1, a2, a3, a4, a5⟩ := e.an
  have hA : g.A < e.w.heap.size := by have := r.alo; have := r.size; have := e.size; omega
  exact ⟨{ τ := e.τ, N := e.N, w := w', y := e.y, s := e.s, ans := e.ans, hd := e.hd, le := e.le, size := Nat.le_trans e.size hs, frame := fun b h1 h2 h3 h4 => (hb b (Nat.lt_of_lt_of_le h1 e.size)).trans (e.frame b h1 h2 h3 h4), pub := e.pub, rely := e.rely, an := ⟨arr, arr', a1, (hb _ hA).trans a2, a3, a4, a5⟩, row := (e.row.same fun b h => hb b (e.lo h).2).imp fun b h => ⟨h.1.imp id fun h => ⟨h.1, by omega⟩, h.2⟩, inv := L.stable e.inv fun b h => hb b (L.lt e.inv h) }, rfl, rfl, rfl, rfl, rfl, rfl⟩
variable {pO pA pI pD acap : Nat} {oa : Option Addr} {oc : Nat} {fdo : FuncId} {first cap : Array Value}
theorem loop68_end (T : ThS L g i pO pA pI pD acap oa oc (.func (.func fdo) first cap)) (e : EC L g S i) (hg : e.τ.goal = settleO L (i : Nat) e.s [] e.ans) (ov : Value) (u : Nat → Value) :
    EW e (hd68 (.iface 150 (.pointer (some ⟨S.p i, 0, none⟩))) pO pA pI pD ov (g.ops i).length (g.ops i).length u) := by
  unfold EW hd68
  repeat (first | refine Walk.cx ?_ | (refine Walk.cReg ?_; simp only [z63]) | (refine Walk.oq ?_; try walk_nrm) | (refine Walk.un ?_; walk_nrm))
  refine Walk.on0 rfl rfl Try.func63 rfl ?_
  refine .stop fun d => ⟨e.y, e.le, e.size, e.frame, ?_, e.pub, e.hd, e.an, ?_, .inl ⟨?_, rfl⟩⟩
  · rw [hg]; exact L.stable e.inv fun _ _ => rfl
  · rw [hg]; exact e.row.same fun _ _ => rfl
  · rw [hg]; rfl
theorem loop68_go (T : ThS L g i pO pA pI pD acap oa oc (.func (.func fdo) first cap)) {fn : Func} (hf : Try.prog.funcs[fdo]? = some fn) (hname : (fn.name == "runtime.NumGoroutine") = false) (hb : fn.body.isNone = false) (hdo : DoOK L fdo first cap)
    (e : EC L g S i) (j : Nat) (o : OpV) (rest : List OpV) (ho : (g.ops i)[j]? = some o) (hlen : e.ans.length = j) (hg : e.τ.goal = settleO L (i : Nat) e.s (o :: rest) e.ans) (u : Nat → Value)
    (hk : ∀ (e' : EC L g S i) (u' : Nat → Value), e'.ans.length = j + 1 → e'.τ.goal = settleO L (i : Nat) e'.s rest e'.ans → EW e' (hd68 (.iface 150 (.pointer (some ⟨S.p i, 0, none⟩))) pO pA pI pD (.slice oa (g.ops i).length oc) (g.ops i).length (j + 1) u')) :
    EW e (hd68 (.iface 150 (.pointer (some ⟨S.p i, 0, none⟩))) pO pA pI pD (.slice oa (g.ops i).length oc) (g.ops i).length j u) := by
  obtain ⟨fsO, huO⟩ := structT 47 (by kernel_rfl)
  have hjl : j < (g.ops i).length := (List.getElem?_eq_some_iff.1 ho).1
  have hl64 := T.len
  obtain ⟨ob, off, rfl, n1, n2, c0, c1, c2, c3⟩ := T.ops j o ho
  replace c0 := e.cell c0 ⟨n1, n2⟩
  replace c1 := e.cell c1 ⟨n1, n2⟩
  replace c2 := e.cell c2 ⟨n1, n2⟩
  replace c3 := e.cell c3 ⟨n1, n2⟩
  have hw1 : IntKind.wrap .i64 ((j : Int) + 1) = (j : Int) + 1 := by rw [IntKind.wrap_i64]; omega
  generalize hln : (g.ops i).length = ln at *
  have hi0 : (0 : Int) ≤ j := by omega
  have hi1 : decide ((j : Int) < ln) = true := by simp; omega
  have hi2 : decide (ln ≤ j) = false := by simp; omega
  have hi3 : decide (j < ln) = true := by simp; omega
  unfold EW hd68
  repeat (first | refine Walk.cx ?_ | (refine Walk.cReg ?_; simp only [z63]) | (refine Walk.oq ?_; try walk_nrm) | (refine Walk.un ?_; walk_nrm))
  refine Walk.loadS 47 (.tmp 12) (ho_of (by conv => lhs; whnf) (by kernel_rfl)) (by rfl) (by decide) rfl ob (off + j * 4) [.int .i64 o.k, .int .i64 o.a, .int .i64 o.b, .int .i64 o.c] (.struct fsO) (by simp [Act.eval]) (fun q v hq => ?_) huO rfl (by kernel_rfl) ?_
  · match q, hq with
    | 0, hq => cases hq; exact c0
    | 1, hq => cases hq; exact c1
    | 2, hq => cases hq; exact c2
    | 3, hq => cases hq; exact c3
  walk_nrm
  (refine Walk.oa ?_; try walk_nrm)
  have hX := heap_alloc_new e.w (.cells #[.int .i64 0, .int .i64 0, .int .i64 0, .int .i64 0] 47)
  have hap := e.apart (b := e.w.heap.size) (.inr (.inr (.inl (Nat.le_refl _))))
  refine Walk.storeS 47 (.tmp 7) (.tmp 13) (ho_of (by conv => lhs; whnf) (by kernel_rfl)) (by rfl) (by decide) rfl e.w.heap.size #[.int .i64 o.k, .int .i64 o.a, .int .i64 o.b, .int .i64 o.c] _ 47 rfl rfl hX (by kernel_rfl) (by rfl) (by simp [Value.oneCell']) hap ?_
  have hX2 := setRow_self (cells := #[.int .i64 o.k, .int .i64 o.a, .int .i64 o.b, .int .i64 o.c]) hX
  walk_nrm
  repeat (first | refine Walk.cx ?_ | (refine Walk.cReg ?_; simp only [z63]) | (refine Walk.oq ?_; try walk_nrm) | (refine Walk.un ?_; walk_nrm))
  obtain ⟨e1, q1, q2, q3, q4, q5, q6⟩ := e.grow ((e.w.alloc (.cells #[.int .i64 0, .int .i64 0, .int .i64 0, .int .i64 0] 47)).setRow e.w.heap.size #[.int .i64 o.k, .int .i64 o.a, .int .i64 o.b, .int .i64 o.c]) (by rw [setRow_size]; simp) (fun b hb' => (setRow_other _ _ (by omega)).trans (heap_new_lt _ _ hb'))
  have key := reg68_walk (rest' := rest) (X := e.w.heap.size) T hf hname hb hdo e1 (by rw [q4]; omega) (by rw [q1, q3, q4, hg]; rfl) (by rw [q6]; exact hX2) (.slice (some ⟨ob, off, none⟩) ln oc) ln j
  rw [q1, q2, q6] at key
  simp only [tm68] at key
  refine key (fun k => ([u 0, u 1, u 2, u 3, u 4, u 5, u 6, u 7, u 8, u 9, u 10, .bool true, .pointer (some ⟨ob, off + j * 4, none⟩), opVal o, u 14, u 15, u 16, u 17, u 18, u 19, u 20, u 21, u 22, u 23, u 24, u 25, u 26, u 27, u 28] : List Value).getD k undef) _ ?_
  · intro u' e' a ha hg'
    have := hk e' (fun k => ([u' 0, u' 1, u' 2, u' 3, u' 4, u' 5, u' 6, .pointer (some ⟨e.w.heap.size, 0, none⟩), u' 8, u' 9, u' 10, u' 11, u' 12, u' 13, u' 14, u' 15, u' 16, u' 17, u' 18, u' 19, u' 20, u' 21, u' 22, u' 23, u' 24, u' 25, u' 26, u' 27, .int .i64 ((j : Int) + 1)] : List Value).getD k undef) (by rw [ha, q4]; simp; omega) hg'
    unfold EW hd68 at this
    have hc : ((j + 1 : Nat) : Int) = (j : Int) + 1 := by simp
    simp only [hc] at this
    repeat (first | refine Walk.cx ?_ | (refine Walk.cReg ?_; simp only [z63]) | (refine Walk.oq ?_; try walk_nrm) | (refine Walk.un ?_; walk_nrm))
    refine Walk.ctl rfl (fun w => stepG_inLoop) ?_
    exact this
theorem loop68 (T : ThS L g i pO pA pI pD acap oa oc (.func (.func fdo) first cap)) {fn : Func} (hf : Try.prog.funcs[fdo]? = some fn) (hname : (fn.name == "runtime.NumGoroutine") = false) (hb : fn.body.isNone = false) (hdo : DoOK L fdo first cap) :
    ∀ (left : List OpV) (e : EC L g S i) (u : Nat → Value), (g.ops i).drop e.ans.length = left → e.ans.length ≤ (g.ops i).length → e.τ.goal = settleO L (i : Nat) e.s left e.ans → EW e (hd68 (.iface 150 (.pointer (some ⟨S.p i, 0, none⟩))) pO pA pI pD (.slice oa (g.ops i).length oc) (g.ops i).length e.ans.length u) := by
  intro left
  induction left with
  | nil =>
    intro e u hd hl hg
    have : e.ans.length = (g.ops i).length := by have := List.drop_eq_nil_iff.1 hd; omega
    rw [this]
    exact loop68_end T e hg _ u
  | cons o rest ih =>
    intro e u hd hl hg
    have hj : e.ans.length < (g.ops i).length := by
      refine Nat.lt_of_not_le fun h => ?_
      rw [List.drop_eq_nil_iff.2 h] at hd; cases hd
    rw [List.drop_eq_getElem_cons hj] at hd
    obtain ⟨h1, h2⟩ := List.cons.inj hd
    refine loop68_go T hf hname hb hdo e _ o rest (by rw [List.getElem?_eq_getElem hj, h1]) rfl hg u fun e' u' h3 h4 => ?_
    rw [← h3]
    exact ih e' u' (by rw [h3]; exact h2) (by omega) h4
theorem enter68 (T : ThS L g i pO pA pI pD acap oa oc (.func (.func fdo) first cap)) {fn : Func} (hf : Try.prog.funcs[fdo]? = some fn) (hname : (fn.name == "runtime.NumGoroutine") = false) (hb : fn.body.isNone = false) (hdo : DoOK L fdo first cap)
    (e : EC L g S i) (ha : e.ans = []) (hg : e.τ.goal = settleO L (i : Nat) e.s (g.ops i) []) :
    EW e (Frame.enter Try.prog 63 #[.iface 150 (.pointer (some ⟨S.p i, 0, none⟩)), .pointer (some ⟨pO, 0, none⟩), .pointer (some ⟨pA, 0, none⟩), .pointer (some ⟨pI, 0, none⟩), .pointer (some ⟨pD, 0, none⟩)] .normal) := by
  have h := loop68 T hf hname hb hdo (g.ops i) e (fun _ => undef) (by rw [ha]; rfl) (by rw [ha]; simp) (by rw [ha]; exact hg)
  have cO := e.cell T.cO T.nO
  rw [ha] at h
  unfold EW hd68 at h
  unfold EW
  simp only [List.length_nil] at h
  rw [enter_at _ Try.func63 code63_is]
  simp only [Try.ntmps63, ez, Nat.reduceAdd, Nat.reduceSub]
  repeat (first | refine Walk.cx ?_ | (refine Walk.cReg ?_; simp only [z63]) | (refine Walk.oq ?_; try walk_nrm) | (refine Walk.un ?_; walk_nrm))
  refine Walk.ctl rfl (fun w => stepG_loop) ?_
  exact h
end
end
section
structure DoFn (L : La) (fdo : FuncId) (first cap : Array Value) : Prop where
  fn : ∃ fn, Try.prog.funcs[fdo]? = some fn ∧ (fn.name == "runtime.NumGoroutine") = false ∧ fn.body.isNone = false
  ok : DoOK L fdo first cap
def OThr (L : La) (g : OG) (S : Stile) (fdo : FuncId) (first cap : Array Value) : Prop := ∀ i, i < g.n → ∃ pO pA pI pD acap oa oc, ThS L g i pO pA pI pD acap oa oc (.func (.func fdo) first cap) ∧
  S.F i = .func (.func 63) #[] #[.pointer (some ⟨pO, 0, none⟩), .pointer (some ⟨pA, 0, none⟩), .pointer (some ⟨pI, 0, none⟩), .pointer (some ⟨pD, 0, none⟩)]
def inv2 (L : La) (g : OG) (S : Stile) (yb : L.Gh) (fdo : FuncId) (first cap : Array Value) (k : Nat) (o : Nat → Option Role) (x : OX L) (cs : Nat → List Frame) (w : World) : Prop := OThr L g S fdo first cap ∧ invO L g S yb k o x cs w
section
variable {L : La} {g : OG} {S : Stile} {fdo : FuncId} {first cap : Array Value} {k : Nat} {o o' : Nat → Option Role} {x : OX L} {cs : Nat → List Frame} {w w' : World} {yb : L.Gh}
theorem fin2 (hT : OThr L g S fdo first cap) {k' i : Nat} {x' : OX L} {f : Frame} {fs : List Frame} {g' : Goroutine} (h : Fin (invO L g S yb) OX.out S k' o x' cs i f fs w g' w') : Fin (inv2 L g S yb fdo first cap) OX.out S k' o x' cs i f fs w g' w' := by
  obtain ⟨h1, h2, l, h3, h4⟩ := h
  exact ⟨h1, h2, l, ⟨hT, h3⟩, h4⟩
theorem startO (hD : DoFn L fdo first cap) {V : Nat → Option Wait} (f : Frame) (fs : List Frame) (h : inv2 L g S yb fdo first cap k o x cs w) (hk : k < S.n) (_hc : x.cnt < 1048576) (hA : ∀ b, o b = none → Apart V b) (hlt : ∀ b r, o b = some r → b < w.heap.size) :
    ∃ fi fn first' cap', S.F k = .func (.func fi) first' cap' ∧ Try.prog.funcs[fi]? = some fn ∧ (fn.name == "runtime.NumGoroutine") = false ∧ fn.body.isNone = false ∧
      Walk Try.prog false (DR V) (Fin (inv2 L g S yb fdo first cap) OX.out S (k + 1) o (bornO g.ops x k) cs k f fs w) (G (Frame.enter Try.prog fi (first' ++ #[.iface 150 (.pointer (some ⟨S.p k, 0, none⟩))] ++ cap') .normal) (f :: fs)) w := by
  obtain ⟨hT, pr, hd, y, hy, P⟩ := h
  have hi : k < g.n := P.st.n ▸ hk
  obtain ⟨pO, pA, pI, pD, acap, oa, oc, T, hF⟩ := hT k hi
  obtain ⟨fn, q1, q2, q3⟩ := hD.fn
  have hth := P.fresh k (Nat.le_refl _) hi
  have hrow := P.row k hi
  rw [hth] at hrow
  refine ⟨63, Try.f63, _, _, hF, Try.func63, by decide, by rfl, ?_⟩
  have hAn : AnT g k w w (hd k) := by
    obtain ⟨arr, ha, hz, hr⟩ := P.an
    exact ⟨arr, arr, ha, ha, rfl, hr k hi, fun _ _ => rfl⟩
  have key := enter68 (S := S) T q1 q2 q3 hD.ok { τ := ⟨V, f, fs, w, y, fun b => pr b = some k, settleO L (k : Nat) x.s (g.ops k) []⟩, N := 1048577 - x.cnt, w := w, y := y, s := x.s, ans := [], hd := hd k, le := L.refl _, size := Nat.le_refl _, frame := fun _ _ _ _ _ => rfl, pub := fun b h => .inl h, rely := ⟨hd k, P.rely hi hA hlt⟩, an := hAn, row := hrow.imp fun b hb => ⟨.inl hb, (P.prl b k hb).2.2.2⟩, inv := P.I } rfl rfl
  unfold EW at key
  refine Walk.mono ?_ fun g' w' hS => fin2 hT (fin_of_stop (V := V) (cnt' := x.cnt) hy P hi (Nat.lt_succ_self _) (fun j h1 h2 => by omega) (Nat.le_succ _) hi (Nat.le_refl _) hlt hS)
  exact key
theorem inv2_keep (h : inv2 L g S yb fdo first cap k o x cs w) (K : Keeps o o' w w') : inv2 L g S yb fdo first cap k o' x cs w' := ⟨h.1, invO_keep h.2 K⟩
noncomputable def crewO (L : La) (g : OG) (yb : L.Gh) {fdo : FuncId} {first cap : Array Value} (hD : DoFn L fdo first cap) (S : Stile) : Crew S (OX L) where
  inv := inv2 L g S yb fdo first cap
  born := bornO g.ops
  next := nextO
  out := OX.out
  cnt := OX.cnt
  cntBorn := fun _ _ => rfl
  cntNext := fun x i => by unfold nextO; cases (x.th i).d <;> rfl
  keep := inv2_keep
  bornOut := fun x i j h => upd_ne _ _ h
  nextOut := fun x i j h => by
    unfold nextO
    cases (x.th i).d with
    | none => rfl
    | some d => exact upd_ne _ _ h
  shape := fun {k o x cs w i} h hik hout => invO_shape h.2 hik hout
  thr := fun {k o x cs w i} h _ hi => invO_thr h.2 hi
  sch := fun {k o x cs w j z} h hz => invO_sch h.2 hz
  start := fun f fs h hk hc hA hlt => .inl (startO hD f fs h hk hc hA hlt)
  go := fun f fs h hik hout hcs hc hA hlt => (goO f fs h.2 hik hout hcs hc hA hlt).mono fun _ _ hF => fin2 h.1 hF
end
end
section
noncomputable def reg34_0 := rg Try.f34.body [0]
noncomputable def reg34_1 := rg Try.f34.body [1, 0, 0]
noncomputable def reg34_2 := rg Try.f34.body [1, 0, 1, 0, 0]
noncomputable def reg34_3 := rg Try.f34.body [1, 0, 1, 0, 1, 0, 0]
theorem size34_3 : reg34_3.size = 10 := by kernel_rfl
noncomputable def reg34_4 := rg Try.f34.body [1, 0, 1, 0, 1, 1, 0]
noncomputable def reg34_5 := rg Try.f34.body [1, 0, 1, 0, 1, 1, 1, 0, 0]
theorem size34_5 : reg34_5.size = 10 := by kernel_rfl
noncomputable def reg34_6 := rg Try.f34.body [1, 0, 1, 0, 1, 1, 1, 1, 0]
noncomputable def reg34_7 := rg Try.f34.body [1, 0, 1, 0, 1, 1, 1, 1, 1, 0, 0]
noncomputable def reg34_8 := rg Try.f34.body [1, 0, 1, 0, 1, 1, 1, 1, 1, 0, 1, 0]
noncomputable def reg34_9 := rg Try.f34.body [1, 0, 1, 0, 1, 1, 1, 1, 1, 1, 0]
noncomputable def reg34_10 := rg Try.f34.body [1, 0, 1, 0, 1, 1, 1, 1, 1, 1, 1, 0, 0]
noncomputable def reg34_11 := rg Try.f34.body [1, 0, 1, 0, 1, 1, 1, 1, 1, 1, 1, 1, 0]
noncomputable def reg34_12 := rg Try.f34.body [1, 0, 1, 0, 1, 1, 1, 1, 1, 1, 1, 1, 1, 0, 0]
noncomputable def reg34_13 := rg Try.f34.body [1, 0, 1, 0, 1, 1, 1, 1, 1, 1, 1, 1, 1, 0, 1, 0]
noncomputable def reg34_14 := rg Try.f34.body [1, 1, 0]
theorem z34 : List.range reg34_0.size = [0, 1] ∧ List.range reg34_1.size = [0, 1] ∧ List.range reg34_2.size = [0, 1] ∧ List.range reg34_3.size = [0, 1, 2, 3, 4, 5, 6, 7, 8, 9] ∧ List.range reg34_4.size = [0, 1] ∧ List.range reg34_5.size = [0, 1, 2, 3, 4, 5, 6, 7, 8, 9] ∧ List.range reg34_6.size = [0, 1] ∧ List.range reg34_7.size = [0, 1, 2, 3, 4, 5, 6, 7, 8, 9] ∧ List.range reg34_8.size = [0, 1, 2, 3] ∧ List.range reg34_9.size = [0, 1] ∧ List.range reg34_10.size = [0, 1, 2, 3, 4] ∧ List.range reg34_11.size = [0, 1] ∧ List.range reg34_12.size = [0, 1, 2, 3, 4, 5, 6, 7, 8, 9] ∧ List.range reg34_13.size = [0, 1, 2, 3] ∧ List.range reg34_14.size = [0, 1] := by refine ⟨?_, ?_, ?_, ?_, ?_, ?_, ?_, ?_, ?_, ?_, ?_, ?_, ?_, ?_, ?_⟩ <;> kernel_rfl
theorem code34_is : Try.f34.body = some (.seq (.region 0 reg34_0 false) (.seq (.seq (.region 1 reg34_1 false) (.block 0 (.seq (.region 2 reg34_2 false) (.cond (.tmp 15 ) (.seq (.region 3 reg34_3 true) (.ret)) (.seq (.region 4 reg34_4 false) (.cond (.tmp 26 ) (.seq (.region 5 reg34_5 true) (.ret)) (.seq (.region 6 reg34_6 false) (.cond (.tmp 37 ) (.seq (.region 7 reg34_7 false) (.seq (.region 8 reg34_8 false) (.ret))) (.seq (.region 9 reg34_9 false) (.cond (.tmp 50 ) (.seq (.region 10 reg34_10 false) (.ret)) (.seq (.region 11 reg34_11 false) (.cond (.tmp 56 ) (.seq (.region 12 reg34_12 false) (.seq (.region 13 reg34_13 false) (.ret))) (.skip))))))))))))) (.seq (.region 14 reg34_14 false) (.ret)))) := by kernel_rfl
section
variable {lb k : Nat} {sv : Value}
def tmD (lb : Nat) (sv : Value) (X R : Nat) (u : Nat → Value) : Array Value := #[.pointer (some ⟨lb, 0, none⟩), sv, u 2, u 3, u 4, u 5, u 6, .pointer (some ⟨X, 0, none⟩), .pointer (some ⟨R, 0, none⟩), u 9, u 10, u 11, u 12, u 13, u 14, u 15, u 16, u 17, u 18, u 19, u 20, u 21, u 22, u 23, u 24, u 25, u 26, u 27, u 28, u 29, u 30, u 31, u 32, u 33, u 34, u 35, u 36, u 37, u 38, u 39, u 40, u 41, u 42, u 43, u 44, u 45, u 46, u 47, u 48, u 49, u 50, u 51, u 52, u 53, u 54, u 55, u 56, u 57, u 58, u 59, u 60, u 61, u 62, u 63, u 64, u 65, u 66, u 67, u 68, u 69]
def DoPh (K : Lg (sqLa lb k) sv) (ad : Bool) (o : OpV) (X R d6 d7 d8 : Nat) (f : Nat → Bool) (u : Nat → Value) (e : K.E) (w' : World) : Prop :=
  (f 7 = false ∧ f 8 = false ∧ f 9 = false ∧ K.tgt e = (K.s e, .inr (.w1 ad (sqTr o.a) (sqVal o))) ∧ (K.w e).heap[X]? = some (.cells #[.int .i64 o.k, .int .i64 o.a, .int .i64 o.b, .int .i64 o.c] 47) ∧ K.mine e R ∧ (K.w e).heap[R]? = some (.cells #[.bool false, .int .i64 0, .slice none 0 0] 44) ∧ (∃ d, w' = (K.w e).at d) ∧
    (f 6 = true → ∃ B, u d6 = .slice (some ⟨B, 0, none⟩) (k + 1) (k + 1) ∧ NumB (K.w e) B ((List.range (k + 1)).map (sqVal o)))) ∨
  (f 7 = true ∧ ∃ b, (f 8 = false → u d7 = .bool b) ∧ (f 8 = true → u d8 = .agg #[.bool b, .int .i64 0, .slice none 0 0]) ∧ K.tgt e = (K.s e, .inl ⟨b, 0, []⟩) ∧ K.mine e R ∧ (K.w e).heap[R]? = some (.cells #[.bool false, .int .i64 0, .slice none 0 0] 44) ∧
    ((f 9 = false ∧ ∃ d, w' = (K.w e).at d) ∨ (f 9 = true ∧ ∃ d, w' = ((K.w e).setRow R #[.bool b, .int .i64 0, .slice none 0 0]).at d)))
variable {K : Lg (sqLa lb k) sv} {ad : Bool} {o : OpV} {X R d6 d7 d8 : Nat} {f : Nat → Bool} {u : Nat → Value} {e : K.E} {w' : World}
theorem DoPh.quiet {j d : Nat} {v : Value} (h : DoPh K ad o X R d6 d7 d8 f u e w') (hj : j ≠ 6 ∧ j ≠ 7 ∧ j ≠ 8 ∧ j ≠ 9) (hd : d ≠ d6 ∧ d ≠ d7 ∧ d ≠ d8) : DoPh K ad o X R d6 d7 d8 (upd f j true) (upd u d v) e w' := by
  unfold DoPh
  rw [upd_ne f true (Ne.symm hj.1), upd_ne f true (Ne.symm hj.2.1), upd_ne f true (Ne.symm hj.2.2.1), upd_ne f true (Ne.symm hj.2.2.2), upd_ne u v (Ne.symm hd.1), upd_ne u v (Ne.symm hd.2.1), upd_ne u v (Ne.symm hd.2.2)]
  exact h
theorem DoPh.early (h : DoPh K ad o X R d6 d7 d8 f u e w') (h7 : f 7 = false) : w'.heap[X]? = some (.cells #[.int .i64 o.k, .int .i64 o.a, .int .i64 o.b, .int .i64 o.c] 47) := by
  rcases h with ⟨_, _, _, _, hX, _, _, ⟨d, rfl⟩, _⟩ | ⟨h, _⟩
  · exact hX
  · rw [h7] at h; cases h
variable {fr : Frame} {l : List Frame}
theorem doW_reg (K : Lg (sqLa lb k) sv) (o : OpV) (X R : Nat) (hp : Plain fr) (hl : ∀ f ∈ l, Plain f) (e0 : K.E) (A : Array Value) (hA : A = tmD lb sv X R (fun j => A.getD j undef)) (hX : (K.w e0).heap[X]? = some (.cells #[.int .i64 o.k, .int .i64 o.a, .int .i64 o.b, .int .i64 o.c] 47)) (hmR : K.mine e0 R) (hR : (K.w e0).heap[R]? = some (.cells #[.bool false, .int .i64 0, .slice none 0 0] 44)) (ht : K.tgt e0 = (K.s e0, .inr (.w1 false (sqTr o.a) (sqVal o)))) (kk : List Item)
    (hk : ∀ (u : Nat → Value) (e : K.E) b, K.tgt e = (K.s e, .inl ⟨b, 0, []⟩) → K.mine e R → (K.w e).heap[R]? = some (.cells #[.bool false, .int .i64 0, .slice none 0 0] 44) → Walk Try.prog K.main (DR (K.V e)) (K.Stop e) (G ((base 34).at ⟨tmD lb sv X R u, []⟩ (.inRegion reg34_3 [] :: kk)) (fr :: (l ++ K.bot e))) ((K.w e).setRow R #[.bool b, .int .i64 0, .slice none 0 0])) :
    Walk Try.prog K.main (DR (K.V e0)) (K.Stop e0) (G ((base 34).at ⟨A, []⟩ (.code (.region 3 reg34_3 true) :: kk)) (fr :: (l ++ K.bot e0))) (K.w e0) := by
  obtain ⟨fsO, huO⟩ := structT 47 (by kernel_rfl)
  rw [hA]
  generalize (fun j => A.getD j undef) = u0
  clear hA
  refine Walk.drawnE (E := K.E × World) (V := fun x => K.V x.1) (Stop := fun x => K.Stop x.1) (cs := fun x => fr :: (l ++ K.bot x.1)) (w := fun x => x.2)
    (Inv := fun f a x => ∃ u, a = ⟨tmD lb sv X R u, []⟩ ∧ Facts [17, 18, 19, 20, 21, 22, 1006, 1007, 1008, 1009] [.pointer (some ⟨lb, 0, none⟩), sv, .pointer (some ⟨X, 1, none⟩), .int .i64 o.a, .pointer (some ⟨lb, 0, none⟩), opVal o, undef, undef, undef, undef] f u ∧ DoPh K false o X R 23 24 25 f u x.1 x.2) (e0, K.w e0) (by kernel_rfl) (by kernel_rfl)
    ⟨u0, rfl, Facts.none _ _ _, .inl ⟨rfl, rfl, rfl, ht, hX, hmR, hR, ⟨(K.w e0).drawn, rfl⟩, fun h => (by cases h)⟩⟩ ?_ ?_
  · rintro f oi op a ⟨e, w'⟩ ⟨u, rfl, F, hw⟩ hC hfi ho hdeps rest hr
    dsimp only at hw hr ⊢
    have hil : oi < 10 := (Array.getElem?_eq_some_iff.1 ho).1
    match oi, hil with
    | 0, _ =>
      have h7 : f 7 = false := by
        cases h : f 7 with
        | false => rfl
        | true =>
          have h7_0 := (hC.deps (l := [0]) h (by kernel_rfl)) 0 (by simp)
          rw [hfi] at h7_0; cases h7_0
      have hX := hw.early h7
      clear hdeps ho hC hfi
      simp only [tmD] at hr ⊢
      (refine Walk.oq ?_; try walk_nrm)
      refine hr _ (e, w') ⟨upd u 17 (.pointer (some ⟨lb, 0, none⟩)), ?_, F.set (by decide) rfl rfl, hw.quiet (by decide) (by decide)⟩
      simp [tmD, upd]
    | 1, _ =>
      have h7 : f 7 = false := by
        cases h : f 7 with
        | false => rfl
        | true =>
          have h7_1 := (hC.deps (l := [1]) h (by kernel_rfl)) 1 (by simp)
          rw [hfi] at h7_1; cases h7_1
      have hX := hw.early h7
      clear hdeps ho hC hfi
      simp only [tmD] at hr ⊢
      (refine Walk.oq ?_; try walk_nrm)
      refine hr _ (e, w') ⟨upd u 18 (sv), ?_, F.set (by decide) rfl rfl, hw.quiet (by decide) (by decide)⟩
      simp [tmD, upd]
    | 2, _ =>
      have h7 : f 7 = false := by
        cases h : f 7 with
        | false => rfl
        | true =>
          have h7_3 := (hC.deps (l := [3]) h (by kernel_rfl)) 3 (by simp)
          have h3_2 := (hC.deps (l := [2]) h7_3 (by kernel_rfl)) 2 (by simp)
          rw [hfi] at h3_2; cases h3_2
      have hX := hw.early h7
      clear hdeps ho hC hfi
      simp only [tmD] at hr ⊢
      (refine Walk.oq ?_; try walk_nrm)
      refine hr _ (e, w') ⟨upd u 19 (.pointer (some ⟨X, 1, none⟩)), ?_, F.set (by decide) rfl rfl, hw.quiet (by decide) (by decide)⟩
      simp [tmD, upd]
    | 3, _ =>
      have h7 : f 7 = false := by
        cases h : f 7 with
        | false => rfl
        | true =>
          have h7_3 := (hC.deps (l := [3]) h (by kernel_rfl)) 3 (by simp)
          rw [hfi] at h7_3; cases h7_3
      have hX := hw.early h7
      have hdd := deps_of (l := [2]) (by kernel_rfl) ho hdeps
      have e19 := F 2 19 _ (hdd 2 (by simp)) rfl rfl
      have cX := (cell_of hX 1).trans rfl
      clear hdd
      clear hdeps ho hC hfi
      simp only [tmD] at hr ⊢
      (refine Walk.oq ?_; try walk_nrm)
      refine hr _ (e, w') ⟨upd u 20 (.int .i64 o.a), ?_, F.set (by decide) rfl rfl, hw.quiet (by decide) (by decide)⟩
      simp [tmD, upd, e19]
    | 4, _ =>
      have h7 : f 7 = false := by
        cases h : f 7 with
        | false => rfl
        | true =>
          have h7_6 := (hC.deps (l := [6]) h (by kernel_rfl)) 6 (by simp)
          have h6_4 := (hC.deps (l := [4]) h7_6 (by kernel_rfl)) 4 (by simp)
          rw [hfi] at h6_4; cases h6_4
      have hX := hw.early h7
      clear hdeps ho hC hfi
      simp only [tmD] at hr ⊢
      (refine Walk.oq ?_; try walk_nrm)
      refine hr _ (e, w') ⟨upd u 21 (.pointer (some ⟨lb, 0, none⟩)), ?_, F.set (by decide) rfl rfl, hw.quiet (by decide) (by decide)⟩
      simp [tmD, upd]
    | 5, _ =>
      have h7 : f 7 = false := by
        cases h : f 7 with
        | false => rfl
        | true =>
          have h7_6 := (hC.deps (l := [6]) h (by kernel_rfl)) 6 (by simp)
          have h6_5 := (hC.deps (l := [5]) h7_6 (by kernel_rfl)) 5 (by simp)
          rw [hfi] at h6_5; cases h6_5
      have hX := hw.early h7
      clear hdeps ho hC hfi
      simp only [tmD] at hr ⊢
      refine Walk.loadS 47 (.tmp 7) (ho_of (by conv => lhs; whnf) (by kernel_rfl)) (by rfl) (by decide) rfl X 0 [.int .i64 o.k, .int .i64 o.a, .int .i64 o.b, .int .i64 o.c] (.struct fsO) rfl (fun j v hj => ?_) huO rfl (by kernel_rfl) ?_
      · rw [Nat.zero_add, cell_of hX]
        simpa using hj
      walk_nrm
      refine hr _ (e, w') ⟨upd u 22 (opVal o), ?_, F.set (by decide) rfl rfl, hw.quiet (by decide) (by decide)⟩
      simp [tmD, upd, opVal]
    | 6, _ =>
      have hdd := deps_of (l := [4, 5]) (by kernel_rfl) ho hdeps
      have e21 := F 4 21 _ (hdd 4 (by simp)) rfl rfl
      have e22 := F 5 22 _ (hdd 5 (by simp)) rfl rfl
      have h7 : f 7 = false := by
        cases h : f 7 with
        | false => rfl
        | true =>
          have h6 := (hC.deps (l := [6]) h (by kernel_rfl)) 6 (by simp)
          rw [hfi] at h6; cases h6
      rcases hw with ⟨_, h8, h9, htE, hX, hmR, hR, ⟨dd, rfl⟩, _⟩ | ⟨h, _⟩
      rotate_left
      · rw [h7] at h; cases h
      refine Walk.back ?_ dd
      clear hdeps ho hC hdd
      have hv := values_w (main := K.main) (V := K.V e) o (K.w e) (K.inv e) (fun b hb => K.newA e b hb)
      simp only [tmD] at hr ⊢
      refine Walk.callW (Post := NewNum ((List.range (k + 1)).map (sqVal o)) (K.w e)) ?_ (ho_of (by conv => lhs; whnf) (by kernel_rfl)) (by rfl) (by decide) rfl Try.func51 (by kernel_rfl) (by rfl) ?_
      · walk_nrm
        simp only [e21, e22]
        exact hv
      rintro v w1 ⟨B, rfl, hB1, hB2, hN, hold, hsz⟩
      obtain ⟨e1, m1⟩ := K.grow e (w' := w1) hsz hold
      have hXl : X < (K.w e).heap.size := (Array.getElem?_eq_some_iff.1 hX).1
      have hRl : R < (K.w e).heap.size := (Array.getElem?_eq_some_iff.1 hR).1
      refine LW.to (l := fr :: l) m1 ?_
      unfold LW
      have hlen : ((List.range (k + 1)).map (sqVal o)).length = k + 1 := by simp
      rw [hlen]
      walk_nrm
      refine hr _ (e1, K.w e1) ⟨upd (upd u 1006 undef) 23 (.slice (some ⟨B, 0, none⟩) (k + 1) (k + 1)), ?_, Facts.other (F.set (by decide) rfl rfl) (by decide), .inl ⟨by rw [upd_ne _ _ (by decide)]; exact h7, by rw [upd_ne _ _ (by decide)]; exact h8, by rw [upd_ne _ _ (by decide)]; exact h9, by rw [m1.tgt, m1.s]; exact htE, by rw [m1.w, hold X hXl]; exact hX, (m1.mine R).2 (.inl hmR), by rw [m1.w, hold R hRl]; exact hR, ⟨(K.w e1).drawn, rfl⟩, fun _ => ⟨B, upd_same _ _ _, by rw [m1.w]; exact hN⟩⟩⟩
      simp [tmD, upd, e21, e22]
    | 7, _ =>
      have hdd := deps_of (l := [0, 1, 3, 6]) (by kernel_rfl) ho hdeps
      have e17 := F 0 17 _ (hdd 0 (by simp)) rfl rfl
      have e18 := F 1 18 _ (hdd 1 (by simp)) rfl rfl
      have e20 := F 3 20 _ (hdd 3 (by simp)) rfl rfl
      have h6 := hdd 6 (by simp)
      rcases hw with ⟨_, h8, h9, htE, hX, hmR, hR, ⟨dd, rfl⟩, hB⟩ | ⟨h, _⟩
      rotate_left
      · rw [hfi] at h; cases h
      obtain ⟨B, e23, hN⟩ := hB h6
      refine Walk.back ?_ dd
      clear hdeps ho hC hdd
      have hlen : ((List.range (k + 1)).map (sqVal o)).length = k + 1 := by simp
      have hsl := hN.lsR
      rw [hlen] at hsl
      have hvi : ValsIn k (sqVal o) ((List.range (k + 1)).map (sqVal o)) := fun i hi => by
        rw [List.take_of_length_le (by simp), padL_full hlen]
        simp [List.getElem?_range (show i < k + 1 by omega)]
      have hcall := SCall.fz K (write_s (Fz K e) (sqVal o) (fz0 K e) o.a (.slice (some ⟨B, 0, none⟩) (k + 1) (k + 1)) ((List.range (k + 1)).map (sqVal o)) hsl hvi htE)
      simp only [tmD] at hr ⊢
      refine (?_ : LW K.toLb e (G _ ((fr :: l) ++ K.bot e)))
      refine LW.callS (f := 23) (Q := fun x e' => ∃ h : Kept K e e', ChOut (Fz K e) x ⟨e', h⟩) ?_ (ho_of (by conv => lhs; whnf) (by kernel_rfl)) (by rfl) (by decide) rfl Try.func23 (by kernel_rfl) (by rfl) ⟨rfl, rfl, _, Try.func34⟩ (plain_cons hp hl) ?_
      · walk_nrm
        simp only [e17, e18, e20, e23]
        exact hcall
      rintro v e2 ⟨hkept, b, rfl, ht2⟩
      obtain ⟨hm2, hb2⟩ := hkept R hmR
      unfold LW
      walk_nrm
      refine hr _ (e2, K.w e2) ⟨upd (upd u 1007 undef) 24 (.bool b), ?_, Facts.other (F.set (by decide) rfl rfl) (by decide), .inr ⟨upd_same _ _ _, b, fun _ => upd_same _ _ _, fun h => ?_, ht2, hm2, hb2.trans hR, .inl ⟨by rw [upd_ne _ _ (by decide)]; exact h9, (K.w e2).drawn, rfl⟩⟩⟩
      · simp [tmD, upd, e17, e18, e20, e23]
      · rw [upd_ne _ _ (by decide), h8] at h; cases h
    | 8, _ =>
      have h7 := (deps_of (l := [7]) (by kernel_rfl) ho hdeps) 7 (by simp)
      rcases hw with ⟨h, _⟩ | ⟨_, b, hb, _, htE, hmR, hR, ⟨h9, dd, rfl⟩ | ⟨h9, _⟩⟩
      · rw [h7] at h; cases h
      rotate_left
      · have h8 := (hC.deps (l := [8]) h9 (by kernel_rfl)) 8 (by simp)
        rw [hfi] at h8; cases h8
      replace hb := hb hfi
      refine Walk.back ?_ dd
      clear hdeps ho hC
      simp only [tmD, hb] at hr ⊢
      (refine Walk.oq ?_; try walk_nrm)
      refine hr _ (e, K.w e) ⟨upd (upd u 1008 undef) 25 (.agg #[.bool b, .int .i64 0, .slice none 0 0]), ?_, Facts.other (F.set (by decide) rfl rfl) (by decide), .inr ⟨by rw [upd_ne _ _ (by decide)]; exact h7, b, fun h => ?_, fun _ => upd_same _ _ _, htE, hmR, hR, .inl ⟨by rw [upd_ne _ _ (by decide)]; exact h9, (K.w e).drawn, rfl⟩⟩⟩
      · simp [tmD, upd, hb]
      · rw [upd_same] at h; cases h
    | 9, _ =>
      have hdd := deps_of (l := [7, 8]) (by kernel_rfl) ho hdeps
      have h7 := hdd 7 (by simp)
      have h8 := hdd 8 (by simp)
      rcases hw with ⟨h, _⟩ | ⟨_, b, _, hb, htE, hmR, hR, ⟨h9, dd, rfl⟩ | ⟨h9, _⟩⟩
      · rw [h7] at h; cases h
      rotate_left
      · rw [hfi] at h9; cases h9
      replace hb := hb h8
      refine Walk.back ?_ dd
      have hap := (K.mineA e _ hmR).1
      clear hdeps ho hC hdd
      simp only [tmD, hb] at hr ⊢
      refine Walk.storeS 44 (.tmp 8) (.tmp 25) (ho_of (by conv => lhs; whnf) (by kernel_rfl)) (by rfl) (by decide) rfl R #[.bool b, .int .i64 0, .slice none 0 0] _ 44 rfl rfl hR (by kernel_rfl) (by rfl) (by simp [Value.oneCell']) hap ?_
      walk_nrm
      refine hr _ (e, (K.w e).setRow R #[.bool b, .int .i64 0, .slice none 0 0]) ⟨upd u 1009 undef, ?_, F.set (by decide) rfl rfl, .inr ⟨by rw [upd_ne _ _ (by decide)]; exact h7, b, fun h => ?_, fun _ => by rw [upd_ne _ _ (by decide)]; exact hb, htE, hmR, hR, .inr ⟨upd_same _ _ _, ((K.w e).setRow R #[.bool b, .int .i64 0, .slice none 0 0]).drawn, rfl⟩⟩⟩
      · simp [tmD, upd, hb]
      · rw [upd_ne _ _ (by decide), h8] at h; cases h
  · rintro f a ⟨e, w'⟩ ⟨u, rfl, F, hw⟩ hall
    have hsz : reg34_3.size = 10 := size34_3
    rcases hw with ⟨h, _⟩ | ⟨_, b, _, hb, htE, hmR, hR, ⟨h9, _⟩ | ⟨_, dd, hw'⟩⟩
    · rw [hall 7 (by omega)] at h; cases h
    · rw [hall 9 (by omega)] at h9; cases h9
    · dsimp only at hw' ⊢
      subst hw'
      exact Walk.back (hk u e b htE hmR hR) dd
theorem doA_reg (K : Lg (sqLa lb k) sv) (o : OpV) (X R : Nat) (hp : Plain fr) (hl : ∀ f ∈ l, Plain f) (e0 : K.E) (A : Array Value) (hA : A = tmD lb sv X R (fun j => A.getD j undef)) (hX : (K.w e0).heap[X]? = some (.cells #[.int .i64 o.k, .int .i64 o.a, .int .i64 o.b, .int .i64 o.c] 47)) (hmR : K.mine e0 R) (hR : (K.w e0).heap[R]? = some (.cells #[.bool false, .int .i64 0, .slice none 0 0] 44)) (ht : K.tgt e0 = (K.s e0, .inr (.w1 true (sqTr o.a) (sqVal o)))) (kk : List Item)
    (hk : ∀ (u : Nat → Value) (e : K.E) b, K.tgt e = (K.s e, .inl ⟨b, 0, []⟩) → K.mine e R → (K.w e).heap[R]? = some (.cells #[.bool false, .int .i64 0, .slice none 0 0] 44) → Walk Try.prog K.main (DR (K.V e)) (K.Stop e) (G ((base 34).at ⟨tmD lb sv X R u, []⟩ (.inRegion reg34_5 [] :: kk)) (fr :: (l ++ K.bot e))) ((K.w e).setRow R #[.bool b, .int .i64 0, .slice none 0 0])) :
    Walk Try.prog K.main (DR (K.V e0)) (K.Stop e0) (G ((base 34).at ⟨A, []⟩ (.code (.region 5 reg34_5 true) :: kk)) (fr :: (l ++ K.bot e0))) (K.w e0) := by
  obtain ⟨fsO, huO⟩ := structT 47 (by kernel_rfl)
  rw [hA]
  generalize (fun j => A.getD j undef) = u0
  clear hA
  refine Walk.drawnE (E := K.E × World) (V := fun x => K.V x.1) (Stop := fun x => K.Stop x.1) (cs := fun x => fr :: (l ++ K.bot x.1)) (w := fun x => x.2)
    (Inv := fun f a x => ∃ u, a = ⟨tmD lb sv X R u, []⟩ ∧ Facts [28, 29, 30, 31, 32, 33, 1006, 1007, 1008, 1009] [.pointer (some ⟨lb, 0, none⟩), sv, .pointer (some ⟨X, 1, none⟩), .int .i64 o.a, .pointer (some ⟨lb, 0, none⟩), opVal o, undef, undef, undef, undef] f u ∧ DoPh K true o X R 34 35 36 f u x.1 x.2) (e0, K.w e0) (by kernel_rfl) (by kernel_rfl)
    ⟨u0, rfl, Facts.none _ _ _, .inl ⟨rfl, rfl, rfl, ht, hX, hmR, hR, ⟨(K.w e0).drawn, rfl⟩, fun h => (by cases h)⟩⟩ ?_ ?_
  · rintro f oi op a ⟨e, w'⟩ ⟨u, rfl, F, hw⟩ hC hfi ho hdeps rest hr
    dsimp only at hw hr ⊢
    have hil : oi < 10 := (Array.getElem?_eq_some_iff.1 ho).1
    match oi, hil with
    | 0, _ =>
      have h7 : f 7 = false := by
        cases h : f 7 with
        | false => rfl
        | true =>
          have h7_0 := (hC.deps (l := [0]) h (by kernel_rfl)) 0 (by simp)
          rw [hfi] at h7_0; cases h7_0
      have hX := hw.early h7
      clear hdeps ho hC hfi
      simp only [tmD] at hr ⊢
      (refine Walk.oq ?_; try walk_nrm)
      refine hr _ (e, w') ⟨upd u 28 (.pointer (some ⟨lb, 0, none⟩)), ?_, F.set (by decide) rfl rfl, hw.quiet (by decide) (by decide)⟩
      simp [tmD, upd]
    | 1, _ =>
      have h7 : f 7 = false := by
        cases h : f 7 with
        | false => rfl
        | true =>
          have h7_1 := (hC.deps (l := [1]) h (by kernel_rfl)) 1 (by simp)
          rw [hfi] at h7_1; cases h7_1
      have hX := hw.early h7
      clear hdeps ho hC hfi
      simp only [tmD] at hr ⊢
      (refine Walk.oq ?_; try walk_nrm)
      refine hr _ (e, w') ⟨upd u 29 (sv), ?_, F.set (by decide) rfl rfl, hw.quiet (by decide) (by decide)⟩
      simp [tmD, upd]
    | 2, _ =>
      have h7 : f 7 = false := by
        cases h : f 7 with
        | false => rfl
        | true =>
          have h7_3 := (hC.deps (l := [3]) h (by kernel_rfl)) 3 (by simp)
          have h3_2 := (hC.deps (l := [2]) h7_3 (by kernel_rfl)) 2 (by simp)
          rw [hfi] at h3_2; cases h3_2
      have hX := hw.early h7
      clear hdeps ho hC hfi
      simp only [tmD] at hr ⊢
      (refine Walk.oq ?_; try walk_nrm)
      refine hr _ (e, w') ⟨upd u 30 (.pointer (some ⟨X, 1, none⟩)), ?_, F.set (by decide) rfl rfl, hw.quiet (by decide) (by decide)⟩
      simp [tmD, upd]
    | 3, _ =>
      have h7 : f 7 = false := by
        cases h : f 7 with
        | false => rfl
        | true =>
          have h7_3 := (hC.deps (l := [3]) h (by kernel_rfl)) 3 (by simp)
          rw [hfi] at h7_3; cases h7_3
      have hX := hw.early h7
      have hdd := deps_of (l := [2]) (by kernel_rfl) ho hdeps
      have e30 := F 2 30 _ (hdd 2 (by simp)) rfl rfl
      have cX := (cell_of hX 1).trans rfl
      clear hdd
      clear hdeps ho hC hfi
      simp only [tmD] at hr ⊢
      (refine Walk.oq ?_; try walk_nrm)
      refine hr _ (e, w') ⟨upd u 31 (.int .i64 o.a), ?_, F.set (by decide) rfl rfl, hw.quiet (by decide) (by decide)⟩
      simp [tmD, upd, e30]
    | 4, _ =>
      have h7 : f 7 = false := by
        cases h : f 7 with
        | false => rfl
        | true =>
          have h7_6 := (hC.deps (l := [6]) h (by kernel_rfl)) 6 (by simp)
          have h6_4 := (hC.deps (l := [4]) h7_6 (by kernel_rfl)) 4 (by simp)
          rw [hfi] at h6_4; cases h6_4
      have hX := hw.early h7
      clear hdeps ho hC hfi
      simp only [tmD] at hr ⊢
      (refine Walk.oq ?_; try walk_nrm)
      refine hr _ (e, w') ⟨upd u 32 (.pointer (some ⟨lb, 0, none⟩)), ?_, F.set (by decide) rfl rfl, hw.quiet (by decide) (by decide)⟩
      simp [tmD, upd]
    | 5, _ =>
      have h7 : f 7 = false := by
        cases h : f 7 with
        | false => rfl
        | true =>
          have h7_6 := (hC.deps (l := [6]) h (by kernel_rfl)) 6 (by simp)
          have h6_5 := (hC.deps (l := [5]) h7_6 (by kernel_rfl)) 5 (by simp)
          rw [hfi] at h6_5; cases h6_5
      have hX := hw.early h7
      clear hdeps ho hC hfi
      simp only [tmD] at hr ⊢
      refine Walk.loadS 47 (.tmp 7) (ho_of (by conv => lhs; whnf) (by kernel_rfl)) (by rfl) (by decide) rfl X 0 [.int .i64 o.k, .int .i64 o.a, .int .i64 o.b, .int .i64 o.c] (.struct fsO) rfl (fun j v hj => ?_) huO rfl (by kernel_rfl) ?_
      · rw [Nat.zero_add, cell_of hX]
        simpa using hj
      walk_nrm
      refine hr _ (e, w') ⟨upd u 33 (opVal o), ?_, F.set (by decide) rfl rfl, hw.quiet (by decide) (by decide)⟩
      simp [tmD, upd, opVal]
    | 6, _ =>
      have hdd := deps_of (l := [4, 5]) (by kernel_rfl) ho hdeps
      have e32 := F 4 32 _ (hdd 4 (by simp)) rfl rfl
      have e33 := F 5 33 _ (hdd 5 (by simp)) rfl rfl
      have h7 : f 7 = false := by
        cases h : f 7 with
        | false => rfl
        | true =>
          have h6 := (hC.deps (l := [6]) h (by kernel_rfl)) 6 (by simp)
          rw [hfi] at h6; cases h6
      rcases hw with ⟨_, h8, h9, htE, hX, hmR, hR, ⟨dd, rfl⟩, _⟩ | ⟨h, _⟩
      rotate_left
      · rw [h7] at h; cases h
      refine Walk.back ?_ dd
      clear hdeps ho hC hdd
      have hv := values_w (main := K.main) (V := K.V e) o (K.w e) (K.inv e) (fun b hb => K.newA e b hb)
      simp only [tmD] at hr ⊢
      refine Walk.callW (Post := NewNum ((List.range (k + 1)).map (sqVal o)) (K.w e)) ?_ (ho_of (by conv => lhs; whnf) (by kernel_rfl)) (by rfl) (by decide) rfl Try.func51 (by kernel_rfl) (by rfl) ?_
      · walk_nrm
        simp only [e32, e33]
        exact hv
      rintro v w1 ⟨B, rfl, hB1, hB2, hN, hold, hsz⟩
      obtain ⟨e1, m1⟩ := K.grow e (w' := w1) hsz hold
      have hXl : X < (K.w e).heap.size := (Array.getElem?_eq_some_iff.1 hX).1
      have hRl : R < (K.w e).heap.size := (Array.getElem?_eq_some_iff.1 hR).1
      refine LW.to (l := fr :: l) m1 ?_
      unfold LW
      have hlen : ((List.range (k + 1)).map (sqVal o)).length = k + 1 := by simp
      rw [hlen]
      walk_nrm
      refine hr _ (e1, K.w e1) ⟨upd (upd u 1006 undef) 34 (.slice (some ⟨B, 0, none⟩) (k + 1) (k + 1)), ?_, Facts.other (F.set (by decide) rfl rfl) (by decide), .inl ⟨by rw [upd_ne _ _ (by decide)]; exact h7, by rw [upd_ne _ _ (by decide)]; exact h8, by rw [upd_ne _ _ (by decide)]; exact h9, by rw [m1.tgt, m1.s]; exact htE, by rw [m1.w, hold X hXl]; exact hX, (m1.mine R).2 (.inl hmR), by rw [m1.w, hold R hRl]; exact hR, ⟨(K.w e1).drawn, rfl⟩, fun _ => ⟨B, upd_same _ _ _, by rw [m1.w]; exact hN⟩⟩⟩
      simp [tmD, upd, e32, e33]
    | 7, _ =>
      have hdd := deps_of (l := [0, 1, 3, 6]) (by kernel_rfl) ho hdeps
      have e28 := F 0 28 _ (hdd 0 (by simp)) rfl rfl
      have e29 := F 1 29 _ (hdd 1 (by simp)) rfl rfl
      have e31 := F 3 31 _ (hdd 3 (by simp)) rfl rfl
      have h6 := hdd 6 (by simp)
      rcases hw with ⟨_, h8, h9, htE, hX, hmR, hR, ⟨dd, rfl⟩, hB⟩ | ⟨h, _⟩
      rotate_left
      · rw [hfi] at h; cases h
      obtain ⟨B, e34, hN⟩ := hB h6
      refine Walk.back ?_ dd
      clear hdeps ho hC hdd
      have hlen : ((List.range (k + 1)).map (sqVal o)).length = k + 1 := by simp
      have hsl := hN.lsR
      rw [hlen] at hsl
      have hvi : ValsIn k (sqVal o) ((List.range (k + 1)).map (sqVal o)) := fun i hi => by
        rw [List.take_of_length_le (by simp), padL_full hlen]
        simp [List.getElem?_range (show i < k + 1 by omega)]
      have hcall := SCall.fz K (add_s (Fz K e) (sqVal o) (fz0 K e) o.a (.slice (some ⟨B, 0, none⟩) (k + 1) (k + 1)) ((List.range (k + 1)).map (sqVal o)) hsl hvi htE)
      simp only [tmD] at hr ⊢
      refine (?_ : LW K.toLb e (G _ ((fr :: l) ++ K.bot e)))
      refine LW.callS (f := 24) (Q := fun x e' => ∃ h : Kept K e e', ChOut (Fz K e) x ⟨e', h⟩) ?_ (ho_of (by conv => lhs; whnf) (by kernel_rfl)) (by rfl) (by decide) rfl Try.func24 (by kernel_rfl) (by rfl) ⟨rfl, rfl, _, Try.func34⟩ (plain_cons hp hl) ?_
      · walk_nrm
        simp only [e28, e29, e31, e34]
        exact hcall
      rintro v e2 ⟨hkept, b, rfl, ht2⟩
      obtain ⟨hm2, hb2⟩ := hkept R hmR
      unfold LW
      walk_nrm
      refine hr _ (e2, K.w e2) ⟨upd (upd u 1007 undef) 35 (.bool b), ?_, Facts.other (F.set (by decide) rfl rfl) (by decide), .inr ⟨upd_same _ _ _, b, fun _ => upd_same _ _ _, fun h => ?_, ht2, hm2, hb2.trans hR, .inl ⟨by rw [upd_ne _ _ (by decide)]; exact h9, (K.w e2).drawn, rfl⟩⟩⟩
      · simp [tmD, upd, e28, e29, e31, e34]
      · rw [upd_ne _ _ (by decide), h8] at h; cases h
    | 8, _ =>
      have h7 := (deps_of (l := [7]) (by kernel_rfl) ho hdeps) 7 (by simp)
      rcases hw with ⟨h, _⟩ | ⟨_, b, hb, _, htE, hmR, hR, ⟨h9, dd, rfl⟩ | ⟨h9, _⟩⟩
      · rw [h7] at h; cases h
      rotate_left
      · have h8 := (hC.deps (l := [8]) h9 (by kernel_rfl)) 8 (by simp)
        rw [hfi] at h8; cases h8
      replace hb := hb hfi
      refine Walk.back ?_ dd
      clear hdeps ho hC
      simp only [tmD, hb] at hr ⊢
      (refine Walk.oq ?_; try walk_nrm)
      refine hr _ (e, K.w e) ⟨upd (upd u 1008 undef) 36 (.agg #[.bool b, .int .i64 0, .slice none 0 0]), ?_, Facts.other (F.set (by decide) rfl rfl) (by decide), .inr ⟨by rw [upd_ne _ _ (by decide)]; exact h7, b, fun h => ?_, fun _ => upd_same _ _ _, htE, hmR, hR, .inl ⟨by rw [upd_ne _ _ (by decide)]; exact h9, (K.w e).drawn, rfl⟩⟩⟩
      · simp [tmD, upd, hb]
      · rw [upd_same] at h; cases h
    | 9, _ =>
      have hdd := deps_of (l := [7, 8]) (by kernel_rfl) ho hdeps
      have h7 := hdd 7 (by simp)
      have h8 := hdd 8 (by simp)
      rcases hw with ⟨h, _⟩ | ⟨_, b, _, hb, htE, hmR, hR, ⟨h9, dd, rfl⟩ | ⟨h9, _⟩⟩
      · rw [h7] at h; cases h
      rotate_left
      · rw [hfi] at h9; cases h9
      replace hb := hb h8
      refine Walk.back ?_ dd
      have hap := (K.mineA e _ hmR).1
      clear hdeps ho hC hdd
      simp only [tmD, hb] at hr ⊢
      refine Walk.storeS 44 (.tmp 8) (.tmp 36) (ho_of (by conv => lhs; whnf) (by kernel_rfl)) (by rfl) (by decide) rfl R #[.bool b, .int .i64 0, .slice none 0 0] _ 44 rfl rfl hR (by kernel_rfl) (by rfl) (by simp [Value.oneCell']) hap ?_
      walk_nrm
      refine hr _ (e, (K.w e).setRow R #[.bool b, .int .i64 0, .slice none 0 0]) ⟨upd u 1009 undef, ?_, F.set (by decide) rfl rfl, .inr ⟨by rw [upd_ne _ _ (by decide)]; exact h7, b, fun h => ?_, fun _ => by rw [upd_ne _ _ (by decide)]; exact hb, htE, hmR, hR, .inr ⟨upd_same _ _ _, ((K.w e).setRow R #[.bool b, .int .i64 0, .slice none 0 0]).drawn, rfl⟩⟩⟩
      · simp [tmD, upd, hb]
      · rw [upd_ne _ _ (by decide), h8] at h; cases h
  · rintro f a ⟨e, w'⟩ ⟨u, rfl, F, hw⟩ hall
    have hsz : reg34_5.size = 10 := size34_5
    rcases hw with ⟨h, _⟩ | ⟨_, b, _, hb, htE, hmR, hR, ⟨h9, _⟩ | ⟨_, dd, hw'⟩⟩
    · rw [hall 7 (by omega)] at h; cases h
    · rw [hall 9 (by omega)] at h9; cases h9
    · dsimp only at hw' ⊢
      subst hw'
      exact Walk.back (hk u e b htE hmR hR) dd
end
end
end Go.Proofs.Ytjenoiekfkhafaa
