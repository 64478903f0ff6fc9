/- Part 25. -/
import Derived.Test.YtdcjgmlgmjjogaaJ4
import Derived.Test.YtdcjgmlgmjjogaaJ13
import Derived.Test.YtdcjgmlgmjjogaaJ22
import Derived.Test.YtdcjgmlgmjjogaaJ23
import Derived.Test.YtdcjgmlgmjjogaaJ24
set_option linter.unusedSimpArgs false
set_option linter.unusedVariables false
set_option maxHeartbeats 8000000
set_option maxRecDepth 100000
namespace Go.Proofs.Ytdcjgmlgmjjogaa
open Go.Conc Go.RowKit Go.Relay
open Go.ConcN (upd upd_ne upd_same)
noncomputable def reg16_0 := rg Try.f16.body [0]
noncomputable def reg16_1 := rg Try.f16.body [1, 0, 0]
noncomputable def reg16_2 := rg Try.f16.body [1, 0, 1, 0, 0]
noncomputable def reg16_3 := rg Try.f16.body [1, 1, 0, 0]
noncomputable def reg16_4 := rg Try.f16.body [1, 1, 0, 1, 0, 0, 0, 0]
noncomputable def reg16_6 := rg Try.f16.body [1, 1, 0, 1, 0, 0, 1, 0, 0, 0]
theorem size16_6 : reg16_6.size = 9 := by kernel_rfl
noncomputable def reg16_7 := rg Try.f16.body [1, 1, 0, 1, 0, 0, 1, 0, 0, 1, 0, 0]
noncomputable def reg16_5 := rg Try.f16.body [1, 1, 0, 1, 0, 0, 1, 1]
noncomputable def reg16_8 := rg Try.f16.body [1, 1, 1, 0]
theorem z16 : List.range reg16_0.size = [0] ∧ List.range reg16_1.size = [0, 1, 2, 3, 4] ∧ List.range reg16_2.size = [0] ∧ List.range reg16_3.size = [0] ∧ List.range reg16_4.size = [0, 1, 2, 3] ∧ List.range reg16_5.size = [0, 1, 2] ∧ List.range reg16_6.size = [0, 1, 2, 3, 4, 5, 6, 7, 8] ∧ List.range reg16_7.size = [0] ∧ List.range reg16_8.size = [0] := by refine ⟨?_, ?_, ?_, ?_, ?_, ?_, ?_, ?_, ?_⟩ <;> kernel_rfl
theorem code16_is : Try.f16.body = some (.seq (.region 0 reg16_0 false) (.seq (.seq (.region 1 reg16_1 false) (.cond (.tmp 10 ) (.seq (.region 2 reg16_2 false) (.ret)) (.skip))) (.seq (.seq (.region 3 reg16_3 false) (.block 0 (.loop (.seq (.seq (.region 4 reg16_4 false) (.cond (.tmp 14 ) (.skip) (.exit 0))) (.seq (.block 1 (.seq (.region 6 reg16_6 true) (.cond (.tmp 25 ) (.seq (.region 7 reg16_7 false) (.ret)) (.skip)))) (.region 5 reg16_5 false)))))) (.seq (.region 8 reg16_8 false) (.ret))))) := by kernel_rfl
noncomputable def hdSame (av bv : Value) (i : Nat) (u : Nat → Value) : Frame :=
 (base 16).at { tmps := #[av, bv, u 2, u 3, u 4, .int .i64 i, u 6, u 7, u 8, u 9, u 10, u 11, u 12, u 13, u 14, u 15, u 16, u 17, u 18, u 19, u 20, u 21, u 22, u 23, u 24, u 25], defers := [] } [.code (.seq (.seq (.region 4 reg16_4 false) (.cond (.tmp 14 ) (.skip) (.exit 0))) (.seq (.block 1 (.seq (.region 6 reg16_6 true) (.cond (.tmp 25 ) (.seq (.region 7 reg16_7 false) (.ret)) (.skip)))) (.region 5 reg16_5 false))), .inLoop (.seq (.seq (.region 4 reg16_4 false) (.cond (.tmp 14 ) (.skip) (.exit 0))) (.seq (.block 1 (.seq (.region 6 reg16_6 true) (.cond (.tmp 25 ) (.seq (.region 7 reg16_7 false) (.ret)) (.skip)))) (.region 5 reg16_5 false))), .inBlock 0, .code (.seq (.region 8 reg16_8 false) (.ret))]
section
section
variable {P : Program}
theorem eqInB (d : Nat) (t : TypeId) (x y : Bool) (w : World) (es : Array Event) (hu : P.underlying t = some .bool) : (Op.equalIn (d + 1) t (.bool x) (.bool y)).run P w = .ok (x == y) w ∧ (Op.equalIn (d + 1) t (.bool x) (.bool y)).events P w es = es := by
 constructor <;> simp [Op.equalIn, run_underlying hu]
theorem run_neqB (t : TypeId) (hu : P.underlying t = some .bool) (x y : Bool) (w : World) : (binOp .neq t (.bool x) (.bool y)).run P w = .ok (.bool (x != y)) w := by
 simp only [binOp]
 simp [Op.equal, Op.maxDepth, (eqInB 9999 t x y w #[] hu).1, bne]
theorem ev_neqB (t : TypeId) (hu : P.underlying t = some .bool) (x y : Bool) (w : World) (es : Array Event) : (binOp .neq t (.bool x) (.bool y)).events P w es = es := by
 simp only [binOp]
 simp [Op.equal, Op.maxDepth, (eqInB 9999 t x y w #[] hu).1, (eqInB 9999 t x y w es hu).2]
end
theorem und4B : Try.prog.underlying 4 = some .bool := by kernel_rfl
def NumA (a : Option Addr) (l : List Int) (w : World) : Prop := ∀ (i : Nat) (x : Int), l[i]? = some x → ∃ b o, a = some ⟨b, o, none⟩ ∧ w.cell? ⟨b, o + i, none⟩ = some (.int .i64 x)
def AnsA (a : Option Addr) (l : List Ans) (w : World) : Prop := ∀ (i : Nat) (x : Ans), l[i]? = some x → ∃ b o, a = some ⟨b, o, none⟩ ∧ w.cell? ⟨b, o + i * 3, none⟩ = some (.bool x.1) ∧ w.cell? ⟨b, o + i * 3 + 1, none⟩ = some (.int .i64 x.2) ∧ w.cell? ⟨b, o + i * 3 + 2, none⟩ = some (.slice none 0 0)
theorem NumA.chg {a : Option Addr} {l : List Int} {w w' : World} (h : NumA a l w) (hC : Chg (fun _ => False) w w') : NumA a l w' := fun i x hx => by
 obtain ⟨b, o, e, hc⟩ := h i x hx
 exact ⟨b, o, e, (World.cell?_of_block (a := ⟨b, o + i, none⟩) (hC.same b (cell_lt' hc) id)).trans hc⟩
theorem AnsA.chg {a : Option Addr} {l : List Ans} {w w' : World} (h : AnsA a l w) (hC : Chg (fun _ => False) w w') : AnsA a l w' := fun i x hx => by
 obtain ⟨b, o, e, h1, h2, h3⟩ := h i x hx
 exact ⟨b, o, e, (World.cell?_of_block (a := ⟨b, _, none⟩) (hC.same b (cell_lt' h1) id)).trans h1, (World.cell?_of_block (a := ⟨b, _, none⟩) (hC.same b (cell_lt' h1) id)).trans h2, (World.cell?_of_block (a := ⟨b, _, none⟩) (hC.same b (cell_lt' h1) id)).trans h3⟩
section
variable {main : Bool} {V : Nat → Option Wait}
theorem sn_in (a b : Option Addr) (n ca cb : Nat) (cs : List Frame) (w : World) :
  Walk Try.prog main (DR V) (fun g w' => (∃ u, g = G (hdSame (.slice a n ca) (.slice b n cb) 0 u) cs) ∧ ∃ d, w' = w.at d) (G (Frame.enter Try.prog 16 #[.slice a n ca, .slice b n cb] .normal) cs) w := by
 rw [enter_at _ Try.func16 code16_is]
 simp only [Try.ntmps16, ez, Nat.reduceAdd, Nat.reduceSub]
 repeat (first | refine Walk.cx ?_ | (refine Walk.cReg ?_; simp only [z16]) | (refine Walk.oq ?_; try walk_nrm) | (refine Walk.un ?_; walk_nrm))
 refine Walk.ctl rfl (fun w => stepG_loop) ?_
 refine .stop fun d => ⟨at_slots ?_, d, rfl⟩
 simp only [hdSame]
 rfl
theorem sn_out (a b : Option Addr) (n ca cb : Nat) (u : Nat → Value) (c : Frame) (cs : List Frame) (w : World) :
  Walk Try.prog main (DR V) (fun g w' => g = G (c.finish (.bool true)) cs ∧ ∃ d, w' = w.at d) (G (hdSame (.slice a n ca) (.slice b n cb) n u) (c :: cs)) w := by
 unfold hdSame
 repeat (first | refine Walk.cx ?_ | (refine Walk.cReg ?_; simp only [z16]) | (refine Walk.oq ?_; try walk_nrm) | (refine Walk.un ?_; walk_nrm))
 exact Walk.on1 rfl rfl Try.func16 rfl (.stop fun d => ⟨rfl, d, rfl⟩)
theorem sn_go (ab ao n ca bb bo cb i : Nat) (x : Int) (u : Nat → Value) (cs : List Frame) (w : World) (hi : i < n) (hn : n ≤ 17592186044416) (ha : w.cell? ⟨ab, ao + i, none⟩ = some (.int .i64 x)) (hb : w.cell? ⟨bb, bo + i, none⟩ = some (.int .i64 x)) :
  Walk Try.prog main (DR V) (fun g w' => (∃ u', g = G (hdSame (.slice (some ⟨ab, ao, none⟩) n ca) (.slice (some ⟨bb, bo, none⟩) n cb) (i + 1) u') cs) ∧ ∃ d, w' = w.at d) (G (hdSame (.slice (some ⟨ab, ao, none⟩) n ca) (.slice (some ⟨bb, bo, none⟩) n cb) i u) cs) w := by
 have hw1 : IntKind.wrap .i64 ((i : Int) + 1) = (i : Int) + 1 := by rw [IntKind.wrap_i64]; omega
 conv => arg 5; unfold hdSame
 repeat (first | refine Walk.cx ?_ | (refine Walk.cReg ?_; simp only [z16]) | (refine Walk.oq ?_; try walk_nrm) | (refine Walk.un ?_; walk_nrm))
 (refine Walk.drawnC (by kernel_rfl) size16_6 (by kernel_rfl) (by kernel_rfl) (by decide) ?_; simp only [List.range, List.range.loop]; repeat (first | (refine Cm.oq ?_) | (refine Cm.unw (ho_of (by conv => lhs; whnf) (by kernel_rfl)) (by rfl) ?_; walk_nrm)))
 refine Cm.done ?_
 repeat (first | refine Walk.cx ?_ | (refine Walk.cReg ?_; simp only [z16]) | (refine Walk.oq ?_; try walk_nrm) | (refine Walk.un ?_; walk_nrm))
 refine Walk.ctl rfl (fun w => stepG_inLoop) ?_
 refine .stop fun d' => ⟨at_slots ?_, d', rfl⟩
 have hc : ((i + 1 : Nat) : Int) = (i : Int) + 1 := by simp
 simp only [hdSame, hc]
 rfl
theorem sn_loop (a b : Option Addr) (l : List Int) (ca cb : Nat) (hn : l.length ≤ 17592186044416) (c : Frame) (cs : List Frame) (w : World) (ha : NumA a l w) (hb : NumA b l w) : ∀ (r i : Nat) (u : Nat → Value), i + r = l.length →
  Walk Try.prog main (DR V) (fun g w' => g = G (c.finish (.bool true)) cs ∧ ∃ d, w' = w.at d) (G (hdSame (.slice a l.length ca) (.slice b l.length cb) i u) (c :: cs)) w := by
 intro r
 induction r with
 | zero =>
  intro i u hi
  have hi : i = l.length := hi
  subst hi
  exact sn_out a b l.length ca cb u c cs w
 | succ r ih =>
  intro i u hi
  have hin : i < l.length := by omega
  have hx := List.getElem?_eq_getElem hin
  obtain ⟨ab, ao, rfl, h1⟩ := ha i _ hx
  obtain ⟨bb, bo, rfl, h2⟩ := hb i _ hx
  refine (sn_go ab ao l.length ca bb bo cb i _ u (c :: cs) w hin hn h1 h2).then ?_
  rintro g w' ⟨⟨u', rfl⟩, d, rfl⟩
  exact Walk.back (ih (i + 1) u' (by omega)) d
theorem sn_w (a b : Option Addr) (l : List Int) (ca cb : Nat) (hn : l.length ≤ 17592186044416) (w : World) (ha : NumA a l w) (hb : NumA b l w) : CallV Try.prog main V 16 #[.slice a l.length ca, .slice b l.length cb] w (.bool true) w := by
 intro fr cs
 refine (sn_in a b l.length ca cb (fr :: cs) w).then ?_
 rintro g w1 ⟨⟨u, rfl⟩, d, rfl⟩
 refine Walk.back ?_ d
 refine (sn_loop a b l ca cb hn fr cs w ha hb l.length 0 u (by omega)).mono ?_
 rintro g w' ⟨rfl, d, rfl⟩
 exact ⟨_, ⟨rfl, d, rfl⟩, rfl⟩
end
structure TrA (cells : Array Value) (n : Nat) (F : Nat → List Ans) (ord : List Nat) (sts : List Int) (k : Bool) (w : World) : Prop where
 all : ∃ aa ac oa oc sa sc, cells = trC (.slice aa n ac) (.slice oa ord.length oc) (.slice sa sts.length sc) k ∧ NumA oa (ord.map fun i => ((i : Nat) : Int)) w ∧ NumA sa sts w ∧ ∀ i, i < n → ∃ b o ta tc, aa = some ⟨b, o, none⟩ ∧ w.cell? ⟨b, o + i, none⟩ = some (.slice ta (F i).length tc) ∧ AnsA ta (F i) w
theorem TrA.chg {cells : Array Value} {n : Nat} {F : Nat → List Ans} {ord : List Nat} {sts : List Int} {k : Bool} {w w' : World} (h : TrA cells n F ord sts k w) (hC : Chg (fun _ => False) w w') : TrA cells n F ord sts k w' := by
 obtain ⟨aa, ac, oa, oc, sa, sc, e, h1, h2, h3⟩ := h.all
 refine ⟨aa, ac, oa, oc, sa, sc, e, h1.chg hC, h2.chg hC, fun i hi => ?_⟩
 obtain ⟨b, o, ta, tc, e, k1, k2⟩ := h3 i hi
 exact ⟨b, o, ta, tc, e, (World.cell?_of_block (a := ⟨b, o + i, none⟩) (hC.same b (cell_lt' k1) id)).trans k1, k2.chg hC⟩
end
theorem ansRow_get : ∀ (l : List Ans) (k j : Nat) (o : Ans) (v : Value), l[k]? = some o → ([.bool o.1, .int .i64 o.2, .slice none 0 0] : List Value)[j]? = some v → (ansRow l)[k * 3 + j]? = some v
 | o' :: l, 0, j, o, v, hk, hv => by
  simp only [List.getElem?_cons_zero, Option.some.injEq] at hk
  subst hk
  have hj := (List.getElem?_eq_some_iff.1 hv).1
  have : ansRow (o' :: l) = [.bool o'.1, .int .i64 o'.2, .slice none 0 0] ++ ansRow l := by simp [ansRow]
  rw [this, Nat.zero_mul, Nat.zero_add, List.getElem?_append_left hj]
  exact hv
 | o' :: l, k + 1, j, o, v, hk, hv => by
  have : ansRow (o' :: l) = [.bool o'.1, .int .i64 o'.2, .slice none 0 0] ++ ansRow l := by simp [ansRow]
  rw [this, List.getElem?_append_right (by simp; omega)]
  have h := ansRow_get l k j o v (by simpa using hk) hv
  rw [← h]
  congr 1
  simp
  omega
theorem ansA_of {w : World} {base : Nat} {ta : Option Addr} {m tc : Nat} {l : List Ans} (h : w.ownsRow base 51 3 (.slice ta m tc) m (ansRow l)) (hm : m = l.length) : AnsA ta l w := fun i x hx => by
 obtain ⟨g, e, _, _, h0⟩ := row_at h (ansRow_get l i 0 x _ hx rfl)
 obtain ⟨g1, e1, _, _, h1⟩ := row_at h (ansRow_get l i 1 x _ hx rfl)
 obtain ⟨g2, e2, _, _, h2⟩ := row_at h (ansRow_get l i 2 x _ hx rfl)
 rw [e] at e1 e2
 cases e1
 cases e2
 refine ⟨g, 0, e, ?_, ?_, ?_⟩
 ·rw [Nat.zero_add]; exact h0
 ·rw [Nat.zero_add]; exact h1
 ·rw [Nat.zero_add]; exact h2
theorem numA_of {w : World} {base : Nat} {e : TypeId} {ta : Option Addr} {m tc : Nat} {l : List Int} (h : w.ownsRow base e 1 (.slice ta m tc) m (l.map (.int .i64))) : NumA ta l w := fun i x hx => by
 obtain ⟨g, e, _, _, h0⟩ := row_at h (j := i) (x := .int .i64 x) (by simp [hx])
 exact ⟨g, 0, e, by rw [Nat.zero_add]; exact h0⟩
noncomputable def reg11_0 := rg Try.f11.body [0]
noncomputable def reg11_1 := rg Try.f11.body [1, 0]
noncomputable def reg11_2 := rg Try.f11.body [1, 1, 0]
noncomputable def reg11_3 := rg Try.f11.body [1, 1, 1, 0]
noncomputable def reg11_4 := rg Try.f11.body [1, 1, 1, 1, 0]
theorem z11 : List.range reg11_0.size = [0] ∧ List.range reg11_1.size = [0, 1, 2] ∧ List.range reg11_2.size = [0, 1, 2, 3, 4, 5, 6, 7] ∧ List.range reg11_3.size = [0, 1, 2, 3] ∧ List.range reg11_4.size = [0, 1] := by refine ⟨?_, ?_, ?_, ?_, ?_⟩ <;> kernel_rfl
theorem code11_is : Try.f11.body = some (.seq (.region 0 reg11_0 false) (.seq (.region 1 reg11_1 false) (.seq (.region 2 reg11_2 false) (.seq (.region 3 reg11_3 false) (.seq (.region 4 reg11_4 false) (.ret)))))) := by kernel_rfl
theorem OpsIn.old {tb toff n : Nat} {oa : Nat → Option Addr} {ln oc : Nat → Nat} {ops : Nat → List OpV} {w w' : World} (I : OpsIn tb toff n oa ln oc ops w) (h : ∀ b, b < w.heap.size → w'.heap[b]? = w.heap[b]?) : OpsIn tb toff n oa ln oc ops w' := by
 have hc : ∀ {b j : Nat} {v : Value}, w.cell? ⟨b, j, none⟩ = some v → w'.cell? ⟨b, j, none⟩ = some v := fun {b j v} e => (World.cell?_of_block (a := ⟨b, j, none⟩) (h b (cell_lt' e))).trans e
 exact ⟨fun i hi => hc (I.hd i hi), I.cap, I.ad, I.len, fun i hi j o ho => by
  obtain ⟨b, off, e, c0, c1, c2, c3⟩ := I.ops i hi j o ho
  exact ⟨b, off, e, hc c0, hc c1, hc c2, hc c3⟩⟩
def OPBack (T0 cb m : Nat) (fr c : Frame) (cs : List Frame) : Prop := ∀ (A na : Nat) (oo : Option Addr) (ol ok : Nat) (stuck : Bool) (s : Oz) (w : World), cb ≠ T0 → m ≤ 64 → OzI cb m s w → w.heap[T0]? = some (.cells #[.slice none 0 0, .slice none 0 0, .slice none 0 0, .bool false] 29) →
 Walk Try.prog true (DR (fun _ => none)) (fun g w' => ∃ ta tc, g = G (c.finish (.agg #[.slice (some ⟨A, 0, none⟩) na na, .slice oo ol ok, .slice ta (ozState s m).length tc, .bool stuck])) cs ∧ w'.ownsRow w.heap.size 2 1 (.slice ta (ozState s m).length tc) (ozState s m).length (intRow (ozState s m)) ∧ (∀ b, b < w.heap.size → b ≠ T0 → w'.heap[b]? = w.heap[b]?) ∧ w.heap.size ≤ w'.heap.size)
  (G (fr.finish (.agg #[.slice (some ⟨A, 0, none⟩) na na, .slice oo ol ok, .slice none 0 0, .bool stuck])) (c :: cs)) w
theorem oplay_in (sz : Int) (tv sv : Value) (most : Int) (c : Frame) (cs : List Frame) (w : World) :
  Walk Try.prog true (DR (fun _ => none)) (fun g w' => ∃ fr, g = G (Frame.enter Try.prog 29 #[tv, .func (.func 30) #[.slice (some ⟨w.heap.size + 1, 0, none⟩) (cellsN sz) (cellsN sz)] #[], sv, .int .i64 most] .normal) (fr :: c :: cs) ∧ OzI (w.heap.size + 1) (cellsN sz) oz0 w' ∧ (∀ b, b < w.heap.size → w'.heap[b]? = w.heap[b]?) ∧ w'.heap.size = w.heap.size + 2 ∧
    w'.heap[w.heap.size]? = some (.cells #[.slice none 0 0, .slice none 0 0, .slice none 0 0, .bool false] 29) ∧ OPBack w.heap.size (w.heap.size + 1) (cellsN sz) fr c cs)
   (G (Frame.enter Try.prog 11 #[.int .i64 sz, tv, sv, .int .i64 most] .normal) (c :: cs)) w := by
 have hA : ∀ b, Apart (fun _ => none) b := fun b => ⟨fun _ _ _ _ h => (by cases h), fun _ _ h => (by cases h)⟩
 obtain ⟨fsT, huT⟩ := structT 29 (by kernel_rfl)
 rw [enter_at _ Try.func11 code11_is]
 simp only [Try.ntmps11, ez, Nat.reduceAdd, Nat.reduceSub]
 repeat (first | refine Walk.cx ?_ | (refine Walk.cReg ?_; simp only [z11]) | (refine Walk.oq ?_; try walk_nrm) | (refine Walk.un ?_; walk_nrm))
 (refine Walk.oa ?_; try walk_nrm)
 have s1 : (w.alloc (.cells #[.slice none 0 0, .slice none 0 0, .slice none 0 0, .bool false] 29)).heap.size = w.heap.size + 1 := by simp
 have o1 : ∀ b, b < w.heap.size → (w.alloc (.cells #[.slice none 0 0, .slice none 0 0, .slice none 0 0, .bool false] 29)).heap[b]? = w.heap[b]? := fun b hb => heap_new_lt _ _ hb
 have d1 := heap_alloc_new w (.cells #[.slice none 0 0, .slice none 0 0, .slice none 0 0, .bool false] 29)
 generalize hN : w.heap.size = T0 at *
 generalize w.alloc (.cells #[.slice none 0 0, .slice none 0 0, .slice none 0 0, .bool false] 29) = w1 at *
 repeat (first | refine Walk.cx ?_ | (refine Walk.cReg ?_; simp only [z11]) | (refine Walk.oq ?_; try walk_nrm) | (refine Walk.un ?_; walk_nrm))
 refine Walk.callW (Post := fun v w' => v = .slice (some ⟨w1.heap.size, 0, none⟩) (cellsN sz) (cellsN sz) ∧ OzI w1.heap.size (cellsN sz) oz0 w' ∧ (∀ b, b < w1.heap.size → w'.heap[b]? = w1.heap[b]?) ∧ w'.heap.size = w1.heap.size + 1) ?_ (ho_of (by conv => lhs; whnf) (by kernel_rfl)) (by rfl) (by decide) rfl Try.func28 (by kernel_rfl) (by rfl) ?_
 ·walk_nrm
  exact newOnces_w sz w1
 rintro v w2 ⟨rfl, hI, hO, hS⟩
 rw [s1] at hI hO hS ⊢
 generalize hn : cellsN sz = m at *
 walk_nrm
 repeat (first | refine Walk.cx ?_ | (refine Walk.cReg ?_; simp only [z11]) | (refine Walk.oq ?_; try walk_nrm) | (refine Walk.un ?_; walk_nrm))
 refine Walk.callE (ho_of (by conv => lhs; whnf) (by kernel_rfl)) (by rfl) (by decide) rfl Try.func29 (by kernel_rfl) (by rfl) ?_
 walk_nrm
 refine .stop fun d => ⟨_, rfl, hI.old rfl, fun b hb => (hO b (by omega)).trans (o1 b (by omega)), hS, (hO T0 (by omega)).trans d1, ?_⟩
 intro A na oo ol ok stuck s w4 hne hm6 I4 hT
 refine Walk.finish (ho_of (by conv => lhs; whnf) (by kernel_rfl)) ?_
 walk_nrm
 (refine Walk.oa ?_; try walk_nrm)
 have d5 := heap_alloc_new w4 (.cells #[.slice none 0 0, .slice none 0 0, .slice none 0 0, .bool false] 29)
 have s5 : (w4.alloc (.cells #[.slice none 0 0, .slice none 0 0, .slice none 0 0, .bool false] 29)).heap.size = w4.heap.size + 1 := by simp
 have o5 : ∀ b, b < w4.heap.size → (w4.alloc (.cells #[.slice none 0 0, .slice none 0 0, .slice none 0 0, .bool false] 29)).heap[b]? = w4.heap[b]? := fun b hb => heap_new_lt _ _ hb
 have hT0 : T0 < w4.heap.size := (Array.getElem?_eq_some_iff.1 hT).1
 generalize hT1 : w4.heap.size = T1 at *
 generalize w4.alloc (.cells #[.slice none 0 0, .slice none 0 0, .slice none 0 0, .bool false] 29) = w5 at *
 refine Walk.storeS 29 (.tmp 10) (.tmp 18) (ho_of (by conv => lhs; whnf) (by kernel_rfl)) (by rfl) (by decide) rfl T1 #[.slice (some ⟨A, 0, none⟩) na na, .slice oo ol ok, .slice none 0 0, .bool stuck] _ 29 rfl rfl d5 (by kernel_rfl) (by rfl) (by simp [Value.oneCell']) (hA _) ?_
 have d6 := setRow_self (cells := #[.slice (some ⟨A, 0, none⟩) na na, .slice oo ol ok, .slice none 0 0, .bool stuck]) d5
 have o6 : ∀ b, b < T1 → (w5.setRow T1 #[.slice (some ⟨A, 0, none⟩) na na, .slice oo ol ok, .slice none 0 0, .bool stuck]).heap[b]? = w4.heap[b]? := fun b hb => (setRow_other _ _ (by omega)).trans (o5 b (by omega))
 have s6 := setRow_size w5 T1 #[.slice (some ⟨A, 0, none⟩) na na, .slice oo ol ok, .slice none 0 0, .bool stuck]
 rw [s5] at s6
 generalize w5.setRow T1 #[.slice (some ⟨A, 0, none⟩) na na, .slice oo ol ok, .slice none 0 0, .bool stuck] = w6 at *
 have I6 : OzI (T0 + 1) m s w6 := I4.old (o6 _ (by have := I4.lt; omega))
 walk_nrm
 repeat (first | refine Walk.cx ?_ | (refine Walk.cReg ?_; simp only [z11]) | (refine Walk.oq ?_; try walk_nrm) | (refine Walk.un ?_; walk_nrm))
 refine Walk.callW (Post := ValOut w6 (ozState s m)) ?_ (ho_of (by conv => lhs; whnf) (by kernel_rfl)) (by rfl) (by decide) rfl Try.func31 (by kernel_rfl) (by rfl) ?_
 ·walk_nrm
  exact ostate_w s hm6 hA w6 I6
 rintro v w7 ⟨ta, tc, rfl, H⟩
 generalize hst : ozState s m = st at *
 have d7 := (H.old T1 (by omega)).trans d6
 have c7 := (cell_of d7 2).trans rfl
 have z7 := frozen_of d7 2
 have hs7 := H.size
 walk_nrm
 repeat (first | (refine Walk.oq ?_; try walk_nrm) | (refine Walk.un ?_; walk_nrm))
 (have hfr := (hA T1).1 ⟨T1, 2, none⟩ rfl; refine Walk.os hfr c7 ?_; clear hfr; try walk_nrm)
 have d8 : (w7.setCell ⟨T1, 2, none⟩ (.slice ta st.length tc)).heap[T1]? = some (.cells #[.slice (some ⟨A, 0, none⟩) na na, .slice oo ol ok, .slice ta st.length tc, .bool stuck] 29) := by
  rw [heap_set_self _ _ d7]
  simp
 have o8 : ∀ b, b ≠ T1 → (w7.setCell ⟨T1, 2, none⟩ (.slice ta st.length tc)).heap[b]? = w7.heap[b]? := fun b hb => heap_set_other _ _ _ _ hb
 have s8 := size_set w7 ⟨T1, 2, none⟩ (.slice ta st.length tc)
 clear c7 z7
 generalize w7.setCell ⟨T1, 2, none⟩ (.slice ta st.length tc) = w8 at *
 repeat (first | refine Walk.cx ?_ | (refine Walk.cReg ?_; simp only [z11]) | (refine Walk.oq ?_; try walk_nrm) | (refine Walk.un ?_; walk_nrm))
 refine Walk.loadS 29 (.tmp 10) (ho_of (by conv => lhs; whnf) (by kernel_rfl)) (by rfl) (by decide) rfl T1 0 [.slice (some ⟨A, 0, none⟩) na na, .slice oo ol ok, .slice ta st.length tc, .bool stuck] (.struct fsT) rfl (fun j v hj => ?_) huT rfl (by kernel_rfl) ?_
 ·rw [Nat.zero_add, cell_of d8]
  simpa using hj
 have dT : w8.heap[T0]? = some (.cells #[.slice none 0 0, .slice none 0 0, .slice none 0 0, .bool false] 29) := (o8 T0 (by omega)).trans ((H.old T0 (by omega)).trans ((o6 T0 (by omega)).trans hT))
 walk_nrm
 refine Walk.storeS 29 (.tmp 8) (.tmp 22) (ho_of (by conv => lhs; whnf) (by kernel_rfl)) (by rfl) (by decide) rfl T0 #[.slice (some ⟨A, 0, none⟩) na na, .slice oo ol ok, .slice ta st.length tc, .bool stuck] _ 29 rfl rfl dT (by kernel_rfl) (by rfl) (by simp [Value.oneCell']) (hA _) ?_
 have d9 := setRow_self (cells := #[.slice (some ⟨A, 0, none⟩) na na, .slice oo ol ok, .slice ta st.length tc, .bool stuck]) dT
 walk_nrm
 repeat (first | refine Walk.cx ?_ | (refine Walk.cReg ?_; simp only [z11]) | (refine Walk.oq ?_; try walk_nrm) | (refine Walk.un ?_; walk_nrm))
 refine Walk.onCell (T := T0) rfl rfl rfl Try.func11 rfl (by rfl) d9 (by kernel_rfl) (by kernel_rfl) (.stop fun d => ⟨ta, tc, rfl, ?_, fun b hb hbT => ?_, ?_⟩)
 ·have hr := row_raise (base' := T1) H.row fun b hb => by have := (H.row.lt b hb).1; omega
  refine row_same hr fun b hb => ?_
  have := (H.row.lt b hb).1
  exact (setRow_other _ _ (by omega)).trans (o8 b (by omega))
 ·exact (setRow_other _ _ hbT).trans ((o8 b (by omega)).trans ((H.old b (by omega)).trans (o6 b hb)))
 ·show T1 ≤ (w8.setRow _ _).heap.size
  rw [setRow_size]
  omega
structure OPAny (n : Nat) (L : La) (stx : L.Sg → List Int) (F : OX L × List Nat) (w w' : World) (cells : Array Value) : Prop where
 tr : TrA cells n (fun i => (F.1.th i).ans) F.2 (stx F.1.s) (stuckO n F.1) w'
 old : ∀ b, b < w.heap.size → w'.heap[b]? = w.heap[b]?
 size : w.heap.size ≤ w'.heap.size
theorem oplay_any (sz : Int) (tv : Value) (most : Int) (ta : Option Addr) (tb toff tc n : Nat) (hta : 0 < n → ta = some ⟨tb, toff, none⟩) (hn : n ≤ 64) (oa : Nat → Option Addr) (ln oc : Nat → Nat) (ops : Nat → List OpV) (sa : Option Addr) (sc : Nat) (sl : List Int) (hsl : sl.length ≤ 17592186044416) (c : Frame) (cs : List Frame) (w : World)
  (I : OpsIn tb toff n oa ln oc ops w)
  (hsc : ∀ (j : Nat) (z : Int), sl[j]? = some z → ∃ s so, sa = some ⟨s, so, none⟩ ∧ w.cell? ⟨s, so + j, none⟩ = some (.int .i64 z))
  (hp : ∀ w' : World, (∀ b, b < w.heap.size → w'.heap[b]? = w.heap[b]?) → CallV Try.prog true (fun _ => none) 80 #[tv] w' (.slice ta n tc) w') :
  Runs (fun g w' => ∃ cells, OPAny n (onLa (w.heap.size + 1) (cellsN sz)) (fun s => ozState s (cellsN sz)) (playO (onLa (w.heap.size + 1) (cellsN sz)) oz0 ops n most sl) w w' cells ∧ g = G (c.finish (.agg cells)) cs) (G (Frame.enter Try.prog 11 #[.int .i64 sz, tv, .slice sa sl.length sc, .int .i64 most] .normal) (c :: cs)) w := by
 obtain ⟨q1, q2, q3⟩ := cellsN_le sz
 refine Runs.walk (oplay_in sz tv (.slice sa sl.length sc) most c cs w) ?_
 rintro _ w1 ⟨fr, rfl, hI, hO, hS, hT, hB⟩
 have hc1 : ∀ {b j : Nat} {v : Value}, w.cell? ⟨b, j, none⟩ = some v → w1.cell? ⟨b, j, none⟩ = some v := fun {b j v} e => (World.cell?_of_block (a := ⟨b, j, none⟩) (hO b (cell_lt' e))).trans e
 have hsh : ∀ b, b < w.heap.size → ¬ (b = w.heap.size + 1) := fun b hb h => by omega
 have I1 : OpsIn tb toff n oa ln oc ops w1 := I.old hO
 refine Runs.then (ops_any (L := onLa (w.heap.size + 1) (cellsN sz)) (odo_ok q2) oz0 tv most ta tb toff tc n hta hn oa ln oc ops sa sc sl hsl fr (c :: cs) w1 I1 hI (fun i hi j o ho b off e => ?_) (fun j z hz => ?_) (fun w' hw' => hp w' fun b hb => (hw' b (by omega)).trans (hO b hb))) ?_
 ·obtain ⟨b', off', e', c0, _⟩ := I.ops i hi j o ho
  rw [e] at e'
  injection e' with e'
  injection e' with e' _
  subst e'
  exact hsh b (cell_lt' c0)
 ·obtain ⟨s, so, e, hc⟩ := hsc j z hz
  exact ⟨s, so, e, hc1 hc, hsh s (cell_lt' hc)⟩
 ·rintro _ w4 ⟨cells, H, rfl⟩
  obtain ⟨A, oo, ok, hd, arr, rfl, hrow, hAl, hAr, hAi, hans⟩ := H.all
  have hIf := H.I
  have hold := H.old
  have hsz := H.size
  have hT4 : w4.heap[w.heap.size]? = some (.cells #[.slice none 0 0, .slice none 0 0, .slice none 0 0, .bool false] 29) := (hold _ (by omega) (fun h : _ = w.heap.size + 1 => by omega)).trans hT
  refine Runs.walk (hB A n oo _ ok _ _ w4 (by omega) q2 hIf hT4) ?_
  rintro _ w5 ⟨ta', tc', rfl, hst, hold5, hsz5⟩
  generalize playO (onLa (w.heap.size + 1) (cellsN sz)) oz0 ops n most sl = F at *
  refine .now ⟨_, ⟨⟨some ⟨A, 0, none⟩, n, oo, ok, ta', tc', rfl, ?_, ?_, fun i hi => ?_⟩, fun b hb => ?_, by omega⟩, rfl⟩
  ·refine numA_of (base := 0) (e := 3) (m := F.2.length) (tc := ok) ?_
   have : ((F.2.map fun i => ((i : Nat) : Int)).map (Value.int .i64)) = (F.2.map fun i => .int .i64 (i : Nat)) := by simp
   rw [this]
   refine row_same (row_raise hrow fun b hb => Nat.zero_le _) fun b hb => hold5 b (hrow.lt b hb).2 ?_
   have := (hrow.lt b hb).1; omega
  ·exact numA_of (base := w4.heap.size) (e := 2) (m := (ozState F.1.s (cellsN sz)).length) (tc := tc') hst
  ·obtain ⟨ta2, tc2, e, hr⟩ := hans i hi
   refine ⟨A, 0, ta2, tc2, rfl, ?_, ?_⟩
   ·rw [Nat.zero_add]
    refine (cell_of ((hold5 A (Array.getElem?_eq_some_iff.1 hAr).1 (by omega)).trans hAr) i).trans ?_
    rw [hAi i hi, e]
   ·rw [e] at hr
    refine ansA_of (base := w1.heap.size) (m := ((F.1.th i).ans).length) (tc := tc2) ?_ rfl
    refine row_same hr fun b hb => hold5 b (hr.lt b hb).2 ?_
    have := (hr.lt b hb).1; omega
  ·exact (hold5 b (by omega) (by omega)).trans ((hold b (by omega) (hsh b hb)).trans (hO b hb))
section
noncomputable def reg33_0 := rg Try.f33.body [0]
noncomputable def reg33_1 := rg Try.f33.body [1, 0, 0]
noncomputable def reg33_2 := rg Try.f33.body [1, 0, 1, 0, 0]
noncomputable def reg33_3 := rg Try.f33.body [1, 1, 0, 0]
noncomputable def reg33_4 := rg Try.f33.body [1, 1, 0, 1, 0, 0]
noncomputable def reg33_5 := rg Try.f33.body [1, 1, 1, 0]
theorem z33 : List.range reg33_0.size = [0] ∧ List.range reg33_1.size = [0, 1, 2] ∧ List.range reg33_2.size = [0, 1] ∧ List.range reg33_3.size = [0, 1, 2] ∧ List.range reg33_4.size = [0, 1] ∧ List.range reg33_5.size = [0, 1] := by refine ⟨?_, ?_, ?_, ?_, ?_, ?_⟩ <;> kernel_rfl
theorem code33_is : Try.f33.body = some (.seq (.region 0 reg33_0 false) (.seq (.seq (.region 1 reg33_1 false) (.cond (.tmp 9 ) (.seq (.region 2 reg33_2 false) (.ret)) (.skip))) (.seq (.seq (.region 3 reg33_3 false) (.cond (.tmp 13 ) (.seq (.region 4 reg33_4 false) (.ret)) (.skip))) (.seq (.region 5 reg33_5 false) (.ret))))) := by kernel_rfl
noncomputable def reg62_0 := rg Try.f62.body [0]
noncomputable def reg62_1 := rg Try.f62.body [1, 0]
theorem z62 : List.range reg62_0.size = [0] ∧ List.range reg62_1.size = [0, 1, 2] := by refine ⟨?_, ?_⟩ <;> kernel_rfl
theorem code62_is : Try.f62.body = some (.seq (.region 0 reg62_0 false) (.seq (.region 1 reg62_1 false) (.ret))) := by kernel_rfl
section
variable {main : Bool} {V : Nat → Option Wait}
theorem held_lo (x lo hi : Int) (w : World) (hd1 : decide (x < lo) = true) : CallV Try.prog main V 33 #[.int .i64 x, .int .i64 lo, .int .i64 hi] w (.int .i64 lo) w := by
 refine callW_in Try.func33 code33_is fun fr cs => ?_
 simp only [Try.ntmps33, ez, Nat.reduceAdd, Nat.reduceSub]
 repeat (first | refine Walk.cx ?_ | (refine Walk.cReg ?_; simp only [z33]) | (refine Walk.oq ?_; try walk_nrm) | (refine Walk.un ?_; walk_nrm))
 exact Walk.ret1 rfl rfl Try.func33 rfl fun d => ⟨rfl, d, rfl⟩
theorem held_hi (x lo hi : Int) (w : World) (hd1 : decide (x < lo) = false) (hd2 : decide (hi < x) = true) : CallV Try.prog main V 33 #[.int .i64 x, .int .i64 lo, .int .i64 hi] w (.int .i64 hi) w := by
 refine callW_in Try.func33 code33_is fun fr cs => ?_
 simp only [Try.ntmps33, ez, Nat.reduceAdd, Nat.reduceSub]
 repeat (first | refine Walk.cx ?_ | (refine Walk.cReg ?_; simp only [z33]) | (refine Walk.oq ?_; try walk_nrm) | (refine Walk.un ?_; walk_nrm))
 exact Walk.ret1 rfl rfl Try.func33 rfl fun d => ⟨rfl, d, rfl⟩
theorem held_on (x lo hi : Int) (w : World) (hd1 : decide (x < lo) = false) (hd2 : decide (hi < x) = false) : CallV Try.prog main V 33 #[.int .i64 x, .int .i64 lo, .int .i64 hi] w (.int .i64 x) w := by
 refine callW_in Try.func33 code33_is fun fr cs => ?_
 simp only [Try.ntmps33, ez, Nat.reduceAdd, Nat.reduceSub]
 repeat (first | refine Walk.cx ?_ | (refine Walk.cReg ?_; simp only [z33]) | (refine Walk.oq ?_; try walk_nrm) | (refine Walk.un ?_; walk_nrm))
 exact Walk.ret1 rfl rfl Try.func33 rfl fun d => ⟨rfl, d, rfl⟩
theorem held_w (x lo hi : Int) (w : World) : CallV Try.prog main V 33 #[.int .i64 x, .int .i64 lo, .int .i64 hi] w (.int .i64 (if x < lo then lo else if hi < x then hi else x)) w := by
 by_cases h1 : x < lo
 ·rw [if_pos h1]; exact held_lo x lo hi w (decide_eq_true h1)
 rw [if_neg h1]
 by_cases h2 : hi < x
 ·rw [if_pos h2]; exact held_hi x lo hi w (decide_eq_false h1) (decide_eq_true h2)
 rw [if_neg h2]
 exact held_on x lo hi w (decide_eq_false h1) (decide_eq_false h2)
theorem held_tries (x : Int) : (if x < 1 then 1 else if 1024 < x then 1024 else x) = ((triesX x : Nat) : Int) := by
 rw [triesX_is]
 split
 ·omega
 split <;> omega
theorem tries_w (x : Int) (w : World) : CallV Try.prog main V 62 #[.int .i64 x] w (.int .i64 (triesX x : Nat)) w := by
 have hh := held_w (main := main) (V := V) x 1 1024 w
 rw [held_tries] at hh
 generalize triesX x = n at *
 refine callW_in Try.func62 code62_is fun fr cs => ?_
 simp only [Try.ntmps62, ez, Nat.reduceAdd, Nat.reduceSub]
 repeat (first | refine Walk.cx ?_ | (refine Walk.cReg ?_; simp only [z62]) | (refine Walk.oq ?_; try walk_nrm) | (refine Walk.un ?_; walk_nrm))
 refine Walk.callV (x := .int .i64 (n : Nat)) (W := w) ?_ (ho_of (by conv => lhs; whnf) (by kernel_rfl)) (by rfl) (by decide) rfl Try.func33 (by kernel_rfl) (by rfl) ?_
 ·walk_nrm
  exact hh
 walk_nrm
 repeat (first | refine Walk.cx ?_ | (refine Walk.cReg ?_; simp only [z62]) | (refine Walk.oq ?_; try walk_nrm) | (refine Walk.un ?_; walk_nrm))
 exact Walk.ret1 rfl rfl Try.func62 rfl fun d => ⟨rfl, d, rfl⟩
end
structure OmX (S : Nat → Prop) (m cb n cc : Nat) (tl : Value) (s : Oz) (w : World) : Prop where
 blk : w.heap[m]? = some (.cells #[.slice (some ⟨cb, 0, none⟩) n cc, tl] 101)
 row : ∃ arr : Array Value, w.heap[cb]? = some (.cells arr 104) ∧ ∀ i, i < n → arr[i * 3]? = some (.int .i64 (s.st i)) ∧ arr[i * 3 + 1]? = some (.int .i64 (s.vl i)) ∧ arr[i * 3 + 2]? = some (.int .i64 (s.ct i))
 sm : S m
 sc : S cb
 ne : m ≠ cb
section
variable {S S' : Nat → Prop} {m cb n cc : Nat} {tl : Value} {s : Oz} {w w' : World}
theorem OmX.lt (X : OmX S m cb n cc tl s w) : m < w.heap.size ∧ cb < w.heap.size := by
 obtain ⟨a1, h1, _⟩ := X.row
 exact ⟨(Array.getElem?_eq_some_iff.1 X.blk).1, (Array.getElem?_eq_some_iff.1 h1).1⟩
theorem OmX.same (X : OmX S m cb n cc tl s w) (h : ∀ g, g < w.heap.size → S g → w'.heap[g]? = w.heap[g]?) : OmX S m cb n cc tl s w' := by
 obtain ⟨l1, l2⟩ := X.lt
 obtain ⟨a1, h1, h1'⟩ := X.row
 exact ⟨(h m l1 X.sm).trans X.blk, ⟨a1, (h cb l2 X.sc).trans h1, h1'⟩, X.sm, X.sc, X.ne⟩
theorem OmX.at (X : OmX S m cb n cc tl s w) (d : Nat) : OmX S m cb n cc tl s (w.at d) := X.same fun _ _ _ => rfl
theorem OmX.mono (X : OmX S m cb n cc tl s w) (h : ∀ g, S g → S' g) : OmX S' m cb n cc tl s w := ⟨X.blk, X.row, h _ X.sm, h _ X.sc, X.ne⟩
theorem OmX.chg (X : OmX S m cb n cc tl s w) {S2 : Nat → Prop} (hC : Chg S2 w w') (hS : ∀ g, g < w.heap.size → S g → ¬ S2 g) : OmX S m cb n cc tl s w' := X.same fun g hg h => hC.same g hg (hS g hg h)
theorem OmX.c0 (X : OmX S m cb n cc tl s w) : w.cell? ⟨m, 0, none⟩ = some (.slice (some ⟨cb, 0, none⟩) n cc) := (cell_of X.blk 0).trans rfl
theorem OmX.c1 (X : OmX S m cb n cc tl s w) : w.cell? ⟨m, 1, none⟩ = some tl := (cell_of X.blk 1).trans rfl
theorem OmX.stc (X : OmX S m cb n cc tl s w) {i : Nat} (hi : i < n) : w.cell? ⟨cb, i * 3, none⟩ = some (.int .i64 (s.st i)) := by
 obtain ⟨a1, e1, e1'⟩ := X.row
 exact (cell_of e1 _).trans (e1' i hi).1
theorem OmX.vlc (X : OmX S m cb n cc tl s w) {i : Nat} (hi : i < n) : w.cell? ⟨cb, i * 3 + 1, none⟩ = some (.int .i64 (s.vl i)) := by
 obtain ⟨a1, e1, e1'⟩ := X.row
 exact (cell_of e1 _).trans (e1' i hi).2.1
theorem OmX.ctc (X : OmX S m cb n cc tl s w) {i : Nat} (hi : i < n) : w.cell? ⟨cb, i * 3 + 2, none⟩ = some (.int .i64 (s.ct i)) := by
 obtain ⟨a1, e1, e1'⟩ := X.row
 exact (cell_of e1 _).trans (e1' i hi).2.2
theorem OmX.z (X : OmX S m cb n cc tl s w) (i : Nat) : w.frozen? ⟨cb, i, none⟩ = false := by
 obtain ⟨a1, e1, _⟩ := X.row
 exact frozen_of e1 i
theorem OmX.st (X : OmX S m cb n cc tl s w) {i : Nat} (hi : i < n) (v : Int) : OmX S m cb n cc tl { s with st := upd s.st i v } (w.setCell ⟨cb, i * 3, none⟩ (.int .i64 v)) := by
 obtain ⟨arr, h1, h2⟩ := X.row
 refine ⟨(heap_set_other _ _ _ _ X.ne).trans X.blk, ⟨_, heap_set_self _ _ h1, fun j hj => ?_⟩, X.sm, X.sc, X.ne⟩
 obtain ⟨k0, k1, k2⟩ := h2 j hj
 by_cases e : j = i
 ·subst e
  exact ⟨by simp only [upd_same]; exact arr_put_self k0, arr_put k1 (by omega), arr_put k2 (by omega)⟩
 ·exact ⟨by simp only [upd_ne _ _ e]; exact arr_put k0 (by omega), arr_put k1 (by omega), arr_put k2 (by omega)⟩
theorem OmX.vl (X : OmX S m cb n cc tl s w) {i : Nat} (hi : i < n) (v : Int) : OmX S m cb n cc tl { s with vl := upd s.vl i v } (w.setCell ⟨cb, i * 3 + 1, none⟩ (.int .i64 v)) := by
 obtain ⟨arr, h1, h2⟩ := X.row
 refine ⟨(heap_set_other _ _ _ _ X.ne).trans X.blk, ⟨_, heap_set_self _ _ h1, fun j hj => ?_⟩, X.sm, X.sc, X.ne⟩
 obtain ⟨k0, k1, k2⟩ := h2 j hj
 by_cases e : j = i
 ·subst e
  exact ⟨arr_put k0 (by omega), by simp only [upd_same]; exact arr_put_self k1, arr_put k2 (by omega)⟩
 ·exact ⟨arr_put k0 (by omega), by simp only [upd_ne _ _ e]; exact arr_put k1 (by omega), arr_put k2 (by omega)⟩
theorem OmX.ct (X : OmX S m cb n cc tl s w) {i : Nat} (hi : i < n) (v : Int) : OmX S m cb n cc tl { s with ct := upd s.ct i v } (w.setCell ⟨cb, i * 3 + 2, none⟩ (.int .i64 v)) := by
 obtain ⟨arr, h1, h2⟩ := X.row
 refine ⟨(heap_set_other _ _ _ _ X.ne).trans X.blk, ⟨_, heap_set_self _ _ h1, fun j hj => ?_⟩, X.sm, X.sc, X.ne⟩
 obtain ⟨k0, k1, k2⟩ := h2 j hj
 by_cases e : j = i
 ·subst e
  exact ⟨arr_put k0 (by omega), arr_put k1 (by omega), by simp only [upd_same]; exact arr_put_self k2⟩
 ·exact ⟨arr_put k0 (by omega), arr_put k1 (by omega), by simp only [upd_ne _ _ e]; exact arr_put k2 (by omega)⟩
end
def qR (o : OpV) (q : Bool) (v : Int) : Prop := (q = true ∧ o.k = 4) ∨ (q = false ∧ o.k ≠ 4 ∧ o.b = v)
def oR (n : Nat) (o : OpV) (PC : Int) (N : Nat → Int) : OD → Prop
 | .g1 c => PC = 10 ∧ o.a = c ∧ c < n
 | .g2 c => PC = 11 ∧ o.a = c ∧ c < n
 | .s1 c v => PC = 20 ∧ o.a = c ∧ c < n ∧ o.b = v
 | .s2 c v => PC = 21 ∧ o.a = c ∧ c < n ∧ o.b = v
 | .s3 c v => PC = 22 ∧ o.a = c ∧ c < n ∧ o.b = v
 | .s4 c => PC = 23 ∧ o.a = c ∧ c < n
 | .s5 c => PC = 24 ∧ o.a = c ∧ c < n
 | .m1 q c v r => PC = 30 ∧ o.a = c ∧ c < n ∧ qR o q v ∧ N 1 = (r : Nat) ∧ 1 ≤ r ∧ r ≤ 1024
 | .m2 c => PC = 31 ∧ o.a = c ∧ c < n
 | .m3 q c v r => PC = 32 ∧ o.a = c ∧ c < n ∧ qR o q v ∧ N 1 = (r : Nat) ∧ 1 ≤ r ∧ r ≤ 1024
 | .m4 q c v => PC = 33 ∧ o.a = c ∧ c < n ∧ qR o q v
 | .m5 c v => PC = 34 ∧ o.a = c ∧ c < n ∧ o.b = v
 | .m6 c x => PC = 35 ∧ o.a = c ∧ c < n ∧ N 0 = x
 | .m7 c x => PC = 36 ∧ o.a = c ∧ c < n ∧ N 0 = x
 | .m8 c => PC = 37 ∧ o.a = c ∧ c < n
theorem oR_pos {n : Nat} {o : OpV} {PC : Int} {N : Nat → Int} {d : OD} (h : oR n o PC N d) : 10 ≤ PC ∧ PC ≤ 40 ∧ 0 ≤ o.a ∧ o.a < n := by
 cases d <;> simp only [oR] at h <;> omega
def TIs (S : Nat → Prop) (n b : Nat) (ops : List OpV) (oa : Option Addr) (oc : Nat) (left : List OpV) (d : Option OD) (ans : List Ans) (e : Bool) (w : World) : Prop := ∃ (k : Nat) (PC : Int) (N : Nat → Int) (aa : Option Addr) (ac : Nat), ThX S b ops oa oc (k : Nat) PC N ans aa ac e w ∧ ans.length = k ∧
 ((d = none ∧ k = ops.length ∧ e = true) ∨ ∃ x o, d = some x ∧ ops[k]? = some o ∧ left = ops.drop (k + 1) ∧ oR n o PC N x ∧ e = false)
theorem TIs.same {S : Nat → Prop} {n b : Nat} {ops : List OpV} {oa : Option Addr} {oc : Nat} {left : List OpV} {d : Option OD} {ans : List Ans} {e : Bool} {w w' : World} (X : TIs S n b ops oa oc left d ans e w) (h : ∀ g, g < w.heap.size → S g → w'.heap[g]? = w.heap[g]?) : TIs S n b ops oa oc left d ans e w' := by
 obtain ⟨k, PC, N, aa, ac, X, h1, h2⟩ := X
 exact ⟨k, PC, N, aa, ac, X.same h, h1, h2⟩
theorem TIs.mono {S S' : Nat → Prop} {n b : Nat} {ops : List OpV} {oa : Option Addr} {oc : Nat} {left : List OpV} {d : Option OD} {ans : List Ans} {e : Bool} {w : World} (X : TIs S n b ops oa oc left d ans e w) (h : ∀ g, S g → S' g) : TIs S' n b ops oa oc left d ans e w := by
 obtain ⟨k, PC, N, aa, ac, X, h1, h2⟩ := X
 exact ⟨k, PC, N, aa, ac, X.mono h, h1, h2⟩
noncomputable def boxW (w : World) (o : OpV) : World := (w.alloc (.cells #[.int .i64 0, .int .i64 0, .int .i64 0, .int .i64 0] 34)).setRow w.heap.size #[.int .i64 o.k, .int .i64 o.a, .int .i64 o.b, .int .i64 o.c]
theorem boxW_chg (w : World) (o : OpV) : Chg (fun _ => False) w (boxW w o) := opW_chg w o
theorem boxW_at (w : World) (o : OpV) : (boxW w o).heap[w.heap.size]? = some (.cells #[.int .i64 o.k, .int .i64 o.a, .int .i64 o.b, .int .i64 o.c] 34) := setRow_self (heap_alloc_new w (.cells #[.int .i64 0, .int .i64 0, .int .i64 0, .int .i64 0] 34))
noncomputable def reg34_0 := rg Try.f34.body [0, 0, 0, 0, 0]
theorem size34_0 : reg34_0.size = 17 := by kernel_rfl
noncomputable def reg34_1 := rg Try.f34.body [0, 0, 0, 1, 0, 0]
noncomputable def reg34_2 := rg Try.f34.body [0, 0, 0, 1, 0, 1, 0, 0]
theorem size34_2 : reg34_2.size = 23 := by kernel_rfl
noncomputable def reg34_3 := rg Try.f34.body [0, 0, 0, 1, 0, 1, 0, 1, 0, 0]
noncomputable def reg34_4 := rg Try.f34.body [0, 0, 0, 1, 0, 1, 1, 0]
noncomputable def reg34_5 := rg Try.f34.body [0, 0, 0, 1, 0, 1, 1, 1, 0]
theorem size34_5 : reg34_5.size = 8 := by kernel_rfl
noncomputable def reg34_6 := rg Try.f34.body [0, 0, 0, 1, 0, 1, 1, 1, 1, 0]
noncomputable def reg34_7 := rg Try.f34.body [0, 0, 0, 1, 0, 1, 1, 1, 1, 1, 0]
noncomputable def reg34_8 := rg Try.f34.body [1]
theorem size34_8 : reg34_8.size = 14 := by kernel_rfl
theorem z34 : List.range reg34_0.size = [0, 1, 2, 3, 4, 5, 6, 7, 8, 9, 10, 11, 12, 13, 14, 15, 16] ∧ List.range reg34_1.size = [0, 1, 2, 3] ∧ List.range reg34_2.size = [0, 1, 2, 3, 4, 5, 6, 7, 8, 9, 10, 11, 12, 13, 14, 15, 16, 17, 18, 19, 20, 21, 22] ∧ List.range reg34_3.size = [0, 1, 2] ∧ List.range reg34_4.size = [0, 1, 2, 3, 4, 5, 6] ∧ List.range reg34_5.size = [0, 1, 2, 3, 4, 5, 6, 7] ∧ List.range reg34_6.size = [0, 1, 2] ∧ List.range reg34_7.size = [0, 1, 2, 3] ∧ List.range reg34_8.size = [0, 1, 2, 3, 4, 5, 6, 7, 8, 9, 10, 11, 12, 13] := by refine ⟨?_, ?_, ?_, ?_, ?_, ?_, ?_, ?_, ?_⟩ <;> kernel_rfl
theorem code34_is : Try.f34.body = some (.seq (.block 0 (.loop (.seq (.seq (.region 0 reg34_0 true) (.cond (.tmp 21 ) (.skip) (.exit 0))) (.block 1 (.seq (.region 1 reg34_1 false) (.seq (.seq (.region 2 reg34_2 true) (.cond (.tmp 46 ) (.seq (.region 3 reg34_3 false) (.exit 1)) (.skip))) (.seq (.region 4 reg34_4 false) (.seq (.region 5 reg34_5 true) (.seq (.region 6 reg34_6 false) (.cond (.tmp 65 ) (.region 7 reg34_7 false) (.skip))))))))))) (.region 8 reg34_8 true)) := by kernel_rfl
noncomputable def hdBg (m b : Nat) (u : Nat → Value) : Frame :=
 (base 34).at { tmps := #[.pointer (some ⟨m, 0, none⟩), .pointer (some ⟨b, 0, none⟩), u 2, u 3, u 4, u 5, u 6, u 7, u 8, u 9, u 10, u 11, u 12, u 13, u 14, u 15, u 16, u 17, u 18, u 19, u 20, u 21, u 22, u 23, u 24, u 25, u 26, u 27, u 28, u 29, u 30, u 31, u 32, u 33, u 34, u 35, u 36, u 37, u 38, u 39, u 40, u 41, u 42, u 43, u 44, u 45, u 46, u 47, u 48, u 49, u 50, u 51, u 52, u 53, u 54, u 55, u 56, u 57, u 58, u 59, u 60, u 61, u 62, u 63, u 64, u 65, u 66, u 67, u 68, u 69, u 70, u 71, u 72, u 73, u 74, u 75, u 76, u 77, u 78, u 79, u 80, u 81], defers := [] } [.code (.seq (.seq (.region 0 reg34_0 true) (.cond (.tmp 21 ) (.skip) (.exit 0))) (.block 1 (.seq (.region 1 reg34_1 false) (.seq (.seq (.region 2 reg34_2 true) (.cond (.tmp 46 ) (.seq (.region 3 reg34_3 false) (.exit 1)) (.skip))) (.seq (.region 4 reg34_4 false) (.seq (.region 5 reg34_5 true) (.seq (.region 6 reg34_6 false) (.cond (.tmp 65 ) (.region 7 reg34_7 false) (.skip))))))))), .inLoop (.seq (.seq (.region 0 reg34_0 true) (.cond (.tmp 21 ) (.skip) (.exit 0))) (.block 1 (.seq (.region 1 reg34_1 false) (.seq (.seq (.region 2 reg34_2 true) (.cond (.tmp 46 ) (.seq (.region 3 reg34_3 false) (.exit 1)) (.skip))) (.seq (.region 4 reg34_4 false) (.seq (.region 5 reg34_5 true) (.seq (.region 6 reg34_6 false) (.cond (.tmp 65 ) (.region 7 reg34_7 false) (.skip))))))))), .inBlock 0, .code (.region 8 reg34_8 true)]
section
variable {main : Bool} {S Sm : Nat → Prop} {m cb n cc b : Nat} {tl : Value} {s : Oz} {ops : List OpV} {oa : Option Addr} {oc k : Nat} {PC : Int} {N : Nat → Int} {ans : List Ans} {aa : Option Addr} {ac : Nat} {e : Bool}
theorem mbg_in (m b : Nat) (cs : List Frame) (w : World) :
  Walk Try.prog main (DR (fun _ => none)) (fun g w' => (∃ u, g = G (hdBg m b u) cs) ∧ ∃ d, w' = w.at d) (G (Frame.enter Try.prog 34 #[.pointer (some ⟨m, 0, none⟩), .pointer (some ⟨b, 0, none⟩)] .normal) cs) w := by
 rw [enter_at _ Try.func34 code34_is]
 simp only [Try.ntmps34, ez, Nat.reduceAdd, Nat.reduceSub]
 repeat (first | refine Walk.cx ?_ | (refine Walk.cReg ?_; simp only [z34]) | (refine Walk.oq ?_; try walk_nrm) | (refine Walk.un ?_; walk_nrm))
 refine Walk.ctl rfl (fun w => stepG_loop) ?_
 refine .stop fun d => ⟨at_slots ?_, d, rfl⟩
 simp only [hdBg]
 rfl
theorem mbg_bad (o : OpV) (u : Nat → Value) (cs : List Frame) (w : World) (M : OmX Sm m cb n cc tl s w) (X : ThX S b ops oa oc (k : Nat) 0 N ans aa ac e w) (hl : ops.length ≤ 65536) (hal : ans.length ≤ 65536) (ho : ops[k]? = some o) (hbad : o.a < 0 ∨ (n : Int) ≤ o.a ∨ o.k < 1 ∨ 4 < o.k) :
  Walk Try.prog main (DR (fun _ => none)) (fun g w' => (∃ u, g = G (hdBg m b u) cs) ∧ (∃ aa' ac', ThX (fun g => S g ∨ w.heap.size ≤ g) b ops oa oc ((k + 1 : Nat) : Int) 0 N (ans ++ [(false, 0)]) aa' ac' e w') ∧ Chg S w w') (G (hdBg m b u) cs) w := by
 have hkl := (List.getElem?_eq_some_iff.1 ho).1
 have c0 := tcO X.blk
 have c1 := tcI X.blk
 have c2 := tcP X.blk
 have hk1 : ((k : Int) < (ops.length : Int)) := by omega
 have hk2 : decide (k < ops.length) = true := by simpa using hkl
 conv => arg 5; unfold hdBg
 repeat (first | refine Walk.cx ?_ | (refine Walk.cReg ?_; simp only [z34]) | (refine Walk.oq ?_; try walk_nrm) | (refine Walk.un ?_; walk_nrm))
 (refine Walk.drawnC (by kernel_rfl) size34_0 (by kernel_rfl) (by kernel_rfl) (by decide) ?_; simp only [List.range, List.range.loop]; repeat (first | (refine Cm.oq ?_) | (refine Cm.unw (ho_of (by conv => lhs; whnf) (by kernel_rfl)) (by rfl) ?_; walk_nrm)))
 refine Cm.done ?_
 repeat (first | refine Walk.cx ?_ | (refine Walk.cReg ?_; simp only [z34]) | (refine Walk.oq ?_; try walk_nrm) | (refine Walk.un ?_; walk_nrm))
 refine Walk.callW (Post := fun v w' => v = opVal o ∧ Chg (fun _ => False) w w') ?_ (ho_of (by conv => lhs; whnf) (by kernel_rfl)) (by rfl) (by decide) rfl Try.func60 (by kernel_rfl) (by rfl) ?_
 ·walk_nrm
  exact op_w o w X ho hl
 rintro v w1 ⟨rfl, hC1⟩
 obtain ⟨ok, o1, o2, o3⟩ := o
 have hB := boxW_chg w1 ⟨ok, o1, o2, o3⟩
 have hBat := boxW_at w1 ⟨ok, o1, o2, o3⟩
 have hd0 := heap_alloc_new w1 (.cells #[.int .i64 0, .int .i64 0, .int .i64 0, .int .i64 0] 34)
 simp only [opVal] at *
 clear c0 c1 c2 hk1 hk2
 walk_nrm
 (refine Walk.oa ?_; try walk_nrm)
 repeat (first | (refine Walk.oq ?_; try walk_nrm) | (refine Walk.un ?_; walk_nrm))
 refine Walk.storeS 34 (.tmp 4) (.tmp 23) (ho_of (by conv => lhs; whnf) (by kernel_rfl)) (by rfl) (by decide) rfl w1.heap.size #[.int .i64 ok, .int .i64 o1, .int .i64 o2, .int .i64 o3] _ 34 rfl rfl hd0 (by kernel_rfl) (by rfl) (by simp [Value.oneCell']) (ap0 _) ?_
 have hC2 : Chg (fun _ => False) w (boxW w1 ⟨ok, o1, o2, o3⟩) := hC1.trans hB fun _ _ h => h
 have hP : w.heap.size ≤ w1.heap.size := hC1.size
 generalize hw2 : boxW w1 ⟨ok, o1, o2, o3⟩ = w2 at *
 unfold boxW at hw2
 dsimp only at hw2
 rw [hw2]
 generalize w1.heap.size = P at *
 clear hd0 hw2
 have X2 : ThX S b ops oa oc (k : Nat) 0 N ans aa ac e w2 := X.same fun g hg _ => hC2.same g hg (fun h => h)
 have M2 := M.chg hC2 fun _ _ _ h => h
 have m0 := M2.c0
 have p0 := (cell_of hBat 0).trans rfl
 have p1 := (cell_of hBat 1).trans rfl
 have hs1 := hC2.size
 have goal : ∀ (w3 : World), (∃ aa' ac', ThX (fun g => S g ∨ w2.heap.size ≤ g) b ops oa oc ((k + 1 : Nat) : Int) 0 N (ans ++ [(false, 0)]) aa' ac' e w3) ∧ Chg S w2 w3 → (∃ aa' ac', ThX (fun g => S g ∨ w.heap.size ≤ g) b ops oa oc ((k + 1 : Nat) : Int) 0 N (ans ++ [(false, 0)]) aa' ac' e w3) ∧ Chg S w w3 := by
  rintro w3 ⟨⟨aa', ac', X3⟩, hC3⟩
  exact ⟨⟨aa', ac', X3.mono fun g hg => hg.imp id fun h => by omega⟩, Chg.trans (hC2.mono fun _ _ h => h.elim) hC3 fun _ _ h => h⟩
 have hcases : (decide (o1 < 0) = true) ∨ (decide (o1 < 0) = false ∧ decide ((n : Int) ≤ o1) = true) ∨ (decide (o1 < 0) = false ∧ decide ((n : Int) ≤ o1) = false ∧ decide (ok < 1) = true) ∨ (decide (o1 < 0) = false ∧ decide ((n : Int) ≤ o1) = false ∧ decide (ok < 1) = false ∧ decide (4 < ok) = true) := by
  simp only [decide_eq_true_eq, decide_eq_false_iff_not]
  have hbad : o1 < 0 ∨ (n : Int) ≤ o1 ∨ ok < 1 ∨ 4 < ok := hbad
  omega
 clear hbad hB hBat
 walk_nrm
 rcases hcases with hd0 | ⟨hd0, hd1⟩ | ⟨hd0, hd1, hd2⟩ | ⟨hd0, hd1, hd2, hd3⟩
 all_goals (
  repeat (first | refine Walk.cx ?_ | (refine Walk.cReg ?_; simp only [z34]) | (refine Walk.oq ?_; try walk_nrm) | (refine Walk.un ?_; walk_nrm))
  (refine Walk.drawnC (by kernel_rfl) size34_2 (by kernel_rfl) (by kernel_rfl) (by decide) ?_; simp only [List.range, List.range.loop]; repeat (first | (refine Cm.oq ?_) | (refine Cm.unw (ho_of (by conv => lhs; whnf) (by kernel_rfl)) (by rfl) ?_; walk_nrm)))
  refine Cm.done ?_
  repeat (first | refine Walk.cx ?_ | (refine Walk.cReg ?_; simp only [z34]) | (refine Walk.oq ?_; try walk_nrm) | (refine Walk.un ?_; walk_nrm))
  refine Walk.callW (Post := fun v w' => v = .tuple #[] ∧ (∃ aa' ac', ThX (fun g => S g ∨ w2.heap.size ≤ g) b ops oa oc ((k + 1 : Nat) : Int) 0 N (ans ++ [(false, 0)]) aa' ac' e w') ∧ Chg S w2 w') ?_ (ho_of (by conv => lhs; whnf) (by kernel_rfl)) (by rfl) (by decide) rfl Try.func61 (by kernel_rfl) (by rfl) ?_
  ·walk_nrm
   exact end_w (false, 0) w2 X2 (by omega) hal
  rintro v w3 ⟨rfl, hw3⟩
  have hg := goal w3 hw3
  walk_nrm
  repeat (first | refine Walk.cx ?_ | (refine Walk.cReg ?_; simp only [z34]) | (refine Walk.oq ?_; try walk_nrm) | (refine Walk.un ?_; walk_nrm))
  refine Walk.ctl rfl (fun w => stepG_inLoop) ?_
  refine .stop fun d => ⟨at_slots ?_, ?_⟩
  ·simp only [hdBg]
   rfl
  ·obtain ⟨⟨aa', ac', X3⟩, hC3⟩ := hg
   exact ⟨⟨aa', ac', X3.at d⟩, hC3.at d⟩)
end
end
end Go.Proofs.Ytdcjgmlgmjjogaa
