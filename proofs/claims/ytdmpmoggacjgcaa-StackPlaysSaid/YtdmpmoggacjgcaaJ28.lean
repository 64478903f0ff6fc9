/- Part 28. -/
import Derived.Test.YtdmpmoggacjgcaaJ24
import Derived.Test.YtdmpmoggacjgcaaJ25
import Derived.Test.YtdmpmoggacjgcaaJ27
set_option linter.unusedSimpArgs false
set_option linter.unusedVariables false
set_option maxHeartbeats 8000000
set_option maxRecDepth 100000
namespace Go.Proofs.Ytdmpmoggacjgcaa
open Go.Conc Go.RowKit Go.Relay
open Go.ConcN (upd upd_ne upd_same)
section
section
variable {P : Program}
theorem eqInB (d : Nat) (t : TypeId) (x y : Bool) (w : World) (es : Array Event) (hu : P.underlying t = some .bool) : (Op.equalIn (d + 1) t (.bool x) (.bool y)).run P w = .ok (x == y) w ∧ (Op.equalIn (d + 1) t (.bool x) (.bool y)).events P w es = es := by
  constructor <;> simp [Op.equalIn, run_underlying hu]
theorem run_neqB (t : TypeId) (hu : P.underlying t = some .bool) (x y : Bool) (w : World) : (binOp .neq t (.bool x) (.bool y)).run P w = .ok (.bool (x != y)) w := by
  simp only [binOp]
  simp [Op.equal, Op.maxDepth, (eqInB 9999 t x y w #[] hu).1, bne]
theorem ev_neqB (t : TypeId) (hu : P.underlying t = some .bool) (x y : Bool) (w : World) (es : Array Event) : (binOp .neq t (.bool x) (.bool y)).events P w es = es := by
  simp only [binOp]
  simp [Op.equal, Op.maxDepth, (eqInB 9999 t x y w #[] hu).1, (eqInB 9999 t x y w es hu).2]
end
theorem und4B : Try.prog.underlying 4 = some .bool := by kernel_rfl
def NumA (a : Option Addr) (l : List Int) (w : World) : Prop := ∀ (i : Nat) (x : Int), l[i]? = some x → ∃ b o, a = some ⟨b, o, none⟩ ∧ w.cell? ⟨b, o + i, none⟩ = some (.int .i64 x)
def AnsA (a : Option Addr) (l : List Ans) (w : World) : Prop := ∀ (i : Nat) (x : Ans), l[i]? = some x → ∃ b o, a = some ⟨b, o, none⟩ ∧ w.cell? ⟨b, o + i * 3, none⟩ = some (.bool x.1) ∧ w.cell? ⟨b, o + i * 3 + 1, none⟩ = some (.int .i64 x.2) ∧ w.cell? ⟨b, o + i * 3 + 2, none⟩ = some (.slice none 0 0)
theorem NumA.chg {a : Option Addr} {l : List Int} {w w' : World} (h : NumA a l w) (hC : Chg (fun _ => False) w w') : NumA a l w' := fun i x hx => by
  obtain ⟨b, o, e, hc⟩ := h i x hx
  exact ⟨b, o, e, (World.cell?_of_block (a := ⟨b, o + i, none⟩) (hC.same b (cell_lt' hc) id)).trans hc⟩
theorem AnsA.chg {a : Option Addr} {l : List Ans} {w w' : World} (h : AnsA a l w) (hC : Chg (fun _ => False) w w') : AnsA a l w' := fun i x hx => by
  obtain ⟨b, o, e, h1, h2, h3⟩ := h i x hx
  exact ⟨b, o, e, (World.cell?_of_block (a := ⟨b, _, none⟩) (hC.same b (cell_lt' h1) id)).trans h1, (World.cell?_of_block (a := ⟨b, _, none⟩) (hC.same b (cell_lt' h1) id)).trans h2, (World.cell?_of_block (a := ⟨b, _, none⟩) (hC.same b (cell_lt' h1) id)).trans h3⟩
section
variable {main : Bool} {V : Nat → Option Wait}
theorem sn_in (a b : Option Addr) (n ca cb : Nat) (cs : List Frame) (w : World) :
    Walk Try.prog main (DR V) (fun g w' => (∃ u, g = G (hdSame (.slice a n ca) (.slice b n cb) 0 u) cs) ∧ ∃ d, w' = w.at d) (G (Frame.enter Try.prog 13 #[.slice a n ca, .slice b n cb] .normal) cs) w := by
  rw [enter_at _ Try.func13 code13_is]
  simp only [Try.ntmps13, ez, Nat.reduceAdd, Nat.reduceSub]
  repeat (first | refine Walk.cx ?_ | (refine Walk.cReg ?_; simp only [z13]) | (refine Walk.oq ?_; try walk_nrm) | (refine Walk.un ?_; walk_nrm))
  refine Walk.ctl rfl (fun w => stepG_loop) ?_
  refine .stop fun d => ⟨at_slots ?_, d, rfl⟩
  simp only [hdSame]
  rfl
theorem sn_out (a b : Option Addr) (n ca cb : Nat) (u : Nat → Value) (c : Frame) (cs : List Frame) (w : World) :
    Walk Try.prog main (DR V) (fun g w' => g = G (c.finish (.bool true)) cs ∧ ∃ d, w' = w.at d) (G (hdSame (.slice a n ca) (.slice b n cb) n u) (c :: cs)) w := by
  unfold hdSame
  repeat (first | refine Walk.cx ?_ | (refine Walk.cReg ?_; simp only [z13]) | (refine Walk.oq ?_; try walk_nrm) | (refine Walk.un ?_; walk_nrm))
  exact Walk.on1 rfl rfl Try.func13 rfl (.stop fun d => ⟨rfl, d, rfl⟩)
theorem sn_go (ab ao n ca bb bo cb i : Nat) (x : Int) (u : Nat → Value) (cs : List Frame) (w : World) (hi : i < n) (hn : n ≤ 17592186044416) (ha : w.cell? ⟨ab, ao + i, none⟩ = some (.int .i64 x)) (hb : w.cell? ⟨bb, bo + i, none⟩ = some (.int .i64 x)) :
    Walk Try.prog main (DR V) (fun g w' => (∃ u', g = G (hdSame (.slice (some ⟨ab, ao, none⟩) n ca) (.slice (some ⟨bb, bo, none⟩) n cb) (i + 1) u') cs) ∧ ∃ d, w' = w.at d) (G (hdSame (.slice (some ⟨ab, ao, none⟩) n ca) (.slice (some ⟨bb, bo, none⟩) n cb) i u) cs) w := by
  have hw1 : IntKind.wrap .i64 ((i : Int) + 1) = (i : Int) + 1 := by rw [IntKind.wrap_i64]; omega
  conv => arg 5; unfold hdSame
  repeat (first | refine Walk.cx ?_ | (refine Walk.cReg ?_; simp only [z13]) | (refine Walk.oq ?_; try walk_nrm) | (refine Walk.un ?_; walk_nrm))
  (refine Walk.drawnC (by kernel_rfl) size13_6 (by kernel_rfl) (by kernel_rfl) (by decide) ?_; simp only [List.range, List.range.loop]; repeat (first | (refine Cm.oq ?_) | (refine Cm.unw (ho_of (by conv => lhs; whnf) (by kernel_rfl)) (by rfl) ?_; walk_nrm)))
  refine Cm.done ?_
  repeat (first | refine Walk.cx ?_ | (refine Walk.cReg ?_; simp only [z13]) | (refine Walk.oq ?_; try walk_nrm) | (refine Walk.un ?_; walk_nrm))
  refine Walk.ctl rfl (fun w => stepG_inLoop) ?_
  refine .stop fun d' => ⟨at_slots ?_, d', rfl⟩
  have hc : ((i + 1 : Nat) : Int) = (i : Int) + 1 := by simp
  simp only [hdSame, hc]
  rfl
theorem sn_loop (a b : Option Addr) (l : List Int) (ca cb : Nat) (hn : l.length ≤ 17592186044416) (c : Frame) (cs : List Frame) (w : World) (ha : NumA a l w) (hb : NumA b l w) : ∀ (r i : Nat) (u : Nat → Value), i + r = l.length →
    Walk Try.prog main (DR V) (fun g w' => g = G (c.finish (.bool true)) cs ∧ ∃ d, w' = w.at d) (G (hdSame (.slice a l.length ca) (.slice b l.length cb) i u) (c :: cs)) w := by
  intro r
  induction r with
  | zero =>
    intro i u hi
    have hi : i = l.length := hi
    subst hi
    exact sn_out a b l.length ca cb u c cs w
  | succ r ih =>
    intro i u hi
    have hin : i < l.length := by omega
    have hx := List.getElem?_eq_getElem hin
    obtain ⟨ab, ao, rfl, h1⟩ := ha i _ hx
    obtain ⟨bb, bo, rfl, h2⟩ := hb i _ hx
    refine (sn_go ab ao l.length ca bb bo cb i _ u (c :: cs) w hin hn h1 h2).then ?_
    rintro g w' ⟨⟨u', rfl⟩, d, rfl⟩
    exact Walk.back (ih (i + 1) u' (by omega)) d
theorem sn_w (a b : Option Addr) (l : List Int) (ca cb : Nat) (hn : l.length ≤ 17592186044416) (w : World) (ha : NumA a l w) (hb : NumA b l w) : CallV Try.prog main V 13 #[.slice a l.length ca, .slice b l.length cb] w (.bool true) w := by
  intro fr cs
  refine (sn_in a b l.length ca cb (fr :: cs) w).then ?_
  rintro g w1 ⟨⟨u, rfl⟩, d, rfl⟩
  refine Walk.back ?_ d
  refine (sn_loop a b l ca cb hn fr cs w ha hb l.length 0 u (by omega)).mono ?_
  rintro g w' ⟨rfl, d, rfl⟩
  exact ⟨_, ⟨rfl, d, rfl⟩, rfl⟩
noncomputable def reg31_0 := rg Try.f31.body [0]
noncomputable def reg31_1 := rg Try.f31.body [1, 0, 0]
noncomputable def reg31_2 := rg Try.f31.body [1, 0, 1, 0, 0]
noncomputable def reg31_3 := rg Try.f31.body [1, 1, 0, 0]
noncomputable def reg31_4 := rg Try.f31.body [1, 1, 0, 1, 0, 0, 0, 0]
noncomputable def reg31_6 := rg Try.f31.body [1, 1, 0, 1, 0, 0, 1, 0, 0, 0]
theorem size31_6 : reg31_6.size = 38 := by kernel_rfl
noncomputable def reg31_7 := rg Try.f31.body [1, 1, 0, 1, 0, 0, 1, 0, 0, 1, 0, 0]
noncomputable def reg31_5 := rg Try.f31.body [1, 1, 0, 1, 0, 0, 1, 1]
noncomputable def reg31_8 := rg Try.f31.body [1, 1, 1, 0]
theorem z31 : List.range reg31_0.size = [0] ∧ List.range reg31_1.size = [0, 1, 2, 3, 4] ∧ List.range reg31_2.size = [0] ∧ List.range reg31_3.size = [0] ∧ List.range reg31_4.size = [0, 1, 2, 3] ∧ List.range reg31_5.size = [0, 1, 2] ∧ List.range reg31_6.size = [0, 1, 2, 3, 4, 5, 6, 7, 8, 9, 10, 11, 12, 13, 14, 15, 16, 17, 18, 19, 20, 21, 22, 23, 24, 25, 26, 27, 28, 29, 30, 31, 32, 33, 34, 35, 36, 37] ∧ List.range reg31_7.size = [0] ∧ List.range reg31_8.size = [0] := by refine ⟨?_, ?_, ?_, ?_, ?_, ?_, ?_, ?_, ?_⟩ <;> kernel_rfl
theorem code31_is : Try.f31.body = some (.seq (.region 0 reg31_0 false) (.seq (.seq (.region 1 reg31_1 false) (.cond (.tmp 10 ) (.seq (.region 2 reg31_2 false) (.ret)) (.skip))) (.seq (.seq (.region 3 reg31_3 false) (.block 0 (.loop (.seq (.seq (.region 4 reg31_4 false) (.cond (.tmp 14 ) (.skip) (.exit 0))) (.seq (.block 1 (.seq (.region 6 reg31_6 true) (.cond (.tmp 54 ) (.seq (.region 7 reg31_7 false) (.ret)) (.skip)))) (.region 5 reg31_5 false)))))) (.seq (.region 8 reg31_8 false) (.ret))))) := by kernel_rfl
noncomputable def hdSA (a b : Value) (i : Nat) (u : Nat → Value) : Frame :=
  (base 31).at { tmps := #[a, b, u 2, u 3, u 4, .int .i64 i, u 6, u 7, u 8, u 9, u 10, u 11, u 12, u 13, u 14, u 15, u 16, u 17, u 18, u 19, u 20, u 21, u 22, u 23, u 24, u 25, u 26, u 27, u 28, u 29, u 30, u 31, u 32, u 33, u 34, u 35, u 36, u 37, u 38, u 39, u 40, u 41, u 42, u 43, u 44, u 45, u 46, u 47, u 48, u 49, u 50, u 51, u 52, u 53, u 54], defers := [] } [.code (.seq (.seq (.region 4 reg31_4 false) (.cond (.tmp 14 ) (.skip) (.exit 0))) (.seq (.block 1 (.seq (.region 6 reg31_6 true) (.cond (.tmp 54 ) (.seq (.region 7 reg31_7 false) (.ret)) (.skip)))) (.region 5 reg31_5 false))), .inLoop (.seq (.seq (.region 4 reg31_4 false) (.cond (.tmp 14 ) (.skip) (.exit 0))) (.seq (.block 1 (.seq (.region 6 reg31_6 true) (.cond (.tmp 54 ) (.seq (.region 7 reg31_7 false) (.ret)) (.skip)))) (.region 5 reg31_5 false))), .inBlock 0, .code (.seq (.region 8 reg31_8 false) (.ret))]
theorem sa_in (a b : Option Addr) (n ca cb : Nat) (cs : List Frame) (w : World) :
    Walk Try.prog main (DR V) (fun g w' => (∃ u, g = G (hdSA (.slice a n ca) (.slice b n cb) 0 u) cs) ∧ ∃ d, w' = w.at d) (G (Frame.enter Try.prog 31 #[.slice a n ca, .slice b n cb] .normal) cs) w := by
  rw [enter_at _ Try.func31 code31_is]
  simp only [Try.ntmps31, ez, Nat.reduceAdd, Nat.reduceSub]
  repeat (first | refine Walk.cx ?_ | (refine Walk.cReg ?_; simp only [z31]) | (refine Walk.oq ?_; try walk_nrm) | (refine Walk.un ?_; walk_nrm))
  refine Walk.ctl rfl (fun w => stepG_loop) ?_
  refine .stop fun d => ⟨at_slots ?_, d, rfl⟩
  simp only [hdSA]
  rfl
theorem sa_out (a b : Option Addr) (n ca cb : Nat) (u : Nat → Value) (c : Frame) (cs : List Frame) (w : World) :
    Walk Try.prog main (DR V) (fun g w' => g = G (c.finish (.bool true)) cs ∧ ∃ d, w' = w.at d) (G (hdSA (.slice a n ca) (.slice b n cb) n u) (c :: cs)) w := by
  unfold hdSA
  repeat (first | refine Walk.cx ?_ | (refine Walk.cReg ?_; simp only [z31]) | (refine Walk.oq ?_; try walk_nrm) | (refine Walk.un ?_; walk_nrm))
  exact Walk.on1 rfl rfl Try.func31 rfl (.stop fun d => ⟨rfl, d, rfl⟩)
theorem sa_go (ab ao n ca bb bo cb i : Nat) (y : Bool) (x : Int) (u : Nat → Value) (cs : List Frame) (w : World) (hi : i < n) (hn : n ≤ 17592186044416) (a0 : w.cell? ⟨ab, ao + i * 3, none⟩ = some (.bool y)) (a1 : w.cell? ⟨ab, ao + i * 3 + 1, none⟩ = some (.int .i64 x)) (a2 : w.cell? ⟨ab, ao + i * 3 + 2, none⟩ = some (.slice none 0 0)) (b0 : w.cell? ⟨bb, bo + i * 3, none⟩ = some (.bool y)) (b1 : w.cell? ⟨bb, bo + i * 3 + 1, none⟩ = some (.int .i64 x)) (b2 : w.cell? ⟨bb, bo + i * 3 + 2, none⟩ = some (.slice none 0 0)) :
    Walk Try.prog main (DR V) (fun g w' => (∃ u', g = G (hdSA (.slice (some ⟨ab, ao, none⟩) n ca) (.slice (some ⟨bb, bo, none⟩) n cb) (i + 1) u') cs) ∧ ∃ d, w' = w.at d) (G (hdSA (.slice (some ⟨ab, ao, none⟩) n ca) (.slice (some ⟨bb, bo, none⟩) n cb) i u) cs) w := by
  have hw1 : IntKind.wrap .i64 ((i : Int) + 1) = (i : Int) + 1 := by rw [IntKind.wrap_i64]; omega
  have qb := run_neqB (P := Try.prog) 4 und4B y y
  have qe := ev_neqB (P := Try.prog) 4 und4B y y
  have qy : (y != y) = false := by cases y <;> rfl
  rw [qy] at qb
  conv => arg 5; unfold hdSA
  repeat (first | refine Walk.cx ?_ | (refine Walk.cReg ?_; simp only [z31]) | (refine Walk.oq ?_; try walk_nrm) | (refine Walk.un ?_; walk_nrm))
  (refine Walk.drawnC (by kernel_rfl) size31_6 (by kernel_rfl) (by kernel_rfl) (by decide) ?_; simp only [List.range, List.range.loop]; repeat (first | (refine Cm.oq ?_) | (refine Cm.unw (ho_of (by conv => lhs; whnf) (by kernel_rfl)) (by rfl) ?_; walk_nrm)))
  refine Cm.callV (x := .bool true) ?_ (ho_of (by conv => lhs; whnf) (by kernel_rfl)) (by rfl) rfl Try.func13 (by kernel_rfl) (by rfl) ?_
  · intro w' e
    subst e
    walk_nrm
    exact sn_w none none [] 0 0 (by decide) w' (fun _ _ h => by simp at h) (fun _ _ h => by simp at h)
  walk_nrm
  repeat (first | (refine Cm.oq ?_) | (refine Cm.unw (ho_of (by conv => lhs; whnf) (by kernel_rfl)) (by rfl) ?_; walk_nrm))
  refine Cm.done ?_
  repeat (first | refine Walk.cx ?_ | (refine Walk.cReg ?_; simp only [z31]) | (refine Walk.oq ?_; try walk_nrm) | (refine Walk.un ?_; walk_nrm))
  refine Walk.ctl rfl (fun w => stepG_inLoop) ?_
  refine .stop fun d' => ⟨at_slots ?_, d', rfl⟩
  have hc : ((i + 1 : Nat) : Int) = (i : Int) + 1 := by simp
  simp only [hdSA, hc]
  rfl
theorem sa_loop (a b : Option Addr) (l : List Ans) (ca cb : Nat) (hn : l.length ≤ 17592186044416) (c : Frame) (cs : List Frame) (w : World) (ha : AnsA a l w) (hb : AnsA b l w) : ∀ (r i : Nat) (u : Nat → Value), i + r = l.length →
    Walk Try.prog main (DR V) (fun g w' => g = G (c.finish (.bool true)) cs ∧ ∃ d, w' = w.at d) (G (hdSA (.slice a l.length ca) (.slice b l.length cb) i u) (c :: cs)) w := by
  intro r
  induction r with
  | zero =>
    intro i u hi
    have hi : i = l.length := hi
    subst hi
    exact sa_out a b l.length ca cb u c cs w
  | succ r ih =>
    intro i u hi
    have hin : i < l.length := by omega
    have hx := List.getElem?_eq_getElem hin
    generalize l[i] = x at hx
    obtain ⟨ab, ao, rfl, h1, h2, h3⟩ := ha i _ hx
    obtain ⟨bb, bo, rfl, k1, k2, k3⟩ := hb i _ hx
    refine (sa_go ab ao l.length ca bb bo cb i x.1 x.2 u (c :: cs) w hin hn h1 h2 h3 k1 k2 k3).then ?_
    rintro g w' ⟨⟨u', rfl⟩, d, rfl⟩
    exact Walk.back (ih (i + 1) u' (by omega)) d
theorem sa_w (a b : Option Addr) (l : List Ans) (ca cb : Nat) (hn : l.length ≤ 17592186044416) (w : World) (ha : AnsA a l w) (hb : AnsA b l w) : CallV Try.prog main V 31 #[.slice a l.length ca, .slice b l.length cb] w (.bool true) w := by
  intro fr cs
  refine (sa_in a b l.length ca cb (fr :: cs) w).then ?_
  rintro g w1 ⟨⟨u, rfl⟩, d, rfl⟩
  refine Walk.back ?_ d
  refine (sa_loop a b l ca cb hn fr cs w ha hb l.length 0 u (by omega)).mono ?_
  rintro g w' ⟨rfl, d, rfl⟩
  exact ⟨_, ⟨rfl, d, rfl⟩, rfl⟩
end
structure TrA (cells : Array Value) (n : Nat) (F : Nat → List Ans) (ord : List Nat) (sts : List Int) (k : Bool) (w : World) : Prop where
  all : ∃ aa ac oa oc sa sc, cells = trC (.slice aa n ac) (.slice oa ord.length oc) (.slice sa sts.length sc) k ∧ NumA oa (ord.map fun i => ((i : Nat) : Int)) w ∧ NumA sa sts w ∧ ∀ i, i < n → ∃ b o ta tc, aa = some ⟨b, o, none⟩ ∧ w.cell? ⟨b, o + i, none⟩ = some (.slice ta (F i).length tc) ∧ AnsA ta (F i) w
theorem TrA.chg {cells : Array Value} {n : Nat} {F : Nat → List Ans} {ord : List Nat} {sts : List Int} {k : Bool} {w w' : World} (h : TrA cells n F ord sts k w) (hC : Chg (fun _ => False) w w') : TrA cells n F ord sts k w' := by
  obtain ⟨aa, ac, oa, oc, sa, sc, e, h1, h2, h3⟩ := h.all
  refine ⟨aa, ac, oa, oc, sa, sc, e, h1.chg hC, h2.chg hC, fun i hi => ?_⟩
  obtain ⟨b, o, ta, tc, e, k1, k2⟩ := h3 i hi
  exact ⟨b, o, ta, tc, e, (World.cell?_of_block (a := ⟨b, o + i, none⟩) (hC.same b (cell_lt' k1) id)).trans k1, k2.chg hC⟩
section
variable {main : Bool}
noncomputable def reg14_0 := rg Try.f14.body [0]
noncomputable def reg14_1 := rg Try.f14.body [1, 0, 0]
noncomputable def reg14_2 := rg Try.f14.body [1, 0, 1, 0, 0]
noncomputable def reg14_3 := rg Try.f14.body [1, 1, 0, 0]
noncomputable def reg14_4 := rg Try.f14.body [1, 1, 0, 1, 0, 0, 0, 0]
noncomputable def reg14_6 := rg Try.f14.body [1, 1, 0, 1, 0, 0, 1, 0, 0, 0]
theorem size14_6 : reg14_6.size = 12 := by kernel_rfl
noncomputable def reg14_7 := rg Try.f14.body [1, 1, 0, 1, 0, 0, 1, 0, 0, 1, 0, 0]
noncomputable def reg14_5 := rg Try.f14.body [1, 1, 0, 1, 0, 0, 1, 1]
noncomputable def reg14_8 := rg Try.f14.body [1, 1, 1, 0, 0]
noncomputable def reg14_9 := rg Try.f14.body [1, 1, 1, 0, 1, 0, 0, 0, 0]
noncomputable def reg14_11 := rg Try.f14.body [1, 1, 1, 0, 1, 0, 0, 1, 0, 0, 0]
theorem size14_11 : reg14_11.size = 11 := by kernel_rfl
noncomputable def reg14_12 := rg Try.f14.body [1, 1, 1, 0, 1, 0, 0, 1, 0, 0, 1, 0, 0]
noncomputable def reg14_10 := rg Try.f14.body [1, 1, 1, 0, 1, 0, 0, 1, 1]
noncomputable def reg14_13 := rg Try.f14.body [1, 1, 1, 1, 0]
theorem z14 : List.range reg14_0.size = [0, 1, 2] ∧ List.range reg14_1.size = [0, 1, 2, 3, 4, 5, 6, 7, 8, 9, 10, 11, 12, 13, 14, 15, 16, 17, 18, 19, 20, 21, 22, 23, 24, 25, 26, 27, 28, 29, 30] ∧ List.range reg14_2.size = [0] ∧ List.range reg14_3.size = [0] ∧ List.range reg14_4.size = [0, 1, 2, 3, 4] ∧ List.range reg14_5.size = [0, 1, 2] ∧ List.range reg14_6.size = [0, 1, 2, 3, 4, 5, 6, 7, 8, 9, 10, 11] ∧ List.range reg14_7.size = [0] ∧ List.range reg14_8.size = [0] ∧ List.range reg14_9.size = [0, 1, 2, 3, 4] ∧ List.range reg14_10.size = [0, 1, 2] ∧ List.range reg14_11.size = [0, 1, 2, 3, 4, 5, 6, 7, 8, 9, 10] ∧ List.range reg14_12.size = [0] ∧ List.range reg14_13.size = [0] := by refine ⟨?_, ?_, ?_, ?_, ?_, ?_, ?_, ?_, ?_, ?_, ?_, ?_, ?_, ?_⟩ <;> kernel_rfl
theorem code14_is : Try.f14.body = some (.seq (.region 0 reg14_0 false) (.seq (.seq (.region 1 reg14_1 false) (.cond (.tmp 37 ) (.seq (.region 2 reg14_2 false) (.ret)) (.skip))) (.seq (.seq (.region 3 reg14_3 false) (.block 0 (.loop (.seq (.seq (.region 4 reg14_4 false) (.cond (.tmp 42 ) (.skip) (.exit 0))) (.seq (.block 1 (.seq (.region 6 reg14_6 true) (.cond (.tmp 56 ) (.seq (.region 7 reg14_7 false) (.ret)) (.skip)))) (.region 5 reg14_5 false)))))) (.seq (.seq (.region 8 reg14_8 false) (.block 2 (.loop (.seq (.seq (.region 9 reg14_9 false) (.cond (.tmp 61 ) (.skip) (.exit 2))) (.seq (.block 3 (.seq (.region 11 reg14_11 true) (.cond (.tmp 74 ) (.seq (.region 12 reg14_12 false) (.ret)) (.skip)))) (.region 10 reg14_10 false)))))) (.seq (.region 13 reg14_13 false) (.ret)))))) := by kernel_rfl
noncomputable def hdSm (X Y i : Nat) (u : Nat → Value) : Frame :=
  (base 14).at { tmps := #[u 0, u 1, .pointer (some ⟨X, 0, none⟩), .pointer (some ⟨Y, 0, none⟩), u 4, .int .i64 i, u 6, u 7, u 8, u 9, u 10, u 11, u 12, u 13, u 14, u 15, u 16, u 17, u 18, u 19, u 20, u 21, u 22, u 23, u 24, u 25, u 26, u 27, u 28, u 29, u 30, u 31, u 32, u 33, u 34, u 35, u 36, u 37, u 38, u 39, u 40, u 41, u 42, u 43, u 44, u 45, u 46, u 47, u 48, u 49, u 50, u 51, u 52, u 53, u 54, u 55, u 56, u 57, u 58, u 59, u 60, u 61, u 62, u 63, u 64, u 65, u 66, u 67, u 68, u 69, u 70, u 71, u 72, u 73, u 74], defers := [] } [.code (.seq (.seq (.region 4 reg14_4 false) (.cond (.tmp 42 ) (.skip) (.exit 0))) (.seq (.block 1 (.seq (.region 6 reg14_6 true) (.cond (.tmp 56 ) (.seq (.region 7 reg14_7 false) (.ret)) (.skip)))) (.region 5 reg14_5 false))), .inLoop (.seq (.seq (.region 4 reg14_4 false) (.cond (.tmp 42 ) (.skip) (.exit 0))) (.seq (.block 1 (.seq (.region 6 reg14_6 true) (.cond (.tmp 56 ) (.seq (.region 7 reg14_7 false) (.ret)) (.skip)))) (.region 5 reg14_5 false))), .inBlock 0, .code (.seq (.seq (.region 8 reg14_8 false) (.block 2 (.loop (.seq (.seq (.region 9 reg14_9 false) (.cond (.tmp 61 ) (.skip) (.exit 2))) (.seq (.block 3 (.seq (.region 11 reg14_11 true) (.cond (.tmp 74 ) (.seq (.region 12 reg14_12 false) (.ret)) (.skip)))) (.region 10 reg14_10 false)))))) (.seq (.region 13 reg14_13 false) (.ret)))]
noncomputable def hdSo (X Y i : Nat) (u : Nat → Value) : Frame :=
  (base 14).at { tmps := #[u 0, u 1, .pointer (some ⟨X, 0, none⟩), .pointer (some ⟨Y, 0, none⟩), u 4, u 5, .int .i64 i, u 7, u 8, u 9, u 10, u 11, u 12, u 13, u 14, u 15, u 16, u 17, u 18, u 19, u 20, u 21, u 22, u 23, u 24, u 25, u 26, u 27, u 28, u 29, u 30, u 31, u 32, u 33, u 34, u 35, u 36, u 37, u 38, u 39, u 40, u 41, u 42, u 43, u 44, u 45, u 46, u 47, u 48, u 49, u 50, u 51, u 52, u 53, u 54, u 55, u 56, u 57, u 58, u 59, u 60, u 61, u 62, u 63, u 64, u 65, u 66, u 67, u 68, u 69, u 70, u 71, u 72, u 73, u 74], defers := [] } [.code (.seq (.seq (.region 9 reg14_9 false) (.cond (.tmp 61 ) (.skip) (.exit 2))) (.seq (.block 3 (.seq (.region 11 reg14_11 true) (.cond (.tmp 74 ) (.seq (.region 12 reg14_12 false) (.ret)) (.skip)))) (.region 10 reg14_10 false))), .inLoop (.seq (.seq (.region 9 reg14_9 false) (.cond (.tmp 61 ) (.skip) (.exit 2))) (.seq (.block 3 (.seq (.region 11 reg14_11 true) (.cond (.tmp 74 ) (.seq (.region 12 reg14_12 false) (.ret)) (.skip)))) (.region 10 reg14_10 false))), .inBlock 2, .code (.seq (.region 13 reg14_13 false) (.ret))]
theorem sm_in (aa : Option Addr) (n ac : Nat) (oa : Option Addr) (on oc : Nat) (sa : Option Addr) (sts : List Int) (sc : Nat) (k : Bool) (ba : Option Addr) (bc : Nat) (pa : Option Addr) (pc : Nat) (ra : Option Addr) (rc : Nat) (cs : List Frame) (w : World) (hsn : sts.length ≤ 17592186044416) (s1 : NumA sa sts w) (s2 : NumA ra sts w) :
    Walk Try.prog main (DR (fun _ => none)) (fun g w' => (∃ u, g = G (hdSm w.heap.size (w.heap.size + 1) 0 u) cs) ∧ Chg (fun _ => False) w w' ∧ w'.heap[w.heap.size]? = some (.cells (trC (.slice aa n ac) (.slice oa on oc) (.slice sa sts.length sc) k) 27) ∧ w'.heap[w.heap.size + 1]? = some (.cells (trC (.slice ba n bc) (.slice pa on pc) (.slice ra sts.length rc) k) 27))
      (G (Frame.enter Try.prog 14 #[.agg (trC (.slice aa n ac) (.slice oa on oc) (.slice sa sts.length sc) k), .agg (trC (.slice ba n bc) (.slice pa on pc) (.slice ra sts.length rc) k)] .normal) cs) w := by
  have qb := run_neqB (P := Try.prog) 4 und4B k k
  have qe := ev_neqB (P := Try.prog) 4 und4B k k
  have qk : (k != k) = false := by cases k <;> rfl
  rw [qk] at qb
  rw [enter_at _ Try.func14 code14_is]
  simp only [Try.ntmps14, ez, Nat.reduceAdd, Nat.reduceSub]
  repeat (first | refine Walk.cx ?_ | (refine Walk.cReg ?_; simp only [z14]) | (refine Walk.oq ?_; try walk_nrm) | (refine Walk.un ?_; walk_nrm))
  (refine Walk.oa ?_; try walk_nrm)
  have hO : Chg (fun _ => False) w (w.alloc (.cells (trC (.slice aa n ac) (.slice oa on oc) (.slice sa sts.length sc) k) 27)) := Chg.alloc
  have hX := heap_alloc_new w (.cells (trC (.slice aa n ac) (.slice oa on oc) (.slice sa sts.length sc) k) 27)
  have hsz : (w.alloc (.cells (trC (.slice aa n ac) (.slice oa on oc) (.slice sa sts.length sc) k) 27)).heap.size = w.heap.size + 1 := by simp
  generalize w.alloc (.cells (trC (.slice aa n ac) (.slice oa on oc) (.slice sa sts.length sc) k) 27) = w1 at *
  repeat (first | (refine Walk.oq ?_; try walk_nrm) | (refine Walk.un ?_; walk_nrm))
  (refine Walk.oa ?_; try walk_nrm)
  have hO2 : Chg (fun _ => False) w (w1.alloc (.cells (trC (.slice ba n bc) (.slice pa on pc) (.slice ra sts.length rc) k) 27)) := hO.trans (S' := fun _ => False) Chg.alloc fun _ _ h => h
  have hY := heap_alloc_new w1 (.cells (trC (.slice ba n bc) (.slice pa on pc) (.slice ra sts.length rc) k) 27)
  have hX2 := (heap_new_lt w1 (.cells (trC (.slice ba n bc) (.slice pa on pc) (.slice ra sts.length rc) k) 27) (by rw [hsz]; exact Nat.lt_succ_self _)).trans hX
  rw [hsz] at hY
  clear hX hO hsz
  generalize w1.alloc (.cells (trC (.slice ba n bc) (.slice pa on pc) (.slice ra sts.length rc) k) 27) = w2 at *
  have h18 := sn_w (main := main) (V := fun _ => none) sa ra sts sc rc hsn w2 (s1.chg hO2) (s2.chg hO2)
  generalize w.heap.size = X at *
  have x0 : w2.cell? ⟨X, 0, none⟩ = some (.slice aa n ac) := (cell_of hX2 0).trans rfl
  have x1 : w2.cell? ⟨X, 1, none⟩ = some (.slice oa on oc) := (cell_of hX2 1).trans rfl
  have x2 : w2.cell? ⟨X, 2, none⟩ = some (.slice sa sts.length sc) := (cell_of hX2 2).trans rfl
  have x3 : w2.cell? ⟨X, 3, none⟩ = some (.bool k) := (cell_of hX2 3).trans rfl
  have y0 : w2.cell? ⟨X + 1, 0, none⟩ = some (.slice ba n bc) := (cell_of hY 0).trans rfl
  have y1 : w2.cell? ⟨X + 1, 1, none⟩ = some (.slice pa on pc) := (cell_of hY 1).trans rfl
  have y2 : w2.cell? ⟨X + 1, 2, none⟩ = some (.slice ra sts.length rc) := (cell_of hY 2).trans rfl
  have y3 : w2.cell? ⟨X + 1, 3, none⟩ = some (.bool k) := (cell_of hY 3).trans rfl
  clear s1 s2
  repeat (first | refine Walk.cx ?_ | (refine Walk.cReg ?_; simp only [z14]) | (refine Walk.oq ?_; try walk_nrm) | (refine Walk.un ?_; walk_nrm))
  refine Walk.callV (x := .bool true) (W := w2) ?_ (ho_of (by conv => lhs; whnf) (by kernel_rfl)) (by rfl) (by decide) rfl Try.func13 (by kernel_rfl) (by rfl) ?_
  · walk_nrm
    exact h18
  walk_nrm
  repeat (first | refine Walk.cx ?_ | (refine Walk.cReg ?_; simp only [z14]) | (refine Walk.oq ?_; try walk_nrm) | (refine Walk.un ?_; walk_nrm))
  refine Walk.ctl rfl (fun w => stepG_loop) ?_
  refine .stop fun d => ⟨at_slots ?_, hO2.at d, hX2, hY⟩
  simp only [hdSm]
  rfl
theorem sm_go (X Y n i ab ao ac bb bo bc : Nat) (ta tb : Option Addr) (l : List Ans) (tc td : Nat) (u : Nat → Value) (cs : List Frame) (w : World) (hi : i < n) (hn : n ≤ 17592186044416) (htl : l.length ≤ 17592186044416) (x0 : w.cell? ⟨X, 0, none⟩ = some (.slice (some ⟨ab, ao, none⟩) n ac)) (y0 : w.cell? ⟨Y, 0, none⟩ = some (.slice (some ⟨bb, bo, none⟩) n bc))
    (ha : w.cell? ⟨ab, ao + i, none⟩ = some (.slice ta l.length tc)) (hb : w.cell? ⟨bb, bo + i, none⟩ = some (.slice tb l.length td)) (h1 : AnsA ta l w) (h2 : AnsA tb l w) :
    Walk Try.prog main (DR (fun _ => none)) (fun g w' => (∃ u', g = G (hdSm X Y (i + 1) u') cs) ∧ ∃ d, w' = w.at d) (G (hdSm X Y i u) cs) w := by
  have hw1 : IntKind.wrap .i64 ((i : Int) + 1) = (i : Int) + 1 := by rw [IntKind.wrap_i64]; omega
  have hq := sa_w (main := main) (V := fun _ => none) ta tb l tc td htl w h1 h2
  clear h1 h2
  conv => arg 5; unfold hdSm
  repeat (first | refine Walk.cx ?_ | (refine Walk.cReg ?_; simp only [z14]) | (refine Walk.oq ?_; try walk_nrm) | (refine Walk.un ?_; walk_nrm))
  (refine Walk.drawnC (by kernel_rfl) size14_6 (by kernel_rfl) (by kernel_rfl) (by decide) ?_; simp only [List.range, List.range.loop]; repeat (first | (refine Cm.oq ?_) | (refine Cm.unw (ho_of (by conv => lhs; whnf) (by kernel_rfl)) (by rfl) ?_; walk_nrm)))
  refine Cm.callV (x := .bool true) ?_ (ho_of (by conv => lhs; whnf) (by kernel_rfl)) (by rfl) rfl Try.func31 (by kernel_rfl) (by rfl) ?_
  · intro w' e
    subst e
    walk_nrm
    exact hq
  walk_nrm
  repeat (first | (refine Cm.oq ?_) | (refine Cm.unw (ho_of (by conv => lhs; whnf) (by kernel_rfl)) (by rfl) ?_; walk_nrm))
  refine Cm.done ?_
  repeat (first | refine Walk.cx ?_ | (refine Walk.cReg ?_; simp only [z14]) | (refine Walk.oq ?_; try walk_nrm) | (refine Walk.un ?_; walk_nrm))
  refine Walk.ctl rfl (fun w => stepG_inLoop) ?_
  refine .stop fun d' => ⟨at_slots ?_, d', rfl⟩
  have hc : ((i + 1 : Nat) : Int) = (i : Int) + 1 := by simp
  simp only [hdSm, hc]
  rfl
theorem sm_next (X Y n : Nat) (va : Array Value) (aa : Option Addr) (ac : Nat) (u : Nat → Value) (cs : List Frame) (w : World) (x0 : w.cell? ⟨X, 0, none⟩ = some (.slice aa n ac)) :
    Walk Try.prog main (DR (fun _ => none)) (fun g w' => (∃ u', g = G (hdSo X Y 0 u') cs) ∧ ∃ d, w' = w.at d) (G (hdSm X Y n u) cs) w := by
  conv => arg 5; unfold hdSm
  repeat (first | refine Walk.cx ?_ | (refine Walk.cReg ?_; simp only [z14]) | (refine Walk.oq ?_; try walk_nrm) | (refine Walk.un ?_; walk_nrm))
  refine Walk.ctl rfl (fun w => stepG_loop) ?_
  refine .stop fun d' => ⟨at_slots ?_, d', rfl⟩
  simp only [hdSo]
  rfl
theorem so_go (X Y n i ab ao ac bb bo bc : Nat) (x : Int) (u : Nat → Value) (cs : List Frame) (w : World) (hi : i < n) (hn : n ≤ 17592186044416) (x0 : w.cell? ⟨X, 1, none⟩ = some (.slice (some ⟨ab, ao, none⟩) n ac)) (y0 : w.cell? ⟨Y, 1, none⟩ = some (.slice (some ⟨bb, bo, none⟩) n bc))
    (ha : w.cell? ⟨ab, ao + i, none⟩ = some (.int .i64 x)) (hb : w.cell? ⟨bb, bo + i, none⟩ = some (.int .i64 x)) :
    Walk Try.prog main (DR (fun _ => none)) (fun g w' => (∃ u', g = G (hdSo X Y (i + 1) u') cs) ∧ ∃ d, w' = w.at d) (G (hdSo X Y i u) cs) w := by
  have hw1 : IntKind.wrap .i64 ((i : Int) + 1) = (i : Int) + 1 := by rw [IntKind.wrap_i64]; omega
  conv => arg 5; unfold hdSo
  repeat (first | refine Walk.cx ?_ | (refine Walk.cReg ?_; simp only [z14]) | (refine Walk.oq ?_; try walk_nrm) | (refine Walk.un ?_; walk_nrm))
  (refine Walk.drawnC (by kernel_rfl) size14_11 (by kernel_rfl) (by kernel_rfl) (by decide) ?_; simp only [List.range, List.range.loop]; repeat (first | (refine Cm.oq ?_) | (refine Cm.unw (ho_of (by conv => lhs; whnf) (by kernel_rfl)) (by rfl) ?_; walk_nrm)))
  refine Cm.done ?_
  repeat (first | refine Walk.cx ?_ | (refine Walk.cReg ?_; simp only [z14]) | (refine Walk.oq ?_; try walk_nrm) | (refine Walk.un ?_; walk_nrm))
  refine Walk.ctl rfl (fun w => stepG_inLoop) ?_
  refine .stop fun d' => ⟨at_slots ?_, d', rfl⟩
  have hc : ((i + 1 : Nat) : Int) = (i : Int) + 1 := by simp
  simp only [hdSo, hc]
  rfl
theorem so_out (X Y n : Nat) (oa : Option Addr) (oc : Nat) (u : Nat → Value) (c : Frame) (cs : List Frame) (w : World) (x0 : w.cell? ⟨X, 1, none⟩ = some (.slice oa n oc)) :
    Walk Try.prog main (DR (fun _ => none)) (fun g w' => g = G (c.finish (.bool true)) cs ∧ ∃ d, w' = w.at d) (G (hdSo X Y n u) (c :: cs)) w := by
  unfold hdSo
  repeat (first | refine Walk.cx ?_ | (refine Walk.cReg ?_; simp only [z14]) | (refine Walk.oq ?_; try walk_nrm) | (refine Walk.un ?_; walk_nrm))
  exact Walk.on1 rfl rfl Try.func14 rfl (.stop fun d => ⟨rfl, d, rfl⟩)
theorem sm_w (ca cb : Array Value) (n : Nat) (F : Nat → List Ans) (ord : List Nat) (sts : List Int) (k : Bool) (w : World) (hn : n ≤ 64) (hord : ord.length ≤ 1048576) (hsn : sts.length ≤ 1048576) (hF : ∀ i, i < n → (F i).length ≤ 65536) (h1 : TrA ca n F ord sts k w) (h2 : TrA cb n F ord sts k w) :
    CallW Try.prog main (fun _ => none) 14 #[.agg ca, .agg cb] w (fun v w' => v = .bool true ∧ Chg (fun _ => False) w w') := by
  obtain ⟨aa, ac, oa, oc, sa, sc, rfl, n1, n2, n3⟩ := h1.all
  obtain ⟨ba, bc, pa, pc, ra, rc, rfl, m1, m2, m3⟩ := h2.all
  intro fr cs
  refine (sm_in aa n ac oa ord.length oc sa sts sc k ba bc pa pc ra rc (fr :: cs) w (by omega) n2 m2).then ?_
  rintro g w1 ⟨⟨u, rfl⟩, hC, hX, hY⟩
  have x0 : w1.cell? ⟨w.heap.size, 0, none⟩ = some (.slice aa n ac) := (cell_of hX 0).trans rfl
  have x1 : w1.cell? ⟨w.heap.size, 1, none⟩ = some (.slice oa ord.length oc) := (cell_of hX 1).trans rfl
  have y0 : w1.cell? ⟨w.heap.size + 1, 0, none⟩ = some (.slice ba n bc) := (cell_of hY 0).trans rfl
  have y1 : w1.cell? ⟨w.heap.size + 1, 1, none⟩ = some (.slice pa ord.length pc) := (cell_of hY 1).trans rfl
  have hcell : ∀ {x j : Nat} {v : Value}, w.cell? ⟨x, j, none⟩ = some v → w1.cell? ⟨x, j, none⟩ = some v := fun {x j v} h => (World.cell?_of_block (a := ⟨x, j, none⟩) (hC.same x (cell_lt' h) id)).trans h
  have olen : (ord.map fun i => ((i : Nat) : Int)).length = ord.length := by simp
  have last : ∀ (r i : Nat) (u : Nat → Value), i + r = ord.length → Walk Try.prog main (DR (fun _ => none)) (fun g w' => g = G (fr.finish (.bool true)) cs ∧ ∃ d, w' = w1.at d) (G (hdSo w.heap.size (w.heap.size + 1) i u) (fr :: cs)) w1 := by
    intro r
    induction r with
    | zero =>
      intro i u hi
      have hi : i = ord.length := hi
      subst hi
      exact so_out _ _ _ oa oc u fr cs w1 x1
    | succ r ih =>
      intro i u hi
      have hin : i < (ord.map fun i => ((i : Nat) : Int)).length := by omega
      have hx := List.getElem?_eq_getElem hin
      obtain ⟨ab, ao, rfl, k1⟩ := n1 i _ hx
      obtain ⟨bb, bo, rfl, k2⟩ := m1 i _ hx
      refine (so_go _ _ ord.length i ab ao oc bb bo pc _ u (fr :: cs) w1 (by omega) (by omega) x1 y1 (hcell k1) (hcell k2)).then ?_
      rintro g w' ⟨⟨u', rfl⟩, d, rfl⟩
      exact Walk.back (ih (i + 1) u' (by omega)) d
  have loop : ∀ (r i : Nat) (u : Nat → Value), i + r = n → Walk Try.prog main (DR (fun _ => none)) (fun g w' => g = G (fr.finish (.bool true)) cs ∧ ∃ d, w' = w1.at d) (G (hdSm w.heap.size (w.heap.size + 1) i u) (fr :: cs)) w1 := by
    intro r
    induction r with
    | zero =>
      intro i u hi
      obtain rfl : i = n := hi
      refine (sm_next _ _ i #[] aa ac u (fr :: cs) w1 x0).then ?_
      rintro g w' ⟨⟨u', rfl⟩, d, rfl⟩
      exact Walk.back (last ord.length 0 u' (by omega)) d
    | succ r ih =>
      intro i u hi
      obtain ⟨ab, ao, ta, tc, rfl, k1, k2⟩ := n3 i (by omega)
      obtain ⟨bb, bo, tb, td, rfl, j1, j2⟩ := m3 i (by omega)
      refine (sm_go _ _ n i ab ao ac bb bo bc ta tb (F i) tc td u (fr :: cs) w1 (by omega) (by omega) (by have := hF i (by omega); omega) x0 y0 (hcell k1) (hcell j1) (k2.chg hC) (j2.chg hC)).then ?_
      rintro g w' ⟨⟨u', rfl⟩, d, rfl⟩
      exact Walk.back (ih (i + 1) u' (by omega)) d
  refine (loop n 0 u (by omega)).mono ?_
  rintro g w' ⟨rfl, d, rfl⟩
  exact ⟨_, ⟨rfl, hC.at d⟩, rfl⟩
end
end
section
def ext (κ : Nat → Nat) (a c : Nat) : Nat → Nat := fun b => if a ≤ b then c else κ b
theorem ext_lt {κ : Nat → Nat} {a c b : Nat} (h : b < a) : ext κ a c b = κ b := if_neg (by omega)
theorem ext_ge {κ : Nat → Nat} {a c b : Nat} (h : a ≤ b) : ext κ a c b = c := if_pos h
theorem MaX.mono' {S S' : Nat → Prop} {m nb vb n cn cv : Nat} {tg : Bool} {tl : Value} {s : Sk} {w : World} (X : MaX S m nb vb n cn cv tg tl s w) (h : ∀ g, g < w.heap.size → S g → S' g) : MaX S' m nb vb n cn cv tg tl s w := by
  obtain ⟨l1, l2, l3⟩ := X.lt
  exact ⟨X.blk, X.nx, X.vl, X.hd, X.fr, X.nxb, X.tag, h _ l1 X.sm, h _ l2 X.sn, h _ l3 X.sv, X.ne⟩
theorem TuX.mono' {S S' : Nat → Prop} {B : Nat} {la : Option Addr} {lc : Nat} {sl : List Int} {most : Int} {p rd : Nat} {oa : Option Addr} {oc : Nat} {ord : List Nat} {st : Bool} {w : World} (X : TuX S B la lc sl most p rd oa oc ord st w) (h : ∀ g, g < w.heap.size → S g → S' g) : TuX S' B la lc sl most p rd oa oc ord st w :=
  ⟨X.blk, X.lst, X.row, h _ X.lt X.sb, fun g hg => ⟨h _ (X.lst.lt g hg).2 (X.sq g hg).1, (X.sq g hg).2⟩, fun g hg => ⟨h _ (X.row.lt g hg).2 (X.so g hg).1, (X.so g hg).2⟩⟩
theorem TIs.mono' {S S' : Nat → Prop} {n b : Nat} {ops : List OpV} {oa : Option Addr} {oc : Nat} {left : List OpV} {d : Option SD} {ans : List Ans} {e : Bool} {w : World} (X : TIs S n b ops oa oc left d ans e w) (h : ∀ g, g < w.heap.size → S g → S' g) : TIs S' n b ops oa oc left d ans e w := by
  obtain ⟨k, PC, N, aa, ac, X, h1, h2⟩ := X
  exact ⟨k, PC, N, aa, ac, X.mono' h, h1, h2⟩
structure RQ (N : Nat) (tg : Bool) (kb0 nb0 : Nat) (ops : Nat → List OpV) (n : Nat) (W : World) (nb vb cn cv : Nat) (ts : Nat → Nat) (oas : Nat → Option Addr) (ocs : Nat → Nat) (la : Option Addr) (lc : Nat) (κ : Nat → Nat) (k : Nat) (x : OX (skLa kb0 nb0 N tg)) (w : World) : Prop where
  size : W.heap.size + 1 ≤ w.heap.size
  old : ∀ b, b < W.heap.size → κ b = 0 ∧ w.heap[b]? = W.heap[b]?
  res : κ W.heap.size = 3 ∧ w.heap[W.heap.size]? = some zTr
  M : MaX (fun g => κ g = 1) (W.heap.size + 1) nb vb N cn cv tg (.slice la n lc) x.s w
  L : ∀ i, i < n → ∃ tl, la = some ⟨tl, 0, none⟩ ∧ κ tl = 4 ∧ w.cell? ⟨tl, i, none⟩ = some (.pointer (some ⟨ts i, 0, none⟩))
  T : ∀ i, i < n → i < k → TisR (skLa kb0 nb0 N tg) id (fun g => κ g = 5 + i) N (ts i) (ops i) (oas i) (ocs i) (x.th i) w
  Z : ∀ i, i < n → k ≤ i → ThX (fun g => κ g = 5 + i) (ts i) (ops i) (oas i) (ocs i) 0 0 (fun _ => 0) [] none 0 false w
  out : ∀ i, i < k → (x.out i).isSome = (x.th i).d.isNone
section
variable {N : Nat} {tg : Bool} {kb0 nb0 : Nat} {ops : Nat → List OpV} {n : Nat} {W : World} {nb vb cn cv : Nat} {ts : Nat → Nat} {oas : Nat → Option Addr} {ocs : Nat → Nat} {la : Option Addr} {lc : Nat} {κ : Nat → Nat} {k : Nat} {x : OX (skLa kb0 nb0 N tg)} {w w' : World}
theorem RQ.lt (H : RQ N tg kb0 nb0 ops n W nb vb cn cv ts oas ocs la lc κ k x w) {b : Nat} (h : κ b = 0 ∨ κ b = 3 ∨ κ b = 4) : True := trivial
theorem RQ.next {k' i c : Nat} {x' : OX (skLa kb0 nb0 N tg)} (H : RQ N tg kb0 nb0 ops n W nb vb cn cv ts oas ocs la lc κ k x w) (hc : c = 2 ∨ c = 5 + i) (hC : Chg (fun g => κ g = 1 ∨ κ g = c) w w')
    (hM : MaX (fun g => κ g = 1) (W.heap.size + 1) nb vb N cn cv tg (.slice la n lc) x'.s w') (hk : ∀ j, j < k' → j ≠ i → j < k) (hk2 : ∀ j, j < n → k' ≤ j → k ≤ j ∧ j ≠ i) (hth : ∀ j, j ≠ i → x'.th j = x.th j ∧ x'.out j = x.out j)
    (hT : i < n → i < k' → c = 5 + i ∧ TisR (skLa kb0 nb0 N tg) id (fun g => κ g = 5 + i ∨ w.heap.size ≤ g) N (ts i) (ops i) (oas i) (ocs i) (x'.th i) w') (ho : i < k' → (x'.out i).isSome = (x'.th i).d.isNone) (hi : i < n ∨ c = 2) :
    RQ N tg kb0 nb0 ops n W nb vb cn cv ts oas ocs la lc (ext κ w.heap.size c) k' x' w' := by
  have hs := hC.size
  have hsz := H.size
  have same : ∀ g, g < w.heap.size → κ g ≠ 1 → κ g ≠ c → w'.heap[g]? = w.heap[g]? := fun g hg h1 h2 => hC.same g hg fun e => e.elim h1 h2
  have five : ∀ j, j ≠ i → 5 + j ≠ c := fun j hj => by omega
  obtain ⟨l1, l2, l3⟩ := H.M.lt
  refine ⟨by omega, fun b hb => ?_, ⟨?_, ?_⟩, ?_, fun j hj => ?_, fun j hj hjk => ?_, fun j hj hjk => ?_, fun j hjk => ?_⟩
  · obtain ⟨h1, h2⟩ := H.old b hb
    exact ⟨(ext_lt (by omega)).trans h1, (same b (by omega) (by omega) (by omega)).trans h2⟩
  · exact (ext_lt (by omega)).trans H.res.1
  · have := H.res.1
    exact (same _ (by omega) (by omega) (by omega)).trans H.res.2
  · obtain ⟨a1, e1, e1'⟩ := H.M.nx
    exact ⟨hM.blk, hM.nx, hM.vl, hM.hd, hM.fr, hM.nxb, hM.tag, (ext_lt l1).trans H.M.sm, (ext_lt l2).trans H.M.sn, (ext_lt l3).trans H.M.sv, hM.ne⟩
  · obtain ⟨tl, e, h1, h2⟩ := H.L j hj
    have := cell_lt' h2
    exact ⟨tl, e, (ext_lt this).trans h1, (World.cell?_of_block (a := ⟨tl, j, none⟩) (same tl this (by omega) (by omega))).trans h2⟩
  · by_cases e : j = i
    · subst e
      obtain ⟨hc2, h⟩ := hT hj hjk
      subst hc2
      refine TIs.mono h fun g hg => ?_
      by_cases hg2 : w.heap.size ≤ g
      · exact ext_ge hg2
      · rw [ext_lt (by omega)]
        exact hg.resolve_right hg2
    · have hT' := H.T j hj (hk j hjk e)
      rw [(hth j e).1]
      refine TIs.same (TIs.mono' hT' (S' := fun g => ext κ w.heap.size c g = 5 + j) fun g hg h => (ext_lt hg).trans h) fun g hg h => ?_
      rw [ext_lt hg] at h
      exact same g hg (by omega) (by rw [h]; exact five j e)
  · obtain ⟨h1, h2⟩ := hk2 j hj hjk
    refine ((H.Z j hj h1).mono' (S' := fun g => ext κ w.heap.size c g = 5 + j) fun g hg h => (ext_lt hg).trans h).same fun g hg h => ?_
    rw [ext_lt hg] at h
    exact same g hg (by omega) (by rw [h]; exact five j h2)
  · by_cases e : j = i
    · subst e
      exact ho hjk
    · rw [(hth j e).1, (hth j e).2]
      exact H.out j (hk j hjk e)
theorem TuX.ext {B : Nat} {lo : Option Addr} {lco : Nat} {sl : List Int} {most : Int} {p rd : Nat} {oa : Option Addr} {oc : Nat} {ord : List Nat} {st : Bool} {c : Nat} (X : TuX (fun g => κ g = 2) B lo lco sl most p rd oa oc ord st w) (hC : Chg (fun g => κ g = 1 ∨ κ g = c) w w') (hc : c ≠ 2) : TuX (fun g => ext κ w.heap.size c g = 2) B lo lco sl most p rd oa oc ord st w' := by
  refine (X.mono' (S' := fun g => Go.Proofs.Ytdmpmoggacjgcaa.ext κ w.heap.size c g = 2) fun g hg h => (ext_lt hg).trans h).same fun g hg h => ?_
  have h : Go.Proofs.Ytdmpmoggacjgcaa.ext κ w.heap.size c g = 2 := h
  rw [ext_lt hg] at h
  exact hC.same g hg fun e => by omega
theorem RQ.init (sz : Int) {a2 : Nat} {pr : Nat → Option Nat} (hN : N = sizeN sz) (H : PlyIn sz tg ops n W a2 nb vb cn cv pr ts oas ocs la lc w) : ∃ κ, RQ N tg kb0 nb0 ops n W nb vb cn cv ts oas ocs la lc κ 0 (x0O (skLa kb0 nb0 N tg) (sk0 N)) w := by
  subst hN
  obtain ⟨h1, h2⟩ := H.lo
  refine ⟨fun b => if b < W.heap.size then 0 else if b = W.heap.size then 3 else if b < a2 then 1 else match pr b with | some i => 5 + i | none => 4, by omega, fun b hb => ⟨if_pos hb, H.old b hb⟩, ⟨?_, H.res⟩, H.M.mono fun g hg => ?_, fun i hi => ?_, fun i _ h => absurd h (Nat.not_lt_zero _), fun i hi _ => (H.th i hi).mono fun g hg => ?_, fun i h => absurd h (Nat.not_lt_zero _)⟩
  · show (if W.heap.size < W.heap.size then 0 else _) = 3
    rw [if_neg (Nat.lt_irrefl _), if_pos rfl]
  · show (if g < W.heap.size then 0 else _) = 1
    rw [if_neg (by omega), if_neg (by omega), if_pos hg.2]
  · obtain ⟨g, e, hg, _, hc⟩ := row_at H.row (ptrRow_get (ts := ts) hi)
    refine ⟨g, e, ?_, hc⟩
    show (if g < W.heap.size then 0 else _) = 4
    rw [if_neg (by omega), if_neg (by omega), if_neg (by omega), H.rowp g (by rw [e]; rfl)]
  · have := H.prl g i hg
    show (if g < W.heap.size then 0 else _) = 5 + i
    rw [if_neg (by omega), if_neg (by omega), if_neg (by omega), hg]
end
end
end Go.Proofs.Ytdmpmoggacjgcaa
