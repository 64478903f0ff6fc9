/- Part 22. -/
import Derived.Test.YtdcjgmlgmjjogaaJ3
import Derived.Test.YtdcjgmlgmjjogaaJ13
import Derived.Test.YtdcjgmlgmjjogaaJ21
set_option linter.unusedSimpArgs false
set_option linter.unusedVariables false
set_option maxHeartbeats 8000000
set_option maxRecDepth 100000
namespace Go.Proofs.Ytdcjgmlgmjjogaa
open Go.Conc Go.RowKit Go.Relay
open Go.ConcN (upd upd_ne upd_same)
noncomputable def reg16_0 := rg Try.f16.body [0]
noncomputable def reg16_1 := rg Try.f16.body [1, 0, 0]
noncomputable def reg16_2 := rg Try.f16.body [1, 0, 1, 0, 0]
noncomputable def reg16_3 := rg Try.f16.body [1, 1, 0, 0]
noncomputable def reg16_4 := rg Try.f16.body [1, 1, 0, 1, 0, 0, 0, 0]
noncomputable def reg16_6 := rg Try.f16.body [1, 1, 0, 1, 0, 0, 1, 0, 0, 0]
theorem size16_6 : reg16_6.size = 9 := by kernel_rfl
noncomputable def reg16_7 := rg Try.f16.body [1, 1, 0, 1, 0, 0, 1, 0, 0, 1, 0, 0]
noncomputable def reg16_5 := rg Try.f16.body [1, 1, 0, 1, 0, 0, 1, 1]
noncomputable def reg16_8 := rg Try.f16.body [1, 1, 1, 0]
theorem z16 : List.range reg16_0.size = [0] ∧ List.range reg16_1.size = [0, 1, 2, 3, 4] ∧ List.range reg16_2.size = [0] ∧ List.range reg16_3.size = [0] ∧ List.range reg16_4.size = [0, 1, 2, 3] ∧ List.range reg16_5.size = [0, 1, 2] ∧ List.range reg16_6.size = [0, 1, 2, 3, 4, 5, 6, 7, 8] ∧ List.range reg16_7.size = [0] ∧ List.range reg16_8.size = [0] := by refine ⟨?_, ?_, ?_, ?_, ?_, ?_, ?_, ?_, ?_⟩ <;> kernel_rfl
theorem code16_is : Try.f16.body = some (.seq (.region 0 reg16_0 false) (.seq (.seq (.region 1 reg16_1 false) (.cond (.tmp 10 ) (.seq (.region 2 reg16_2 false) (.ret)) (.skip))) (.seq (.seq (.region 3 reg16_3 false) (.block 0 (.loop (.seq (.seq (.region 4 reg16_4 false) (.cond (.tmp 14 ) (.skip) (.exit 0))) (.seq (.block 1 (.seq (.region 6 reg16_6 true) (.cond (.tmp 25 ) (.seq (.region 7 reg16_7 false) (.ret)) (.skip)))) (.region 5 reg16_5 false)))))) (.seq (.region 8 reg16_8 false) (.ret))))) := by kernel_rfl
noncomputable def hdSame (av bv : Value) (i : Nat) (u : Nat → Value) : Frame :=
  (base 16).at { tmps := #[av, bv, u 2, u 3, u 4, .int .i64 i, u 6, u 7, u 8, u 9, u 10, u 11, u 12, u 13, u 14, u 15, u 16, u 17, u 18, u 19, u 20, u 21, u 22, u 23, u 24, u 25], defers := [] } [.code (.seq (.seq (.region 4 reg16_4 false) (.cond (.tmp 14 ) (.skip) (.exit 0))) (.seq (.block 1 (.seq (.region 6 reg16_6 true) (.cond (.tmp 25 ) (.seq (.region 7 reg16_7 false) (.ret)) (.skip)))) (.region 5 reg16_5 false))), .inLoop (.seq (.seq (.region 4 reg16_4 false) (.cond (.tmp 14 ) (.skip) (.exit 0))) (.seq (.block 1 (.seq (.region 6 reg16_6 true) (.cond (.tmp 25 ) (.seq (.region 7 reg16_7 false) (.ret)) (.skip)))) (.region 5 reg16_5 false))), .inBlock 0, .code (.seq (.region 8 reg16_8 false) (.ret))]
section
section
variable {P : Program}
theorem eqInB (d : Nat) (t : TypeId) (x y : Bool) (w : World) (es : Array Event) (hu : P.underlying t = some .bool) : (Op.equalIn (d + 1) t (.bool x) (.bool y)).run P w = .ok (x == y) w ∧ (Op.equalIn (d + 1) t (.bool x) (.bool y)).events P w es = es := by
  constructor <;> simp [Op.equalIn, run_underlying hu]
theorem run_neqB (t : TypeId) (hu : P.underlying t = some .bool) (x y : Bool) (w : World) : (binOp .neq t (.bool x) (.bool y)).run P w = .ok (.bool (x != y)) w := by
  simp only [binOp]
  simp [Op.equal, Op.maxDepth, (eqInB 9999 t x y w #[] hu).1, bne]
theorem ev_neqB (t : TypeId) (hu : P.underlying t = some .bool) (x y : Bool) (w : World) (es : Array Event) : (binOp .neq t (.bool x) (.bool y)).events P w es = es := by
  simp only [binOp]
  simp [Op.equal, Op.maxDepth, (eqInB 9999 t x y w #[] hu).1, (eqInB 9999 t x y w es hu).2]
end
theorem und4B : Try.prog.underlying 4 = some .bool := by kernel_rfl
def NumA (a : Option Addr) (l : List Int) (w : World) : Prop := ∀ (i : Nat) (x : Int), l[i]? = some x → ∃ b o, a = some ⟨b, o, none⟩ ∧ w.cell? ⟨b, o + i, none⟩ = some (.int .i64 x)
def AnsA (a : Option Addr) (l : List Ans) (w : World) : Prop := ∀ (i : Nat) (x : Ans), l[i]? = some x → ∃ b o, a = some ⟨b, o, none⟩ ∧ w.cell? ⟨b, o + i * 3, none⟩ = some (.bool x.1) ∧ w.cell? ⟨b, o + i * 3 + 1, none⟩ = some (.int .i64 x.2) ∧ w.cell? ⟨b, o + i * 3 + 2, none⟩ = some (.slice none 0 0)
theorem NumA.chg {a : Option Addr} {l : List Int} {w w' : World} (h : NumA a l w) (hC : Chg (fun _ => False) w w') : NumA a l w' := fun i x hx => by
  obtain ⟨b, o, e, hc⟩ := h i x hx
  exact ⟨b, o, e, (World.cell?_of_block (a := ⟨b, o + i, none⟩) (hC.same b (cell_lt' hc) id)).trans hc⟩
theorem AnsA.chg {a : Option Addr} {l : List Ans} {w w' : World} (h : AnsA a l w) (hC : Chg (fun _ => False) w w') : AnsA a l w' := fun i x hx => by
  obtain ⟨b, o, e, h1, h2, h3⟩ := h i x hx
  exact ⟨b, o, e, (World.cell?_of_block (a := ⟨b, _, none⟩) (hC.same b (cell_lt' h1) id)).trans h1, (World.cell?_of_block (a := ⟨b, _, none⟩) (hC.same b (cell_lt' h1) id)).trans h2, (World.cell?_of_block (a := ⟨b, _, none⟩) (hC.same b (cell_lt' h1) id)).trans h3⟩
section
variable {main : Bool} {V : Nat → Option Wait}
theorem sn_in (a b : Option Addr) (n ca cb : Nat) (cs : List Frame) (w : World) :
    Walk Try.prog main (DR V) (fun g w' => (∃ u, g = G (hdSame (.slice a n ca) (.slice b n cb) 0 u) cs) ∧ ∃ d, w' = w.at d) (G (Frame.enter Try.prog 16 #[.slice a n ca, .slice b n cb] .normal) cs) w := by
  rw [enter_at _ Try.func16 code16_is]
  simp only [Try.ntmps16, ez, Nat.reduceAdd, Nat.reduceSub]
  repeat (first | refine Walk.cx ?_ | (refine Walk.cReg ?_; simp only [z16]) | (refine Walk.oq ?_; try walk_nrm) | (refine Walk.un ?_; walk_nrm))
  refine Walk.ctl rfl (fun w => stepG_loop) ?_
  refine .stop fun d => ⟨at_slots ?_, d, rfl⟩
  simp only [hdSame]
  rfl
theorem sn_out (a b : Option Addr) (n ca cb : Nat) (u : Nat → Value) (c : Frame) (cs : List Frame) (w : World) :
    Walk Try.prog main (DR V) (fun g w' => g = G (c.finish (.bool true)) cs ∧ ∃ d, w' = w.at d) (G (hdSame (.slice a n ca) (.slice b n cb) n u) (c :: cs)) w := by
  unfold hdSame
  repeat (first | refine Walk.cx ?_ | (refine Walk.cReg ?_; simp only [z16]) | (refine Walk.oq ?_; try walk_nrm) | (refine Walk.un ?_; walk_nrm))
  exact Walk.on1 rfl rfl Try.func16 rfl (.stop fun d => ⟨rfl, d, rfl⟩)
theorem sn_go (ab ao n ca bb bo cb i : Nat) (x : Int) (u : Nat → Value) (cs : List Frame) (w : World) (hi : i < n) (hn : n ≤ 17592186044416) (ha : w.cell? ⟨ab, ao + i, none⟩ = some (.int .i64 x)) (hb : w.cell? ⟨bb, bo + i, none⟩ = some (.int .i64 x)) :
    Walk Try.prog main (DR V) (fun g w' => (∃ u', g = G (hdSame (.slice (some ⟨ab, ao, none⟩) n ca) (.slice (some ⟨bb, bo, none⟩) n cb) (i + 1) u') cs) ∧ ∃ d, w' = w.at d) (G (hdSame (.slice (some ⟨ab, ao, none⟩) n ca) (.slice (some ⟨bb, bo, none⟩) n cb) i u) cs) w := by
  have hw1 : IntKind.wrap .i64 ((i : Int) + 1) = (i : Int) + 1 := by rw [IntKind.wrap_i64]; omega
  conv => arg 5; unfold hdSame
  repeat (first | refine Walk.cx ?_ | (refine Walk.cReg ?_; simp only [z16]) | (refine Walk.oq ?_; try walk_nrm) | (refine Walk.un ?_; walk_nrm))
  (refine Walk.drawnC (by kernel_rfl) size16_6 (by kernel_rfl) (by kernel_rfl) (by decide) ?_; simp only [List.range, List.range.loop]; repeat (first | (refine Cm.oq ?_) | (refine Cm.unw (ho_of (by conv => lhs; whnf) (by kernel_rfl)) (by rfl) ?_; walk_nrm)))
  refine Cm.done ?_
  repeat (first | refine Walk.cx ?_ | (refine Walk.cReg ?_; simp only [z16]) | (refine Walk.oq ?_; try walk_nrm) | (refine Walk.un ?_; walk_nrm))
  refine Walk.ctl rfl (fun w => stepG_inLoop) ?_
  refine .stop fun d' => ⟨at_slots ?_, d', rfl⟩
  have hc : ((i + 1 : Nat) : Int) = (i : Int) + 1 := by simp
  simp only [hdSame, hc]
  rfl
theorem sn_loop (a b : Option Addr) (l : List Int) (ca cb : Nat) (hn : l.length ≤ 17592186044416) (c : Frame) (cs : List Frame) (w : World) (ha : NumA a l w) (hb : NumA b l w) : ∀ (r i : Nat) (u : Nat → Value), i + r = l.length →
    Walk Try.prog main (DR V) (fun g w' => g = G (c.finish (.bool true)) cs ∧ ∃ d, w' = w.at d) (G (hdSame (.slice a l.length ca) (.slice b l.length cb) i u) (c :: cs)) w := by
  intro r
  induction r with
  | zero =>
    intro i u hi
    have hi : i = l.length := hi
    subst hi
    exact sn_out a b l.length ca cb u c cs w
  | succ r ih =>
    intro i u hi
    have hin : i < l.length := by omega
    have hx := List.getElem?_eq_getElem hin
    obtain ⟨ab, ao, rfl, h1⟩ := ha i _ hx
    obtain ⟨bb, bo, rfl, h2⟩ := hb i _ hx
    refine (sn_go ab ao l.length ca bb bo cb i _ u (c :: cs) w hin hn h1 h2).then ?_
    rintro g w' ⟨⟨u', rfl⟩, d, rfl⟩
    exact Walk.back (ih (i + 1) u' (by omega)) d
theorem sn_w (a b : Option Addr) (l : List Int) (ca cb : Nat) (hn : l.length ≤ 17592186044416) (w : World) (ha : NumA a l w) (hb : NumA b l w) : CallV Try.prog main V 16 #[.slice a l.length ca, .slice b l.length cb] w (.bool true) w := by
  intro fr cs
  refine (sn_in a b l.length ca cb (fr :: cs) w).then ?_
  rintro g w1 ⟨⟨u, rfl⟩, d, rfl⟩
  refine Walk.back ?_ d
  refine (sn_loop a b l ca cb hn fr cs w ha hb l.length 0 u (by omega)).mono ?_
  rintro g w' ⟨rfl, d, rfl⟩
  exact ⟨_, ⟨rfl, d, rfl⟩, rfl⟩
noncomputable def reg27_0 := rg Try.f27.body [0]
noncomputable def reg27_1 := rg Try.f27.body [1, 0, 0]
noncomputable def reg27_2 := rg Try.f27.body [1, 0, 1, 0, 0]
noncomputable def reg27_3 := rg Try.f27.body [1, 1, 0, 0]
noncomputable def reg27_4 := rg Try.f27.body [1, 1, 0, 1, 0, 0, 0, 0]
noncomputable def reg27_6 := rg Try.f27.body [1, 1, 0, 1, 0, 0, 1, 0, 0, 0]
theorem size27_6 : reg27_6.size = 38 := by kernel_rfl
noncomputable def reg27_7 := rg Try.f27.body [1, 1, 0, 1, 0, 0, 1, 0, 0, 1, 0, 0]
noncomputable def reg27_5 := rg Try.f27.body [1, 1, 0, 1, 0, 0, 1, 1]
noncomputable def reg27_8 := rg Try.f27.body [1, 1, 1, 0]
theorem z27 : List.range reg27_0.size = [0] ∧ List.range reg27_1.size = [0, 1, 2, 3, 4] ∧ List.range reg27_2.size = [0] ∧ List.range reg27_3.size = [0] ∧ List.range reg27_4.size = [0, 1, 2, 3] ∧ List.range reg27_5.size = [0, 1, 2] ∧ List.range reg27_6.size = [0, 1, 2, 3, 4, 5, 6, 7, 8, 9, 10, 11, 12, 13, 14, 15, 16, 17, 18, 19, 20, 21, 22, 23, 24, 25, 26, 27, 28, 29, 30, 31, 32, 33, 34, 35, 36, 37] ∧ List.range reg27_7.size = [0] ∧ List.range reg27_8.size = [0] := by refine ⟨?_, ?_, ?_, ?_, ?_, ?_, ?_, ?_, ?_⟩ <;> kernel_rfl
theorem code27_is : Try.f27.body = some (.seq (.region 0 reg27_0 false) (.seq (.seq (.region 1 reg27_1 false) (.cond (.tmp 10 ) (.seq (.region 2 reg27_2 false) (.ret)) (.skip))) (.seq (.seq (.region 3 reg27_3 false) (.block 0 (.loop (.seq (.seq (.region 4 reg27_4 false) (.cond (.tmp 14 ) (.skip) (.exit 0))) (.seq (.block 1 (.seq (.region 6 reg27_6 true) (.cond (.tmp 54 ) (.seq (.region 7 reg27_7 false) (.ret)) (.skip)))) (.region 5 reg27_5 false)))))) (.seq (.region 8 reg27_8 false) (.ret))))) := by kernel_rfl
noncomputable def hdSA (a b : Value) (i : Nat) (u : Nat → Value) : Frame :=
  (base 27).at { tmps := #[a, b, u 2, u 3, u 4, .int .i64 i, u 6, u 7, u 8, u 9, u 10, u 11, u 12, u 13, u 14, u 15, u 16, u 17, u 18, u 19, u 20, u 21, u 22, u 23, u 24, u 25, u 26, u 27, u 28, u 29, u 30, u 31, u 32, u 33, u 34, u 35, u 36, u 37, u 38, u 39, u 40, u 41, u 42, u 43, u 44, u 45, u 46, u 47, u 48, u 49, u 50, u 51, u 52, u 53, u 54], defers := [] } [.code (.seq (.seq (.region 4 reg27_4 false) (.cond (.tmp 14 ) (.skip) (.exit 0))) (.seq (.block 1 (.seq (.region 6 reg27_6 true) (.cond (.tmp 54 ) (.seq (.region 7 reg27_7 false) (.ret)) (.skip)))) (.region 5 reg27_5 false))), .inLoop (.seq (.seq (.region 4 reg27_4 false) (.cond (.tmp 14 ) (.skip) (.exit 0))) (.seq (.block 1 (.seq (.region 6 reg27_6 true) (.cond (.tmp 54 ) (.seq (.region 7 reg27_7 false) (.ret)) (.skip)))) (.region 5 reg27_5 false))), .inBlock 0, .code (.seq (.region 8 reg27_8 false) (.ret))]
theorem sa_in (a b : Option Addr) (n ca cb : Nat) (cs : List Frame) (w : World) :
    Walk Try.prog main (DR V) (fun g w' => (∃ u, g = G (hdSA (.slice a n ca) (.slice b n cb) 0 u) cs) ∧ ∃ d, w' = w.at d) (G (Frame.enter Try.prog 27 #[.slice a n ca, .slice b n cb] .normal) cs) w := by
  rw [enter_at _ Try.func27 code27_is]
  simp only [Try.ntmps27, ez, Nat.reduceAdd, Nat.reduceSub]
  repeat (first | refine Walk.cx ?_ | (refine Walk.cReg ?_; simp only [z27]) | (refine Walk.oq ?_; try walk_nrm) | (refine Walk.un ?_; walk_nrm))
  refine Walk.ctl rfl (fun w => stepG_loop) ?_
  refine .stop fun d => ⟨at_slots ?_, d, rfl⟩
  simp only [hdSA]
  rfl
theorem sa_out (a b : Option Addr) (n ca cb : Nat) (u : Nat → Value) (c : Frame) (cs : List Frame) (w : World) :
    Walk Try.prog main (DR V) (fun g w' => g = G (c.finish (.bool true)) cs ∧ ∃ d, w' = w.at d) (G (hdSA (.slice a n ca) (.slice b n cb) n u) (c :: cs)) w := by
  unfold hdSA
  repeat (first | refine Walk.cx ?_ | (refine Walk.cReg ?_; simp only [z27]) | (refine Walk.oq ?_; try walk_nrm) | (refine Walk.un ?_; walk_nrm))
  exact Walk.on1 rfl rfl Try.func27 rfl (.stop fun d => ⟨rfl, d, rfl⟩)
theorem sa_go (ab ao n ca bb bo cb i : Nat) (y : Bool) (x : Int) (u : Nat → Value) (cs : List Frame) (w : World) (hi : i < n) (hn : n ≤ 17592186044416) (a0 : w.cell? ⟨ab, ao + i * 3, none⟩ = some (.bool y)) (a1 : w.cell? ⟨ab, ao + i * 3 + 1, none⟩ = some (.int .i64 x)) (a2 : w.cell? ⟨ab, ao + i * 3 + 2, none⟩ = some (.slice none 0 0)) (b0 : w.cell? ⟨bb, bo + i * 3, none⟩ = some (.bool y)) (b1 : w.cell? ⟨bb, bo + i * 3 + 1, none⟩ = some (.int .i64 x)) (b2 : w.cell? ⟨bb, bo + i * 3 + 2, none⟩ = some (.slice none 0 0)) :
    Walk Try.prog main (DR V) (fun g w' => (∃ u', g = G (hdSA (.slice (some ⟨ab, ao, none⟩) n ca) (.slice (some ⟨bb, bo, none⟩) n cb) (i + 1) u') cs) ∧ ∃ d, w' = w.at d) (G (hdSA (.slice (some ⟨ab, ao, none⟩) n ca) (.slice (some ⟨bb, bo, none⟩) n cb) i u) cs) w := by
  have hw1 : IntKind.wrap .i64 ((i : Int) + 1) = (i : Int) + 1 := by rw [IntKind.wrap_i64]; omega
  have qb := run_neqB (P := Try.prog) 4 und4B y y
  have qe := ev_neqB (P := Try.prog) 4 und4B y y
  have qy : (y != y) = false := by cases y <;> rfl
  rw [qy] at qb
  conv => arg 5; unfold hdSA
  repeat (first | refine Walk.cx ?_ | (refine Walk.cReg ?_; simp only [z27]) | (refine Walk.oq ?_; try walk_nrm) | (refine Walk.un ?_; walk_nrm))
  (refine Walk.drawnC (by kernel_rfl) size27_6 (by kernel_rfl) (by kernel_rfl) (by decide) ?_; simp only [List.range, List.range.loop]; repeat (first | (refine Cm.oq ?_) | (refine Cm.unw (ho_of (by conv => lhs; whnf) (by kernel_rfl)) (by rfl) ?_; walk_nrm)))
  refine Cm.callV (x := .bool true) ?_ (ho_of (by conv => lhs; whnf) (by kernel_rfl)) (by rfl) rfl Try.func16 (by kernel_rfl) (by rfl) ?_
  · intro w' e
    subst e
    walk_nrm
    exact sn_w none none [] 0 0 (by decide) w' (fun _ _ h => by simp at h) (fun _ _ h => by simp at h)
  walk_nrm
  repeat (first | (refine Cm.oq ?_) | (refine Cm.unw (ho_of (by conv => lhs; whnf) (by kernel_rfl)) (by rfl) ?_; walk_nrm))
  refine Cm.done ?_
  repeat (first | refine Walk.cx ?_ | (refine Walk.cReg ?_; simp only [z27]) | (refine Walk.oq ?_; try walk_nrm) | (refine Walk.un ?_; walk_nrm))
  refine Walk.ctl rfl (fun w => stepG_inLoop) ?_
  refine .stop fun d' => ⟨at_slots ?_, d', rfl⟩
  have hc : ((i + 1 : Nat) : Int) = (i : Int) + 1 := by simp
  simp only [hdSA, hc]
  rfl
theorem sa_loop (a b : Option Addr) (l : List Ans) (ca cb : Nat) (hn : l.length ≤ 17592186044416) (c : Frame) (cs : List Frame) (w : World) (ha : AnsA a l w) (hb : AnsA b l w) : ∀ (r i : Nat) (u : Nat → Value), i + r = l.length →
    Walk Try.prog main (DR V) (fun g w' => g = G (c.finish (.bool true)) cs ∧ ∃ d, w' = w.at d) (G (hdSA (.slice a l.length ca) (.slice b l.length cb) i u) (c :: cs)) w := by
  intro r
  induction r with
  | zero =>
    intro i u hi
    have hi : i = l.length := hi
    subst hi
    exact sa_out a b l.length ca cb u c cs w
  | succ r ih =>
    intro i u hi
    have hin : i < l.length := by omega
    have hx := List.getElem?_eq_getElem hin
    generalize l[i] = x at hx
    obtain ⟨ab, ao, rfl, h1, h2, h3⟩ := ha i _ hx
    obtain ⟨bb, bo, rfl, k1, k2, k3⟩ := hb i _ hx
    refine (sa_go ab ao l.length ca bb bo cb i x.1 x.2 u (c :: cs) w hin hn h1 h2 h3 k1 k2 k3).then ?_
    rintro g w' ⟨⟨u', rfl⟩, d, rfl⟩
    exact Walk.back (ih (i + 1) u' (by omega)) d
theorem sa_w (a b : Option Addr) (l : List Ans) (ca cb : Nat) (hn : l.length ≤ 17592186044416) (w : World) (ha : AnsA a l w) (hb : AnsA b l w) : CallV Try.prog main V 27 #[.slice a l.length ca, .slice b l.length cb] w (.bool true) w := by
  intro fr cs
  refine (sa_in a b l.length ca cb (fr :: cs) w).then ?_
  rintro g w1 ⟨⟨u, rfl⟩, d, rfl⟩
  refine Walk.back ?_ d
  refine (sa_loop a b l ca cb hn fr cs w ha hb l.length 0 u (by omega)).mono ?_
  rintro g w' ⟨rfl, d, rfl⟩
  exact ⟨_, ⟨rfl, d, rfl⟩, rfl⟩
end
structure TrA (cells : Array Value) (n : Nat) (F : Nat → List Ans) (ord : List Nat) (sts : List Int) (k : Bool) (w : World) : Prop where
  all : ∃ aa ac oa oc sa sc, cells = trC (.slice aa n ac) (.slice oa ord.length oc) (.slice sa sts.length sc) k ∧ NumA oa (ord.map fun i => ((i : Nat) : Int)) w ∧ NumA sa sts w ∧ ∀ i, i < n → ∃ b o ta tc, aa = some ⟨b, o, none⟩ ∧ w.cell? ⟨b, o + i, none⟩ = some (.slice ta (F i).length tc) ∧ AnsA ta (F i) w
theorem TrA.chg {cells : Array Value} {n : Nat} {F : Nat → List Ans} {ord : List Nat} {sts : List Int} {k : Bool} {w w' : World} (h : TrA cells n F ord sts k w) (hC : Chg (fun _ => False) w w') : TrA cells n F ord sts k w' := by
  obtain ⟨aa, ac, oa, oc, sa, sc, e, h1, h2, h3⟩ := h.all
  refine ⟨aa, ac, oa, oc, sa, sc, e, h1.chg hC, h2.chg hC, fun i hi => ?_⟩
  obtain ⟨b, o, ta, tc, e, k1, k2⟩ := h3 i hi
  exact ⟨b, o, ta, tc, e, (World.cell?_of_block (a := ⟨b, o + i, none⟩) (hC.same b (cell_lt' k1) id)).trans k1, k2.chg hC⟩
section
variable {main : Bool}
noncomputable def reg10_0 := rg Try.f10.body [0]
noncomputable def reg10_1 := rg Try.f10.body [1, 0, 0]
noncomputable def reg10_2 := rg Try.f10.body [1, 0, 1, 0, 0]
noncomputable def reg10_3 := rg Try.f10.body [1, 1, 0, 0]
noncomputable def reg10_4 := rg Try.f10.body [1, 1, 0, 1, 0, 0, 0, 0]
noncomputable def reg10_6 := rg Try.f10.body [1, 1, 0, 1, 0, 0, 1, 0, 0, 0]
theorem size10_6 : reg10_6.size = 12 := by kernel_rfl
noncomputable def reg10_7 := rg Try.f10.body [1, 1, 0, 1, 0, 0, 1, 0, 0, 1, 0, 0]
noncomputable def reg10_5 := rg Try.f10.body [1, 1, 0, 1, 0, 0, 1, 1]
noncomputable def reg10_8 := rg Try.f10.body [1, 1, 1, 0, 0]
noncomputable def reg10_9 := rg Try.f10.body [1, 1, 1, 0, 1, 0, 0, 0, 0]
noncomputable def reg10_11 := rg Try.f10.body [1, 1, 1, 0, 1, 0, 0, 1, 0, 0, 0]
theorem size10_11 : reg10_11.size = 11 := by kernel_rfl
noncomputable def reg10_12 := rg Try.f10.body [1, 1, 1, 0, 1, 0, 0, 1, 0, 0, 1, 0, 0]
noncomputable def reg10_10 := rg Try.f10.body [1, 1, 1, 0, 1, 0, 0, 1, 1]
noncomputable def reg10_13 := rg Try.f10.body [1, 1, 1, 1, 0]
theorem z10 : List.range reg10_0.size = [0, 1, 2] ∧ List.range reg10_1.size = [0, 1, 2, 3, 4, 5, 6, 7, 8, 9, 10, 11, 12, 13, 14, 15, 16, 17, 18, 19, 20, 21, 22, 23, 24, 25, 26, 27, 28, 29, 30] ∧ List.range reg10_2.size = [0] ∧ List.range reg10_3.size = [0] ∧ List.range reg10_4.size = [0, 1, 2, 3, 4] ∧ List.range reg10_5.size = [0, 1, 2] ∧ List.range reg10_6.size = [0, 1, 2, 3, 4, 5, 6, 7, 8, 9, 10, 11] ∧ List.range reg10_7.size = [0] ∧ List.range reg10_8.size = [0] ∧ List.range reg10_9.size = [0, 1, 2, 3, 4] ∧ List.range reg10_10.size = [0, 1, 2] ∧ List.range reg10_11.size = [0, 1, 2, 3, 4, 5, 6, 7, 8, 9, 10] ∧ List.range reg10_12.size = [0] ∧ List.range reg10_13.size = [0] := by refine ⟨?_, ?_, ?_, ?_, ?_, ?_, ?_, ?_, ?_, ?_, ?_, ?_, ?_, ?_⟩ <;> kernel_rfl
theorem code10_is : Try.f10.body = some (.seq (.region 0 reg10_0 false) (.seq (.seq (.region 1 reg10_1 false) (.cond (.tmp 37 ) (.seq (.region 2 reg10_2 false) (.ret)) (.skip))) (.seq (.seq (.region 3 reg10_3 false) (.block 0 (.loop (.seq (.seq (.region 4 reg10_4 false) (.cond (.tmp 42 ) (.skip) (.exit 0))) (.seq (.block 1 (.seq (.region 6 reg10_6 true) (.cond (.tmp 56 ) (.seq (.region 7 reg10_7 false) (.ret)) (.skip)))) (.region 5 reg10_5 false)))))) (.seq (.seq (.region 8 reg10_8 false) (.block 2 (.loop (.seq (.seq (.region 9 reg10_9 false) (.cond (.tmp 61 ) (.skip) (.exit 2))) (.seq (.block 3 (.seq (.region 11 reg10_11 true) (.cond (.tmp 74 ) (.seq (.region 12 reg10_12 false) (.ret)) (.skip)))) (.region 10 reg10_10 false)))))) (.seq (.region 13 reg10_13 false) (.ret)))))) := by kernel_rfl
noncomputable def hdSm (X Y i : Nat) (u : Nat → Value) : Frame :=
  (base 10).at { tmps := #[u 0, u 1, .pointer (some ⟨X, 0, none⟩), .pointer (some ⟨Y, 0, none⟩), u 4, .int .i64 i, u 6, u 7, u 8, u 9, u 10, u 11, u 12, u 13, u 14, u 15, u 16, u 17, u 18, u 19, u 20, u 21, u 22, u 23, u 24, u 25, u 26, u 27, u 28, u 29, u 30, u 31, u 32, u 33, u 34, u 35, u 36, u 37, u 38, u 39, u 40, u 41, u 42, u 43, u 44, u 45, u 46, u 47, u 48, u 49, u 50, u 51, u 52, u 53, u 54, u 55, u 56, u 57, u 58, u 59, u 60, u 61, u 62, u 63, u 64, u 65, u 66, u 67, u 68, u 69, u 70, u 71, u 72, u 73, u 74], defers := [] } [.code (.seq (.seq (.region 4 reg10_4 false) (.cond (.tmp 42 ) (.skip) (.exit 0))) (.seq (.block 1 (.seq (.region 6 reg10_6 true) (.cond (.tmp 56 ) (.seq (.region 7 reg10_7 false) (.ret)) (.skip)))) (.region 5 reg10_5 false))), .inLoop (.seq (.seq (.region 4 reg10_4 false) (.cond (.tmp 42 ) (.skip) (.exit 0))) (.seq (.block 1 (.seq (.region 6 reg10_6 true) (.cond (.tmp 56 ) (.seq (.region 7 reg10_7 false) (.ret)) (.skip)))) (.region 5 reg10_5 false))), .inBlock 0, .code (.seq (.seq (.region 8 reg10_8 false) (.block 2 (.loop (.seq (.seq (.region 9 reg10_9 false) (.cond (.tmp 61 ) (.skip) (.exit 2))) (.seq (.block 3 (.seq (.region 11 reg10_11 true) (.cond (.tmp 74 ) (.seq (.region 12 reg10_12 false) (.ret)) (.skip)))) (.region 10 reg10_10 false)))))) (.seq (.region 13 reg10_13 false) (.ret)))]
noncomputable def hdSo (X Y i : Nat) (u : Nat → Value) : Frame :=
  (base 10).at { tmps := #[u 0, u 1, .pointer (some ⟨X, 0, none⟩), .pointer (some ⟨Y, 0, none⟩), u 4, u 5, .int .i64 i, u 7, u 8, u 9, u 10, u 11, u 12, u 13, u 14, u 15, u 16, u 17, u 18, u 19, u 20, u 21, u 22, u 23, u 24, u 25, u 26, u 27, u 28, u 29, u 30, u 31, u 32, u 33, u 34, u 35, u 36, u 37, u 38, u 39, u 40, u 41, u 42, u 43, u 44, u 45, u 46, u 47, u 48, u 49, u 50, u 51, u 52, u 53, u 54, u 55, u 56, u 57, u 58, u 59, u 60, u 61, u 62, u 63, u 64, u 65, u 66, u 67, u 68, u 69, u 70, u 71, u 72, u 73, u 74], defers := [] } [.code (.seq (.seq (.region 9 reg10_9 false) (.cond (.tmp 61 ) (.skip) (.exit 2))) (.seq (.block 3 (.seq (.region 11 reg10_11 true) (.cond (.tmp 74 ) (.seq (.region 12 reg10_12 false) (.ret)) (.skip)))) (.region 10 reg10_10 false))), .inLoop (.seq (.seq (.region 9 reg10_9 false) (.cond (.tmp 61 ) (.skip) (.exit 2))) (.seq (.block 3 (.seq (.region 11 reg10_11 true) (.cond (.tmp 74 ) (.seq (.region 12 reg10_12 false) (.ret)) (.skip)))) (.region 10 reg10_10 false))), .inBlock 2, .code (.seq (.region 13 reg10_13 false) (.ret))]
theorem sm_in (aa : Option Addr) (n ac : Nat) (oa : Option Addr) (on oc : Nat) (sa : Option Addr) (sts : List Int) (sc : Nat) (k : Bool) (ba : Option Addr) (bc : Nat) (pa : Option Addr) (pc : Nat) (ra : Option Addr) (rc : Nat) (cs : List Frame) (w : World) (hsn : sts.length ≤ 17592186044416) (s1 : NumA sa sts w) (s2 : NumA ra sts w) :
    Walk Try.prog main (DR (fun _ => none)) (fun g w' => (∃ u, g = G (hdSm w.heap.size (w.heap.size + 1) 0 u) cs) ∧ Chg (fun _ => False) w w' ∧ w'.heap[w.heap.size]? = some (.cells (trC (.slice aa n ac) (.slice oa on oc) (.slice sa sts.length sc) k) 29) ∧ w'.heap[w.heap.size + 1]? = some (.cells (trC (.slice ba n bc) (.slice pa on pc) (.slice ra sts.length rc) k) 29))
      (G (Frame.enter Try.prog 10 #[.agg (trC (.slice aa n ac) (.slice oa on oc) (.slice sa sts.length sc) k), .agg (trC (.slice ba n bc) (.slice pa on pc) (.slice ra sts.length rc) k)] .normal) cs) w := by
  have qb := run_neqB (P := Try.prog) 4 und4B k k
  have qe := ev_neqB (P := Try.prog) 4 und4B k k
  have qk : (k != k) = false := by cases k <;> rfl
  rw [qk] at qb
  rw [enter_at _ Try.func10 code10_is]
  simp only [Try.ntmps10, ez, Nat.reduceAdd, Nat.reduceSub]
  repeat (first | refine Walk.cx ?_ | (refine Walk.cReg ?_; simp only [z10]) | (refine Walk.oq ?_; try walk_nrm) | (refine Walk.un ?_; walk_nrm))
  (refine Walk.oa ?_; try walk_nrm)
  have hO : Chg (fun _ => False) w (w.alloc (.cells (trC (.slice aa n ac) (.slice oa on oc) (.slice sa sts.length sc) k) 29)) := Chg.alloc
  have hX := heap_alloc_new w (.cells (trC (.slice aa n ac) (.slice oa on oc) (.slice sa sts.length sc) k) 29)
  have hsz : (w.alloc (.cells (trC (.slice aa n ac) (.slice oa on oc) (.slice sa sts.length sc) k) 29)).heap.size = w.heap.size + 1 := by simp
  generalize w.alloc (.cells (trC (.slice aa n ac) (.slice oa on oc) (.slice sa sts.length sc) k) 29) = w1 at *
  repeat (first | (refine Walk.oq ?_; try walk_nrm) | (refine Walk.un ?_; walk_nrm))
  (refine Walk.oa ?_; try walk_nrm)
  have hO2 : Chg (fun _ => False) w (w1.alloc (.cells (trC (.slice ba n bc) (.slice pa on pc) (.slice ra sts.length rc) k) 29)) := hO.trans (S' := fun _ => False) Chg.alloc fun _ _ h => h
  have hY := heap_alloc_new w1 (.cells (trC (.slice ba n bc) (.slice pa on pc) (.slice ra sts.length rc) k) 29)
  have hX2 := (heap_new_lt w1 (.cells (trC (.slice ba n bc) (.slice pa on pc) (.slice ra sts.length rc) k) 29) (by rw [hsz]; exact Nat.lt_succ_self _)).trans hX
  rw [hsz] at hY
  clear hX hO hsz
  generalize w1.alloc (.cells (trC (.slice ba n bc) (.slice pa on pc) (.slice ra sts.length rc) k) 29) = w2 at *
  have h18 := sn_w (main := main) (V := fun _ => none) sa ra sts sc rc hsn w2 (s1.chg hO2) (s2.chg hO2)
  generalize w.heap.size = X at *
  have x0 : w2.cell? ⟨X, 0, none⟩ = some (.slice aa n ac) := (cell_of hX2 0).trans rfl
  have x1 : w2.cell? ⟨X, 1, none⟩ = some (.slice oa on oc) := (cell_of hX2 1).trans rfl
  have x2 : w2.cell? ⟨X, 2, none⟩ = some (.slice sa sts.length sc) := (cell_of hX2 2).trans rfl
  have x3 : w2.cell? ⟨X, 3, none⟩ = some (.bool k) := (cell_of hX2 3).trans rfl
  have y0 : w2.cell? ⟨X + 1, 0, none⟩ = some (.slice ba n bc) := (cell_of hY 0).trans rfl
  have y1 : w2.cell? ⟨X + 1, 1, none⟩ = some (.slice pa on pc) := (cell_of hY 1).trans rfl
  have y2 : w2.cell? ⟨X + 1, 2, none⟩ = some (.slice ra sts.length rc) := (cell_of hY 2).trans rfl
  have y3 : w2.cell? ⟨X + 1, 3, none⟩ = some (.bool k) := (cell_of hY 3).trans rfl
  clear s1 s2
  repeat (first | refine Walk.cx ?_ | (refine Walk.cReg ?_; simp only [z10]) | (refine Walk.oq ?_; try walk_nrm) | (refine Walk.un ?_; walk_nrm))
  refine Walk.callV (x := .bool true) (W := w2) ?_ (ho_of (by conv => lhs; whnf) (by kernel_rfl)) (by rfl) (by decide) rfl Try.func16 (by kernel_rfl) (by rfl) ?_
  · walk_nrm
    exact h18
  walk_nrm
  repeat (first | refine Walk.cx ?_ | (refine Walk.cReg ?_; simp only [z10]) | (refine Walk.oq ?_; try walk_nrm) | (refine Walk.un ?_; walk_nrm))
  refine Walk.ctl rfl (fun w => stepG_loop) ?_
  refine .stop fun d => ⟨at_slots ?_, hO2.at d, hX2, hY⟩
  simp only [hdSm]
  rfl
theorem sm_go (X Y n i ab ao ac bb bo bc : Nat) (ta tb : Option Addr) (l : List Ans) (tc td : Nat) (u : Nat → Value) (cs : List Frame) (w : World) (hi : i < n) (hn : n ≤ 17592186044416) (htl : l.length ≤ 17592186044416) (x0 : w.cell? ⟨X, 0, none⟩ = some (.slice (some ⟨ab, ao, none⟩) n ac)) (y0 : w.cell? ⟨Y, 0, none⟩ = some (.slice (some ⟨bb, bo, none⟩) n bc))
    (ha : w.cell? ⟨ab, ao + i, none⟩ = some (.slice ta l.length tc)) (hb : w.cell? ⟨bb, bo + i, none⟩ = some (.slice tb l.length td)) (h1 : AnsA ta l w) (h2 : AnsA tb l w) :
    Walk Try.prog main (DR (fun _ => none)) (fun g w' => (∃ u', g = G (hdSm X Y (i + 1) u') cs) ∧ ∃ d, w' = w.at d) (G (hdSm X Y i u) cs) w := by
  have hw1 : IntKind.wrap .i64 ((i : Int) + 1) = (i : Int) + 1 := by rw [IntKind.wrap_i64]; omega
  have hq := sa_w (main := main) (V := fun _ => none) ta tb l tc td htl w h1 h2
  clear h1 h2
  conv => arg 5; unfold hdSm
  repeat (first | refine Walk.cx ?_ | (refine Walk.cReg ?_; simp only [z10]) | (refine Walk.oq ?_; try walk_nrm) | (refine Walk.un ?_; walk_nrm))
  (refine Walk.drawnC (by kernel_rfl) size10_6 (by kernel_rfl) (by kernel_rfl) (by decide) ?_; simp only [List.range, List.range.loop]; repeat (first | (refine Cm.oq ?_) | (refine Cm.unw (ho_of (by conv => lhs; whnf) (by kernel_rfl)) (by rfl) ?_; walk_nrm)))
  refine Cm.callV (x := .bool true) ?_ (ho_of (by conv => lhs; whnf) (by kernel_rfl)) (by rfl) rfl Try.func27 (by kernel_rfl) (by rfl) ?_
  · intro w' e
    subst e
    walk_nrm
    exact hq
  walk_nrm
  repeat (first | (refine Cm.oq ?_) | (refine Cm.unw (ho_of (by conv => lhs; whnf) (by kernel_rfl)) (by rfl) ?_; walk_nrm))
  refine Cm.done ?_
  repeat (first | refine Walk.cx ?_ | (refine Walk.cReg ?_; simp only [z10]) | (refine Walk.oq ?_; try walk_nrm) | (refine Walk.un ?_; walk_nrm))
  refine Walk.ctl rfl (fun w => stepG_inLoop) ?_
  refine .stop fun d' => ⟨at_slots ?_, d', rfl⟩
  have hc : ((i + 1 : Nat) : Int) = (i : Int) + 1 := by simp
  simp only [hdSm, hc]
  rfl
theorem sm_next (X Y n : Nat) (va : Array Value) (aa : Option Addr) (ac : Nat) (u : Nat → Value) (cs : List Frame) (w : World) (x0 : w.cell? ⟨X, 0, none⟩ = some (.slice aa n ac)) :
    Walk Try.prog main (DR (fun _ => none)) (fun g w' => (∃ u', g = G (hdSo X Y 0 u') cs) ∧ ∃ d, w' = w.at d) (G (hdSm X Y n u) cs) w := by
  conv => arg 5; unfold hdSm
  repeat (first | refine Walk.cx ?_ | (refine Walk.cReg ?_; simp only [z10]) | (refine Walk.oq ?_; try walk_nrm) | (refine Walk.un ?_; walk_nrm))
  refine Walk.ctl rfl (fun w => stepG_loop) ?_
  refine .stop fun d' => ⟨at_slots ?_, d', rfl⟩
  simp only [hdSo]
  rfl
theorem so_go (X Y n i ab ao ac bb bo bc : Nat) (x : Int) (u : Nat → Value) (cs : List Frame) (w : World) (hi : i < n) (hn : n ≤ 17592186044416) (x0 : w.cell? ⟨X, 1, none⟩ = some (.slice (some ⟨ab, ao, none⟩) n ac)) (y0 : w.cell? ⟨Y, 1, none⟩ = some (.slice (some ⟨bb, bo, none⟩) n bc))
    (ha : w.cell? ⟨ab, ao + i, none⟩ = some (.int .i64 x)) (hb : w.cell? ⟨bb, bo + i, none⟩ = some (.int .i64 x)) :
    Walk Try.prog main (DR (fun _ => none)) (fun g w' => (∃ u', g = G (hdSo X Y (i + 1) u') cs) ∧ ∃ d, w' = w.at d) (G (hdSo X Y i u) cs) w := by
  have hw1 : IntKind.wrap .i64 ((i : Int) + 1) = (i : Int) + 1 := by rw [IntKind.wrap_i64]; omega
  conv => arg 5; unfold hdSo
  repeat (first | refine Walk.cx ?_ | (refine Walk.cReg ?_; simp only [z10]) | (refine Walk.oq ?_; try walk_nrm) | (refine Walk.un ?_; walk_nrm))
  (refine Walk.drawnC (by kernel_rfl) size10_11 (by kernel_rfl) (by kernel_rfl) (by decide) ?_; simp only [List.range, List.range.loop]; repeat (first | (refine Cm.oq ?_) | (refine Cm.unw (ho_of (by conv => lhs; whnf) (by kernel_rfl)) (by rfl) ?_; walk_nrm)))
  refine Cm.done ?_
  repeat (first | refine Walk.cx ?_ | (refine Walk.cReg ?_; simp only [z10]) | (refine Walk.oq ?_; try walk_nrm) | (refine Walk.un ?_; walk_nrm))
  refine Walk.ctl rfl (fun w => stepG_inLoop) ?_
  refine .stop fun d' => ⟨at_slots ?_, d', rfl⟩
  have hc : ((i + 1 : Nat) : Int) = (i : Int) + 1 := by simp
  simp only [hdSo, hc]
  rfl
theorem so_out (X Y n : Nat) (oa : Option Addr) (oc : Nat) (u : Nat → Value) (c : Frame) (cs : List Frame) (w : World) (x0 : w.cell? ⟨X, 1, none⟩ = some (.slice oa n oc)) :
    Walk Try.prog main (DR (fun _ => none)) (fun g w' => g = G (c.finish (.bool true)) cs ∧ ∃ d, w' = w.at d) (G (hdSo X Y n u) (c :: cs)) w := by
  unfold hdSo
  repeat (first | refine Walk.cx ?_ | (refine Walk.cReg ?_; simp only [z10]) | (refine Walk.oq ?_; try walk_nrm) | (refine Walk.un ?_; walk_nrm))
  exact Walk.on1 rfl rfl Try.func10 rfl (.stop fun d => ⟨rfl, d, rfl⟩)
theorem sm_w (ca cb : Array Value) (n : Nat) (F : Nat → List Ans) (ord : List Nat) (sts : List Int) (k : Bool) (w : World) (hn : n ≤ 64) (hord : ord.length ≤ 1048576) (hsn : sts.length ≤ 1048576) (hF : ∀ i, i < n → (F i).length ≤ 65536) (h1 : TrA ca n F ord sts k w) (h2 : TrA cb n F ord sts k w) :
    CallW Try.prog main (fun _ => none) 10 #[.agg ca, .agg cb] w (fun v w' => v = .bool true ∧ Chg (fun _ => False) w w') := by
  obtain ⟨aa, ac, oa, oc, sa, sc, rfl, n1, n2, n3⟩ := h1.all
  obtain ⟨ba, bc, pa, pc, ra, rc, rfl, m1, m2, m3⟩ := h2.all
  intro fr cs
  refine (sm_in aa n ac oa ord.length oc sa sts sc k ba bc pa pc ra rc (fr :: cs) w (by omega) n2 m2).then ?_
  rintro g w1 ⟨⟨u, rfl⟩, hC, hX, hY⟩
  have x0 : w1.cell? ⟨w.heap.size, 0, none⟩ = some (.slice aa n ac) := (cell_of hX 0).trans rfl
  have x1 : w1.cell? ⟨w.heap.size, 1, none⟩ = some (.slice oa ord.length oc) := (cell_of hX 1).trans rfl
  have y0 : w1.cell? ⟨w.heap.size + 1, 0, none⟩ = some (.slice ba n bc) := (cell_of hY 0).trans rfl
  have y1 : w1.cell? ⟨w.heap.size + 1, 1, none⟩ = some (.slice pa ord.length pc) := (cell_of hY 1).trans rfl
  have hcell : ∀ {x j : Nat} {v : Value}, w.cell? ⟨x, j, none⟩ = some v → w1.cell? ⟨x, j, none⟩ = some v := fun {x j v} h => (World.cell?_of_block (a := ⟨x, j, none⟩) (hC.same x (cell_lt' h) id)).trans h
  have olen : (ord.map fun i => ((i : Nat) : Int)).length = ord.length := by simp
  have last : ∀ (r i : Nat) (u : Nat → Value), i + r = ord.length → Walk Try.prog main (DR (fun _ => none)) (fun g w' => g = G (fr.finish (.bool true)) cs ∧ ∃ d, w' = w1.at d) (G (hdSo w.heap.size (w.heap.size + 1) i u) (fr :: cs)) w1 := by
    intro r
    induction r with
    | zero =>
      intro i u hi
      have hi : i = ord.length := hi
      subst hi
      exact so_out _ _ _ oa oc u fr cs w1 x1
    | succ r ih =>
      intro i u hi
      have hin : i < (ord.map fun i => ((i : Nat) : Int)).length := by omega
      have hx := List.getElem?_eq_getElem hin
      obtain ⟨ab, ao, rfl, k1⟩ := n1 i _ hx
      obtain ⟨bb, bo, rfl, k2⟩ := m1 i _ hx
      refine (so_go _ _ ord.length i ab ao oc bb bo pc _ u (fr :: cs) w1 (by omega) (by omega) x1 y1 (hcell k1) (hcell k2)).then ?_
      rintro g w' ⟨⟨u', rfl⟩, d, rfl⟩
      exact Walk.back (ih (i + 1) u' (by omega)) d
  have loop : ∀ (r i : Nat) (u : Nat → Value), i + r = n → Walk Try.prog main (DR (fun _ => none)) (fun g w' => g = G (fr.finish (.bool true)) cs ∧ ∃ d, w' = w1.at d) (G (hdSm w.heap.size (w.heap.size + 1) i u) (fr :: cs)) w1 := by
    intro r
    induction r with
    | zero =>
      intro i u hi
      obtain rfl : i = n := hi
      refine (sm_next _ _ i #[] aa ac u (fr :: cs) w1 x0).then ?_
      rintro g w' ⟨⟨u', rfl⟩, d, rfl⟩
      exact Walk.back (last ord.length 0 u' (by omega)) d
    | succ r ih =>
      intro i u hi
      obtain ⟨ab, ao, ta, tc, rfl, k1, k2⟩ := n3 i (by omega)
      obtain ⟨bb, bo, tb, td, rfl, j1, j2⟩ := m3 i (by omega)
      refine (sm_go _ _ n i ab ao ac bb bo bc ta tb (F i) tc td u (fr :: cs) w1 (by omega) (by omega) (by have := hF i (by omega); omega) x0 y0 (hcell k1) (hcell j1) (k2.chg hC) (j2.chg hC)).then ?_
      rintro g w' ⟨⟨u', rfl⟩, d, rfl⟩
      exact Walk.back (ih (i + 1) u' (by omega)) d
  refine (loop n 0 u (by omega)).mono ?_
  rintro g w' ⟨rfl, d, rfl⟩
  exact ⟨_, ⟨rfl, hC.at d⟩, rfl⟩
end
end
end Go.Proofs.Ytdcjgmlgmjjogaa
