/- Part 1. -/
import Derived.Test.YtjenoiekfkhafaaJ1
import Derived.Test.YtjenoiekfkhafaaJ2
import Derived.Test.YtjenoiekfkhafaaJ3
import Derived.Test.YtjenoiekfkhafaaJ4
import Derived.Test.YtjenoiekfkhafaaJ5
import Derived.Test.YtjenoiekfkhafaaJ6
import Derived.Test.YtjenoiekfkhafaaJ7
import Derived.Test.YtjenoiekfkhafaaJ9
import Derived.Test.YtjenoiekfkhafaaJ11
import Derived.Test.YtjenoiekfkhafaaJ12
import Derived.Test.YtjenoiekfkhafaaJ13
import Derived.Test.YtjenoiekfkhafaaJ14
import Derived.Test.YtjenoiekfkhafaaJ15
import Derived.Test.YtjenoiekfkhafaaJ16
import Derived.Test.YtjenoiekfkhafaaJ17
import Derived.Test.YtjenoiekfkhafaaJ18
import Derived.Test.YtjenoiekfkhafaaJ19
import Derived.Test.YtjenoiekfkhafaaJ20
import Derived.Test.YtjenoiekfkhafaaJ21
import Derived.Test.YtjenoiekfkhafaaJ22
import Derived.Test.YtjenoiekfkhafaaJ23
import Derived.Test.YtjenoiekfkhafaaJ24
import Derived.Test.YtjenoiekfkhafaaJ25
import Derived.Test.YtjenoiekfkhafaaJ26
set_option linter.unusedSimpArgs false
set_option linter.unusedVariables false
set_option maxHeartbeats 8000000
set_option maxRecDepth 100000
namespace Go.Proofs.Ytjenoiekfkhafaa
open Go.Conc Go.RowKit Go.Relay
open Go.ConcN (upd upd_ne upd_same)
theorem ap0 (b : Nat) : Apart (fun _ => none) b := ⟨fun _ _ _ _ h => (by cases h), fun _ _ h => (by cases h)⟩
section
section
variable {lb k : Nat}
theorem runN_mono {L : La} : ∀ (n : Nat) (x : L.Sg × (Ans ⊕ L.D)) (R : L.Sg × Ans), runN L n x = some R → ∀ m, runN L (n + m) x = some R
  | n, (s, .inl a), R, h, m => by rw [runN_inl] at h ⊢; exact h
  | 0, (s, .inr d), R, h, m => by cases h
  | n + 1, (s, .inr d), R, h, m => by
    rw [show n + 1 + m = (n + m) + 1 from by omega]
    exact runN_mono n _ R h m
variable {main : Bool} {V : Nat → Option Wait} {s : Sq} {w : World}
end
end
section
section
variable {P : Program}
theorem eqInB (d : Nat) (t : TypeId) (x y : Bool) (w : World) (es : Array Event) (hu : P.underlying t = some .bool) : (Op.equalIn (d + 1) t (.bool x) (.bool y)).run P w = .ok (x == y) w ∧ (Op.equalIn (d + 1) t (.bool x) (.bool y)).events P w es = es := by
  constructor <;> simp [Op.equalIn, run_underlying hu]
theorem run_neqB (t : TypeId) (hu : P.underlying t = some .bool) (x y : Bool) (w : World) : (binOp .neq t (.bool x) (.bool y)).run P w = .ok (.bool (x != y)) w := by
  simp only [binOp]
  simp [Op.equal, Op.maxDepth, (eqInB 9999 t x y w #[] hu).1, bne]
theorem ev_neqB (t : TypeId) (hu : P.underlying t = some .bool) (x y : Bool) (w : World) (es : Array Event) : (binOp .neq t (.bool x) (.bool y)).events P w es = es := by
  simp only [binOp]
  simp [Op.equal, Op.maxDepth, (eqInB 9999 t x y w #[] hu).1, (eqInB 9999 t x y w es hu).2]
end
theorem und4B : Try.prog.underlying 4 = some .bool := by kernel_rfl
section
variable {main : Bool} {V : Nat → Option Wait}
noncomputable def reg20_0 : Array Oper := match Try.f20.body with | some (.seq (.region _ ops _) _) => ops | _ => #[]
theorem size20_0 : reg20_0.size = 1 := by kernel_rfl
noncomputable def reg20_1 : Array Oper := match Try.f20.body with | some (.seq _ (.seq (.seq (.region _ ops _) _) _)) => ops | _ => #[]
theorem size20_1 : reg20_1.size = 5 := by kernel_rfl
noncomputable def reg20_2 : Array Oper := match Try.f20.body with | some (.seq _ (.seq (.seq _ (.cond _ (.seq (.region _ ops _) _) _)) _)) => ops | _ => #[]
theorem size20_2 : reg20_2.size = 1 := by kernel_rfl
noncomputable def reg20_3 : Array Oper := match Try.f20.body with | some (.seq _ (.seq _ (.seq (.seq (.region _ ops _) _) _))) => ops | _ => #[]
theorem size20_3 : reg20_3.size = 1 := by kernel_rfl
noncomputable def reg20_4 : Array Oper := match Try.f20.body with | some (.seq _ (.seq _ (.seq (.seq _ (.block _ (.loop (.seq (.seq (.region _ ops _) _) _)))) _))) => ops | _ => #[]
theorem size20_4 : reg20_4.size = 4 := by kernel_rfl
noncomputable def reg20_6 : Array Oper := match Try.f20.body with | some (.seq _ (.seq _ (.seq (.seq _ (.block _ (.loop (.seq _ (.seq (.block _ (.seq (.region _ ops _) _)) _))))) _))) => ops | _ => #[]
theorem size20_6 : reg20_6.size = 38 := by kernel_rfl
noncomputable def reg20_7 : Array Oper := match Try.f20.body with | some (.seq _ (.seq _ (.seq (.seq _ (.block _ (.loop (.seq _ (.seq (.block _ (.seq _ (.cond _ (.seq (.region _ ops _) _) _))) _))))) _))) => ops | _ => #[]
theorem size20_7 : reg20_7.size = 1 := by kernel_rfl
noncomputable def reg20_5 : Array Oper := match Try.f20.body with | some (.seq _ (.seq _ (.seq (.seq _ (.block _ (.loop (.seq _ (.seq _ (.region _ ops _)))))) _))) => ops | _ => #[]
theorem size20_5 : reg20_5.size = 3 := by kernel_rfl
noncomputable def reg20_8 : Array Oper := match Try.f20.body with | some (.seq _ (.seq _ (.seq _ (.seq (.region _ ops _) _)))) => ops | _ => #[]
theorem size20_8 : reg20_8.size = 1 := by kernel_rfl
theorem code20_is : Try.f20.body = some (.seq (.region 0 reg20_0 false) (.seq (.seq (.region 1 reg20_1 false) (.cond (.tmp 10 ) (.seq (.region 2 reg20_2 false) (.ret)) (.skip))) (.seq (.seq (.region 3 reg20_3 false) (.block 0 (.loop (.seq (.seq (.region 4 reg20_4 false) (.cond (.tmp 14 ) (.skip) (.exit 0))) (.seq (.block 1 (.seq (.region 6 reg20_6 true) (.cond (.tmp 54 ) (.seq (.region 7 reg20_7 false) (.ret)) (.skip)))) (.region 5 reg20_5 false)))))) (.seq (.region 8 reg20_8 false) (.ret))))) := by kernel_rfl
noncomputable def hdSA (a b : Value) (i : Nat) (u : Nat → Value) : Frame :=
  (base 20).at { tmps := #[a, b, u 2, u 3, u 4, .int .i64 i, u 6, u 7, u 8, u 9, u 10, u 11, u 12, u 13, u 14, u 15, u 16, u 17, u 18, u 19, u 20, u 21, u 22, u 23, u 24, u 25, u 26, u 27, u 28, u 29, u 30, u 31, u 32, u 33, u 34, u 35, u 36, u 37, u 38, u 39, u 40, u 41, u 42, u 43, u 44, u 45, u 46, u 47, u 48, u 49, u 50, u 51, u 52, u 53, u 54], defers := [] } [.code (.seq (.seq (.region 4 reg20_4 false) (.cond (.tmp 14 ) (.skip) (.exit 0))) (.seq (.block 1 (.seq (.region 6 reg20_6 true) (.cond (.tmp 54 ) (.seq (.region 7 reg20_7 false) (.ret)) (.skip)))) (.region 5 reg20_5 false))), .inLoop (.seq (.seq (.region 4 reg20_4 false) (.cond (.tmp 14 ) (.skip) (.exit 0))) (.seq (.block 1 (.seq (.region 6 reg20_6 true) (.cond (.tmp 54 ) (.seq (.region 7 reg20_7 false) (.ret)) (.skip)))) (.region 5 reg20_5 false))), .inBlock 0, .code (.seq (.region 8 reg20_8 false) (.ret))]
theorem sa_in (a b : Option Addr) (n ca cb : Nat) (cs : List Frame) (w : World) :
    Walk Try.prog main (DR V) (fun g w' => (∃ u, g = G (hdSA (.slice a n ca) (.slice b n cb) 0 u) cs) ∧ ∃ d, w' = w.at d) (G (Frame.enter Try.prog 20 #[.slice a n ca, .slice b n cb] .normal) cs) w := by
  rw [enter_at _ Try.func20 code20_is]
  simp only [Try.ntmps20, List.size_toArray, List.length_cons, List.length_nil, Nat.reduceAdd, Nat.reduceSub, Array.replicate_succ, Array.replicate_zero, List.push_toArray, List.append_toArray, List.nil_append, List.cons_append]
  repeat (first | refine Walk.c rfl ?_ | refine Walk.cRet ?_ | refine Walk.cEnd ?_ | (refine Walk.cReg ?_; simp only [size20_0, size20_1, size20_2, size20_3, size20_4, size20_6, size20_7, size20_5, size20_8, List.range, List.range.loop]) | (refine Walk.oq ?_; try walk_nrm) | (refine Walk.un ?_; walk_nrm))
  refine Walk.ctl rfl (fun w => stepG_loop) ?_
  refine .stop fun d => ⟨at_slots ?_, d, rfl⟩
  simp only [hdSA]
  rfl
theorem sa_out (a b : Option Addr) (n ca cb : Nat) (u : Nat → Value) (c : Frame) (cs : List Frame) (w : World) :
    Walk Try.prog main (DR V) (fun g w' => g = G (c.finish (.bool true)) cs ∧ ∃ d, w' = w.at d) (G (hdSA (.slice a n ca) (.slice b n cb) n u) (c :: cs)) w := by
  unfold hdSA
  repeat (first | refine Walk.c rfl ?_ | refine Walk.cRet ?_ | refine Walk.cEnd ?_ | (refine Walk.cReg ?_; simp only [size20_0, size20_1, size20_2, size20_3, size20_4, size20_6, size20_7, size20_5, size20_8, List.range, List.range.loop]) | (refine Walk.oq ?_; try walk_nrm) | (refine Walk.un ?_; walk_nrm))
  exact Walk.on1 rfl rfl Try.func20 rfl (.stop fun d => ⟨rfl, d, rfl⟩)
theorem sa_go (ab ao n ca bb bo cb i : Nat) (y : Bool) (x : Int) (la lb : Option Addr) (lc ld : Nat) (xl : List Int) (hxl : xl.length ≤ 1048576) (u : Nat → Value) (cs : List Frame) (w : World) (hi : i < n) (hn : n ≤ 17592186044416) (a0 : w.cell? ⟨ab, ao + i * 3, none⟩ = some (.bool y)) (a1 : w.cell? ⟨ab, ao + i * 3 + 1, none⟩ = some (.int .i64 x)) (a2 : w.cell? ⟨ab, ao + i * 3 + 2, none⟩ = some (.slice la xl.length lc)) (b0 : w.cell? ⟨bb, bo + i * 3, none⟩ = some (.bool y)) (b1 : w.cell? ⟨bb, bo + i * 3 + 1, none⟩ = some (.int .i64 x)) (b2 : w.cell? ⟨bb, bo + i * 3 + 2, none⟩ = some (.slice lb xl.length ld)) (n1 : NumA la xl w) (n2 : NumA lb xl w) :
    Walk Try.prog main (DR V) (fun g w' => (∃ u', g = G (hdSA (.slice (some ⟨ab, ao, none⟩) n ca) (.slice (some ⟨bb, bo, none⟩) n cb) (i + 1) u') cs) ∧ ∃ d, w' = w.at d) (G (hdSA (.slice (some ⟨ab, ao, none⟩) n ca) (.slice (some ⟨bb, bo, none⟩) n cb) i u) cs) w := by
  have hw1 : IntKind.wrap .i64 ((i : Int) + 1) = (i : Int) + 1 := by rw [IntKind.wrap_i64]; omega
  have qb := run_neqB (P := Try.prog) 4 und4B y y
  have qe := ev_neqB (P := Try.prog) 4 und4B y y
  have qy : (y != y) = false := by cases y <;> rfl
  have hq := sn_w (main := main) (V := V) la lb xl lc ld (by omega) w n1 n2
  clear n1 n2
  generalize xl.length = m at *
  rw [qy] at qb
  conv => arg 5; unfold hdSA
  repeat (first | refine Walk.c rfl ?_ | refine Walk.cRet ?_ | refine Walk.cEnd ?_ | (refine Walk.cReg ?_; simp only [size20_0, size20_1, size20_2, size20_3, size20_4, size20_6, size20_7, size20_5, size20_8, List.range, List.range.loop]) | (refine Walk.oq ?_; try walk_nrm) | (refine Walk.un ?_; walk_nrm))
  (refine Walk.drawnC (by kernel_rfl) size20_6 (by kernel_rfl) (by kernel_rfl) (by decide) ?_; simp only [List.range, List.range.loop]; repeat (first | (refine Cm.opqA (ho_of (by conv => lhs; whnf) (by kernel_rfl)) (by rfl) (fun dd e he => ?_) ?_; (· (simp [go_sem, *] at he; try (subst he; exact evR_read _ _))); apply Exists.intro; apply And.intro; (· (intro dd K hK; go_simp; exact hK))) | (refine Cm.unw (ho_of (by conv => lhs; whnf) (by kernel_rfl)) (by rfl) ?_; walk_nrm)))
  refine Cm.callV (x := .bool true) ?_ (ho_of (by conv => lhs; whnf) (by kernel_rfl)) (by rfl) rfl Try.func21 (by kernel_rfl) (by rfl) ?_
  · intro w' e
    subst e
    walk_nrm
    exact hq
  walk_nrm
  repeat (first | (refine Cm.opqA (ho_of (by conv => lhs; whnf) (by kernel_rfl)) (by rfl) (fun dd e he => ?_) ?_; (· (simp [go_sem, *] at he; try (subst he; exact evR_read _ _))); apply Exists.intro; apply And.intro; (· (intro dd K hK; go_simp; exact hK))) | (refine Cm.unw (ho_of (by conv => lhs; whnf) (by kernel_rfl)) (by rfl) ?_; walk_nrm))
  refine Cm.done ?_
  repeat (first | refine Walk.c rfl ?_ | refine Walk.cRet ?_ | refine Walk.cEnd ?_ | (refine Walk.cReg ?_; simp only [size20_0, size20_1, size20_2, size20_3, size20_4, size20_6, size20_7, size20_5, size20_8, List.range, List.range.loop]) | (refine Walk.oq ?_; try walk_nrm) | (refine Walk.un ?_; walk_nrm))
  refine Walk.ctl rfl (fun w => stepG_inLoop) ?_
  refine .stop fun d' => ⟨at_slots ?_, d', rfl⟩
  have hc : ((i + 1 : Nat) : Int) = (i : Int) + 1 := by simp
  simp only [hdSA, hc]
  rfl
theorem sa_loop (a b : Option Addr) (l : List Ans) (ca cb : Nat) (hn : l.length ≤ 17592186044416) (c : Frame) (cs : List Frame) (w : World) (ha : AnsA a l w) (hb : AnsA b l w) : ∀ (r i : Nat) (u : Nat → Value), i + r = l.length →
    Walk Try.prog main (DR V) (fun g w' => g = G (c.finish (.bool true)) cs ∧ ∃ d, w' = w.at d) (G (hdSA (.slice a l.length ca) (.slice b l.length cb) i u) (c :: cs)) w := by
  intro r
  induction r with
  | zero =>
    intro i u hi
    have hi : i = l.length := hi
    subst hi
    exact sa_out a b l.length ca cb u c cs w
  | succ r ih =>
    intro i u hi
    have hin : i < l.length := by omega
    have hx := List.getElem?_eq_getElem hin
    generalize l[i] = x at hx
    obtain ⟨ab, ao, la, lc, rfl, h1, h2, h3, h4, h5⟩ := ha i _ hx
    obtain ⟨bb, bo, lb, ld, rfl, k1, k2, k3, k4, _⟩ := hb i _ hx
    refine (sa_go ab ao l.length ca bb bo cb i x.ok x.n la lb lc ld x.l h5 u (c :: cs) w hin hn h1 h2 h3 k1 k2 k3 h4 k4).then ?_
    rintro g w' ⟨⟨u', rfl⟩, d, rfl⟩
    exact Walk.back (ih (i + 1) u' (by omega)) d
theorem sa_w (a b : Option Addr) (l : List Ans) (ca cb : Nat) (hn : l.length ≤ 17592186044416) (w : World) (ha : AnsA a l w) (hb : AnsA b l w) : CallV Try.prog main V 20 #[.slice a l.length ca, .slice b l.length cb] w (.bool true) w := by
  intro fr cs
  refine (sa_in a b l.length ca cb (fr :: cs) w).then ?_
  rintro g w1 ⟨⟨u, rfl⟩, d, rfl⟩
  refine Walk.back ?_ d
  refine (sa_loop a b l ca cb hn fr cs w ha hb l.length 0 u (by omega)).mono ?_
  rintro g w' ⟨rfl, d, rfl⟩
  exact ⟨_, ⟨rfl, d, rfl⟩, rfl⟩
end
end
section
noncomputable def reg40_0 : Array Oper := match Try.f40.body with | some (.seq (.region _ ops _) _) => ops | _ => #[]
theorem size40_0 : reg40_0.size = 2 := by kernel_rfl
noncomputable def reg40_1 : Array Oper := match Try.f40.body with | some (.seq _ (.seq (.region _ ops _) _)) => ops | _ => #[]
theorem size40_1 : reg40_1.size = 1 := by kernel_rfl
noncomputable def reg40_2 : Array Oper := match Try.f40.body with | some (.seq _ (.seq _ (.seq (.seq (.region _ ops _) _) _))) => ops | _ => #[]
theorem size40_2 : reg40_2.size = 1 := by kernel_rfl
noncomputable def reg40_3 : Array Oper := match Try.f40.body with | some (.seq _ (.seq _ (.seq (.seq _ (.block _ (.loop (.seq (.seq (.region _ ops _) _) _)))) _))) => ops | _ => #[]
theorem size40_3 : reg40_3.size = 3 := by kernel_rfl
noncomputable def reg40_5 : Array Oper := match Try.f40.body with | some (.seq _ (.seq _ (.seq (.seq _ (.block _ (.loop (.seq _ (.seq (.block _ (.region _ ops _)) _))))) _))) => ops | _ => #[]
theorem size40_5 : reg40_5.size = 11 := by kernel_rfl
noncomputable def reg40_4 : Array Oper := match Try.f40.body with | some (.seq _ (.seq _ (.seq (.seq _ (.block _ (.loop (.seq _ (.seq _ (.region _ ops _)))))) _))) => ops | _ => #[]
theorem size40_4 : reg40_4.size = 3 := by kernel_rfl
noncomputable def reg40_6 : Array Oper := match Try.f40.body with | some (.seq _ (.seq _ (.seq _ (.seq (.region _ ops _) _)))) => ops | _ => #[]
theorem size40_6 : reg40_6.size = 2 := by kernel_rfl
theorem code40_is : Try.f40.body = some (.seq (.region 0 reg40_0 false) (.seq (.region 1 reg40_1 false) (.seq (.seq (.region 2 reg40_2 false) (.block 0 (.loop (.seq (.seq (.region 3 reg40_3 false) (.cond (.tmp 9 ) (.skip) (.exit 0))) (.seq (.block 1 (.region 5 reg40_5 false)) (.region 4 reg40_4 false)))))) (.seq (.region 6 reg40_6 false) (.ret))))) := by kernel_rfl
noncomputable def hdLv (X n : Nat) (lv : Value) (i : Nat) (u : Nat → Value) : Frame :=
  (base 40).at { tmps := #[u 0, .int .i64 n, .pointer (some ⟨X, 0, none⟩), u 3, u 4, lv, .int .i64 i, u 7, u 8, u 9, u 10, u 11, u 12, u 13, u 14, u 15, u 16, u 17, u 18, u 19, u 20, u 21, u 22], defers := [] } [.code (.seq (.seq (.region 3 reg40_3 false) (.cond (.tmp 9 ) (.skip) (.exit 0))) (.seq (.block 1 (.region 5 reg40_5 false)) (.region 4 reg40_4 false))), .inLoop (.seq (.seq (.region 3 reg40_3 false) (.cond (.tmp 9 ) (.skip) (.exit 0))) (.seq (.block 1 (.region 5 reg40_5 false)) (.region 4 reg40_4 false))), .inBlock 0, .code (.seq (.region 6 reg40_6 false) (.ret))]
structure LvI (w0 : World) (X : Nat) (o : OpV) (i : Nat) (ta : Option Addr) (tc : Nat) (w : World) : Prop where
  op : w.heap[X]? = some (.cells #[.int .i64 o.k, .int .i64 o.a, .int .i64 o.b, .int .i64 o.c] 47)
  row : w.ownsRow (X + 1) 2 1 (.slice ta i tc) i (((List.range i).map (sqVal o)).map fun z => .int .i64 z)
  old : ∀ b, b < w0.heap.size → w.heap[b]? = w0.heap[b]?
  lo : w0.heap.size ≤ X ∧ X < w.heap.size
theorem LvI.at {w0 : World} {X : Nat} {o : OpV} {i : Nat} {ta : Option Addr} {tc : Nat} {w : World} (h : LvI w0 X o i ta tc w) (d : Nat) : LvI w0 X o i ta tc (w.at d) := ⟨h.op, row_same h.row fun _ _ => rfl, h.old, h.lo⟩
section
variable {main : Bool} {V : Nat → Option Wait}
theorem lv_in (o : OpV) (n : Nat) (w : World) (cs : List Frame) :
    Walk Try.prog main (DR V) (fun g w' => (∃ u, g = G (hdLv w.heap.size n (.slice none 0 0) 0 u) cs) ∧ LvI w w.heap.size o 0 none 0 w') (G (Frame.enter Try.prog 40 #[opVal o, .int .i64 (n : Nat)] .normal) cs) w := by
  obtain ⟨ok, oa, ob, oc⟩ := o
  simp only [opVal]
  rw [enter_at _ Try.func40 code40_is]
  simp only [Try.ntmps40, List.size_toArray, List.length_cons, List.length_nil, Nat.reduceAdd, Nat.reduceSub, Array.replicate_succ, Array.replicate_zero, List.push_toArray, List.append_toArray, List.nil_append, List.cons_append]
  repeat (first | refine Walk.c rfl ?_ | refine Walk.cRet ?_ | refine Walk.cEnd ?_ | (refine Walk.cReg ?_; simp only [size40_0, size40_1, size40_2, size40_3, size40_5, size40_4, size40_6, List.range, List.range.loop]) | (refine Walk.oq ?_; try walk_nrm) | (refine Walk.un ?_; walk_nrm))
  (refine Walk.oa ?_; try walk_nrm)
  have s0 : (w.alloc (.cells #[.int .i64 ok, .int .i64 oa, .int .i64 ob, .int .i64 oc] 47)).heap.size = w.heap.size + 1 := by simp
  have o0 : ∀ b, b < w.heap.size → (w.alloc (.cells #[.int .i64 ok, .int .i64 oa, .int .i64 ob, .int .i64 oc] 47)).heap[b]? = w.heap[b]? := fun b hb => heap_new_lt _ _ hb
  have d0 := heap_alloc_new w (.cells #[.int .i64 ok, .int .i64 oa, .int .i64 ob, .int .i64 oc] 47)
  generalize hX : w.heap.size = X at *
  generalize w.alloc (.cells #[.int .i64 ok, .int .i64 oa, .int .i64 ob, .int .i64 oc] 47) = w1 at *
  repeat (first | refine Walk.c rfl ?_ | refine Walk.cRet ?_ | refine Walk.cEnd ?_ | (refine Walk.cReg ?_; simp only [size40_0, size40_1, size40_2, size40_3, size40_5, size40_4, size40_6, List.range, List.range.loop]) | (refine Walk.oq ?_; try walk_nrm) | (refine Walk.un ?_; walk_nrm))
  refine Walk.ctl rfl (fun w => stepG_loop) ?_
  refine .stop fun d => ⟨at_slots ?_, LvI.at ⟨d0, ⟨rfl, .inl ⟨rfl, rfl⟩⟩, fun b hb => o0 b (by omega), by omega, by omega⟩ d⟩
  simp only [hdLv]
  rfl
theorem lv_go (o : OpV) (X n i : Nat) (hn : n ≤ 16) (hi : i < n) (ta : Option Addr) (tc : Nat) (u : Nat → Value) (cs : List Frame) (w0 w : World) (M : LvI w0 X o i ta tc w) (hA : ∀ b, w0.heap.size ≤ b → Apart V b) :
    Walk Try.prog main (DR V) (fun g w' => ∃ ta' tc', (∃ u, g = G (hdLv X n (.slice ta' (i + 1) tc') (i + 1) u) cs) ∧ LvI w0 X o (i + 1) ta' tc' w') (G (hdLv X n (.slice ta i tc) i u) cs) w := by
  obtain ⟨hop, hrow, hold, hlo⟩ := M
  have hi2 := Option.some_get (show (Try.prog.info? 2).isSome = true by kernel_rfl)
  have c2 := (cell_of hop 2).trans rfl
  have c3 := (cell_of hop 3).trans rfl
  have hi0 : (0 : Int) ≤ i := by omega
  have hi1 : decide ((i : Int) < n) = true := by simp; omega
  have hi3 : decide (i < n) = true := by simp; omega
  have hw1 : IntKind.wrap .i64 ((i : Int) + 1) = (i : Int) + 1 := by rw [IntKind.wrap_i64]; omega
  have hw2 : IntKind.wrap .i64 (i : Int) = (i : Int) := by rw [IntKind.wrap_i64]; omega
  have hv : IntKind.i64.wrap (o.b + IntKind.i64.wrap ((i : Int) * o.c)) = sqVal o i := rfl
  unfold hdLv
  repeat (first | refine Walk.c rfl ?_ | refine Walk.cRet ?_ | refine Walk.cEnd ?_ | (refine Walk.cReg ?_; simp only [size40_0, size40_1, size40_2, size40_3, size40_5, size40_4, size40_6, List.range, List.range.loop]) | (refine Walk.oq ?_; try walk_nrm) | (refine Walk.un ?_; walk_nrm))
  try simp only [hv]
  generalize hz : sqVal o i = z at *
  (refine Walk.oa ?_; try walk_nrm)
  have s1 : (w.alloc (.cells #[.int .i64 z] 2)).heap.size = w.heap.size + 1 := by simp
  have o1 : ∀ b, b < w.heap.size → (w.alloc (.cells #[.int .i64 z] 2)).heap[b]? = w.heap[b]? := fun b hb => heap_new_lt _ _ hb
  have d1 := heap_alloc_new w (.cells #[.int .i64 z] 2)
  have hrow1 : (w.alloc (.cells #[.int .i64 z] 2)).ownsRow (X + 1) 2 1 (.slice ta i tc) i (((List.range i).map (sqVal o)).map fun z => .int .i64 z) := row_same hrow fun b hb => o1 b (hrow.lt b hb).2
  have hnews : ∀ (q : Nat) (x : Value), ([.int .i64 z] : List Value)[q]? = some x → (w.alloc (.cells #[.int .i64 z] 2)).cell? ((⟨w.heap.size, 0, none⟩ : Addr).add q) = some x := fun q x hx => by
    rw [add_none, Nat.zero_add]
    refine (cell_of d1 q).trans ?_
    simpa using hx
  refine Walk.append (.tmp 12) (.tmp 20) 22 (ho_of (by conv => lhs; whnf) (by kernel_rfl)) (by rfl) (by decide) rfl (X + 1) 2 _ (.int .i64 0) 1 8 huI64s hi2.symm (by rfl) (by rfl) (by rfl) (by rfl) (by decide) (.slice ta i tc) i _ rfl hrow1 ⟨w.heap.size, 0, none⟩ 1 1 [.int .i64 z] rfl (by rfl) hnews (by simp [Value.oneCell']) (by decide) (by simp [maxLen]; omega) (by omega) (by omega) (fun b hb => hA b (by have := (hrow1.lt b hb).1; omega)) (fun g gcap w3 hown3 hgr hat hlt => ?_)
  have hold3 : ∀ b, b < w0.heap.size → w3.heap[b]? = w0.heap[b]? := fun b hb => (hgr.block b (by omega) (fun he => by have := (hrow1.lt b he.symm).1; omega)).trans ((o1 b (by omega)).trans (hold b hb))
  have hop3 : w3.heap[X]? = some (.cells #[.int .i64 o.k, .int .i64 o.a, .int .i64 o.b, .int .i64 o.c] 47) := (hgr.block X (by omega) (fun he => by have := (hrow1.lt X he.symm).1; omega)).trans ((o1 X (by omega)).trans hop)
  have hs3 := hgr.size
  clear hrow1 hnews o1 d1
  walk_nrm
  repeat (first | refine Walk.c rfl ?_ | refine Walk.cRet ?_ | refine Walk.cEnd ?_ | (refine Walk.cReg ?_; simp only [size40_0, size40_1, size40_2, size40_3, size40_5, size40_4, size40_6, List.range, List.range.loop]) | (refine Walk.oq ?_; try walk_nrm) | (refine Walk.un ?_; walk_nrm))
  refine Walk.ctl rfl (fun w => stepG_inLoop) ?_
  refine .stop fun d => ⟨some ⟨g, 0, none⟩, gcap, at_slots ?_, LvI.at ⟨hop3, ?_, hold3, by omega, by omega⟩ d⟩
  · have hc : ((i + 1 : Nat) : Int) = (i : Int) + 1 := by simp
    simp only [hdLv, hc]
    rfl
  · rw [range_snoc, hz, List.map_append]
    exact hown3
theorem lv_end (X n : Nat) (lv : Value) (u : Nat → Value) (c : Frame) (cs : List Frame) (w : World) :
    Walk Try.prog main (DR V) (fun g w' => g = G (c.finish lv) cs ∧ ∃ d, w' = w.at d) (G (hdLv X n lv n u) (c :: cs)) w := by
  unfold hdLv
  repeat (first | refine Walk.c rfl ?_ | refine Walk.cRet ?_ | refine Walk.cEnd ?_ | (refine Walk.cReg ?_; simp only [size40_0, size40_1, size40_2, size40_3, size40_5, size40_4, size40_6, List.range, List.range.loop]) | (refine Walk.oq ?_; try walk_nrm) | (refine Walk.un ?_; walk_nrm))
  exact Walk.on1 rfl rfl Try.func40 rfl (.stop fun d => ⟨rfl, d, rfl⟩)
def NewLs (n : Nat) (xs : List Int) (w : World) (v : Value) (w' : World) : Prop := ∃ ta tc, v = .slice ta n tc ∧ LsR v xs w' ∧ (∀ b, b < w.heap.size → w'.heap[b]? = w.heap[b]?) ∧ w.heap.size ≤ w'.heap.size
theorem row_lsR {w : World} {base : Nat} {ta : Option Addr} {tc : Nat} {xs : List Int} (h : w.ownsRow base 2 1 (.slice ta xs.length tc) xs.length (xs.map fun z => .int .i64 z)) : LsR (.slice ta xs.length tc) xs w := by
  have hnum := numA_of h
  rcases h.2 with ⟨e, h0⟩ | ⟨g, cap, cur, e, _, _, hle, _⟩
  · injection e with e1 e2 e3
    exact ⟨ta, tc, rfl, by omega, fun _ => e3, fun j z hj => hnum j z hj⟩
  · injection e with e1 e2 e3
    exact ⟨ta, tc, rfl, by omega, fun e => (by rw [e1] at e; cases e), fun j z hj => hnum j z hj⟩
theorem lv_w (o : OpV) (n : Nat) (hn : n ≤ 16) (w : World) (hA : ∀ b, w.heap.size ≤ b → Apart V b) : CallW Try.prog main V 40 #[opVal o, .int .i64 (n : Nat)] w (NewLs n ((List.range n).map (sqVal o)) w) := by
  intro c cs
  refine (lv_in o n w (c :: cs)).then ?_
  rintro g w1 ⟨⟨u, rfl⟩, M⟩
  have loop : ∀ (r i : Nat) (ta : Option Addr) (tc : Nat) (u : Nat → Value) (w1 : World), i + r = n → LvI w w.heap.size o i ta tc w1 →
      Walk Try.prog main (DR V) (fun g w' => ∃ v, NewLs n ((List.range n).map (sqVal o)) w v w' ∧ g = G (c.finish v) cs) (G (hdLv w.heap.size n (.slice ta i tc) i u) (c :: cs)) w1 := by
    intro r
    induction r with
    | zero =>
      intro i ta tc u w1 hi M
      obtain rfl : i = n := hi
      refine (lv_end _ i _ u c cs w1).mono ?_
      rintro g w' ⟨rfl, d, rfl⟩
      have hl : ((List.range i).map (sqVal o)).length = i := by simp
      have hr := M.row
      have := row_lsR (xs := (List.range i).map (sqVal o)) (ta := ta) (tc := tc) (w := w1) (base := w.heap.size + 1) (by rw [hl]; exact hr)
      rw [hl] at this
      exact ⟨_, ⟨ta, tc, rfl, this.same (w' := w1.at d) fun _ _ => rfl, M.old, by have := M.lo; show w.heap.size ≤ w1.heap.size; omega⟩, rfl⟩
    | succ r ih =>
      intro i ta tc u w1 hi M
      refine (lv_go o _ n i (by omega) (by omega) ta tc u (c :: cs) w w1 M hA).then ?_
      rintro g w' ⟨ta', tc', ⟨u', rfl⟩, M'⟩
      exact ih (i + 1) ta' tc' u' w' (by omega) M'
  exact loop n 0 none 0 u w1 (by omega) M
end
end
section
noncomputable def reg19_0 : Array Oper := match Try.f19.body with | some (.seq (.region _ ops _) _) => ops | _ => #[]
theorem size19_0 : reg19_0.size = 2 := by kernel_rfl
noncomputable def reg19_1 : Array Oper := match Try.f19.body with | some (.seq _ (.seq (.region _ ops _) _)) => ops | _ => #[]
theorem size19_1 : reg19_1.size = 3 := by kernel_rfl
noncomputable def reg19_2 : Array Oper := match Try.f19.body with | some (.seq _ (.seq _ (.seq (.seq (.region _ ops _) _) _))) => ops | _ => #[]
theorem size19_2 : reg19_2.size = 2 := by kernel_rfl
noncomputable def reg19_4 : Array Oper := match Try.f19.body with | some (.seq _ (.seq _ (.seq (.seq _ (.block _ (.seq (.region _ ops _) _))) _))) => ops | _ => #[]
theorem size19_4 : reg19_4.size = 2 := by kernel_rfl
noncomputable def reg19_5 : Array Oper := match Try.f19.body with | some (.seq _ (.seq _ (.seq (.seq _ (.block _ (.seq _ (.cond _ (.region _ ops _) _)))) _))) => ops | _ => #[]
theorem size19_5 : reg19_5.size = 10 := by kernel_rfl
noncomputable def reg19_6 : Array Oper := match Try.f19.body with | some (.seq _ (.seq _ (.seq (.seq _ (.block _ (.seq _ (.cond _ _ (.seq (.region _ ops _) _))))) _))) => ops | _ => #[]
theorem size19_6 : reg19_6.size = 2 := by kernel_rfl
noncomputable def reg19_7 : Array Oper := match Try.f19.body with | some (.seq _ (.seq _ (.seq (.seq _ (.block _ (.seq _ (.cond _ _ (.seq _ (.cond _ (.region _ ops _) _)))))) _))) => ops | _ => #[]
theorem size19_7 : reg19_7.size = 10 := by kernel_rfl
noncomputable def reg19_8 : Array Oper := match Try.f19.body with | some (.seq _ (.seq _ (.seq (.seq _ (.block _ (.seq _ (.cond _ _ (.seq _ (.cond _ _ (.seq (.region _ ops _) _))))))) _))) => ops | _ => #[]
theorem size19_8 : reg19_8.size = 2 := by kernel_rfl
noncomputable def reg19_9 : Array Oper := match Try.f19.body with | some (.seq _ (.seq _ (.seq (.seq _ (.block _ (.seq _ (.cond _ _ (.seq _ (.cond _ _ (.seq _ (.cond _ (.region _ ops _) _)))))))) _))) => ops | _ => #[]
theorem size19_9 : reg19_9.size = 12 := by kernel_rfl
noncomputable def reg19_10 : Array Oper := match Try.f19.body with | some (.seq _ (.seq _ (.seq (.seq _ (.block _ (.seq _ (.cond _ _ (.seq _ (.cond _ _ (.seq _ (.cond _ _ (.seq (.region _ ops _) _))))))))) _))) => ops | _ => #[]
theorem size19_10 : reg19_10.size = 2 := by kernel_rfl
noncomputable def reg19_11 : Array Oper := match Try.f19.body with | some (.seq _ (.seq _ (.seq (.seq _ (.block _ (.seq _ (.cond _ _ (.seq _ (.cond _ _ (.seq _ (.cond _ _ (.seq _ (.cond _ (.region _ ops _) _)))))))))) _))) => ops | _ => #[]
theorem size19_11 : reg19_11.size = 5 := by kernel_rfl
noncomputable def reg19_12 : Array Oper := match Try.f19.body with | some (.seq _ (.seq _ (.seq (.seq _ (.block _ (.seq _ (.cond _ _ (.seq _ (.cond _ _ (.seq _ (.cond _ _ (.seq _ (.cond _ _ (.seq (.region _ ops _) _))))))))))) _))) => ops | _ => #[]
theorem size19_12 : reg19_12.size = 2 := by kernel_rfl
noncomputable def reg19_13 : Array Oper := match Try.f19.body with | some (.seq _ (.seq _ (.seq (.seq _ (.block _ (.seq _ (.cond _ _ (.seq _ (.cond _ _ (.seq _ (.cond _ _ (.seq _ (.cond _ _ (.seq _ (.cond _ (.region _ ops _) _)))))))))))) _))) => ops | _ => #[]
theorem size19_13 : reg19_13.size = 12 := by kernel_rfl
noncomputable def reg19_3 : Array Oper := match Try.f19.body with | some (.seq _ (.seq _ (.seq (.seq _ (.block _ (.seq _ (.cond _ _ (.seq _ (.cond _ _ (.seq _ (.cond _ _ (.seq _ (.cond _ _ (.seq _ (.cond _ _ (.seq (.region _ ops _) _))))))))))))) _))) => ops | _ => #[]
theorem size19_3 : reg19_3.size = 2 := by kernel_rfl
noncomputable def reg19_14 : Array Oper := match Try.f19.body with | some (.seq _ (.seq _ (.seq _ (.seq (.region _ ops _) _)))) => ops | _ => #[]
theorem size19_14 : reg19_14.size = 2 := by kernel_rfl
theorem code19_is : Try.f19.body = some (.seq (.region 0 reg19_0 false) (.seq (.region 1 reg19_1 false) (.seq (.seq (.region 2 reg19_2 false) (.block 0 (.seq (.region 4 reg19_4 false) (.cond (.tmp 14 ) (.region 5 reg19_5 true) (.seq (.region 6 reg19_6 false) (.cond (.tmp 25 ) (.region 7 reg19_7 true) (.seq (.region 8 reg19_8 false) (.cond (.tmp 36 ) (.region 9 reg19_9 false) (.seq (.region 10 reg19_10 false) (.cond (.tmp 48 ) (.region 11 reg19_11 false) (.seq (.region 12 reg19_12 false) (.cond (.tmp 54 ) (.region 13 reg19_13 false) (.seq (.region 3 reg19_3 false) (.ret)))))))))))))) (.seq (.region 14 reg19_14 false) (.ret))))) := by kernel_rfl
section
variable {lb k : Nat} {sv : Value}
def tmC (lb n : Nat) (sv : Value) (X R A : Nat) (u : Nat → Value) : Array Value := #[.pointer (some ⟨lb, 0, none⟩), sv, u 2, .int .i64 n, u 4, u 5, .pointer (some ⟨X, 0, none⟩), u 7, .pointer (some ⟨R, 0, none⟩), .pointer (some ⟨A, 0, none⟩), u 10, u 11, u 12, u 13, u 14, u 15, u 16, u 17, u 18, u 19, u 20, u 21, u 22, u 23, u 24, u 25, u 26, u 27, u 28, u 29, u 30, u 31, u 32, u 33, u 34, u 35, u 36, u 37, u 38, u 39, u 40, u 41, u 42, u 43, u 44, u 45, u 46, u 47, u 48, u 49, u 50, u 51, u 52, u 53, u 54, u 55, u 56, u 57, u 58, u 59, u 60, u 61, u 62, u 63, u 64, u 65, u 66]
def CaPh (K : Lg (sqLa lb k) sv) (ad : Bool) (n : Nat) (o : OpV) (X R A d6 d7 : Nat) (f : Nat → Bool) (u : Nat → Value) (e : K.E) (w' : World) : Prop :=
  (f 7 = false ∧ f 9 = false ∧ K.tgt e = (K.s e, .inr (.w1 ad (sqTr o.a) (sqVal o))) ∧ (K.w e).heap[X]? = some (.cells #[.int .i64 o.k, .int .i64 o.a, .int .i64 o.b, .int .i64 o.c] 47) ∧ K.mine e A ∧ (K.w e).heap[A]? = some (.cells #[.bool true, .int .i64 0, .slice none 0 0] 44) ∧ K.mine e R ∧ (K.w e).heap[R]? = some (.cells #[.bool false, .int .i64 0, .slice none 0 0] 44) ∧ (∃ d, w' = (K.w e).at d) ∧
    (f 6 = true → ∃ ta tc, u d6 = .slice ta n tc ∧ LsR (.slice ta n tc) ((List.range n).map (sqVal o)) (K.w e))) ∨
  (f 7 = true ∧ ∃ b, u d7 = .bool b ∧ K.tgt e = (K.s e, .inl ⟨b, 0, []⟩) ∧ K.mine e A ∧ (K.w e).heap[A]? = some (.cells #[.bool true, .int .i64 0, .slice none 0 0] 44) ∧ K.mine e R ∧ (K.w e).heap[R]? = some (.cells #[.bool false, .int .i64 0, .slice none 0 0] 44) ∧
    ((f 9 = false ∧ ∃ d, w' = (K.w e).at d) ∨ (f 9 = true ∧ ∃ d, w' = ((K.w e).setCell ⟨A, 0, none⟩ (.bool b)).at d)))
variable {K : Lg (sqLa lb k) sv} {ad : Bool} {n : Nat} {o : OpV} {X R A d6 d7 : Nat} {f : Nat → Bool} {u : Nat → Value} {e : K.E} {w' : World}
theorem CaPh.quiet {j d : Nat} {v : Value} (h : CaPh K ad n o X R A d6 d7 f u e w') (hj : j ≠ 6 ∧ j ≠ 7 ∧ j ≠ 9) (hd : d ≠ d6 ∧ d ≠ d7) : CaPh K ad n o X R A d6 d7 (upd f j true) (upd u d v) e w' := by
  unfold CaPh
  rw [upd_ne f true (Ne.symm hj.1), upd_ne f true (Ne.symm hj.2.1), upd_ne f true (Ne.symm hj.2.2), upd_ne u v (Ne.symm hd.1), upd_ne u v (Ne.symm hd.2)]
  exact h
theorem CaPh.early (h : CaPh K ad n o X R A d6 d7 f u e w') (h7 : f 7 = false) : w'.heap[X]? = some (.cells #[.int .i64 o.k, .int .i64 o.a, .int .i64 o.b, .int .i64 o.c] 47) := by
  rcases h with ⟨_, _, _, hX, _, _, _, _, ⟨d, rfl⟩, _⟩ | ⟨h, _⟩
  · exact hX
  · rw [h7] at h; cases h
variable {fr : Frame} {l : List Frame}
theorem caW_reg (K : Lg (sqLa lb k) sv) (n : Nat) (hn1 : n ≤ k + 1) (hn2 : k + 1 ≤ n) (o : OpV) (X R A : Nat) (hp : Plain fr) (hl : ∀ f ∈ l, Plain f) (e0 : K.E) (T : Array Value) (hT : T = tmC lb n sv X R A (fun j => T.getD j undef)) (hX : (K.w e0).heap[X]? = some (.cells #[.int .i64 o.k, .int .i64 o.a, .int .i64 o.b, .int .i64 o.c] 47)) (hmA : K.mine e0 A) (hA : (K.w e0).heap[A]? = some (.cells #[.bool true, .int .i64 0, .slice none 0 0] 44)) (hmR : K.mine e0 R) (hR : (K.w e0).heap[R]? = some (.cells #[.bool false, .int .i64 0, .slice none 0 0] 44)) (ht : K.tgt e0 = (K.s e0, .inr (.w1 false (sqTr o.a) (sqVal o)))) (kk : List Item)
    (hk : ∀ (u : Nat → Value) (e : K.E) b, K.tgt e = (K.s e, .inl ⟨b, 0, []⟩) → K.mine e A → (K.w e).heap[A]? = some (.cells #[.bool true, .int .i64 0, .slice none 0 0] 44) → K.mine e R → (K.w e).heap[R]? = some (.cells #[.bool false, .int .i64 0, .slice none 0 0] 44) → Walk Try.prog K.main (DR (K.V e)) (K.Stop e) (G ((base 19).at ⟨tmC lb n sv X R A u, []⟩ (.inRegion reg19_5 [] :: kk)) (fr :: (l ++ K.bot e))) ((K.w e).setCell ⟨A, 0, none⟩ (.bool b))) :
    Walk Try.prog K.main (DR (K.V e0)) (K.Stop e0) (G ((base 19).at ⟨T, []⟩ (.code (.region 5 reg19_5 true) :: kk)) (fr :: (l ++ K.bot e0))) (K.w e0) := by
  obtain ⟨fsO, huO⟩ := structT 47 (by kernel_rfl)
  have hk15 := (K.inv e0).pos
  rw [hT]
  generalize (fun j => T.getD j undef) = u0
  clear hT
  refine Walk.drawnE (E := K.E × World) (V := fun x => K.V x.1) (Stop := fun x => K.Stop x.1) (cs := fun x => fr :: (l ++ K.bot x.1)) (w := fun x => x.2)
    (Inv := fun f a x => ∃ u, a = ⟨tmC lb n sv X R A u, []⟩ ∧ Facts [16, 17, 18, 19, 20, 21, 1006, 1007, 24, 1009] [.pointer (some ⟨lb, 0, none⟩), sv, .pointer (some ⟨X, 1, none⟩), .int .i64 o.a, opVal o, .int .i64 n, undef, undef, .pointer (some ⟨A, 0, none⟩), undef] f u ∧ CaPh K false n o X R A 22 23 f u x.1 x.2) (e0, K.w e0) (by kernel_rfl) (by kernel_rfl)
    ⟨u0, rfl, Facts.none _ _ _, .inl ⟨rfl, rfl, ht, hX, hmA, hA, hmR, hR, ⟨(K.w e0).drawn, rfl⟩, fun h => (by cases h)⟩⟩ ?_ ?_
  · rintro f oi op a ⟨e, w'⟩ ⟨u, rfl, F, hw⟩ hC hfi ho hdeps rest hr
    dsimp only at hw hr ⊢
    have hil : oi < 10 := (Array.getElem?_eq_some_iff.1 ho).1
    match oi, hil with
    | 0, _ =>
      have h7 : f 7 = false := by
        cases h : f 7 with
        | false => rfl
        | true =>
          have h7_0 := (hC.deps (l := [0]) h (by kernel_rfl)) 0 (by simp)
          rw [hfi] at h7_0; cases h7_0
      have hX := hw.early h7
      clear hdeps ho hC hfi
      simp only [tmC] at hr ⊢
      (refine Walk.oq ?_; try walk_nrm)
      refine hr _ (e, w') ⟨upd u 16 (.pointer (some ⟨lb, 0, none⟩)), ?_, F.set (by decide) rfl rfl, hw.quiet (by decide) (by decide)⟩
      simp [tmC, upd]
    | 1, _ =>
      have h7 : f 7 = false := by
        cases h : f 7 with
        | false => rfl
        | true =>
          have h7_1 := (hC.deps (l := [1]) h (by kernel_rfl)) 1 (by simp)
          rw [hfi] at h7_1; cases h7_1
      have hX := hw.early h7
      clear hdeps ho hC hfi
      simp only [tmC] at hr ⊢
      (refine Walk.oq ?_; try walk_nrm)
      refine hr _ (e, w') ⟨upd u 17 (sv), ?_, F.set (by decide) rfl rfl, hw.quiet (by decide) (by decide)⟩
      simp [tmC, upd]
    | 2, _ =>
      have h7 : f 7 = false := by
        cases h : f 7 with
        | false => rfl
        | true =>
          have h7_3 := (hC.deps (l := [3]) h (by kernel_rfl)) 3 (by simp)
          have h3_2 := (hC.deps (l := [2]) h7_3 (by kernel_rfl)) 2 (by simp)
          rw [hfi] at h3_2; cases h3_2
      have hX := hw.early h7
      clear hdeps ho hC hfi
      simp only [tmC] at hr ⊢
      (refine Walk.oq ?_; try walk_nrm)
      refine hr _ (e, w') ⟨upd u 18 (.pointer (some ⟨X, 1, none⟩)), ?_, F.set (by decide) rfl rfl, hw.quiet (by decide) (by decide)⟩
      simp [tmC, upd]
    | 3, _ =>
      have h7 : f 7 = false := by
        cases h : f 7 with
        | false => rfl
        | true =>
          have h7_3 := (hC.deps (l := [3]) h (by kernel_rfl)) 3 (by simp)
          rw [hfi] at h7_3; cases h7_3
      have hX := hw.early h7
      have hdd := deps_of (l := [2]) (by kernel_rfl) ho hdeps
      have e18 := F 2 18 _ (hdd 2 (by simp)) rfl rfl
      have cX := (cell_of hX 1).trans rfl
      clear hdd
      clear hdeps ho hC hfi
      simp only [tmC] at hr ⊢
      (refine Walk.oq ?_; try walk_nrm)
      refine hr _ (e, w') ⟨upd u 19 (.int .i64 o.a), ?_, F.set (by decide) rfl rfl, hw.quiet (by decide) (by decide)⟩
      simp [tmC, upd, e18]
    | 4, _ =>
      have h7 : f 7 = false := by
        cases h : f 7 with
        | false => rfl
        | true =>
          have h7_6 := (hC.deps (l := [6]) h (by kernel_rfl)) 6 (by simp)
          have h6_4 := (hC.deps (l := [4]) h7_6 (by kernel_rfl)) 4 (by simp)
          rw [hfi] at h6_4; cases h6_4
      have hX := hw.early h7
      clear hdeps ho hC hfi
      simp only [tmC] at hr ⊢
      refine Walk.loadS 47 (.tmp 6) (ho_of (by conv => lhs; whnf) (by kernel_rfl)) (by rfl) (by decide) rfl X 0 [.int .i64 o.k, .int .i64 o.a, .int .i64 o.b, .int .i64 o.c] (.struct fsO) rfl (fun j v hj => ?_) huO rfl (by kernel_rfl) ?_
      · rw [Nat.zero_add, cell_of hX]
        simpa using hj
      walk_nrm
      refine hr _ (e, w') ⟨upd u 20 (opVal o), ?_, F.set (by decide) rfl rfl, hw.quiet (by decide) (by decide)⟩
      simp [tmC, upd, opVal]
    | 5, _ =>
      have h7 : f 7 = false := by
        cases h : f 7 with
        | false => rfl
        | true =>
          have h7_6 := (hC.deps (l := [6]) h (by kernel_rfl)) 6 (by simp)
          have h6_5 := (hC.deps (l := [5]) h7_6 (by kernel_rfl)) 5 (by simp)
          rw [hfi] at h6_5; cases h6_5
      have hX := hw.early h7
      clear hdeps ho hC hfi
      simp only [tmC] at hr ⊢
      (refine Walk.oq ?_; try walk_nrm)
      refine hr _ (e, w') ⟨upd u 21 (.int .i64 n), ?_, F.set (by decide) rfl rfl, hw.quiet (by decide) (by decide)⟩
      simp [tmC, upd]
    | 6, _ =>
      have hdd := deps_of (l := [4, 5]) (by kernel_rfl) ho hdeps
      have e20 := F 4 20 _ (hdd 4 (by simp)) rfl rfl
      have e21 := F 5 21 _ (hdd 5 (by simp)) rfl rfl
      have h7 : f 7 = false := by
        cases h : f 7 with
        | false => rfl
        | true =>
          have h6 := (hC.deps (l := [6]) h (by kernel_rfl)) 6 (by simp)
          rw [hfi] at h6; cases h6
      rcases hw with ⟨_, h9, htE, hX, hmA, hA, hmR, hR, ⟨dd, rfl⟩, _⟩ | ⟨h, _⟩
      rotate_left
      · rw [h7] at h; cases h
      refine Walk.back ?_ dd
      clear hdeps ho hC hdd
      have hv := lv_w (main := K.main) (V := K.V e) o n (by omega) (K.w e) (fun b hb => K.newA e b hb)
      simp only [tmC] at hr ⊢
      refine Walk.callW (Post := NewLs n ((List.range n).map (sqVal o)) (K.w e)) ?_ (ho_of (by conv => lhs; whnf) (by kernel_rfl)) (by rfl) (by decide) rfl Try.func40 (by kernel_rfl) (by rfl) ?_
      · walk_nrm
        simp only [e20, e21]
        exact hv
      rintro v w1 ⟨ta, tc, rfl, hN, hold, hsz⟩
      obtain ⟨e1, m1⟩ := K.grow e (w' := w1) hsz hold
      have hXl : X < (K.w e).heap.size := (Array.getElem?_eq_some_iff.1 hX).1
      have hRl : R < (K.w e).heap.size := (Array.getElem?_eq_some_iff.1 hR).1
      have hAl : A < (K.w e).heap.size := (Array.getElem?_eq_some_iff.1 hA).1
      refine LW.to (l := fr :: l) m1 ?_
      unfold LW
      walk_nrm
      refine hr _ (e1, K.w e1) ⟨upd (upd u 1006 undef) 22 (.slice ta n tc), ?_, Facts.other (F.set (by decide) rfl rfl) (by decide), .inl ⟨by rw [upd_ne _ _ (by decide)]; exact h7, by rw [upd_ne _ _ (by decide)]; exact h9, by rw [m1.tgt, m1.s]; exact htE, by rw [m1.w, hold X hXl]; exact hX, (m1.mine A).2 (.inl hmA), by rw [m1.w, hold A hAl]; exact hA, (m1.mine R).2 (.inl hmR), by rw [m1.w, hold R hRl]; exact hR, ⟨(K.w e1).drawn, rfl⟩, fun _ => ⟨ta, tc, upd_same _ _ _, by rw [m1.w]; exact hN⟩⟩⟩
      simp [tmC, upd, e20, e21]
    | 7, _ =>
      have hdd := deps_of (l := [0, 1, 3, 6]) (by kernel_rfl) ho hdeps
      have e16 := F 0 16 _ (hdd 0 (by simp)) rfl rfl
      have e17 := F 1 17 _ (hdd 1 (by simp)) rfl rfl
      have e19 := F 3 19 _ (hdd 3 (by simp)) rfl rfl
      have h6 := hdd 6 (by simp)
      rcases hw with ⟨_, h9, htE, hX, hmA, hA, hmR, hR, ⟨dd, rfl⟩, hB⟩ | ⟨h, _⟩
      rotate_left
      · rw [hfi] at h; cases h
      obtain ⟨ta, tc, e22, hsl⟩ := hB h6
      refine Walk.back ?_ dd
      clear hdeps ho hC hdd
      have hlen : ((List.range n).map (sqVal o)).length = n := by simp
      have hvi : ValsIn k (sqVal o) ((List.range n).map (sqVal o)) := fun i hi => by
        obtain rfl : n = k + 1 := by omega
        rw [List.take_of_length_le (by simp), padL_full hlen]
        simp [List.getElem?_range (show i < k + 1 by omega)]
      have hcall := SCall.fz K (write_s (Fz K e) (sqVal o) (fz0 K e) o.a (.slice ta n tc) ((List.range n).map (sqVal o)) hsl hvi htE)
      simp only [tmC] at hr ⊢
      refine (?_ : LW K.toLb e (G _ ((fr :: l) ++ K.bot e)))
      refine LW.callS (f := 23) (Q := fun x e' => ∃ h : Kept K e e', ChOut (Fz K e) x ⟨e', h⟩) ?_ (ho_of (by conv => lhs; whnf) (by kernel_rfl)) (by rfl) (by decide) rfl Try.func23 (by kernel_rfl) (by rfl) ⟨rfl, rfl, _, Try.func19⟩ (plain_cons hp hl) ?_
      · walk_nrm
        simp only [e16, e17, e19, e22]
        exact hcall
      rintro v e2 ⟨hkept, b, rfl, ht2⟩
      obtain ⟨hm2, hb2⟩ := hkept R hmR
      obtain ⟨hm3, hb3⟩ := hkept A hmA
      unfold LW
      walk_nrm
      refine hr _ (e2, K.w e2) ⟨upd (upd u 1007 undef) 23 (.bool b), ?_, Facts.other (F.set (by decide) rfl rfl) (by decide), .inr ⟨upd_same _ _ _, b, upd_same _ _ _, ht2, hm3, hb3.trans hA, hm2, hb2.trans hR, .inl ⟨by rw [upd_ne _ _ (by decide)]; exact h9, (K.w e2).drawn, rfl⟩⟩⟩
      simp [tmC, upd, e16, e17, e19, e22]
    | 8, _ =>
      clear hdeps ho hC hfi
      simp only [tmC] at hr ⊢
      (refine Walk.oq ?_; try walk_nrm)
      refine hr _ (e, w') ⟨upd u 24 (.pointer (some ⟨A, 0, none⟩)), ?_, F.set (by decide) rfl rfl, hw.quiet (by decide) (by decide)⟩
      simp [tmC, upd]
    | 9, _ =>
      have hdd := deps_of (l := [7, 8]) (by kernel_rfl) ho hdeps
      have h7 := hdd 7 (by simp)
      have e24 := F 8 24 _ (hdd 8 (by simp)) rfl rfl
      rcases hw with ⟨h, _⟩ | ⟨_, b, hb, htE, hmA, hA, hmR, hR, ⟨h9, dd, rfl⟩ | ⟨h9, _⟩⟩
      · rw [h7] at h; cases h
      rotate_left
      · rw [hfi] at h9; cases h9
      refine Walk.back ?_ dd
      have hap := (K.mineA e _ hmA).1
      have g30 : (K.w e).cell? ⟨A, 0, none⟩ = some (.bool true) := (cell_of hA 0).trans rfl
      have y30 := frozen_of hA 0
      clear hdeps ho hC hdd
      simp only [tmC, hb, e24] at hr ⊢
      (have hfr := hap.1 ⟨A, 0, none⟩ rfl; refine Walk.os hfr g30 ?_; clear hfr; try walk_nrm)
      refine hr _ (e, (K.w e).setCell ⟨A, 0, none⟩ (.bool b)) ⟨upd u 1009 undef, ?_, F.set (by decide) rfl rfl, .inr ⟨by rw [upd_ne _ _ (by decide)]; exact h7, b, by rw [upd_ne _ _ (by decide)]; exact hb, htE, hmA, hA, hmR, hR, .inr ⟨upd_same _ _ _, ((K.w e).setCell ⟨A, 0, none⟩ (.bool b)).drawn, rfl⟩⟩⟩
      simp [tmC, upd, hb, e24]
  · rintro f a ⟨e, w'⟩ ⟨u, rfl, F, hw⟩ hall
    have hsz : reg19_5.size = 10 := size19_5
    rcases hw with ⟨h, _⟩ | ⟨_, b, _, htE, hmA, hA, hmR, hR, ⟨h9, _⟩ | ⟨_, dd, hw'⟩⟩
    · rw [hall 7 (by omega)] at h; cases h
    · rw [hall 9 (by omega)] at h9; cases h9
    · dsimp only at hw' ⊢
      subst hw'
      exact Walk.back (hk u e b htE hmA hA hmR hR) dd
theorem caA_reg (K : Lg (sqLa lb k) sv) (n : Nat) (hn1 : n ≤ k + 1) (hn2 : k + 1 ≤ n) (o : OpV) (X R A : Nat) (hp : Plain fr) (hl : ∀ f ∈ l, Plain f) (e0 : K.E) (T : Array Value) (hT : T = tmC lb n sv X R A (fun j => T.getD j undef)) (hX : (K.w e0).heap[X]? = some (.cells #[.int .i64 o.k, .int .i64 o.a, .int .i64 o.b, .int .i64 o.c] 47)) (hmA : K.mine e0 A) (hA : (K.w e0).heap[A]? = some (.cells #[.bool true, .int .i64 0, .slice none 0 0] 44)) (hmR : K.mine e0 R) (hR : (K.w e0).heap[R]? = some (.cells #[.bool false, .int .i64 0, .slice none 0 0] 44)) (ht : K.tgt e0 = (K.s e0, .inr (.w1 true (sqTr o.a) (sqVal o)))) (kk : List Item)
    (hk : ∀ (u : Nat → Value) (e : K.E) b, K.tgt e = (K.s e, .inl ⟨b, 0, []⟩) → K.mine e A → (K.w e).heap[A]? = some (.cells #[.bool true, .int .i64 0, .slice none 0 0] 44) → K.mine e R → (K.w e).heap[R]? = some (.cells #[.bool false, .int .i64 0, .slice none 0 0] 44) → Walk Try.prog K.main (DR (K.V e)) (K.Stop e) (G ((base 19).at ⟨tmC lb n sv X R A u, []⟩ (.inRegion reg19_7 [] :: kk)) (fr :: (l ++ K.bot e))) ((K.w e).setCell ⟨A, 0, none⟩ (.bool b))) :
    Walk Try.prog K.main (DR (K.V e0)) (K.Stop e0) (G ((base 19).at ⟨T, []⟩ (.code (.region 7 reg19_7 true) :: kk)) (fr :: (l ++ K.bot e0))) (K.w e0) := by
  obtain ⟨fsO, huO⟩ := structT 47 (by kernel_rfl)
  have hk15 := (K.inv e0).pos
  rw [hT]
  generalize (fun j => T.getD j undef) = u0
  clear hT
  refine Walk.drawnE (E := K.E × World) (V := fun x => K.V x.1) (Stop := fun x => K.Stop x.1) (cs := fun x => fr :: (l ++ K.bot x.1)) (w := fun x => x.2)
    (Inv := fun f a x => ∃ u, a = ⟨tmC lb n sv X R A u, []⟩ ∧ Facts [27, 28, 29, 30, 31, 32, 1006, 1007, 35, 1009] [.pointer (some ⟨lb, 0, none⟩), sv, .pointer (some ⟨X, 1, none⟩), .int .i64 o.a, opVal o, .int .i64 n, undef, undef, .pointer (some ⟨A, 0, none⟩), undef] f u ∧ CaPh K true n o X R A 33 34 f u x.1 x.2) (e0, K.w e0) (by kernel_rfl) (by kernel_rfl)
    ⟨u0, rfl, Facts.none _ _ _, .inl ⟨rfl, rfl, ht, hX, hmA, hA, hmR, hR, ⟨(K.w e0).drawn, rfl⟩, fun h => (by cases h)⟩⟩ ?_ ?_
  · rintro f oi op a ⟨e, w'⟩ ⟨u, rfl, F, hw⟩ hC hfi ho hdeps rest hr
    dsimp only at hw hr ⊢
    have hil : oi < 10 := (Array.getElem?_eq_some_iff.1 ho).1
    match oi, hil with
    | 0, _ =>
      have h7 : f 7 = false := by
        cases h : f 7 with
        | false => rfl
        | true =>
          have h7_0 := (hC.deps (l := [0]) h (by kernel_rfl)) 0 (by simp)
          rw [hfi] at h7_0; cases h7_0
      have hX := hw.early h7
      clear hdeps ho hC hfi
      simp only [tmC] at hr ⊢
      (refine Walk.oq ?_; try walk_nrm)
      refine hr _ (e, w') ⟨upd u 27 (.pointer (some ⟨lb, 0, none⟩)), ?_, F.set (by decide) rfl rfl, hw.quiet (by decide) (by decide)⟩
      simp [tmC, upd]
    | 1, _ =>
      have h7 : f 7 = false := by
        cases h : f 7 with
        | false => rfl
        | true =>
          have h7_1 := (hC.deps (l := [1]) h (by kernel_rfl)) 1 (by simp)
          rw [hfi] at h7_1; cases h7_1
      have hX := hw.early h7
      clear hdeps ho hC hfi
      simp only [tmC] at hr ⊢
      (refine Walk.oq ?_; try walk_nrm)
      refine hr _ (e, w') ⟨upd u 28 (sv), ?_, F.set (by decide) rfl rfl, hw.quiet (by decide) (by decide)⟩
      simp [tmC, upd]
    | 2, _ =>
      have h7 : f 7 = false := by
        cases h : f 7 with
        | false => rfl
        | true =>
          have h7_3 := (hC.deps (l := [3]) h (by kernel_rfl)) 3 (by simp)
          have h3_2 := (hC.deps (l := [2]) h7_3 (by kernel_rfl)) 2 (by simp)
          rw [hfi] at h3_2; cases h3_2
      have hX := hw.early h7
      clear hdeps ho hC hfi
      simp only [tmC] at hr ⊢
      (refine Walk.oq ?_; try walk_nrm)
      refine hr _ (e, w') ⟨upd u 29 (.pointer (some ⟨X, 1, none⟩)), ?_, F.set (by decide) rfl rfl, hw.quiet (by decide) (by decide)⟩
      simp [tmC, upd]
    | 3, _ =>
      have h7 : f 7 = false := by
        cases h : f 7 with
        | false => rfl
        | true =>
          have h7_3 := (hC.deps (l := [3]) h (by kernel_rfl)) 3 (by simp)
          rw [hfi] at h7_3; cases h7_3
      have hX := hw.early h7
      have hdd := deps_of (l := [2]) (by kernel_rfl) ho hdeps
      have e29 := F 2 29 _ (hdd 2 (by simp)) rfl rfl
      have cX := (cell_of hX 1).trans rfl
      clear hdd
      clear hdeps ho hC hfi
      simp only [tmC] at hr ⊢
      (refine Walk.oq ?_; try walk_nrm)
      refine hr _ (e, w') ⟨upd u 30 (.int .i64 o.a), ?_, F.set (by decide) rfl rfl, hw.quiet (by decide) (by decide)⟩
      simp [tmC, upd, e29]
    | 4, _ =>
      have h7 : f 7 = false := by
        cases h : f 7 with
        | false => rfl
        | true =>
          have h7_6 := (hC.deps (l := [6]) h (by kernel_rfl)) 6 (by simp)
          have h6_4 := (hC.deps (l := [4]) h7_6 (by kernel_rfl)) 4 (by simp)
          rw [hfi] at h6_4; cases h6_4
      have hX := hw.early h7
      clear hdeps ho hC hfi
      simp only [tmC] at hr ⊢
      refine Walk.loadS 47 (.tmp 6) (ho_of (by conv => lhs; whnf) (by kernel_rfl)) (by rfl) (by decide) rfl X 0 [.int .i64 o.k, .int .i64 o.a, .int .i64 o.b, .int .i64 o.c] (.struct fsO) rfl (fun j v hj => ?_) huO rfl (by kernel_rfl) ?_
      · rw [Nat.zero_add, cell_of hX]
        simpa using hj
      walk_nrm
      refine hr _ (e, w') ⟨upd u 31 (opVal o), ?_, F.set (by decide) rfl rfl, hw.quiet (by decide) (by decide)⟩
      simp [tmC, upd, opVal]
    | 5, _ =>
      have h7 : f 7 = false := by
        cases h : f 7 with
        | false => rfl
        | true =>
          have h7_6 := (hC.deps (l := [6]) h (by kernel_rfl)) 6 (by simp)
          have h6_5 := (hC.deps (l := [5]) h7_6 (by kernel_rfl)) 5 (by simp)
          rw [hfi] at h6_5; cases h6_5
      have hX := hw.early h7
      clear hdeps ho hC hfi
      simp only [tmC] at hr ⊢
      (refine Walk.oq ?_; try walk_nrm)
      refine hr _ (e, w') ⟨upd u 32 (.int .i64 n), ?_, F.set (by decide) rfl rfl, hw.quiet (by decide) (by decide)⟩
      simp [tmC, upd]
    | 6, _ =>
      have hdd := deps_of (l := [4, 5]) (by kernel_rfl) ho hdeps
      have e31 := F 4 31 _ (hdd 4 (by simp)) rfl rfl
      have e32 := F 5 32 _ (hdd 5 (by simp)) rfl rfl
      have h7 : f 7 = false := by
        cases h : f 7 with
        | false => rfl
        | true =>
          have h6 := (hC.deps (l := [6]) h (by kernel_rfl)) 6 (by simp)
          rw [hfi] at h6; cases h6
      rcases hw with ⟨_, h9, htE, hX, hmA, hA, hmR, hR, ⟨dd, rfl⟩, _⟩ | ⟨h, _⟩
      rotate_left
      · rw [h7] at h; cases h
      refine Walk.back ?_ dd
      clear hdeps ho hC hdd
      have hv := lv_w (main := K.main) (V := K.V e) o n (by omega) (K.w e) (fun b hb => K.newA e b hb)
      simp only [tmC] at hr ⊢
      refine Walk.callW (Post := NewLs n ((List.range n).map (sqVal o)) (K.w e)) ?_ (ho_of (by conv => lhs; whnf) (by kernel_rfl)) (by rfl) (by decide) rfl Try.func40 (by kernel_rfl) (by rfl) ?_
      · walk_nrm
        simp only [e31, e32]
        exact hv
      rintro v w1 ⟨ta, tc, rfl, hN, hold, hsz⟩
      obtain ⟨e1, m1⟩ := K.grow e (w' := w1) hsz hold
      have hXl : X < (K.w e).heap.size := (Array.getElem?_eq_some_iff.1 hX).1
      have hRl : R < (K.w e).heap.size := (Array.getElem?_eq_some_iff.1 hR).1
      have hAl : A < (K.w e).heap.size := (Array.getElem?_eq_some_iff.1 hA).1
      refine LW.to (l := fr :: l) m1 ?_
      unfold LW
      walk_nrm
      refine hr _ (e1, K.w e1) ⟨upd (upd u 1006 undef) 33 (.slice ta n tc), ?_, Facts.other (F.set (by decide) rfl rfl) (by decide), .inl ⟨by rw [upd_ne _ _ (by decide)]; exact h7, by rw [upd_ne _ _ (by decide)]; exact h9, by rw [m1.tgt, m1.s]; exact htE, by rw [m1.w, hold X hXl]; exact hX, (m1.mine A).2 (.inl hmA), by rw [m1.w, hold A hAl]; exact hA, (m1.mine R).2 (.inl hmR), by rw [m1.w, hold R hRl]; exact hR, ⟨(K.w e1).drawn, rfl⟩, fun _ => ⟨ta, tc, upd_same _ _ _, by rw [m1.w]; exact hN⟩⟩⟩
      simp [tmC, upd, e31, e32]
    | 7, _ =>
      have hdd := deps_of (l := [0, 1, 3, 6]) (by kernel_rfl) ho hdeps
      have e27 := F 0 27 _ (hdd 0 (by simp)) rfl rfl
      have e28 := F 1 28 _ (hdd 1 (by simp)) rfl rfl
      have e30 := F 3 30 _ (hdd 3 (by simp)) rfl rfl
      have h6 := hdd 6 (by simp)
      rcases hw with ⟨_, h9, htE, hX, hmA, hA, hmR, hR, ⟨dd, rfl⟩, hB⟩ | ⟨h, _⟩
      rotate_left
      · rw [hfi] at h; cases h
      obtain ⟨ta, tc, e33, hsl⟩ := hB h6
      refine Walk.back ?_ dd
      clear hdeps ho hC hdd
      have hlen : ((List.range n).map (sqVal o)).length = n := by simp
      have hvi : ValsIn k (sqVal o) ((List.range n).map (sqVal o)) := fun i hi => by
        obtain rfl : n = k + 1 := by omega
        rw [List.take_of_length_le (by simp), padL_full hlen]
        simp [List.getElem?_range (show i < k + 1 by omega)]
      have hcall := SCall.fz K (add_s (Fz K e) (sqVal o) (fz0 K e) o.a (.slice ta n tc) ((List.range n).map (sqVal o)) hsl hvi htE)
      simp only [tmC] at hr ⊢
      refine (?_ : LW K.toLb e (G _ ((fr :: l) ++ K.bot e)))
      refine LW.callS (f := 24) (Q := fun x e' => ∃ h : Kept K e e', ChOut (Fz K e) x ⟨e', h⟩) ?_ (ho_of (by conv => lhs; whnf) (by kernel_rfl)) (by rfl) (by decide) rfl Try.func24 (by kernel_rfl) (by rfl) ⟨rfl, rfl, _, Try.func19⟩ (plain_cons hp hl) ?_
      · walk_nrm
        simp only [e27, e28, e30, e33]
        exact hcall
      rintro v e2 ⟨hkept, b, rfl, ht2⟩
      obtain ⟨hm2, hb2⟩ := hkept R hmR
      obtain ⟨hm3, hb3⟩ := hkept A hmA
      unfold LW
      walk_nrm
      refine hr _ (e2, K.w e2) ⟨upd (upd u 1007 undef) 34 (.bool b), ?_, Facts.other (F.set (by decide) rfl rfl) (by decide), .inr ⟨upd_same _ _ _, b, upd_same _ _ _, ht2, hm3, hb3.trans hA, hm2, hb2.trans hR, .inl ⟨by rw [upd_ne _ _ (by decide)]; exact h9, (K.w e2).drawn, rfl⟩⟩⟩
      simp [tmC, upd, e27, e28, e30, e33]
    | 8, _ =>
      clear hdeps ho hC hfi
      simp only [tmC] at hr ⊢
      (refine Walk.oq ?_; try walk_nrm)
      refine hr _ (e, w') ⟨upd u 35 (.pointer (some ⟨A, 0, none⟩)), ?_, F.set (by decide) rfl rfl, hw.quiet (by decide) (by decide)⟩
      simp [tmC, upd]
    | 9, _ =>
      have hdd := deps_of (l := [7, 8]) (by kernel_rfl) ho hdeps
      have h7 := hdd 7 (by simp)
      have e35 := F 8 35 _ (hdd 8 (by simp)) rfl rfl
      rcases hw with ⟨h, _⟩ | ⟨_, b, hb, htE, hmA, hA, hmR, hR, ⟨h9, dd, rfl⟩ | ⟨h9, _⟩⟩
      · rw [h7] at h; cases h
      rotate_left
      · rw [hfi] at h9; cases h9
      refine Walk.back ?_ dd
      have hap := (K.mineA e _ hmA).1
      have g30 : (K.w e).cell? ⟨A, 0, none⟩ = some (.bool true) := (cell_of hA 0).trans rfl
      have y30 := frozen_of hA 0
      clear hdeps ho hC hdd
      simp only [tmC, hb, e35] at hr ⊢
      (have hfr := hap.1 ⟨A, 0, none⟩ rfl; refine Walk.os hfr g30 ?_; clear hfr; try walk_nrm)
      refine hr _ (e, (K.w e).setCell ⟨A, 0, none⟩ (.bool b)) ⟨upd u 1009 undef, ?_, F.set (by decide) rfl rfl, .inr ⟨by rw [upd_ne _ _ (by decide)]; exact h7, b, by rw [upd_ne _ _ (by decide)]; exact hb, htE, hmA, hA, hmR, hR, .inr ⟨upd_same _ _ _, ((K.w e).setCell ⟨A, 0, none⟩ (.bool b)).drawn, rfl⟩⟩⟩
      simp [tmC, upd, hb, e35]
  · rintro f a ⟨e, w'⟩ ⟨u, rfl, F, hw⟩ hall
    have hsz : reg19_7.size = 10 := size19_7
    rcases hw with ⟨h, _⟩ | ⟨_, b, _, htE, hmA, hA, hmR, hR, ⟨h9, _⟩ | ⟨_, dd, hw'⟩⟩
    · rw [hall 7 (by omega)] at h; cases h
    · rw [hall 9 (by omega)] at h9; cases h9
    · dsimp only at hw' ⊢
      subst hw'
      exact Walk.back (hk u e b htE hmA hA hmR hR) dd
end
end
section
section
variable {lb k : Nat}
theorem call_s {sv : Value} (K : Lg (sqLa lb k) sv) (e : K.E) (th : Int) (n : Nat) (hn1 : n ≤ k + 1) (hn2 : k + 1 ≤ n) (ok oa ob oc : Int) (ht : K.tgt e = sqEnter (K.s e) th ⟨ok, oa, ob, oc⟩) :
    SCall K.toLb 19 #[.pointer (some ⟨lb, 0, none⟩), sv, .agg #[.int .i64 ok, .int .i64 oa, .int .i64 ob, .int .i64 oc], .int .i64 n] e (DoOut K) := by
  intro fr l hp hl hk
  have hk15 := (K.inv e).pos
  unfold LW
  rw [enter_at _ Try.func19 code19_is]
  simp only [Try.ntmps19, List.size_toArray, List.length_cons, List.length_nil, Nat.reduceAdd, Nat.reduceSub, Array.replicate_succ, Array.replicate_zero, List.push_toArray, List.append_toArray, List.nil_append, List.cons_append]
  repeat (first | refine Walk.c rfl ?_ | refine Walk.cRet ?_ | refine Walk.cEnd ?_ | (refine Walk.cReg ?_; simp only [size19_0, size19_1, size19_2, size19_4, size19_5, size19_6, size19_7, size19_8, size19_9, size19_10, size19_11, size19_12, size19_13, size19_3, size19_14, List.range, List.range.loop]) | (refine Walk.oq ?_; try walk_nrm) | (refine Walk.un ?_; walk_nrm))
  (refine Walk.oa ?_; try walk_nrm)
  have s0 : ((K.w e).alloc (.cells #[.int .i64 ok, .int .i64 oa, .int .i64 ob, .int .i64 oc] 47)).heap.size = (K.w e).heap.size + 1 := by simp
  have o0 : ∀ b, b < (K.w e).heap.size → ((K.w e).alloc (.cells #[.int .i64 ok, .int .i64 oa, .int .i64 ob, .int .i64 oc] 47)).heap[b]? = (K.w e).heap[b]? := fun b hb => heap_new_lt _ _ hb
  have d0 := heap_alloc_new (K.w e) (.cells #[.int .i64 ok, .int .i64 oa, .int .i64 ob, .int .i64 oc] 47)
  generalize hN : (K.w e).heap.size = N at *
  generalize (K.w e).alloc (.cells #[.int .i64 ok, .int .i64 oa, .int .i64 ob, .int .i64 oc] 47) = x0 at *
  (refine Walk.oa ?_; try walk_nrm)
  have s1 : (x0.alloc (.cells #[.bool false, .int .i64 0, .slice none 0 0] 44)).heap.size = N + 2 := by simp [s0]
  have o1 : ∀ b, b < N + 1 → (x0.alloc (.cells #[.bool false, .int .i64 0, .slice none 0 0] 44)).heap[b]? = x0.heap[b]? := fun b hb => heap_new_lt _ _ (by omega)
  have d1 : (x0.alloc (.cells #[.bool false, .int .i64 0, .slice none 0 0] 44)).heap[N + 1]? = some (.cells #[.bool false, .int .i64 0, .slice none 0 0] 44) := s0 ▸ heap_alloc_new x0 (.cells #[.bool false, .int .i64 0, .slice none 0 0] 44)
  try simp only [s0]
  generalize x0.alloc (.cells #[.bool false, .int .i64 0, .slice none 0 0] 44) = x1 at *
  repeat (first | refine Walk.c rfl ?_ | refine Walk.cRet ?_ | refine Walk.cEnd ?_ | (refine Walk.cReg ?_; simp only [size19_0, size19_1, size19_2, size19_4, size19_5, size19_6, size19_7, size19_8, size19_9, size19_10, size19_11, size19_12, size19_13, size19_3, size19_14, List.range, List.range.loop]) | (refine Walk.oq ?_; try walk_nrm) | (refine Walk.un ?_; walk_nrm))
  (refine Walk.oa ?_; try walk_nrm)
  have s2 : (x1.alloc (.cells #[.bool false, .int .i64 0, .slice none 0 0] 44)).heap.size = N + 3 := by simp [s1]
  have o2 : ∀ b, b < N + 2 → (x1.alloc (.cells #[.bool false, .int .i64 0, .slice none 0 0] 44)).heap[b]? = x1.heap[b]? := fun b hb => heap_new_lt _ _ (by omega)
  have d2 : (x1.alloc (.cells #[.bool false, .int .i64 0, .slice none 0 0] 44)).heap[N + 2]? = some (.cells #[.bool false, .int .i64 0, .slice none 0 0] 44) := s1 ▸ heap_alloc_new x1 (.cells #[.bool false, .int .i64 0, .slice none 0 0] 44)
  try simp only [s1]
  generalize x1.alloc (.cells #[.bool false, .int .i64 0, .slice none 0 0] 44) = x2 at *
  obtain ⟨e1, m1⟩ := K.grow e (w' := x2) (by omega) (fun b hb' => (o2 b (by omega)).trans ((o1 b (by omega)).trans (o0 b (by omega))))
  have hmn : K.mine e1 (N + 1) := m1.new (by omega) (by omega)
  have hmo : K.mine e1 (N + 2) := m1.new (by omega) (by omega)
  have c1 : x2.heap[N]? = some (.cells #[.int .i64 ok, .int .i64 oa, .int .i64 ob, .int .i64 oc] 47) := (o2 _ (by omega)).trans ((o1 _ (by omega)).trans d0)
  have c2 : x2.heap[N + 1]? = some (.cells #[.bool false, .int .i64 0, .slice none 0 0] 44) := (o2 _ (by omega)).trans d1
  have c3 : x2.heap[N + 2]? = some (.cells #[.bool false, .int .i64 0, .slice none 0 0] 44) := d2
  have ht1 : K.tgt e1 = sqEnter (K.s e1) th ⟨ok, oa, ob, oc⟩ := by rw [m1.tgt, m1.s]; exact ht
  clear d0 d1 d2 s0 s1 s2 o0 o1 o2
  have hw1 := m1.w
  refine LW.to (l := fr :: l) m1 ?_
  unfold LW
  clear m1 ht
  subst hw1
  have hapN := (K.mineA e1 _ hmn).1
  have hapO := (K.mineA e1 _ hmo).1
  refine Walk.storeS 44 (.tmp 9) (.tmp 10) (ho_of (by conv => lhs; whnf) (by kernel_rfl)) (by rfl) (by decide) rfl (N + 2) #[.bool true, .int .i64 0, .slice none 0 0] _ 44 rfl rfl c3 (by kernel_rfl) (by rfl) (by simp [Value.oneCell']) hapO ?_
  obtain ⟨e2, m2⟩ := K.own e1 (w' := (K.w e1).setRow (N + 2) #[.bool true, .int .i64 0, .slice none 0 0]) (by rw [setRow_size]; exact Nat.le_refl _) (fun b _ hbm => setRow_other _ _ (fun he : b = N + 2 => hbm (by rw [he]; exact hmo)))
  have c1' : ((K.w e1).setRow (N + 2) #[.bool true, .int .i64 0, .slice none 0 0]).heap[N]? = some (.cells #[.int .i64 ok, .int .i64 oa, .int .i64 ob, .int .i64 oc] 47) := (setRow_other _ _ (by omega)).trans c1
  have c2' : ((K.w e1).setRow (N + 2) #[.bool true, .int .i64 0, .slice none 0 0]).heap[N + 1]? = some (.cells #[.bool false, .int .i64 0, .slice none 0 0] 44) := (setRow_other _ _ (by omega)).trans c2
  have c3' := setRow_self (cells := #[.bool true, .int .i64 0, .slice none 0 0]) c3
  have hmn' : K.mine e2 (N + 1) := (m2.mine _).2 (.inl hmn)
  have hmo' : K.mine e2 (N + 2) := (m2.mine _).2 (.inl hmo)
  have ht2 : K.tgt e2 = sqEnter (K.s e2) th ⟨ok, oa, ob, oc⟩ := by rw [m2.tgt, m2.s]; exact ht1
  generalize (K.w e1).setRow (N + 2) #[.bool true, .int .i64 0, .slice none 0 0] = x3 at *
  have hw2 := m2.w
  refine LW.to (l := fr :: l) m2 ?_
  unfold LW
  clear m2 ht1 c1 c2 c3 hmn hmo hapN hapO
  subst hw2
  have hap0 := (K.mineA e2 _ hmn').1
  obtain ⟨fsA, huA⟩ := structT 44 (by kernel_rfl)
  have d0 := (cell_of c1' 0).trans rfl
  have d1 := (cell_of c1' 1).trans rfl
  have d2 := (cell_of c1' 2).trans rfl
  have d3 := (cell_of c1' 3).trans rfl
  try walk_nrm
  repeat (first | refine Walk.c rfl ?_ | refine Walk.cRet ?_ | refine Walk.cEnd ?_ | (refine Walk.cReg ?_; simp only [size19_0, size19_1, size19_2, size19_4, size19_5, size19_6, size19_7, size19_8, size19_9, size19_10, size19_11, size19_12, size19_13, size19_3, size19_14, List.range, List.range.loop]) | (refine Walk.oq ?_; try walk_nrm) | (refine Walk.un ?_; walk_nrm))
  by_cases h1 : ok = 1
  · subst h1
    have ht3 : K.tgt e2 = (K.s e2, .inr (.w1 false (sqTr oa) (sqVal ⟨1, oa, ob, oc⟩))) := ht2
    repeat (first | refine Walk.c rfl ?_ | refine Walk.cRet ?_ | refine Walk.cEnd ?_ | (refine Walk.cReg ?_; simp only [size19_0, size19_1, size19_2, size19_4, size19_5, size19_6, size19_7, size19_8, size19_9, size19_10, size19_11, size19_12, size19_13, size19_3, size19_14, List.range, List.range.loop]) | (refine Walk.oq ?_; try walk_nrm) | (refine Walk.un ?_; walk_nrm))
    refine caW_reg K n hn1 hn2 ⟨1, oa, ob, oc⟩ N (N + 1) (N + 2) hp hl e2 _ (by simp only [tmC]; rfl) c1' hmo' c3' hmn' c2' ht3 _ ?_
    intro u e2' b ht4 hm3 hb3 hm2 hb2
    have hls2 : ListOK K e2' (.slice none 0 0) (⟨b, 0, []⟩ : Ans).l := .inl ⟨rfl, rfl⟩
    clear c1' c2' c3' d0 d1 d2 d3 hmn' hmo' hap0
    simp only [tmC]
    have b30 : ((K.w e2').setCell ⟨N + 2, 0, none⟩ (.bool b)).heap[N + 2]? = some (.cells #[.bool b, .int .i64 0, .slice none 0 0] 44) := by
      rw [heap_set_self _ _ hb3]
      simp
    have o30 : ∀ z, z ≠ N + 2 → ((K.w e2').setCell ⟨N + 2, 0, none⟩ (.bool b)).heap[z]? = (K.w e2').heap[z]? := fun z hb => heap_set_other _ _ _ _ hb
    have z30 : ((K.w e2').setCell ⟨N + 2, 0, none⟩ (.bool b)).heap.size = (K.w e2').heap.size := size_set _ _ _
    obtain ⟨e3, m3⟩ := K.own e2' (w' := ((K.w e2').setCell ⟨N + 2, 0, none⟩ (.bool b))) (Nat.le_of_eq z30.symm) (fun b _ hbm => o30 b (fun he : b = N + 2 => hbm (by rw [he]; exact hm3)))
    have b2 := (o30 (N + 1) (by omega)).trans hb2
    have hm2' : K.mine e3 (N + 1) := (m3.mine _).2 (.inl hm2)
    have ht5 : K.tgt e3 = (K.s e3, .inl ⟨b, 0, []⟩) := by rw [m3.tgt, m3.s]; exact ht4
    have hls3 : ListOK K e3 (.slice none 0 0) (⟨b, 0, []⟩ : Ans).l := hls2.keep (fun b h => (m3.mine b).2 (.inl h)) fun b _ hb => by
      rw [m3.w]
      exact o30 b (hls2.ne hb3 b hb)
    have b2' : (K.w e3).heap[N + 1]? = some (.cells #[.bool false, .int .i64 0, .slice none 0 0] 44) := by rw [m3.w]; exact b2
    have hcb := fun fr' hfr => cell_back K (F := 19) (fr := fr') (c := fr) (l := l) (a := ⟨b, 0, []⟩) (sl := .slice none 0 0) hm2' b2' ht5 hls3 (fun e' h h' => hk _ e' ⟨_, _, h, rfl, h', by simp⟩) Try.func19 rfl hfr
    have b3 := b30
    clear b30 o30 z30
    generalize ((K.w e2').setCell ⟨N + 2, 0, none⟩ (.bool b)) = x4 at *
    have hw3 := m3.w
    refine LW.to (l := fr :: l) m3 ?_
    unfold LW
    clear m3
    subst hw3
    try walk_nrm
    repeat (first | refine Walk.c rfl ?_ | refine Walk.cRet ?_ | refine Walk.cEnd ?_ | (refine Walk.cReg ?_; simp only [size19_0, size19_1, size19_2, size19_4, size19_5, size19_6, size19_7, size19_8, size19_9, size19_10, size19_11, size19_12, size19_13, size19_3, size19_14, List.range, List.range.loop]) | (refine Walk.oq ?_; try walk_nrm) | (refine Walk.un ?_; walk_nrm))
    refine Walk.loadS 44 (.tmp 9) (ho_of (by conv => lhs; whnf) (by kernel_rfl)) (by rfl) (by decide) rfl (N + 2) 0 [.bool b, .int .i64 0, .slice none 0 0] (.struct fsA) rfl (fun j v hj => ?_) huA rfl (by kernel_rfl) ?_
    · rw [Nat.zero_add, cell_of b3]
      simpa using hj
    walk_nrm
    refine Walk.storeS 44 (.tmp 8) (.tmp 66) (ho_of (by conv => lhs; whnf) (by kernel_rfl)) (by rfl) (by decide) rfl (N + 1) #[.bool b, .int .i64 0, .slice none 0 0] _ 44 rfl rfl b2 (by kernel_rfl) (by rfl) (by simp [Value.oneCell']) (K.mineA e3 _ hm2').1 ?_
    walk_nrm
    repeat (first | refine Walk.c rfl ?_ | refine Walk.cRet ?_ | refine Walk.cEnd ?_ | (refine Walk.cReg ?_; simp only [size19_0, size19_1, size19_2, size19_4, size19_5, size19_6, size19_7, size19_8, size19_9, size19_10, size19_11, size19_12, size19_13, size19_3, size19_14, List.range, List.range.loop]) | (refine Walk.oq ?_; try walk_nrm) | (refine Walk.un ?_; walk_nrm))
    exact hcb _ ⟨rfl, rfl, rfl, rfl, rfl⟩
  have hbk1 : (ok == 1) = false := by simp [h1]
  simp only [hbk1]
  repeat (first | refine Walk.c rfl ?_ | refine Walk.cRet ?_ | refine Walk.cEnd ?_ | (refine Walk.cReg ?_; simp only [size19_0, size19_1, size19_2, size19_4, size19_5, size19_6, size19_7, size19_8, size19_9, size19_10, size19_11, size19_12, size19_13, size19_3, size19_14, List.range, List.range.loop]) | (refine Walk.oq ?_; try walk_nrm) | (refine Walk.un ?_; walk_nrm))
  by_cases h2 : ok = 2
  · subst h2
    have ht3 : K.tgt e2 = (K.s e2, .inr (.w1 true (sqTr oa) (sqVal ⟨2, oa, ob, oc⟩))) := ht2
    repeat (first | refine Walk.c rfl ?_ | refine Walk.cRet ?_ | refine Walk.cEnd ?_ | (refine Walk.cReg ?_; simp only [size19_0, size19_1, size19_2, size19_4, size19_5, size19_6, size19_7, size19_8, size19_9, size19_10, size19_11, size19_12, size19_13, size19_3, size19_14, List.range, List.range.loop]) | (refine Walk.oq ?_; try walk_nrm) | (refine Walk.un ?_; walk_nrm))
    refine caA_reg K n hn1 hn2 ⟨2, oa, ob, oc⟩ N (N + 1) (N + 2) hp hl e2 _ (by simp only [tmC]; rfl) c1' hmo' c3' hmn' c2' ht3 _ ?_
    intro u e2' b ht4 hm3 hb3 hm2 hb2
    have hls2 : ListOK K e2' (.slice none 0 0) (⟨b, 0, []⟩ : Ans).l := .inl ⟨rfl, rfl⟩
    clear c1' c2' c3' d0 d1 d2 d3 hmn' hmo' hap0
    simp only [tmC]
    have b30 : ((K.w e2').setCell ⟨N + 2, 0, none⟩ (.bool b)).heap[N + 2]? = some (.cells #[.bool b, .int .i64 0, .slice none 0 0] 44) := by
      rw [heap_set_self _ _ hb3]
      simp
    have o30 : ∀ z, z ≠ N + 2 → ((K.w e2').setCell ⟨N + 2, 0, none⟩ (.bool b)).heap[z]? = (K.w e2').heap[z]? := fun z hb => heap_set_other _ _ _ _ hb
    have z30 : ((K.w e2').setCell ⟨N + 2, 0, none⟩ (.bool b)).heap.size = (K.w e2').heap.size := size_set _ _ _
    obtain ⟨e3, m3⟩ := K.own e2' (w' := ((K.w e2').setCell ⟨N + 2, 0, none⟩ (.bool b))) (Nat.le_of_eq z30.symm) (fun b _ hbm => o30 b (fun he : b = N + 2 => hbm (by rw [he]; exact hm3)))
    have b2 := (o30 (N + 1) (by omega)).trans hb2
    have hm2' : K.mine e3 (N + 1) := (m3.mine _).2 (.inl hm2)
    have ht5 : K.tgt e3 = (K.s e3, .inl ⟨b, 0, []⟩) := by rw [m3.tgt, m3.s]; exact ht4
    have hls3 : ListOK K e3 (.slice none 0 0) (⟨b, 0, []⟩ : Ans).l := hls2.keep (fun b h => (m3.mine b).2 (.inl h)) fun b _ hb => by
      rw [m3.w]
      exact o30 b (hls2.ne hb3 b hb)
    have b2' : (K.w e3).heap[N + 1]? = some (.cells #[.bool false, .int .i64 0, .slice none 0 0] 44) := by rw [m3.w]; exact b2
    have hcb := fun fr' hfr => cell_back K (F := 19) (fr := fr') (c := fr) (l := l) (a := ⟨b, 0, []⟩) (sl := .slice none 0 0) hm2' b2' ht5 hls3 (fun e' h h' => hk _ e' ⟨_, _, h, rfl, h', by simp⟩) Try.func19 rfl hfr
    have b3 := b30
    clear b30 o30 z30
    generalize ((K.w e2').setCell ⟨N + 2, 0, none⟩ (.bool b)) = x4 at *
    have hw3 := m3.w
    refine LW.to (l := fr :: l) m3 ?_
    unfold LW
    clear m3
    subst hw3
    try walk_nrm
    repeat (first | refine Walk.c rfl ?_ | refine Walk.cRet ?_ | refine Walk.cEnd ?_ | (refine Walk.cReg ?_; simp only [size19_0, size19_1, size19_2, size19_4, size19_5, size19_6, size19_7, size19_8, size19_9, size19_10, size19_11, size19_12, size19_13, size19_3, size19_14, List.range, List.range.loop]) | (refine Walk.oq ?_; try walk_nrm) | (refine Walk.un ?_; walk_nrm))
    refine Walk.loadS 44 (.tmp 9) (ho_of (by conv => lhs; whnf) (by kernel_rfl)) (by rfl) (by decide) rfl (N + 2) 0 [.bool b, .int .i64 0, .slice none 0 0] (.struct fsA) rfl (fun j v hj => ?_) huA rfl (by kernel_rfl) ?_
    · rw [Nat.zero_add, cell_of b3]
      simpa using hj
    walk_nrm
    refine Walk.storeS 44 (.tmp 8) (.tmp 66) (ho_of (by conv => lhs; whnf) (by kernel_rfl)) (by rfl) (by decide) rfl (N + 1) #[.bool b, .int .i64 0, .slice none 0 0] _ 44 rfl rfl b2 (by kernel_rfl) (by rfl) (by simp [Value.oneCell']) (K.mineA e3 _ hm2').1 ?_
    walk_nrm
    repeat (first | refine Walk.c rfl ?_ | refine Walk.cRet ?_ | refine Walk.cEnd ?_ | (refine Walk.cReg ?_; simp only [size19_0, size19_1, size19_2, size19_4, size19_5, size19_6, size19_7, size19_8, size19_9, size19_10, size19_11, size19_12, size19_13, size19_3, size19_14, List.range, List.range.loop]) | (refine Walk.oq ?_; try walk_nrm) | (refine Walk.un ?_; walk_nrm))
    exact hcb _ ⟨rfl, rfl, rfl, rfl, rfl⟩
  have hbk2 : (ok == 2) = false := by simp [h2]
  simp only [hbk2]
  repeat (first | refine Walk.c rfl ?_ | refine Walk.cRet ?_ | refine Walk.cEnd ?_ | (refine Walk.cReg ?_; simp only [size19_0, size19_1, size19_2, size19_4, size19_5, size19_6, size19_7, size19_8, size19_9, size19_10, size19_11, size19_12, size19_13, size19_3, size19_14, List.range, List.range.loop]) | (refine Walk.oq ?_; try walk_nrm) | (refine Walk.un ?_; walk_nrm))
  by_cases h3 : ok = 3
  · subst h3
    have ht3 : K.tgt e2 = (K.s e2, .inr (.r1 (sqTr oa))) := ht2
    repeat (first | refine Walk.c rfl ?_ | refine Walk.cRet ?_ | refine Walk.cEnd ?_ | (refine Walk.cReg ?_; simp only [size19_0, size19_1, size19_2, size19_4, size19_5, size19_6, size19_7, size19_8, size19_9, size19_10, size19_11, size19_12, size19_13, size19_3, size19_14, List.range, List.range.loop]) | (refine Walk.oq ?_; try walk_nrm) | (refine Walk.un ?_; walk_nrm))
    have hg := SCall.fz K (read_s (Fz K e2) (fz0 K e2) oa ht3)
    refine LW.callS (K := K.toLb) (e := e2) (l := fr :: l) (f := 25) (Q := fun x e' => ∃ h : Kept K e2 e', ReadOut (Fz K e2) x ⟨e', h⟩) ?_ (ho_of (by conv => lhs; whnf) (by kernel_rfl)) (by rfl) (by decide) rfl Try.func25 (by kernel_rfl) (by rfl) ⟨rfl, rfl, _, Try.func19⟩ (plain_cons hp hl) ?_
    · walk_nrm
      exact hg
    rintro x e2' ⟨hkept, sl, b, ls, rfl, hls, hln, ht4⟩
    obtain ⟨hm2, hb2⟩ := hkept (N + 1) hmn'
    obtain ⟨hm3, hb3⟩ := hkept (N + 2) hmo'
    rw [c2'] at hb2
    rw [c3'] at hb3
    have hap3 := (K.mineA e2' _ hm3).1
    replace ht4 : K.tgt e2' = (K.s e2', .inl ⟨b, 0, ls⟩) := ht4
    have hls2 : ListOK K e2' sl (⟨b, 0, ls⟩ : Ans).l := by
      rcases hls with h | ⟨B, h1, h2, h3⟩
      · exact .inl h
      · exact .inr ⟨B, h1, h2.1, h3⟩
    obtain ⟨sa, sc, rfl⟩ : ∃ sa sc, sl = .slice sa ls.length sc := by
      obtain ⟨x, y, h, _⟩ := hls2.lsR
      exact ⟨x, y, h⟩
    clear hls
    clear hg hkept c1' c2' c3' d0 d1 d2 d3 hmn' hmo' hap0
    unfold LW
    walk_nrm
    repeat (first | (refine Walk.oq ?_; try walk_nrm) | (refine Walk.un ?_; walk_nrm))
    have g30 : (K.w e2').cell? ⟨N + 2, 2, none⟩ = some (.slice none 0 0) := (cell_of hb3 2).trans rfl
    have y30 := frozen_of hb3 2
    (have hfr := hap3.1 ⟨N + 2, 2, none⟩ rfl; refine Walk.os hfr g30 ?_; clear hfr; try walk_nrm)
    clear g30 y30
    have b30 : ((K.w e2').setCell ⟨N + 2, 2, none⟩ (.slice sa ls.length sc)).heap[N + 2]? = some (.cells #[.bool true, .int .i64 0, .slice sa ls.length sc] 44) := by
      rw [heap_set_self _ _ hb3]
      simp
    have o30 : ∀ z, z ≠ N + 2 → ((K.w e2').setCell ⟨N + 2, 2, none⟩ (.slice sa ls.length sc)).heap[z]? = (K.w e2').heap[z]? := fun z hb => heap_set_other _ _ _ _ hb
    have z30 : ((K.w e2').setCell ⟨N + 2, 2, none⟩ (.slice sa ls.length sc)).heap.size = (K.w e2').heap.size := size_set _ _ _
    try walk_nrm
    repeat (first | (refine Walk.oq ?_; try walk_nrm) | (refine Walk.un ?_; walk_nrm))
    have g31 : ((K.w e2').setCell ⟨N + 2, 2, none⟩ (.slice sa ls.length sc)).cell? ⟨N + 2, 0, none⟩ = some (.bool true) := (cell_of b30 0).trans rfl
    have y31 := frozen_of b30 0
    (have hfr := hap3.1 ⟨N + 2, 0, none⟩ rfl; refine Walk.os hfr g31 ?_; clear hfr; try walk_nrm)
    clear g31 y31
    have b31 : (((K.w e2').setCell ⟨N + 2, 2, none⟩ (.slice sa ls.length sc)).setCell ⟨N + 2, 0, none⟩ (.bool b)).heap[N + 2]? = some (.cells #[.bool b, .int .i64 0, .slice sa ls.length sc] 44) := by
      rw [heap_set_self _ _ b30]
      simp
    have o31 : ∀ z, z ≠ N + 2 → (((K.w e2').setCell ⟨N + 2, 2, none⟩ (.slice sa ls.length sc)).setCell ⟨N + 2, 0, none⟩ (.bool b)).heap[z]? = (K.w e2').heap[z]? := fun z hb => (heap_set_other _ _ _ _ hb).trans (o30 z hb)
    have z31 : (((K.w e2').setCell ⟨N + 2, 2, none⟩ (.slice sa ls.length sc)).setCell ⟨N + 2, 0, none⟩ (.bool b)).heap.size = (K.w e2').heap.size := (size_set _ _ _).trans z30
    obtain ⟨e3, m3⟩ := K.own e2' (w' := (((K.w e2').setCell ⟨N + 2, 2, none⟩ (.slice sa ls.length sc)).setCell ⟨N + 2, 0, none⟩ (.bool b))) (Nat.le_of_eq z31.symm) (fun b _ hbm => o31 b (fun he : b = N + 2 => hbm (by rw [he]; exact hm3)))
    have b2 := (o31 (N + 1) (by omega)).trans hb2
    have hm2' : K.mine e3 (N + 1) := (m3.mine _).2 (.inl hm2)
    have ht5 : K.tgt e3 = (K.s e3, .inl ⟨b, 0, ls⟩) := by rw [m3.tgt, m3.s]; exact ht4
    have hls3 : ListOK K e3 (.slice sa ls.length sc) (⟨b, 0, ls⟩ : Ans).l := hls2.keep (fun b h => (m3.mine b).2 (.inl h)) fun b _ hb => by
      rw [m3.w]
      exact o31 b (hls2.ne hb3 b hb)
    have b2' : (K.w e3).heap[N + 1]? = some (.cells #[.bool false, .int .i64 0, .slice none 0 0] 44) := by rw [m3.w]; exact b2
    have hcb := fun fr' hfr => cell_back K (F := 19) (fr := fr') (c := fr) (l := l) (a := ⟨b, 0, ls⟩) (sl := .slice sa ls.length sc) hm2' b2' ht5 hls3 (fun e' h h' => hk _ e' ⟨_, _, h, rfl, h', hln⟩) Try.func19 rfl hfr
    have b3 := b31
    clear b31 o31 z31 b30 o30 z30
    generalize (((K.w e2').setCell ⟨N + 2, 2, none⟩ (.slice sa ls.length sc)).setCell ⟨N + 2, 0, none⟩ (.bool b)) = x4 at *
    have hw3 := m3.w
    refine LW.to (l := fr :: l) m3 ?_
    unfold LW
    clear m3
    subst hw3
    try walk_nrm
    repeat (first | refine Walk.c rfl ?_ | refine Walk.cRet ?_ | refine Walk.cEnd ?_ | (refine Walk.cReg ?_; simp only [size19_0, size19_1, size19_2, size19_4, size19_5, size19_6, size19_7, size19_8, size19_9, size19_10, size19_11, size19_12, size19_13, size19_3, size19_14, List.range, List.range.loop]) | (refine Walk.oq ?_; try walk_nrm) | (refine Walk.un ?_; walk_nrm))
    refine Walk.loadS 44 (.tmp 9) (ho_of (by conv => lhs; whnf) (by kernel_rfl)) (by rfl) (by decide) rfl (N + 2) 0 [.bool b, .int .i64 0, .slice sa ls.length sc] (.struct fsA) rfl (fun j v hj => ?_) huA rfl (by kernel_rfl) ?_
    · rw [Nat.zero_add, cell_of b3]
      simpa using hj
    walk_nrm
    refine Walk.storeS 44 (.tmp 8) (.tmp 66) (ho_of (by conv => lhs; whnf) (by kernel_rfl)) (by rfl) (by decide) rfl (N + 1) #[.bool b, .int .i64 0, .slice sa ls.length sc] _ 44 rfl rfl b2 (by kernel_rfl) (by rfl) (by simp [Value.oneCell']) (K.mineA e3 _ hm2').1 ?_
    walk_nrm
    repeat (first | refine Walk.c rfl ?_ | refine Walk.cRet ?_ | refine Walk.cEnd ?_ | (refine Walk.cReg ?_; simp only [size19_0, size19_1, size19_2, size19_4, size19_5, size19_6, size19_7, size19_8, size19_9, size19_10, size19_11, size19_12, size19_13, size19_3, size19_14, List.range, List.range.loop]) | (refine Walk.oq ?_; try walk_nrm) | (refine Walk.un ?_; walk_nrm))
    exact hcb _ ⟨rfl, rfl, rfl, rfl, rfl⟩
  have hbk3 : (ok == 3) = false := by simp [h3]
  simp only [hbk3]
  repeat (first | refine Walk.c rfl ?_ | refine Walk.cRet ?_ | refine Walk.cEnd ?_ | (refine Walk.cReg ?_; simp only [size19_0, size19_1, size19_2, size19_4, size19_5, size19_6, size19_7, size19_8, size19_9, size19_10, size19_11, size19_12, size19_13, size19_3, size19_14, List.range, List.range.loop]) | (refine Walk.oq ?_; try walk_nrm) | (refine Walk.un ?_; walk_nrm))
  by_cases h4 : ok = 4
  · subst h4
    have ht3 : K.tgt e2 = (K.s e2, .inr (.q 0 [])) := ht2
    repeat (first | refine Walk.c rfl ?_ | refine Walk.cRet ?_ | refine Walk.cEnd ?_ | (refine Walk.cReg ?_; simp only [size19_0, size19_1, size19_2, size19_4, size19_5, size19_6, size19_7, size19_8, size19_9, size19_10, size19_11, size19_12, size19_13, size19_3, size19_14, List.range, List.range.loop]) | (refine Walk.oq ?_; try walk_nrm) | (refine Walk.un ?_; walk_nrm))
    have hg := SCall.fz K (raw_s (Fz K e2) (fun i l => if i = k + 1 then .inl ⟨true, 0, l⟩ else .inr (.q i l)) .q (fun i l hi => if_neg (by omega)) (fun s i l hi => by
      show (s, if i = k then _ else _) = _
      by_cases h : i = k
      · rw [if_pos h, if_pos (by omega)]
      · rw [if_neg h, if_neg (by omega)]) (fz0 K e2) (ht3.trans (by rw [if_neg (by omega)]; rfl)))
    refine LW.callS (K := K.toLb) (e := e2) (l := fr :: l) (f := 31) (Q := fun x e' => ∃ h : Kept K e2 e', RawOut (Fz K e2) (fun i l => if i = k + 1 then .inl ⟨true, 0, l⟩ else .inr (.q i l)) x ⟨e', h⟩) ?_ (ho_of (by conv => lhs; whnf) (by kernel_rfl)) (by rfl) (by decide) rfl Try.func31 (by kernel_rfl) (by rfl) ⟨rfl, rfl, _, Try.func19⟩ (plain_cons hp hl) ?_
    · walk_nrm
      exact hg
    rintro x e2' ⟨hkept, B, ls, rfl, hlen, hmB, hNB, ht4⟩
    obtain ⟨hm2, hb2⟩ := hkept (N + 1) hmn'
    obtain ⟨hm3, hb3⟩ := hkept (N + 2) hmo'
    rw [c2'] at hb2
    rw [c3'] at hb3
    have hap3 := (K.mineA e2' _ hm3).1
    replace ht4 : K.tgt e2' = (K.s e2', .inl ⟨true, 0, ls⟩) := by
      refine Eq.trans ht4 (Prod.ext rfl ?_)
      exact if_pos rfl
    have hls2 : ListOK K e2' (.slice (some ⟨B, 0, none⟩) (k + 1) (k + 1)) (⟨true, 0, ls⟩ : Ans).l := .inr ⟨B, by rw [hlen], hmB.1, hNB⟩
    have hln : ls.length ≤ 16 := by omega
    clear hNB hmB hlen
    clear hg hkept c1' c2' c3' d0 d1 d2 d3 hmn' hmo' hap0
    unfold LW
    walk_nrm
    repeat (first | (refine Walk.oq ?_; try walk_nrm) | (refine Walk.un ?_; walk_nrm))
    have g30 : (K.w e2').cell? ⟨N + 2, 2, none⟩ = some (.slice none 0 0) := (cell_of hb3 2).trans rfl
    have y30 := frozen_of hb3 2
    (have hfr := hap3.1 ⟨N + 2, 2, none⟩ rfl; refine Walk.os hfr g30 ?_; clear hfr; try walk_nrm)
    clear g30 y30
    have b30 : ((K.w e2').setCell ⟨N + 2, 2, none⟩ (.slice (some ⟨B, 0, none⟩) (k + 1) (k + 1))).heap[N + 2]? = some (.cells #[.bool true, .int .i64 0, .slice (some ⟨B, 0, none⟩) (k + 1) (k + 1)] 44) := by
      rw [heap_set_self _ _ hb3]
      simp
    have o30 : ∀ z, z ≠ N + 2 → ((K.w e2').setCell ⟨N + 2, 2, none⟩ (.slice (some ⟨B, 0, none⟩) (k + 1) (k + 1))).heap[z]? = (K.w e2').heap[z]? := fun z hb => heap_set_other _ _ _ _ hb
    have z30 : ((K.w e2').setCell ⟨N + 2, 2, none⟩ (.slice (some ⟨B, 0, none⟩) (k + 1) (k + 1))).heap.size = (K.w e2').heap.size := size_set _ _ _
    obtain ⟨e3, m3⟩ := K.own e2' (w' := ((K.w e2').setCell ⟨N + 2, 2, none⟩ (.slice (some ⟨B, 0, none⟩) (k + 1) (k + 1)))) (Nat.le_of_eq z30.symm) (fun b _ hbm => o30 b (fun he : b = N + 2 => hbm (by rw [he]; exact hm3)))
    have b2 := (o30 (N + 1) (by omega)).trans hb2
    have hm2' : K.mine e3 (N + 1) := (m3.mine _).2 (.inl hm2)
    have ht5 : K.tgt e3 = (K.s e3, .inl ⟨true, 0, ls⟩) := by rw [m3.tgt, m3.s]; exact ht4
    have hls3 : ListOK K e3 (.slice (some ⟨B, 0, none⟩) (k + 1) (k + 1)) (⟨true, 0, ls⟩ : Ans).l := hls2.keep (fun b h => (m3.mine b).2 (.inl h)) fun b _ hb => by
      rw [m3.w]
      exact o30 b (hls2.ne hb3 b hb)
    have b2' : (K.w e3).heap[N + 1]? = some (.cells #[.bool false, .int .i64 0, .slice none 0 0] 44) := by rw [m3.w]; exact b2
    have hcb := fun fr' hfr => cell_back K (F := 19) (fr := fr') (c := fr) (l := l) (a := ⟨true, 0, ls⟩) (sl := .slice (some ⟨B, 0, none⟩) (k + 1) (k + 1)) hm2' b2' ht5 hls3 (fun e' h h' => hk _ e' ⟨_, _, h, rfl, h', hln⟩) Try.func19 rfl hfr
    have b3 := b30
    clear b30 o30 z30
    generalize ((K.w e2').setCell ⟨N + 2, 2, none⟩ (.slice (some ⟨B, 0, none⟩) (k + 1) (k + 1))) = x4 at *
    have hw3 := m3.w
    refine LW.to (l := fr :: l) m3 ?_
    unfold LW
    clear m3
    subst hw3
    try walk_nrm
    repeat (first | refine Walk.c rfl ?_ | refine Walk.cRet ?_ | refine Walk.cEnd ?_ | (refine Walk.cReg ?_; simp only [size19_0, size19_1, size19_2, size19_4, size19_5, size19_6, size19_7, size19_8, size19_9, size19_10, size19_11, size19_12, size19_13, size19_3, size19_14, List.range, List.range.loop]) | (refine Walk.oq ?_; try walk_nrm) | (refine Walk.un ?_; walk_nrm))
    refine Walk.loadS 44 (.tmp 9) (ho_of (by conv => lhs; whnf) (by kernel_rfl)) (by rfl) (by decide) rfl (N + 2) 0 [.bool true, .int .i64 0, .slice (some ⟨B, 0, none⟩) (k + 1) (k + 1)] (.struct fsA) rfl (fun j v hj => ?_) huA rfl (by kernel_rfl) ?_
    · rw [Nat.zero_add, cell_of b3]
      simpa using hj
    walk_nrm
    refine Walk.storeS 44 (.tmp 8) (.tmp 66) (ho_of (by conv => lhs; whnf) (by kernel_rfl)) (by rfl) (by decide) rfl (N + 1) #[.bool true, .int .i64 0, .slice (some ⟨B, 0, none⟩) (k + 1) (k + 1)] _ 44 rfl rfl b2 (by kernel_rfl) (by rfl) (by simp [Value.oneCell']) (K.mineA e3 _ hm2').1 ?_
    walk_nrm
    repeat (first | refine Walk.c rfl ?_ | refine Walk.cRet ?_ | refine Walk.cEnd ?_ | (refine Walk.cReg ?_; simp only [size19_0, size19_1, size19_2, size19_4, size19_5, size19_6, size19_7, size19_8, size19_9, size19_10, size19_11, size19_12, size19_13, size19_3, size19_14, List.range, List.range.loop]) | (refine Walk.oq ?_; try walk_nrm) | (refine Walk.un ?_; walk_nrm))
    exact hcb _ ⟨rfl, rfl, rfl, rfl, rfl⟩
  have hbk4 : (ok == 4) = false := by simp [h4]
  simp only [hbk4]
  repeat (first | refine Walk.c rfl ?_ | refine Walk.cRet ?_ | refine Walk.cEnd ?_ | (refine Walk.cReg ?_; simp only [size19_0, size19_1, size19_2, size19_4, size19_5, size19_6, size19_7, size19_8, size19_9, size19_10, size19_11, size19_12, size19_13, size19_3, size19_14, List.range, List.range.loop]) | (refine Walk.oq ?_; try walk_nrm) | (refine Walk.un ?_; walk_nrm))
  by_cases h5 : ok = 5
  · subst h5
    have ht3 : K.tgt e2 = (K.s e2, .inr (.n1 oa)) := ht2
    repeat (first | refine Walk.c rfl ?_ | refine Walk.cRet ?_ | refine Walk.cEnd ?_ | (refine Walk.cReg ?_; simp only [size19_0, size19_1, size19_2, size19_4, size19_5, size19_6, size19_7, size19_8, size19_9, size19_10, size19_11, size19_12, size19_13, size19_3, size19_14, List.range, List.range.loop]) | (refine Walk.oq ?_; try walk_nrm) | (refine Walk.un ?_; walk_nrm))
    have hg := SCall.fz K (newer_s (Fz K e2) (fz0 K e2) oa ht3)
    refine LW.callS (K := K.toLb) (e := e2) (l := fr :: l) (f := 30) (Q := fun x e' => ∃ h : Kept K e2 e', NewerOut (Fz K e2) x ⟨e', h⟩) ?_ (ho_of (by conv => lhs; whnf) (by kernel_rfl)) (by rfl) (by decide) rfl Try.func30 (by kernel_rfl) (by rfl) ⟨rfl, rfl, _, Try.func19⟩ (plain_cons hp hl) ?_
    · walk_nrm
      exact hg
    rintro x e2' ⟨hkept, b, y, rfl, ht4⟩
    obtain ⟨hm2, hb2⟩ := hkept (N + 1) hmn'
    obtain ⟨hm3, hb3⟩ := hkept (N + 2) hmo'
    rw [c2'] at hb2
    rw [c3'] at hb3
    have hap3 := (K.mineA e2' _ hm3).1
    replace ht4 : K.tgt e2' = (K.s e2', .inl ⟨b, y, []⟩) := ht4
    have hls2 : ListOK K e2' (.slice none 0 0) (⟨b, y, []⟩ : Ans).l := .inl ⟨rfl, rfl⟩
    clear hg hkept c1' c2' c3' d0 d1 d2 d3 hmn' hmo' hap0
    unfold LW
    walk_nrm
    repeat (first | (refine Walk.oq ?_; try walk_nrm) | (refine Walk.un ?_; walk_nrm))
    have g30 : (K.w e2').cell? ⟨N + 2, 1, none⟩ = some (.int .i64 0) := (cell_of hb3 1).trans rfl
    have y30 := frozen_of hb3 1
    (have hfr := hap3.1 ⟨N + 2, 1, none⟩ rfl; refine Walk.os hfr g30 ?_; clear hfr; try walk_nrm)
    clear g30 y30
    have b30 : ((K.w e2').setCell ⟨N + 2, 1, none⟩ (.int .i64 y)).heap[N + 2]? = some (.cells #[.bool true, .int .i64 y, .slice none 0 0] 44) := by
      rw [heap_set_self _ _ hb3]
      simp
    have o30 : ∀ z, z ≠ N + 2 → ((K.w e2').setCell ⟨N + 2, 1, none⟩ (.int .i64 y)).heap[z]? = (K.w e2').heap[z]? := fun z hb => heap_set_other _ _ _ _ hb
    have z30 : ((K.w e2').setCell ⟨N + 2, 1, none⟩ (.int .i64 y)).heap.size = (K.w e2').heap.size := size_set _ _ _
    try walk_nrm
    repeat (first | (refine Walk.oq ?_; try walk_nrm) | (refine Walk.un ?_; walk_nrm))
    have g31 : ((K.w e2').setCell ⟨N + 2, 1, none⟩ (.int .i64 y)).cell? ⟨N + 2, 0, none⟩ = some (.bool true) := (cell_of b30 0).trans rfl
    have y31 := frozen_of b30 0
    (have hfr := hap3.1 ⟨N + 2, 0, none⟩ rfl; refine Walk.os hfr g31 ?_; clear hfr; try walk_nrm)
    clear g31 y31
    have b31 : (((K.w e2').setCell ⟨N + 2, 1, none⟩ (.int .i64 y)).setCell ⟨N + 2, 0, none⟩ (.bool b)).heap[N + 2]? = some (.cells #[.bool b, .int .i64 y, .slice none 0 0] 44) := by
      rw [heap_set_self _ _ b30]
      simp
    have o31 : ∀ z, z ≠ N + 2 → (((K.w e2').setCell ⟨N + 2, 1, none⟩ (.int .i64 y)).setCell ⟨N + 2, 0, none⟩ (.bool b)).heap[z]? = (K.w e2').heap[z]? := fun z hb => (heap_set_other _ _ _ _ hb).trans (o30 z hb)
    have z31 : (((K.w e2').setCell ⟨N + 2, 1, none⟩ (.int .i64 y)).setCell ⟨N + 2, 0, none⟩ (.bool b)).heap.size = (K.w e2').heap.size := (size_set _ _ _).trans z30
    obtain ⟨e3, m3⟩ := K.own e2' (w' := (((K.w e2').setCell ⟨N + 2, 1, none⟩ (.int .i64 y)).setCell ⟨N + 2, 0, none⟩ (.bool b))) (Nat.le_of_eq z31.symm) (fun b _ hbm => o31 b (fun he : b = N + 2 => hbm (by rw [he]; exact hm3)))
    have b2 := (o31 (N + 1) (by omega)).trans hb2
    have hm2' : K.mine e3 (N + 1) := (m3.mine _).2 (.inl hm2)
    have ht5 : K.tgt e3 = (K.s e3, .inl ⟨b, y, []⟩) := by rw [m3.tgt, m3.s]; exact ht4
    have hls3 : ListOK K e3 (.slice none 0 0) (⟨b, y, []⟩ : Ans).l := hls2.keep (fun b h => (m3.mine b).2 (.inl h)) fun b _ hb => by
      rw [m3.w]
      exact o31 b (hls2.ne hb3 b hb)
    have b2' : (K.w e3).heap[N + 1]? = some (.cells #[.bool false, .int .i64 0, .slice none 0 0] 44) := by rw [m3.w]; exact b2
    have hcb := fun fr' hfr => cell_back K (F := 19) (fr := fr') (c := fr) (l := l) (a := ⟨b, y, []⟩) (sl := .slice none 0 0) hm2' b2' ht5 hls3 (fun e' h h' => hk _ e' ⟨_, _, h, rfl, h', by simp⟩) Try.func19 rfl hfr
    have b3 := b31
    clear b31 o31 z31 b30 o30 z30
    generalize (((K.w e2').setCell ⟨N + 2, 1, none⟩ (.int .i64 y)).setCell ⟨N + 2, 0, none⟩ (.bool b)) = x4 at *
    have hw3 := m3.w
    refine LW.to (l := fr :: l) m3 ?_
    unfold LW
    clear m3
    subst hw3
    try walk_nrm
    repeat (first | refine Walk.c rfl ?_ | refine Walk.cRet ?_ | refine Walk.cEnd ?_ | (refine Walk.cReg ?_; simp only [size19_0, size19_1, size19_2, size19_4, size19_5, size19_6, size19_7, size19_8, size19_9, size19_10, size19_11, size19_12, size19_13, size19_3, size19_14, List.range, List.range.loop]) | (refine Walk.oq ?_; try walk_nrm) | (refine Walk.un ?_; walk_nrm))
    refine Walk.loadS 44 (.tmp 9) (ho_of (by conv => lhs; whnf) (by kernel_rfl)) (by rfl) (by decide) rfl (N + 2) 0 [.bool b, .int .i64 y, .slice none 0 0] (.struct fsA) rfl (fun j v hj => ?_) huA rfl (by kernel_rfl) ?_
    · rw [Nat.zero_add, cell_of b3]
      simpa using hj
    walk_nrm
    refine Walk.storeS 44 (.tmp 8) (.tmp 66) (ho_of (by conv => lhs; whnf) (by kernel_rfl)) (by rfl) (by decide) rfl (N + 1) #[.bool b, .int .i64 y, .slice none 0 0] _ 44 rfl rfl b2 (by kernel_rfl) (by rfl) (by simp [Value.oneCell']) (K.mineA e3 _ hm2').1 ?_
    walk_nrm
    repeat (first | refine Walk.c rfl ?_ | refine Walk.cRet ?_ | refine Walk.cEnd ?_ | (refine Walk.cReg ?_; simp only [size19_0, size19_1, size19_2, size19_4, size19_5, size19_6, size19_7, size19_8, size19_9, size19_10, size19_11, size19_12, size19_13, size19_3, size19_14, List.range, List.range.loop]) | (refine Walk.oq ?_; try walk_nrm) | (refine Walk.un ?_; walk_nrm))
    exact hcb _ ⟨rfl, rfl, rfl, rfl, rfl⟩
  have hbk5 : (ok == 5) = false := by simp [h5]
  simp only [hbk5]
  repeat (first | refine Walk.c rfl ?_ | refine Walk.cRet ?_ | refine Walk.cEnd ?_ | (refine Walk.cReg ?_; simp only [size19_0, size19_1, size19_2, size19_4, size19_5, size19_6, size19_7, size19_8, size19_9, size19_10, size19_11, size19_12, size19_13, size19_3, size19_14, List.range, List.range.loop]) | (refine Walk.oq ?_; try walk_nrm) | (refine Walk.un ?_; walk_nrm))
  have ht3 : K.tgt e2 = (K.s e2, .inl aNo) := ht2.trans (sqEnter_no _ _ _ h1 h2 h3 h4 h5)
  repeat (first | refine Walk.c rfl ?_ | refine Walk.cRet ?_ | refine Walk.cEnd ?_ | (refine Walk.cReg ?_; simp only [size19_0, size19_1, size19_2, size19_4, size19_5, size19_6, size19_7, size19_8, size19_9, size19_10, size19_11, size19_12, size19_13, size19_3, size19_14, List.range, List.range.loop]) | (refine Walk.oq ?_; try walk_nrm) | (refine Walk.un ?_; walk_nrm))
  refine Walk.storeS 44 (.tmp 8) (.tmp 13) (ho_of (by conv => lhs; whnf) (by kernel_rfl)) (by rfl) (by decide) rfl (N + 1) #[.bool false, .int .i64 0, .slice none 0 0] _ 44 rfl rfl c2' (by kernel_rfl) (by rfl) (by simp [Value.oneCell']) hap0 ?_
  walk_nrm
  repeat (first | refine Walk.c rfl ?_ | refine Walk.cRet ?_ | refine Walk.cEnd ?_ | (refine Walk.cReg ?_; simp only [size19_0, size19_1, size19_2, size19_4, size19_5, size19_6, size19_7, size19_8, size19_9, size19_10, size19_11, size19_12, size19_13, size19_3, size19_14, List.range, List.range.loop]) | (refine Walk.oq ?_; try walk_nrm) | (refine Walk.un ?_; walk_nrm))
  exact cell_back K (a := aNo) (sl := .slice none 0 0) hmn' c2' ht3 (.inl ⟨rfl, rfl⟩) (fun e' h h' => hk _ e' ⟨_, _, h, rfl, h', by simp [aNo]⟩) Try.func19 rfl ⟨rfl, rfl, rfl, rfl, rfl⟩
end
end
end Go.Proofs.Ytjenoiekfkhafaa
