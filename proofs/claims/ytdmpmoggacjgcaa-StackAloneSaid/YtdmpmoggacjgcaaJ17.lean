/- Part 17. -/
import Derived.Test.YtdmpmoggacjgcaaJ10
import Derived.Test.YtdmpmoggacjgcaaJ11
import Derived.Test.YtdmpmoggacjgcaaJ14
import Derived.Test.YtdmpmoggacjgcaaJ15
import Derived.Test.YtdmpmoggacjgcaaJ16
set_option linter.unusedSimpArgs false
set_option linter.unusedVariables false
set_option maxHeartbeats 8000000
set_option maxRecDepth 100000
namespace Go.Proofs.Ytdmpmoggacjgcaa
open Go.Conc Go.RowKit Go.Relay
open Go.ConcN (upd upd_ne upd_same)
section
def maA (nx vl : Value) (a b c d : Int) (tg : Bool) (tl : Value) : Array Value := #[nx, vl, .int .i64 a, .int .i64 b, .int .i64 c, .int .i64 d, .bool tg, tl]
section
variable {nx vl tl : Value} {a b c d : Int} {tg : Bool} {w : World} {m : Nat} {ty : TypeId}
theorem mc0 (h : w.heap[m]? = some (.cells (maA nx vl a b c d tg tl) ty)) : w.cell? ⟨m, 0, none⟩ = some nx := (cell_of h 0).trans rfl
theorem mc1 (h : w.heap[m]? = some (.cells (maA nx vl a b c d tg tl) ty)) : w.cell? ⟨m, 1, none⟩ = some vl := (cell_of h 1).trans rfl
theorem mc2 (h : w.heap[m]? = some (.cells (maA nx vl a b c d tg tl) ty)) : w.cell? ⟨m, 2, none⟩ = some (.int .i64 a) := (cell_of h 2).trans rfl
theorem mc3 (h : w.heap[m]? = some (.cells (maA nx vl a b c d tg tl) ty)) : w.cell? ⟨m, 3, none⟩ = some (.int .i64 b) := (cell_of h 3).trans rfl
theorem mc4 (h : w.heap[m]? = some (.cells (maA nx vl a b c d tg tl) ty)) : w.cell? ⟨m, 4, none⟩ = some (.int .i64 c) := (cell_of h 4).trans rfl
theorem mc5 (h : w.heap[m]? = some (.cells (maA nx vl a b c d tg tl) ty)) : w.cell? ⟨m, 5, none⟩ = some (.int .i64 d) := (cell_of h 5).trans rfl
theorem mc6 (h : w.heap[m]? = some (.cells (maA nx vl a b c d tg tl) ty)) : w.cell? ⟨m, 6, none⟩ = some (.bool tg) := (cell_of h 6).trans rfl
theorem mc7 (h : w.heap[m]? = some (.cells (maA nx vl a b c d tg tl) ty)) : w.cell? ⟨m, 7, none⟩ = some tl := (cell_of h 7).trans rfl
end
structure MaX (S : Nat → Prop) (m nb vb n cn cv : Nat) (tg : Bool) (tl : Value) (s : Sk) (w : World) : Prop where
 blk : w.heap[m]? = some (.cells (maA (.slice (some ⟨nb, 0, none⟩) n cn) (.slice (some ⟨vb, 0, none⟩) n cv) (nodeX s.hd) (tagX s.hd) (nodeX s.fr) (tagX s.fr) tg tl) 87)
 nx : ∃ arr : Array Value, w.heap[nb]? = some (.cells arr 2) ∧ ∀ i, i < n → arr[i]? = some (.int .i64 (s.nx i))
 vl : ∃ arr : Array Value, w.heap[vb]? = some (.cells arr 2) ∧ ∀ i, i < n → arr[i]? = some (.int .i64 (s.vl i))
 hd : OkH n s.hd
 fr : OkH n s.fr
 nxb : ∀ i, i < n → -1 ≤ s.nx i ∧ s.nx i < n
 tag : tg = false → tagX s.hd = 0 ∧ tagX s.fr = 0
 sm : S m
 sn : S nb
 sv : S vb
 ne : m ≠ nb ∧ m ≠ vb ∧ nb ≠ vb
section
variable {S S' : Nat → Prop} {m nb vb n cn cv : Nat} {tg : Bool} {tl : Value} {s : Sk} {w w' : World}
theorem MaX.lt (X : MaX S m nb vb n cn cv tg tl s w) : m < w.heap.size ∧ nb < w.heap.size ∧ vb < w.heap.size := by
 obtain ⟨a1, h1, _⟩ := X.nx
 obtain ⟨a2, h2, _⟩ := X.vl
 exact ⟨(Array.getElem?_eq_some_iff.1 X.blk).1, (Array.getElem?_eq_some_iff.1 h1).1, (Array.getElem?_eq_some_iff.1 h2).1⟩
theorem MaX.same (X : MaX S m nb vb n cn cv tg tl s w) (h : ∀ g, g < w.heap.size → S g → w'.heap[g]? = w.heap[g]?) : MaX S m nb vb n cn cv tg tl s w' := by
 obtain ⟨l1, l2, l3⟩ := X.lt
 obtain ⟨a1, h1, h1'⟩ := X.nx
 obtain ⟨a2, h2, h2'⟩ := X.vl
 exact ⟨(h m l1 X.sm).trans X.blk, ⟨a1, (h nb l2 X.sn).trans h1, h1'⟩, ⟨a2, (h vb l3 X.sv).trans h2, h2'⟩, X.hd, X.fr, X.nxb, X.tag, X.sm, X.sn, X.sv, X.ne⟩
theorem MaX.at (X : MaX S m nb vb n cn cv tg tl s w) (d : Nat) : MaX S m nb vb n cn cv tg tl s (w.at d) := X.same fun _ _ _ => rfl
theorem MaX.mono (X : MaX S m nb vb n cn cv tg tl s w) (h : ∀ g, S g → S' g) : MaX S' m nb vb n cn cv tg tl s w := ⟨X.blk, X.nx, X.vl, X.hd, X.fr, X.nxb, X.tag, h _ X.sm, h _ X.sn, h _ X.sv, X.ne⟩
theorem MaX.chg (X : MaX S m nb vb n cn cv tg tl s w) {S2 : Nat → Prop} (hC : Chg S2 w w') (hS : ∀ g, g < w.heap.size → S g → ¬ S2 g) : MaX S m nb vb n cn cv tg tl s w' := X.same fun g hg h => hC.same g hg (hS g hg h)
end
theorem tag_eq (x : Int) : tagX x = x / 4294967296 := rfl
theorem okH_inj {n : Nat} {x y : Int} (hx : OkH n x) (hy : OkH n y) : (nodeX x = nodeX y ∧ tagX x = tagX y) ↔ x = y := by
 refine ⟨fun ⟨h1, h2⟩ => ?_, fun h => by rw [h]; exact ⟨rfl, rfl⟩⟩
 rw [nodeX_of x hx.lo hx.hi, nodeX_of y hy.lo hy.hi] at h1
 rw [tag_eq, tag_eq] at h2
 omega
theorem tag_held {n : Nat} {x a : Int} (h : OkH n x) (tg : Bool) (ha : -1 ≤ a) (ha2 : a < n) (hn : n ≤ 65536) : tagX (heldX a (turnTag tg x)) = turnTag tg x := by
 obtain ⟨t1, t2⟩ := turnTag_lt tg x h.lo h.hi
 rw [heldX_of a _ ha (by omega) t1 t2, tag_eq]
 omega
theorem tag_turn {n : Nat} {x : Int} (h : OkH n x) : turnTag true x = (tagX x + 1) % 2147483648 ∧ 0 ≤ tagX x ∧ tagX x < 2147483648 := by
 have h1 := h.lo
 have h2 := h.hi
 have hw : IntKind.i64.wrap (tagX x + 1) = tagX x + 1 := by rw [IntKind.wrap_i64]; unfold tagX; omega
 refine ⟨?_, by unfold tagX; omega, by unfold tagX; omega⟩
 unfold turnTag
 rw [if_pos rfl, hw, mask31 _ (by unfold tagX; omega) (by unfold tagX; omega)]
def dR (n : Nat) (o : OpV) (PC : Int) (N : Nat → Int) : SD → Prop
 | .pu1 v => PC = 10 ∧ o.a = v
 | .pu2 v top => PC = 11 ∧ o.a = v ∧ N 0 = nodeX top ∧ N 1 = tagX top ∧ OkH n top ∧ nodeX top ≠ -1
 | .pu3 v top nx => PC = 12 ∧ o.a = v ∧ N 0 = nodeX top ∧ N 1 = tagX top ∧ OkH n top ∧ nodeX top ≠ -1 ∧ N 2 = nx ∧ -1 ≤ nx ∧ nx < n
 | .pu4 v i => PC = 13 ∧ o.a = v ∧ N 4 = i ∧ 0 ≤ i ∧ i < n
 | .pu5 i => PC = 14 ∧ N 4 = i ∧ 0 ≤ i ∧ i < n
 | .pu6 i top => PC = 15 ∧ N 4 = i ∧ 0 ≤ i ∧ i < n ∧ N 0 = nodeX top ∧ N 1 = tagX top ∧ OkH n top
 | .pu7 i top => PC = 16 ∧ N 4 = i ∧ 0 ≤ i ∧ i < n ∧ N 0 = nodeX top ∧ N 1 = tagX top ∧ OkH n top
 | .po1 => PC = 20
 | .po2 top => PC = 21 ∧ N 0 = nodeX top ∧ N 1 = tagX top ∧ OkH n top ∧ nodeX top ≠ -1
 | .po3 top nx => PC = 22 ∧ N 0 = nodeX top ∧ N 1 = tagX top ∧ OkH n top ∧ nodeX top ≠ -1 ∧ N 2 = nx ∧ -1 ≤ nx ∧ nx < n
 | .po4 i => PC = 23 ∧ N 4 = i ∧ 0 ≤ i ∧ i < n
 | .po5 i v => PC = 24 ∧ N 4 = i ∧ 0 ≤ i ∧ i < n ∧ N 3 = v
 | .po6 i v top => PC = 25 ∧ N 4 = i ∧ 0 ≤ i ∧ i < n ∧ N 3 = v ∧ N 0 = nodeX top ∧ N 1 = tagX top ∧ OkH n top
 | .po7 i v top => PC = 26 ∧ N 4 = i ∧ 0 ≤ i ∧ i < n ∧ N 3 = v ∧ N 0 = nodeX top ∧ N 1 = tagX top ∧ OkH n top
 | .pe1 => PC = 30
 | .pe2 top => PC = 31 ∧ N 0 = nodeX top ∧ N 1 = tagX top ∧ OkH n top ∧ nodeX top ≠ -1
 | .pe3 top v => PC = 32 ∧ N 0 = nodeX top ∧ N 1 = tagX top ∧ OkH n top ∧ nodeX top ≠ -1 ∧ N 3 = v
 | .em1 => PC = 40
theorem dR_pos {n : Nat} {o : OpV} {PC : Int} {N : Nat → Int} {d : SD} (h : dR n o PC N d) : 10 ≤ PC ∧ PC ≤ 40 := by
 cases d <;> simp only [dR] at h <;> omega
def TIs (S : Nat → Prop) (n b : Nat) (ops : List OpV) (oa : Option Addr) (oc : Nat) (left : List OpV) (d : Option SD) (ans : List Ans) (e : Bool) (w : World) : Prop := ∃ (k : Nat) (PC : Int) (N : Nat → Int) (aa : Option Addr) (ac : Nat), ThX S b ops oa oc (k : Nat) PC N ans aa ac e w ∧ ans.length = k ∧
 ((d = none ∧ k = ops.length ∧ e = true) ∨ ∃ x o, d = some x ∧ ops[k]? = some o ∧ left = ops.drop (k + 1) ∧ dR n o PC N x ∧ e = false)
theorem TIs.same {S : Nat → Prop} {n b : Nat} {ops : List OpV} {oa : Option Addr} {oc : Nat} {left : List OpV} {d : Option SD} {ans : List Ans} {e : Bool} {w w' : World} (X : TIs S n b ops oa oc left d ans e w) (h : ∀ g, g < w.heap.size → S g → w'.heap[g]? = w.heap[g]?) : TIs S n b ops oa oc left d ans e w' := by
 obtain ⟨k, PC, N, aa, ac, X, h1, h2⟩ := X
 exact ⟨k, PC, N, aa, ac, X.same h, h1, h2⟩
theorem TIs.mono {S S' : Nat → Prop} {n b : Nat} {ops : List OpV} {oa : Option Addr} {oc : Nat} {left : List OpV} {d : Option SD} {ans : List Ans} {e : Bool} {w : World} (X : TIs S n b ops oa oc left d ans e w) (h : ∀ g, S g → S' g) : TIs S' n b ops oa oc left d ans e w := by
 obtain ⟨k, PC, N, aa, ac, X, h1, h2⟩ := X
 exact ⟨k, PC, N, aa, ac, X.mono h, h1, h2⟩
theorem run_kind (a b c d : Int) (w : World) : (Instr.field 45 (.agg #[.int .i64 a, .int .i64 b, .int .i64 c, .int .i64 d]) 0).run Try.prog w = .ok (.int .i64 a) w := by kernel_rfl
theorem ev_kind (a b c d : Int) (w : World) (es : Array Event) : (Instr.field 45 (.agg #[.int .i64 a, .int .i64 b, .int .i64 c, .int .i64 d]) 0).events Try.prog w es = es := by kernel_rfl
theorem run_opA (a b c d : Int) (w : World) : (Instr.field 45 (.agg #[.int .i64 a, .int .i64 b, .int .i64 c, .int .i64 d]) 1).run Try.prog w = .ok (.int .i64 b) w := by kernel_rfl
theorem ev_opA (a b c d : Int) (w : World) (es : Array Event) : (Instr.field 45 (.agg #[.int .i64 a, .int .i64 b, .int .i64 c, .int .i64 d]) 1).events Try.prog w es = es := by kernel_rfl
noncomputable def reg37_0 := rg Try.f37.body [0, 0, 0, 0, 0]
theorem size37_0 : reg37_0.size = 17 := by kernel_rfl
noncomputable def reg37_1 := rg Try.f37.body [0, 0, 0, 1, 0, 0]
noncomputable def reg37_2 := rg Try.f37.body [0, 0, 0, 1, 0, 1, 0, 0]
noncomputable def reg37_3 := rg Try.f37.body [0, 0, 0, 1, 0, 1, 0, 1, 0, 0]
noncomputable def reg37_4 := rg Try.f37.body [0, 0, 0, 1, 0, 1, 1]
noncomputable def reg37_5 := rg Try.f37.body [1]
theorem size37_5 : reg37_5.size = 14 := by kernel_rfl
theorem z37 : List.range reg37_0.size = [0, 1, 2, 3, 4, 5, 6, 7, 8, 9, 10, 11, 12, 13, 14, 15, 16] ∧ List.range reg37_1.size = [0, 1, 2, 3] ∧ List.range reg37_2.size = [0, 1, 2, 3, 4, 5] ∧ List.range reg37_3.size = [0, 1, 2] ∧ List.range reg37_4.size = [0, 1, 2, 3, 4, 5] ∧ List.range reg37_5.size = [0, 1, 2, 3, 4, 5, 6, 7, 8, 9, 10, 11, 12, 13] := by refine ⟨?_, ?_, ?_, ?_, ?_, ?_⟩ <;> kernel_rfl
theorem code37_is : Try.f37.body = some (.seq (.block 0 (.loop (.seq (.seq (.region 0 reg37_0 true) (.cond (.tmp 21 ) (.skip) (.exit 0))) (.block 1 (.seq (.region 1 reg37_1 false) (.seq (.seq (.region 2 reg37_2 false) (.cond (.tmp 30 ) (.seq (.region 3 reg37_3 false) (.exit 1)) (.skip))) (.region 4 reg37_4 false))))))) (.region 5 reg37_5 true)) := by kernel_rfl
noncomputable def hdBg (m b : Nat) (u : Nat → Value) : Frame :=
 (base 37).at { tmps := #[.pointer (some ⟨m, 0, none⟩), .pointer (some ⟨b, 0, none⟩), u 2, u 3, u 4, u 5, u 6, u 7, u 8, u 9, u 10, u 11, u 12, u 13, u 14, u 15, u 16, u 17, u 18, u 19, u 20, u 21, u 22, u 23, u 24, u 25, u 26, u 27, u 28, u 29, u 30, u 31, u 32, u 33, u 34, u 35, u 36, u 37, u 38, u 39, u 40, u 41, u 42, u 43, u 44, u 45, u 46, u 47, u 48, u 49, u 50, u 51], defers := [] } [.code (.seq (.seq (.region 0 reg37_0 true) (.cond (.tmp 21 ) (.skip) (.exit 0))) (.block 1 (.seq (.region 1 reg37_1 false) (.seq (.seq (.region 2 reg37_2 false) (.cond (.tmp 30 ) (.seq (.region 3 reg37_3 false) (.exit 1)) (.skip))) (.region 4 reg37_4 false))))), .inLoop (.seq (.seq (.region 0 reg37_0 true) (.cond (.tmp 21 ) (.skip) (.exit 0))) (.block 1 (.seq (.region 1 reg37_1 false) (.seq (.seq (.region 2 reg37_2 false) (.cond (.tmp 30 ) (.seq (.region 3 reg37_3 false) (.exit 1)) (.skip))) (.region 4 reg37_4 false))))), .inBlock 0, .code (.region 5 reg37_5 true)]
section
variable {main : Bool} {S : Nat → Prop} {b : Nat} {ops : List OpV} {oa : Option Addr} {oc k : Nat} {PC : Int} {N : Nat → Int} {ans : List Ans} {aa : Option Addr} {ac : Nat} {e : Bool}
theorem mbg_in (m b : Nat) (cs : List Frame) (w : World) :
  Walk Try.prog main (DR (fun _ => none)) (fun g w' => (∃ u, g = G (hdBg m b u) cs) ∧ ∃ d, w' = w.at d) (G (Frame.enter Try.prog 37 #[.pointer (some ⟨m, 0, none⟩), .pointer (some ⟨b, 0, none⟩)] .normal) cs) w := by
 rw [enter_at _ Try.func37 code37_is]
 simp only [Try.ntmps37, ez, Nat.reduceAdd, Nat.reduceSub]
 refine Walk.gz z37 ?_
 refine Walk.ctl rfl (fun w => stepG_loop) ?_
 refine .stop fun d => ⟨at_slots ?_, d, rfl⟩
 simp only [hdBg]
 rfl
theorem mbg_bad (m : Nat) (o : OpV) (u : Nat → Value) (cs : List Frame) (w : World) (X : ThX S b ops oa oc (k : Nat) 0 N ans aa ac e w) (hl : ops.length ≤ 65536) (hal : ans.length ≤ 65536) (ho : ops[k]? = some o) (hbad : ¬ (1 ≤ o.k ∧ o.k ≤ 4)) :
  Walk Try.prog main (DR (fun _ => none)) (fun g w' => (∃ u, g = G (hdBg m b u) cs) ∧ (∃ aa' ac', ThX (fun g => S g ∨ w.heap.size ≤ g) b ops oa oc ((k + 1 : Nat) : Int) 0 N (ans ++ [(false, 0)]) aa' ac' e w') ∧ Chg S w w') (G (hdBg m b u) cs) w := by
 have hkl := (List.getElem?_eq_some_iff.1 ho).1
 have c0 := tcO X.blk
 have c1 := tcI X.blk
 have c2 := tcP X.blk
 have hk1 : ((k : Int) < (ops.length : Int)) := by omega
 have hd2 : decide (k < ops.length) = true := by simpa using hkl
 conv => arg 5; unfold hdBg
 refine Walk.gz z37 ?_
 (refine Walk.drawnC (by kernel_rfl) size37_0 (by kernel_rfl) (by kernel_rfl) (by decide) ?_; simp only [List.range, List.range.loop]; repeat (first | (refine Cm.oq ?_) | (refine Cm.unw hoA (by rfl) ?_; walk_nrm)))
 refine Cm.done ?_
 refine Walk.gz z37 ?_
 refine Walk.callW (Post := fun v w' => v = opVal o ∧ Chg (fun _ => False) w w') ?_ hoA (by rfl) (by decide) rfl Try.func58 (by kernel_rfl) (by rfl) ?_
 ·walk_nrm
  exact op_w o w X ho hl
 rintro v w1 ⟨rfl, hC1⟩
 have X1 : ThX S b ops oa oc (k : Nat) 0 N ans aa ac e w1 := X.same fun g hg _ => hC1.same g hg (fun h => h)
 obtain ⟨ok, o1, o2, o3⟩ := o
 simp only [opVal] at *
 have fk1 := run_kind ok o1 o2 o3
 have fk2 := ev_kind ok o1 o2 o3
 have hs1 := hC1.size
 have goal : ∀ (w2 : World), (∃ aa' ac', ThX (fun g => S g ∨ w1.heap.size ≤ g) b ops oa oc ((k + 1 : Nat) : Int) 0 N (ans ++ [(false, 0)]) aa' ac' e w2) ∧ Chg S w1 w2 → (∃ aa' ac', ThX (fun g => S g ∨ w.heap.size ≤ g) b ops oa oc ((k + 1 : Nat) : Int) 0 N (ans ++ [(false, 0)]) aa' ac' e w2) ∧ Chg S w w2 := by
  rintro w2 ⟨⟨aa', ac', X2⟩, hC2⟩
  exact ⟨⟨aa', ac', X2.mono fun g hg => hg.imp id fun h => by omega⟩, Chg.trans (hC1.mono fun _ _ h => h.elim) hC2 fun _ _ h => h⟩
 clear c0 c1 c2 hk1 hd2
 walk_nrm
 by_cases h1 : ok < 1
 ·have hd1 : decide (ok < 1) = true := by simpa using h1
  refine Walk.gz z37 ?_
  refine Walk.callW (Post := fun v w' => v = .tuple #[] ∧ (∃ aa' ac', ThX (fun g => S g ∨ w1.heap.size ≤ g) b ops oa oc ((k + 1 : Nat) : Int) 0 N (ans ++ [(false, 0)]) aa' ac' e w') ∧ Chg S w1 w') ?_ hoA (by rfl) (by decide) rfl Try.func59 (by kernel_rfl) (by rfl) ?_
  ·walk_nrm
   exact end_w (false, 0) w1 X1 (by omega) hal
  rintro v w2 ⟨rfl, hw2⟩
  have hg := goal w2 hw2
  walk_nrm
  refine Walk.gz z37 ?_
  refine Walk.ctl rfl (fun w => stepG_inLoop) ?_
  refine .stop fun d => ⟨at_slots ?_, ?_⟩
  ·simp only [hdBg]
   rfl
  ·obtain ⟨⟨aa', ac', X2⟩, hC2⟩ := hg
   exact ⟨⟨aa', ac', X2.at d⟩, hC2.at d⟩
 ·have h4 : 4 < ok := by omega
  have hd1 : decide (ok < 1) = false := by simpa using h1
  have hd4 : decide (4 < ok) = true := by simpa using h4
  refine Walk.gz z37 ?_
  refine Walk.callW (Post := fun v w' => v = .tuple #[] ∧ (∃ aa' ac', ThX (fun g => S g ∨ w1.heap.size ≤ g) b ops oa oc ((k + 1 : Nat) : Int) 0 N (ans ++ [(false, 0)]) aa' ac' e w') ∧ Chg S w1 w') ?_ hoA (by rfl) (by decide) rfl Try.func59 (by kernel_rfl) (by rfl) ?_
  ·walk_nrm
   exact end_w (false, 0) w1 X1 (by omega) hal
  rintro v w2 ⟨rfl, hw2⟩
  have hg := goal w2 hw2
  walk_nrm
  refine Walk.gz z37 ?_
  refine Walk.ctl rfl (fun w => stepG_inLoop) ?_
  refine .stop fun d => ⟨at_slots ?_, ?_⟩
  ·simp only [hdBg]
   rfl
  ·obtain ⟨⟨aa', ac', X2⟩, hC2⟩ := hg
   exact ⟨⟨aa', ac', X2.at d⟩, hC2.at d⟩
theorem mbg_good (m : Nat) (o : OpV) (u : Nat → Value) (cs : List Frame) (w : World) (X : ThX S b ops oa oc (k : Nat) 0 N ans aa ac e w) (hl : ops.length ≤ 65536) (ho : ops[k]? = some o) (h1 : 1 ≤ o.k) (h4 : o.k ≤ 4) :
  Walk Try.prog main (DR (fun _ => none)) (fun g w' => (∃ u, g = G (hdBg m b u) cs) ∧ ThX S b ops oa oc (k : Nat) (10 * o.k) N ans aa ac e w' ∧ Chg S w w') (G (hdBg m b u) cs) w := by
 have hkl := (List.getElem?_eq_some_iff.1 ho).1
 have c0 := tcO X.blk
 have c1 := tcI X.blk
 have c2 := tcP X.blk
 have hk1 : ((k : Int) < (ops.length : Int)) := by omega
 have hd2 : decide (k < ops.length) = true := by simpa using hkl
 conv => arg 5; unfold hdBg
 refine Walk.gz z37 ?_
 (refine Walk.drawnC (by kernel_rfl) size37_0 (by kernel_rfl) (by kernel_rfl) (by decide) ?_; simp only [List.range, List.range.loop]; repeat (first | (refine Cm.oq ?_) | (refine Cm.unw hoA (by rfl) ?_; walk_nrm)))
 refine Cm.done ?_
 refine Walk.gz z37 ?_
 refine Walk.callW (Post := fun v w' => v = opVal o ∧ Chg (fun _ => False) w w') ?_ hoA (by rfl) (by decide) rfl Try.func58 (by kernel_rfl) (by rfl) ?_
 ·walk_nrm
  exact op_w o w X ho hl
 rintro v w1 ⟨rfl, hC1⟩
 have X1 : ThX S b ops oa oc (k : Nat) 0 N ans aa ac e w1 := X.same fun g hg _ => hC1.same g hg (fun h => h)
 obtain ⟨ok, o1, o2, o3⟩ := o
 simp only [opVal] at *
 have fk1 := run_kind ok o1 o2 o3
 have fk2 := ev_kind ok o1 o2 o3
 have hs1 := hC1.size
 clear c0 c1 c2 hk1 hd2
 have hd1 : decide (ok < 1) = false := by simp; omega
 have hd4 : decide (4 < ok) = false := by simp; omega
 have hw1 : IntKind.i64.wrap (10 * ok) = 10 * ok := by rw [IntKind.wrap_i64]; omega
 have k2 := tcP X1.blk
 have z2 := frozen_of X1.blk 2
 walk_nrm
 refine Walk.gz z37 ?_
 (have hfr := fr0 b 2; refine Walk.os hfr k2 ?_; clear hfr; try walk_nrm)
 have X2 : ThX S b ops oa oc (k : Nat) (10 * ok) N ans aa ac e (w1.setCell ⟨b, 2, none⟩ (.int .i64 (10 * ok))) := X1.put (by rw [heap_set_self _ _ X1.blk, thA_PC]) fun g hg _ _ => heap_set_other _ _ _ _ hg
 have hC2 : Chg S w (w1.setCell ⟨b, 2, none⟩ (.int .i64 (10 * ok))) := Chg.trans (hC1.mono fun _ _ h => h.elim) (Chg.set X.sb) fun _ _ h => h
 generalize w1.setCell ⟨b, 2, none⟩ (.int .i64 (10 * ok)) = w2 at *
 refine Walk.gz z37 ?_
 refine Walk.ctl rfl (fun w => stepG_inLoop) ?_
 refine .stop fun d => ⟨at_slots ?_, X2.at d, hC2.at d⟩
 simp only [hdBg]
 rfl
theorem mbg_out (m : Nat) (u : Nat → Value) (c : Frame) (cs : List Frame) (w : World) (X : ThX S b ops oa oc (k : Nat) PC N ans aa ac e w) (h : PC ≠ 0 ∨ k = ops.length) (hk : k ≤ ops.length) :
  Walk Try.prog main (DR (fun _ => none)) (fun g w' => g = G (c.finish (.tuple #[])) cs ∧ ThX S b ops oa oc (k : Nat) PC N ans aa ac (decide (k = ops.length)) w' ∧ Chg S w w') (G (hdBg m b u) (c :: cs)) w := by
 have c0 := tcO X.blk
 have c1 := tcI X.blk
 have c2 := tcP X.blk
 have c13 := tcE X.blk
 have z13 := frozen_of X.blk 13
 have hdec : decide ((ops.length : Int) ≤ (k : Int)) = decide (k = ops.length) := decide_eq_decide.2 (by omega)
 have hdec2 : decide (ops.length ≤ k) = decide (k = ops.length) := decide_eq_decide.2 (by omega)
 have fin : ∀ d, ThX S b ops oa oc (k : Nat) PC N ans aa ac (decide (k = ops.length)) ((w.setCell ⟨b, 13, none⟩ (.bool (decide (k = ops.length)))).at d) ∧ Chg S w ((w.setCell ⟨b, 13, none⟩ (.bool (decide (k = ops.length)))).at d) := fun d => ⟨ThX.at (X.put (by rw [heap_set_self _ _ X.blk, thA_E]) fun g hg _ _ => heap_set_other _ _ _ _ hg) d, Chg.at (Chg.set X.sb) d⟩
 clear X
 unfold hdBg
 by_cases hp : PC = 0
 ·have hkn : k = ops.length := h.resolve_left fun h => h hp
  subst hp
  have hd1 : decide (k < ops.length) = false := by simp; omega
  have hd2 : decide ((k : Int) < (ops.length : Int)) = false := by simp; omega
  clear h
  have hee : decide (k = ops.length) = true := decide_eq_true hkn
  rw [hee] at fin hdec hdec2
  simp only [hee]
  clear hee
  refine Walk.gz z37 ?_
  (refine Walk.drawnC (by kernel_rfl) size37_0 (by kernel_rfl) (by kernel_rfl) (by decide) ?_; simp only [List.range, List.range.loop]; repeat (first | (refine Cm.oq ?_) | (refine Cm.unw hoA (by rfl) ?_; walk_nrm)))
  refine Cm.done ?_
  refine Walk.gz z37 ?_
  clear hd1 hd2
  (refine Walk.drawnL (by kernel_rfl) size37_5 (by kernel_rfl) (by kernel_rfl) (by kernel_rfl) (by decide) ?_; simp only [List.range, List.range.loop]; repeat (first | (refine Cm.oq ?_) | (refine Cm.unw hoA (by rfl) ?_; walk_nrm)))
  try simp only [hdec, hdec2]
  refine Cm.done ?_
  intro rest hr
  (have hfr := fr0 b 13; refine Walk.os hfr c13 ?_; clear hfr; try walk_nrm)
  refine hr _ _ ?_
  clear c0 c1 c2 c13 z13
  generalize w.setCell ⟨b, 13, none⟩ (.bool true) = w1 at *
  try walk_nrm
  refine Walk.gz z37 ?_
  exact Walk.ctl rfl (fun w => stepG_leave rfl rfl Try.func37 (results_none rfl _ _ w) (events_results_none rfl _ _)) (.stop fun d => ⟨rfl, fin d⟩)
 ·have hpb : (PC == 0) = false := by simpa using hp
  have hpd : decide (PC = 0) = false := by simpa using hp
  clear h
  generalize decide (k = ops.length) = ee at *
  refine Walk.gz z37 ?_
  (refine Walk.drawnC (by kernel_rfl) size37_0 (by kernel_rfl) (by kernel_rfl) (by decide) ?_; simp only [List.range, List.range.loop]; repeat (first | (refine Cm.oq ?_) | (refine Cm.unw hoA (by rfl) ?_; walk_nrm)))
  refine Cm.done ?_
  refine Walk.gz z37 ?_
  (refine Walk.drawnL (by kernel_rfl) size37_5 (by kernel_rfl) (by kernel_rfl) (by kernel_rfl) (by decide) ?_; simp only [List.range, List.range.loop]; repeat (first | (refine Cm.oq ?_) | (refine Cm.unw hoA (by rfl) ?_; walk_nrm)))
  try simp only [hdec, hdec2]
  refine Cm.done ?_
  intro rest hr
  (have hfr := fr0 b 13; refine Walk.os hfr c13 ?_; clear hfr; try walk_nrm)
  refine hr _ _ ?_
  clear c0 c1 c2 c13 z13
  generalize w.setCell ⟨b, 13, none⟩ (.bool ee) = w1 at *
  try walk_nrm
  refine Walk.gz z37 ?_
  exact Walk.ctl rfl (fun w => stepG_leave rfl rfl Try.func37 (results_none rfl _ _ w) (events_results_none rfl _ _)) (.stop fun d => ⟨rfl, fin d⟩)
end
end
theorem lonC_runN {L : La} : ∀ {N c c1 : Nat} {p : L.Sg × (Ans ⊕ L.D)} {s1 : L.Sg} {a : Ans}, lonC L N c p = some (c1, s1, a) → runN L N p = some (s1, a) := by
 intro N
 induction N with
 | zero =>
  rintro c c1 ⟨s, r⟩ s1 a h
  cases r with
  | inl x => simp [lonC] at h; simp [runN, h]
  | inr d => simp [lonC] at h
 | succ N ih =>
  rintro c c1 ⟨s, r⟩ s1 a h
  cases r with
  | inl x => simp [lonC] at h; simp [runN, h]
  | inr d => exact ih (c := c + 1) h
theorem Whole.more {L : La} {N c c2 : Nat} {s s2 : L.Sg} {l : List OpV} {az az2 : List Ans} (h : Whole L N c s l az c2 s2 az2) : ∃ t, az2 = az ++ t ∧ t.length = l.length := by
 induction h with
 | nil => exact ⟨[], by simp, rfl⟩
 | cons _ _ ih =>
  obtain ⟨t, e, h⟩ := ih
  exact ⟨_ :: t, by rw [e, List.append_assoc]; rfl, by simp [h]⟩
theorem Whole.uncons {L : La} {N c c1 c2 : Nat} {s s1 s2 : L.Sg} {o : OpV} {l : List OpV} {az az2 : List Ans} {a : Ans} (h : Whole L N c s (o :: l) az c2 s2 az2) (h1 : lonC L N c (L.enter s o) = some (c1, s1, a)) : Whole L N c1 s1 l (az ++ [a]) c2 s2 az2 := by
 cases h with
 | cons h2 k =>
  rw [h1] at h2
  cases h2
  exact k
def pushX (tg : Bool) (s : Sk) (v : Int) : Sk := ⟨heldX (nodeX s.fr) (turnTag tg s.hd), heldX (s.nx (nodeX s.fr).toNat) (turnTag tg s.fr), upd s.nx (nodeX s.fr).toNat (nodeX s.hd), upd s.vl (nodeX s.fr).toNat v⟩
def popX (tg : Bool) (s : Sk) : Sk := ⟨heldX (s.nx (nodeX s.hd).toNat) (turnTag tg s.hd), heldX (nodeX s.hd) (turnTag tg s.fr), upd s.nx (nodeX s.hd).toNat (nodeX s.fr), s.vl⟩
def oneX (tg : Bool) (c : Nat) (s : Sk) (o : OpV) : Nat × Sk × Ans :=
 if o.k = 1 then (if nodeX s.fr = -1 then (c + 1, s, (false, 0)) else (c + 7, pushX tg s o.a, (true, 0)))
 else if o.k = 2 then (if nodeX s.hd = -1 then (c + 1, s, (false, 0)) else (c + 7, popX tg s, (true, s.vl (nodeX s.hd).toNat)))
 else if o.k = 3 then (if nodeX s.hd = -1 then (c + 1, s, (false, 0)) else (c + 3, s, (true, s.vl (nodeX s.hd).toNat)))
 else if o.k = 4 then (c + 1, s, (nodeX s.hd == -1, 0)) else (c, s, (false, 0))
def lonS (tg : Bool) : Nat → Nat → Sk × (Ans ⊕ SD) → Option (Nat × Sk × Ans)
 | _, c, (s, .inl a) => some (c, s, a)
 | 0, _, (_, .inr _) => none
 | n + 1, c, (s, .inr d) => lonS tg n (c + 1) (skAct tg s d)
theorem lonS_is (kb nb n : Nat) (tg : Bool) : ∀ (N c : Nat) (p : Sk × (Ans ⊕ SD)), lonC (skLa kb nb n tg) N c p = lonS tg N c p
 | 0, _, (_, .inl _) => rfl
 | _ + 1, _, (_, .inl _) => rfl
 | 0, _, (_, .inr _) => rfl
 | N + 1, c, (s, .inr d) => lonS_is kb nb n tg N (c + 1) (skAct tg s d)
theorem lonS_step (tg : Bool) (N c : Nat) (s : Sk) (d : SD) : lonS tg (N + 1) c (s, .inr d) = lonS tg N (c + 1) (skAct tg s d) := rfl
theorem lonS_done (tg : Bool) (N c : Nat) (s : Sk) (a : Ans) : lonS tg N c (s, .inl a) = some (c, s, a) := by cases N <;> rfl
theorem oneX_is (kb nb n : Nat) (tg : Bool) (c : Nat) (s : Sk) (o : OpV) : lonC (skLa kb nb n tg) 8 c ((skLa kb nb n tg).enter s o) = some (oneX tg c s o) := by
 refine (lonS_is kb nb n tg 8 c (skEnter s o)).trans ?_
 unfold skEnter oneX
 split
 ·by_cases h : nodeX s.fr = -1
  ·simp only [lonS_step, lonS_done, skAct, h, if_true]; rfl
  ·simp only [lonS_step, lonS_done, skAct, h, if_false, if_true, pushX]; rfl
 split
 ·by_cases h : nodeX s.hd = -1
  ·simp only [lonS_step, lonS_done, skAct, h, if_true]; rfl
  ·simp only [lonS_step, lonS_done, skAct, h, if_false, if_true, popX]; rfl
 split
 ·by_cases h : nodeX s.hd = -1
  ·simp only [lonS_step, lonS_done, skAct, h, if_true]; rfl
  ·simp only [lonS_step, lonS_done, skAct, h, if_false, if_true]; rfl
 split
 ·simp only [lonS_step, lonS_done, skAct]; rfl
 ·exact lonS_done _ _ _ _ _
structure Sim (S U : Sk) : Prop where
 hd : nodeX U.hd = nodeX S.hd
 fr : nodeX U.fr = nodeX S.fr
 nx : U.nx = S.nx
 vl : U.vl = S.vl
 th : tagX U.hd = 0
 tf : tagX U.fr = 0
structure OkX (n : Nat) (s : Sk) : Prop where
 hd : OkH n s.hd
 fr : OkH n s.fr
 nx : ∀ i, i < n → -1 ≤ s.nx i ∧ s.nx i < n
theorem SkI.okX {kb nb n : Nat} {tg : Bool} {s : Sk} {w : World} (h : SkI kb nb n tg s w) : OkX n s := ⟨h.hd, h.fr, h.nx⟩
theorem sim_one {n : Nat} (hn : n ≤ 65536) {S U : Sk} (hS : OkX n S) (hU : OkX n U) (h : Sim S U) (c d : Nat) (o : OpV) : (oneX false d U o).2.2 = (oneX true c S o).2.2 ∧ Sim (oneX true c S o).2.1 (oneX false d U o).2.1 := by
 have f0 : turnTag false U.hd = 0 := rfl
 have f1 : turnTag false U.fr = 0 := rfl
 unfold oneX
 rw [h.hd, h.fr, h.vl]
 split
 ·split
  ·exact ⟨rfl, h⟩
  ·next hf =>
   have i0 : (nodeX S.fr).toNat < n := by have := hS.fr.nlo; have := hS.fr.nhi; omega
   have i1 : -1 ≤ nodeX S.fr ∧ nodeX S.fr < n := ⟨hS.fr.nlo, hS.fr.nhi⟩
   have i2 := hS.nx _ i0
   refine ⟨rfl, ⟨?_, ?_, ?_, ?_, ?_, ?_⟩⟩
   ·show nodeX (heldX (nodeX U.fr) (turnTag false U.hd)) = nodeX (heldX (nodeX S.fr) (turnTag true S.hd))
    rw [h.fr, (hU.hd.turn false i1.1 i1.2 hn).2, (hS.hd.turn true i1.1 i1.2 hn).2]
   ·show nodeX (heldX (U.nx (nodeX U.fr).toNat) (turnTag false U.fr)) = nodeX (heldX (S.nx (nodeX S.fr).toNat) (turnTag true S.fr))
    rw [h.fr, h.nx, (hU.fr.turn false i2.1 i2.2 hn).2, (hS.fr.turn true i2.1 i2.2 hn).2]
   ·show upd U.nx (nodeX U.fr).toNat (nodeX U.hd) = upd S.nx (nodeX S.fr).toNat (nodeX S.hd)
    rw [h.fr, h.hd, h.nx]
   ·show upd U.vl (nodeX U.fr).toNat o.a = upd S.vl (nodeX S.fr).toNat o.a
    rw [h.fr, h.vl]
   ·show tagX (heldX (nodeX U.fr) (turnTag false U.hd)) = 0
    rw [h.fr, tag_held hU.hd false i1.1 i1.2 hn, f0]
   ·show tagX (heldX (U.nx (nodeX U.fr).toNat) (turnTag false U.fr)) = 0
    rw [h.fr, h.nx, tag_held hU.fr false i2.1 i2.2 hn, f1]
 split
 ·split
  ·exact ⟨rfl, h⟩
  ·next hf =>
   have i0 : (nodeX S.hd).toNat < n := by have := hS.hd.nlo; have := hS.hd.nhi; omega
   have i1 : -1 ≤ nodeX S.hd ∧ nodeX S.hd < n := ⟨hS.hd.nlo, hS.hd.nhi⟩
   have i2 := hS.nx _ i0
   refine ⟨rfl, ⟨?_, ?_, ?_, h.vl, ?_, ?_⟩⟩
   ·show nodeX (heldX (U.nx (nodeX U.hd).toNat) (turnTag false U.hd)) = nodeX (heldX (S.nx (nodeX S.hd).toNat) (turnTag true S.hd))
    rw [h.hd, h.nx, (hU.hd.turn false i2.1 i2.2 hn).2, (hS.hd.turn true i2.1 i2.2 hn).2]
   ·show nodeX (heldX (nodeX U.hd) (turnTag false U.fr)) = nodeX (heldX (nodeX S.hd) (turnTag true S.fr))
    rw [h.hd, (hU.fr.turn false i1.1 i1.2 hn).2, (hS.fr.turn true i1.1 i1.2 hn).2]
   ·show upd U.nx (nodeX U.hd).toNat (nodeX U.fr) = upd S.nx (nodeX S.hd).toNat (nodeX S.fr)
    rw [h.fr, h.hd, h.nx]
   ·show tagX (heldX (U.nx (nodeX U.hd).toNat) (turnTag false U.hd)) = 0
    rw [h.hd, h.nx, tag_held hU.hd false i2.1 i2.2 hn, f0]
   ·show tagX (heldX (nodeX U.hd) (turnTag false U.fr)) = 0
    rw [h.hd, tag_held hU.fr false i1.1 i1.2 hn, f1]
 split
 ·split
  ·exact ⟨rfl, h⟩
  ·exact ⟨rfl, h⟩
 split
 ·exact ⟨rfl, h⟩
 ·exact ⟨rfl, h⟩
theorem sim_zero (n : Nat) : Sim (sk0 n) (sk0 n) := ⟨rfl, rfl, rfl, rfl, by show tagX 0 = 0; decide, by show tagX (heldX 0 0) = 0; decide⟩
theorem whole_sk (kb nb n : Nat) (tg : Bool) : ∀ (l : List OpV) (c : Nat) (s : Sk) (az : List Ans), ∃ c2 s2 az2, Whole (skLa kb nb n tg) 8 c s l az c2 s2 az2 := by
 intro l
 induction l with
 | nil => exact fun c s az => ⟨c, s, az, @Whole.nil (skLa kb nb n tg) 8 c s az⟩
 | cons o l ih =>
  intro c s az
  obtain ⟨c2, s2, az2, h⟩ := ih (oneX tg c s o).1 (oneX tg c s o).2.1 (az ++ [(oneX tg c s o).2.2])
  exact ⟨c2, s2, az2, @Whole.cons (skLa kb nb n tg) 8 _ _ _ _ _ _ _ _ _ _ _ (oneX_is kb nb n tg c s o) h⟩
theorem whole_cons {kb nb n c c2 : Nat} {tg : Bool} {s s2 : Sk} {o : OpV} {l : List OpV} {az az2 : List Ans} (h : Whole (skLa kb nb n tg) 8 c s (o :: l) az c2 s2 az2) : Whole (skLa kb nb n tg) 8 (oneX tg c s o).1 (oneX tg c s o).2.1 l (az ++ [(oneX tg c s o).2.2]) c2 s2 az2 := by
 exact Whole.uncons (L := skLa kb nb n tg) h (oneX_is kb nb n tg c s o)
section
section
variable {L : La} {K : Lb L} {e : K.E} {b : Frame} {k : List Item} {l : List Frame} {ops : Array Oper} {a : Act}
theorem LW.drawnS {id m : Nat} {o : Oper} {f : FuncId} {fn : Func} {args : Array Operand} {ats : Array TypeId} {Q : Value → K.E → Prop} (hm : Try.prog.follows .mixedOrders = true) (hsz : ops.size = m + 2) (hlow : lowW ops = true) (hc : calmB ops m = true) (hl : lastB ops m = true) (hw1 : waitsB ops (m + 1) m = true) (hk : b.kind ≠ .early)
  (ho : ops[m]? = some o) (hop : o.op = .call { callee := .value (.func f), args, argTypes := ats }) (hg : o.guard = none) (hf : Try.prog.funcs[f]? = some fn) (hname : (fn.name == "runtime.NumGoroutine") = false) (hb : fn.body.isNone = false) (hpl : ∀ f ∈ l, Plain f)
  (h : Cm Try.prog K.main (K.V e) ops (· = K.w e) (fun a => (∀ rest, Plain (b.at a (.inRegion ops (m :: rest) :: k))) ∧ SCall K f (args.map a.eval) e Q ∧ ∃ fin : Value → Act,
   (∀ v e' rest, Q v e' → LW K e' (G (b.at (fin v) (.inRegion ops rest :: k)) (l ++ K.bot e')) → LW K e' (G (b.at (a.put o.dst v) (.inRegion ops ((m + 1) :: rest) :: k)) (l ++ K.bot e'))) ∧
   ∀ v e', Q v e' → LW K e' (G (b.at (fin v) (.inRegion ops [] :: k)) (l ++ K.bot e'))) (List.range m) a) :
  LW K e (G (b.at a (.code (.region id ops true) :: k)) (l ++ K.bot e)) := by
 rw [List.range_eq_range'] at h
 obtain ⟨P, hP⟩ : ∃ P : Act → Prop, P = fun a => (∀ rest, Plain (b.at a (.inRegion ops (m :: rest) :: k))) ∧ SCall K f (args.map a.eval) e Q ∧ ∃ fin : Value → Act,
   (∀ v e' rest, Q v e' → LW K e' (G (b.at (fin v) (.inRegion ops rest :: k)) (l ++ K.bot e')) → LW K e' (G (b.at (a.put o.dst v) (.inRegion ops ((m + 1) :: rest) :: k)) (l ++ K.bot e'))) ∧
   ∀ v e', Q v e' → LW K e' (G (b.at (fin v) (.inRegion ops [] :: k)) (l ++ K.bot e')) := ⟨_, rfl⟩
 rw [← hP] at h
 have h0 : Cm Try.prog K.main (K.V e) ops (· = K.w e) P (List.range' 0 m) (puts ops (fun _ => undef) (fun j => decide (j < 0)) a) := by
  have : puts ops (fun _ => undef) (fun j => decide (j < 0)) a = a := putsL_none _ a fun j _ => decide_eq_false (Nat.not_lt_zero j)
  rw [this]; exact h
 obtain ⟨vals, _, hcond, hend⟩ := cm_vals (Z := (· = K.w e)) (ops := ops) (m := m) (w := K.w e) rfl (by omega) m 0 (fun _ => undef) a (by omega) h0
 rw [hP] at hend
 obtain ⟨hpa, hcall, fin, h1, h2⟩ := hend
 have hm1 : ∀ f : Nat → Bool, Closed ops f → f (m + 1) = true → f m = true := fun f hC hf1 => by
  have hlt : m + 1 < ops.size := by omega
  unfold waitsB at hw1
  rw [Array.getElem?_eq_getElem hlt] at hw1
  simp only [Option.any_some] at hw1
  obtain ⟨x, hx, hb'⟩ := Array.any_eq_true.1 hw1
  simp only [Bool.and_eq_true, decide_eq_true_eq] at hb'
  exact hb'.1 ▸ hC _ _ (Array.getElem?_eq_getElem hlt) hf1 _ (Array.getElem_mem hx) hb'.2
 refine Walk.drawnE (E := K.E × World) (V := fun x => K.V x.1) (Stop := fun x => K.Stop x.1) (cs := fun x => l ++ K.bot x.1) (w := fun x => x.2)
  (Inv := fun f x y => (f m = false ∧ f (m + 1) = false ∧ x = puts ops vals f a ∧ y.1 = e ∧ ∃ d, y.2 = (K.w e).at d) ∨
   (f m = true ∧ f (m + 1) = false ∧ (∀ j, j < m → f j = true) ∧ ∃ v, Q v y.1 ∧ x = (puts ops vals (fun j => decide (j < m)) a).put o.dst v ∧ ∃ d, y.2 = (K.w y.1).at d) ∨
   (f m = true ∧ f (m + 1) = true ∧ (∀ j, j < m → f j = true) ∧ ∃ v, Q v y.1 ∧ x = fin v ∧ ∃ d, y.2 = (K.w y.1).at d)) (e, K.w e) hm hlow (.inl ⟨rfl, rfl, (puts_zero vals a).symm, rfl, (K.w e).drawn, rfl⟩) ?_ ?_
 ·rintro f' i oi x ⟨e', w'⟩ hI hC hfi hoi hd rest hr
  dsimp only at hI hr ⊢
  have hi : i < m + 2 := by have := (Array.getElem?_eq_some_iff.1 hoi).1; omega
  rcases hI with ⟨f1, f2, rfl, rfl, d, rfl⟩ | ⟨f1, f2, f3, v, hq, rfl, d, rfl⟩ | ⟨f1, f2, f3, _⟩
  ·refine Walk.back ?_ d
   by_cases e1 : i = m
   ·subst e1
    rw [ho] at hoi
    cases hoi
    have hall := last_all hl hC ho hd
    have hpe : puts ops vals f' a = puts ops vals (fun j => decide (j < i)) a := puts_congr (fun j hj => ⟨by
     by_cases hji : j < i
     ·rw [hall (i - j) j (by omega) (by omega)]; exact (decide_eq_true hji).symm
     ·by_cases hji2 : j = i
      ·rw [hji2, hfi]; simp
      ·have : j = i + 1 := by omega
       rw [this, f2]; simp, fun _ => rfl⟩) a
    rw [hpe]
    refine LW.callS (Q := Q) hcall ho ?_ hk hop hf hname hb (hpa _) hpl fun v e1 hq => ?_
    ·unfold Region.wanted; rw [hg]
    ·exact hr _ (e1, K.w e1) (.inr (.inl ⟨upd_same _ _ _, by rw [upd_ne _ _ (by omega)]; exact f2, fun j hj => by rw [upd_ne _ _ (by omega)]; exact hall (i - j) j (by omega) (by omega), v, hq, rfl, (K.w e1).drawn, rfl⟩))
   ·have hi1 : i ≠ m + 1 := fun h => by
     subst h
     have : f' m = true := waits_at hw1 hoi hd
     rw [f1] at this; cases this
    have him : i < m := by omega
    refine Walk.calmOp (Z := (· = K.w _)) rfl hc hk him hoi hd (hcond i oi (Nat.zero_le _) him hoi) ?_
    rw [← puts_upd hc him vals hfi hoi a]
    exact hr _ (_, (K.w _).at (K.w _).drawn) (.inl ⟨by rw [upd_ne _ _ (by omega)]; exact f1, by rw [upd_ne _ _ (by omega)]; exact f2, rfl, rfl, (K.w _).drawn, rfl⟩)
  ·refine Walk.back ?_ d
   have hi1 : i = m + 1 := by
    refine Classical.byContradiction fun hne => ?_
    by_cases e1 : i = m
    ·rw [e1, f1] at hfi; cases hfi
    ·rw [f3 i (by omega)] at hfi; cases hfi
   subst hi1
   refine h1 v e' rest hq ?_
   exact hr _ (e', K.w e') (.inr (.inr ⟨by rw [upd_ne _ _ (by omega)]; exact f1, upd_same _ _ _, fun j hj => by rw [upd_ne _ _ (by omega)]; exact f3 j hj, v, hq, rfl, (K.w e').drawn, rfl⟩))
  ·exfalso
   by_cases e1 : i = m
   ·rw [e1, f1] at hfi; cases hfi
   ·by_cases e2 : i = m + 1
    ·rw [e2, f2] at hfi; cases hfi
    ·rw [f3 i (by omega)] at hfi; cases hfi
 ·rintro f' x ⟨e', w'⟩ hI hall
  dsimp only at hI ⊢
  rcases hI with ⟨f1, _⟩ | ⟨_, f2, _⟩ | ⟨_, _, _, v, hq, rfl, d, rfl⟩
  ·rw [hall m (by omega)] at f1; cases f1
  ·rw [hall (m + 1) (by omega)] at f2; cases f2
  ·exact Walk.back (h2 v e' hq) d
end
end
section
section
variable {kb nb n : Nat} {tg : Bool} {sv : Value}
def Turned (K : Lg (skLa kb nb n tg) sv) (W : Wd (skLa kb nb n tg)) (e : K.E) (d : SD) (top x : Int) (v : Value) (e' : K.E) : Prop :=
 ∃ s, (W.get s = top ∧ v = .bool true ∧ Wrote K e d s (W.put s x) e') ∨ (W.get s ≠ top ∧ v = .bool false ∧ Wrote K e d s s e')
theorem hturn_s (K : Lg (skLa kb nb n tg) sv) (H : Hd kb nb n tg) (e : K.E) (d : SD) (top nx : Int) (hok : OkH n top) (hn1 : -1 ≤ nx) (hn2 : nx < n) (hn : n ≤ 65536) (ht : K.tgt e = (K.s e, .inr d)) :
  SCall K.toLb 65 #[H.p, sv, .int .i64 top, .int .i64 nx] e (Turned K H.W e d top (heldX nx (turnTag tg top))) := by
 intro fr l hp hl hk
 have htag := H.tag _ _ (K.inv e)
 have hh := word_cas K H.W e d top (heldX nx (turnTag tg top)) (H.okw _ (hok.turn tg hn1 hn2 hn).1) ht
 unfold Wd.p at hh
 rw [H.hb, H.hq] at hh
 unfold Hd.p
 unfold LW
 rw [enter_at _ Try.func65 code65_is]
 simp only [Try.ntmps65, ez, Nat.reduceAdd, Nat.reduceSub]
 refine Walk.gz z65 ?_
 cases tg with
 | true =>
  simp only [turnTag, if_true] at hh hk
  refine Walk.gz z65 ?_
  refine Walk.callV (x := .int .i64 (tagX top)) (W := K.w e) ?_ hoA (by rfl) (by decide) rfl Try.func47 (by kernel_rfl) (by rfl) ?_
  ·walk_nrm
   exact tag_w top _
  walk_nrm
  refine Walk.gz z65 ?_
  generalize hgT : bits BinOp.and IntKind.i64 (IntKind.i64.wrap (tagX top + 1)) 2147483647 = T at *
  (refine LW.drawnS (K := K.toLb) (l := fr :: l) (m := 8) (f := 81) (Q := Turned K H.W e d top (heldX nx T)) (by kernel_rfl) size65_4 (by kernel_rfl) (by kernel_rfl) (by kernel_rfl) (by kernel_rfl) (by decide) hoA rfl rfl Try.func81 (by kernel_rfl) (by rfl) (plain_cons hp hl) ?_; simp only [List.range, List.range.loop]; repeat (first | (refine Cm.oq ?_) | (refine Cm.unw hoA (by rfl) ?_; walk_nrm)))
  refine Cm.callV (x := .int .i64 (heldX nx T)) ?_ hoA (by rfl) rfl Try.func44 (by kernel_rfl) (by rfl) ?_
  ·intro w' he
   subst he
   walk_nrm
   exact newHeld_w nx T _
  walk_nrm
  refine Cm.done ⟨fun rest => ⟨rfl, rfl, _, Try.func65⟩, ?_, ?finA, ?hA1, ?hA2⟩
  ·walk_nrm
   exact hh
  case hA1 =>
   intro v e' rest hq hr
   unfold LW at hr ⊢
   walk_nrm
   (refine Walk.oq ?_; try walk_nrm)
   exact hr
  case hA2 =>
   intro v e' hq
   unfold LW
   refine Walk.gz z65 ?_
   exact Walk.on1 rfl rfl Try.func65 rfl (hk _ e' hq)
 | false =>
  simp only [turnTag, Bool.false_eq_true, if_false] at hh hk
  refine Walk.gz z65 ?_
  (refine LW.drawnS (K := K.toLb) (l := fr :: l) (m := 8) (f := 81) (Q := Turned K H.W e d top (heldX nx 0)) (by kernel_rfl) size65_4 (by kernel_rfl) (by kernel_rfl) (by kernel_rfl) (by kernel_rfl) (by decide) hoA rfl rfl Try.func81 (by kernel_rfl) (by rfl) (plain_cons hp hl) ?_; simp only [List.range, List.range.loop]; repeat (first | (refine Cm.oq ?_) | (refine Cm.unw hoA (by rfl) ?_; walk_nrm)))
  refine Cm.callV (x := .int .i64 (heldX nx 0)) ?_ hoA (by rfl) rfl Try.func44 (by kernel_rfl) (by rfl) ?_
  ·intro w' he
   subst he
   walk_nrm
   exact newHeld_w nx 0 _
  walk_nrm
  refine Cm.done ⟨fun rest => ⟨rfl, rfl, _, Try.func65⟩, ?_, ?finB, ?hB1, ?hB2⟩
  ·walk_nrm
   exact hh
  case hB1 =>
   intro v e' rest hq hr
   unfold LW at hr ⊢
   walk_nrm
   (refine Walk.oq ?_; try walk_nrm)
   exact hr
  case hB2 =>
   intro v e' hq
   unfold LW
   refine Walk.gz z65 ?_
   exact Walk.on1 rfl rfl Try.func65 rfl (hk _ e' hq)
end
end
end Go.Proofs.Ytdmpmoggacjgcaa
