/- Part 18. -/
import Derived.Test.YtjenoiekfkhafaaJ3
import Derived.Test.YtjenoiekfkhafaaJ17
set_option linter.unusedSimpArgs false
set_option linter.unusedVariables false
set_option linter.unusedVariables false
set_option maxHeartbeats 8000000
set_option maxRecDepth 100000
namespace Go.Proofs.Ytjenoiekfkhafaa
open Go.Conc Go.RowKit Go.Relay
open Go.ConcN (upd upd_ne upd_same)
section
section
variable {P : Program}
theorem eqInB (d : Nat) (t : TypeId) (x y : Bool) (w : World) (es : Array Event) (hu : P.underlying t = some .bool) : (Op.equalIn (d + 1) t (.bool x) (.bool y)).run P w = .ok (x == y) w /\ (Op.equalIn (d + 1) t (.bool x) (.bool y)).events P w es = es := by
 constructor <;> simp [Op.equalIn, run_underlying hu]
theorem run_neqB (t : TypeId) (hu : P.underlying t = some .bool) (x y : Bool) (w : World) : (binOp .neq t (.bool x) (.bool y)).run P w = .ok (.bool (x != y)) w := by
 simp only [binOp]
 simp [Op.equal, Op.maxDepth, (eqInB 9999 t x y w #[] hu).1, bne]
theorem ev_neqB (t : TypeId) (hu : P.underlying t = some .bool) (x y : Bool) (w : World) (es : Array Event) : (binOp .neq t (.bool x) (.bool y)).events P w es = es := by
 simp only [binOp]
 simp [Op.equal, Op.maxDepth, (eqInB 9999 t x y w #[] hu).1, (eqInB 9999 t x y w es hu).2]
end
theorem und4B : Try.prog.underlying 4 = some .bool := by kernel_rfl
noncomputable def reg21_0 := rk Try.f21.body 0
noncomputable def reg21_1 := rk Try.f21.body 1
noncomputable def reg21_2 := rk Try.f21.body 2
noncomputable def reg21_3 := rk Try.f21.body 3
noncomputable def reg21_4 := rk Try.f21.body 4
noncomputable def reg21_6 := rk Try.f21.body 6
theorem size21_6 : reg21_6.size = 9 := by kernel_rfl
noncomputable def reg21_7 := rk Try.f21.body 7
noncomputable def reg21_5 := rk Try.f21.body 5
noncomputable def reg21_8 := rk Try.f21.body 8
theorem z21 : reg21_0.size = 1 /\ reg21_1.size = 5 /\ reg21_2.size = 1 /\ reg21_3.size = 1 /\ reg21_4.size = 4 /\ reg21_5.size = 3 /\ reg21_6.size = 9 /\ reg21_7.size = 1 /\ reg21_8.size = 1 := by and_intros <;> kernel_rfl
theorem code21_is : Try.f21.body = some (.seq (.region 0 reg21_0 false) (.seq (.seq (.region 1 reg21_1 false) (.cond (.tmp 10 ) (.seq (.region 2 reg21_2 false) (.ret)) (.skip))) (.seq (.seq (.region 3 reg21_3 false) (.block 0 (.loop (.seq (.seq (.region 4 reg21_4 false) (.cond (.tmp 14 ) (.skip) (.exit 0))) (.seq (.block 1 (.seq (.region 6 reg21_6 true) (.cond (.tmp 25 ) (.seq (.region 7 reg21_7 false) (.ret)) (.skip)))) (.region 5 reg21_5 false)))))) (.seq (.region 8 reg21_8 false) (.ret))))) := by kernel_rfl
noncomputable def hdSame (av bv : Value) (i : Nat) (u : Nat -> Value) : Frame :=
 (base 21).at { tmps := #[av, bv, u 2, u 3, u 4, .int .i64 i, u 6, u 7, u 8, u 9, u 10, u 11, u 12, u 13, u 14, u 15, u 16, u 17, u 18, u 19, u 20, u 21, u 22, u 23, u 24, u 25], defers := [] } [.code (.seq (.seq (.region 4 reg21_4 false) (.cond (.tmp 14 ) (.skip) (.exit 0))) (.seq (.block 1 (.seq (.region 6 reg21_6 true) (.cond (.tmp 25 ) (.seq (.region 7 reg21_7 false) (.ret)) (.skip)))) (.region 5 reg21_5 false))), .inLoop (.seq (.seq (.region 4 reg21_4 false) (.cond (.tmp 14 ) (.skip) (.exit 0))) (.seq (.block 1 (.seq (.region 6 reg21_6 true) (.cond (.tmp 25 ) (.seq (.region 7 reg21_7 false) (.ret)) (.skip)))) (.region 5 reg21_5 false))), .inBlock 0, .code (.seq (.region 8 reg21_8 false) (.ret))]
section
variable {main : Bool} {V : Nat -> Option Wait}
theorem sn_in (a b : Option Addr) (n ca cb : Nat) (cs : List Frame) (w : World) :
  Walk Try.prog main (DR V) (fun g w' => (∃ u, g = G (hdSame (.slice a n ca) (.slice b n cb) 0 u) cs) /\ ∃ d, w' = w.at d) (G (Frame.enter Try.prog 21 #[.slice a n ca, .slice b n cb] .normal) cs) w := by
 rw [enter_at _ Try.func21 code21_is]
 simp only [Try.ntmps21, ez, Nat.reduceAdd, Nat.reduceSub]
 refine Aa z21 ?_
 refine Walk.ctl rfl (fun w => stepG_loop) ?_
 refine .stop fun d => ⟨Am ?_, d, rfl⟩
 simp only [hdSame]
 rfl
theorem sn_out (a b : Option Addr) (n ca cb : Nat) (u : Nat -> Value) (c : Frame) (cs : List Frame) (w : World) :
  Walk Try.prog main (DR V) (fun g w' => g = G (c.finish (.bool true)) cs /\ ∃ d, w' = w.at d) (G (hdSame (.slice a n ca) (.slice b n cb) n u) (c :: cs)) w := by
 unfold hdSame
 refine Aa z21 ?_
 exact Bh rfl rfl Try.func21 rfl (.stop fun d => ⟨rfl, d, rfl⟩)
theorem sn_go (ab ao n ca bb bo cb i : Nat) (x : Int) (u : Nat -> Value) (cs : List Frame) (w : World) (hi : i < n) (hn : n <= 17592186044416) (ha : w.cell? ⟨ab, ao + i, none⟩ = some (.int .i64 x)) (hb : w.cell? ⟨bb, bo + i, none⟩ = some (.int .i64 x)) :
  Walk Try.prog main (DR V) (fun g w' => (∃ u', g = G (hdSame (.slice (some ⟨ab, ao, none⟩) n ca) (.slice (some ⟨bb, bo, none⟩) n cb) (i + 1) u') cs) /\ ∃ d, w' = w.at d) (G (hdSame (.slice (some ⟨ab, ao, none⟩) n ca) (.slice (some ⟨bb, bo, none⟩) n cb) i u) cs) w := by
 have hw1 : IntKind.wrap .i64 ((i : Int) + 1) = (i : Int) + 1 := by rw [IntKind.wrap_i64]; omega
 conv => arg 5; unfold hdSame
 refine Aa z21 ?_
 (refine Bx (by kernel_rfl) size21_6 (by kernel_rfl) (by kernel_rfl) (by decide) ?_; simp only [List.range, List.range.loop]; repeat (first | (refine Cm.oq ?_) | (refine Bm Ao (by rfl) ?_; walk_nrm)))
 refine Cm.done ?_
 refine Aa z21 ?_
 refine Walk.ctl rfl (fun w => stepG_inLoop) ?_
 refine .stop fun d' => ⟨Am ?_, d', rfl⟩
 have hc : ((i + 1 : Nat) : Int) = (i : Int) + 1 := by simp
 simp only [hdSame, hc]
 rfl
theorem sn_loop (a b : Option Addr) (l : List Int) (ca cb : Nat) (hn : l.length <= 17592186044416) (c : Frame) (cs : List Frame) (w : World) (ha : NumA a l w) (hb : NumA b l w) : ∀ (r i : Nat) (u : Nat -> Value), i + r = l.length ->
  Walk Try.prog main (DR V) (fun g w' => g = G (c.finish (.bool true)) cs /\ ∃ d, w' = w.at d) (G (hdSame (.slice a l.length ca) (.slice b l.length cb) i u) (c :: cs)) w := by
 intro r
 induction r with
 | zero =>
  intro i u hi
  have hi : i = l.length := hi
  subst hi
  exact sn_out a b l.length ca cb u c cs w
 | succ r ih =>
  intro i u hi
  have hin : i < l.length := by omega
  have hx := List.getElem?_eq_getElem hin
  obtain ⟨ab, ao, rfl, h1⟩ := ha i _ hx
  obtain ⟨bb, bo, rfl, h2⟩ := hb i _ hx
  refine (sn_go ab ao l.length ca bb bo cb i _ u (c :: cs) w hin hn h1 h2).then ?_
  rintro g w' ⟨⟨u', rfl⟩, d, rfl⟩
  exact Walk.back (ih (i + 1) u' (by omega)) d
theorem sn_w (a b : Option Addr) (l : List Int) (ca cb : Nat) (hn : l.length <= 17592186044416) (w : World) (ha : NumA a l w) (hb : NumA b l w) : Bn Try.prog main V 21 #[.slice a l.length ca, .slice b l.length cb] w (.bool true) w := by
 intro fr cs
 refine (sn_in a b l.length ca cb (fr :: cs) w).then ?_
 rintro g w1 ⟨⟨u, rfl⟩, d, rfl⟩
 refine Walk.back ?_ d
 refine (sn_loop a b l ca cb hn fr cs w ha hb l.length 0 u (by omega)).mono ?_
 rintro g w' ⟨rfl, d, rfl⟩
 exact ⟨_, ⟨rfl, d, rfl⟩, rfl⟩
noncomputable def reg20_0 := rk Try.f20.body 0
noncomputable def reg20_1 := rk Try.f20.body 1
noncomputable def reg20_2 := rk Try.f20.body 2
noncomputable def reg20_3 := rk Try.f20.body 3
noncomputable def reg20_4 := rk Try.f20.body 4
noncomputable def reg20_6 := rk Try.f20.body 6
theorem size20_6 : reg20_6.size = 38 := by kernel_rfl
noncomputable def reg20_7 := rk Try.f20.body 7
noncomputable def reg20_5 := rk Try.f20.body 5
noncomputable def reg20_8 := rk Try.f20.body 8
theorem z20 : reg20_0.size = 1 /\ reg20_1.size = 5 /\ reg20_2.size = 1 /\ reg20_3.size = 1 /\ reg20_4.size = 4 /\ reg20_5.size = 3 /\ reg20_6.size = 38 /\ reg20_7.size = 1 /\ reg20_8.size = 1 := by and_intros <;> kernel_rfl
theorem code20_is : Try.f20.body = some (.seq (.region 0 reg20_0 false) (.seq (.seq (.region 1 reg20_1 false) (.cond (.tmp 10 ) (.seq (.region 2 reg20_2 false) (.ret)) (.skip))) (.seq (.seq (.region 3 reg20_3 false) (.block 0 (.loop (.seq (.seq (.region 4 reg20_4 false) (.cond (.tmp 14 ) (.skip) (.exit 0))) (.seq (.block 1 (.seq (.region 6 reg20_6 true) (.cond (.tmp 54 ) (.seq (.region 7 reg20_7 false) (.ret)) (.skip)))) (.region 5 reg20_5 false)))))) (.seq (.region 8 reg20_8 false) (.ret))))) := by kernel_rfl
noncomputable def hdSA (a b : Value) (i : Nat) (u : Nat -> Value) : Frame :=
 (base 20).at { tmps := #[a, b, u 2, u 3, u 4, .int .i64 i, u 6, u 7, u 8, u 9, u 10, u 11, u 12, u 13, u 14, u 15, u 16, u 17, u 18, u 19, u 20, u 21, u 22, u 23, u 24, u 25, u 26, u 27, u 28, u 29, u 30, u 31, u 32, u 33, u 34, u 35, u 36, u 37, u 38, u 39, u 40, u 41, u 42, u 43, u 44, u 45, u 46, u 47, u 48, u 49, u 50, u 51, u 52, u 53, u 54], defers := [] } [.code (.seq (.seq (.region 4 reg20_4 false) (.cond (.tmp 14 ) (.skip) (.exit 0))) (.seq (.block 1 (.seq (.region 6 reg20_6 true) (.cond (.tmp 54 ) (.seq (.region 7 reg20_7 false) (.ret)) (.skip)))) (.region 5 reg20_5 false))), .inLoop (.seq (.seq (.region 4 reg20_4 false) (.cond (.tmp 14 ) (.skip) (.exit 0))) (.seq (.block 1 (.seq (.region 6 reg20_6 true) (.cond (.tmp 54 ) (.seq (.region 7 reg20_7 false) (.ret)) (.skip)))) (.region 5 reg20_5 false))), .inBlock 0, .code (.seq (.region 8 reg20_8 false) (.ret))]
theorem sa_in (a b : Option Addr) (n ca cb : Nat) (cs : List Frame) (w : World) :
  Walk Try.prog main (DR V) (fun g w' => (∃ u, g = G (hdSA (.slice a n ca) (.slice b n cb) 0 u) cs) /\ ∃ d, w' = w.at d) (G (Frame.enter Try.prog 20 #[.slice a n ca, .slice b n cb] .normal) cs) w := by
 rw [enter_at _ Try.func20 code20_is]
 simp only [Try.ntmps20, ez, Nat.reduceAdd, Nat.reduceSub]
 refine Aa z20 ?_
 refine Walk.ctl rfl (fun w => stepG_loop) ?_
 refine .stop fun d => ⟨Am ?_, d, rfl⟩
 simp only [hdSA]
 rfl
theorem sa_out (a b : Option Addr) (n ca cb : Nat) (u : Nat -> Value) (c : Frame) (cs : List Frame) (w : World) :
  Walk Try.prog main (DR V) (fun g w' => g = G (c.finish (.bool true)) cs /\ ∃ d, w' = w.at d) (G (hdSA (.slice a n ca) (.slice b n cb) n u) (c :: cs)) w := by
 unfold hdSA
 refine Aa z20 ?_
 exact Bh rfl rfl Try.func20 rfl (.stop fun d => ⟨rfl, d, rfl⟩)
theorem sa_go (ab ao n ca bb bo cb i : Nat) (y : Bool) (x : Int) (la lb : Option Addr) (lc ld : Nat) (xl : List Int) (hxl : xl.length <= 1048576) (u : Nat -> Value) (cs : List Frame) (w : World) (hi : i < n) (hn : n <= 17592186044416) (a0 : w.cell? ⟨ab, ao + i * 3, none⟩ = some (.bool y)) (a1 : w.cell? ⟨ab, ao + i * 3 + 1, none⟩ = some (.int .i64 x)) (a2 : w.cell? ⟨ab, ao + i * 3 + 2, none⟩ = some (.slice la xl.length lc)) (b0 : w.cell? ⟨bb, bo + i * 3, none⟩ = some (.bool y)) (b1 : w.cell? ⟨bb, bo + i * 3 + 1, none⟩ = some (.int .i64 x)) (b2 : w.cell? ⟨bb, bo + i * 3 + 2, none⟩ = some (.slice lb xl.length ld)) (n1 : NumA la xl w) (n2 : NumA lb xl w) :
  Walk Try.prog main (DR V) (fun g w' => (∃ u', g = G (hdSA (.slice (some ⟨ab, ao, none⟩) n ca) (.slice (some ⟨bb, bo, none⟩) n cb) (i + 1) u') cs) /\ ∃ d, w' = w.at d) (G (hdSA (.slice (some ⟨ab, ao, none⟩) n ca) (.slice (some ⟨bb, bo, none⟩) n cb) i u) cs) w := by
 have hw1 : IntKind.wrap .i64 ((i : Int) + 1) = (i : Int) + 1 := by rw [IntKind.wrap_i64]; omega
 have qb := run_neqB (P := Try.prog) 4 und4B y y
 have qe := ev_neqB (P := Try.prog) 4 und4B y y
 have qy : (y != y) = false := by cases y <;> rfl
 have hq := sn_w (main := main) (V := V) la lb xl lc ld (by omega) w n1 n2
 clear n1 n2
 generalize xl.length = m at *
 rw [qy] at qb
 conv => arg 5; unfold hdSA
 refine Aa z20 ?_
 (refine Bx (by kernel_rfl) size20_6 (by kernel_rfl) (by kernel_rfl) (by decide) ?_; simp only [List.range, List.range.loop]; repeat (first | (refine Cm.oq ?_) | (refine Bm Ao (by rfl) ?_; walk_nrm)))
 refine Cm.callV (x := .bool true) ?_ Ao (by rfl) rfl Try.func21 (by kernel_rfl) (by rfl) ?_
 ·intro w' e
  subst e
  walk_nrm
  exact hq
 walk_nrm
 repeat (first | (refine Cm.oq ?_) | (refine Bm Ao (by rfl) ?_; walk_nrm))
 refine Cm.done ?_
 refine Aa z20 ?_
 refine Walk.ctl rfl (fun w => stepG_inLoop) ?_
 refine .stop fun d' => ⟨Am ?_, d', rfl⟩
 have hc : ((i + 1 : Nat) : Int) = (i : Int) + 1 := by simp
 simp only [hdSA, hc]
 rfl
theorem sa_loop (a b : Option Addr) (l : List Ans) (ca cb : Nat) (hn : l.length <= 17592186044416) (c : Frame) (cs : List Frame) (w : World) (ha : Qa a l w) (hb : Qa b l w) : ∀ (r i : Nat) (u : Nat -> Value), i + r = l.length ->
  Walk Try.prog main (DR V) (fun g w' => g = G (c.finish (.bool true)) cs /\ ∃ d, w' = w.at d) (G (hdSA (.slice a l.length ca) (.slice b l.length cb) i u) (c :: cs)) w := by
 intro r
 induction r with
 | zero =>
  intro i u hi
  have hi : i = l.length := hi
  subst hi
  exact sa_out a b l.length ca cb u c cs w
 | succ r ih =>
  intro i u hi
  have hin : i < l.length := by omega
  have hx := List.getElem?_eq_getElem hin
  generalize l[i] = x at hx
  obtain ⟨ab, ao, la, lc, rfl, h1, h2, h3, h4, h5⟩ := ha i _ hx
  obtain ⟨bb, bo, lb, ld, rfl, k1, k2, k3, k4, _⟩ := hb i _ hx
  refine (sa_go ab ao l.length ca bb bo cb i x.ok x.n la lb lc ld x.l h5 u (c :: cs) w hin hn h1 h2 h3 k1 k2 k3 h4 k4).then ?_
  rintro g w' ⟨⟨u', rfl⟩, d, rfl⟩
  exact Walk.back (ih (i + 1) u' (by omega)) d
theorem sa_w (a b : Option Addr) (l : List Ans) (ca cb : Nat) (hn : l.length <= 17592186044416) (w : World) (ha : Qa a l w) (hb : Qa b l w) : Bn Try.prog main V 20 #[.slice a l.length ca, .slice b l.length cb] w (.bool true) w := by
 intro fr cs
 refine (sa_in a b l.length ca cb (fr :: cs) w).then ?_
 rintro g w1 ⟨⟨u, rfl⟩, d, rfl⟩
 refine Walk.back ?_ d
 refine (sa_loop a b l ca cb hn fr cs w ha hb l.length 0 u (by omega)).mono ?_
 rintro g w' ⟨rfl, d, rfl⟩
 exact ⟨_, ⟨rfl, d, rfl⟩, rfl⟩
end
end
section
def Lv (a b c d : Int) : Nat -> List OpV := fun i => ([[⟨1, 1, 10, 1⟩], [⟨a, b, c, d⟩]] : List (List OpV)).getD i []
def fxSl : List Int := [1, 1, 0, 0, 0, 0, 0, 1, 1]
def fySl : List Int := [1, 0, 0, 0, 0, 0, 1]
def fxA : Array Value := #[.int .i64 1, .int .i64 1, .int .i64 10, .int .i64 1]
def Qe (a b c d : Int) : Array Value := #[.int .i64 a, .int .i64 b, .int .i64 c, .int .i64 d]
def Mf : Array Value := #[.int .i64 1, .int .i64 2]
def Qd (A B : Nat) : Array Value := #[.slice (some ⟨A, 0, none⟩) 1 1, .slice (some ⟨B, 0, none⟩) 1 1]
def fxS : Array Value := #[.int .i64 1, .int .i64 1, .int .i64 0, .int .i64 0, .int .i64 0, .int .i64 0, .int .i64 0, .int .i64 1, .int .i64 1]
def fyS : Array Value := #[.int .i64 1, .int .i64 0, .int .i64 0, .int .i64 0, .int .i64 0, .int .i64 0, .int .i64 1]
def fxOa (A B : Nat) (i : Nat) : Option Addr := if i = 0 then some ⟨A, 0, none⟩ else some ⟨B, 0, none⟩
theorem fx_run (lb : Nat) : ((Bt (Aj lb (Da ([1, 2] : List Int).length)) (Ef [1, 2]) (Lv 3 1 0 0) 2 99 fxSl).1.th 1).ans = [⟨false, 0, []⟩] := by kernel_rfl
theorem fx_state (lb : Nat) : Pu (Da ([1, 2] : List Int).length) (Bt (Aj lb (Da ([1, 2] : List Int).length)) (Ef [1, 2]) (Lv 3 1 0 0) 2 99 fxSl).1.s = [2, 10, 11] := by kernel_rfl
theorem fy_run (lb : Nat) : ((Bt (Aj lb (Da ([1, 2] : List Int).length)) (Ef [1, 2]) (Lv 4 0 0 0) 2 99 fySl).1.th 1).ans = [⟨true, 0, [1, 11]⟩] := by kernel_rfl
theorem fx_ops {a b c d : Int} {A B Hd : Nat} {w : World} (h1 : w.heap[A]? = some (.cells fxA 47)) (h2 : w.heap[B]? = some (.cells (Qe a b c d) 47)) (h4 : w.heap[Hd]? = some (.cells (Qd A B) 34)) : OpsIn Hd 0 2 (fxOa A B) (fun _ => 1) (fun _ => 1) (Lv a b c d) w := by
 refine ⟨fun i hi => ?_, fun i hi => Nat.le_refl _, fun i hi => .inr ?_, fun i hi => ?_, fun i hi j o ho => ?_⟩
 ·rw [Nat.zero_add]
  refine (Ad h4 i).trans ?_
  match i, hi with
  | 0, _ => rfl
  | 1, _ => rfl
 ·match i, hi with
  | 0, _ => exact ⟨_, rfl⟩
  | 1, _ => exact ⟨_, rfl⟩
 ·match i, hi with
  | 0, _ => rfl
  | 1, _ => rfl
 ·match i, hi, ho with
  | 0, _, ho =>
   match j, ho with
   | 0, ho => cases ho; exact ⟨A, 0, rfl, (Ad h1 _).trans rfl, (Ad h1 _).trans rfl, (Ad h1 _).trans rfl, (Ad h1 _).trans rfl⟩
   | j + 1, ho => exact absurd ho (by simp [Lv])
  | 1, _, ho =>
   match j, ho with
   | 0, ho => cases ho; exact ⟨B, 0, rfl, (Ad h2 _).trans rfl, (Ad h2 _).trans rfl, (Ad h2 _).trans rfl, (Ad h2 _).trans rfl⟩
   | j + 1, ho => exact absurd ho (by simp [Lv])
theorem fx_lsR {T : Nat} {w : World} (h : w.heap[T]? = some (.cells Mf 2)) : LsR (.slice (some ⟨T, 0, none⟩) 2 2) [1, 2] w := NumB.lsR (xs := [1, 2]) h
def fz1 : Sq := Ht 1 (Ef [1, 2]) false (fun i => ([5, 6] : List Int).getD i 0)
def fz2 : Sq := Ht 1 fz1 true (fun i => ([1] : List Int).getD i 0)
theorem Pi : ¬ Ba (Ef [1, 2]).v /\ ¬ Ba fz1.v /\ ¬ Ba fz2.v := by
 have h : decide (¬ Ba (Ef [1, 2]).v /\ ¬ Ba fz1.v /\ ¬ Ba fz2.v) = true := by kernel_rfl
 exact of_decide_eq_true h
theorem fz_words : Je 1 fz2 = [6, 6] := by kernel_rfl
theorem fz_ver : fz2.v = 4 := by kernel_rfl
theorem fz_v1 : Fv 1 (fun i => ([5, 6] : List Int).getD i 0) [5, 6] := fun i hi => by
 match i, hi with
 | 0, _ => rfl
 | 1, _ => rfl
theorem fz_v2 : Fv 1 (fun i => ([1] : List Int).getD i 0) [1] := fun i hi => by
 match i, hi with
 | 0, _ => rfl
 | 1, _ => rfl
structure FxT (X b o ac b0 o0 tc0 sb so sc : Nat) (v1 : Value) (k : Bool) (w : World) : Prop where
 x : w.heap[X]? = some (.cells (Mm (.slice (some ⟨b, o, none⟩) 2 ac) v1 (.slice (some ⟨sb, so, none⟩) 3 sc) k) 31)
 a1 : w.cell? ⟨b, o + 1, none⟩ = some (.slice (some ⟨b0, o0, none⟩) 1 tc0)
 n0 : w.cell? ⟨b0, o0, none⟩ = some (.bool false)
 z0 : w.cell? ⟨sb, so, none⟩ = some (.int .i64 2)
 z2 : w.cell? ⟨sb, so + 2, none⟩ = some (.int .i64 11)
theorem FxT.old {X b o ac b0 o0 tc0 sb so sc : Nat} {v1 : Value} {k : Bool} {w w' : World} (H : FxT X b o ac b0 o0 tc0 sb so sc v1 k w) (h : ∀ b, b < w.heap.size -> w'.heap[b]? = w.heap[b]?) : FxT X b o ac b0 o0 tc0 sb so sc v1 k w' := by
 have hc : ∀ {b j : Nat} {v : Value}, w.cell? ⟨b, j, none⟩ = some v -> w'.cell? ⟨b, j, none⟩ = some v := fun {b j v} e => (World.cell?_of_block (a := ⟨b, j, none⟩) (h b (Al e))).trans e
 exact ⟨(h X (Array.getElem?_eq_some_iff.1 H.x).1).trans H.x, hc H.a1, hc H.n0, hc H.z0, hc H.z2⟩
noncomputable def reg12_0 := rk Try.f12.body 0
noncomputable def reg12_1 := rk Try.f12.body 1
noncomputable def reg12_2 := rk Try.f12.body 2
noncomputable def reg12_3 := rk Try.f12.body 3
noncomputable def reg12_4 := rk Try.f12.body 4
noncomputable def reg12_5 := rk Try.f12.body 5
noncomputable def reg12_6 := rk Try.f12.body 6
noncomputable def reg12_7 := rk Try.f12.body 7
noncomputable def reg12_8 := rk Try.f12.body 8
noncomputable def reg12_9 := rk Try.f12.body 9
noncomputable def reg12_10 := rk Try.f12.body 10
theorem z12 : reg12_0.size = 1 /\ reg12_1.size = 3 /\ reg12_2.size = 9 /\ reg12_3.size = 9 /\ reg12_4.size = 67 /\ reg12_5.size = 1 /\ reg12_6.size = 3 /\ reg12_7.size = 14 /\ reg12_8.size = 1 /\ reg12_9.size = 7 /\ reg12_10.size = 14 := by and_intros <;> kernel_rfl
theorem code12_is : Try.f12.body = some (.seq (.region 0 reg12_0 false) (.seq (.region 1 reg12_1 false) (.seq (.region 2 reg12_2 false) (.seq (.region 3 reg12_3 false) (.seq (.seq (.region 4 reg12_4 false) (.cond (.tmp 89 ) (.seq (.region 5 reg12_5 false) (.ret)) (.skip))) (.seq (.region 6 reg12_6 false) (.seq (.seq (.region 7 reg12_7 false) (.cond (.tmp 105 ) (.seq (.region 8 reg12_8 false) (.ret)) (.skip))) (.seq (.region 9 reg12_9 false) (.seq (.region 10 reg12_10 false) (.ret)))))))))) := by kernel_rfl
def Mc : Obj := .cells #[.slice none 0 0, .slice none 0 0, .slice none 0 0, .bool false] 31
def FxBack2 (X b o ac b0 o0 tc0 sb so sc : Nat) (v1 : Value) (k : Bool) (fr c : Frame) (cs : List Frame) : Prop := ∀ (cells : Array Value) (F : Nat -> List Ans) (ord : List Nat) (sts : List Int) (k2 : Bool) (w : World), FxT X b o ac b0 o0 tc0 sb so sc v1 k w -> TrA cells 2 F ord sts k2 w -> F 1 = [⟨true, 0, [1, 11]⟩] ->
 Walk Try.prog true (DR (fun _ => none)) (fun g w' => g = G (c.finish (.bool true)) cs /\ (∀ b, b < w.heap.size -> w'.heap[b]? = w.heap[b]?) /\ w.heap.size <= w'.heap.size) (G (fr.finish (.agg cells)) (c :: cs)) w
def FxBack1 (T : Nat) (fr c : Frame) (cs : List Frame) : Prop := ∀ (cells : Array Value) (F : Nat -> List Ans) (ord : List Nat) (k : Bool) (w : World), TrA cells 2 F ord [2, 10, 11] k w -> F 1 = [⟨false, 0, []⟩] -> w.heap[T]? = some (.cells fxA 47) ->
 Walk Try.prog true (DR (fun _ => none)) (fun g w' => ∃ fr2 b o ac b0 o0 tc0 sb so sc v1, g = G (Frame.enter Try.prog 14 #[.slice (some ⟨w.heap.size + 1, 0, none⟩) 2 2, .slice (some ⟨w.heap.size + 3, 0, none⟩) 2 2, .slice (some ⟨w.heap.size + 4, 0, none⟩) fySl.length 7, .int .i64 99] .normal) (fr2 :: c :: cs) /\ (∀ b, b < w.heap.size -> w'.heap[b]? = w.heap[b]?) /\ w.heap.size <= w'.heap.size /\
   FxT w.heap.size b o ac b0 o0 tc0 sb so sc v1 k w' /\ w'.heap[w.heap.size + 1]? = some (.cells Mf 2) /\ OpsIn (w.heap.size + 3) 0 2 (fxOa T (w.heap.size + 2)) (fun _ => 1) (fun _ => 1) (Lv 4 0 0 0) w' /\ (∀ (j : Nat) (z : Int), fySl[j]? = some z -> w'.cell? ⟨w.heap.size + 4, 0 + j, none⟩ = some (.int .i64 z)) /\ FxBack2 w.heap.size b o ac b0 o0 tc0 sb so sc v1 k fr2 c cs) (G (fr.finish (.agg cells)) (c :: cs)) w
section
variable {c : Frame} {cs : List Frame}
theorem fixed_in (c : Frame) (cs : List Frame) (w : World) :
  Walk Try.prog true (DR (fun _ => none)) (fun g w' => ∃ fr, g = G (Frame.enter Try.prog 14 #[.slice (some ⟨w.heap.size + 1, 0, none⟩) 2 2, .slice (some ⟨w.heap.size + 3, 0, none⟩) 2 2, .slice (some ⟨w.heap.size + 4, 0, none⟩) fxSl.length 9, .int .i64 99] .normal) (fr :: c :: cs) /\ (∀ b, b < w.heap.size -> w'.heap[b]? = w.heap[b]?) /\ w.heap.size <= w'.heap.size /\
    w'.heap[w.heap.size]? = some (.cells fxA 47) /\ w'.heap[w.heap.size + 1]? = some (.cells Mf 2) /\ OpsIn (w.heap.size + 3) 0 2 (fxOa w.heap.size (w.heap.size + 2)) (fun _ => 1) (fun _ => 1) (Lv 3 1 0 0) w' /\ (∀ (j : Nat) (z : Int), fxSl[j]? = some z -> w'.cell? ⟨w.heap.size + 4, 0 + j, none⟩ = some (.int .i64 z)) /\ FxBack1 w.heap.size fr c cs)
   (G (Frame.enter Try.prog 12 #[] .normal) (c :: cs)) w := by
 have hA : ∀ b, Ay (fun _ => none) b := fun b => ⟨fun _ _ _ _ h => (by cases h), fun _ _ h => (by cases h)⟩
 rw [enter_at _ Try.func12 code12_is]
 simp only [Try.ntmps12, ez, Nat.reduceAdd, Nat.reduceSub]
 obtain ⟨T, hT⟩ : ∃ T, w.heap.size = T := ⟨_, rfl⟩
 rw [hT]
 refine Aa z12 ?_
 (refine Walk.oa ?_; try walk_nrm)
 have s1 : (w.alloc (.cells fxA 47)).heap.size = T + 1 := by simp [hT]
 have o1 : ∀ b, b < T -> (w.alloc (.cells fxA 47)).heap[b]? = w.heap[b]? := fun b hb => Ab _ _ (by omega)
 have d1 : (w.alloc (.cells fxA 47)).heap[T]? = some (.cells fxA 47) := hT ▸ heap_alloc_new w (.cells fxA 47)
 try simp only [hT]
 change Walk Try.prog true _ _ _ (w.alloc (.cells fxA 47))
 generalize w.alloc (.cells fxA 47) = x1 at *
 refine Aa z12 ?_
 (refine Walk.oa ?_; try walk_nrm)
 have s2 : (x1.alloc (.cells Mf 2)).heap.size = (T + 1) + 1 := by simp [s1]
 have o2 : ∀ b, b < (T + 1) -> (x1.alloc (.cells Mf 2)).heap[b]? = x1.heap[b]? := fun b hb => Ab _ _ (by omega)
 have d2 : (x1.alloc (.cells Mf 2)).heap[(T + 1)]? = some (.cells Mf 2) := s1 ▸ heap_alloc_new x1 (.cells Mf 2)
 try simp only [s1]
 change Walk Try.prog true _ _ _ (x1.alloc (.cells Mf 2))
 generalize x1.alloc (.cells Mf 2) = x2 at *
 refine Aa z12 ?_
 (refine Walk.oa ?_; try walk_nrm)
 have s3 : (x2.alloc (.cells (Qe 3 1 0 0) 47)).heap.size = (T + 2) + 1 := by simp [s2]
 have o3 : ∀ b, b < (T + 2) -> (x2.alloc (.cells (Qe 3 1 0 0) 47)).heap[b]? = x2.heap[b]? := fun b hb => Ab _ _ (by omega)
 have d3 : (x2.alloc (.cells (Qe 3 1 0 0) 47)).heap[(T + 2)]? = some (.cells (Qe 3 1 0 0) 47) := s2 ▸ heap_alloc_new x2 (.cells (Qe 3 1 0 0) 47)
 try simp only [s2]
 change Walk Try.prog true _ _ _ (x2.alloc (.cells (Qe 3 1 0 0) 47))
 generalize x2.alloc (.cells (Qe 3 1 0 0) 47) = x3 at *
 refine Aa z12 ?_
 (refine Walk.oa ?_; try walk_nrm)
 have s4 : (x3.alloc (.cells (Qd T (T + 2)) 34)).heap.size = (T + 3) + 1 := by simp [s3]
 have o4 : ∀ b, b < (T + 3) -> (x3.alloc (.cells (Qd T (T + 2)) 34)).heap[b]? = x3.heap[b]? := fun b hb => Ab _ _ (by omega)
 have d4 : (x3.alloc (.cells (Qd T (T + 2)) 34)).heap[(T + 3)]? = some (.cells (Qd T (T + 2)) 34) := s3 ▸ heap_alloc_new x3 (.cells (Qd T (T + 2)) 34)
 try simp only [s3]
 change Walk Try.prog true _ _ _ (x3.alloc (.cells (Qd T (T + 2)) 34))
 generalize x3.alloc (.cells (Qd T (T + 2)) 34) = x4 at *
 refine Aa z12 ?_
 (refine Walk.oa ?_; try walk_nrm)
 have s5 : (x4.alloc (.cells fxS 3)).heap.size = (T + 4) + 1 := by simp [s4]
 have o5 : ∀ b, b < (T + 4) -> (x4.alloc (.cells fxS 3)).heap[b]? = x4.heap[b]? := fun b hb => Ab _ _ (by omega)
 have d5 : (x4.alloc (.cells fxS 3)).heap[(T + 4)]? = some (.cells fxS 3) := s4 ▸ heap_alloc_new x4 (.cells fxS 3)
 try simp only [s4]
 change Walk Try.prog true _ _ _ (x4.alloc (.cells fxS 3))
 generalize x4.alloc (.cells fxS 3) = x5 at *
 refine Aa z12 ?_
 refine Walk.callE Ao (by rfl) (by decide) rfl Try.func14 (by kernel_rfl) (by rfl) ?_
 walk_nrm
 have up1 : ∀ b, b < T + 1 -> x5.heap[b]? = x1.heap[b]? := fun b hb => (o5 b (by omega)).trans ((o4 b (by omega)).trans ((o3 b (by omega)).trans (o2 b (by omega))))
 refine .stop fun d => ⟨_, rfl, fun b hb => (up1 b (by omega)).trans (o1 b (by omega)), ?_, (up1 T (by omega)).trans d1, ?_, fx_ops ((up1 T (by omega)).trans d1) ?_ ?_, fun j z hz => ?_, ?_⟩
 ·show T <= x5.heap.size
  omega
 ·exact (o5 _ (by omega)).trans ((o4 _ (by omega)).trans ((o3 _ (by omega)).trans d2))
 ·exact (o5 _ (by omega)).trans ((o4 _ (by omega)).trans d3)
 ·exact (o5 _ (by omega)).trans d4
 ·rw [Nat.zero_add]
  refine (Ad (w := x5) d5 j).trans ?_
  have h : (fxSl.map (Value.int .i64))[j]? = some (.int .i64 z) := by rw [List.getElem?_map, hz]; rfl
  simpa [fxSl, fxS] using h
 ·clear d1 d2 d3 d4 d5 s1 s2 s3 s4 s5 o1 o2 o3 o4 o5 up1
  intro cells F ord k w6 hTr hF1 hT6
  obtain ⟨aa, ac, oa, oc, sa, sc, rfl, n1, n2, n3⟩ := hTr.all
  obtain ⟨b, o, ta0, tc0, rfl, a1, A1⟩ := n3 1 (by decide)
  rw [hF1] at a1 A1
  obtain ⟨b0, o0, la, lc, rfl, k0, _⟩ := A1 0 _ rfl
  obtain ⟨sb, so, rfl, z0⟩ := n2 0 2 rfl
  obtain ⟨sb', so', e', z2⟩ := n2 2 11 rfl
  cases e'
  simp only [Nat.zero_mul, Nat.add_zero, List.length_cons, List.length_nil, Nat.zero_add] at a1 k0 z0
  generalize ord.length = ol at *
  simp only [Mm, List.length_cons, List.length_nil, Nat.zero_add, Nat.reduceAdd]
  refine Walk.finish Ao ?_
  walk_nrm
  (refine Walk.oa ?_; try walk_nrm)
  have s7 : (w6.alloc Mc).heap.size = w6.heap.size + 1 := by simp
  have o7 : ∀ b, b < w6.heap.size -> (w6.alloc Mc).heap[b]? = w6.heap[b]? := fun b hb => Ab _ _ hb
  have d7 := heap_alloc_new w6 Mc
  have e7 : w6.alloc (.cells #[.slice none 0 0, .slice none 0 0, .slice none 0 0, .bool false] 31) = w6.alloc Mc := rfl
  try rw [e7]
  clear e7
  have l1 := Al a1
  have l2 := Al k0
  have l3 := (Array.getElem?_eq_some_iff.1 hT6).1
  have l4 := Al z0
  generalize hT1 : w6.heap.size = T1 at *
  generalize w6.alloc Mc = w7 at *
  unfold Mc at d7
  refine Ap 31 (.tmp 2) (.tmp 15) Ao (by rfl) (by decide) rfl T1 #[.slice (some ⟨b, o, none⟩) 2 ac, .slice oa ol oc, .slice (some ⟨sb, so, none⟩) 3 sc, .bool k] _ 31 rfl rfl d7 (by kernel_rfl) (by rfl) (by simp [Value.oneCell']) (hA _) ?_
  have d8 := setRow_self (cells := #[.slice (some ⟨b, o, none⟩) 2 ac, .slice oa ol oc, .slice (some ⟨sb, so, none⟩) 3 sc, .bool k]) d7
  have o8 : ∀ x, x < T1 -> (w7.setRow T1 #[.slice (some ⟨b, o, none⟩) 2 ac, .slice oa ol oc, .slice (some ⟨sb, so, none⟩) 3 sc, .bool k]).heap[x]? = w6.heap[x]? := fun x hx => (Aq _ _ (by omega)).trans (o7 x hx)
  have s8 := Az w7 T1 #[.slice (some ⟨b, o, none⟩) 2 ac, .slice oa ol oc, .slice (some ⟨sb, so, none⟩) 3 sc, .bool k]
  rw [s7] at s8
  generalize w7.setRow T1 #[.slice (some ⟨b, o, none⟩) 2 ac, .slice oa ol oc, .slice (some ⟨sb, so, none⟩) 3 sc, .bool k] = w8 at *
  have hc8 : ∀ {x j : Nat} {v : Value}, x < T1 -> w6.cell? ⟨x, j, none⟩ = some v -> w8.cell? ⟨x, j, none⟩ = some v := fun {x j v} h e => (World.cell?_of_block (a := ⟨x, j, none⟩) (o8 x h)).trans e
  have C8 : FxT T1 b o ac b0 o0 tc0 sb so sc (.slice oa ol oc) k w8 := ⟨d8, hc8 l1 a1, hc8 l2 k0, hc8 l4 z0, hc8 l4 z2⟩
  have t8 := (o8 T (by omega)).trans hT6
  clear n1 n2 n3 A1 a1 k0 z0 z2 d7 d8 hTr s7 o7 hT6 hc8
  try walk_nrm
  refine Aa z12 ?_
  (refine Walk.oa ?_; try walk_nrm)
  have s9 : (w8.alloc (.cells Mf 2)).heap.size = (T1 + 1) + 1 := by simp [s8]
  have o9 : ∀ b, b < (T1 + 1) -> (w8.alloc (.cells Mf 2)).heap[b]? = w8.heap[b]? := fun b hb => Ab _ _ (by omega)
  have d9 : (w8.alloc (.cells Mf 2)).heap[(T1 + 1)]? = some (.cells Mf 2) := s8 ▸ heap_alloc_new w8 (.cells Mf 2)
  try simp only [s8]
  change Walk Try.prog true _ _ _ (w8.alloc (.cells Mf 2))
  generalize w8.alloc (.cells Mf 2) = w9 at *
  refine Aa z12 ?_
  (refine Walk.oa ?_; try walk_nrm)
  have s10 : (w9.alloc (.cells (Qe 4 0 0 0) 47)).heap.size = (T1 + 2) + 1 := by simp [s9]
  have o10 : ∀ b, b < (T1 + 2) -> (w9.alloc (.cells (Qe 4 0 0 0) 47)).heap[b]? = w9.heap[b]? := fun b hb => Ab _ _ (by omega)
  have d10 : (w9.alloc (.cells (Qe 4 0 0 0) 47)).heap[(T1 + 2)]? = some (.cells (Qe 4 0 0 0) 47) := s9 ▸ heap_alloc_new w9 (.cells (Qe 4 0 0 0) 47)
  try simp only [s9]
  change Walk Try.prog true _ _ _ (w9.alloc (.cells (Qe 4 0 0 0) 47))
  generalize w9.alloc (.cells (Qe 4 0 0 0) 47) = w10 at *
  refine Aa z12 ?_
  (refine Walk.oa ?_; try walk_nrm)
  have s11 : (w10.alloc (.cells (Qd T (T1 + 2)) 34)).heap.size = (T1 + 3) + 1 := by simp [s10]
  have o11 : ∀ b, b < (T1 + 3) -> (w10.alloc (.cells (Qd T (T1 + 2)) 34)).heap[b]? = w10.heap[b]? := fun b hb => Ab _ _ (by omega)
  have d11 : (w10.alloc (.cells (Qd T (T1 + 2)) 34)).heap[(T1 + 3)]? = some (.cells (Qd T (T1 + 2)) 34) := s10 ▸ heap_alloc_new w10 (.cells (Qd T (T1 + 2)) 34)
  try simp only [s10]
  change Walk Try.prog true _ _ _ (w10.alloc (.cells (Qd T (T1 + 2)) 34))
  generalize w10.alloc (.cells (Qd T (T1 + 2)) 34) = w11 at *
  refine Aa z12 ?_
  (refine Walk.oa ?_; try walk_nrm)
  have s12 : (w11.alloc (.cells fyS 3)).heap.size = (T1 + 4) + 1 := by simp [s11]
  have o12 : ∀ b, b < (T1 + 4) -> (w11.alloc (.cells fyS 3)).heap[b]? = w11.heap[b]? := fun b hb => Ab _ _ (by omega)
  have d12 : (w11.alloc (.cells fyS 3)).heap[(T1 + 4)]? = some (.cells fyS 3) := s11 ▸ heap_alloc_new w11 (.cells fyS 3)
  try simp only [s11]
  change Walk Try.prog true _ _ _ (w11.alloc (.cells fyS 3))
  generalize w11.alloc (.cells fyS 3) = w12 at *
  refine Aa z12 ?_
  refine Walk.callE Ao (by rfl) (by decide) rfl Try.func14 (by kernel_rfl) (by rfl) ?_
  walk_nrm
  have up : ∀ b, b < T1 + 1 -> w12.heap[b]? = w8.heap[b]? := fun b hb => (o12 b (by omega)).trans ((o11 b (by omega)).trans ((o10 b (by omega)).trans (o9 b (by omega))))
  refine .stop fun d => ⟨_, b, o, ac, b0, o0, tc0, sb, so, sc, .slice oa ol oc, rfl, fun b hb => (up b (by omega)).trans (o8 b (by omega)), ?_, C8.old fun b hb => up b (by omega), ?_, fx_ops ((up T (by omega)).trans t8) ?_ ?_, fun j z hz => ?_, ?_⟩
  ·show T1 <= w12.heap.size
   omega
  ·exact (o12 _ (by omega)).trans ((o11 _ (by omega)).trans ((o10 _ (by omega)).trans d9))
  ·exact (o12 _ (by omega)).trans ((o11 _ (by omega)).trans d10)
  ·exact (o12 _ (by omega)).trans d11
  ·try rw [Nat.zero_add]
   refine (Ad (w := w12) d12 j).trans ?_
   have h : (fySl.map (Value.int .i64))[j]? = some (.int .i64 z) := by rw [List.getElem?_map, hz]; rfl
   simpa [fySl, fyS] using h
  ·clear d9 d10 d11 d12 s8 s9 s10 s11 s12 o8 o9 o10 o11 o12 up C8 t8
   intro cells F ord sts k2 w13 C13 hTr hF1
   obtain ⟨aa, ac', oa', oc', sa', sc', rfl, n1, n2, n3⟩ := hTr.all
   obtain ⟨b', o', ta0, tc0', rfl, a1', A1⟩ := n3 1 (by decide)
   rw [hF1] at a1' A1
   obtain ⟨b0', o0', la, lc, rfl, _, _, k2', nl, _⟩ := A1 0 _ rfl
   simp only [Nat.zero_mul, Nat.add_zero, List.length_cons, List.length_nil, Nat.zero_add, Nat.reduceAdd] at a1' k2'
   generalize ord.length = ol' at *
   generalize sts.length = sl2 at *
   simp only [Mm]
   refine Walk.finish Ao ?_
   walk_nrm
   (refine Walk.oa ?_; try walk_nrm)
   have s14 : (w13.alloc Mc).heap.size = w13.heap.size + 1 := by simp
   have o14 : ∀ b, b < w13.heap.size -> (w13.alloc Mc).heap[b]? = w13.heap[b]? := fun b hb => Ab _ _ hb
   have d14 := heap_alloc_new w13 Mc
   have e14 : w13.alloc (.cells #[.slice none 0 0, .slice none 0 0, .slice none 0 0, .bool false] 31) = w13.alloc Mc := rfl
   try rw [e14]
   clear e14
   have l1' := Al a1'
   have l2' := Al k2'
   generalize hT2 : w13.heap.size = T2 at *
   generalize w13.alloc Mc = w14 at *
   unfold Mc at d14
   refine Ap 31 (.tmp 3) (.tmp 22) Ao (by rfl) (by decide) rfl T2 #[.slice (some ⟨b', o', none⟩) 2 ac', .slice oa' ol' oc', .slice sa' sl2 sc', .bool k2] _ 31 rfl rfl d14 (by kernel_rfl) (by rfl) (by simp [Value.oneCell']) (hA _) ?_
   have d15 := setRow_self (cells := #[.slice (some ⟨b', o', none⟩) 2 ac', .slice oa' ol' oc', .slice sa' sl2 sc', .bool k2]) d14
   have o15 : ∀ x, x < T2 -> (w14.setRow T2 #[.slice (some ⟨b', o', none⟩) 2 ac', .slice oa' ol' oc', .slice sa' sl2 sc', .bool k2]).heap[x]? = w13.heap[x]? := fun x hx => (Aq _ _ (by omega)).trans (o14 x hx)
   have s15 := Az w14 T2 #[.slice (some ⟨b', o', none⟩) 2 ac', .slice oa' ol' oc', .slice sa' sl2 sc', .bool k2]
   rw [s14] at s15
   generalize w14.setRow T2 #[.slice (some ⟨b', o', none⟩) 2 ac', .slice oa' ol' oc', .slice sa' sl2 sc', .bool k2] = w15 at *
   have C15 := C13.old (w' := w15) fun b hb => o15 b (by omega)
   have x0 : w15.cell? ⟨T1, 0, none⟩ = some (.slice (some ⟨b, o, none⟩) 2 ac) := (Ad C15.x 0).trans rfl
   have x2 : w15.cell? ⟨T1, 2, none⟩ = some (.slice (some ⟨sb, so, none⟩) 3 sc) := (Ad C15.x 2).trans rfl
   have x1 := C15.a1
   have x3 := C15.n0
   have x4 := C15.z0
   have x5 := C15.z2
   have y0 : w15.cell? ⟨T2, 0, none⟩ = some (.slice (some ⟨b', o', none⟩) 2 ac') := (Ad d15 0).trans rfl
   have y1 : w15.cell? ⟨b', o' + 1, none⟩ = some (.slice (some ⟨b0', o0', none⟩) 1 tc0') := (World.cell?_of_block (a := ⟨b', o' + 1, none⟩) (o15 b' (by omega))).trans a1'
   have y2 : w15.cell? ⟨b0', o0' + 2, none⟩ = some (.slice la 2 lc) := (World.cell?_of_block (a := ⟨b0', o0' + 2, none⟩) (o15 b0' (by omega))).trans k2'
   have nl15 : NumA la [1, 11] w15 := fun i x hx => by
    obtain ⟨bb, oo, e, h⟩ := nl i x hx
    exact ⟨bb, oo, e, (World.cell?_of_block (a := ⟨bb, oo + i, none⟩) (o15 bb (by have := Al h; omega))).trans h⟩
   clear n1 n2 n3 A1 a1' k2' nl d14 d15 hTr s14 o14 C13 C15
   try walk_nrm
   refine Aa z12 ?_
   (refine Walk.oa ?_; try walk_nrm)
   have s16 : (w15.alloc (.cells #[.int .i64 1, .int .i64 11] 2)).heap.size = T2 + 2 := by simp [s15]
   have o16 : ∀ x, x < T2 + 1 -> (w15.alloc (.cells #[.int .i64 1, .int .i64 11] 2)).heap[x]? = w15.heap[x]? := fun x hx => Ab _ _ (by omega)
   have d16 : NumB (w15.alloc (.cells #[.int .i64 1, .int .i64 11] 2)) (T2 + 1) [1, 11] := s15 ▸ heap_alloc_new w15 (.cells #[.int .i64 1, .int .i64 11] 2)
   have nl16 : NumA la [1, 11] (w15.alloc (.cells #[.int .i64 1, .int .i64 11] 2)) := nl15.chg ⟨by simp, fun b hb _ => Ab _ _ hb⟩
   try simp only [s15]
   clear x0 x1 x2 x3 x4 x5 y0 y1 y2 nl15
   generalize w15.alloc (.cells #[.int .i64 1, .int .i64 11] 2) = w16 at *
   have hsn := sn_w (main := true) (V := fun _ => none) la (some ⟨T2 + 1, 0, none⟩) [1, 11] lc 2 (by decide) w16 nl16 (fun i x hx => ⟨T2 + 1, 0, rfl, by rw [Nat.zero_add]; exact d16.cell hx⟩)
   refine Aa z12 ?_
   refine Walk.callV (x := .bool true) (W := w16) ?_ Ao (by rfl) (by decide) rfl Try.func21 (by kernel_rfl) (by rfl) ?_
   ·walk_nrm
    exact hsn
   clear hsn nl16 d16
   walk_nrm
   refine Aa z12 ?_
   refine Aa z12 ?_
   (refine Walk.oa ?_; try walk_nrm)
   have s17 : (w16.alloc (.cells Mf 2)).heap.size = (T2 + 2) + 1 := by simp [s16]
   have o17 : ∀ b, b < (T2 + 2) -> (w16.alloc (.cells Mf 2)).heap[b]? = w16.heap[b]? := fun b hb => Ab _ _ (by omega)
   have d17 : (w16.alloc (.cells Mf 2)).heap[(T2 + 2)]? = some (.cells Mf 2) := s16 ▸ heap_alloc_new w16 (.cells Mf 2)
   try simp only [s16]
   change Walk Try.prog true _ _ _ (w16.alloc (.cells Mf 2))
   generalize w16.alloc (.cells Mf 2) = w17 at *
   refine Aa z12 ?_
   have hnw := new_w (main := true) (V := fun _ => none) w17 _ [1, 2] (fx_lsR d17) (by decide) (fun b _ => hA b)
   have hk1 : Da ([1, 2] : List Int).length = 1 := by decide
   rw [hk1] at hnw
   rw [s17] at hnw
   refine Ah (Post := fun v w' => v = .pointer (some ⟨T2 + 2 + 1, 0, none⟩) /\ SqI (T2 + 2 + 1) 1 (Ef [1, 2]) w' /\ (∀ b, b < T2 + 2 + 1 -> w'.heap[b]? = w17.heap[b]?) /\ T2 + 2 + 1 < w'.heap.size) ?_ Ao (by rfl) (by decide) rfl Try.func16 (by kernel_rfl) (by rfl) ?_
   ·walk_nrm
    exact hnw
   rintro v w18 ⟨rfl, I18, O18, Z18⟩
   clear hnw d17
   have hq1 := fun w => Br (P := Try.prog) 35 Dc (some ⟨T2 + 2 + 1, 0, none⟩) w
   have hq2 := fun w es => Cb (P := Try.prog) 35 Dc (some ⟨T2 + 2 + 1, 0, none⟩) w es
   simp only [Option.isNone_some] at hq1
   have u18 : ∀ b, b < T2 -> w18.heap[b]? = w13.heap[b]? := fun b hb => (O18 b (by omega)).trans ((o17 b (by omega)).trans ((o16 b (by omega)).trans (o15 b hb)))
   clear O18 o17 o16 o15 s15 s16 s17
   generalize hL : T2 + 2 + 1 = LB at *
   walk_nrm
   refine Aa z12 ?_
   (refine Walk.oa ?_; try walk_nrm)
   have s19 : (w18.alloc (.cells #[.int .i64 5, .int .i64 6] 2)).heap.size = w18.heap.size + 1 := by simp
   have o19 : ∀ x, x < w18.heap.size -> (w18.alloc (.cells #[.int .i64 5, .int .i64 6] 2)).heap[x]? = w18.heap[x]? := fun x hx => Ab _ _ hx
   have d19 : NumB (w18.alloc (.cells #[.int .i64 5, .int .i64 6] 2)) w18.heap.size [5, 6] := heap_alloc_new w18 (.cells #[.int .i64 5, .int .i64 6] 2)
   have I19 := I18.old (w' := w18.alloc (.cells #[.int .i64 5, .int .i64 6] 2)) (o19 LB (by omega))
   generalize w18.alloc (.cells #[.int .i64 5, .int .i64 6] 2) = w19 at *
   generalize hN18 : w18.heap.size = N18 at *
   have hwr := lwrite_w (main := true) (V := fun _ => none) hA I19 Pi.1 1 _ [5, 6] d19.lsR _ fz_v1
   refine Aa z12 ?_
   refine Fu (Post := fun v w' => v = .bool true /\ Solo LB 1 fz1 w19 w') ?_ Ao (by rfl) (by decide) rfl Try.func23 (by kernel_rfl) (by rfl) ⟨rfl, rfl, _, Try.func12⟩ ?_
   ·walk_nrm
    exact hwr
   rintro v w20 ⟨rfl, H20⟩
   have z20 := H20.size
   clear hwr d19
   walk_nrm
   refine Aa z12 ?_
   (refine Walk.oa ?_; try walk_nrm)
   have s21 : (w20.alloc (.cells #[.int .i64 1] 2)).heap.size = w20.heap.size + 1 := by simp
   have o21 : ∀ x, x < w20.heap.size -> (w20.alloc (.cells #[.int .i64 1] 2)).heap[x]? = w20.heap[x]? := fun x hx => Ab _ _ hx
   have d21 : NumB (w20.alloc (.cells #[.int .i64 1] 2)) w20.heap.size [1] := heap_alloc_new w20 (.cells #[.int .i64 1] 2)
   have I21 := H20.I.old (w' := w20.alloc (.cells #[.int .i64 1] 2)) (o21 LB (by omega))
   generalize w20.alloc (.cells #[.int .i64 1] 2) = w21 at *
   generalize hN20 : w20.heap.size = N20 at *
   have hwr := ladd_w (main := true) (V := fun _ => none) hA I21 Pi.2.1 1 _ [1] d21.lsR _ fz_v2
   refine Aa z12 ?_
   refine Fu (Post := fun v w' => v = .bool true /\ Solo LB 1 fz2 w21 w') ?_ Ao (by rfl) (by decide) rfl Try.func24 (by kernel_rfl) (by rfl) ⟨rfl, rfl, _, Try.func12⟩ ?_
   ·walk_nrm
    exact hwr
   rintro v w22 ⟨rfl, H22⟩
   have z22 := H22.size
   have hrd := lread_w (main := true) (V := fun _ => none) hA H22.I Pi.2.2 1
   clear hwr d21
   walk_nrm
   refine Aa z12 ?_
   refine Fu (Post := fun v w' => ∃ B, v = .tuple #[.slice (some ⟨B, 0, none⟩) (1 + 1) (1 + 1), .bool true] /\ w22.heap.size <= B /\ NumB w' B (Je 1 fz2) /\ Solo LB 1 fz2 w22 w') ?_ Ao (by rfl) (by decide) rfl Try.func25 (by kernel_rfl) (by rfl) ⟨rfl, rfl, _, Try.func12⟩ ?_
   ·walk_nrm
    exact hrd
   rintro v w23 ⟨B, rfl, hB, hNB, H23⟩
   rw [fz_words] at hNB
   have z23 := H23.size
   clear hrd
   walk_nrm
   refine Aa z12 ?_
   (refine Walk.oa ?_; try walk_nrm)
   have s24 : (w23.alloc (.cells #[.int .i64 6, .int .i64 6] 2)).heap.size = w23.heap.size + 1 := by simp
   have o24 : ∀ x, x < w23.heap.size -> (w23.alloc (.cells #[.int .i64 6, .int .i64 6] 2)).heap[x]? = w23.heap[x]? := fun x hx => Ab _ _ hx
   have d24 : NumB (w23.alloc (.cells #[.int .i64 6, .int .i64 6] 2)) w23.heap.size [6, 6] := heap_alloc_new w23 (.cells #[.int .i64 6, .int .i64 6] 2)
   have I24 := H23.I.old (w' := w23.alloc (.cells #[.int .i64 6, .int .i64 6] 2)) (o24 LB (by omega))
   have n24 := hNB.same (w' := w23.alloc (.cells #[.int .i64 6, .int .i64 6] 2)) (o24 B hNB.lt)
   generalize w23.alloc (.cells #[.int .i64 6, .int .i64 6] 2) = w24 at *
   generalize hN23 : w23.heap.size = N23 at *
   have hsn := sn_w (main := true) (V := fun _ => none) (some ⟨B, 0, none⟩) (some ⟨N23, 0, none⟩) [6, 6] 2 2 (by decide) w24 (fun i x hx => ⟨B, 0, rfl, by rw [Nat.zero_add]; exact n24.cell hx⟩) (fun i x hx => ⟨N23, 0, rfl, by rw [Nat.zero_add]; exact d24.cell hx⟩)
   refine Aa z12 ?_
   refine Walk.callV (x := .bool true) (W := w24) ?_ Ao (by rfl) (by decide) rfl Try.func21 (by kernel_rfl) (by rfl) ?_
   ·walk_nrm
    exact hsn
   have hvr := In (main := true) (V := fun _ => none) hA w24 I24
   rw [fz_ver] at hvr
   clear hsn d24 n24
   walk_nrm
   refine Aa z12 ?_
   refine Ah (Post := fun v w' => v = .int .i64 4 /\ Calm LB 1 fz2 w24 w') ?_ Ao (by rfl) (by decide) rfl Try.func18 (by kernel_rfl) (by rfl) ?_
   ·walk_nrm
    exact hvr
   rintro v w25 ⟨rfl, H25⟩
   have z25 := H25.size
   have O25 : ∀ b, b < T2 -> w25.heap[b]? = w13.heap[b]? := fun b hb => (H25.old b (by omega) (by omega)).trans ((o24 b (by omega)).trans ((H23.old b (by omega) (by omega)).trans ((H22.old b (by omega) (by omega)).trans ((o21 b (by omega)).trans ((H20.old b (by omega) (by omega)).trans ((o19 b (by omega)).trans (u18 b hb)))))))
   clear hvr H20 H22 H23 H25 I18 I19 I21 I24 hq1 hq2
   walk_nrm
   refine Aa z12 ?_
   exact Bh rfl rfl Try.func12 rfl (.stop fun d => ⟨rfl, O25, by show T2 <= w25.heap.size; omega⟩)
end
end
end Go.Proofs.Ytjenoiekfkhafaa
