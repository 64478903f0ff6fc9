/- Part 17. -/
import Derived.Test.YtcdcnmphjhfbpaaJ10
import Derived.Test.YtcdcnmphjhfbpaaJ13
import Derived.Test.YtcdcnmphjhfbpaaJ16
set_option linter.unusedSimpArgs false
set_option linter.unusedVariables false
set_option linter.unusedVariables false
set_option maxHeartbeats 8000000
set_option maxRecDepth 100000
namespace Go.Proofs.Ytcdcnmphjhfbpaa
open Go.Conc Go.RowKit Go.Relay
open Go.ConcN (upd upd_ne upd_same)
section
noncomputable def reg61_0 := rk Try.f61.body 0
noncomputable def reg61_1 := rk Try.f61.body 1
noncomputable def reg61_2 := rk Try.f61.body 2
noncomputable def reg61_3 := rk Try.f61.body 3
noncomputable def reg61_4 := rk Try.f61.body 4
noncomputable def reg61_5 := rk Try.f61.body 5
noncomputable def reg61_6 := rk Try.f61.body 6
noncomputable def reg61_7 := rk Try.f61.body 7
noncomputable def reg61_8 := rk Try.f61.body 8
noncomputable def reg61_9 := rk Try.f61.body 9
noncomputable def reg61_10 := rk Try.f61.body 10
noncomputable def reg61_11 := rk Try.f61.body 11
noncomputable def reg61_12 := rk Try.f61.body 12
theorem z61 : reg61_0.size = 2 /\ reg61_1.size = 4 /\ reg61_2.size = 2 /\ reg61_3.size = 8 /\ reg61_4.size = 6 /\ reg61_5.size = 4 /\ reg61_6.size = 2 /\ reg61_7.size = 4 /\ reg61_8.size = 2 /\ reg61_9.size = 6 /\ reg61_10.size = 7 /\ reg61_11.size = 2 /\ reg61_12.size = 3 := by and_intros <;> kernel_rfl
theorem code61_is : Try.f61.body = some (.seq (.region 0 reg61_0 false) (.seq (.seq (.region 1 reg61_1 false) (.cond (.tmp 15 ) (.seq (.region 2 reg61_2 false) (.ret)) (.skip))) (.seq (.region 3 reg61_3 false) (.seq (.seq (.region 4 reg61_4 false) (.block 0 (.seq (.region 5 reg61_5 false) (.cond (.tmp 27 ) (.seq (.region 6 reg61_6 false) (.ret)) (.seq (.region 7 reg61_7 false) (.cond (.tmp 31 ) (.seq (.region 8 reg61_8 false) (.ret)) (.skip))))))) (.seq (.region 9 reg61_9 false) (.seq (.seq (.region 10 reg61_10 false) (.cond (.tmp 46 ) (.seq (.region 11 reg61_11 false) (.ret)) (.skip))) (.seq (.region 12 reg61_12 false) (.ret)))))))) := by kernel_rfl
section
variable {rb sb n : Nat} {sv : Value}
def GetOut (K : Lg (Bs rb sb n) sv) (E6 E10 : Ans ⊕ RD) (F : Int -> Ans ⊕ RD) (v : Value) (e' : K.E) : Prop := ∃ a er, v = .tuple #[.int .i64 a, .int .i64 er] /\ ((er = 6 /\ K.tgt e' = (K.s e', E6)) ∨ (er = 10 /\ K.tgt e' = (K.s e', E10)) ∨ (er = 0 /\ K.tgt e' = (K.s e', F a)))
theorem get_s (K : Lg (Bs rb sb n) sv) (e : K.E) (q : Int) (hq : good q) (d1 d2 : RD) (d3 : Int -> RD) (E6 E10 : Ans ⊕ RD) (F : Int -> Ans ⊕ RD) (a1 : ∀ s : Rg, Bh n s d1 = (s, if s.st (Bq n q) < Ce n q then E6 else if Ce n q < s.st (Bq n q) then E10 else .inr d2)) (a2 : ∀ s : Rg, Bh n s d2 = (s, .inr (d3 (s.va (Bq n q))))) (a3 : ∀ (s : Rg) v, Bh n s (d3 v) = (s, if s.st (Bq n q) = Ce n q then F v else E10))
  (ht : K.tgt e = (K.s e, .inr d1)) : SCall K.toLb 61 #[.pointer (some ⟨rb, 0, none⟩), sv, .int .i64 q] e (GetOut K E6 E10 F) := by
 intro fr l hp hl hk
 have I := K.inv e
 have hh := Ex (main := K.main) (V := K.V e) (K.w e) I q hq
 have ha := at_w (main := K.main) (V := K.V e) (K.w e) I q hq
 have hix := Mi I.pos.1 q
 have w1 := Mf K (Bq n q) hix e d1 ht
 have w2 := fun (e1 : K.E) (h : K.tgt e1 = (K.s e1, .inr d2)) => load_vlu K (Bq n q) hix e1 d2 h
 have w3 := fun (e1 : K.E) (v : Int) (h : K.tgt e1 = (K.s e1, .inr (d3 v))) => Mf K (Bq n q) hix e1 (d3 v) h
 generalize Bq n q = ix at *
 generalize Ce n q = la at *
 unfold LW
 clear I
 rw [enter_at _ Try.func61 code61_is]
 simp only [Try.ntmps61, ez, Nat.reduceAdd, Nat.reduceSub]
 refine Aa z61 ?_
 refine Walk.callV (x := .bool true) (W := K.w e) ?_ Aj (by rfl) (by decide) rfl Try.func74 (by kernel_rfl) (by rfl) ?_
 ·walk_nrm
  exact hh
 walk_nrm
 clear hh
 refine Aa z61 ?_
 refine Walk.callV (x := .tuple #[.pointer (some ⟨sb, ix * 2, none⟩), .int .i64 la]) (W := K.w e) ?_ Aj (by rfl) (by decide) rfl Try.func110 (by kernel_rfl) (by rfl) ?_
 ·walk_nrm
  exact ha
 walk_nrm
 clear ha
 refine Aa z61 ?_
 refine Bt (K := K.toLb) (e := e) (l := fr :: l) (f := 100) (Q := fun v e' => Aft K.toLb e d1 e' /\ v = .int .i64 ((K.s e' : Rg).st ix)) ?_ Aj (by rfl) (by decide) rfl Try.func100 (by kernel_rfl) (by rfl) ⟨rfl, rfl, _, Try.func61⟩ (Bl hp hl) ?_
 ·walk_nrm
  exact w1
 rintro v e1 ⟨ha, rfl⟩
 have t1 : K.tgt e1 = (K.s e1, if (K.s e1 : Rg).st ix < la then E6 else if la < (K.s e1 : Rg).st ix then E10 else .inr d2) := ha.tgt.trans (a1 _)
 generalize (K.s e1 : Rg).st ix = x at *
 clear w1 ht a1
 by_cases h1 : x < la
 ·rw [if_pos h1] at t1
  have hkk := hk (.tuple #[.int .i64 0, .int .i64 6]) e1 ⟨0, 6, rfl, .inl ⟨rfl, t1⟩⟩
  have h1' : decide (x < la) = true := by simp [h1]
  unfold LW at hkk ⊢
  walk_nrm
  refine Aa z61 ?_
  exact By rfl rfl Try.func61 rfl hkk
 rw [if_neg h1] at t1
 have h1' : decide (x < la) = false := by simp [h1]
 have h1i : la <= x := by omega
 by_cases h2 : la < x
 ·rw [if_pos h2] at t1
  have hkk := hk (.tuple #[.int .i64 0, .int .i64 10]) e1 ⟨0, 10, rfl, .inr (.inl ⟨rfl, t1⟩)⟩
  have h2' : decide (la < x) = true := by simp [h2]
  unfold LW at hkk ⊢
  walk_nrm
  refine Aa z61 ?_
  exact By rfl rfl Try.func61 rfl hkk
 rw [if_neg h2] at t1
 have h2' : decide (la < x) = false := by simp [h2]
 have h2i : x <= la := by omega
 have w2 := w2 e1 t1
 unfold LW
 walk_nrm
 refine Aa z61 ?_
 refine Bt (K := K.toLb) (e := e1) (l := fr :: l) (f := 100) (Q := fun v e' => Aft K.toLb e1 d2 e' /\ v = .int .i64 ((K.s e' : Rg).va ix)) ?_ Aj (by rfl) (by decide) rfl Try.func100 (by kernel_rfl) (by rfl) ⟨rfl, rfl, _, Try.func61⟩ (Bl hp hl) ?_
 ·walk_nrm
  exact w2
 rintro v e2 ⟨ha2, rfl⟩
 have t2 : K.tgt e2 = (K.s e2, .inr (d3 ((K.s e2 : Rg).va ix))) := ha2.tgt.trans (a2 _)
 generalize (K.s e2 : Rg).va ix = y at *
 have w3 := w3 e2 y t2
 clear w2 a2 h1' h2'
 unfold LW
 walk_nrm
 refine Aa z61 ?_
 refine Bt (K := K.toLb) (e := e2) (l := fr :: l) (f := 100) (Q := fun v e' => Aft K.toLb e2 (d3 y) e' /\ v = .int .i64 ((K.s e' : Rg).st ix)) ?_ Aj (by rfl) (by decide) rfl Try.func100 (by kernel_rfl) (by rfl) ⟨rfl, rfl, _, Try.func61⟩ (Bl hp hl) ?_
 ·walk_nrm
  exact w3
 rintro v e3 ⟨ha3, rfl⟩
 have t3 : K.tgt e3 = (K.s e3, if (K.s e3 : Rg).st ix = la then F y else E10) := ha3.tgt.trans (a3 _ _)
 generalize (K.s e3 : Rg).st ix = z at *
 clear w3 a3
 by_cases h3 : z = la
 ·rw [if_pos h3] at t3
  have hkk := hk (.tuple #[.int .i64 y, .int .i64 0]) e3 ⟨y, 0, rfl, .inr (.inr ⟨rfl, t3⟩)⟩
  have h3' : (z != la) = false := by simp [h3]
  have h3'' : (z == la) = true := by simp [h3]
  unfold LW at hkk ⊢
  walk_nrm
  refine Aa z61 ?_
  exact By rfl rfl Try.func61 rfl hkk
 ·rw [if_neg h3] at t3
  have hkk := hk (.tuple #[.int .i64 0, .int .i64 10]) e3 ⟨0, 10, rfl, .inr (.inl ⟨rfl, t3⟩)⟩
  have h3' : (z != la) = true := by simp [h3]
  have h3'' : (z == la) = false := by simp [h3]
  unfold LW at hkk ⊢
  walk_nrm
  refine Aa z61 ?_
  exact By rfl rfl Try.func61 rfl hkk
end
end
section
noncomputable def reg62_0 := rk Try.f62.body 0
noncomputable def reg62_1 := rk Try.f62.body 1
noncomputable def reg62_2 := rk Try.f62.body 2
noncomputable def reg62_3 := rk Try.f62.body 3
noncomputable def reg62_4 := rk Try.f62.body 4
noncomputable def reg62_5 := rk Try.f62.body 5
noncomputable def reg62_6 := rk Try.f62.body 6
noncomputable def reg62_7 := rk Try.f62.body 7
noncomputable def reg62_9 := rk Try.f62.body 9
noncomputable def reg62_10 := rk Try.f62.body 10
noncomputable def reg62_8 := rk Try.f62.body 8
noncomputable def reg62_11 := rk Try.f62.body 11
theorem z62 : reg62_0.size = 1 /\ reg62_1.size = 3 /\ reg62_2.size = 2 /\ reg62_3.size = 10 /\ reg62_4.size = 3 /\ reg62_5.size = 8 /\ reg62_6.size = 2 /\ reg62_7.size = 3 /\ reg62_8.size = 3 /\ reg62_9.size = 5 /\ reg62_10.size = 3 /\ reg62_11.size = 2 := by and_intros <;> kernel_rfl
theorem code62_is : Try.f62.body = some (.seq (.region 0 reg62_0 false) (.seq (.block 0 (.seq (.region 1 reg62_1 false) (.cond (.tmp 11 ) (.seq (.region 2 reg62_2 false) (.ret)) (.seq (.region 3 reg62_3 false) (.cond (.tmp 15 ) (.seq (.region 4 reg62_4 false) (.ret)) (.skip)))))) (.seq (.region 5 reg62_5 false) (.seq (.seq (.region 6 reg62_6 false) (.block 1 (.loop (.seq (.seq (.region 7 reg62_7 false) (.cond (.tmp 37 ) (.skip) (.exit 1))) (.seq (.block 2 (.seq (.region 9 reg62_9 false) (.cond (.tmp 44 ) (.seq (.region 10 reg62_10 false) (.ret)) (.skip)))) (.region 8 reg62_8 false)))))) (.seq (.region 11 reg62_11 false) (.ret)))))) := by kernel_rfl
noncomputable def hdHi (rb : Nat) (sv : Value) (a b m q : Int) (u : Nat -> Value) : Frame :=
 (base 62).at { tmps := #[.pointer (some ⟨rb, 0, none⟩), sv, .int .i64 a, .int .i64 b, u 4, u 5, u 6, u 7, u 8, .int .i64 m, .int .i64 q, u 11, u 12, u 13, u 14, u 15, u 16, u 17, u 18, u 19, u 20, u 21, u 22, u 23, u 24, u 25, u 26, u 27, u 28, u 29, u 30, u 31, u 32, u 33, u 34, u 35, u 36, u 37, u 38, u 39, u 40, u 41, u 42, u 43, u 44, u 45, u 46, u 47], defers := [] } [.code (.seq (.seq (.region 7 reg62_7 false) (.cond (.tmp 37 ) (.skip) (.exit 1))) (.seq (.block 2 (.seq (.region 9 reg62_9 false) (.cond (.tmp 44 ) (.seq (.region 10 reg62_10 false) (.ret)) (.skip)))) (.region 8 reg62_8 false))), .inLoop (.seq (.seq (.region 7 reg62_7 false) (.cond (.tmp 37 ) (.skip) (.exit 1))) (.seq (.block 2 (.seq (.region 9 reg62_9 false) (.cond (.tmp 44 ) (.seq (.region 10 reg62_10 false) (.ret)) (.skip)))) (.region 8 reg62_8 false))), .inBlock 1, .code (.seq (.region 11 reg62_11 false) (.ret))]
theorem ev_min3 {P : Program} {w : World} (ts : Array TypeId) (t : TypeId) (x y z : Int) (es : Array Event) : (Builtin.min_ ts t #[.int .i64 x, .int .i64 y, .int .i64 z]).events P w es = es := by
 simp [Builtin.min_, Builtin.min2]
theorem run_min3 {P : Program} {w : World} (ts : Array TypeId) (t : TypeId) (x y z : Int) : (Builtin.min_ ts t #[.int .i64 x, .int .i64 y, .int .i64 z]).run P w = .ok (.int .i64 (min (min x y) z)) w := by
 simp [Builtin.min_, Builtin.min2]
 repeat' split
 all_goals omega
def hiD (n : Nat) (a b : Int) : Ans ⊕ RD := if a = -9223372036854775808 then .inl ⟨true, a, []⟩ else if good a /\ a <= b then .inr (.h a (min b (min 4611686018427387903 (a + n - 1)))) else .inl ⟨true, IntKind.i64.wrap (a - 1), []⟩
section
variable {rb sb n : Nat} {sv : Value}
def Oh (K : Lg (Bs rb sb n) sv) (v : Value) (e' : K.E) : Prop := ∃ x, v = .int .i64 x /\ K.tgt e' = (K.s e', .inl ⟨true, x, []⟩)
theorem hi_out (K : Lg (Bs rb sb n) sv) (a b m q : Int) (hq : m < q) (fr : Frame) (l : List Frame) (hk : ∀ x e', Oh K x e' -> LW K.toLb e' (G (fr.finish x) (l ++ K.bot e'))) (e : K.E) (u : Nat -> Value) (ht : K.tgt e = (K.s e, .inl ⟨true, m, []⟩)) : LW K.toLb e (G (hdHi rb sv a b m q u) (fr :: (l ++ K.bot e))) := by
 have hkk := hk (.int .i64 m) e ⟨m, rfl, ht⟩
 have h1 : decide (q <= m) = false := by simp; omega
 unfold LW at hkk ⊢
 unfold hdHi
 refine Aa z62 ?_
 exact Be rfl rfl Try.func62 rfl hkk
theorem hi_round (K : Lg (Bs rb sb n) sv) (a b m q : Int) (hq : good q) (hqm : q <= m) (hm : m < 4611686018427387904) (fr : Frame) (l : List Frame) (hp : Cf fr) (hl : ∀ f ∈ l, Cf f) (hk : ∀ x e', Oh K x e' -> LW K.toLb e' (G (fr.finish x) (l ++ K.bot e'))) (e : K.E) (u : Nat -> Value) (ht : K.tgt e = (K.s e, .inr (.h q m)))
  (ih : ∀ (e' : K.E) (u' : Nat -> Value), K.tgt e' = (K.s e', if q < m then .inr (.h (q + 1) m) else .inl ⟨true, m, []⟩) -> LW K.toLb e' (G (hdHi rb sv a b m (q + 1) u') (fr :: (l ++ K.bot e')))) :
  LW K.toLb e (G (hdHi rb sv a b m q u) (fr :: (l ++ K.bot e))) := by
 have hth := there_s K e q hq (.h q m) ht
 have h1 : decide (q <= m) = true := by simp [hqm]
 have hq1 := hq.1
 have hw1 : IntKind.wrap .i64 (q + 1) = q + 1 := by rw [IntKind.wrap_i64]; omega
 have hw2 : IntKind.wrap .i64 (q - 1) = q - 1 := by rw [IntKind.wrap_i64]; omega
 unfold LW hdHi
 refine Aa z62 ?_
 refine Bt (K := K.toLb) (e := e) (l := fr :: l) (f := 63) (Q := fun v e' => Aft K.toLb e (.h q m) e' /\ v = .bool (decide ((K.s e' : Rg).st (Bq n q) = Ce n q))) ?_ Aj (by rfl) (by decide) rfl Try.func63 (by kernel_rfl) (by rfl) ⟨rfl, rfl, _, Try.func62⟩ (Bl hp hl) ?_
 ·walk_nrm
  exact hth
 rintro v e1 ⟨ha, rfl⟩
 have t1 : K.tgt e1 = (K.s e1, if (K.s e1 : Rg).st (Bq n q) = Ce n q then (if q < m then .inr (.h (q + 1) m) else .inl ⟨true, m, []⟩) else .inl ⟨true, q - 1, []⟩) := ha.tgt
 generalize (K.s e1 : Rg).st (Bq n q) = x at *
 generalize Ce n q = la at *
 clear hth ht
 by_cases h : x = la
 ·rw [if_pos h] at t1
  have hih := fun u => ih e1 u t1
  clear ih hk
  simp only [h, decide_true]
  unfold LW at hih ⊢
  walk_nrm
  refine Aa z62 ?_
  refine Walk.ctl rfl (fun w => stepG_inLoop) ?_
  refine Fd (F := fun u => G (hdHi rb sv a b m (q + 1) u) (fr :: (l ++ K.bot e1))) hih ?_
  simp only [hdHi]
  rfl
 ·rw [if_neg h] at t1
  have hkk := hk (.int .i64 (q - 1)) e1 ⟨q - 1, rfl, t1⟩
  clear ih hk
  simp only [h, decide_false]
  unfold LW at hkk ⊢
  walk_nrm
  refine Aa z62 ?_
  exact Be rfl rfl Try.func62 rfl hkk
theorem hi_loop (K : Lg (Bs rb sb n) sv) (a b m : Int) (hm : m < 4611686018427387904) (fr : Frame) (l : List Frame) (hp : Cf fr) (hl : ∀ f ∈ l, Cf f) (hk : ∀ x e', Oh K x e' -> LW K.toLb e' (G (fr.finish x) (l ++ K.bot e'))) :
  ∀ (r : Nat) (q : Int) (e : K.E) (u : Nat -> Value), 0 <= q -> q <= m -> (m - q).toNat = r -> K.tgt e = (K.s e, .inr (.h q m)) -> LW K.toLb e (G (hdHi rb sv a b m q u) (fr :: (l ++ K.bot e))) := by
 intro r
 induction r with
 | zero =>
  intro q e u h0 hqm hr ht
  refine hi_round K a b m q ⟨h0, by omega⟩ hqm hm fr l hp hl hk e u ht fun e' u' ht' => ?_
  rw [if_neg (by omega)] at ht'
  exact hi_out K a b m (q + 1) (by omega) fr l hk e' u' ht'
 | succ r ih =>
  intro q e u h0 hqm hr ht
  refine hi_round K a b m q ⟨h0, by omega⟩ hqm hm fr l hp hl hk e u ht fun e' u' ht' => ?_
  rw [if_pos (by omega)] at ht'
  exact ih (q + 1) e' u' (by omega) (by omega) (by omega) ht'
theorem highest_s (K : Lg (Bs rb sb n) sv) (e : K.E) (a b : Int) (ht : K.tgt e = (K.s e, hiD n a b)) : SCall K.toLb 62 #[.pointer (some ⟨rb, 0, none⟩), sv, .int .i64 a, .int .i64 b] e (Oh K) := by
 intro fr l hp hl hk
 have hmn := @ev_min3 Try.prog
 have hmr := @run_min3 Try.prog
 have I := K.inv e
 have hn := I.pos
 have hsz := Hj (main := K.main) (V := K.V e) (K.w e) I
 have hyes := Ex (main := K.main) (V := K.V e) (K.w e) I a
 have hno := Gj (main := K.main) (V := K.V e) (.pointer (some ⟨rb, 0, none⟩)) (K.w e) a
 clear I
 unfold LW
 rw [enter_at _ Try.func62 code62_is]
 simp only [Try.ntmps62, ez, Nat.reduceAdd, Nat.reduceSub]
 by_cases h1 : a = -9223372036854775808
 ·subst h1
  unfold hiD at ht
  rw [if_pos rfl] at ht
  have hkk := hk (.int .i64 (-9223372036854775808)) e ⟨_, rfl, ht⟩
  unfold LW at hkk
  refine Aa z62 ?_
  exact Be rfl rfl Try.func62 rfl hkk
 unfold hiD at ht
 rw [if_neg h1] at ht
 have h1' : (a == -9223372036854775808) = false := by simp [h1]
 refine Aa z62 ?_
 by_cases h2 : good a
 ·refine Walk.callV (x := .bool true) (W := K.w e) ?_ Aj (by rfl) (by decide) rfl Try.func74 (by kernel_rfl) (by rfl) ?_
  ·walk_nrm
   exact hyes h2
  walk_nrm
  clear hyes hno
  by_cases h3 : a <= b
  ·rw [if_pos ⟨h2, h3⟩] at ht
   have hq := h2.1
   have hq2 := h2.2
   have hw2 : IntKind.wrap .i64 (a + (n : Int)) = a + n := by rw [IntKind.wrap_i64]; omega
   have hw3 : IntKind.wrap .i64 (a + (n : Int) - 1) = a + n - 1 := by rw [IntKind.wrap_i64]; omega
   have h3' : decide (b < a) = false := by simp; omega
   have hlp := fun u => hi_loop K a b (min b (min 4611686018427387903 (a + n - 1))) (by omega) fr l hp hl hk _ a e u hq (by omega) rfl ht
   generalize hmm : min b (min 4611686018427387903 (a + n - 1)) = m at *
   have hm1 : min (min b 4611686018427387903) (a + n - 1) = m := by omega
   refine Aa z62 ?_
   refine Walk.callV (x := .int .i64 (n : Nat)) (W := K.w e) ?_ Aj (by rfl) (by decide) rfl Try.func19 (by kernel_rfl) (by rfl) ?_
   ·walk_nrm
    exact hsz
   walk_nrm
   clear hsz
   refine Aa z62 ?_
   refine Walk.ctl rfl (fun w => stepG_loop) ?_
   unfold LW at hlp
   refine Fd (F := fun u => G (hdHi rb sv a b m a u) (fr :: (l ++ K.bot e))) hlp ?_
   simp only [hdHi, hm1, hmm]
   rfl
  ·rw [if_neg fun h => h3 h.2] at ht
   have hkk := hk (.int .i64 (IntKind.i64.wrap (a - 1))) e ⟨_, rfl, ht⟩
   have h3' : decide (b < a) = true := by simp; omega
   unfold LW at hkk
   refine Aa z62 ?_
   exact Be rfl rfl Try.func62 rfl hkk
 ·refine Walk.callV (x := .bool false) (W := K.w e) ?_ Aj (by rfl) (by decide) rfl Try.func74 (by kernel_rfl) (by rfl) ?_
  ·walk_nrm
   exact hno h2
  walk_nrm
  rw [if_neg fun h => h2 h.1] at ht
  have hkk := hk (.int .i64 (IntKind.i64.wrap (a - 1))) e ⟨_, rfl, ht⟩
  unfold LW at hkk
  refine Aa z62 ?_
  exact Be rfl rfl Try.func62 rfl hkk
end
end
section
noncomputable def reg73_0 := rk Try.f73.body 0
noncomputable def reg73_1 := rk Try.f73.body 1
noncomputable def reg73_2 := rk Try.f73.body 2
noncomputable def reg73_3 := rk Try.f73.body 3
noncomputable def reg73_4 := rk Try.f73.body 4
noncomputable def reg73_5 := rk Try.f73.body 5
noncomputable def reg73_7 := rk Try.f73.body 7
noncomputable def reg73_8 := rk Try.f73.body 8
noncomputable def reg73_9 := rk Try.f73.body 9
noncomputable def reg73_10 := rk Try.f73.body 10
noncomputable def reg73_6 := rk Try.f73.body 6
noncomputable def reg73_11 := rk Try.f73.body 11
theorem z73 : reg73_0.size = 2 /\ reg73_1.size = 4 /\ reg73_2.size = 2 /\ reg73_3.size = 1 /\ reg73_4.size = 7 /\ reg73_5.size = 12 /\ reg73_6.size = 3 /\ reg73_7.size = 3 /\ reg73_8.size = 5 /\ reg73_9.size = 4 /\ reg73_10.size = 3 /\ reg73_11.size = 3 := by and_intros <;> kernel_rfl
theorem code73_is : Try.f73.body = some (.seq (.region 0 reg73_0 false) (.seq (.seq (.region 1 reg73_1 false) (.cond (.tmp 16 ) (.seq (.region 2 reg73_2 false) (.ret)) (.skip))) (.seq (.region 3 reg73_3 false) (.seq (.block 0 (.loop (.seq (.seq (.region 4 reg73_4 false) (.cond (.tmp 23 ) (.skip) (.exit 0))) (.block 1 (.seq (.region 5 reg73_5 false) (.block 2 (.seq (.region 7 reg73_7 false) (.cond (.tmp 35 ) (.region 8 reg73_8 false) (.seq (.region 9 reg73_9 false) (.cond (.tmp 42 ) (.seq (.region 10 reg73_10 false) (.ret)) (.seq (.region 6 reg73_6 false) (.ret)))))))))))) (.seq (.region 11 reg73_11 false) (.ret)))))) := by kernel_rfl
noncomputable def hdGa (rb : Nat) (sv al : Value) (a m : Int) (u : Nat -> Value) : Frame :=
 (base 73).at { tmps := #[.pointer (some ⟨rb, 0, none⟩), sv, .int .i64 a, .int .i64 m, u 4, u 5, u 6, u 7, .slice none 0 0, .int .i64 0, al, u 11, u 12, u 13, u 14, u 15, u 16, u 17, u 18, u 19, u 20, u 21, u 22, u 23, u 24, u 25, u 26, u 27, u 28, u 29, u 30, u 31, u 32, u 33, u 34, u 35, u 36, u 37, u 38, u 39, u 40, u 41, u 42, u 43, u 44, u 45, u 46, u 47], defers := [] } [.code (.seq (.seq (.region 4 reg73_4 false) (.cond (.tmp 23 ) (.skip) (.exit 0))) (.block 1 (.seq (.region 5 reg73_5 false) (.block 2 (.seq (.region 7 reg73_7 false) (.cond (.tmp 35 ) (.region 8 reg73_8 false) (.seq (.region 9 reg73_9 false) (.cond (.tmp 42 ) (.seq (.region 10 reg73_10 false) (.ret)) (.seq (.region 6 reg73_6 false) (.ret)))))))))), .inLoop (.seq (.seq (.region 4 reg73_4 false) (.cond (.tmp 23 ) (.skip) (.exit 0))) (.block 1 (.seq (.region 5 reg73_5 false) (.block 2 (.seq (.region 7 reg73_7 false) (.cond (.tmp 35 ) (.region 8 reg73_8 false) (.seq (.region 9 reg73_9 false) (.cond (.tmp 42 ) (.seq (.region 10 reg73_10 false) (.ret)) (.seq (.region 6 reg73_6 false) (.ret)))))))))), .inBlock 0, .code (.seq (.region 11 reg73_11 false) (.ret))]
theorem get_no {main : Bool} {V : Nat -> Option Wait} (r sv : Value) (q : Int) (hq : ¬ good q) (w : World) : As Try.prog main V 61 #[r, sv, .int .i64 q] w (.tuple #[.int .i64 0, .int .i64 1]) w := by
 have hno := Gj (main := main) (V := V) r w q hq
 refine Ap Try.func61 code61_is fun fr cs => ?_
 simp only [Try.ntmps61, ez, Nat.reduceAdd, Nat.reduceSub]
 refine Aa z61 ?_
 refine Walk.callV (x := .bool false) (W := w) ?_ Aj (by rfl) (by decide) rfl Try.func74 (by kernel_rfl) (by rfl) ?_
 ·walk_nrm
  exact hno
 walk_nrm
 refine Aa z61 ?_
 exact By rfl rfl Try.func61 rfl (.stop fun d => ⟨_, ⟨rfl, d, rfl⟩, rfl⟩)
def GatL {L : La} {sv : Value} (K : Lg L sv) (e : K.E) (sl : Value) (ls : List Int) : Prop := (∃ a c, sl = .slice a ls.length c) /\ (K.w e).ownsRow 0 2 1 sl ls.length (ls.map fun z => .int .i64 z) /\ ∀ b, sl.ownBlock = some b -> K.mine e b
def gaD (n : Nat) (a : Int) (m : Int) (ls : List Int) : Ans ⊕ RD := if (ls.length : Int) < m /\ good (a + ls.length) then .inr (.a1 (a + ls.length) m ls) else .inl ⟨true, 0, ls⟩
section
variable {rb sb n : Nat} {sv : Value}
def Ng (K : Lg (Bs rb sb n) sv) (v : Value) (e' : K.E) : Prop := ∃ sl er ls, v = .tuple #[sl, .int .i64 er] /\ GatL K e' sl ls /\ ls.length <= 65536 /\ K.tgt e' = (K.s e', .inl ⟨er == 0, er, ls⟩)
theorem ga_out (K : Lg (Bs rb sb n) sv) (a mo m : Int) (hmo : min mo n = m) (fr : Frame) (l : List Frame) (hk : ∀ x e', Ng K x e' -> LW K.toLb e' (G (fr.finish x) (l ++ K.bot e'))) (sl : Value) (ls : List Int) (e : K.E) (u : Nat -> Value) (hm : m <= ls.length) (h6 : ls.length <= 65536) (hL : GatL K e sl ls) (ht : K.tgt e = (K.s e, .inl ⟨true, 0, ls⟩)) : LW K.toLb e (G (hdGa rb sv sl a mo u) (fr :: (l ++ K.bot e))) := by
 have hmn := @Bx Try.prog
 have hkk := hk (.tuple #[sl, .int .i64 0]) e ⟨sl, 0, ls, rfl, hL, h6, ht⟩
 have hsz := Hj (main := K.main) (V := K.V e) (K.w e) (K.inv e)
 obtain ⟨⟨sa, sc, rfl⟩, _, _⟩ := hL
 have h1 : decide ((ls.length : Int) < m) = false := by simp; omega
 generalize ls.length = j at *
 unfold LW at hkk ⊢
 unfold hdGa
 refine Aa z73 ?_
 refine Walk.callV (x := .int .i64 (n : Nat)) (W := K.w e) ?_ Aj (by rfl) (by decide) rfl Try.func19 (by kernel_rfl) (by rfl) ?_
 ·walk_nrm
  exact hsz
 walk_nrm
 refine Aa z73 ?_
 exact By rfl rfl Try.func73 rfl hkk
end
end
section
def runN (L : La) : Nat -> L.Sg × (Ans ⊕ L.D) -> Option (L.Sg × Ans)
 | _, (s, .inl a) => some (s, a)
 | 0, (_, .inr _) => none
 | n + 1, (s, .inr d) => runN L n (L.act s d)
theorem Gd (L : La) (n : Nat) (s : L.Sg) (a : Ans) : runN L n (s, .inl a) = some (s, a) := by cases n <;> rfl
theorem Kh : ∃ ms, Try.prog.underlying 137 = some (.interface ms) := by
 have h : (match Try.prog.underlying 137 with | some (.interface _) => true | _ => false) = true := by kernel_rfl
 revert h
 cases Try.prog.underlying 137 with
 | none => simp
 | some d =>
  cases d with
  | interface fs => exact fun _ => ⟨fs, rfl⟩
  | _ => simp
structure NilE (L : La) (y0 : L.Gh) (base : World) (R : L.Sg × Ans) where
 w : World
 y : L.Gh
 s : L.Sg
 tgt : L.Sg × (Ans ⊕ L.D)
 fuel : Nat
 le : L.le y0 y
 inv : L.I y s w
 size : base.heap.size <= w.heap.size
 old : ∀ b, b < base.heap.size -> ¬ L.sh y0 b -> w.heap[b]? = base.heap[b]?
 pub : ∀ b, L.sh y b -> b < base.heap.size -> L.sh y0 b
 run : runN L fuel tgt = some R
section
variable {L : La} {main : Bool} {V : Nat -> Option Wait} {Stop : Goroutine -> World -> Prop} {cs : List Frame} {y0 : L.Gh} {base : World} {R : L.Sg × Ans}
def nilB (main : Bool) (V : Nat -> Option Wait) (Stop : Goroutine -> World -> Prop) (cs : List Frame) (y0 : L.Gh) (base : World) (R : L.Sg × Ans) : Lb L where
 main := main
 E := NilE L y0 base R
 V := fun _ => V
 Stop := fun _ => Stop
 bot := fun _ => cs
 w := fun e => e.w
 s := fun e => e.s
 gh := fun e => e.y
 tgt := fun e => e.tgt
 fuel := fun e => e.fuel
 mine := fun e b => (base.heap.size <= b /\ b < e.w.heap.size) /\ ¬ L.sh e.y b
theorem nil_step (e : NilE L y0 base R) (d : L.D) (ht : e.tgt = (e.s, .inr d)) (fr : Frame) (l : List Frame) (hk : ∀ e' : NilE L y0 base R, Aft (nilB main V Stop cs y0 base R) e d e' -> LW (nilB main V Stop cs y0 base R) e' (G (fr.finish (.tuple #[])) (l ++ cs))) :
  LW (nilB main V Stop cs y0 base R) e (G (Frame.enter Try.prog 120 #[.nilIface] .normal) (fr :: (l ++ cs))) := by
 obtain ⟨ms, hu⟩ := Kh
 have hn1 := fun w => Dd (P := Try.prog) (w := w) 137 hu
 have hn2 := fun w es => Dn (P := Try.prog) (w := w) 137 es hu
 obtain ⟨n, hn, hr⟩ : ∃ n, e.fuel = n + 1 /\ runN L n (L.act e.s d) = some R := by
  have h := e.run
  rw [ht] at h
  cases hf : e.fuel with
  | zero => rw [hf] at h; cases h
  | succ n => rw [hf] at h; exact ⟨n, rfl, h⟩
 have hh := hk { w := e.w, y := e.y, s := e.s, tgt := L.act e.s d, fuel := n, le := e.le, inv := e.inv, size := e.size, old := e.old, pub := e.pub, run := hr } ⟨rfl, show n < e.fuel by omega, L.refl _, Nat.le_refl _, fun b h => ⟨h, rfl⟩⟩
 unfold LW at hh ⊢
 show Walk Try.prog main (DR V) Stop _ e.w
 replace hh : Walk Try.prog main (DR V) Stop (G (fr.finish (.tuple #[])) (l ++ cs)) e.w := hh
 rw [enter_at _ Try.func120 code120_is]
 simp only [Try.ntmps120, ez, Nat.reduceAdd, Nat.reduceSub]
 refine Aa z120 ?_
 exact Ar rfl rfl Try.func120 rfl hh
theorem nil_mine {y0 y' : L.Gh} {base : World} {e : NilE L y0 base R} {w' : World} {b : Nat} (hle : L.le e.y y') (hs : e.w.heap.size <= w'.heap.size) : ((base.heap.size <= b /\ b < w'.heap.size) /\ ¬ L.sh y' b) ↔ ((((base.heap.size <= b /\ b < e.w.heap.size) /\ ¬ L.sh e.y b) ∨ (e.w.heap.size <= b /\ b < w'.heap.size)) /\ ¬ L.sh y' b) := by
 have := e.size
 constructor
 ·rintro ⟨⟨a, b'⟩, hn⟩
  refine ⟨?_, hn⟩
  by_cases hb : b < e.w.heap.size
  ·exact .inl ⟨⟨a, hb⟩, fun h => hn (L.mono hle h)⟩
  ·exact .inr ⟨by omega, b'⟩
 ·rintro ⟨⟨⟨a, b'⟩, _⟩ | ⟨a, b'⟩, hn⟩
  ·exact ⟨⟨a, by omega⟩, hn⟩
  ·exact ⟨⟨by omega, b'⟩, hn⟩
def nilL (hA : ∀ b, Bd V b) (main : Bool) (Stop : Goroutine -> World -> Prop) (cs : List Frame) (y0 : L.Gh) (base : World) (R : L.Sg × Ans) : Lg L .nilIface where
 toLb := nilB main V Stop cs y0 base R
 one := rfl
 inv := fun e => e.inv
 shA := fun _ b _ => hA b
 mineA := fun e b h => ⟨hA b, h.2, h.1.2⟩
 newA := fun _ b _ => hA b
 mg := fun e y' s' w' h0 h1 h2 h3 h4 => ⟨{ w := w', y := y', s := s', tgt := e.tgt, fuel := e.fuel, le := L.trans e.le h0, inv := h3, size := Nat.le_trans e.size h1, old := fun b hb hs => (h2 b (Nat.lt_of_lt_of_le hb e.size) (fun hm => by have := hm.1.1; omega) (fun hm => hs (e.pub b hm hb))).trans (e.old b hb hs), pub := fun b hb hlt => (h4 b hb).elim (fun h => e.pub b h hlt) fun h => h.elim (fun h => absurd h.1.1 (Nat.not_le_of_lt hlt)) fun h => absurd (Nat.le_trans e.size h) (Nat.not_le_of_lt hlt), run := e.run }, rfl, rfl, rfl, rfl, rfl, rfl, rfl, rfl, fun b => nil_mine h0 h1⟩
 step := fun e d ht fr l _ _ hk => nil_step e d ht fr l hk
structure Lone (L : La) (y0 : L.Gh) (w : World) (R : L.Sg × Ans) (w' : World) (y : L.Gh) : Prop where
 le : L.le y0 y
 I : L.I y R.1 w'
 size : w.heap.size <= w'.heap.size
 old : ∀ b, b < w.heap.size -> ¬ L.sh y0 b -> w'.heap[b]? = w.heap[b]?
 pub : ∀ b, L.sh y b -> b < w.heap.size -> L.sh y0 b
variable {b : Frame} {a : Act} {k : List Item} {ops : Array Oper} {i : Nat} {rest : List Nat} {o : Oper} {w : World}
theorem Walk.callLone {f : FuncId} {fn : Func} {args : Array Operand} {ats : Array TypeId} {Rel : Value -> Ans -> World -> (Nat -> Prop) -> Prop} (N : Nat) (y0 : L.Gh) (s : L.Sg) (r0 : Ans ⊕ L.D) (hA : ∀ b, Bd V b) (hI : L.I y0 s w) (hrun : runN L N (s, r0) = some R)
  (hc : ∀ (K : Lg L .nilIface) (e : K.E), K.tgt e = (K.s e, r0) -> SCall K.toLb f (args.map a.eval) e (fun v e' => ∃ x, Rel v x (K.w e') (K.mine e') /\ K.tgt e' = (K.s e', .inl x)))
  (ho : ops[i]? = some o) (hw : Region.wanted o (yielded ops a.tmps) = true) (hk : b.kind ≠ .early) (hop : o.op = .call { callee := .value (.func f), args, argTypes := ats })
  (hf : Try.prog.funcs[f]? = some fn) (hname : (fn.name == "runtime.NumGoroutine") = false) (hb : fn.body.isNone = false) (hp : Cf (b.at a (.inRegion ops (i :: rest) :: k)))
  (h : ∀ v w' y, Rel v R.2 w' (fun b => (w.heap.size <= b /\ b < w'.heap.size) /\ ¬ L.sh y b) -> Lone L y0 w R w' y -> Walk Try.prog main (DR V) Stop (G (b.at (a.put o.dst v) (.inRegion ops rest :: k)) cs) w') :
  Walk Try.prog main (DR V) Stop (G (b.at a (.inRegion ops (i :: rest) :: k)) cs) w := by
 refine Walk.callE ho hw hk hop hf hname hb ?_
 have key := hc (nilL (V := V) hA main Stop cs y0 w R) { w := w, y := y0, s := s, tgt := (s, r0), fuel := N, le := L.refl _, inv := hI, size := Nat.le_refl _, old := fun _ _ _ => rfl, pub := fun _ h _ => h, run := hrun } rfl (b.at a (.inRegion ops (i :: rest) :: k)) [] hp (fun _ h => by cases h) ?_
 ·exact key
 ·rintro v e' ⟨x, hr, ht⟩
  have hrn := e'.run
  have ht : e'.tgt = (e'.s, .inl x) := ht
  rw [ht, Gd] at hrn
  have hR := Option.some.inj hrn
  have r1 : R.1 = e'.s := (congrArg Prod.fst hR).symm
  have r2 : R.2 = x := (congrArg Prod.snd hR).symm
  have := h v e'.w e'.y (by rw [r2]; exact hr) ⟨e'.le, by rw [r1]; exact e'.inv, e'.size, e'.old, e'.pub⟩
  rw [Frame.finish_at, ho]
  exact this
end
end
section
section
variable {rb sb n : Nat} {sv : Value}
theorem gaD_snoc (a m v : Int) (ls : List Int) : gaD n a m (ls ++ [v]) = if (ls.length : Int) + 1 < m /\ good (a + ls.length + 1) then .inr (.a1 (a + ls.length + 1) m (ls ++ [v])) else .inl ⟨true, 0, ls ++ [v]⟩ := by
 have e : ((ls ++ [v]).length : Int) = (ls.length : Int) + 1 := by simp
 unfold gaD
 rw [e, <- Int.add_assoc]
theorem ga_refused (K : Lg (Bs rb sb n) sv) (a mo m : Int) (ha : good a) (hmo : min mo n = m) (fr : Frame) (l : List Frame) (hk : ∀ x e', Ng K x e' -> LW K.toLb e' (G (fr.finish x) (l ++ K.bot e'))) (sl : Value) (ls : List Int) (e : K.E) (u : Nat -> Value) (hm : (ls.length : Int) < m) (hls : ls ≠ []) (hg : ¬ good (a + ls.length)) (h6 : ls.length <= 65536) (hL : GatL K e sl ls) (ht : K.tgt e = (K.s e, .inl ⟨true, 0, ls⟩)) : LW K.toLb e (G (hdGa rb sv sl a mo u) (fr :: (l ++ K.bot e))) := by
 have hmn := @Bx Try.prog
 have hkk := hk (.tuple #[sl, .int .i64 0]) e ⟨sl, 0, ls, rfl, hL, h6, ht⟩
 have hsz := Hj (main := K.main) (V := K.V e) (K.w e) (K.inv e)
 have hget := get_no (main := K.main) (V := K.V e) (.pointer (some ⟨rb, 0, none⟩)) sv (a + ls.length) hg (K.w e)
 obtain ⟨⟨sa, sc, rfl⟩, _, _⟩ := hL
 have h0 : ls.length ≠ 0 := fun h => hls (List.eq_nil_of_length_eq_zero h)
 have h1 : decide ((ls.length : Int) < m) = true := by simp [hm]
 have h2 : ((ls.length : Int) == 0) = false := by simp [h0, hls]
 have h3 : (ls.length == 0) = false := by simp [h0, hls]
 have ha1 := ha.1
 have ha2 := ha.2
 have hw : IntKind.wrap .i64 (a + (ls.length : Int)) = a + ls.length := by rw [IntKind.wrap_i64]; omega
 clear hls hg ht
 generalize ls.length = j at *
 unfold LW at hkk ⊢
 unfold hdGa
 refine Aa z73 ?_
 refine Walk.callV (x := .int .i64 (n : Nat)) (W := K.w e) ?_ Aj (by rfl) (by decide) rfl Try.func19 (by kernel_rfl) (by rfl) ?_
 ·walk_nrm
  exact hsz
 walk_nrm
 refine Aa z73 ?_
 refine Walk.callV (x := .tuple #[.int .i64 0, .int .i64 1]) (W := K.w e) ?_ Aj (by rfl) (by decide) rfl Try.func61 (by kernel_rfl) (by rfl) ?_
 ·walk_nrm
  exact hget
 walk_nrm
 refine Aa z73 ?_
 exact By rfl rfl Try.func73 rfl hkk
theorem ga_round (K : Lg (Bs rb sb n) sv) (a mo m : Int) (ha : good a) (hmo : min mo n = m) (fr : Frame) (l : List Frame) (hp : Cf fr) (hl : ∀ f ∈ l, Cf f) (hk : ∀ x e', Ng K x e' -> LW K.toLb e' (G (fr.finish x) (l ++ K.bot e'))) (sl : Value) (ls : List Int) (e : K.E) (u : Nat -> Value) (hm : (ls.length : Int) < m) (hg : good (a + ls.length)) (h6 : ls.length <= 65536) (hL : GatL K e sl ls) (ht : K.tgt e = (K.s e, .inr (.a1 (a + ls.length) m ls)))
  (ih : ∀ (e' : K.E) (u' : Nat -> Value) (sl' : Value) (v : Int), GatL K e' sl' (ls ++ [v]) -> K.tgt e' = (K.s e', gaD n a m (ls ++ [v])) -> LW K.toLb e' (G (hdGa rb sv sl' a mo u') (fr :: (l ++ K.bot e')))) :
  LW K.toLb e (G (hdGa rb sv sl a mo u) (fr :: (l ++ K.bot e))) := by
 have hmn := @Bx Try.prog
 have hiI := Option.some_get (show (Try.prog.info? 2).isSome = true by kernel_rfl)
 have hsz := Hj (main := K.main) (V := K.V e) (K.w e) (K.inv e)
 have hget := Fi K (get_s (Fz K e) (fz0 K e) (a + ls.length) hg (.a1 (a + ls.length) m ls) (.a2 (a + ls.length) m ls) (fun v => .a3 (a + ls.length) m ls v) (.inl (Hf ls 6)) (.inl (Hf ls 10)) (fun v => gaD n a m (ls ++ [v])) (fun _ => rfl) (fun _ => rfl) (fun s v => by rw [gaD_snoc]; rfl) ht)
 have h1 : decide ((ls.length : Int) < m) = true := by simp [hm]
 have ha1 := ha.1
 have ha2 := ha.2
 have hw : IntKind.wrap .i64 (a + (ls.length : Int)) = a + ls.length := by rw [IntKind.wrap_i64]; omega
 have h0 : ls = [] ↔ ls.length = 0 := ⟨fun h => by rw [h]; rfl, List.eq_nil_of_length_eq_zero⟩
 obtain ⟨⟨sa, sc, rfl⟩, hrow, hmine⟩ := hL
 have hlm : (ls.map fun z => Value.int .i64 z).length = ls.length := by simp
 clear ht
 unfold LW hdGa
 generalize hj : ls.length = j at *
 refine Aa z73 ?_
 refine Walk.callV (x := .int .i64 (n : Nat)) (W := K.w e) ?_ Aj (by rfl) (by decide) rfl Try.func19 (by kernel_rfl) (by rfl) ?_
 ·walk_nrm
  exact hsz
 walk_nrm
 clear hsz
 refine Aa z73 ?_
 refine Bt (K := K.toLb) (e := e) (l := fr :: l) (f := 61) (Q := fun x e' => ∃ h : Kept K e e', GetOut (Fz K e) (.inl (Hf ls 6)) (.inl (Hf ls 10)) (fun v => gaD n a m (ls ++ [v])) x ⟨e', h⟩) ?_ Aj (by rfl) (by decide) rfl Try.func61 (by kernel_rfl) (by rfl) ⟨rfl, rfl, _, Try.func73⟩ (Bl hp hl) ?_
 ·walk_nrm
  exact hget
 rintro x e2 ⟨hkept, v, er, rfl, hcase⟩
 clear hget
 have hrow2 := Ao hrow (w' := K.w e2) fun b hb => (hkept b (hmine b hb)).2
 have hmine2 : ∀ b, (Value.slice sa j sc).ownBlock = some b -> K.mine e2 b := fun b hb => (hkept b (hmine b hb)).1
 have hcase' : (er ≠ 0 /\ K.tgt e2 = (K.s e2, .inl (Hf ls er))) ∨ (er = 0 /\ K.tgt e2 = (K.s e2, gaD n a m (ls ++ [v]))) := by
  rcases hcase with ⟨h, h'⟩ | ⟨h, h'⟩ | ⟨h, h'⟩
  ·exact .inl ⟨by omega, by rw [h]; exact h'⟩
  ·exact .inl ⟨by omega, by rw [h]; exact h'⟩
  ·exact .inr ⟨h, h'⟩
 clear hcase hrow hmine hkept
 rcases hcase' with ⟨her, t2⟩ | ⟨rfl, t2⟩
 ·have hb1 : (er == 0) = false := by simp [her]
  by_cases hls : ls = []
  ·have hj0 := h0.1 hls
   subst hj0
   subst hls
   have hkk := hk (.tuple #[.slice none 0 0, .int .i64 er]) e2 ⟨.slice none 0 0, er, [], rfl, ⟨⟨_, _, rfl⟩, ⟨rfl, .inl ⟨rfl, rfl⟩⟩, fun b h => by simp [Value.ownBlock] at h⟩, by simp, by rw [hb1]; exact t2⟩
   clear ih hk
   unfold LW at hkk ⊢
   walk_nrm
   refine Aa z73 ?_
   exact By rfl rfl Try.func73 rfl hkk
  ·have hj0 : j ≠ 0 := fun h => hls (h0.2 h)
   have hkk := hk (.tuple #[.slice sa j sc, .int .i64 0]) e2 ⟨.slice sa j sc, 0, ls, rfl, ⟨⟨sa, sc, by rw [hj]⟩, by rw [hj]; exact hrow2, hmine2⟩, by omega, by rw [t2]; unfold Hf; rw [if_neg hls]; rfl⟩
   have hb2 : ((j : Int) == 0) = false := by simp [hj0]
   have hb3 : (j == 0) = false := by simp [hj0]
   clear ih hk
   unfold LW at hkk ⊢
   walk_nrm
   refine Aa z73 ?_
   exact By rfl rfl Try.func73 rfl hkk
 ·clear hk
  unfold LW
  walk_nrm
  refine Aa z73 ?_
  (refine Walk.oa ?_; try walk_nrm)
  have s1 : ((K.w e2).alloc (.cells #[.int .i64 v] 2)).heap.size = (K.w e2).heap.size + 1 := by simp
  have o1 : ∀ b, b < (K.w e2).heap.size -> ((K.w e2).alloc (.cells #[.int .i64 v] 2)).heap[b]? = (K.w e2).heap[b]? := fun b hb => Ad _ _ hb
  have d1 := heap_alloc_new (K.w e2) (.cells #[.int .i64 v] 2)
  have r1 := Ao hrow2 (w' := (K.w e2).alloc (.cells #[.int .i64 v] 2)) fun b hb => o1 b (hrow2.lt b hb).2
  generalize hw1 : (K.w e2).alloc (.cells #[.int .i64 v] 2) = w1 at *
  repeat (first | (refine Walk.oq ?_; try walk_nrm) | (refine Bn ?_; walk_nrm))
  refine Walk.append (.tmp 38) (.tmp 40) 22 Aj (by rfl) (by decide) rfl 0 2 _ (.int .i64 0) 1 8 (by kernel_rfl) hiI.symm (by rfl) (by rfl) (by rfl) (by rfl) (by decide) (.slice sa j sc) j (ls.map fun z => .int .i64 z) rfl r1 ⟨(K.w e2).heap.size, 0, none⟩ 1 1 [.int .i64 v] rfl (by rfl) (fun i x hx => ?_) (by simp [Value.oneCell']) (by decide) (by simp [maxLen]; omega) (by omega) (by omega) (fun g hg => (K.mineA e2 g (hmine2 g hg)).1) (fun g cap w4 r4 hg4 at4 lt4 => ?_)
  ·rw [Bm, Nat.zero_add]
   refine (Ac d1 i).trans ?_
   simpa using hx
  have z4 := hg4.size
  obtain ⟨e3, m3⟩ := K.own e2 (w' := w4) (by omega) (fun b hb hbm => (hg4.block b (by omega) fun h => hbm (hmine2 b h.symm)).trans (o1 b hb))
  have hL3 : GatL K e3 (.slice (some ⟨g, 0, none⟩) (j + 1) cap) (ls ++ [v]) := by
   have hl : (ls ++ [v]).length = j + 1 := by simp [hj]
   refine ⟨⟨_, _, by rw [hl]⟩, ?_, fun b hb => ?_⟩
   ·rw [hl, m3.w, List.map_append]
    exact r4
   ·have hb : some g = some b := hb
    cases hb
    rcases at4 with h | h
    ·exact (m3.mine g).2 (.inl (hmine2 g h))
    ·exact (m3.mine g).2 (.inr ⟨by omega, lt4⟩)
  have t3 : K.tgt e3 = (K.s e3, gaD n a m (ls ++ [v])) := by rw [m3.tgt, m3.s]; exact t2
  have hih := fun u => ih e3 u _ v hL3 t3
  clear ih hL3 t3 t2 r4 r1 d1 o1 hrow2
  refine Jr (l := fr :: l) m3 ?_
  unfold LW at hih ⊢
  walk_nrm
  refine Aa z73 ?_
  refine Walk.ctl rfl (fun w => stepG_inLoop) ?_
  refine Fd (F := fun u => G (hdGa rb sv (.slice (some ⟨g, 0, none⟩) (j + 1) cap) a mo u) (fr :: (l ++ K.bot e3))) hih ?_
  simp only [hdGa]
  rfl
end
end
end Go.Proofs.Ytcdcnmphjhfbpaa
