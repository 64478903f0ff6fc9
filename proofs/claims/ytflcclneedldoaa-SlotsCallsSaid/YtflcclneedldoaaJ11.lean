/- Part 11. -/
import Derived.Test.YtflcclneedldoaaJ10
set_option linter.unusedSimpArgs false
set_option linter.unusedVariables false
set_option maxHeartbeats 8000000
set_option maxRecDepth 100000
namespace Go.Proofs.Ytflcclneedldoaa
open Go.Conc Go.RowKit Go.Relay Try
open Go.ConcN (upd upd_ne upd_same)
noncomputable def reg111_0 := rk f111.body 0
noncomputable def reg111_1 := rk f111.body 1
theorem size111_1 : reg111_1.size = 14 := by kernel_rfl
theorem z111 : reg111_0.size = 2 /\ reg111_1.size = 14 := by and_intros <;> kernel_rfl
theorem code111_is : f111.body = some (.seq (.region 0 reg111_0 false) (.seq (.region 1 reg111_1 true) (.ret))) := by kernel_rfl
noncomputable def reg56_0 := rk f56.body 0
noncomputable def reg56_1 := rk f56.body 1
noncomputable def reg56_2 := rk f56.body 2
noncomputable def reg56_3 := rk f56.body 3
noncomputable def reg56_4 := rk f56.body 4
theorem z56 : reg56_0.size = 1 /\ reg56_1.size = 4 /\ reg56_2.size = 1 /\ reg56_3.size = 8 /\ reg56_4.size = 8 := by and_intros <;> kernel_rfl
theorem code56_is : f56.body = some (.seq (.region 0 reg56_0 false) (.seq (.seq (.region 1 reg56_1 false) (.cond (.tmp 12 ) (.seq (.region 2 reg56_2 false) (.ret)) (.skip))) (.seq (.region 3 reg56_3 false) (.seq (.region 4 reg56_4 false) (.ret))))) := by kernel_rfl
noncomputable def reg53_0 := rk f53.body 0
noncomputable def reg53_1 := rk f53.body 1
noncomputable def reg53_2 := rk f53.body 2
noncomputable def reg53_3 := rk f53.body 3
noncomputable def reg53_4 := rk f53.body 4
noncomputable def reg53_5 := rk f53.body 5
noncomputable def reg53_6 := rk f53.body 6
noncomputable def reg53_7 := rk f53.body 7
theorem z53 : reg53_0.size = 1 /\ reg53_1.size = 4 /\ reg53_2.size = 1 /\ reg53_3.size = 8 /\ reg53_4.size = 7 /\ reg53_5.size = 6 /\ reg53_6.size = 6 /\ reg53_7.size = 1 := by and_intros <;> kernel_rfl
theorem code53_is : f53.body = some (.seq (.region 0 reg53_0 false) (.seq (.seq (.region 1 reg53_1 false) (.cond (.tmp 14 ) (.seq (.region 2 reg53_2 false) (.ret)) (.skip))) (.seq (.region 3 reg53_3 false) (.seq (.region 4 reg53_4 false) (.seq (.region 5 reg53_5 false) (.seq (.region 6 reg53_6 false) (.seq (.region 7 reg53_7 false) (.ret)))))))) := by kernel_rfl
theorem laR_in {n : Nat} (hn : 1 <= n) {q : Int} (hq : good q) : 0 <= Bx n q /\ Bx n q < 9223372036854775808 := by
 have hb : 0 <= q / (n : Int) /\ q / (n : Int) <= q := ⟨Int.ediv_nonneg hq.1 (by omega), Int.ediv_le_self _ hq.1⟩
 have := hq.2
 unfold Bx
 omega
section
variable {main : Bool} {V : Nat -> Option Wait} {rb sb n : Nat} {s : Rg}
theorem at_w (w : World) (I : RgI rb sb n s w) (q : Int) (hq : good q) : Aw prog main V 111 #[.pointer (some ⟨rb, 0, none⟩), .int .i64 q] w (.tuple #[.pointer (some ⟨sb, Bl n q * 2, none⟩), .int .i64 (Bx n q)]) w := by
 have hsl := slot_w (main := main) (V := V) w I q hq
 have hlp := lap_w (main := main) (V := V) w I q hq
 have c1 := I.size
 have hn := I.pos
 have hb := laR_in hn.1 hq
 have hw : IntKind.wrap .i64 (2 * (q / (n : Int))) = Bx n q := by
  have e : Bx n q = 2 * (q / (n : Int)) := rfl
  rw [<- e, IntKind.wrap_i64]
  omega
 have hlt := Ll hn.1 q
 have hl1 : ((Bl n q : Nat) : Int) < (n : Int) := by omega
 generalize Bx n q = la at *
 generalize Bl n q = ix at *
 generalize q / (n : Int) = qn at *
 clear I
 refine Aq func111 code111_is fun fr cs => ?_
 simp only [ntmps111, ez, Nat.reduceAdd, Nat.reduceSub]
 refine Aa z111 ?_
 (refine Ku (by kernel_rfl) size111_1 (by kernel_rfl) (by kernel_rfl) (by decide) ?_; simp only [List.range, List.range.loop]; repeat (first | (refine cQ ?_) | (refine Be Ah (by rfl) ?_; walk_nrm)))
 refine Cm.callV (x := .int .i64 (ix : Nat)) ?_ Ah (by rfl) rfl func21 (by kernel_rfl) (by rfl) ?_
 ·intro w' he
  subst he
  walk_nrm
  exact hsl
 walk_nrm
 repeat (first | (refine cQ ?_) | (refine Be Ah (by rfl) ?_; walk_nrm))
 refine Cm.callV (x := .int .i64 qn) ?_ Ah (by rfl) rfl func22 (by kernel_rfl) (by rfl) ?_
 ·intro w' he
  subst he
  walk_nrm
  exact hlp
 walk_nrm
 repeat (first | (refine cQ ?_) | (refine Be Ah (by rfl) ?_; walk_nrm))
 refine cDn ?_
 refine Aa z111 ?_
 exact Cb rfl rfl func111 rfl (.stop fun d => ⟨_, ⟨rfl, d, rfl⟩, rfl⟩)
end
section
variable {rb sb n : Nat} {sv : Value}
theorem Oc (K : Lg (Br rb sb n) sv) (i : Nat) (hi : i < n) (e : K.E) (d : RD) (ht : K.tgt e = (K.s e, .inr d)) : SCall K.toLb 90 #[.pointer (some ⟨sb, i * 2, none⟩), sv] e (fun v e' => Aft K.toLb e d e' /\ v = .int .i64 ((K.s e' : Rg).st i)) := word_load K (stpW i hi) e d trivial ht
theorem load_vlu (K : Lg (Br rb sb n) sv) (i : Nat) (hi : i < n) (e : K.E) (d : RD) (ht : K.tgt e = (K.s e, .inr d)) : SCall K.toLb 90 #[.pointer (some ⟨sb, i * 2 + 1, none⟩), sv] e (fun v e' => Aft K.toLb e d e' /\ v = .int .i64 ((K.s e' : Rg).va i)) := word_load K (vluW i hi) e d trivial ht
theorem store_stp (K : Lg (Br rb sb n) sv) (i : Nat) (hi : i < n) (e : K.E) (d : RD) (x : Int) (ht : K.tgt e = (K.s e, .inr d)) : SCall K.toLb 57 #[.pointer (some ⟨sb, i * 2, none⟩), sv, .int .i64 x] e (fun _ e' => ∃ s : Rg, Wrote K e d s (Cj s i x) e') := Nd K (stpW i hi) e d x trivial trivial ht
theorem store_vlu (K : Lg (Br rb sb n) sv) (i : Nat) (hi : i < n) (e : K.E) (d : RD) (x : Int) (ht : K.tgt e = (K.s e, .inr d)) : SCall K.toLb 57 #[.pointer (some ⟨sb, i * 2 + 1, none⟩), sv, .int .i64 x] e (fun _ e' => ∃ s : Rg, Wrote K e d s (Fa s i x) e') := Nd K (vluW i hi) e d x trivial trivial ht
theorem there_s (K : Lg (Br rb sb n) sv) (e : K.E) (q : Int) (hq : good q) (d : RD) (ht : K.tgt e = (K.s e, .inr d)) : SCall K.toLb 56 #[.pointer (some ⟨rb, 0, none⟩), sv, .int .i64 q] e (fun v e' => Aft K.toLb e d e' /\ v = .bool (decide ((K.s e' : Rg).st (Bl n q) = Bx n q))) := by
 intro fr l hp hl hk
 have I := K.inv e
 have hh := Fg (main := K.main) (V := K.V e) (K.w e) I q hq
 have ha := at_w (main := K.main) (V := K.V e) (K.w e) I q hq
 have hw := Oc K (Bl n q) (Ll I.pos.1 q) e d ht
 generalize Bl n q = ix at *
 generalize Bx n q = la at *
 unfold LW
 clear I
 rw [enter_at _ func56 code56_is]
 simp only [ntmps56, ez, Nat.reduceAdd, Nat.reduceSub]
 refine Aa z56 ?_
 refine qV (x := .bool true) (W := K.w e) func62 ?_ ?_
 ·walk_nrm
  exact hh
 walk_nrm
 clear hh
 refine Aa z56 ?_
 refine qV (x := .tuple #[.pointer (some ⟨sb, ix * 2, none⟩), .int .i64 la]) (W := K.w e) func111 ?_ ?_
 ·walk_nrm
  exact ha
 walk_nrm
 clear ha
 refine Aa z56 ?_
 refine Bi (K := K.toLb) (e := e) (l := fr :: l) (f := 90) (Q := fun v e' => Aft K.toLb e d e' /\ v = .int .i64 ((K.s e' : Rg).st ix)) ?_ Ah (by rfl) (by decide) rfl func90 (by kernel_rfl) (by rfl) ⟨rfl, rfl, _, func56⟩ (Bc hp hl) ?_
 ·walk_nrm
  exact hw
 rintro v e1 ⟨ha, rfl⟩
 have hkk := hk (.bool (decide ((K.s e1 : Rg).st ix = la))) e1 ⟨ha, rfl⟩
 generalize (K.s e1 : Rg).st ix = x at *
 have eb : decide (x = la) = (x == la) := by by_cases h : x = la <;> simp [h]
 rw [eb] at hkk
 unfold LW at hkk ⊢
 walk_nrm
 refine Aa z56 ?_
 exact Bk rfl rfl func56 rfl hkk
theorem put_s (K : Lg (Br rb sb n) sv) (e : K.E) (q v : Int) (hq : good q) (ht : K.tgt e = (K.s e, .inr (.p1 q v))) : SCall K.toLb 53 #[.pointer (some ⟨rb, 0, none⟩), sv, .int .i64 q, .int .i64 v] e (fun x e' => x = .int .i64 0 /\ K.tgt e' = (K.s e', .inl ⟨true, 0, []⟩)) := by
 intro fr l hp hl hk
 have I := K.inv e
 have hh := Fg (main := K.main) (V := K.V e) (K.w e) I q hq
 have ha := at_w (main := K.main) (V := K.V e) (K.w e) I q hq
 have hix := Ll I.pos.1 q
 have hb := laR_in I.pos.1 hq
 have w1 := store_stp K (Bl n q) hix e (.p1 q v) (Bx n q - 1) ht
 have h1 : ∀ (e1 : K.E) (s1 : Rg), Wrote K e (.p1 q v) s1 (Cj s1 (Bl n q) (Bx n q - 1)) e1 -> K.tgt e1 = (K.s e1, .inr (.p2 q v)) := fun e1 s1 h => by
  rw [h.tgt]
  have : (K.s e1 : Rg) = Cj s1 (Bl n q) (Bx n q - 1) := h.s
  rw [this]
  rfl
 have w2 := fun (e1 : K.E) (h : K.tgt e1 = (K.s e1, .inr (.p2 q v))) => store_vlu K (Bl n q) hix e1 (.p2 q v) v h
 have h2 : ∀ (e1 e2 : K.E) (s1 : Rg), Wrote K e1 (.p2 q v) s1 (Fa s1 (Bl n q) v) e2 -> K.tgt e2 = (K.s e2, .inr (.p3 q)) := fun e1 e2 s1 h => by
  rw [h.tgt]
  have : (K.s e2 : Rg) = Fa s1 (Bl n q) v := h.s
  rw [this]
  rfl
 have w3 := fun (e1 : K.E) (h : K.tgt e1 = (K.s e1, .inr (.p3 q))) => store_stp K (Bl n q) hix e1 (.p3 q) (Bx n q) h
 have h3 : ∀ (e1 e2 : K.E) (s1 : Rg), Wrote K e1 (.p3 q) s1 (Cj s1 (Bl n q) (Bx n q)) e2 -> K.tgt e2 = (K.s e2, .inl ⟨true, 0, []⟩) := fun e1 e2 s1 h => by
  rw [h.tgt]
  have : (K.s e2 : Rg) = Cj s1 (Bl n q) (Bx n q) := h.s
  rw [this]
  rfl
 have hw1 : IntKind.wrap .i64 (Bx n q - 1) = Bx n q - 1 := by rw [IntKind.wrap_i64]; omega
 generalize Bl n q = ix at *
 generalize Bx n q = la at *
 unfold LW
 clear I
 rw [enter_at _ func53 code53_is]
 simp only [ntmps53, ez, Nat.reduceAdd, Nat.reduceSub]
 refine Aa z53 ?_
 refine qV (x := .bool true) (W := K.w e) func62 ?_ ?_
 ·walk_nrm
  exact hh
 walk_nrm
 clear hh
 refine Aa z53 ?_
 refine qV (x := .tuple #[.pointer (some ⟨sb, ix * 2, none⟩), .int .i64 la]) (W := K.w e) func111 ?_ ?_
 ·walk_nrm
  exact ha
 walk_nrm
 clear ha
 refine Aa z53 ?_
 refine Bi (K := K.toLb) (e := e) (l := fr :: l) (f := 57) (Q := fun _ e' => ∃ s : Rg, Wrote K e (.p1 q v) s (Cj s ix (la - 1)) e') ?_ Ah (by rfl) (by decide) rfl func57 (by kernel_rfl) (by rfl) ⟨rfl, rfl, _, func53⟩ (Bc hp hl) ?_
 ·walk_nrm
  exact w1
 rintro x e1 ⟨s1, hs1⟩
 have g1 := h1 e1 s1 hs1
 unfold LW
 walk_nrm
 refine Aa z53 ?_
 refine Bi (K := K.toLb) (e := e1) (l := fr :: l) (f := 57) (Q := fun _ e' => ∃ s : Rg, Wrote K e1 (.p2 q v) s (Fa s ix v) e') ?_ Ah (by rfl) (by decide) rfl func57 (by kernel_rfl) (by rfl) ⟨rfl, rfl, _, func53⟩ (Bc hp hl) ?_
 ·walk_nrm
  exact w2 e1 g1
 rintro x2 e2 ⟨s2, hs2⟩
 have g2 := h2 e1 e2 s2 hs2
 unfold LW
 walk_nrm
 refine Aa z53 ?_
 refine Bi (K := K.toLb) (e := e2) (l := fr :: l) (f := 57) (Q := fun _ e' => ∃ s : Rg, Wrote K e2 (.p3 q) s (Cj s ix la) e') ?_ Ah (by rfl) (by decide) rfl func57 (by kernel_rfl) (by rfl) ⟨rfl, rfl, _, func53⟩ (Bc hp hl) ?_
 ·walk_nrm
  exact w3 e2 g2
 rintro x3 e3 ⟨s3, hs3⟩
 have hkk := hk (.int .i64 0) e3 ⟨rfl, h3 e2 e3 s3 hs3⟩
 unfold LW at hkk ⊢
 walk_nrm
 refine Aa z53 ?_
 exact Bk rfl rfl func53 rfl hkk
end
noncomputable def reg54_0 := rk f54.body 0
noncomputable def reg54_1 := rk f54.body 1
noncomputable def reg54_2 := rk f54.body 2
noncomputable def reg54_3 := rk f54.body 3
noncomputable def reg54_4 := rk f54.body 4
noncomputable def reg54_5 := rk f54.body 5
noncomputable def reg54_6 := rk f54.body 6
noncomputable def reg54_7 := rk f54.body 7
noncomputable def reg54_8 := rk f54.body 8
noncomputable def reg54_9 := rk f54.body 9
noncomputable def reg54_10 := rk f54.body 10
noncomputable def reg54_11 := rk f54.body 11
noncomputable def reg54_12 := rk f54.body 12
theorem z54 : reg54_0.size = 2 /\ reg54_1.size = 4 /\ reg54_2.size = 2 /\ reg54_3.size = 8 /\ reg54_4.size = 6 /\ reg54_5.size = 4 /\ reg54_6.size = 2 /\ reg54_7.size = 4 /\ reg54_8.size = 2 /\ reg54_9.size = 6 /\ reg54_10.size = 7 /\ reg54_11.size = 2 /\ reg54_12.size = 3 := by and_intros <;> kernel_rfl
theorem code54_is : f54.body = some (.seq (.region 0 reg54_0 false) (.seq (.seq (.region 1 reg54_1 false) (.cond (.tmp 15 ) (.seq (.region 2 reg54_2 false) (.ret)) (.skip))) (.seq (.region 3 reg54_3 false) (.seq (.seq (.region 4 reg54_4 false) (.block 0 (.seq (.region 5 reg54_5 false) (.cond (.tmp 27 ) (.seq (.region 6 reg54_6 false) (.ret)) (.seq (.region 7 reg54_7 false) (.cond (.tmp 31 ) (.seq (.region 8 reg54_8 false) (.ret)) (.skip))))))) (.seq (.region 9 reg54_9 false) (.seq (.seq (.region 10 reg54_10 false) (.cond (.tmp 46 ) (.seq (.region 11 reg54_11 false) (.ret)) (.skip))) (.seq (.region 12 reg54_12 false) (.ret)))))))) := by kernel_rfl
section
variable {rb sb n : Nat} {sv : Value}
def GetOut (K : Lg (Br rb sb n) sv) (E6 E10 : Ans ⊕ RD) (F : Int -> Ans ⊕ RD) (v : Value) (e' : K.E) : Prop := ∃ a er, v = .tuple #[.int .i64 a, .int .i64 er] /\ ((er = 6 /\ K.tgt e' = (K.s e', E6)) ∨ (er = 10 /\ K.tgt e' = (K.s e', E10)) ∨ (er = 0 /\ K.tgt e' = (K.s e', F a)))
theorem get_s (K : Lg (Br rb sb n) sv) (e : K.E) (q : Int) (hq : good q) (d1 d2 : RD) (d3 : Int -> RD) (E6 E10 : Ans ⊕ RD) (F : Int -> Ans ⊕ RD) (a1 : ∀ s : Rg, Bd n s d1 = (s, if s.st (Bl n q) < Bx n q then E6 else if Bx n q < s.st (Bl n q) then E10 else .inr d2)) (a2 : ∀ s : Rg, Bd n s d2 = (s, .inr (d3 (s.va (Bl n q))))) (a3 : ∀ (s : Rg) v, Bd n s (d3 v) = (s, if s.st (Bl n q) = Bx n q then F v else E10))
  (ht : K.tgt e = (K.s e, .inr d1)) : SCall K.toLb 54 #[.pointer (some ⟨rb, 0, none⟩), sv, .int .i64 q] e (GetOut K E6 E10 F) := by
 intro fr l hp hl hk
 have I := K.inv e
 have hh := Fg (main := K.main) (V := K.V e) (K.w e) I q hq
 have ha := at_w (main := K.main) (V := K.V e) (K.w e) I q hq
 have hix := Ll I.pos.1 q
 have w1 := Oc K (Bl n q) hix e d1 ht
 have w2 := fun (e1 : K.E) (h : K.tgt e1 = (K.s e1, .inr d2)) => load_vlu K (Bl n q) hix e1 d2 h
 have w3 := fun (e1 : K.E) (v : Int) (h : K.tgt e1 = (K.s e1, .inr (d3 v))) => Oc K (Bl n q) hix e1 (d3 v) h
 generalize Bl n q = ix at *
 generalize Bx n q = la at *
 unfold LW
 clear I
 rw [enter_at _ func54 code54_is]
 simp only [ntmps54, ez, Nat.reduceAdd, Nat.reduceSub]
 refine Aa z54 ?_
 refine qV (x := .bool true) (W := K.w e) func62 ?_ ?_
 ·walk_nrm
  exact hh
 walk_nrm
 clear hh
 refine Aa z54 ?_
 refine qV (x := .tuple #[.pointer (some ⟨sb, ix * 2, none⟩), .int .i64 la]) (W := K.w e) func111 ?_ ?_
 ·walk_nrm
  exact ha
 walk_nrm
 clear ha
 refine Aa z54 ?_
 refine Bi (K := K.toLb) (e := e) (l := fr :: l) (f := 90) (Q := fun v e' => Aft K.toLb e d1 e' /\ v = .int .i64 ((K.s e' : Rg).st ix)) ?_ Ah (by rfl) (by decide) rfl func90 (by kernel_rfl) (by rfl) ⟨rfl, rfl, _, func54⟩ (Bc hp hl) ?_
 ·walk_nrm
  exact w1
 rintro v e1 ⟨ha, rfl⟩
 have t1 : K.tgt e1 = (K.s e1, if (K.s e1 : Rg).st ix < la then E6 else if la < (K.s e1 : Rg).st ix then E10 else .inr d2) := ha.tgt.trans (a1 _)
 generalize (K.s e1 : Rg).st ix = x at *
 clear w1 ht a1
 by_cases h1 : x < la
 ·rw [if_pos h1] at t1
  have hkk := hk (.tuple #[.int .i64 0, .int .i64 6]) e1 ⟨0, 6, rfl, .inl ⟨rfl, t1⟩⟩
  have h1' : decide (x < la) = true := by simp [h1]
  unfold LW at hkk ⊢
  walk_nrm
  refine Aa z54 ?_
  exact Cb rfl rfl func54 rfl hkk
 rw [if_neg h1] at t1
 have h1' : decide (x < la) = false := by simp [h1]
 have h1i : la <= x := by omega
 by_cases h2 : la < x
 ·rw [if_pos h2] at t1
  have hkk := hk (.tuple #[.int .i64 0, .int .i64 10]) e1 ⟨0, 10, rfl, .inr (.inl ⟨rfl, t1⟩)⟩
  have h2' : decide (la < x) = true := by simp [h2]
  unfold LW at hkk ⊢
  walk_nrm
  refine Aa z54 ?_
  exact Cb rfl rfl func54 rfl hkk
 rw [if_neg h2] at t1
 have h2' : decide (la < x) = false := by simp [h2]
 have h2i : x <= la := by omega
 have w2 := w2 e1 t1
 unfold LW
 walk_nrm
 refine Aa z54 ?_
 refine Bi (K := K.toLb) (e := e1) (l := fr :: l) (f := 90) (Q := fun v e' => Aft K.toLb e1 d2 e' /\ v = .int .i64 ((K.s e' : Rg).va ix)) ?_ Ah (by rfl) (by decide) rfl func90 (by kernel_rfl) (by rfl) ⟨rfl, rfl, _, func54⟩ (Bc hp hl) ?_
 ·walk_nrm
  exact w2
 rintro v e2 ⟨ha2, rfl⟩
 have t2 : K.tgt e2 = (K.s e2, .inr (d3 ((K.s e2 : Rg).va ix))) := ha2.tgt.trans (a2 _)
 generalize (K.s e2 : Rg).va ix = y at *
 have w3 := w3 e2 y t2
 clear w2 a2 h1' h2'
 unfold LW
 walk_nrm
 refine Aa z54 ?_
 refine Bi (K := K.toLb) (e := e2) (l := fr :: l) (f := 90) (Q := fun v e' => Aft K.toLb e2 (d3 y) e' /\ v = .int .i64 ((K.s e' : Rg).st ix)) ?_ Ah (by rfl) (by decide) rfl func90 (by kernel_rfl) (by rfl) ⟨rfl, rfl, _, func54⟩ (Bc hp hl) ?_
 ·walk_nrm
  exact w3
 rintro v e3 ⟨ha3, rfl⟩
 have t3 : K.tgt e3 = (K.s e3, if (K.s e3 : Rg).st ix = la then F y else E10) := ha3.tgt.trans (a3 _ _)
 generalize (K.s e3 : Rg).st ix = z at *
 clear w3 a3
 by_cases h3 : z = la
 ·rw [if_pos h3] at t3
  have hkk := hk (.tuple #[.int .i64 y, .int .i64 0]) e3 ⟨y, 0, rfl, .inr (.inr ⟨rfl, t3⟩)⟩
  have h3' : (z != la) = false := by simp [h3]
  have h3'' : (z == la) = true := by simp [h3]
  unfold LW at hkk ⊢
  walk_nrm
  refine Aa z54 ?_
  exact Cb rfl rfl func54 rfl hkk
 ·rw [if_neg h3] at t3
  have hkk := hk (.tuple #[.int .i64 0, .int .i64 10]) e3 ⟨0, 10, rfl, .inr (.inl ⟨rfl, t3⟩)⟩
  have h3' : (z != la) = true := by simp [h3]
  have h3'' : (z == la) = false := by simp [h3]
  unfold LW at hkk ⊢
  walk_nrm
  refine Aa z54 ?_
  exact Cb rfl rfl func54 rfl hkk
end
noncomputable def reg55_0 := rk f55.body 0
noncomputable def reg55_1 := rk f55.body 1
noncomputable def reg55_2 := rk f55.body 2
noncomputable def reg55_3 := rk f55.body 3
noncomputable def reg55_4 := rk f55.body 4
noncomputable def reg55_5 := rk f55.body 5
noncomputable def reg55_6 := rk f55.body 6
noncomputable def reg55_7 := rk f55.body 7
noncomputable def reg55_9 := rk f55.body 9
noncomputable def reg55_10 := rk f55.body 10
noncomputable def reg55_8 := rk f55.body 8
noncomputable def reg55_11 := rk f55.body 11
theorem z55 : reg55_0.size = 1 /\ reg55_1.size = 3 /\ reg55_2.size = 2 /\ reg55_3.size = 10 /\ reg55_4.size = 3 /\ reg55_5.size = 8 /\ reg55_6.size = 2 /\ reg55_7.size = 3 /\ reg55_8.size = 3 /\ reg55_9.size = 5 /\ reg55_10.size = 3 /\ reg55_11.size = 2 := by and_intros <;> kernel_rfl
theorem code55_is : f55.body = some (.seq (.region 0 reg55_0 false) (.seq (.block 0 (.seq (.region 1 reg55_1 false) (.cond (.tmp 11 ) (.seq (.region 2 reg55_2 false) (.ret)) (.seq (.region 3 reg55_3 false) (.cond (.tmp 15 ) (.seq (.region 4 reg55_4 false) (.ret)) (.skip)))))) (.seq (.region 5 reg55_5 false) (.seq (.seq (.region 6 reg55_6 false) (.block 1 (.loop (.seq (.seq (.region 7 reg55_7 false) (.cond (.tmp 37 ) (.skip) (.exit 1))) (.seq (.block 2 (.seq (.region 9 reg55_9 false) (.cond (.tmp 44 ) (.seq (.region 10 reg55_10 false) (.ret)) (.skip)))) (.region 8 reg55_8 false)))))) (.seq (.region 11 reg55_11 false) (.ret)))))) := by kernel_rfl
noncomputable def hdHi (rb : Nat) (sv : Value) (a b m q : Int) (u : Nat -> Value) : Frame :=
 (base 55).at { tmps := #[.pointer (some ⟨rb, 0, none⟩), sv, .int .i64 a, .int .i64 b, u 4, u 5, u 6, u 7, u 8, .int .i64 m, .int .i64 q, u 11, u 12, u 13, u 14, u 15, u 16, u 17, u 18, u 19, u 20, u 21, u 22, u 23, u 24, u 25, u 26, u 27, u 28, u 29, u 30, u 31, u 32, u 33, u 34, u 35, u 36, u 37, u 38, u 39, u 40, u 41, u 42, u 43, u 44, u 45, u 46, u 47], defers := [] } [.code (.seq (.seq (.region 7 reg55_7 false) (.cond (.tmp 37 ) (.skip) (.exit 1))) (.seq (.block 2 (.seq (.region 9 reg55_9 false) (.cond (.tmp 44 ) (.seq (.region 10 reg55_10 false) (.ret)) (.skip)))) (.region 8 reg55_8 false))), .inLoop (.seq (.seq (.region 7 reg55_7 false) (.cond (.tmp 37 ) (.skip) (.exit 1))) (.seq (.block 2 (.seq (.region 9 reg55_9 false) (.cond (.tmp 44 ) (.seq (.region 10 reg55_10 false) (.ret)) (.skip)))) (.region 8 reg55_8 false))), .inBlock 1, .code (.seq (.region 11 reg55_11 false) (.ret))]
theorem ev_min3 {P : Program} {w : World} (ts : Array TypeId) (t : TypeId) (x y z : Int) (es : Array Event) : (Builtin.min_ ts t #[.int .i64 x, .int .i64 y, .int .i64 z]).events P w es = es := by
 simp [Builtin.min_, Builtin.min2]
theorem run_min3 {P : Program} {w : World} (ts : Array TypeId) (t : TypeId) (x y z : Int) : (Builtin.min_ ts t #[.int .i64 x, .int .i64 y, .int .i64 z]).run P w = .ok (.int .i64 (min (min x y) z)) w := by
 simp [Builtin.min_, Builtin.min2]
 repeat' split
 all_goals omega
def hiD (n : Nat) (a b : Int) : Ans ⊕ RD := if a = -9223372036854775808 then .inl ⟨true, a, []⟩ else if good a /\ a <= b then .inr (.h a (min b (min 4611686018427387903 (a + n - 1)))) else .inl ⟨true, IntKind.i64.wrap (a - 1), []⟩
section
variable {rb sb n : Nat} {sv : Value}
def Pk (K : Lg (Br rb sb n) sv) (v : Value) (e' : K.E) : Prop := ∃ x, v = .int .i64 x /\ K.tgt e' = (K.s e', .inl ⟨true, x, []⟩)
theorem hi_out (K : Lg (Br rb sb n) sv) (a b m q : Int) (hq : m < q) (fr : Frame) (l : List Frame) (hk : ∀ x e', Pk K x e' -> LW K.toLb e' (G (fr.finish x) (l ++ K.bot e'))) (e : K.E) (u : Nat -> Value) (ht : K.tgt e = (K.s e, .inl ⟨true, m, []⟩)) : LW K.toLb e (G (hdHi rb sv a b m q u) (fr :: (l ++ K.bot e))) := by
 have hkk := hk (.int .i64 m) e ⟨m, rfl, ht⟩
 have h1 : decide (q <= m) = false := by simp; omega
 unfold LW at hkk ⊢
 unfold hdHi
 refine Aa z55 ?_
 exact Bk rfl rfl func55 rfl hkk
theorem hi_round (K : Lg (Br rb sb n) sv) (a b m q : Int) (hq : good q) (hqm : q <= m) (hm : m < 4611686018427387904) (fr : Frame) (l : List Frame) (hp : Cf fr) (hl : ∀ f ∈ l, Cf f) (hk : ∀ x e', Pk K x e' -> LW K.toLb e' (G (fr.finish x) (l ++ K.bot e'))) (e : K.E) (u : Nat -> Value) (ht : K.tgt e = (K.s e, .inr (.h q m)))
  (ih : ∀ (e' : K.E) (u' : Nat -> Value), K.tgt e' = (K.s e', if q < m then .inr (.h (q + 1) m) else .inl ⟨true, m, []⟩) -> LW K.toLb e' (G (hdHi rb sv a b m (q + 1) u') (fr :: (l ++ K.bot e')))) :
  LW K.toLb e (G (hdHi rb sv a b m q u) (fr :: (l ++ K.bot e))) := by
 have hth := there_s K e q hq (.h q m) ht
 have h1 : decide (q <= m) = true := by simp [hqm]
 have hq1 := hq.1
 have hw1 : IntKind.wrap .i64 (q + 1) = q + 1 := by rw [IntKind.wrap_i64]; omega
 have hw2 : IntKind.wrap .i64 (q - 1) = q - 1 := by rw [IntKind.wrap_i64]; omega
 unfold LW hdHi
 refine Aa z55 ?_
 refine Bi (K := K.toLb) (e := e) (l := fr :: l) (f := 56) (Q := fun v e' => Aft K.toLb e (.h q m) e' /\ v = .bool (decide ((K.s e' : Rg).st (Bl n q) = Bx n q))) ?_ Ah (by rfl) (by decide) rfl func56 (by kernel_rfl) (by rfl) ⟨rfl, rfl, _, func55⟩ (Bc hp hl) ?_
 ·walk_nrm
  exact hth
 rintro v e1 ⟨ha, rfl⟩
 have t1 : K.tgt e1 = (K.s e1, if (K.s e1 : Rg).st (Bl n q) = Bx n q then (if q < m then .inr (.h (q + 1) m) else .inl ⟨true, m, []⟩) else .inl ⟨true, q - 1, []⟩) := ha.tgt
 generalize (K.s e1 : Rg).st (Bl n q) = x at *
 generalize Bx n q = la at *
 clear hth ht
 by_cases h : x = la
 ·rw [if_pos h] at t1
  have hih := fun u => ih e1 u t1
  clear ih hk
  simp only [h, decide_true]
  unfold LW at hih ⊢
  walk_nrm
  refine Aa z55 ?_
  refine cIL ?_
  refine Fm (F := fun u => G (hdHi rb sv a b m (q + 1) u) (fr :: (l ++ K.bot e1))) hih ?_
  simp only [hdHi]
  rfl
 ·rw [if_neg h] at t1
  have hkk := hk (.int .i64 (q - 1)) e1 ⟨q - 1, rfl, t1⟩
  clear ih hk
  simp only [h, decide_false]
  unfold LW at hkk ⊢
  walk_nrm
  refine Aa z55 ?_
  exact Bk rfl rfl func55 rfl hkk
theorem hi_loop (K : Lg (Br rb sb n) sv) (a b m : Int) (hm : m < 4611686018427387904) (fr : Frame) (l : List Frame) (hp : Cf fr) (hl : ∀ f ∈ l, Cf f) (hk : ∀ x e', Pk K x e' -> LW K.toLb e' (G (fr.finish x) (l ++ K.bot e'))) :
  ∀ (r : Nat) (q : Int) (e : K.E) (u : Nat -> Value), 0 <= q -> q <= m -> (m - q).toNat = r -> K.tgt e = (K.s e, .inr (.h q m)) -> LW K.toLb e (G (hdHi rb sv a b m q u) (fr :: (l ++ K.bot e))) := by
 intro r
 induction r with
 | zero =>
  intro q e u h0 hqm hr ht
  refine hi_round K a b m q ⟨h0, by omega⟩ hqm hm fr l hp hl hk e u ht fun e' u' ht' => ?_
  rw [if_neg (by omega)] at ht'
  exact hi_out K a b m (q + 1) (by omega) fr l hk e' u' ht'
 | succ r ih =>
  intro q e u h0 hqm hr ht
  refine hi_round K a b m q ⟨h0, by omega⟩ hqm hm fr l hp hl hk e u ht fun e' u' ht' => ?_
  rw [if_pos (by omega)] at ht'
  exact ih (q + 1) e' u' (by omega) (by omega) (by omega) ht'
theorem Lm (K : Lg (Br rb sb n) sv) (e : K.E) (a b : Int) (ht : K.tgt e = (K.s e, hiD n a b)) : SCall K.toLb 55 #[.pointer (some ⟨rb, 0, none⟩), sv, .int .i64 a, .int .i64 b] e (Pk K) := by
 intro fr l hp hl hk
 have hmn := @ev_min3 prog
 have hmr := @run_min3 prog
 have I := K.inv e
 have hn := I.pos
 have hsz := Gw (main := K.main) (V := K.V e) (K.w e) I
 have hyes := Fg (main := K.main) (V := K.V e) (K.w e) I a
 have hno := Fq (main := K.main) (V := K.V e) (.pointer (some ⟨rb, 0, none⟩)) (K.w e) a
 clear I
 unfold LW
 rw [enter_at _ func55 code55_is]
 simp only [ntmps55, ez, Nat.reduceAdd, Nat.reduceSub]
 by_cases h1 : a = -9223372036854775808
 ·subst h1
  unfold hiD at ht
  rw [if_pos rfl] at ht
  have hkk := hk (.int .i64 (-9223372036854775808)) e ⟨_, rfl, ht⟩
  unfold LW at hkk
  refine Aa z55 ?_
  exact Bk rfl rfl func55 rfl hkk
 unfold hiD at ht
 rw [if_neg h1] at ht
 have h1' : (a == -9223372036854775808) = false := by simp [h1]
 refine Aa z55 ?_
 by_cases h2 : good a
 ·refine qV (x := .bool true) (W := K.w e) func62 ?_ ?_
  ·walk_nrm
   exact hyes h2
  walk_nrm
  clear hyes hno
  by_cases h3 : a <= b
  ·rw [if_pos ⟨h2, h3⟩] at ht
   have hq := h2.1
   have hq2 := h2.2
   have hw2 : IntKind.wrap .i64 (a + (n : Int)) = a + n := by rw [IntKind.wrap_i64]; omega
   have hw3 : IntKind.wrap .i64 (a + (n : Int) - 1) = a + n - 1 := by rw [IntKind.wrap_i64]; omega
   have h3' : decide (b < a) = false := by simp; omega
   have hlp := fun u => hi_loop K a b (min b (min 4611686018427387903 (a + n - 1))) (by omega) fr l hp hl hk _ a e u hq (by omega) rfl ht
   generalize hmm : min b (min 4611686018427387903 (a + n - 1)) = m at *
   have hm1 : min (min b 4611686018427387903) (a + n - 1) = m := by omega
   refine Aa z55 ?_
   refine qV (x := .int .i64 (n : Nat)) (W := K.w e) func17 ?_ ?_
   ·walk_nrm
    exact hsz
   walk_nrm
   clear hsz
   refine Aa z55 ?_
   refine cLp ?_
   unfold LW at hlp
   refine Fm (F := fun u => G (hdHi rb sv a b m a u) (fr :: (l ++ K.bot e))) hlp ?_
   simp only [hdHi, hm1, hmm]
   rfl
  ·rw [if_neg fun h => h3 h.2] at ht
   have hkk := hk (.int .i64 (IntKind.i64.wrap (a - 1))) e ⟨_, rfl, ht⟩
   have h3' : decide (b < a) = true := by simp; omega
   unfold LW at hkk
   refine Aa z55 ?_
   exact Bk rfl rfl func55 rfl hkk
 ·refine qV (x := .bool false) (W := K.w e) func62 ?_ ?_
  ·walk_nrm
   exact hno h2
  walk_nrm
  rw [if_neg fun h => h2 h.1] at ht
  have hkk := hk (.int .i64 (IntKind.i64.wrap (a - 1))) e ⟨_, rfl, ht⟩
  unfold LW at hkk
  refine Aa z55 ?_
  exact Bk rfl rfl func55 rfl hkk
end
noncomputable def reg61_0 := rk f61.body 0
noncomputable def reg61_1 := rk f61.body 1
noncomputable def reg61_2 := rk f61.body 2
noncomputable def reg61_3 := rk f61.body 3
noncomputable def reg61_4 := rk f61.body 4
noncomputable def reg61_5 := rk f61.body 5
noncomputable def reg61_7 := rk f61.body 7
noncomputable def reg61_8 := rk f61.body 8
noncomputable def reg61_9 := rk f61.body 9
noncomputable def reg61_10 := rk f61.body 10
noncomputable def reg61_6 := rk f61.body 6
noncomputable def reg61_11 := rk f61.body 11
theorem z61 : reg61_0.size = 2 /\ reg61_1.size = 4 /\ reg61_2.size = 2 /\ reg61_3.size = 1 /\ reg61_4.size = 7 /\ reg61_5.size = 12 /\ reg61_6.size = 3 /\ reg61_7.size = 3 /\ reg61_8.size = 5 /\ reg61_9.size = 4 /\ reg61_10.size = 3 /\ reg61_11.size = 3 := by and_intros <;> kernel_rfl
theorem code61_is : f61.body = some (.seq (.region 0 reg61_0 false) (.seq (.seq (.region 1 reg61_1 false) (.cond (.tmp 16 ) (.seq (.region 2 reg61_2 false) (.ret)) (.skip))) (.seq (.region 3 reg61_3 false) (.seq (.block 0 (.loop (.seq (.seq (.region 4 reg61_4 false) (.cond (.tmp 23 ) (.skip) (.exit 0))) (.block 1 (.seq (.region 5 reg61_5 false) (.block 2 (.seq (.region 7 reg61_7 false) (.cond (.tmp 35 ) (.region 8 reg61_8 false) (.seq (.region 9 reg61_9 false) (.cond (.tmp 42 ) (.seq (.region 10 reg61_10 false) (.ret)) (.seq (.region 6 reg61_6 false) (.ret)))))))))))) (.seq (.region 11 reg61_11 false) (.ret)))))) := by kernel_rfl
noncomputable def hdGa (rb : Nat) (sv al : Value) (a m : Int) (u : Nat -> Value) : Frame :=
 (base 61).at { tmps := #[.pointer (some ⟨rb, 0, none⟩), sv, .int .i64 a, .int .i64 m, u 4, u 5, u 6, u 7, .slice none 0 0, .int .i64 0, al, u 11, u 12, u 13, u 14, u 15, u 16, u 17, u 18, u 19, u 20, u 21, u 22, u 23, u 24, u 25, u 26, u 27, u 28, u 29, u 30, u 31, u 32, u 33, u 34, u 35, u 36, u 37, u 38, u 39, u 40, u 41, u 42, u 43, u 44, u 45, u 46, u 47], defers := [] } [.code (.seq (.seq (.region 4 reg61_4 false) (.cond (.tmp 23 ) (.skip) (.exit 0))) (.block 1 (.seq (.region 5 reg61_5 false) (.block 2 (.seq (.region 7 reg61_7 false) (.cond (.tmp 35 ) (.region 8 reg61_8 false) (.seq (.region 9 reg61_9 false) (.cond (.tmp 42 ) (.seq (.region 10 reg61_10 false) (.ret)) (.seq (.region 6 reg61_6 false) (.ret)))))))))), .inLoop (.seq (.seq (.region 4 reg61_4 false) (.cond (.tmp 23 ) (.skip) (.exit 0))) (.block 1 (.seq (.region 5 reg61_5 false) (.block 2 (.seq (.region 7 reg61_7 false) (.cond (.tmp 35 ) (.region 8 reg61_8 false) (.seq (.region 9 reg61_9 false) (.cond (.tmp 42 ) (.seq (.region 10 reg61_10 false) (.ret)) (.seq (.region 6 reg61_6 false) (.ret)))))))))), .inBlock 0, .code (.seq (.region 11 reg61_11 false) (.ret))]
theorem get_no {main : Bool} {V : Nat -> Option Wait} (r sv : Value) (q : Int) (hq : ¬ good q) (w : World) : Aw prog main V 54 #[r, sv, .int .i64 q] w (.tuple #[.int .i64 0, .int .i64 1]) w := by
 have hno := Fq (main := main) (V := V) r w q hq
 refine Aq func54 code54_is fun fr cs => ?_
 simp only [ntmps54, ez, Nat.reduceAdd, Nat.reduceSub]
 refine Aa z54 ?_
 refine qV (x := .bool false) (W := w) func62 ?_ ?_
 ·walk_nrm
  exact hno
 walk_nrm
 refine Aa z54 ?_
 exact Cb rfl rfl func54 rfl (.stop fun d => ⟨_, ⟨rfl, d, rfl⟩, rfl⟩)
def GatL {L : La} {sv : Value} (K : Lg L sv) (e : K.E) (sl : Value) (ls : List Int) : Prop := (∃ a c, sl = .slice a ls.length c) /\ (K.w e).ownsRow 0 2 1 sl ls.length (ls.map fun z => .int .i64 z) /\ ∀ b, sl.ownBlock = some b -> K.mine e b
def gaD (n : Nat) (a : Int) (m : Int) (ls : List Int) : Ans ⊕ RD := if (ls.length : Int) < m /\ good (a + ls.length) then .inr (.a1 (a + ls.length) m ls) else .inl ⟨true, 0, ls⟩
section
variable {rb sb n : Nat} {sv : Value}
def Oy (K : Lg (Br rb sb n) sv) (v : Value) (e' : K.E) : Prop := ∃ sl er ls, v = .tuple #[sl, .int .i64 er] /\ GatL K e' sl ls /\ ls.length <= 65536 /\ K.tgt e' = (K.s e', .inl ⟨er == 0, er, ls⟩)
theorem ga_out (K : Lg (Br rb sb n) sv) (a mo m : Int) (hmo : min mo n = m) (fr : Frame) (l : List Frame) (hk : ∀ x e', Oy K x e' -> LW K.toLb e' (G (fr.finish x) (l ++ K.bot e'))) (sl : Value) (ls : List Int) (e : K.E) (u : Nat -> Value) (hm : m <= ls.length) (h6 : ls.length <= 65536) (hL : GatL K e sl ls) (ht : K.tgt e = (K.s e, .inl ⟨true, 0, ls⟩)) : LW K.toLb e (G (hdGa rb sv sl a mo u) (fr :: (l ++ K.bot e))) := by
 have hmn := @By prog
 have hkk := hk (.tuple #[sl, .int .i64 0]) e ⟨sl, 0, ls, rfl, hL, h6, ht⟩
 have hsz := Gw (main := K.main) (V := K.V e) (K.w e) (K.inv e)
 obtain ⟨⟨sa, sc, rfl⟩, _, _⟩ := hL
 have h1 : decide ((ls.length : Int) < m) = false := by simp; omega
 generalize ls.length = j at *
 unfold LW at hkk ⊢
 unfold hdGa
 refine Aa z61 ?_
 refine qV (x := .int .i64 (n : Nat)) (W := K.w e) func17 ?_ ?_
 ·walk_nrm
  exact hsz
 walk_nrm
 refine Aa z61 ?_
 exact Cb rfl rfl func61 rfl hkk
end
end Go.Proofs.Ytflcclneedldoaa
