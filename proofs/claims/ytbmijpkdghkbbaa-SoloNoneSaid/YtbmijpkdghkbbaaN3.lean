/- Part 3. -/
import Derived.Test.YtbmijpkdghkbbaaN1
set_option linter.unusedSimpArgs false
set_option linter.unusedVariables false
set_option maxHeartbeats 8000000
set_option maxRecDepth 100000
namespace Go.Proofs.Ytbmijpkdghkbbaa
open Go.Conc Go.RowKit Go.Relay
open Go.ConcN (upd upd_ne upd_same)
section
noncomputable def reg89_0 : Array Oper := match Try.f89.body with | some (.seq (.region _ ops _) _) => ops | _ => #[]
theorem size89_0 : reg89_0.size = 6 := by kernel_rfl
noncomputable def reg89_1 : Array Oper := match Try.f89.body with | some (.seq _ (.region _ ops _)) => ops | _ => #[]
theorem size89_1 : reg89_1.size = 5 := by kernel_rfl
theorem code89_is : Try.f89.body = some (.seq (.region 0 reg89_0 false) (.region 1 reg89_1 false)) := by kernel_rfl
noncomputable def reg54_0 : Array Oper := match Try.f54.body with | some (.seq (.region _ ops _) _) => ops | _ => #[]
theorem size54_0 : reg54_0.size = 2 := by kernel_rfl
noncomputable def reg54_1 : Array Oper := match Try.f54.body with | some (.seq _ (.seq (.region _ ops _) _)) => ops | _ => #[]
theorem size54_1 : reg54_1.size = 4 := by kernel_rfl
noncomputable def reg54_2 : Array Oper := match Try.f54.body with | some (.seq _ (.seq _ (.seq (.seq (.region _ ops _) _) _))) => ops | _ => #[]
theorem size54_2 : reg54_2.size = 2 := by kernel_rfl
noncomputable def reg54_3 : Array Oper := match Try.f54.body with | some (.seq _ (.seq _ (.seq (.seq _ (.cond _ (.seq (.region _ ops _) _) _)) _))) => ops | _ => #[]
theorem size54_3 : reg54_3.size = 2 := by kernel_rfl
noncomputable def reg54_4 : Array Oper := match Try.f54.body with | some (.seq _ (.seq _ (.seq _ (.seq (.region _ ops _) _)))) => ops | _ => #[]
theorem size54_4 : reg54_4.size = 6 := by kernel_rfl
noncomputable def reg54_5 : Array Oper := match Try.f54.body with | some (.seq _ (.seq _ (.seq _ (.seq _ (.seq (.seq (.region _ ops _) _) _))))) => ops | _ => #[]
theorem size54_5 : reg54_5.size = 7 := by kernel_rfl
noncomputable def reg54_6 : Array Oper := match Try.f54.body with | some (.seq _ (.seq _ (.seq _ (.seq _ (.seq (.seq _ (.cond _ (.seq (.region _ ops _) _) _)) _))))) => ops | _ => #[]
theorem size54_6 : reg54_6.size = 2 := by kernel_rfl
noncomputable def reg54_7 : Array Oper := match Try.f54.body with | some (.seq _ (.seq _ (.seq _ (.seq _ (.seq _ (.seq (.region _ ops _) _)))))) => ops | _ => #[]
theorem size54_7 : reg54_7.size = 12 := by kernel_rfl
noncomputable def reg54_8 : Array Oper := match Try.f54.body with | some (.seq _ (.seq _ (.seq _ (.seq _ (.seq _ (.seq _ (.seq (.seq (.region _ ops _) _) _))))))) => ops | _ => #[]
theorem size54_8 : reg54_8.size = 2 := by kernel_rfl
noncomputable def reg54_9 : Array Oper := match Try.f54.body with | some (.seq _ (.seq _ (.seq _ (.seq _ (.seq _ (.seq _ (.seq (.seq _ (.cond _ (.seq (.region _ ops _) _) _)) _))))))) => ops | _ => #[]
theorem size54_9 : reg54_9.size = 3 := by kernel_rfl
noncomputable def reg54_10 : Array Oper := match Try.f54.body with | some (.seq _ (.seq _ (.seq _ (.seq _ (.seq _ (.seq _ (.seq _ (.seq (.region _ ops _) _)))))))) => ops | _ => #[]
theorem size54_10 : reg54_10.size = 4 := by kernel_rfl
noncomputable def reg54_11 : Array Oper := match Try.f54.body with | some (.seq _ (.seq _ (.seq _ (.seq _ (.seq _ (.seq _ (.seq _ (.seq _ (.seq (.region _ ops _) _))))))))) => ops | _ => #[]
theorem size54_11 : reg54_11.size = 3 := by kernel_rfl
theorem code54_is : Try.f54.body = some (.seq (.region 0 reg54_0 false) (.seq (.region 1 reg54_1 false) (.seq (.seq (.region 2 reg54_2 false) (.cond (.tmp 16 ) (.seq (.region 3 reg54_3 false) (.ret)) (.skip))) (.seq (.region 4 reg54_4 false) (.seq (.seq (.region 5 reg54_5 false) (.cond (.tmp 28 ) (.seq (.region 6 reg54_6 false) (.ret)) (.skip))) (.seq (.region 7 reg54_7 false) (.seq (.seq (.region 8 reg54_8 false) (.cond (.tmp 40 ) (.seq (.region 9 reg54_9 false) (.ret)) (.skip))) (.seq (.region 10 reg54_10 false) (.seq (.region 11 reg54_11 false) (.ret)))))))))) := by kernel_rfl
section
variable {rb sb n ob qb m : Nat} {sv : Value}
theorem SoI.plain {K : Lg (soLa rb sb n ob qb m) sv} (e : K.E) (s' : So) (b j : Nat) (v : Value) (hb : soSh rb sb ob qb b) (h : SoI rb sb n ob qb m s' ((K.w e).setCell ⟨b, j, none⟩ v)) : ∃ e', Mv K.toLb e e' s' ((K.w e).setCell ⟨b, j, none⟩ v) :=
  K.mv e s' _ (Nat.le_of_eq (size_set ..).symm) (fun x _ _ hs => heap_set_other _ _ _ _ fun he : x = b => hs (by rw [he]; exact hb)) h
theorem finish_s (K : Lg (soLa rb sb n ob qb m) sv) (e : K.E) (k : Nat) (hk : k < m) (q : Int) (hq : seqP q) (d : SoD) (a : Ans) (hd : ∀ s, soAct n m s d = (soFin s k q, .inl a)) (ht : K.tgt e = (K.s e, .inr d)) : SCall K.toLb 89 #[.pointer (some ⟨qb, k * 2, none⟩), sv, .int .i64 q] e (fun v e' => v = .tuple #[] ∧ K.tgt e' = (K.s e', .inl a)) := by
  intro fr l hp hl hk2
  have w1 := word_store K (numW k hk) e d q hq trivial ht
  unfold LW
  rw [enter_at _ Try.func89 code89_is]
  simp only [Try.ntmps89, List.size_toArray, List.length_cons, List.length_nil, Nat.reduceAdd, Nat.reduceSub, Array.replicate_succ, Array.replicate_zero, List.push_toArray, List.append_toArray, List.nil_append, List.cons_append]
  repeat (first | refine Walk.c rfl ?_ | refine Walk.cRet ?_ | refine Walk.cEnd ?_ | (refine Walk.cReg ?_; simp only [size89_0, size89_1, List.range, List.range.loop]) | (refine Walk.oq ?_; try walk_nrm) | (refine Walk.un ?_; walk_nrm))
  refine LW.callS (K := K.toLb) (e := e) (l := fr :: l) (f := 63) (Q := fun _ e' => ∃ s : So, Wrote K e d s (soNm s k q) e') ?_ (ho_of (by conv => lhs; whnf) (by kernel_rfl)) (by rfl) (by decide) rfl Try.func63 (by kernel_rfl) (by rfl) ⟨rfl, rfl, _, Try.func89⟩ (plain_cons hp hl) ?_
  · walk_nrm
    exact w1
  rintro x e1 ⟨s, hs⟩
  have I1 : SoI rb sb n ob qb m (soNm s k q) (K.w e1) := by have h := K.inv e1; rw [hs.s] at h; exact h
  have t1 : K.tgt e1 = (soFin s k q, .inl a) := hs.tgt.trans (hd s)
  obtain ⟨c1, z1⟩ := I1.rdP hk
  have hap := (K.shA e1 qb (.inr (.inr (.inr rfl)))).1 ⟨qb, k * 2 + 1, none⟩ rfl
  obtain ⟨e2, m2⟩ := SoI.plain e1 (soPl (soNm s k q) k q) qb (k * 2 + 1) (.int .i64 q) (.inr (.inr (.inr rfl))) (I1.setP hk hq)
  have t2 : K.tgt e2 = (K.s e2, .inl a) := by rw [m2.tgt, m2.s]; exact t1
  have hkk := hk2 (.tuple #[]) e2 ⟨rfl, t2⟩
  clear w1 I1
  unfold LW at hkk ⊢
  walk_nrm
  repeat (first | refine Walk.c rfl ?_ | refine Walk.cRet ?_ | refine Walk.cEnd ?_ | (refine Walk.cReg ?_; simp only [size89_0, size89_1, List.range, List.range.loop]) | (refine Walk.oq ?_; try walk_nrm) | (refine Walk.un ?_; walk_nrm))
  (refine Walk.os hap c1 ?_; try walk_nrm)
  refine LW.to (l := fr :: l) m2 ?_
  unfold LW
  repeat (first | refine Walk.c rfl ?_ | refine Walk.cRet ?_ | refine Walk.cEnd ?_ | (refine Walk.cReg ?_; simp only [size89_0, size89_1, List.range, List.range.loop]) | (refine Walk.oq ?_; try walk_nrm) | (refine Walk.un ?_; walk_nrm))
  exact Walk.on0 rfl rfl Try.func89 rfl hkk
def ErOut (K : Lg (soLa rb sb n ob qb m) sv) (v : Value) (e' : K.E) : Prop := ∃ a er, v = .tuple #[.int .i64 a, .int .i64 er] ∧ K.tgt e' = (K.s e', .inl ⟨er == 0, if er = 0 then a else er, []⟩) ∧ (er ≠ 0 → a = 0)
theorem read_s (K : Lg (soLa rb sb n ob qb m) sv) (e : K.E) (k : Nat) (hk : k < m) (ht : K.tgt e = (K.s e, .inr (.r0 k ((K.s e : So).pl k + 1)))) : SCall K.toLb 54 #[.pointer (some ⟨ob, 0, none⟩), sv, .int .i64 k] e (ErOut K) := by
  intro fr l hp hl hk2
  have I : SoI rb sb n ob qb m (K.s e) (K.w e) := K.inv e
  have hrd := reader_yes (main := K.main) (V := K.V e) (K.w e) I k hk
  have hpl := I.bd.pl k hk
  have c1 := (I.rdP hk).1
  have hp1 := fun w => run_eql_ptr (P := Try.prog) 161 undRdr (some ⟨qb, k * 2, none⟩) w
  have hp2 := fun w es => ev_eql_ptr (P := Try.prog) 161 undRdr (some ⟨qb, k * 2, none⟩) w es
  simp only [Option.isNone_some] at hp1
  generalize (K.s e : So).pl k = p at *
  obtain ⟨q, hq⟩ : ∃ q, p + 1 = q := ⟨_, rfl⟩
  rw [hq] at ht
  have hw1 : IntKind.wrap .i64 (p + 1) = q := by have := hpl.1; have := hpl.2; rw [IntKind.wrap_i64]; omega
  have hq0 : 0 ≤ q := by have := hpl.1; omega
  clear hq
  have w1 := word_load K curW e (.r0 k q) trivial ht
  unfold Wd.p at w1
  unfold LW
  clear I hpl
  rw [enter_at _ Try.func54 code54_is]
  simp only [Try.ntmps54, List.size_toArray, List.length_cons, List.length_nil, Nat.reduceAdd, Nat.reduceSub, Array.replicate_succ, Array.replicate_zero, List.push_toArray, List.append_toArray, List.nil_append, List.cons_append]
  repeat (first | refine Walk.c rfl ?_ | refine Walk.cRet ?_ | refine Walk.cEnd ?_ | (refine Walk.cReg ?_; simp only [size54_0, size54_1, size54_2, size54_3, size54_4, size54_5, size54_6, size54_7, size54_8, size54_9, size54_10, size54_11, List.range, List.range.loop]) | (refine Walk.oq ?_; try walk_nrm) | (refine Walk.un ?_; walk_nrm))
  refine Walk.callV (x := .pointer (some ⟨qb, k * 2, none⟩)) (W := K.w e) ?_ (ho_of (by conv => lhs; whnf) (by kernel_rfl)) (by rfl) (by decide) rfl Try.func88 (by kernel_rfl) (by rfl) ?_
  · walk_nrm
    exact hrd
  walk_nrm
  clear hrd
  repeat (first | refine Walk.c rfl ?_ | refine Walk.cRet ?_ | refine Walk.cEnd ?_ | (refine Walk.cReg ?_; simp only [size54_0, size54_1, size54_2, size54_3, size54_4, size54_5, size54_6, size54_7, size54_8, size54_9, size54_10, size54_11, List.range, List.range.loop]) | (refine Walk.oq ?_; try walk_nrm) | (refine Walk.un ?_; walk_nrm))
  clear c1 hw1
  refine LW.callS (K := K.toLb) (e := e) (l := fr :: l) (f := 73) (Q := fun v e' => Aft K.toLb e (.r0 k q) e' ∧ v = .int .i64 ((K.s e' : So).cur)) ?_ (ho_of (by conv => lhs; whnf) (by kernel_rfl)) (by rfl) (by decide) rfl Try.func73 (by kernel_rfl) (by rfl) ⟨rfl, rfl, _, Try.func54⟩ (plain_cons hp hl) ?_
  · walk_nrm
    exact w1
  rintro v e1 ⟨ha, rfl⟩
  have I1 : SoI rb sb n ob qb m (K.s e1) (K.w e1) := K.inv e1
  have hcu := I1.bd.cur
  have t1 : K.tgt e1 = (K.s e1, if (K.s e1 : So).cur < q then .inl ⟨false, 4, []⟩ else .inr (.r1 k q)) := ha.tgt
  have c0 : (K.w e1).cell? ⟨ob, 0, none⟩ = some (.pointer (some ⟨rb, 0, none⟩)) := (cell_of I1.ob 0).trans rfl
  generalize (K.s e1 : So).cur = x at *
  clear w1 I1
  by_cases h1 : x < q
  · rw [if_pos h1] at t1
    have hkk := hk2 (.tuple #[.int .i64 0, .int .i64 4]) e1 ⟨0, 4, rfl, t1, fun _ => rfl⟩
    have g1 : decide (x < q) = true := by simp [h1]
    unfold LW at hkk ⊢
    walk_nrm
    repeat (first | refine Walk.c rfl ?_ | refine Walk.cRet ?_ | refine Walk.cEnd ?_ | (refine Walk.cReg ?_; simp only [size54_0, size54_1, size54_2, size54_3, size54_4, size54_5, size54_6, size54_7, size54_8, size54_9, size54_10, size54_11, List.range, List.range.loop]) | (refine Walk.oq ?_; try walk_nrm) | (refine Walk.un ?_; walk_nrm))
    exact Walk.on2 rfl rfl Try.func54 rfl hkk
  rw [if_neg h1] at t1
  have g1 : decide (x < q) = false := by simp [h1]
  have hq1 : q < 4611686018427387904 := by have := hcu.2; omega
  have w2 := getG_s soRing K e1 q ⟨hq0, hq1⟩ (.r1 k q) (.r2 k q) (.r3 k q) (.inl ⟨false, 6, []⟩) (.inl ⟨false, 10, []⟩) (fun v => .inr (.r4 k q v)) (fun _ => rfl) (fun _ => rfl) (fun _ _ => rfl) t1
  unfold LW
  walk_nrm
  repeat (first | refine Walk.c rfl ?_ | refine Walk.cRet ?_ | refine Walk.cEnd ?_ | (refine Walk.cReg ?_; simp only [size54_0, size54_1, size54_2, size54_3, size54_4, size54_5, size54_6, size54_7, size54_8, size54_9, size54_10, size54_11, List.range, List.range.loop]) | (refine Walk.oq ?_; try walk_nrm) | (refine Walk.un ?_; walk_nrm))
  clear c0
  refine LW.callS (K := K.toLb) (e := e1) (l := fr :: l) (f := 34) (Q := GetOutG K (.inl ⟨false, 6, []⟩) (.inl ⟨false, 10, []⟩) (fun v => .inr (.r4 k q v))) ?_ (ho_of (by conv => lhs; whnf) (by kernel_rfl)) (by rfl) (by decide) rfl Try.func34 (by kernel_rfl) (by rfl) ⟨rfl, rfl, _, Try.func54⟩ (plain_cons hp hl) ?_
  · walk_nrm
    exact w2
  rintro v e2 ⟨a, er, rfl, hcase⟩
  clear w2 g1 t1
  have hcase' : (er ≠ 0 ∧ K.tgt e2 = (K.s e2, .inl ⟨false, er, []⟩)) ∨ (er = 0 ∧ K.tgt e2 = (K.s e2, .inr (.r4 k q a))) := by
    rcases hcase with ⟨h, h'⟩ | ⟨h, h'⟩ | ⟨h, h'⟩
    · exact .inl ⟨by omega, by rw [h]; exact h'⟩
    · exact .inl ⟨by omega, by rw [h]; exact h'⟩
    · exact .inr ⟨h, h'⟩
  clear hcase
  rcases hcase' with ⟨her, t2⟩ | ⟨rfl, t2⟩
  · have hb1 : (er == 0) = false := by simp [her]
    have hb2 : (er != 0) = true := by simp [her]
    have hkk := hk2 (.tuple #[.int .i64 0, .int .i64 er]) e2 ⟨0, er, rfl, by rw [hb1, if_neg her]; exact t2, fun _ => rfl⟩
    unfold LW at hkk ⊢
    walk_nrm
    repeat (first | refine Walk.c rfl ?_ | refine Walk.cRet ?_ | refine Walk.cEnd ?_ | (refine Walk.cReg ?_; simp only [size54_0, size54_1, size54_2, size54_3, size54_4, size54_5, size54_6, size54_7, size54_8, size54_9, size54_10, size54_11, List.range, List.range.loop]) | (refine Walk.oq ?_; try walk_nrm) | (refine Walk.un ?_; walk_nrm))
    exact Walk.on2 rfl rfl Try.func54 rfl hkk
  · have w3 := finish_s K e2 k hk q ⟨by omega, hq1⟩ (.r4 k q a) ⟨true, a, []⟩ (fun _ => rfl) t2
    unfold LW
    walk_nrm
    repeat (first | refine Walk.c rfl ?_ | refine Walk.cRet ?_ | refine Walk.cEnd ?_ | (refine Walk.cReg ?_; simp only [size54_0, size54_1, size54_2, size54_3, size54_4, size54_5, size54_6, size54_7, size54_8, size54_9, size54_10, size54_11, List.range, List.range.loop]) | (refine Walk.oq ?_; try walk_nrm) | (refine Walk.un ?_; walk_nrm))
    refine LW.callS (K := K.toLb) (e := e2) (l := fr :: l) (f := 89) (Q := fun v e' => v = .tuple #[] ∧ K.tgt e' = (K.s e', .inl ⟨true, a, []⟩)) ?_ (ho_of (by conv => lhs; whnf) (by kernel_rfl)) (by rfl) (by decide) rfl Try.func89 (by kernel_rfl) (by rfl) ⟨rfl, rfl, _, Try.func54⟩ (plain_cons hp hl) ?_
    · walk_nrm
      exact w3
    rintro v e3 ⟨rfl, t3⟩
    have hkk := hk2 (.tuple #[.int .i64 a, .int .i64 0]) e3 ⟨a, 0, rfl, t3, fun h => absurd rfl h⟩
    unfold LW at hkk ⊢
    walk_nrm
    repeat (first | refine Walk.c rfl ?_ | refine Walk.cRet ?_ | refine Walk.cEnd ?_ | (refine Walk.cReg ?_; simp only [size54_0, size54_1, size54_2, size54_3, size54_4, size54_5, size54_6, size54_7, size54_8, size54_9, size54_10, size54_11, List.range, List.range.loop]) | (refine Walk.oq ?_; try walk_nrm) | (refine Walk.un ?_; walk_nrm))
    exact Walk.on2 rfl rfl Try.func54 rfl hkk
end
end
section
noncomputable def reg112_0 : Array Oper := match Try.f112.body with | some (.seq (.region _ ops _) _) => ops | _ => #[]
theorem size112_0 : reg112_0.size = 1 := by kernel_rfl
noncomputable def reg112_1 : Array Oper := match Try.f112.body with | some (.seq _ (.seq (.region _ ops _) _)) => ops | _ => #[]
theorem size112_1 : reg112_1.size = 1 := by kernel_rfl
noncomputable def reg112_2 : Array Oper := match Try.f112.body with | some (.seq _ (.seq _ (.seq (.seq (.region _ ops _) _) _))) => ops | _ => #[]
theorem size112_2 : reg112_2.size = 6 := by kernel_rfl
noncomputable def reg112_3 : Array Oper := match Try.f112.body with | some (.seq _ (.seq _ (.seq (.seq _ (.block _ (.loop (.seq (.region _ ops _) _)))) _))) => ops | _ => #[]
theorem size112_3 : reg112_3.size = 1 := by kernel_rfl
noncomputable def reg112_4 : Array Oper := match Try.f112.body with | some (.seq _ (.seq _ (.seq (.seq _ (.block _ (.loop (.seq _ (.seq _ (.seq (.block _ (.seq (.region _ ops _) _)) _)))))) _))) => ops | _ => #[]
theorem size112_4 : reg112_4.size = 2 := by kernel_rfl
noncomputable def reg112_5 : Array Oper := match Try.f112.body with | some (.seq _ (.seq _ (.seq (.seq _ (.block _ (.loop (.seq _ (.seq _ (.seq (.block _ (.seq _ (.region _ ops _))) _)))))) _))) => ops | _ => #[]
theorem size112_5 : reg112_5.size = 12 := by kernel_rfl
noncomputable def reg112_6 : Array Oper := match Try.f112.body with | some (.seq _ (.seq _ (.seq (.seq _ (.block _ (.loop (.seq _ (.seq _ (.seq _ (.region _ ops _))))))) _))) => ops | _ => #[]
theorem size112_6 : reg112_6.size = 2 := by kernel_rfl
noncomputable def reg112_7 : Array Oper := match Try.f112.body with | some (.seq _ (.seq _ (.seq _ (.seq (.region _ ops _) _)))) => ops | _ => #[]
theorem size112_7 : reg112_7.size = 2 := by kernel_rfl
theorem code112_is : Try.f112.body = some (.seq (.region 0 reg112_0 false) (.seq (.region 1 reg112_1 false) (.seq (.seq (.region 2 reg112_2 false) (.block 0 (.loop (.seq (.region 3 reg112_3 false) (.seq (.cond (.tmp 13 ) (.skip) (.exit 0)) (.seq (.block 1 (.seq (.region 4 reg112_4 false) (.region 5 reg112_5 false))) (.region 6 reg112_6 false))))))) (.seq (.region 7 reg112_7 false) (.ret))))) := by kernel_rfl
noncomputable def hdLe (ob : Nat) (sv : Value) (z : Int) (m k : Nat) (u : Nat → Value) : Frame :=
  (base 112).at { tmps := #[.pointer (some ⟨ob, 0, none⟩), sv, u 2, u 3, u 4, .int .i64 z, u 6, u 7, u 8, u 9, u 10, .int .i64 m, .int .i64 k, u 13, u 14, u 15, u 16, u 17, u 18, u 19, u 20, u 21, u 22, u 23, u 24, u 25, u 26, u 27], defers := [] } [.code (.seq (.region 3 reg112_3 false) (.seq (.cond (.tmp 13 ) (.skip) (.exit 0)) (.seq (.block 1 (.seq (.region 4 reg112_4 false) (.region 5 reg112_5 false))) (.region 6 reg112_6 false)))), .inLoop (.seq (.region 3 reg112_3 false) (.seq (.cond (.tmp 13 ) (.skip) (.exit 0)) (.seq (.block 1 (.seq (.region 4 reg112_4 false) (.region 5 reg112_5 false))) (.region 6 reg112_6 false)))), .inBlock 0, .code (.seq (.region 7 reg112_7 false) (.ret))]
def soL (n m : Nat) (s : So) (k : Nat) (z f c : Int) (t : Option (Nat × (Nat → Int))) : So × (Ans ⊕ SoD) := if k < m then (s, .inr (.cl k z f c t)) else soGot n s z f c t
theorem soL_zero (n m : Nat) (s : So) (f c : Int) (t : Option (Nat × (Nat → Int))) : soLst n m s f c t = soL n m s 0 4611686018427387904 f c t := by
  unfold soLst soL
  by_cases h : m = 0
  · rw [if_pos h, if_neg (by omega)]
  · rw [if_neg h, if_pos (by omega)]
section
variable {rb sb n ob qb m : Nat} {sv : Value}
theorem le_round (K : Lg (soLa rb sb n ob qb m) sv) (f c : Int) (t : Option (Nat × (Nat → Int))) (fr : Frame) (l : List Frame) (hp : Plain fr) (hl : ∀ f ∈ l, Plain f) (k : Nat) (hk : k < m) (z : Int) (e : K.E) (u : Nat → Value) (ht : K.tgt e = (K.s e, .inr (.cl k z f c t)))
    (ih : ∀ (e' : K.E) (u' : Nat → Value) (z' : Int), K.tgt e' = soL n m (K.s e') (k + 1) z' f c t → LW K.toLb e' (G (hdLe ob sv z' m (k + 1) u') (fr :: (l ++ K.bot e')))) :
    LW K.toLb e (G (hdLe ob sv z m k u) (fr :: (l ++ K.bot e))) := by
  have hmn := @events_min_ints Try.prog
  have I : SoI rb sb n ob qb m (K.s e) (K.w e) := K.inv e
  have c0 : (K.w e).cell? ⟨ob, 2, none⟩ = some (.slice (some ⟨qb, 0, none⟩) m m) := (cell_of I.ob 2).trans rfl
  have hm := I.few
  have w1 := word_load K (numW k hk) e (.cl k z f c t) trivial ht
  unfold Wd.p at w1
  have hk0 : (0 : Int) ≤ k := by omega
  have hk1 : decide ((k : Int) < m) = true := by simp; omega
  have hk3 : decide (k < m) = true := by simp; omega
  have hk4 : (k : Int) < m := by omega
  have hw1 : IntKind.wrap .i64 ((k : Int) + 1) = (k : Int) + 1 := by rw [IntKind.wrap_i64]; omega
  have hcc : ((k + 1 : Nat) : Int) = (k : Int) + 1 := by simp
  clear I
  unfold LW hdLe
  repeat (first | refine Walk.c rfl ?_ | refine Walk.cRet ?_ | refine Walk.cEnd ?_ | (refine Walk.cReg ?_; simp only [size112_0, size112_1, size112_2, size112_3, size112_4, size112_5, size112_6, size112_7, List.range, List.range.loop]) | (refine Walk.oq ?_; try walk_nrm) | (refine Walk.un ?_; walk_nrm))
  clear c0
  refine LW.callS (K := K.toLb) (e := e) (l := fr :: l) (f := 73) (Q := fun v e' => Aft K.toLb e (.cl k z f c t) e' ∧ v = .int .i64 ((K.s e' : So).nm k)) ?_ (ho_of (by conv => lhs; whnf) (by kernel_rfl)) (by rfl) (by decide) rfl Try.func73 (by kernel_rfl) (by rfl) ⟨rfl, rfl, _, Try.func112⟩ (plain_cons hp hl) ?_
  · walk_nrm
    exact w1
  rintro v e1 ⟨ha, rfl⟩
  have t1 : K.tgt e1 = soL n m (K.s e1) (k + 1) (min z ((K.s e1 : So).nm k)) f c t := ha.tgt
  have hih := fun u => ih e1 u _ t1
  generalize (K.s e1 : So).nm k = x at *
  clear w1 ih t1 ht
  unfold LW at hih ⊢
  walk_nrm
  repeat (first | refine Walk.c rfl ?_ | refine Walk.cRet ?_ | refine Walk.cEnd ?_ | (refine Walk.cReg ?_; simp only [size112_0, size112_1, size112_2, size112_3, size112_4, size112_5, size112_6, size112_7, List.range, List.range.loop]) | (refine Walk.oq ?_; try walk_nrm) | (refine Walk.un ?_; walk_nrm))
  refine Walk.ctl rfl (fun w => stepG_inLoop) ?_
  refine slots_walk (F := fun u => G (hdLe ob sv (min z x) m (k + 1) u) (fr :: (l ++ K.bot e1))) hih ?_
  simp only [hdLe, hcc]
  rfl
def LeOut (K : Lg (soLa rb sb n ob qb m) sv) (f c : Int) (t : Option (Nat × (Nat → Int))) (v : Value) (e' : K.E) : Prop := ∃ z, v = .int .i64 z ∧ K.tgt e' = soGot n (K.s e') z f c t
theorem le_end (K : Lg (soLa rb sb n ob qb m) sv) (f c : Int) (t : Option (Nat × (Nat → Int))) (fr : Frame) (l : List Frame) (hk : ∀ x e', LeOut K f c t x e' → LW K.toLb e' (G (fr.finish x) (l ++ K.bot e'))) (z : Int) (e : K.E) (u : Nat → Value) (ht : K.tgt e = soGot n (K.s e) z f c t) : LW K.toLb e (G (hdLe ob sv z m m u) (fr :: (l ++ K.bot e))) := by
  have hk1 : decide ((m : Int) < m) = false := by simp
  have hk3 : decide (m < m) = false := by simp
  have hkk := hk (.int .i64 z) e ⟨z, rfl, ht⟩
  unfold LW at hkk ⊢
  unfold hdLe
  repeat (first | refine Walk.c rfl ?_ | refine Walk.cRet ?_ | refine Walk.cEnd ?_ | (refine Walk.cReg ?_; simp only [size112_0, size112_1, size112_2, size112_3, size112_4, size112_5, size112_6, size112_7, List.range, List.range.loop]) | (refine Walk.oq ?_; try walk_nrm) | (refine Walk.un ?_; walk_nrm))
  exact Walk.on1 rfl rfl Try.func112 rfl hkk
theorem le_loop (K : Lg (soLa rb sb n ob qb m) sv) (f c : Int) (t : Option (Nat × (Nat → Int))) (fr : Frame) (l : List Frame) (hp : Plain fr) (hl : ∀ f ∈ l, Plain f) (hk : ∀ x e', LeOut K f c t x e' → LW K.toLb e' (G (fr.finish x) (l ++ K.bot e'))) :
    ∀ (r k : Nat) (z : Int) (e : K.E) (u : Nat → Value), k + r = m → K.tgt e = soL n m (K.s e) k z f c t → LW K.toLb e (G (hdLe ob sv z m k u) (fr :: (l ++ K.bot e))) := by
  intro r
  induction r with
  | zero =>
    intro k z e u hr ht
    have hr : k = m := hr
    subst hr
    unfold soL at ht
    rw [if_neg (Nat.lt_irrefl _)] at ht
    exact le_end K f c t fr l hk z e u ht
  | succ r ih =>
    intro k z e u hr ht
    unfold soL at ht
    rw [if_pos (by omega)] at ht
    exact le_round K f c t fr l hp hl k (by omega) z e u ht fun e' u' z' ht' => ih (k + 1) z' e' u' (by omega) ht'
theorem least_s (K : Lg (soLa rb sb n ob qb m) sv) (e : K.E) (f c : Int) (t : Option (Nat × (Nat → Int))) (ht : K.tgt e = soLst n m (K.s e) f c t) : SCall K.toLb 112 #[.pointer (some ⟨ob, 0, none⟩), sv] e (LeOut K f c t) := by
  intro fr l hp hl hk
  have I : SoI rb sb n ob qb m (K.s e) (K.w e) := K.inv e
  have c0 : (K.w e).cell? ⟨ob, 2, none⟩ = some (.slice (some ⟨qb, 0, none⟩) m m) := (cell_of I.ob 2).trans rfl
  replace ht := ht.trans (soL_zero n m (K.s e) f c t)
  have hlp := fun u => le_loop K f c t fr l hp hl hk m 0 4611686018427387904 e u (Nat.zero_add _) ht
  clear I hk ht
  unfold LW at hlp ⊢
  rw [enter_at _ Try.func112 code112_is]
  simp only [Try.ntmps112, List.size_toArray, List.length_cons, List.length_nil, Nat.reduceAdd, Nat.reduceSub, Array.replicate_succ, Array.replicate_zero, List.push_toArray, List.append_toArray, List.nil_append, List.cons_append]
  repeat (first | refine Walk.c rfl ?_ | refine Walk.cRet ?_ | refine Walk.cEnd ?_ | (refine Walk.cReg ?_; simp only [size112_0, size112_1, size112_2, size112_3, size112_4, size112_5, size112_6, size112_7, List.range, List.range.loop]) | (refine Walk.oq ?_; try walk_nrm) | (refine Walk.un ?_; walk_nrm))
  refine Walk.ctl rfl (fun w => stepG_loop) ?_
  refine slots_walk (F := fun u => G (hdLe ob sv 4611686018427387904 m 0 u) (fr :: (l ++ K.bot e))) hlp ?_
  simp only [hdLe]
  rfl
end
end
section
noncomputable def reg90_0 : Array Oper := match Try.f90.body with | some (.seq (.region _ ops _) _) => ops | _ => #[]
theorem size90_0 : reg90_0.size = 1 := by kernel_rfl
noncomputable def reg90_1 : Array Oper := match Try.f90.body with | some (.seq _ (.seq (.region _ ops _) _)) => ops | _ => #[]
theorem size90_1 : reg90_1.size = 4 := by kernel_rfl
noncomputable def reg90_2 : Array Oper := match Try.f90.body with | some (.seq _ (.seq _ (.seq (.seq (.region _ ops _) _) _))) => ops | _ => #[]
theorem size90_2 : reg90_2.size = 6 := by kernel_rfl
noncomputable def reg90_3 : Array Oper := match Try.f90.body with | some (.seq _ (.seq _ (.seq (.seq _ (.cond _ (.region _ ops _) _)) _))) => ops | _ => #[]
theorem size90_3 : reg90_3.size = 7 := by kernel_rfl
noncomputable def reg90_4 : Array Oper := match Try.f90.body with | some (.seq _ (.seq _ (.seq _ (.seq (.region _ ops _) _)))) => ops | _ => #[]
theorem size90_4 : reg90_4.size = 7 := by kernel_rfl
theorem code90_is : Try.f90.body = some (.seq (.region 0 reg90_0 false) (.seq (.region 1 reg90_1 false) (.seq (.seq (.region 2 reg90_2 false) (.cond (.tmp 16 ) (.region 3 reg90_3 false) (.skip))) (.seq (.region 4 reg90_4 false) (.ret))))) := by kernel_rfl
noncomputable def reg53_0 : Array Oper := match Try.f53.body with | some (.seq (.region _ ops _) _) => ops | _ => #[]
theorem size53_0 : reg53_0.size = 2 := by kernel_rfl
noncomputable def reg53_1 : Array Oper := match Try.f53.body with | some (.seq _ (.seq (.seq (.region _ ops _) _) _)) => ops | _ => #[]
theorem size53_1 : reg53_1.size = 8 := by kernel_rfl
noncomputable def reg53_2 : Array Oper := match Try.f53.body with | some (.seq _ (.seq (.seq _ (.cond _ (.seq (.region _ ops _) _) _)) _)) => ops | _ => #[]
theorem size53_2 : reg53_2.size = 2 := by kernel_rfl
noncomputable def reg53_3 : Array Oper := match Try.f53.body with | some (.seq _ (.seq _ (.seq (.region _ ops _) _))) => ops | _ => #[]
theorem size53_3 : reg53_3.size = 4 := by kernel_rfl
noncomputable def reg53_4 : Array Oper := match Try.f53.body with | some (.seq _ (.seq _ (.seq _ (.seq (.region _ ops _) _)))) => ops | _ => #[]
theorem size53_4 : reg53_4.size = 12 := by kernel_rfl
noncomputable def reg53_5 : Array Oper := match Try.f53.body with | some (.seq _ (.seq _ (.seq _ (.seq _ (.seq (.seq (.region _ ops _) _) _))))) => ops | _ => #[]
theorem size53_5 : reg53_5.size = 2 := by kernel_rfl
noncomputable def reg53_6 : Array Oper := match Try.f53.body with | some (.seq _ (.seq _ (.seq _ (.seq _ (.seq (.seq _ (.cond _ (.seq (.region _ ops _) _) _)) _))))) => ops | _ => #[]
theorem size53_6 : reg53_6.size = 2 := by kernel_rfl
noncomputable def reg53_7 : Array Oper := match Try.f53.body with | some (.seq _ (.seq _ (.seq _ (.seq _ (.seq _ (.seq (.seq (.region _ ops _) _) _)))))) => ops | _ => #[]
theorem size53_7 : reg53_7.size = 9 := by kernel_rfl
noncomputable def reg53_8 : Array Oper := match Try.f53.body with | some (.seq _ (.seq _ (.seq _ (.seq _ (.seq _ (.seq (.seq _ (.cond _ (.seq (.region _ ops _) _) _)) _)))))) => ops | _ => #[]
theorem size53_8 : reg53_8.size = 2 := by kernel_rfl
noncomputable def reg53_9 : Array Oper := match Try.f53.body with | some (.seq _ (.seq _ (.seq _ (.seq _ (.seq _ (.seq _ (.seq (.region _ ops _) _))))))) => ops | _ => #[]
theorem size53_9 : reg53_9.size = 5 := by kernel_rfl
noncomputable def reg53_10 : Array Oper := match Try.f53.body with | some (.seq _ (.seq _ (.seq _ (.seq _ (.seq _ (.seq _ (.seq _ (.seq (.region _ ops _) _)))))))) => ops | _ => #[]
theorem size53_10 : reg53_10.size = 3 := by kernel_rfl
theorem code53_is : Try.f53.body = some (.seq (.region 0 reg53_0 false) (.seq (.seq (.region 1 reg53_1 false) (.cond (.tmp 18 ) (.seq (.region 2 reg53_2 false) (.ret)) (.skip))) (.seq (.region 3 reg53_3 false) (.seq (.region 4 reg53_4 true) (.seq (.seq (.region 5 reg53_5 false) (.cond (.tmp 33 ) (.seq (.region 6 reg53_6 false) (.ret)) (.skip))) (.seq (.seq (.region 7 reg53_7 false) (.cond (.tmp 42 ) (.seq (.region 8 reg53_8 false) (.ret)) (.skip))) (.seq (.region 9 reg53_9 false) (.seq (.region 10 reg53_10 false) (.ret))))))))) := by kernel_rfl
section
variable {rb sb n ob qb m : Nat} {sv : Value}
def FdOut (K : Lg (soLa rb sb n ob qb m) sv) (f c : Int) (t : Option (Nat × (Nat → Int))) (v : Value) (e' : K.E) : Prop := (v = .bool true ∧ K.tgt e' = soTake (K.s e') f c t) ∨ (v = .bool false ∧ K.tgt e' = (K.s e', .inl ⟨false, 3, []⟩))
theorem finished_s (K : Lg (soLa rb sb n ob qb m) sv) (e : K.E) (f c q : Int) (hq : f + c - 1 - n = q) (t : Option (Nat × (Nat → Int))) (ht : K.tgt e = soFind n m (K.s e) f c t) : SCall K.toLb 90 #[.pointer (some ⟨ob, 0, none⟩), sv, .int .i64 q] e (FdOut K f c t) := by
  intro fr l hp hl hk
  have I : SoI rb sb n ob qb m (K.s e) (K.w e) := K.inv e
  have c5 : (K.w e).cell? ⟨ob, 5, none⟩ = some (.int .i64 (K.s e : So).ca) := (cell_of I.ob 5).trans rfl
  unfold soFind at ht
  rw [hq] at ht
  generalize hca : (K.s e : So).ca = ca at *
  clear I
  unfold LW
  rw [enter_at _ Try.func90 code90_is]
  simp only [Try.ntmps90, List.size_toArray, List.length_cons, List.length_nil, Nat.reduceAdd, Nat.reduceSub, Array.replicate_succ, Array.replicate_zero, List.push_toArray, List.append_toArray, List.nil_append, List.cons_append]
  by_cases h1 : ca < q
  · have g1 : decide (ca < q) = true := by simp [h1]
    rw [if_pos h1] at ht
    have w1 := least_s K e f c t ht
    clear hca ht
    repeat (first | refine Walk.c rfl ?_ | refine Walk.cRet ?_ | refine Walk.cEnd ?_ | (refine Walk.cReg ?_; simp only [size90_0, size90_1, size90_2, size90_3, size90_4, List.range, List.range.loop]) | (refine Walk.oq ?_; try walk_nrm) | (refine Walk.un ?_; walk_nrm))
    clear c5
    refine LW.callS (K := K.toLb) (e := e) (l := fr :: l) (f := 112) (Q := LeOut K f c t) ?_ (ho_of (by conv => lhs; whnf) (by kernel_rfl)) (by rfl) (by decide) rfl Try.func112 (by kernel_rfl) (by rfl) ⟨rfl, rfl, _, Try.func90⟩ (plain_cons hp hl) ?_
    · walk_nrm
      exact w1
    rintro v e1 ⟨z, rfl, t1⟩
    have I1 : SoI rb sb n ob qb m (K.s e1) (K.w e1) := K.inv e1
    have c1 : (K.w e1).cell? ⟨ob, 5, none⟩ = some (.int .i64 (K.s e1 : So).ca) := (cell_of I1.ob 5).trans rfl
    have z1 : (K.w e1).frozen? ⟨ob, 5, none⟩ = false := frozen_of I1.ob 5
    have hap := (K.shA e1 ob (.inr (.inr (.inl rfl)))).1 ⟨ob, 5, none⟩ rfl
    obtain ⟨e2, m2⟩ := SoI.plain e1 (soCa (K.s e1) z) ob 5 (.int .i64 z) (.inr (.inr (.inl rfl))) (I1.setA z)
    have I2 : SoI rb sb n ob qb m (soCa (K.s e1) z) (K.w e2) := by have h := K.inv e2; rw [m2.s] at h; exact h
    have c2 : (K.w e2).cell? ⟨ob, 5, none⟩ = some (.int .i64 z) := (cell_of I2.ob 5).trans rfl
    have ta : z < q → K.tgt e2 = (K.s e2, .inl ⟨false, 3, []⟩) := fun h => by
      rw [m2.tgt, m2.s, t1]
      exact if_pos (by omega)
    have tb : ¬ z < q → K.tgt e2 = soTake (K.s e2) f c t := fun h => by
      rw [m2.tgt, m2.s, t1]
      exact if_neg (by omega)
    clear w1 I1 I2 t1
    unfold LW
    walk_nrm
    repeat (first | refine Walk.c rfl ?_ | refine Walk.cRet ?_ | refine Walk.cEnd ?_ | (refine Walk.cReg ?_; simp only [size90_0, size90_1, size90_2, size90_3, size90_4, List.range, List.range.loop]) | (refine Walk.oq ?_; try walk_nrm) | (refine Walk.un ?_; walk_nrm))
    (refine Walk.os hap c1 ?_; try walk_nrm)
    refine LW.to (l := fr :: l) m2 ?_
    clear c1 z1 hap
    by_cases h2 : z < q
    · have t2 := ta h2
      clear ta tb
      have g2 : decide (q ≤ z) = false := by simp; omega
      have hkk := hk (.bool false) e2 (.inr ⟨rfl, t2⟩)
      unfold LW at hkk ⊢
      repeat (first | refine Walk.c rfl ?_ | refine Walk.cRet ?_ | refine Walk.cEnd ?_ | (refine Walk.cReg ?_; simp only [size90_0, size90_1, size90_2, size90_3, size90_4, List.range, List.range.loop]) | (refine Walk.oq ?_; try walk_nrm) | (refine Walk.un ?_; walk_nrm))
      exact Walk.on1 rfl rfl Try.func90 rfl hkk
    · have t2 := tb h2
      clear ta tb
      have g2 : decide (q ≤ z) = true := by simp; omega
      have hkk := hk (.bool true) e2 (.inl ⟨rfl, t2⟩)
      unfold LW at hkk ⊢
      repeat (first | refine Walk.c rfl ?_ | refine Walk.cRet ?_ | refine Walk.cEnd ?_ | (refine Walk.cReg ?_; simp only [size90_0, size90_1, size90_2, size90_3, size90_4, List.range, List.range.loop]) | (refine Walk.oq ?_; try walk_nrm) | (refine Walk.un ?_; walk_nrm))
      exact Walk.on1 rfl rfl Try.func90 rfl hkk
  · have g1 : decide (ca < q) = false := by simp [h1]
    have g2 : decide (q ≤ ca) = true := by simp; omega
    rw [if_neg h1] at ht
    have hkk := hk (.bool true) e (.inl ⟨rfl, ht⟩)
    clear hca ht
    unfold LW at hkk
    repeat (first | refine Walk.c rfl ?_ | refine Walk.cRet ?_ | refine Walk.cEnd ?_ | (refine Walk.cReg ?_; simp only [size90_0, size90_1, size90_2, size90_3, size90_4, List.range, List.range.loop]) | (refine Walk.oq ?_; try walk_nrm) | (refine Walk.un ?_; walk_nrm))
    exact Walk.on1 rfl rfl Try.func90 rfl hkk
def ClOut (K : Lg (soLa rb sb n ob qb m) sv) (c : Int) (t : Option (Nat × (Nat → Int))) (v : Value) (e' : K.E) : Prop := ∃ a er, v = .tuple #[.int .i64 a, .int .i64 er] ∧ ((er = 0 ∧ K.tgt e' = (K.s e', soThen (K.s e') a t) ∧ 0 ≤ a ∧ a + c ≤ 4611686018427387904 ∧ 1 ≤ c ∧ c ≤ n) ∨ (er ≠ 0 ∧ a = 0 ∧ K.tgt e' = (K.s e', .inl ⟨false, er, []⟩)))
theorem claim_bad (K : Lg (soLa rb sb n ob qb m) sv) (e : K.E) (c : Int) (t : Option (Nat × (Nat → Int))) (hc : c < 1 ∨ (n : Int) < c) (ht : K.tgt e = (K.s e, .inl ⟨false, 1, []⟩)) : SCall K.toLb 53 #[.pointer (some ⟨ob, 0, none⟩), sv, .int .i64 c] e (ClOut K c t) := by
  intro fr l hp hl hk
  have hsz := osize_w (main := K.main) (V := K.V e) (K.w e) (K.inv e)
  have hkk := hk (.tuple #[.int .i64 0, .int .i64 1]) e ⟨0, 1, rfl, .inr ⟨by decide, rfl, ht⟩⟩
  unfold LW at hkk ⊢
  rw [enter_at _ Try.func53 code53_is]
  simp only [Try.ntmps53, List.size_toArray, List.length_cons, List.length_nil, Nat.reduceAdd, Nat.reduceSub, Array.replicate_succ, Array.replicate_zero, List.push_toArray, List.append_toArray, List.nil_append, List.cons_append]
  by_cases h1 : c < 1
  · have g1 : decide (c < 1) = true := by simp; omega
    repeat (first | refine Walk.c rfl ?_ | refine Walk.cRet ?_ | refine Walk.cEnd ?_ | (refine Walk.cReg ?_; simp only [size53_0, size53_1, size53_2, size53_3, size53_4, size53_5, size53_6, size53_7, size53_8, size53_9, size53_10, List.range, List.range.loop]) | (refine Walk.oq ?_; try walk_nrm) | (refine Walk.un ?_; walk_nrm))
    exact Walk.on2 rfl rfl Try.func53 rfl hkk
  · have g1 : decide (c < 1) = false := by simp; omega
    have g2 : decide ((n : Int) < c) = true := by simp; omega
    repeat (first | refine Walk.c rfl ?_ | refine Walk.cRet ?_ | refine Walk.cEnd ?_ | (refine Walk.cReg ?_; simp only [size53_0, size53_1, size53_2, size53_3, size53_4, size53_5, size53_6, size53_7, size53_8, size53_9, size53_10, List.range, List.range.loop]) | (refine Walk.oq ?_; try walk_nrm) | (refine Walk.un ?_; walk_nrm))
    refine Walk.callV (x := .int .i64 (n : Nat)) (W := K.w e) ?_ (ho_of (by conv => lhs; whnf) (by kernel_rfl)) (by rfl) (by decide) rfl Try.func46 (by kernel_rfl) (by rfl) ?_
    · walk_nrm
      exact hsz
    walk_nrm
    repeat (first | refine Walk.c rfl ?_ | refine Walk.cRet ?_ | refine Walk.cEnd ?_ | (refine Walk.cReg ?_; simp only [size53_0, size53_1, size53_2, size53_3, size53_4, size53_5, size53_6, size53_7, size53_8, size53_9, size53_10, List.range, List.range.loop]) | (refine Walk.oq ?_; try walk_nrm) | (refine Walk.un ?_; walk_nrm))
    exact Walk.on2 rfl rfl Try.func53 rfl hkk
theorem claim_far (K : Lg (soLa rb sb n ob qb m) sv) (e : K.E) (c : Int) (t : Option (Nat × (Nat → Int))) (h1 : 1 ≤ c) (h2 : c ≤ n) (h3 : 4611686018427387904 < (K.s e : So).nx + c) (ht : K.tgt e = (K.s e, .inl ⟨false, 8, []⟩)) : SCall K.toLb 53 #[.pointer (some ⟨ob, 0, none⟩), sv, .int .i64 c] e (ClOut K c t) := by
  intro fr l hp hl hk
  have I : SoI rb sb n ob qb m (K.s e) (K.w e) := K.inv e
  have hn := I.ring.pos
  have hnx := I.bd.nx
  have hsz := osize_w (main := K.main) (V := K.V e) (K.w e) I
  have c3 : (K.w e).cell? ⟨ob, 3, none⟩ = some (.int .i64 (K.s e : So).nx) := (cell_of I.ob 3).trans rfl
  have hkk := hk (.tuple #[.int .i64 0, .int .i64 8]) e ⟨0, 8, rfl, .inr ⟨by decide, rfl, ht⟩⟩
  generalize (K.s e : So).nx = nx at *
  have g1 : decide (c < 1) = false := by simp; omega
  have g2 : decide ((n : Int) < c) = false := by simp; omega
  have g3 : decide (4611686018427387904 < nx + c) = true := by simp; omega
  have hw : IntKind.i64.wrap (nx + c) = nx + c := by rw [IntKind.wrap_i64]; omega
  have hcw : IntKind.i64.wrap c = c := by rw [IntKind.wrap_i64]; omega
  clear I ht hnx h3
  unfold LW at hkk ⊢
  rw [enter_at _ Try.func53 code53_is]
  simp only [Try.ntmps53, List.size_toArray, List.length_cons, List.length_nil, Nat.reduceAdd, Nat.reduceSub, Array.replicate_succ, Array.replicate_zero, List.push_toArray, List.append_toArray, List.nil_append, List.cons_append]
  repeat (first | refine Walk.c rfl ?_ | refine Walk.cRet ?_ | refine Walk.cEnd ?_ | (refine Walk.cReg ?_; simp only [size53_0, size53_1, size53_2, size53_3, size53_4, size53_5, size53_6, size53_7, size53_8, size53_9, size53_10, List.range, List.range.loop]) | (refine Walk.oq ?_; try walk_nrm) | (refine Walk.un ?_; walk_nrm))
  refine Walk.callV (x := .int .i64 (n : Nat)) (W := K.w e) ?_ (ho_of (by conv => lhs; whnf) (by kernel_rfl)) (by rfl) (by decide) rfl Try.func46 (by kernel_rfl) (by rfl) ?_
  · walk_nrm
    exact hsz
  walk_nrm
  repeat (first | refine Walk.c rfl ?_ | refine Walk.cRet ?_ | refine Walk.cEnd ?_ | (refine Walk.cReg ?_; simp only [size53_0, size53_1, size53_2, size53_3, size53_4, size53_5, size53_6, size53_7, size53_8, size53_9, size53_10, List.range, List.range.loop]) | (refine Walk.oq ?_; try walk_nrm) | (refine Walk.un ?_; walk_nrm))
  (refine Walk.drawnCW (by kernel_rfl) size53_4 (by kernel_rfl) (by kernel_rfl) (by decide) ?_; simp only [List.range, List.range.loop]; repeat (first | (refine Cm.opqA (ho_of (by conv => lhs; whnf) (by kernel_rfl)) (by rfl) (fun dd e he => ?_) ?_; (· (simp [go_sem, *] at he; try (subst he; exact evR_read _ _))); apply Exists.intro; apply And.intro; (· (intro dd K hK; go_simp; exact hK))) | (refine Cm.unw (ho_of (by conv => lhs; whnf) (by kernel_rfl)) (by rfl) ?_; walk_nrm)))
  refine Cm.done ?_
  repeat (first | refine Walk.c rfl ?_ | refine Walk.cRet ?_ | refine Walk.cEnd ?_ | (refine Walk.cReg ?_; simp only [size53_0, size53_1, size53_2, size53_3, size53_4, size53_5, size53_6, size53_7, size53_8, size53_9, size53_10, List.range, List.range.loop]) | (refine Walk.oq ?_; try walk_nrm) | (refine Walk.un ?_; walk_nrm))
  exact Walk.on2 rfl rfl Try.func53 rfl hkk
theorem claim_go (K : Lg (soLa rb sb n ob qb m) sv) (e : K.E) (c : Int) (t : Option (Nat × (Nat → Int))) (h1 : 1 ≤ c) (h2 : c ≤ n) (h3 : ¬ 4611686018427387904 < (K.s e : So).nx + c) (ht : K.tgt e = soFind n m (K.s e) (K.s e : So).nx c t) : SCall K.toLb 53 #[.pointer (some ⟨ob, 0, none⟩), sv, .int .i64 c] e (ClOut K c t) := by
  intro fr l hp hl hk
  have I : SoI rb sb n ob qb m (K.s e) (K.w e) := K.inv e
  have hn := I.ring.pos
  have hnx := I.bd.nx
  have hsz := osize_w (main := K.main) (V := K.V e) (K.w e) I
  have c3 : (K.w e).cell? ⟨ob, 3, none⟩ = some (.int .i64 (K.s e : So).nx) := (cell_of I.ob 3).trans rfl
  generalize (K.s e : So).nx = nx at *
  have w1 := finished_s K e nx c (nx + c - 1 - n) rfl t ht
  have g1 : decide (c < 1) = false := by simp; omega
  have g2 : decide ((n : Int) < c) = false := by simp; omega
  have g3 : decide (4611686018427387904 < nx + c) = false := by simp; omega
  have hw : IntKind.i64.wrap (nx + c) = nx + c := by rw [IntKind.wrap_i64]; omega
  have hcw : IntKind.i64.wrap c = c := by rw [IntKind.wrap_i64]; omega
  have hw1 : IntKind.i64.wrap (nx + c - 1) = nx + c - 1 := by rw [IntKind.wrap_i64]; omega
  have hw2 : IntKind.i64.wrap (nx + c - 1 - (n : Int)) = nx + c - 1 - n := by rw [IntKind.wrap_i64]; omega
  have hbd : 0 ≤ nx + c ∧ nx + c ≤ 4611686018427387904 := by omega
  clear I ht h3
  unfold LW
  rw [enter_at _ Try.func53 code53_is]
  simp only [Try.ntmps53, List.size_toArray, List.length_cons, List.length_nil, Nat.reduceAdd, Nat.reduceSub, Array.replicate_succ, Array.replicate_zero, List.push_toArray, List.append_toArray, List.nil_append, List.cons_append]
  repeat (first | refine Walk.c rfl ?_ | refine Walk.cRet ?_ | refine Walk.cEnd ?_ | (refine Walk.cReg ?_; simp only [size53_0, size53_1, size53_2, size53_3, size53_4, size53_5, size53_6, size53_7, size53_8, size53_9, size53_10, List.range, List.range.loop]) | (refine Walk.oq ?_; try walk_nrm) | (refine Walk.un ?_; walk_nrm))
  refine Walk.callV (x := .int .i64 (n : Nat)) (W := K.w e) ?_ (ho_of (by conv => lhs; whnf) (by kernel_rfl)) (by rfl) (by decide) rfl Try.func46 (by kernel_rfl) (by rfl) ?_
  · walk_nrm
    exact hsz
  walk_nrm
  repeat (first | refine Walk.c rfl ?_ | refine Walk.cRet ?_ | refine Walk.cEnd ?_ | (refine Walk.cReg ?_; simp only [size53_0, size53_1, size53_2, size53_3, size53_4, size53_5, size53_6, size53_7, size53_8, size53_9, size53_10, List.range, List.range.loop]) | (refine Walk.oq ?_; try walk_nrm) | (refine Walk.un ?_; walk_nrm))
  (refine Walk.drawnCW (by kernel_rfl) size53_4 (by kernel_rfl) (by kernel_rfl) (by decide) ?_; simp only [List.range, List.range.loop]; repeat (first | (refine Cm.opqA (ho_of (by conv => lhs; whnf) (by kernel_rfl)) (by rfl) (fun dd e he => ?_) ?_; (· (simp [go_sem, *] at he; try (subst he; exact evR_read _ _))); apply Exists.intro; apply And.intro; (· (intro dd K hK; go_simp; exact hK))) | (refine Cm.unw (ho_of (by conv => lhs; whnf) (by kernel_rfl)) (by rfl) ?_; walk_nrm)))
  refine Cm.done ?_
  clear c3
  repeat (first | refine Walk.c rfl ?_ | refine Walk.cRet ?_ | refine Walk.cEnd ?_ | (refine Walk.cReg ?_; simp only [size53_0, size53_1, size53_2, size53_3, size53_4, size53_5, size53_6, size53_7, size53_8, size53_9, size53_10, List.range, List.range.loop]) | (refine Walk.oq ?_; try walk_nrm) | (refine Walk.un ?_; walk_nrm))
  refine Walk.callV (x := .int .i64 (n : Nat)) (W := K.w e) ?_ (ho_of (by conv => lhs; whnf) (by kernel_rfl)) (by rfl) (by decide) rfl Try.func46 (by kernel_rfl) (by rfl) ?_
  · walk_nrm
    exact hsz
  walk_nrm
  clear hsz
  repeat (first | refine Walk.c rfl ?_ | refine Walk.cRet ?_ | refine Walk.cEnd ?_ | (refine Walk.cReg ?_; simp only [size53_0, size53_1, size53_2, size53_3, size53_4, size53_5, size53_6, size53_7, size53_8, size53_9, size53_10, List.range, List.range.loop]) | (refine Walk.oq ?_; try walk_nrm) | (refine Walk.un ?_; walk_nrm))
  refine LW.callS (K := K.toLb) (e := e) (l := fr :: l) (f := 90) (Q := FdOut K nx c t) ?_ (ho_of (by conv => lhs; whnf) (by kernel_rfl)) (by rfl) (by decide) rfl Try.func90 (by kernel_rfl) (by rfl) ⟨rfl, rfl, _, Try.func53⟩ (plain_cons hp hl) ?_
  · walk_nrm
    exact w1
  clear w1 hw1 hw2 hw hcw
  rintro v e1 (⟨rfl, t1⟩ | ⟨rfl, t1⟩)
  · have I1 : SoI rb sb n ob qb m (K.s e1) (K.w e1) := K.inv e1
    have c1 : (K.w e1).cell? ⟨ob, 3, none⟩ = some (.int .i64 (K.s e1 : So).nx) := (cell_of I1.ob 3).trans rfl
    have z1 : (K.w e1).frozen? ⟨ob, 3, none⟩ = false := frozen_of I1.ob 3
    have hap := (K.shA e1 ob (.inr (.inr (.inl rfl)))).1 ⟨ob, 3, none⟩ rfl
    obtain ⟨e2, m2⟩ := SoI.plain e1 (soNx (K.s e1) (nx + c)) ob 3 (.int .i64 (nx + c)) (.inr (.inr (.inl rfl))) (I1.setX hbd)
    have t2 : K.tgt e2 = (K.s e2, soThen (K.s e2) nx t) := by
      rw [m2.tgt, m2.s, t1]
      rfl
    have hkk := hk (.tuple #[.int .i64 nx, .int .i64 0]) e2 ⟨nx, 0, rfl, .inl ⟨rfl, t2, hnx.1, hbd.2, h1, h2⟩⟩
    clear t1 t2 I1
    generalize nx + c = bh at *
    unfold LW at hkk ⊢
    walk_nrm
    repeat (first | refine Walk.c rfl ?_ | refine Walk.cRet ?_ | refine Walk.cEnd ?_ | (refine Walk.cReg ?_; simp only [size53_0, size53_1, size53_2, size53_3, size53_4, size53_5, size53_6, size53_7, size53_8, size53_9, size53_10, List.range, List.range.loop]) | (refine Walk.oq ?_; try walk_nrm) | (refine Walk.un ?_; walk_nrm))
    (refine Walk.os hap c1 ?_; try walk_nrm)
    refine LW.to (l := fr :: l) m2 ?_
    unfold LW
    repeat (first | refine Walk.c rfl ?_ | refine Walk.cRet ?_ | refine Walk.cEnd ?_ | (refine Walk.cReg ?_; simp only [size53_0, size53_1, size53_2, size53_3, size53_4, size53_5, size53_6, size53_7, size53_8, size53_9, size53_10, List.range, List.range.loop]) | (refine Walk.oq ?_; try walk_nrm) | (refine Walk.un ?_; walk_nrm))
    exact Walk.on2 rfl rfl Try.func53 rfl hkk
  · have hkk := hk (.tuple #[.int .i64 0, .int .i64 3]) e1 ⟨0, 3, rfl, .inr ⟨by decide, rfl, t1⟩⟩
    unfold LW at hkk ⊢
    walk_nrm
    repeat (first | refine Walk.c rfl ?_ | refine Walk.cRet ?_ | refine Walk.cEnd ?_ | (refine Walk.cReg ?_; simp only [size53_0, size53_1, size53_2, size53_3, size53_4, size53_5, size53_6, size53_7, size53_8, size53_9, size53_10, List.range, List.range.loop]) | (refine Walk.oq ?_; try walk_nrm) | (refine Walk.un ?_; walk_nrm))
    exact Walk.on2 rfl rfl Try.func53 rfl hkk
theorem claim_s (K : Lg (soLa rb sb n ob qb m) sv) (e : K.E) (c : Int) (t : Option (Nat × (Nat → Int))) (ht : K.tgt e = soClaim n m (K.s e) c t) : SCall K.toLb 53 #[.pointer (some ⟨ob, 0, none⟩), sv, .int .i64 c] e (ClOut K c t) := by
  unfold soClaim at ht
  by_cases h1 : c < 1 ∨ (n : Int) < c
  · rw [if_pos h1] at ht
    exact claim_bad K e c t h1 ht
  · rw [if_neg h1] at ht
    by_cases h3 : 4611686018427387904 < (K.s e : So).nx + c
    · rw [if_pos h3] at ht
      exact claim_far K e c t (by omega) (by omega) h3 ht
    · rw [if_neg h3] at ht
      exact claim_go K e c t (by omega) (by omega) h3 ht
end
end
section
noncomputable def reg55_0 : Array Oper := match Try.f55.body with | some (.seq (.region _ ops _) _) => ops | _ => #[]
theorem size55_0 : reg55_0.size = 1 := by kernel_rfl
noncomputable def reg55_1 : Array Oper := match Try.f55.body with | some (.seq _ (.seq (.seq (.region _ ops _) _) _)) => ops | _ => #[]
theorem size55_1 : reg55_1.size = 4 := by kernel_rfl
noncomputable def reg55_2 : Array Oper := match Try.f55.body with | some (.seq _ (.seq (.seq _ (.cond _ (.seq (.region _ ops _) _) _)) _)) => ops | _ => #[]
theorem size55_2 : reg55_2.size = 1 := by kernel_rfl
noncomputable def reg55_3 : Array Oper := match Try.f55.body with | some (.seq _ (.seq _ (.seq (.region _ ops _) _))) => ops | _ => #[]
theorem size55_3 : reg55_3.size = 9 := by kernel_rfl
theorem code55_is : Try.f55.body = some (.seq (.region 0 reg55_0 false) (.seq (.seq (.region 1 reg55_1 false) (.cond (.tmp 12 ) (.seq (.region 2 reg55_2 false) (.ret)) (.skip))) (.seq (.region 3 reg55_3 false) (.ret)))) := by kernel_rfl
noncomputable def reg56_0 : Array Oper := match Try.f56.body with | some (.seq (.region _ ops _) _) => ops | _ => #[]
theorem size56_0 : reg56_0.size = 1 := by kernel_rfl
noncomputable def reg56_1 : Array Oper := match Try.f56.body with | some (.seq _ (.seq (.seq (.region _ ops _) _) _)) => ops | _ => #[]
theorem size56_1 : reg56_1.size = 4 := by kernel_rfl
noncomputable def reg56_2 : Array Oper := match Try.f56.body with | some (.seq _ (.seq (.seq _ (.cond _ (.seq (.region _ ops _) _) _)) _)) => ops | _ => #[]
theorem size56_2 : reg56_2.size = 1 := by kernel_rfl
noncomputable def reg56_3 : Array Oper := match Try.f56.body with | some (.seq _ (.seq _ (.seq (.region _ ops _) _))) => ops | _ => #[]
theorem size56_3 : reg56_3.size = 6 := by kernel_rfl
noncomputable def reg56_4 : Array Oper := match Try.f56.body with | some (.seq _ (.seq _ (.seq _ (.seq (.region _ ops _) _)))) => ops | _ => #[]
theorem size56_4 : reg56_4.size = 6 := by kernel_rfl
noncomputable def reg56_5 : Array Oper := match Try.f56.body with | some (.seq _ (.seq _ (.seq _ (.seq _ (.seq (.region _ ops _) _))))) => ops | _ => #[]
theorem size56_5 : reg56_5.size = 1 := by kernel_rfl
theorem code56_is : Try.f56.body = some (.seq (.region 0 reg56_0 false) (.seq (.seq (.region 1 reg56_1 false) (.cond (.tmp 10 ) (.seq (.region 2 reg56_2 false) (.ret)) (.skip))) (.seq (.region 3 reg56_3 false) (.seq (.region 4 reg56_4 false) (.seq (.region 5 reg56_5 false) (.ret)))))) := by kernel_rfl
section
variable {rb sb n ob qb m : Nat} {sv : Value}
def PtOut (K : Lg (soLa rb sb n ob qb m) sv) (t : Option WT) (N : So → Ans ⊕ SoD) (v : Value) (e' : K.E) : Prop := (v = .int .i64 0 ∧ K.tgt e' = (K.s e', soPut (K.s e') t)) ∨ (v = .int .i64 1 ∧ K.tgt e' = (K.s e', N (K.s e')))
theorem oput_s (K : Lg (soLa rb sb n ob qb m) sv) (e : K.E) (q v : Int) (t : Option WT) (N : So → Ans ⊕ SoD) (ht1 : soOpen (K.s e) q → K.tgt e = (K.s e, .inr (.p1 q v t))) (ht2 : ¬ soOpen (K.s e) q → K.tgt e = (K.s e, N (K.s e))) : SCall K.toLb 55 #[.pointer (some ⟨ob, 0, none⟩), sv, .int .i64 q, .int .i64 v] e (PtOut K t N) := by
  intro fr l hp hl hk
  have I : SoI rb sb n ob qb m (K.s e) (K.w e) := K.inv e
  have c0 : (K.w e).cell? ⟨ob, 0, none⟩ = some (.pointer (some ⟨rb, 0, none⟩)) := (cell_of I.ob 0).trans rfl
  have hbd := I.bd
  by_cases h : soOpen (K.s e) q
  · have hg : good q := by
      have h1 := h.1
      have h2 := h.2
      have h3 := hbd.pb.1
      have h4 := hbd.nx.2
      exact ⟨by omega, by omega⟩
    have hop := open_yes (main := K.main) (V := K.V e) (K.w e) I q h
    have ht := ht1 h
    have w1 := putG_s soRing K e q v hg (.p1 q v t) (.p2 q v t) (.p3 q t) (fun s => soPut s t) (fun _ => rfl) (fun _ => rfl) (fun _ => rfl) ht
    clear I hbd h ht1 ht2
    unfold LW
    rw [enter_at _ Try.func55 code55_is]
    simp only [Try.ntmps55, List.size_toArray, List.length_cons, List.length_nil, Nat.reduceAdd, Nat.reduceSub, Array.replicate_succ, Array.replicate_zero, List.push_toArray, List.append_toArray, List.nil_append, List.cons_append]
    repeat (first | refine Walk.c rfl ?_ | refine Walk.cRet ?_ | refine Walk.cEnd ?_ | (refine Walk.cReg ?_; simp only [size55_0, size55_1, size55_2, size55_3, List.range, List.range.loop]) | (refine Walk.oq ?_; try walk_nrm) | (refine Walk.un ?_; walk_nrm))
    refine Walk.callV (x := .bool true) (W := K.w e) ?_ (ho_of (by conv => lhs; whnf) (by kernel_rfl)) (by rfl) (by decide) rfl Try.func91 (by kernel_rfl) (by rfl) ?_
    · walk_nrm
      exact hop
    walk_nrm
    repeat (first | refine Walk.c rfl ?_ | refine Walk.cRet ?_ | refine Walk.cEnd ?_ | (refine Walk.cReg ?_; simp only [size55_0, size55_1, size55_2, size55_3, List.range, List.range.loop]) | (refine Walk.oq ?_; try walk_nrm) | (refine Walk.un ?_; walk_nrm))
    clear c0
    refine LW.callS (K := K.toLb) (e := e) (l := fr :: l) (f := 33) (Q := fun x e' => x = .int .i64 0 ∧ K.tgt e' = (K.s e', soPut (K.s e') t)) ?_ (ho_of (by conv => lhs; whnf) (by kernel_rfl)) (by rfl) (by decide) rfl Try.func33 (by kernel_rfl) (by rfl) ⟨rfl, rfl, _, Try.func55⟩ (plain_cons hp hl) ?_
    · walk_nrm
      exact w1
    rintro x e1 ⟨rfl, t1⟩
    have hkk := hk (.int .i64 0) e1 (.inl ⟨rfl, t1⟩)
    unfold LW at hkk ⊢
    walk_nrm
    repeat (first | refine Walk.c rfl ?_ | refine Walk.cRet ?_ | refine Walk.cEnd ?_ | (refine Walk.cReg ?_; simp only [size55_0, size55_1, size55_2, size55_3, List.range, List.range.loop]) | (refine Walk.oq ?_; try walk_nrm) | (refine Walk.un ?_; walk_nrm))
    exact Walk.on1 rfl rfl Try.func55 rfl hkk
  · have hop := open_no (main := K.main) (V := K.V e) (K.w e) I q h
    have ht := ht2 h
    have hkk := hk (.int .i64 1) e (.inr ⟨rfl, ht⟩)
    clear I hbd h ht1 ht2
    unfold LW at hkk ⊢
    rw [enter_at _ Try.func55 code55_is]
    simp only [Try.ntmps55, List.size_toArray, List.length_cons, List.length_nil, Nat.reduceAdd, Nat.reduceSub, Array.replicate_succ, Array.replicate_zero, List.push_toArray, List.append_toArray, List.nil_append, List.cons_append]
    repeat (first | refine Walk.c rfl ?_ | refine Walk.cRet ?_ | refine Walk.cEnd ?_ | (refine Walk.cReg ?_; simp only [size55_0, size55_1, size55_2, size55_3, List.range, List.range.loop]) | (refine Walk.oq ?_; try walk_nrm) | (refine Walk.un ?_; walk_nrm))
    refine Walk.callV (x := .bool false) (W := K.w e) ?_ (ho_of (by conv => lhs; whnf) (by kernel_rfl)) (by rfl) (by decide) rfl Try.func91 (by kernel_rfl) (by rfl) ?_
    · walk_nrm
      exact hop
    walk_nrm
    repeat (first | refine Walk.c rfl ?_ | refine Walk.cRet ?_ | refine Walk.cEnd ?_ | (refine Walk.cReg ?_; simp only [size55_0, size55_1, size55_2, size55_3, List.range, List.range.loop]) | (refine Walk.oq ?_; try walk_nrm) | (refine Walk.un ?_; walk_nrm))
    exact Walk.on1 rfl rfl Try.func55 rfl hkk
def PbOut (K : Lg (soLa rb sb n ob qb m) sv) (a : Ans) (N : Ans ⊕ SoD) (v : Value) (e' : K.E) : Prop := (v = .int .i64 0 ∧ K.tgt e' = (K.s e', .inl a)) ∨ (v = .int .i64 1 ∧ K.tgt e' = (K.s e', N))
theorem opub_s (K : Lg (soLa rb sb n ob qb m) sv) (e : K.E) (q : Int) (a : Ans) (N : Ans ⊕ SoD) (ht1 : soOpen (K.s e) q → K.tgt e = (K.s e, .inr (.pu q a))) (ht2 : ¬ soOpen (K.s e) q → K.tgt e = (K.s e, N)) : SCall K.toLb 56 #[.pointer (some ⟨ob, 0, none⟩), sv, .int .i64 q] e (PbOut K a N) := by
  intro fr l hp hl hk
  have I : SoI rb sb n ob qb m (K.s e) (K.w e) := K.inv e
  have hbd := I.bd
  by_cases h : soOpen (K.s e) q
  · have hg : seqP q := by
      have h1 := h.1
      have h2 := h.2
      have h3 := hbd.pb.1
      have h4 := hbd.nx.2
      exact ⟨by omega, by omega⟩
    have hop := open_yes (main := K.main) (V := K.V e) (K.w e) I q h
    have ht := ht1 h
    have w1 := word_store K curW e (.pu q a) q hg trivial ht
    unfold Wd.p at w1
    clear I hbd h ht1 ht2
    unfold LW
    rw [enter_at _ Try.func56 code56_is]
    simp only [Try.ntmps56, List.size_toArray, List.length_cons, List.length_nil, Nat.reduceAdd, Nat.reduceSub, Array.replicate_succ, Array.replicate_zero, List.push_toArray, List.append_toArray, List.nil_append, List.cons_append]
    repeat (first | refine Walk.c rfl ?_ | refine Walk.cRet ?_ | refine Walk.cEnd ?_ | (refine Walk.cReg ?_; simp only [size56_0, size56_1, size56_2, size56_3, size56_4, size56_5, List.range, List.range.loop]) | (refine Walk.oq ?_; try walk_nrm) | (refine Walk.un ?_; walk_nrm))
    refine Walk.callV (x := .bool true) (W := K.w e) ?_ (ho_of (by conv => lhs; whnf) (by kernel_rfl)) (by rfl) (by decide) rfl Try.func91 (by kernel_rfl) (by rfl) ?_
    · walk_nrm
      exact hop
    walk_nrm
    repeat (first | refine Walk.c rfl ?_ | refine Walk.cRet ?_ | refine Walk.cEnd ?_ | (refine Walk.cReg ?_; simp only [size56_0, size56_1, size56_2, size56_3, size56_4, size56_5, List.range, List.range.loop]) | (refine Walk.oq ?_; try walk_nrm) | (refine Walk.un ?_; walk_nrm))
    refine LW.callS (K := K.toLb) (e := e) (l := fr :: l) (f := 63) (Q := fun _ e' => ∃ s : So, Wrote K e (.pu q a) s (soCur s q) e') ?_ (ho_of (by conv => lhs; whnf) (by kernel_rfl)) (by rfl) (by decide) rfl Try.func63 (by kernel_rfl) (by rfl) ⟨rfl, rfl, _, Try.func56⟩ (plain_cons hp hl) ?_
    · walk_nrm
      exact w1
    rintro x e1 ⟨s, hs⟩
    have I1 : SoI rb sb n ob qb m (soCur s q) (K.w e1) := by have h := K.inv e1; rw [hs.s] at h; exact h
    have t1 : K.tgt e1 = (soPb (soCur s q) q, .inl a) := hs.tgt
    have c1 : (K.w e1).cell? ⟨ob, 4, none⟩ = some (.int .i64 (soCur s q).pb) := (cell_of I1.ob 4).trans rfl
    have z1 : (K.w e1).frozen? ⟨ob, 4, none⟩ = false := frozen_of I1.ob 4
    have hap := (K.shA e1 ob (.inr (.inr (.inl rfl)))).1 ⟨ob, 4, none⟩ rfl
    obtain ⟨e2, m2⟩ := SoI.plain e1 (soPb (soCur s q) q) ob 4 (.int .i64 q) (.inr (.inr (.inl rfl))) (I1.setB hg)
    have t2 : K.tgt e2 = (K.s e2, .inl a) := by rw [m2.tgt, m2.s]; exact t1
    have hkk := hk (.int .i64 0) e2 (.inl ⟨rfl, t2⟩)
    clear w1 I1 t1 t2
    unfold LW at hkk ⊢
    walk_nrm
    repeat (first | refine Walk.c rfl ?_ | refine Walk.cRet ?_ | refine Walk.cEnd ?_ | (refine Walk.cReg ?_; simp only [size56_0, size56_1, size56_2, size56_3, size56_4, size56_5, List.range, List.range.loop]) | (refine Walk.oq ?_; try walk_nrm) | (refine Walk.un ?_; walk_nrm))
    (refine Walk.os hap c1 ?_; try walk_nrm)
    refine LW.to (l := fr :: l) m2 ?_
    unfold LW
    repeat (first | refine Walk.c rfl ?_ | refine Walk.cRet ?_ | refine Walk.cEnd ?_ | (refine Walk.cReg ?_; simp only [size56_0, size56_1, size56_2, size56_3, size56_4, size56_5, List.range, List.range.loop]) | (refine Walk.oq ?_; try walk_nrm) | (refine Walk.un ?_; walk_nrm))
    exact Walk.on1 rfl rfl Try.func56 rfl hkk
  · have hop := open_no (main := K.main) (V := K.V e) (K.w e) I q h
    have ht := ht2 h
    have hkk := hk (.int .i64 1) e (.inr ⟨rfl, ht⟩)
    clear I hbd h ht1 ht2
    unfold LW at hkk ⊢
    rw [enter_at _ Try.func56 code56_is]
    simp only [Try.ntmps56, List.size_toArray, List.length_cons, List.length_nil, Nat.reduceAdd, Nat.reduceSub, Array.replicate_succ, Array.replicate_zero, List.push_toArray, List.append_toArray, List.nil_append, List.cons_append]
    repeat (first | refine Walk.c rfl ?_ | refine Walk.cRet ?_ | refine Walk.cEnd ?_ | (refine Walk.cReg ?_; simp only [size56_0, size56_1, size56_2, size56_3, size56_4, size56_5, List.range, List.range.loop]) | (refine Walk.oq ?_; try walk_nrm) | (refine Walk.un ?_; walk_nrm))
    refine Walk.callV (x := .bool false) (W := K.w e) ?_ (ho_of (by conv => lhs; whnf) (by kernel_rfl)) (by rfl) (by decide) rfl Try.func91 (by kernel_rfl) (by rfl) ?_
    · walk_nrm
      exact hop
    walk_nrm
    repeat (first | refine Walk.c rfl ?_ | refine Walk.cRet ?_ | refine Walk.cEnd ?_ | (refine Walk.cReg ?_; simp only [size56_0, size56_1, size56_2, size56_3, size56_4, size56_5, List.range, List.range.loop]) | (refine Walk.oq ?_; try walk_nrm) | (refine Walk.un ?_; walk_nrm))
    exact Walk.on1 rfl rfl Try.func56 rfl hkk
end
end
section
noncomputable def reg48_0 : Array Oper := match Try.f48.body with | some (.seq (.region _ ops _) _) => ops | _ => #[]
theorem size48_0 : reg48_0.size = 2 := by kernel_rfl
noncomputable def reg48_1 : Array Oper := match Try.f48.body with | some (.seq _ (.seq (.region _ ops _) _)) => ops | _ => #[]
theorem size48_1 : reg48_1.size = 10 := by kernel_rfl
noncomputable def reg48_2 : Array Oper := match Try.f48.body with | some (.seq _ (.seq _ (.seq (.seq (.region _ ops _) _) _))) => ops | _ => #[]
theorem size48_2 : reg48_2.size = 2 := by kernel_rfl
noncomputable def reg48_3 : Array Oper := match Try.f48.body with | some (.seq _ (.seq _ (.seq (.seq _ (.cond _ (.seq (.region _ ops _) _) _)) _))) => ops | _ => #[]
theorem size48_3 : reg48_3.size = 3 := by kernel_rfl
noncomputable def reg48_4 : Array Oper := match Try.f48.body with | some (.seq _ (.seq _ (.seq _ (.seq (.seq (.region _ ops _) _) _)))) => ops | _ => #[]
theorem size48_4 : reg48_4.size = 3 := by kernel_rfl
noncomputable def reg48_5 : Array Oper := match Try.f48.body with | some (.seq _ (.seq _ (.seq _ (.seq (.seq _ (.block _ (.loop (.seq (.region _ ops _) _)))) _)))) => ops | _ => #[]
theorem size48_5 : reg48_5.size = 1 := by kernel_rfl
noncomputable def reg48_6 : Array Oper := match Try.f48.body with | some (.seq _ (.seq _ (.seq _ (.seq (.seq _ (.block _ (.loop (.seq _ (.seq _ (.seq (.block _ (.seq (.region _ ops _) _)) _)))))) _)))) => ops | _ => #[]
theorem size48_6 : reg48_6.size = 5 := by kernel_rfl
noncomputable def reg48_7 : Array Oper := match Try.f48.body with | some (.seq _ (.seq _ (.seq _ (.seq (.seq _ (.block _ (.loop (.seq _ (.seq _ (.seq (.block _ (.seq _ (.region _ ops _))) _)))))) _)))) => ops | _ => #[]
theorem size48_7 : reg48_7.size = 7 := by kernel_rfl
noncomputable def reg48_8 : Array Oper := match Try.f48.body with | some (.seq _ (.seq _ (.seq _ (.seq (.seq _ (.block _ (.loop (.seq _ (.seq _ (.seq _ (.region _ ops _))))))) _)))) => ops | _ => #[]
theorem size48_8 : reg48_8.size = 2 := by kernel_rfl
noncomputable def reg48_9 : Array Oper := match Try.f48.body with | some (.seq _ (.seq _ (.seq _ (.seq _ (.seq (.region _ ops _) _))))) => ops | _ => #[]
theorem size48_9 : reg48_9.size = 8 := by kernel_rfl
noncomputable def reg48_10 : Array Oper := match Try.f48.body with | some (.seq _ (.seq _ (.seq _ (.seq _ (.seq _ (.seq (.region _ ops _) _)))))) => ops | _ => #[]
theorem size48_10 : reg48_10.size = 3 := by kernel_rfl
theorem code48_is : Try.f48.body = some (.seq (.region 0 reg48_0 false) (.seq (.region 1 reg48_1 false) (.seq (.seq (.region 2 reg48_2 false) (.cond (.tmp 21 ) (.seq (.region 3 reg48_3 false) (.ret)) (.skip))) (.seq (.seq (.region 4 reg48_4 false) (.block 0 (.loop (.seq (.region 5 reg48_5 false) (.seq (.cond (.tmp 26 ) (.skip) (.exit 0)) (.seq (.block 1 (.seq (.region 6 reg48_6 false) (.region 7 reg48_7 false))) (.region 8 reg48_8 false))))))) (.seq (.region 9 reg48_9 false) (.seq (.region 10 reg48_10 false) (.ret))))))) := by kernel_rfl
noncomputable def hdWr (ob : Nat) (sv sl : Value) (f : Int) (N i : Nat) (u : Nat → Value) : Frame :=
  (base 48).at { tmps := #[.pointer (some ⟨ob, 0, none⟩), sv, sl, u 3, u 4, u 5, u 6, u 7, .int .i64 f, u 9, u 10, u 11, u 12, u 13, u 14, u 15, u 16, u 17, u 18, u 19, u 20, u 21, u 22, sl, .int .i64 N, .int .i64 i, u 26, u 27, u 28, u 29, u 30, u 31, u 32, u 33, u 34, u 35, u 36, u 37, u 38, u 39, u 40, u 41, u 42, u 43, u 44, u 45, u 46], defers := [] } [.code (.seq (.region 5 reg48_5 false) (.seq (.cond (.tmp 26 ) (.skip) (.exit 0)) (.seq (.block 1 (.seq (.region 6 reg48_6 false) (.region 7 reg48_7 false))) (.region 8 reg48_8 false)))), .inLoop (.seq (.region 5 reg48_5 false) (.seq (.cond (.tmp 26 ) (.skip) (.exit 0)) (.seq (.block 1 (.seq (.region 6 reg48_6 false) (.region 7 reg48_7 false))) (.region 8 reg48_8 false)))), .inBlock 0, .code (.seq (.region 9 reg48_9 false) (.seq (.region 10 reg48_10 false) (.ret)))]
section
variable {rb sb n ob qb m : Nat} {sv : Value}
theorem soW_open (s : So) (f : Int) (N : Nat) (xs : Nat → Int) (i r : Nat) (h : i + (r + 1) = N) : (soOpen s (f + i) → soW s f N xs (r + 1) = .inr (.p1 (f + i) (xs i) (some ⟨f, N, xs, r⟩))) ∧ (¬ soOpen s (f + i) → soW s f N xs (r + 1) = soW s f N xs r) := by
  have e : N - (r + 1) = i := by omega
  constructor
  · intro ho
    show (if soOpen s (f + ((N - (r + 1) : Nat) : Int)) then _ else _) = _
    rw [e, if_pos ho]
  · intro ho
    show (if soOpen s (f + ((N - (r + 1) : Nat) : Int)) then _ else _) = _
    rw [e, if_neg ho]
theorem wr_round (K : Lg (soLa rb sb n ob qb m) sv) (a' : Option Addr) (cp : Nat) (vs : List Int) (xs : Nat → Int) (hrd : ∀ e' : K.E, LsR (.slice a' vs.length cp) vs (K.w e')) (f : Int) (hf0 : 0 ≤ f) (hf1 : f + vs.length ≤ 4611686018427387904) (hN : vs.length ≤ 65536) (fr : Frame) (l : List Frame) (hp : Plain fr) (hl : ∀ f ∈ l, Plain f) (i r : Nat) (hi : i + (r + 1) = vs.length) (hx : vs[i]? = some (xs i)) (e : K.E) (u : Nat → Value) (ht : K.tgt e = (K.s e, soW (K.s e) f vs.length xs (r + 1)))
    (ih : ∀ (e' : K.E) (u' : Nat → Value), K.tgt e' = (K.s e', soW (K.s e') f vs.length xs r) → LW K.toLb e' (G (hdWr ob sv (.slice a' vs.length cp) f vs.length (i + 1) u') (fr :: (l ++ K.bot e')))) :
    LW K.toLb e (G (hdWr ob sv (.slice a' vs.length cp) f vs.length i u) (fr :: (l ++ K.bot e))) := by
  obtain ⟨ca, cc, ce, _, _, hcs⟩ := hrd e
  injection ce with ce1 _ ce3
  subst ce1
  subst ce3
  obtain ⟨b, o, rfl, hc⟩ := hcs i _ hx
  have w1 := oput_s K e (f + i) (xs i) (some ⟨f, vs.length, xs, r⟩) (fun s => soW s f vs.length xs r) (fun ho => ht.trans (congrArg (Prod.mk _) ((soW_open _ f _ xs i r hi).1 ho))) (fun ho => ht.trans (congrArg (Prod.mk _) ((soW_open _ f _ xs i r hi).2 ho)))
  clear hcs hrd ht hx
  generalize xs i = x at *
  generalize vs.length = N at *
  have hi0 : (0 : Int) ≤ i := by omega
  have hi1 : decide ((i : Int) < N) = true := by simp; omega
  have hi3 : decide (i < N) = true := by simp; omega
  have hi4 : (i : Int) < N := by omega
  have hw1 : IntKind.wrap .i64 ((i : Int) + 1) = (i : Int) + 1 := by rw [IntKind.wrap_i64]; omega
  have hw2 : IntKind.wrap .i64 (f + (i : Int)) = f + i := by rw [IntKind.wrap_i64]; omega
  have hcc : ((i + 1 : Nat) : Int) = (i : Int) + 1 := by simp
  unfold LW hdWr
  repeat (first | refine Walk.c rfl ?_ | refine Walk.cRet ?_ | refine Walk.cEnd ?_ | (refine Walk.cReg ?_; simp only [size48_0, size48_1, size48_2, size48_3, size48_4, size48_5, size48_6, size48_7, size48_8, size48_9, size48_10, List.range, List.range.loop]) | (refine Walk.oq ?_; try walk_nrm) | (refine Walk.un ?_; walk_nrm))
  clear hc
  refine LW.callS (K := K.toLb) (e := e) (l := fr :: l) (f := 55) (Q := PtOut K (some ⟨f, N, xs, r⟩) (fun s => soW s f N xs r)) ?_ (ho_of (by conv => lhs; whnf) (by kernel_rfl)) (by rfl) (by decide) rfl Try.func55 (by kernel_rfl) (by rfl) ⟨rfl, rfl, _, Try.func48⟩ (plain_cons hp hl) ?_
  · walk_nrm
    exact w1
  intro v e1 h
  have t1 : K.tgt e1 = (K.s e1, soW (K.s e1) f N xs r) := by
    rcases h with ⟨_, h⟩ | ⟨_, h⟩
    · exact h
    · exact h
  have hih := fun u => ih e1 u t1
  clear w1 ih t1 h
  unfold LW at hih ⊢
  walk_nrm
  repeat (first | refine Walk.c rfl ?_ | refine Walk.cRet ?_ | refine Walk.cEnd ?_ | (refine Walk.cReg ?_; simp only [size48_0, size48_1, size48_2, size48_3, size48_4, size48_5, size48_6, size48_7, size48_8, size48_9, size48_10, List.range, List.range.loop]) | (refine Walk.oq ?_; try walk_nrm) | (refine Walk.un ?_; walk_nrm))
  refine Walk.ctl rfl (fun w => stepG_inLoop) ?_
  refine slots_walk (F := fun u => G (hdWr ob sv (.slice (some ⟨b, o, none⟩) N cp) f N (i + 1) u) (fr :: (l ++ K.bot e1))) hih ?_
  simp only [hdWr, hcc]
  rfl
theorem wr_end (K : Lg (soLa rb sb n ob qb m) sv) (a' : Option Addr) (cp N : Nat) (xs : Nat → Int) (f : Int) (hf0 : 0 ≤ f) (hf1 : f + N ≤ 4611686018427387904) (fr : Frame) (l : List Frame) (hp : Plain fr) (hl : ∀ f ∈ l, Plain f) (hk : ∀ x e', ErOut K x e' → LW K.toLb e' (G (fr.finish x) (l ++ K.bot e'))) (e : K.E) (u : Nat → Value) (ht : K.tgt e = (K.s e, soW (K.s e) f N xs 0)) :
    LW K.toLb e (G (hdWr ob sv (.slice a' N cp) f N N u) (fr :: (l ++ K.bot e))) := by
  have hi1 : decide ((N : Int) < N) = false := by simp
  have hi3 : decide (N < N) = false := by simp
  have hw1 : IntKind.wrap .i64 (f + (N : Int)) = f + N := by rw [IntKind.wrap_i64]; omega
  have hw2 : IntKind.wrap .i64 (f + (N : Int) - 1) = f + N - 1 := by rw [IntKind.wrap_i64]; omega
  have w1 := opub_s K e (f + N - 1) ⟨true, f, []⟩ (.inl ⟨true, f, []⟩) (fun ho => ht.trans (congrArg (Prod.mk _) (if_pos ho))) (fun ho => ht.trans (congrArg (Prod.mk _) (if_neg ho)))
  clear ht
  unfold LW hdWr
  repeat (first | refine Walk.c rfl ?_ | refine Walk.cRet ?_ | refine Walk.cEnd ?_ | (refine Walk.cReg ?_; simp only [size48_0, size48_1, size48_2, size48_3, size48_4, size48_5, size48_6, size48_7, size48_8, size48_9, size48_10, List.range, List.range.loop]) | (refine Walk.oq ?_; try walk_nrm) | (refine Walk.un ?_; walk_nrm))
  refine LW.callS (K := K.toLb) (e := e) (l := fr :: l) (f := 56) (Q := PbOut K ⟨true, f, []⟩ (.inl ⟨true, f, []⟩)) ?_ (ho_of (by conv => lhs; whnf) (by kernel_rfl)) (by rfl) (by decide) rfl Try.func56 (by kernel_rfl) (by rfl) ⟨rfl, rfl, _, Try.func48⟩ (plain_cons hp hl) ?_
  · walk_nrm
    exact w1
  intro v e1 h
  have t1 : K.tgt e1 = (K.s e1, .inl ⟨true, f, []⟩) := by
    rcases h with ⟨_, h⟩ | ⟨_, h⟩
    · exact h
    · exact h
  have hkk := hk (.tuple #[.int .i64 f, .int .i64 0]) e1 ⟨f, 0, rfl, t1, fun h => absurd rfl h⟩
  clear w1 t1 h hw1 hw2
  unfold LW at hkk ⊢
  walk_nrm
  repeat (first | refine Walk.c rfl ?_ | refine Walk.cRet ?_ | refine Walk.cEnd ?_ | (refine Walk.cReg ?_; simp only [size48_0, size48_1, size48_2, size48_3, size48_4, size48_5, size48_6, size48_7, size48_8, size48_9, size48_10, List.range, List.range.loop]) | (refine Walk.oq ?_; try walk_nrm) | (refine Walk.un ?_; walk_nrm))
  exact Walk.on2 rfl rfl Try.func48 rfl hkk
theorem wr_loop (K : Lg (soLa rb sb n ob qb m) sv) (a' : Option Addr) (cp : Nat) (vs : List Int) (xs : Nat → Int) (hxs : ∀ i, i < vs.length → vs[i]? = some (xs i)) (hrd : ∀ e' : K.E, LsR (.slice a' vs.length cp) vs (K.w e')) (f : Int) (hf0 : 0 ≤ f) (hf1 : f + vs.length ≤ 4611686018427387904) (hN : vs.length ≤ 65536) (fr : Frame) (l : List Frame) (hp : Plain fr) (hl : ∀ f ∈ l, Plain f) (hk : ∀ x e', ErOut K x e' → LW K.toLb e' (G (fr.finish x) (l ++ K.bot e'))) :
    ∀ (r i : Nat) (e : K.E) (u : Nat → Value), i + r = vs.length → K.tgt e = (K.s e, soW (K.s e) f vs.length xs r) → LW K.toLb e (G (hdWr ob sv (.slice a' vs.length cp) f vs.length i u) (fr :: (l ++ K.bot e))) := by
  intro r
  induction r with
  | zero =>
    intro i e u hi ht
    have hi : i = vs.length := hi
    subst hi
    exact wr_end K a' cp vs.length xs f hf0 hf1 fr l hp hl hk e u ht
  | succ r ih =>
    intro i e u hi ht
    exact wr_round K a' cp vs xs hrd f hf0 hf1 hN fr l hp hl i r hi (hxs i (by omega)) e u ht fun e' u' ht' => ih (i + 1) e' u' (by omega) ht'
theorem write_so (K : Lg (soLa rb sb n ob qb m) sv) (e : K.E) (a' : Option Addr) (cp : Nat) (vs : List Int) (xs : Nat → Int) (hxs : ∀ i, i < vs.length → vs[i]? = some (xs i)) (hrd : ∀ e' : K.E, LsR (.slice a' vs.length cp) vs (K.w e')) (ht : K.tgt e = soClaim n m (K.s e) vs.length (some (vs.length, xs))) : SCall K.toLb 48 #[.pointer (some ⟨ob, 0, none⟩), sv, .slice a' vs.length cp] e (ErOut K) := by
  intro fr l hp hl hk
  have hn := (SoI.ring (K.inv e)).pos
  have w1 := claim_s K e vs.length (some (vs.length, xs)) ht
  have hlp := fun (f : Int) h0 h1 h2 e' u h3 => wr_loop K a' cp vs xs hxs hrd f h0 h1 h2 fr l hp hl hk vs.length 0 e' u (Nat.zero_add _) h3
  clear ht hxs hrd
  generalize vs.length = N at *
  unfold LW
  rw [enter_at _ Try.func48 code48_is]
  simp only [Try.ntmps48, List.size_toArray, List.length_cons, List.length_nil, Nat.reduceAdd, Nat.reduceSub, Array.replicate_succ, Array.replicate_zero, List.push_toArray, List.append_toArray, List.nil_append, List.cons_append]
  repeat (first | refine Walk.c rfl ?_ | refine Walk.cRet ?_ | refine Walk.cEnd ?_ | (refine Walk.cReg ?_; simp only [size48_0, size48_1, size48_2, size48_3, size48_4, size48_5, size48_6, size48_7, size48_8, size48_9, size48_10, List.range, List.range.loop]) | (refine Walk.oq ?_; try walk_nrm) | (refine Walk.un ?_; walk_nrm))
  refine LW.callS (K := K.toLb) (e := e) (l := fr :: l) (f := 53) (Q := ClOut K N (some (N, xs))) ?_ (ho_of (by conv => lhs; whnf) (by kernel_rfl)) (by rfl) (by decide) rfl Try.func53 (by kernel_rfl) (by rfl) ⟨rfl, rfl, _, Try.func48⟩ (plain_cons hp hl) ?_
  · walk_nrm
    exact w1
  rintro v e1 ⟨a, er, rfl, h⟩
  clear w1
  rcases h with ⟨rfl, t1, h0, h1, h2, h3⟩ | ⟨her, rfl, t1⟩
  · have hh := fun u => hlp a h0 h1 (by omega) e1 u t1
    clear hlp hk t1
    unfold LW at hh ⊢
    walk_nrm
    repeat (first | refine Walk.c rfl ?_ | refine Walk.cRet ?_ | refine Walk.cEnd ?_ | (refine Walk.cReg ?_; simp only [size48_0, size48_1, size48_2, size48_3, size48_4, size48_5, size48_6, size48_7, size48_8, size48_9, size48_10, List.range, List.range.loop]) | (refine Walk.oq ?_; try walk_nrm) | (refine Walk.un ?_; walk_nrm))
    refine Walk.ctl rfl (fun w => stepG_loop) ?_
    refine slots_walk (F := fun u => G (hdWr ob sv (.slice a' N cp) a N 0 u) (fr :: (l ++ K.bot e1))) hh ?_
    simp only [hdWr]
    rfl
  · have hb1 : (er == 0) = false := by simp [her]
    have hb2 : (er != 0) = true := by simp [her]
    have hkk := hk (.tuple #[.int .i64 0, .int .i64 er]) e1 ⟨0, er, rfl, by rw [hb1, if_neg her]; exact t1, fun _ => rfl⟩
    clear hlp hk t1
    unfold LW at hkk ⊢
    walk_nrm
    repeat (first | refine Walk.c rfl ?_ | refine Walk.cRet ?_ | refine Walk.cEnd ?_ | (refine Walk.cReg ?_; simp only [size48_0, size48_1, size48_2, size48_3, size48_4, size48_5, size48_6, size48_7, size48_8, size48_9, size48_10, List.range, List.range.loop]) | (refine Walk.oq ?_; try walk_nrm) | (refine Walk.un ?_; walk_nrm))
    exact Walk.on2 rfl rfl Try.func48 rfl hkk
end
end
end Go.Proofs.Ytbmijpkdghkbbaa
