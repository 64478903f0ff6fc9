/- Part 20. -/
import Derived.Test.YtdcjgmlgmjjogaaJ4
import Derived.Test.YtdcjgmlgmjjogaaJ14
import Derived.Test.YtdcjgmlgmjjogaaJ16
import Derived.Test.YtdcjgmlgmjjogaaJ19
set_option linter.unusedSimpArgs false
set_option linter.unusedVariables false
set_option maxHeartbeats 8000000
set_option maxRecDepth 100000
namespace Go.Proofs.Ytdcjgmlgmjjogaa
open Go.Conc Go.RowKit Go.Relay
open Go.ConcN (upd upd_ne upd_same)
section
section
variable {cb m : Nat}
theorem onEnter_out {s : Oz} {o : OpV} (h : o.a < 0 ∨ (m : Int) ≤ o.a) : onEnter m s o = (s, .inl (false, 0)) := by unfold onEnter; rw [if_pos h]
theorem onEnter_in {s : Oz} {o : OpV} (h : ¬ (o.a < 0 ∨ (m : Int) ≤ o.a)) : onEnter m s o = if o.k = 1 then (s, .inr (.g1 o.a.toNat)) else if o.k = 2 then (s, .inr (.s1 o.a.toNat o.b))
 else if o.k = 3 then (s, .inr (.m1 false o.a.toNat o.b (triesX o.c))) else if o.k = 4 then (s, .inr (.m1 true o.a.toNat 0 (triesX o.c))) else (s, .inl (false, 0)) := by unfold onEnter; rw [if_neg h]
theorem onKind_no (s : Oz) (o : OpV) (h1 : o.k ≠ 1) (h2 : o.k ≠ 2) (h3 : o.k ≠ 3) (h4 : o.k ≠ 4) : (if o.k = 1 then (s, .inr (.g1 o.a.toNat)) else if o.k = 2 then (s, .inr (.s1 o.a.toNat o.b))
 else if o.k = 3 then (s, .inr (.m1 false o.a.toNat o.b (triesX o.c))) else if o.k = 4 then (s, .inr (.m1 true o.a.toNat 0 (triesX o.c))) else (s, .inl (false, 0)) : Oz × (Ans ⊕ OD)) = (s, .inl (false, 0)) := by
 rw [if_neg h1, if_neg h2, if_neg h3, if_neg h4]
theorem odo_s {sv : Value} (K : Lg (onLa cb m) sv) (hm : m ≤ 64) (e : K.E) (th ok oa ob oc : Int) (ht : K.tgt e = onEnter m (K.s e) ⟨ok, oa, ob, oc⟩) :
  SCall K.toLb 30 #[.slice (some ⟨cb, 0, none⟩) m m, sv, .int .i64 th, .agg #[.int .i64 ok, .int .i64 oa, .int .i64 ob, .int .i64 oc]] e (fun v e' => ∃ a, K.tgt e' = (K.s e', .inl a) ∧ v = ansVal a) := by
 intro fr l hp hl hk
 unfold LW
 rw [enter_at _ Try.func30 code30_is]
 simp only [Try.ntmps30, ez, Nat.reduceAdd, Nat.reduceSub]
 repeat (first | refine Walk.cx ?_ | (refine Walk.cReg ?_; simp only [z30]) | (refine Walk.oq ?_; try walk_nrm) | (refine Walk.un ?_; walk_nrm))
 (refine Walk.oa ?_; try walk_nrm)
 (refine Walk.oa ?_; try walk_nrm)
 have hA1 : ((K.w e).alloc (.cells #[.int .i64 ok, .int .i64 oa, .int .i64 ob, .int .i64 oc] 34)).heap.size = (K.w e).heap.size + 1 := by simp
 have c1 : (((K.w e).alloc (.cells #[.int .i64 ok, .int .i64 oa, .int .i64 ob, .int .i64 oc] 34)).alloc (.cells #[.bool false, .int .i64 0, .slice none 0 0] 51)).heap[(K.w e).heap.size]? = some (.cells #[.int .i64 ok, .int .i64 oa, .int .i64 ob, .int .i64 oc] 34) := by
  rw [heap_new_lt _ _ (by omega)]
  exact heap_alloc_new _ _
 have c2 : (((K.w e).alloc (.cells #[.int .i64 ok, .int .i64 oa, .int .i64 ob, .int .i64 oc] 34)).alloc (.cells #[.bool false, .int .i64 0, .slice none 0 0] 51)).heap[(K.w e).heap.size + 1]? = some (.cells #[.bool false, .int .i64 0, .slice none 0 0] 51) := by
  have := heap_alloc_new ((K.w e).alloc (.cells #[.int .i64 ok, .int .i64 oa, .int .i64 ob, .int .i64 oc] 34)) (.cells #[.bool false, .int .i64 0, .slice none 0 0] 51)
  rwa [hA1] at this
 have hs2 : (((K.w e).alloc (.cells #[.int .i64 ok, .int .i64 oa, .int .i64 ob, .int .i64 oc] 34)).alloc (.cells #[.bool false, .int .i64 0, .slice none 0 0] 51)).heap.size = (K.w e).heap.size + 2 := by simp
 obtain ⟨e1, m1⟩ := K.grow e (w' := ((K.w e).alloc (.cells #[.int .i64 ok, .int .i64 oa, .int .i64 ob, .int .i64 oc] 34)).alloc (.cells #[.bool false, .int .i64 0, .slice none 0 0] 51)) (by omega) (fun b hb' => by
  rw [heap_new_lt _ _ (by omega)]
  exact heap_new_lt _ _ hb')
 try simp only [hA1]
 generalize hw2 : ((K.w e).alloc (.cells #[.int .i64 ok, .int .i64 oa, .int .i64 ob, .int .i64 oc] 34)).alloc (.cells #[.bool false, .int .i64 0, .slice none 0 0] 51) = w2 at *
 generalize hN : (K.w e).heap.size = N at *
 have hmn : K.mine e1 (N + 1) := m1.new (by omega) (by omega)
 have ht1 : K.tgt e1 = onEnter m (K.s e1) ⟨ok, oa, ob, oc⟩ := by rw [m1.tgt, m1.s]; exact ht
 have d0 := (cell_of c1 0).trans rfl
 have d1 := (cell_of c1 1).trans rfl
 have d2 := (cell_of c1 2).trans rfl
 have d3 := (cell_of c1 3).trans rfl
 have hw1 := m1.w
 refine LW.to (l := fr :: l) m1 ?_
 unfold LW
 clear hw2 m1 ht
 subst hw1
 have hapN := (K.mineA e1 _ hmn).1
 repeat (first | refine Walk.cx ?_ | (refine Walk.cReg ?_; simp only [z30]) | (refine Walk.oq ?_; try walk_nrm) | (refine Walk.un ?_; walk_nrm))
 by_cases hlo : oa < 0
 ·have hb0 : decide (oa < 0) = true := by simp [hlo]
  have ht2 : K.tgt e1 = (K.s e1, .inl (false, 0)) := ht1.trans (onEnter_out (.inl hlo))
  simp only [hb0]
  repeat (first | refine Walk.cx ?_ | (refine Walk.cReg ?_; simp only [z30]) | (refine Walk.oq ?_; try walk_nrm) | (refine Walk.un ?_; walk_nrm))
  refine Walk.storeS 51 (.tmp 8) (.tmp 24) (ho_of (by conv => lhs; whnf) (by kernel_rfl)) (by rfl) (by decide) rfl (N + 1) #[.bool false, .int .i64 0, .slice none 0 0] _ 51 rfl rfl c2 (by kernel_rfl) (by rfl) (by simp [Value.oneCell']) hapN ?_
  walk_nrm
  repeat (first | refine Walk.cx ?_ | (refine Walk.cReg ?_; simp only [z30]) | (refine Walk.oq ?_; try walk_nrm) | (refine Walk.un ?_; walk_nrm))
  exact cell_back K (a := (false, 0)) (Q := fun _ _ => True) hmn c2 ht2 (fun e' h => hk _ e' ⟨_, h, rfl⟩) Try.func30 rfl ⟨rfl, rfl, rfl, rfl, rfl⟩
 have hb0 : decide (oa < 0) = false := by simp only [decide_eq_false_iff_not]; exact hlo
 simp only [hb0]
 repeat (first | refine Walk.cx ?_ | (refine Walk.cReg ?_; simp only [z30]) | (refine Walk.oq ?_; try walk_nrm) | (refine Walk.un ?_; walk_nrm))
 by_cases hhi : (m : Int) ≤ oa
 ·have hb1 : decide ((m : Int) ≤ oa) = true := by simp [hhi]
  have ht2 : K.tgt e1 = (K.s e1, .inl (false, 0)) := ht1.trans (onEnter_out (.inr hhi))
  simp only [hb1]
  repeat (first | refine Walk.cx ?_ | (refine Walk.cReg ?_; simp only [z30]) | (refine Walk.oq ?_; try walk_nrm) | (refine Walk.un ?_; walk_nrm))
  refine Walk.storeS 51 (.tmp 8) (.tmp 24) (ho_of (by conv => lhs; whnf) (by kernel_rfl)) (by rfl) (by decide) rfl (N + 1) #[.bool false, .int .i64 0, .slice none 0 0] _ 51 rfl rfl c2 (by kernel_rfl) (by rfl) (by simp [Value.oneCell']) hapN ?_
  walk_nrm
  repeat (first | refine Walk.cx ?_ | (refine Walk.cReg ?_; simp only [z30]) | (refine Walk.oq ?_; try walk_nrm) | (refine Walk.un ?_; walk_nrm))
  exact cell_back K (a := (false, 0)) (Q := fun _ _ => True) hmn c2 ht2 (fun e' h => hk _ e' ⟨_, h, rfl⟩) Try.func30 rfl ⟨rfl, rfl, rfl, rfl, rfl⟩
 have hb1 : decide ((m : Int) ≤ oa) = false := by simp; omega
 obtain ⟨i, rfl⟩ : ∃ i : Nat, oa = i := ⟨oa.toNat, by omega⟩
 have hi : i < m := by omega
 have ht2 := ht1.trans (onEnter_in (by show ¬ ((i : Int) < 0 ∨ (m : Int) ≤ i); omega))
 have hi0 : (0 : Int) ≤ i := by omega
 have hi1 : decide ((i : Int) < m) = true := by simp; omega
 have hi3 : decide (i < m) = true := by simp; omega
 have hi4 : (i : Int) < m := by omega
 clear ht1
 simp only [hb1]
 repeat (first | refine Walk.cx ?_ | (refine Walk.cReg ?_; simp only [z30]) | (refine Walk.oq ?_; try walk_nrm) | (refine Walk.un ?_; walk_nrm))
 by_cases h1 : ok = 1
 ·subst h1
  have ht3 : K.tgt e1 = (K.s e1, .inr (.g1 i)) := ht2
  repeat (first | refine Walk.cx ?_ | (refine Walk.cReg ?_; simp only [z30]) | (refine Walk.oq ?_; try walk_nrm) | (refine Walk.un ?_; walk_nrm))
  have hg := SCall.fz K (get_s (Fz K e1) i hi (.g1 i) (.g2 i) (.inl (false, 0)) (fun y => .inl (true, y)) (fun _ => rfl) (fun _ => rfl) (fz0 K e1) ht3)
  unfold onP at hg
  refine LW.callS (K := K.toLb) (e := e1) (l := fr :: l) (f := 40) (Q := fun x e' => ∃ h : Kept K e1 e', GetOut (Fz K e1) (fz0 K e1) (.inl (false, 0)) (fun y => .inl (true, y)) x ⟨e', h⟩) ?_ (ho_of (by conv => lhs; whnf) (by kernel_rfl)) (by rfl) (by decide) rfl Try.func40 (by kernel_rfl) (by rfl) ⟨rfl, rfl, _, Try.func30⟩ (plain_cons hp hl) ?_
  ·walk_nrm
   exact hg
  rintro x e2 ⟨hkept, _, hx⟩
  obtain ⟨hm2, hb2⟩ := hkept (N + 1) hmn
  rw [c2] at hb2
  have hap2 := (K.mineA e2 _ hm2).1
  obtain ⟨b, y, rfl, ht4⟩ : ∃ b y, x = .tuple #[.int .i64 y, .bool b] ∧ K.tgt e2 = (K.s e2, .inl (b, y)) := by
   rcases hx with ⟨h1, h2⟩ | ⟨y, h1, h2⟩
   ·exact ⟨_, _, h1, h2⟩
   ·exact ⟨_, _, h1, h2⟩
  clear hx hg
  unfold LW
  walk_nrm
  repeat (first | refine Walk.cx ?_ | (refine Walk.cReg ?_; simp only [z30]) | (refine Walk.oq ?_; try walk_nrm) | (refine Walk.un ?_; walk_nrm))
  refine Walk.storeS 51 (.tmp 8) (.tmp 41) (ho_of (by conv => lhs; whnf) (by kernel_rfl)) (by rfl) (by decide) rfl (N + 1) #[.bool b, .int .i64 y, .slice none 0 0] _ 51 rfl rfl hb2 (by kernel_rfl) (by rfl) (by simp [Value.oneCell']) hap2 ?_
  walk_nrm
  repeat (first | refine Walk.cx ?_ | (refine Walk.cReg ?_; simp only [z30]) | (refine Walk.oq ?_; try walk_nrm) | (refine Walk.un ?_; walk_nrm))
  exact cell_back K (a := (b, y)) (Q := fun _ _ => True) hm2 hb2 ht4 (fun e' h => hk _ e' ⟨_, h, rfl⟩) Try.func30 rfl ⟨rfl, rfl, rfl, rfl, rfl⟩
 have hbk1 : (ok == 1) = false := by simp [h1]
 simp only [hbk1]
 repeat (first | refine Walk.cx ?_ | (refine Walk.cReg ?_; simp only [z30]) | (refine Walk.oq ?_; try walk_nrm) | (refine Walk.un ?_; walk_nrm))
 by_cases h2 : ok = 2
 ·subst h2
  have ht3 : K.tgt e1 = (K.s e1, .inr (.s1 i ob)) := ht2
  repeat (first | refine Walk.cx ?_ | (refine Walk.cReg ?_; simp only [z30]) | (refine Walk.oq ?_; try walk_nrm) | (refine Walk.un ?_; walk_nrm))
  have hg := SCall.fz K (set_s (Fz K e1) i hi ob (fz0 K e1) ht3)
  unfold onP at hg
  refine LW.callS (K := K.toLb) (e := e1) (l := fr :: l) (f := 41) (Q := fun x e' => ∃ h : Kept K e1 e', TwoOut (Fz K e1) x ⟨e', h⟩) ?_ (ho_of (by conv => lhs; whnf) (by kernel_rfl)) (by rfl) (by decide) rfl Try.func41 (by kernel_rfl) (by rfl) ⟨rfl, rfl, _, Try.func30⟩ (plain_cons hp hl) ?_
  ·walk_nrm
   exact hg
  rintro x e2 ⟨hkept, b, y, rfl, ht4⟩
  replace ht4 : K.tgt e2 = (K.s e2, .inl (b, y)) := ht4
  obtain ⟨hm2, hb2⟩ := hkept (N + 1) hmn
  rw [c2] at hb2
  have hap2 := (K.mineA e2 _ hm2).1
  clear hg
  unfold LW
  walk_nrm
  repeat (first | refine Walk.cx ?_ | (refine Walk.cReg ?_; simp only [z30]) | (refine Walk.oq ?_; try walk_nrm) | (refine Walk.un ?_; walk_nrm))
  refine Walk.storeS 51 (.tmp 8) (.tmp 54) (ho_of (by conv => lhs; whnf) (by kernel_rfl)) (by rfl) (by decide) rfl (N + 1) #[.bool b, .int .i64 y, .slice none 0 0] _ 51 rfl rfl hb2 (by kernel_rfl) (by rfl) (by simp [Value.oneCell']) hap2 ?_
  walk_nrm
  repeat (first | refine Walk.cx ?_ | (refine Walk.cReg ?_; simp only [z30]) | (refine Walk.oq ?_; try walk_nrm) | (refine Walk.un ?_; walk_nrm))
  exact cell_back K (a := (b, y)) (Q := fun _ _ => True) hm2 hb2 ht4 (fun e' h => hk _ e' ⟨_, h, rfl⟩) Try.func30 rfl ⟨rfl, rfl, rfl, rfl, rfl⟩
 have hbk2 : (ok == 2) = false := by simp [h2]
 simp only [hbk2]
 repeat (first | refine Walk.cx ?_ | (refine Walk.cReg ?_; simp only [z30]) | (refine Walk.oq ?_; try walk_nrm) | (refine Walk.un ?_; walk_nrm))
 by_cases h3 : ok = 3
 ·subst h3
  have ht3 : K.tgt e1 = (K.s e1, .inr (.m1 false i ob (triesX oc))) := ht2
  repeat (first | refine Walk.cx ?_ | (refine Walk.cReg ?_; simp only [z30]) | (refine Walk.oq ?_; try walk_nrm) | (refine Walk.un ?_; walk_nrm))
  refine slots_walk (F := fun u => G ((base 30).at ⟨tmD sv N cb i u, []⟩ (.code (.region 12 reg30_12 true) :: _)) (fr :: (l ++ K.bot e1))) (fun u => do_mk K i hi N 3 i ob oc e1 hmn c1 c2 ht3 fr l hp hl (fun e' a h => hk _ e' ⟨_, h, rfl⟩) _ u fun u e' a hm2 hb2 ht4 => ?_) rfl
  simp only [tmD]
  repeat (first | refine Walk.cx ?_ | (refine Walk.cReg ?_; simp only [z30]) | (refine Walk.oq ?_; try walk_nrm) | (refine Walk.un ?_; walk_nrm))
  exact cell_back K (a := a) (Q := fun _ _ => True) hm2 hb2 ht4 (fun e' h => hk _ e' ⟨_, h, rfl⟩) Try.func30 rfl ⟨rfl, rfl, rfl, rfl, rfl⟩
 have hbk3 : (ok == 3) = false := by simp [h3]
 simp only [hbk3]
 repeat (first | refine Walk.cx ?_ | (refine Walk.cReg ?_; simp only [z30]) | (refine Walk.oq ?_; try walk_nrm) | (refine Walk.un ?_; walk_nrm))
 by_cases h4 : ok = 4
 ·subst h4
  have ht3 : K.tgt e1 = (K.s e1, .inr (.m1 true i 0 (triesX oc))) := ht2
  repeat (first | refine Walk.cx ?_ | (refine Walk.cReg ?_; simp only [z30]) | (refine Walk.oq ?_; try walk_nrm) | (refine Walk.un ?_; walk_nrm))
  have hg := SCall.fz K (answer_s (Fz K e1) true i hi 0 59 Try.f59 #[] Try.func59 (by kernel_rfl) (by rfl) (fun e2 => givesUp_ok (Fz (Fz K e1) e2) i 0) oc (fz0 K e1) ht3)
  unfold onP at hg
  refine LW.callS (K := K.toLb) (e := e1) (l := fr :: l) (f := 57) (Q := fun x e' => ∃ h : Kept K e1 e', ∃ a, K.tgt e' = (K.s e', .inl a) ∧ x = ansVal a) ?_ (ho_of (by conv => lhs; whnf) (by kernel_rfl)) (by rfl) (by decide) rfl Try.func57 (by kernel_rfl) (by rfl) ⟨rfl, rfl, _, Try.func30⟩ (plain_cons hp hl) ?_
  ·walk_nrm
   exact hg
  rintro x e2 ⟨hkept, a, ht4, rfl⟩
  obtain ⟨hm2, hb2⟩ := hkept (N + 1) hmn
  rw [c2] at hb2
  have hap2 := (K.mineA e2 _ hm2).1
  clear hg
  unfold LW
  simp only [ansVal]
  walk_nrm
  repeat (first | refine Walk.cx ?_ | (refine Walk.cReg ?_; simp only [z30]) | (refine Walk.oq ?_; try walk_nrm) | (refine Walk.un ?_; walk_nrm))
  refine Walk.storeS 51 (.tmp 8) (.tmp 72) (ho_of (by conv => lhs; whnf) (by kernel_rfl)) (by rfl) (by decide) rfl (N + 1) #[.bool a.1, .int .i64 a.2, .slice none 0 0] _ 51 rfl rfl hb2 (by kernel_rfl) (by rfl) (by simp [Value.oneCell']) hap2 ?_
  walk_nrm
  repeat (first | refine Walk.cx ?_ | (refine Walk.cReg ?_; simp only [z30]) | (refine Walk.oq ?_; try walk_nrm) | (refine Walk.un ?_; walk_nrm))
  exact cell_back K (a := a) (Q := fun _ _ => True) hm2 hb2 ht4 (fun e' h => hk _ e' ⟨_, h, rfl⟩) Try.func30 rfl ⟨rfl, rfl, rfl, rfl, rfl⟩
 have hbk4 : (ok == 4) = false := by simp [h4]
 simp only [hbk4]
 have ht3 : K.tgt e1 = (K.s e1, .inl (false, 0)) := ht2.trans (onKind_no _ _ h1 h2 h3 h4)
 repeat (first | refine Walk.cx ?_ | (refine Walk.cReg ?_; simp only [z30]) | (refine Walk.oq ?_; try walk_nrm) | (refine Walk.un ?_; walk_nrm))
 refine Walk.storeS 51 (.tmp 8) (.tmp 73) (ho_of (by conv => lhs; whnf) (by kernel_rfl)) (by rfl) (by decide) rfl (N + 1) #[.bool false, .int .i64 0, .slice none 0 0] _ 51 rfl rfl c2 (by kernel_rfl) (by rfl) (by simp [Value.oneCell']) hapN ?_
 walk_nrm
 repeat (first | refine Walk.cx ?_ | (refine Walk.cReg ?_; simp only [z30]) | (refine Walk.oq ?_; try walk_nrm) | (refine Walk.un ?_; walk_nrm))
 exact cell_back K (a := (false, 0)) (Q := fun _ _ => True) hmn c2 ht3 (fun e' h => hk _ e' ⟨_, h, rfl⟩) Try.func30 rfl ⟨rfl, rfl, rfl, rfl, rfl⟩
theorem odo_ok (hm : m ≤ 64) : DoFn (onLa cb m) 30 #[.slice (some ⟨cb, 0, none⟩) m m] #[] :=
 ⟨⟨_, Try.func30, by kernel_rfl, by rfl⟩, fun sv K e th op ht => odo_s K hm e th op.k op.a op.b op.c ht⟩
end
end
section
section
variable {P : Program} {main : Bool} {V : Nat → Option Wait} {Stop : Goroutine → World → Prop} {b : Frame} {a : Act} {cs : List Frame} {w : World} {fn : Func} {todo : List Item} {c : Frame} {t s r : Tmp}
theorem Walk.on3 (hn : b.kind = .normal) (hd : a.defers = []) (hf : P.funcs[b.fn]? = some fn) (hr : fn.results = #[.tmp t, .tmp s, .tmp r]) (h : Walk P main (DR V) Stop (G (c.finish (.tuple #[a.tmps.getD t undef, a.tmps.getD s undef, a.tmps.getD r undef])) cs) w) : Walk P main (DR V) Stop (G { b.at a todo with mode := .returning } (c :: cs)) w :=
 Walk.ctl rfl (fun w => stepG_leave (v := .tuple #[a.tmps.getD t undef, a.tmps.getD s undef, a.tmps.getD r undef]) hn hd hf (by simp [results, hr]) (by simp [results, hr])) h
end
section
variable {main : Bool} {V : Nat → Option Wait}
theorem step_nil (w : World) : CallV Try.prog main V 96 #[.nilIface] w (.tuple #[]) w := by
 obtain ⟨ms, hu⟩ := undStepperN
 have hn1 := fun w => run_neq_nilIface (P := Try.prog) (w := w) 69 hu
 have hn2 := fun w es => ev_neq_nilIface (P := Try.prog) (w := w) 69 es hu
 refine callW_in Try.func96 code96_is fun fr cs => ?_
 simp only [Try.ntmps96, ez, Nat.reduceAdd, Nat.reduceSub]
 repeat (first | refine Walk.cx ?_ | (refine Walk.cReg ?_; simp only [z96]) | (refine Walk.oq ?_; try walk_nrm) | (refine Walk.un ?_; walk_nrm))
 exact Walk.ret0 rfl rfl Try.func96 rfl fun d => ⟨rfl, d, rfl⟩
theorem holds_nil (b q : Nat) (v : Int) (w : World) (hc : w.cell? ⟨b, q, none⟩ = some (.int .i64 v)) : CallV Try.prog main V 86 #[.nilIface, .pointer (some ⟨b, q, none⟩)] w (.int .i64 v) w := by
 have hi1 := run_ifaceAtomic
 have hi2 := ev_ifaceAtomic
 refine callW_in Try.func86 code86_is fun fr cs => ?_
 simp only [Try.ntmps86, ez, Nat.reduceAdd, Nat.reduceSub]
 repeat (first | refine Walk.cx ?_ | (refine Walk.cReg ?_; simp only [z86]) | (refine Walk.oq ?_; try walk_nrm) | (refine Walk.un ?_; walk_nrm))
 refine Walk.callV (x := .tuple #[]) (W := w) ?_ (ho_of (by conv => lhs; whnf) (by kernel_rfl)) (by rfl) (by decide) rfl Try.func96 (by kernel_rfl) (by rfl) ?_
 ·walk_nrm
  exact step_nil w
 walk_nrm
 repeat (first | refine Walk.cx ?_ | (refine Walk.cReg ?_; simp only [z86]) | (refine Walk.oq ?_; try walk_nrm) | (refine Walk.un ?_; walk_nrm))
 refine Walk.invokeLoad b q (ho_of (by conv => lhs; whnf) (by kernel_rfl)) (by rfl) (by decide) rfl rfl ?_
 refine (atLoad b q _ w hc _ _).then ?_
 rintro g' w' ⟨v', ⟨rfl, dd, rfl⟩, rfl⟩
 refine Walk.back ?_ dd
 refine Walk.finish (ho_of (by conv => lhs; whnf) (by kernel_rfl)) ?_
 walk_nrm
 repeat (first | refine Walk.cx ?_ | (refine Walk.cReg ?_; simp only [z86]) | (refine Walk.oq ?_; try walk_nrm) | (refine Walk.un ?_; walk_nrm))
 exact Walk.ret1 rfl rfl Try.func86 rfl fun d => ⟨rfl, d, rfl⟩
theorem load_nil (b q : Nat) (v : Int) (w : World) (hc : w.cell? ⟨b, q, none⟩ = some (.int .i64 v)) : CallV Try.prog main V 65 #[.pointer (some ⟨b, q, none⟩), .nilIface] w (.int .i64 v) w := by
 have hp1 := fun w => run_eql_ptr (P := Try.prog) 171 undWord (some ⟨b, q, none⟩) w
 have hp2 := fun w es => ev_eql_ptr (P := Try.prog) 171 undWord (some ⟨b, q, none⟩) w es
 simp only [Option.isNone_some] at hp1
 refine callW_in Try.func65 code65_is fun fr cs => ?_
 simp only [Try.ntmps65, ez, Nat.reduceAdd, Nat.reduceSub]
 repeat (first | refine Walk.cx ?_ | (refine Walk.cReg ?_; simp only [z65]) | (refine Walk.oq ?_; try walk_nrm) | (refine Walk.un ?_; walk_nrm))
 refine Walk.callV (x := .int .i64 v) (W := w) ?_ (ho_of (by conv => lhs; whnf) (by kernel_rfl)) (by rfl) (by decide) rfl Try.func86 (by kernel_rfl) (by rfl) ?_
 ·walk_nrm
  exact holds_nil b q v w hc
 walk_nrm
 repeat (first | refine Walk.cx ?_ | (refine Walk.cReg ?_; simp only [z65]) | (refine Walk.oq ?_; try walk_nrm) | (refine Walk.un ?_; walk_nrm))
 exact Walk.ret1 rfl rfl Try.func65 rfl fun d => ⟨rfl, d, rfl⟩
noncomputable def reg45_0 := rg Try.f45.body [0]
noncomputable def reg45_1 := rg Try.f45.body [1, 0]
theorem z45 : List.range reg45_0.size = [0] ∧ List.range reg45_1.size = [0, 1, 2] := by refine ⟨?_, ?_⟩ <;> kernel_rfl
theorem code45_is : Try.f45.body = some (.seq (.region 0 reg45_0 false) (.seq (.region 1 reg45_1 false) (.ret))) := by kernel_rfl
theorem value_nil (b q : Nat) (v : Int) (w : World) (hc : w.cell? ⟨b, q, none⟩ = some (.int .i64 v)) : CallV Try.prog main V 45 #[.pointer (some ⟨b, q, none⟩)] w (.int .i64 v) w := by
 refine callW_in Try.func45 code45_is fun fr cs => ?_
 simp only [Try.ntmps45, ez, Nat.reduceAdd, Nat.reduceSub]
 repeat (first | refine Walk.cx ?_ | (refine Walk.cReg ?_; simp only [z45]) | (refine Walk.oq ?_; try walk_nrm) | (refine Walk.un ?_; walk_nrm))
 refine Walk.callV (x := .int .i64 v) (W := w) ?_ (ho_of (by conv => lhs; whnf) (by kernel_rfl)) (by rfl) (by decide) rfl Try.func65 (by kernel_rfl) (by rfl) ?_
 ·walk_nrm
  exact load_nil b q v w hc
 walk_nrm
 repeat (first | refine Walk.cx ?_ | (refine Walk.cReg ?_; simp only [z45]) | (refine Walk.oq ?_; try walk_nrm) | (refine Walk.un ?_; walk_nrm))
 exact Walk.ret1 rfl rfl Try.func45 rfl fun d => ⟨rfl, d, rfl⟩
end
def oz0 : Oz := ⟨fun _ => 0, fun _ => 0, fun _ => 0⟩
def cellsN (sz : Int) : Nat := (min (max sz 1) 64).toNat
theorem cellsN_le (sz : Int) : 1 ≤ cellsN sz ∧ cellsN sz ≤ 64 ∧ ((cellsN sz : Nat) : Int) = min (max sz 1) 64 := by
 unfold cellsN
 omega
theorem made3 (n j : Nat) (hj : j < n * 3) : (madeCells #[.int .i64 0, .int .i64 0, .int .i64 0] (n * 3))[j]? = some (.int .i64 0) := by
 unfold madeCells
 rw [Array.getElem?_map, Array.getElem?_range, if_pos hj]
 have : j % 3 = 0 ∨ j % 3 = 1 ∨ j % 3 = 2 := by omega
 rcases this with h | h | h <;> simp [h]
noncomputable def reg28_0 := rg Try.f28.body [0]
noncomputable def reg28_1 := rg Try.f28.body [1, 0]
theorem z28 : List.range reg28_0.size = [0] ∧ List.range reg28_1.size = [0, 1, 2, 3, 4] := by refine ⟨?_, ?_⟩ <;> kernel_rfl
theorem code28_is : Try.f28.body = some (.seq (.region 0 reg28_0 false) (.seq (.region 1 reg28_1 false) (.ret))) := by kernel_rfl
noncomputable def reg15_0 := rg Try.f15.body [0]
noncomputable def reg15_1 := rg Try.f15.body [1, 0, 0]
noncomputable def reg15_2 := rg Try.f15.body [1, 0, 1, 0, 0]
noncomputable def reg15_3 := rg Try.f15.body [1, 1, 0]
theorem size15_3 : reg15_3.size = 15 := by kernel_rfl
theorem z15 : List.range reg15_0.size = [0, 1, 2] ∧ List.range reg15_1.size = [0, 1] ∧ List.range reg15_2.size = [0, 1, 2] ∧ List.range reg15_3.size = [0, 1, 2, 3, 4, 5, 6, 7, 8, 9, 10, 11, 12, 13, 14] := by refine ⟨?_, ?_, ?_, ?_⟩ <;> kernel_rfl
theorem code15_is : Try.f15.body = some (.seq (.region 0 reg15_0 false) (.seq (.seq (.region 1 reg15_1 false) (.cond (.tmp 6 ) (.seq (.region 2 reg15_2 false) (.ret)) (.skip))) (.seq (.region 3 reg15_3 true) (.ret)))) := by kernel_rfl
section
variable {main : Bool} {V : Nat → Option Wait}
theorem newOnces_w (sz : Int) (w : World) : CallW Try.prog main V 28 #[.int .i64 sz] w (fun v w' => v = .slice (some ⟨w.heap.size, 0, none⟩) (cellsN sz) (cellsN sz) ∧ OzI w.heap.size (cellsN sz) oz0 w' ∧ (∀ b, b < w.heap.size → w'.heap[b]? = w.heap[b]?) ∧ w'.heap.size = w.heap.size + 1) := by
 intro c cs
 have hmx := @events_max_ints Try.prog
 have hmn := @events_min_ints Try.prog
 have hi1 := Option.some_get (show (Try.prog.info? 45).isSome = true by kernel_rfl)
 obtain ⟨q1, q2, q3⟩ := cellsN_le sz
 rw [enter_at _ Try.func28 code28_is]
 simp only [Try.ntmps28, ez, Nat.reduceAdd, Nat.reduceSub]
 repeat (first | refine Walk.cx ?_ | (refine Walk.cReg ?_; simp only [z28]) | (refine Walk.oq ?_; try walk_nrm) | (refine Walk.un ?_; walk_nrm))
 try rw [← q3]
 clear q3 hmx hmn
 generalize hn : cellsN sz = n at *
 clear hn
 refine Walk.make 91 (.tmp 5) (.tmp 5) (ho_of (by conv => lhs; whnf) (by kernel_rfl)) (by rfl) (by decide) rfl 45 _ (.agg #[.int .i64 0, .int .i64 0, .int .i64 0]) 3 24 (by kernel_rfl) hi1.symm (by rfl) (by rfl) (by rfl) n (by rfl) (by rfl) (by omega) (by omega) ?_
 walk_nrm
 simp only [Value.cells]
 have s1 : (w.alloc (.cells (madeCells #[.int .i64 0, .int .i64 0, .int .i64 0] (n * 3)) 45)).heap.size = w.heap.size + 1 := by simp
 have o1 : ∀ b, b < w.heap.size → (w.alloc (.cells (madeCells #[.int .i64 0, .int .i64 0, .int .i64 0] (n * 3)) 45)).heap[b]? = w.heap[b]? := fun b hb => heap_new_lt _ _ hb
 have d1 := heap_alloc_new w (.cells (madeCells #[.int .i64 0, .int .i64 0, .int .i64 0] (n * 3)) 45)
 generalize w.alloc (.cells (madeCells #[.int .i64 0, .int .i64 0, .int .i64 0] (n * 3)) 45) = w1 at *
 repeat (first | refine Walk.cx ?_ | (refine Walk.cReg ?_; simp only [z28]) | (refine Walk.oq ?_; try walk_nrm) | (refine Walk.un ?_; walk_nrm))
 exact Walk.on1 rfl rfl Try.func28 rfl (.stop fun d => ⟨_, ⟨rfl, ⟨_, d1, fun i hi => ⟨made3 n _ (by omega), made3 n _ (by omega), made3 n _ (by omega)⟩⟩, o1, s1⟩, rfl⟩)
variable {cb m : Nat}
theorem ostate1_w (s : Oz) (i : Nat) (hi : i < m) (w : World) (I : OzI cb m s w) : CallV Try.prog main V 15 #[.pointer (some ⟨cb, i * 3, none⟩)] w (.tuple #[.int .i64 (s.st i), .int .i64 (s.vl i), .int .i64 (s.ct i)]) w := by
 obtain ⟨arr, h1, h2⟩ := I.blk
 obtain ⟨k0, k1, k2⟩ := h2 i hi
 have c0 := (cell_of h1 (i * 3)).trans k0
 have c1 := (cell_of h1 (i * 3 + 1)).trans k1
 have c2 := (cell_of h1 (i * 3 + 2)).trans k2
 have hp1 := fun w => run_eql_ptr (P := Try.prog) 35 undOnce (some ⟨cb, i * 3, none⟩) w
 have hp2 := fun w es => ev_eql_ptr (P := Try.prog) 35 undOnce (some ⟨cb, i * 3, none⟩) w es
 simp only [Option.isNone_some] at hp1
 refine callW_in Try.func15 code15_is fun fr cs => ?_
 simp only [Try.ntmps15, ez, Nat.reduceAdd, Nat.reduceSub]
 repeat (first | refine Walk.cx ?_ | (refine Walk.cReg ?_; simp only [z15]) | (refine Walk.oq ?_; try walk_nrm) | (refine Walk.un ?_; walk_nrm))
 (refine Walk.drawnCW (by kernel_rfl) size15_3 (by kernel_rfl) (by kernel_rfl) (by decide) ?_; simp only [List.range, List.range.loop]; repeat (first | (refine Cm.oq ?_) | (refine Cm.unw (ho_of (by conv => lhs; whnf) (by kernel_rfl)) (by rfl) ?_; walk_nrm)))
 refine Cm.callV (x := .int .i64 (s.st i)) ?_ (ho_of (by conv => lhs; whnf) (by kernel_rfl)) (by rfl) rfl Try.func45 (by kernel_rfl) (by rfl) ?_
 ·intro w' he
  subst he
  walk_nrm
  exact value_nil cb (i * 3) _ _ c0
 walk_nrm
 repeat (first | (refine Cm.oq ?_) | (refine Cm.unw (ho_of (by conv => lhs; whnf) (by kernel_rfl)) (by rfl) ?_; walk_nrm))
 refine Cm.callV (x := .int .i64 (s.vl i)) ?_ (ho_of (by conv => lhs; whnf) (by kernel_rfl)) (by rfl) rfl Try.func45 (by kernel_rfl) (by rfl) ?_
 ·intro w' he
  subst he
  walk_nrm
  exact value_nil cb (i * 3 + 1) _ _ c1
 walk_nrm
 repeat (first | (refine Cm.oq ?_) | (refine Cm.unw (ho_of (by conv => lhs; whnf) (by kernel_rfl)) (by rfl) ?_; walk_nrm))
 refine Cm.callV (x := .int .i64 (s.ct i)) ?_ (ho_of (by conv => lhs; whnf) (by kernel_rfl)) (by rfl) rfl Try.func45 (by kernel_rfl) (by rfl) ?_
 ·intro w' he
  subst he
  walk_nrm
  exact value_nil cb (i * 3 + 2) _ _ c2
 walk_nrm
 repeat (first | (refine Cm.oq ?_) | (refine Cm.unw (ho_of (by conv => lhs; whnf) (by kernel_rfl)) (by rfl) ?_; walk_nrm))
 refine Cm.done ?_
 repeat (first | refine Walk.cx ?_ | (refine Walk.cReg ?_; simp only [z15]) | (refine Walk.oq ?_; try walk_nrm) | (refine Walk.un ?_; walk_nrm))
 exact Walk.on3 rfl rfl Try.func15 rfl (.stop fun d => ⟨_, ⟨rfl, d, rfl⟩, rfl⟩)
end
end
end Go.Proofs.Ytdcjgmlgmjjogaa
