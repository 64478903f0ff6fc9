/- Part 21. -/
import Derived.Test.YtabpfdckgnimaaaJ14
import Derived.Test.YtabpfdckgnimaaaJ16
import Derived.Test.YtabpfdckgnimaaaJ20
set_option linter.unusedSimpArgs false
set_option linter.unusedVariables false
set_option linter.unusedVariables false
set_option maxHeartbeats 8000000
set_option maxRecDepth 100000
namespace Go.Proofs.Ytabpfdckgnimaaa
open Go.Conc Go.RowKit Go.Relay
open Go.ConcN (upd upd_ne upd_same)
section
section
variable {cb rb m : Nat} {ra : Option Addr} {rc : Nat}
theorem cell_back {L : La} {sv : Value} (K : Lg L sv) {F : FuncId} {fn : Func} {e2 : K.E} {fr c : Frame} {l : List Frame} {R : Nat} {a : Ans} {Q : Value → K.E → Prop} (hm : K.mine e2 R) (hR : (K.w e2).heap[R]? = some (.cells #[.bool false, .int .i64 0, .slice none 0 0] 37))
    (ht : K.tgt e2 = (K.s e2, .inl a)) (hk : ∀ e', K.tgt e' = (K.s e', .inl a) → LW K.toLb e' (G (c.finish (ansV a (.slice none 0 0))) (l ++ K.bot e')))
    (hF : Try.prog.funcs[F]? = some fn) (hres : fn.results = #[.cell 8 37]) (hfr : fr.mode = .returning ∧ fr.kind = .normal ∧ fr.defers = [] ∧ fr.fn = F ∧ fr.tmps.getD 8 undef = .pointer (some ⟨R, 0, none⟩)) :
    Walk Try.prog K.main (DR (K.V e2)) (K.Stop e2) (G fr (c :: (l ++ K.bot e2))) ((K.w e2).setRow R #[.bool a.ok, .int .i64 a.n, .slice none 0 0]) := by
  obtain ⟨h1, h2, h3, h4, h5⟩ := hfr
  obtain ⟨e3, m⟩ := K.own e2 (w' := (K.w e2).setRow R #[.bool a.ok, .int .i64 a.n, .slice none 0 0]) (by rw [setRow_size]; exact Nat.le_refl _) (fun b _ hbm => setRow_other _ _ (fun he : b = R => hbm (by rw [he]; exact hm)))
  have c9 := setRow_self (cells := #[.bool a.ok, .int .i64 a.n, .slice none 0 0]) hR
  refine Walk.onCell (T := R) h1 h2 h3 (by rw [h4]; exact hF) hres h5 c9 (by kernel_rfl) (by kernel_rfl) ?_
  refine LW.to m (hk e3 ?_)
  rw [m.tgt, m.s]
  exact ht
theorem spEnter_no (s : Sp) (th : Int) (o : OpV) (h1 : o.k ≠ 1) (h2 : o.k ≠ 2) (h3 : o.k ≠ 3) (h4 : o.k ≠ 4) (h5 : o.k ≠ 5) : spEnter m s th o = (s, .inl ⟨false, 0, []⟩) := by
  unfold spEnter
  rw [if_neg h1, if_neg h2, if_neg h3, if_neg h4, if_neg h5]
noncomputable def reg15_0 := rg Try.f15.body [0]
noncomputable def reg15_1 := rg Try.f15.body [1, 0, 0]
noncomputable def reg15_2 := rg Try.f15.body [1, 0, 1, 0, 0]
noncomputable def reg15_3 := rg Try.f15.body [1, 0, 1, 0, 1, 0, 0]
noncomputable def reg15_4 := rg Try.f15.body [1, 0, 1, 0, 1, 1, 0]
noncomputable def reg15_5 := rg Try.f15.body [1, 0, 1, 0, 1, 1, 1, 0, 0]
noncomputable def reg15_6 := rg Try.f15.body [1, 0, 1, 0, 1, 1, 1, 1, 0]
noncomputable def reg15_7 := rg Try.f15.body [1, 0, 1, 0, 1, 1, 1, 1, 1, 0, 0]
noncomputable def reg15_8 := rg Try.f15.body [1, 0, 1, 0, 1, 1, 1, 1, 1, 1, 0]
noncomputable def reg15_9 := rg Try.f15.body [1, 0, 1, 0, 1, 1, 1, 1, 1, 1, 1, 0, 0]
noncomputable def reg15_10 := rg Try.f15.body [1, 0, 1, 0, 1, 1, 1, 1, 1, 1, 1, 0, 1, 0]
noncomputable def reg15_11 := rg Try.f15.body [1, 0, 1, 0, 1, 1, 1, 1, 1, 1, 1, 1, 0]
noncomputable def reg15_12 := rg Try.f15.body [1, 0, 1, 0, 1, 1, 1, 1, 1, 1, 1, 1, 1, 0, 0]
noncomputable def reg15_13 := rg Try.f15.body [1, 0, 1, 0, 1, 1, 1, 1, 1, 1, 1, 1, 1, 0, 1, 0]
noncomputable def reg15_14 := rg Try.f15.body [1, 1, 0]
theorem z15 : List.range reg15_0.size = [0, 1] ∧ List.range reg15_1.size = [0, 1] ∧ List.range reg15_2.size = [0, 1] ∧ List.range reg15_3.size = [0, 1, 2, 3, 4, 5, 6, 7, 8] ∧ List.range reg15_4.size = [0, 1] ∧ List.range reg15_5.size = [0, 1, 2, 3, 4] ∧ List.range reg15_6.size = [0, 1] ∧ List.range reg15_7.size = [0, 1, 2, 3, 4] ∧ List.range reg15_8.size = [0, 1] ∧ List.range reg15_9.size = [0, 1, 2, 3, 4, 5, 6, 7, 8] ∧ List.range reg15_10.size = [0, 1] ∧ List.range reg15_11.size = [0, 1] ∧ List.range reg15_12.size = [0, 1, 2, 3, 4, 5, 6, 7] ∧ List.range reg15_13.size = [0, 1, 2, 3] ∧ List.range reg15_14.size = [0, 1] := by refine ⟨?_, ?_, ?_, ?_, ?_, ?_, ?_, ?_, ?_, ?_, ?_, ?_, ?_, ?_, ?_⟩ <;> kernel_rfl
theorem code15_is : Try.f15.body = some (.seq (.region 0 reg15_0 false) (.seq (.seq (.region 1 reg15_1 false) (.block 0 (.seq (.region 2 reg15_2 false) (.cond (.tmp 13 ) (.seq (.region 3 reg15_3 false) (.ret)) (.seq (.region 4 reg15_4 false) (.cond (.tmp 23 ) (.seq (.region 5 reg15_5 false) (.ret)) (.seq (.region 6 reg15_6 false) (.cond (.tmp 29 ) (.seq (.region 7 reg15_7 false) (.ret)) (.seq (.region 8 reg15_8 false) (.cond (.tmp 35 ) (.seq (.region 9 reg15_9 false) (.seq (.region 10 reg15_10 false) (.ret))) (.seq (.region 11 reg15_11 false) (.cond (.tmp 47 ) (.seq (.region 12 reg15_12 false) (.seq (.region 13 reg15_13 false) (.ret))) (.skip))))))))))))) (.seq (.region 14 reg15_14 false) (.ret)))) := by kernel_rfl
theorem sdo_s {sv : Value} (K : Lg (spLa cb rb m ra rc) sv) (e : K.E) (th ok oa ob oc : Int) (ht : K.tgt e = spEnter m (K.s e) th ⟨ok, oa, ob, oc⟩) :
    SCall K.toLb 15 #[.pointer (some ⟨cb, 0, none⟩), sv, .int .i64 th, .agg #[.int .i64 ok, .int .i64 oa, .int .i64 ob, .int .i64 oc]] e (fun v e' => ∃ a, K.tgt e' = (K.s e', .inl a) ∧ v = ansV a (.slice none 0 0) ∧ a.l = []) := by
  intro fr l hp hl hk
  have hm0 := (K.inv e).pos.1
  unfold LW
  rw [enter_at _ Try.func15 code15_is]
  simp only [Try.ntmps15, ez, Nat.reduceAdd, Nat.reduceSub]
  repeat (first | refine Walk.cx ?_ | (refine Walk.cReg ?_; simp only [z15]) | (refine Walk.oq ?_; try walk_nrm) | (refine Walk.un ?_; walk_nrm))
  (refine Walk.oa ?_; try walk_nrm)
  (refine Walk.oa ?_; try walk_nrm)
  have hA1 : ((K.w e).alloc (.cells #[.int .i64 ok, .int .i64 oa, .int .i64 ob, .int .i64 oc] 34)).heap.size = (K.w e).heap.size + 1 := by simp
  have c1 : (((K.w e).alloc (.cells #[.int .i64 ok, .int .i64 oa, .int .i64 ob, .int .i64 oc] 34)).alloc (.cells #[.bool false, .int .i64 0, .slice none 0 0] 37)).heap[(K.w e).heap.size]? = some (.cells #[.int .i64 ok, .int .i64 oa, .int .i64 ob, .int .i64 oc] 34) := by
    rw [heap_new_lt _ _ (by omega)]
    exact heap_alloc_new _ _
  have c2 : (((K.w e).alloc (.cells #[.int .i64 ok, .int .i64 oa, .int .i64 ob, .int .i64 oc] 34)).alloc (.cells #[.bool false, .int .i64 0, .slice none 0 0] 37)).heap[(K.w e).heap.size + 1]? = some (.cells #[.bool false, .int .i64 0, .slice none 0 0] 37) := by
    have := heap_alloc_new ((K.w e).alloc (.cells #[.int .i64 ok, .int .i64 oa, .int .i64 ob, .int .i64 oc] 34)) (.cells #[.bool false, .int .i64 0, .slice none 0 0] 37)
    rwa [hA1] at this
  have hs2 : (((K.w e).alloc (.cells #[.int .i64 ok, .int .i64 oa, .int .i64 ob, .int .i64 oc] 34)).alloc (.cells #[.bool false, .int .i64 0, .slice none 0 0] 37)).heap.size = (K.w e).heap.size + 2 := by simp
  obtain ⟨e1, m1⟩ := K.grow e (w' := ((K.w e).alloc (.cells #[.int .i64 ok, .int .i64 oa, .int .i64 ob, .int .i64 oc] 34)).alloc (.cells #[.bool false, .int .i64 0, .slice none 0 0] 37)) (by omega) (fun b hb' => by
    rw [heap_new_lt _ _ (by omega)]
    exact heap_new_lt _ _ hb')
  try simp only [hA1]
  generalize hw2 : ((K.w e).alloc (.cells #[.int .i64 ok, .int .i64 oa, .int .i64 ob, .int .i64 oc] 34)).alloc (.cells #[.bool false, .int .i64 0, .slice none 0 0] 37) = w2 at *
  generalize hN : (K.w e).heap.size = N at *
  have hmn : K.mine e1 (N + 1) := m1.new (by omega) (by omega)
  have ht1 : K.tgt e1 = spEnter m (K.s e1) th ⟨ok, oa, ob, oc⟩ := by rw [m1.tgt, m1.s]; exact ht
  have d0 := (cell_of c1 0).trans rfl
  have d1 := (cell_of c1 1).trans rfl
  have d2 := (cell_of c1 2).trans rfl
  have d3 := (cell_of c1 3).trans rfl
  have hw1 := m1.w
  refine LW.to (l := fr :: l) m1 ?_
  unfold LW
  clear hw2 m1 ht
  subst hw1
  have hapN := (K.mineA e1 _ hmn).1
  repeat (first | refine Walk.cx ?_ | (refine Walk.cReg ?_; simp only [z15]) | (refine Walk.oq ?_; try walk_nrm) | (refine Walk.un ?_; walk_nrm))
  by_cases h1 : ok = 1
  · subst h1
    have ht3 : K.tgt e1 = (K.s e1, .inr (.a1 (stAt m oa) ob)) := ht1
    repeat (first | refine Walk.cx ?_ | (refine Walk.cReg ?_; simp only [z15]) | (refine Walk.oq ?_; try walk_nrm) | (refine Walk.un ?_; walk_nrm))
    have hg := (SCall.fz K (sadd_s (Fz K e1) oa ob (.a1 (stAt m oa) ob) (fun y => .inl ⟨true, y, []⟩) (fun _ => rfl) (fz0 K e1) ht3)).mono (Q' := fun x e' => Kept K e1 e' ∧ ∃ y, x = .int .i64 y ∧ K.tgt e' = (K.s e', .inl ⟨true, y, []⟩)) (fun v e' ⟨h, y, h1, h2⟩ => ⟨h, y, h1, h2⟩)
    refine LW.callS (K := K.toLb) (e := e1) (l := fr :: l) (f := 10) (Q := fun x e' => Kept K e1 e' ∧ ∃ y, x = .int .i64 y ∧ K.tgt e' = (K.s e', .inl ⟨true, y, []⟩)) ?_ (ho_of (by conv => lhs; whnf) (by kernel_rfl)) (by rfl) (by decide) rfl Try.func10 (by kernel_rfl) (by rfl) ⟨rfl, rfl, _, Try.func15⟩ (plain_cons hp hl) ?_
    · walk_nrm
      exact hg
    rintro x e2 ⟨hkept, y, rfl, ht4⟩
    obtain ⟨hm2, hb2⟩ := hkept (N + 1) hmn
    rw [c2] at hb2
    have hap2 := (K.mineA e2 _ hm2).1
    clear hg
    unfold LW
    walk_nrm
    repeat (first | refine Walk.cx ?_ | (refine Walk.cReg ?_; simp only [z15]) | (refine Walk.oq ?_; try walk_nrm) | (refine Walk.un ?_; walk_nrm))
    refine Walk.storeS 37 (.tmp 8) (.tmp 22) (ho_of (by conv => lhs; whnf) (by kernel_rfl)) (by rfl) (by decide) rfl (N + 1) #[.bool true, .int .i64 y, .slice none 0 0] _ 37 rfl rfl hb2 (by kernel_rfl) (by rfl) (by simp [Value.oneCell']) hap2 ?_
    walk_nrm
    repeat (first | refine Walk.cx ?_ | (refine Walk.cReg ?_; simp only [z15]) | (refine Walk.oq ?_; try walk_nrm) | (refine Walk.un ?_; walk_nrm))
    exact cell_back K (a := ⟨true, y, []⟩) (Q := fun _ _ => True) hm2 hb2 ht4 (fun e' h => hk _ e' ⟨_, h, rfl, rfl⟩) Try.func15 rfl ⟨rfl, rfl, rfl, rfl, rfl⟩
  have hbk1 : (ok == 1) = false := by simp [h1]
  simp only [hbk1]
  repeat (first | refine Walk.cx ?_ | (refine Walk.cReg ?_; simp only [z15]) | (refine Walk.oq ?_; try walk_nrm) | (refine Walk.un ?_; walk_nrm))
  by_cases h2 : ok = 2
  · subst h2
    have ht3 : K.tgt e1 = (K.s e1, .inr (.u1 0 [])) := ht1
    repeat (first | refine Walk.cx ?_ | (refine Walk.cReg ?_; simp only [z15]) | (refine Walk.oq ?_; try walk_nrm) | (refine Walk.un ?_; walk_nrm))
    have ht4 : K.tgt e1 = (K.s e1, dU m 0 []) := ht3.trans (by unfold dU; rw [if_neg (by omega)]; rfl)
    have hg := (SCall.fz K (ssum_s (Fz K e1) (dU m) .u1 (fun k l hk => if_neg (by omega)) (fun _ _ _ => rfl) (fz0 K e1) ht4)).mono (Q' := fun x e' => Kept K e1 e' ∧ ∃ y, x = .int .i64 y ∧ K.tgt e' = (K.s e', .inl ⟨true, y, []⟩)) (fun v e' ⟨h, l, _, h1, h2⟩ => ⟨h, sumZ l, h1, h2.trans (by unfold dU; rw [if_pos rfl]; rfl)⟩)
    clear ht4
    refine LW.callS (K := K.toLb) (e := e1) (l := fr :: l) (f := 20) (Q := fun x e' => Kept K e1 e' ∧ ∃ y, x = .int .i64 y ∧ K.tgt e' = (K.s e', .inl ⟨true, y, []⟩)) ?_ (ho_of (by conv => lhs; whnf) (by kernel_rfl)) (by rfl) (by decide) rfl Try.func20 (by kernel_rfl) (by rfl) ⟨rfl, rfl, _, Try.func15⟩ (plain_cons hp hl) ?_
    · walk_nrm
      exact hg
    rintro x e2 ⟨hkept, y, rfl, ht4⟩
    obtain ⟨hm2, hb2⟩ := hkept (N + 1) hmn
    rw [c2] at hb2
    have hap2 := (K.mineA e2 _ hm2).1
    clear hg
    unfold LW
    walk_nrm
    repeat (first | refine Walk.cx ?_ | (refine Walk.cReg ?_; simp only [z15]) | (refine Walk.oq ?_; try walk_nrm) | (refine Walk.un ?_; walk_nrm))
    refine Walk.storeS 37 (.tmp 8) (.tmp 28) (ho_of (by conv => lhs; whnf) (by kernel_rfl)) (by rfl) (by decide) rfl (N + 1) #[.bool true, .int .i64 y, .slice none 0 0] _ 37 rfl rfl hb2 (by kernel_rfl) (by rfl) (by simp [Value.oneCell']) hap2 ?_
    walk_nrm
    repeat (first | refine Walk.cx ?_ | (refine Walk.cReg ?_; simp only [z15]) | (refine Walk.oq ?_; try walk_nrm) | (refine Walk.un ?_; walk_nrm))
    exact cell_back K (a := ⟨true, y, []⟩) (Q := fun _ _ => True) hm2 hb2 ht4 (fun e' h => hk _ e' ⟨_, h, rfl, rfl⟩) Try.func15 rfl ⟨rfl, rfl, rfl, rfl, rfl⟩
  have hbk2 : (ok == 2) = false := by simp [h2]
  simp only [hbk2]
  repeat (first | refine Walk.cx ?_ | (refine Walk.cReg ?_; simp only [z15]) | (refine Walk.oq ?_; try walk_nrm) | (refine Walk.un ?_; walk_nrm))
  by_cases h3 : ok = 3
  · subst h3
    have ht3 : K.tgt e1 = (K.s e1, .inr (.t1 0 [])) := ht1
    repeat (first | refine Walk.cx ?_ | (refine Walk.cReg ?_; simp only [z15]) | (refine Walk.oq ?_; try walk_nrm) | (refine Walk.un ?_; walk_nrm))
    have ht4 : K.tgt e1 = (K.s e1, dT m 0 []) := ht3.trans (by unfold dT; rw [if_neg (by omega)]; rfl)
    have hg := (SCall.fz K (stake_s (Fz K e1) (fz0 K e1) ht4)).mono (Q' := fun x e' => Kept K e1 e' ∧ ∃ y, x = .int .i64 y ∧ K.tgt e' = (K.s e', .inl ⟨true, y, []⟩)) (fun v e' ⟨h, l, _, h1, h2⟩ => ⟨h, sumZ l, h1, h2.trans (by unfold dT; rw [if_pos rfl]; rfl)⟩)
    clear ht4
    refine LW.callS (K := K.toLb) (e := e1) (l := fr :: l) (f := 12) (Q := fun x e' => Kept K e1 e' ∧ ∃ y, x = .int .i64 y ∧ K.tgt e' = (K.s e', .inl ⟨true, y, []⟩)) ?_ (ho_of (by conv => lhs; whnf) (by kernel_rfl)) (by rfl) (by decide) rfl Try.func12 (by kernel_rfl) (by rfl) ⟨rfl, rfl, _, Try.func15⟩ (plain_cons hp hl) ?_
    · walk_nrm
      exact hg
    rintro x e2 ⟨hkept, y, rfl, ht4⟩
    obtain ⟨hm2, hb2⟩ := hkept (N + 1) hmn
    rw [c2] at hb2
    have hap2 := (K.mineA e2 _ hm2).1
    clear hg
    unfold LW
    walk_nrm
    repeat (first | refine Walk.cx ?_ | (refine Walk.cReg ?_; simp only [z15]) | (refine Walk.oq ?_; try walk_nrm) | (refine Walk.un ?_; walk_nrm))
    refine Walk.storeS 37 (.tmp 8) (.tmp 34) (ho_of (by conv => lhs; whnf) (by kernel_rfl)) (by rfl) (by decide) rfl (N + 1) #[.bool true, .int .i64 y, .slice none 0 0] _ 37 rfl rfl hb2 (by kernel_rfl) (by rfl) (by simp [Value.oneCell']) hap2 ?_
    walk_nrm
    repeat (first | refine Walk.cx ?_ | (refine Walk.cReg ?_; simp only [z15]) | (refine Walk.oq ?_; try walk_nrm) | (refine Walk.un ?_; walk_nrm))
    exact cell_back K (a := ⟨true, y, []⟩) (Q := fun _ _ => True) hm2 hb2 ht4 (fun e' h => hk _ e' ⟨_, h, rfl, rfl⟩) Try.func15 rfl ⟨rfl, rfl, rfl, rfl, rfl⟩
  have hbk3 : (ok == 3) = false := by simp [h3]
  simp only [hbk3]
  repeat (first | refine Walk.cx ?_ | (refine Walk.cReg ?_; simp only [z15]) | (refine Walk.oq ?_; try walk_nrm) | (refine Walk.un ?_; walk_nrm))
  by_cases h4 : ok = 4
  · subst h4
    have ht3 : K.tgt e1 = (K.s e1, .inr (.m1 (stAt m oa) (stAt m ob) oc)) := ht1
    repeat (first | refine Walk.cx ?_ | (refine Walk.cReg ?_; simp only [z15]) | (refine Walk.oq ?_; try walk_nrm) | (refine Walk.un ?_; walk_nrm))
    have hg := (SCall.fz K (smove_s (Fz K e1) oa ob oc (fz0 K e1) ht3)).mono (Q' := fun x e' => Kept K e1 e' ∧ K.tgt e' = (K.s e', .inl ⟨true, 0, []⟩)) (fun v e' ⟨h, h2⟩ => ⟨h, h2⟩)
    refine LW.callS (K := K.toLb) (e := e1) (l := fr :: l) (f := 27) (Q := fun x e' => Kept K e1 e' ∧ K.tgt e' = (K.s e', .inl ⟨true, 0, []⟩)) ?_ (ho_of (by conv => lhs; whnf) (by kernel_rfl)) (by rfl) (by decide) rfl Try.func27 (by kernel_rfl) (by rfl) ⟨rfl, rfl, _, Try.func15⟩ (plain_cons hp hl) ?_
    · walk_nrm
      exact hg
    rintro x e2 ⟨hkept, ht4⟩
    obtain ⟨hm2, hb2⟩ := hkept (N + 1) hmn
    rw [c2] at hb2
    have hap2 := (K.mineA e2 _ hm2).1
    clear hg
    unfold LW
    walk_nrm
    repeat (first | refine Walk.cx ?_ | (refine Walk.cReg ?_; simp only [z15]) | (refine Walk.oq ?_; try walk_nrm) | (refine Walk.un ?_; walk_nrm))
    refine Walk.storeS 37 (.tmp 8) (.tmp 46) (ho_of (by conv => lhs; whnf) (by kernel_rfl)) (by rfl) (by decide) rfl (N + 1) #[.bool true, .int .i64 0, .slice none 0 0] _ 37 rfl rfl hb2 (by kernel_rfl) (by rfl) (by simp [Value.oneCell']) hap2 ?_
    walk_nrm
    repeat (first | refine Walk.cx ?_ | (refine Walk.cReg ?_; simp only [z15]) | (refine Walk.oq ?_; try walk_nrm) | (refine Walk.un ?_; walk_nrm))
    exact cell_back K (a := ⟨true, 0, []⟩) (Q := fun _ _ => True) hm2 hb2 ht4 (fun e' h => hk _ e' ⟨_, h, rfl, rfl⟩) Try.func15 rfl ⟨rfl, rfl, rfl, rfl, rfl⟩
  have hbk4 : (ok == 4) = false := by simp [h4]
  simp only [hbk4]
  repeat (first | refine Walk.cx ?_ | (refine Walk.cReg ?_; simp only [z15]) | (refine Walk.oq ?_; try walk_nrm) | (refine Walk.un ?_; walk_nrm))
  by_cases h5 : ok = 5
  · subst h5
    have ht3 : K.tgt e1 = (K.s e1, .inr (.e1 0 [])) := ht1
    repeat (first | refine Walk.cx ?_ | (refine Walk.cReg ?_; simp only [z15]) | (refine Walk.oq ?_; try walk_nrm) | (refine Walk.un ?_; walk_nrm))
    have ht4 : K.tgt e1 = (K.s e1, dE m 0 []) := ht3.trans (by unfold dE; rw [if_neg (by omega)]; rfl)
    have hg := (SCall.fz K (even_s (Fz K e1) (fz0 K e1) ht4)).mono (Q' := fun x e' => Kept K e1 e' ∧ ∃ b y, x = .tuple #[.int .i64 y, .bool b] ∧ K.tgt e' = (K.s e', .inl ⟨b, y, []⟩)) (fun v e' ⟨h, b, y, h1, h2⟩ => ⟨h, b, y, h1, h2⟩)
    clear ht4
    refine LW.callS (K := K.toLb) (e := e1) (l := fr :: l) (f := 28) (Q := fun x e' => Kept K e1 e' ∧ ∃ b y, x = .tuple #[.int .i64 y, .bool b] ∧ K.tgt e' = (K.s e', .inl ⟨b, y, []⟩)) ?_ (ho_of (by conv => lhs; whnf) (by kernel_rfl)) (by rfl) (by decide) rfl Try.func28 (by kernel_rfl) (by rfl) ⟨rfl, rfl, _, Try.func15⟩ (plain_cons hp hl) ?_
    · walk_nrm
      exact hg
    rintro x e2 ⟨hkept, b, y, rfl, ht4⟩
    obtain ⟨hm2, hb2⟩ := hkept (N + 1) hmn
    rw [c2] at hb2
    have hap2 := (K.mineA e2 _ hm2).1
    clear hg
    unfold LW
    walk_nrm
    repeat (first | refine Walk.cx ?_ | (refine Walk.cReg ?_; simp only [z15]) | (refine Walk.oq ?_; try walk_nrm) | (refine Walk.un ?_; walk_nrm))
    refine Walk.storeS 37 (.tmp 8) (.tmp 57) (ho_of (by conv => lhs; whnf) (by kernel_rfl)) (by rfl) (by decide) rfl (N + 1) #[.bool b, .int .i64 y, .slice none 0 0] _ 37 rfl rfl hb2 (by kernel_rfl) (by rfl) (by simp [Value.oneCell']) hap2 ?_
    walk_nrm
    repeat (first | refine Walk.cx ?_ | (refine Walk.cReg ?_; simp only [z15]) | (refine Walk.oq ?_; try walk_nrm) | (refine Walk.un ?_; walk_nrm))
    exact cell_back K (a := ⟨b, y, []⟩) (Q := fun _ _ => True) hm2 hb2 ht4 (fun e' h => hk _ e' ⟨_, h, rfl, rfl⟩) Try.func15 rfl ⟨rfl, rfl, rfl, rfl, rfl⟩
  have hbk5 : (ok == 5) = false := by simp [h5]
  simp only [hbk5]
  repeat (first | refine Walk.cx ?_ | (refine Walk.cReg ?_; simp only [z15]) | (refine Walk.oq ?_; try walk_nrm) | (refine Walk.un ?_; walk_nrm))
  have ht3 : K.tgt e1 = (K.s e1, .inl ⟨false, 0, []⟩) := ht1.trans (spEnter_no _ _ _ h1 h2 h3 h4 h5)
  repeat (first | refine Walk.cx ?_ | (refine Walk.cReg ?_; simp only [z15]) | (refine Walk.oq ?_; try walk_nrm) | (refine Walk.un ?_; walk_nrm))
  refine Walk.storeS 37 (.tmp 8) (.tmp 58) (ho_of (by conv => lhs; whnf) (by kernel_rfl)) (by rfl) (by decide) rfl (N + 1) #[.bool false, .int .i64 0, .slice none 0 0] _ 37 rfl rfl c2 (by kernel_rfl) (by rfl) (by simp [Value.oneCell']) hapN ?_
  walk_nrm
  repeat (first | refine Walk.cx ?_ | (refine Walk.cReg ?_; simp only [z15]) | (refine Walk.oq ?_; try walk_nrm) | (refine Walk.un ?_; walk_nrm))
  exact cell_back K (a := ⟨false, 0, []⟩) (Q := fun _ _ => True) hmn c2 ht3 (fun e' h => hk _ e' ⟨_, h, rfl, rfl⟩) Try.func15 rfl ⟨rfl, rfl, rfl, rfl, rfl⟩
theorem sdo_ok : DoFn (spLa cb rb m ra rc) 15 #[.pointer (some ⟨cb, 0, none⟩)] #[] :=
  ⟨⟨_, Try.func15, by kernel_rfl, by rfl⟩, fun sv K e th op ht => (sdo_s K e th op.k op.a op.b op.c ht).mono fun v e' ⟨a, h1, h2, h3⟩ => ⟨a, .slice none 0 0, h1, h2, by rw [h3]; exact LsR.nil _, by rw [h3]; exact Nat.zero_le _⟩⟩
end
end
section
def stN (sz : Int) : Nat := (min (max sz 1) 64).toNat
theorem stN_le (sz : Int) : 1 ≤ stN sz ∧ stN sz ≤ 64 ∧ ((stN sz : Nat) : Int) = min (max sz 1) 64 := by
  unfold stN
  omega
def sp0 : Sp := fun _ => 0
theorem made1 (n j : Nat) (hj : j < n * 1) : (madeCells #[.int .i64 0] (n * 1))[j]? = some (.int .i64 0) := by
  unfold madeCells
  rw [Array.getElem?_map, Array.getElem?_range, if_pos hj]
  simp [Nat.mod_one]
theorem infoW : ∃ ti : TypeInfo, Try.prog.info? 59 = some ti ∧ ti.zero.map Value.cells = some #[.int .i64 0] ∧ ti.size = 1 ∧ ti.bytes = 8 := by
  cases h : Try.prog.info? 59 with
  | none => exact absurd (by kernel_rfl : (Try.prog.info? 59).isSome = true) (by rw [h]; decide)
  | some ti =>
    have h1 : ((Try.prog.info? 59).bind fun x => x.zero.map Value.cells) = some #[.int .i64 0] := by kernel_rfl
    have h2 : (Try.prog.info? 59).map (fun x => x.size) = some 1 := by kernel_rfl
    have h3 : (Try.prog.info? 59).map (fun x => x.bytes) = some 8 := by kernel_rfl
    rw [h] at h1 h2 h3
    simp only [Option.bind_some, Option.map_some, Option.some.injEq] at h2 h3
    exact ⟨ti, rfl, h1, h2, h3⟩
noncomputable def reg9_0 := rg Try.f9.body [0]
noncomputable def reg9_1 := rg Try.f9.body [1, 0]
theorem z9 : List.range reg9_0.size = [0] ∧ List.range reg9_1.size = [0, 1, 2, 3, 4, 5, 6, 7] := by refine ⟨?_, ?_⟩ <;> kernel_rfl
theorem code9_is : Try.f9.body = some (.seq (.region 0 reg9_0 false) (.seq (.region 1 reg9_1 false) (.ret))) := by kernel_rfl
section
variable {main : Bool} {V : Nat → Option Wait}
theorem new_w (sz : Int) (w : World) : CallW Try.prog main V 9 #[.int .i64 sz] w (fun v w' => v = .pointer (some ⟨w.heap.size + 1, 0, none⟩) ∧ SpI (w.heap.size + 1) w.heap.size (stN sz) (some ⟨w.heap.size, 0, none⟩) (stN sz - 1) sp0 w' ∧ (∀ b, b < w.heap.size → w'.heap[b]? = w.heap[b]?) ∧ w'.heap.size = w.heap.size + 2) := by
  intro c cs
  have hmx := @events_max_ints Try.prog
  have hmn := @events_min_ints Try.prog
  obtain ⟨ti, hi1, hz, hsz, hby⟩ := infoW
  obtain ⟨z, hz1, hz2⟩ : ∃ z, ti.zero = some z ∧ z.cells = #[.int .i64 0] := by
    cases h : ti.zero with
    | none => rw [h] at hz; cases hz
    | some z => rw [h] at hz; exact ⟨z, rfl, by simpa using hz⟩
  obtain ⟨q1, q2, q3⟩ := stN_le sz
  obtain ⟨k, hk⟩ : ∃ k, stN sz = k + 1 := ⟨stN sz - 1, by omega⟩
  rw [hk] at q1 q2 q3 ⊢
  have hq : min (max sz 1) 64 = (k : Int) + 1 := by omega
  have hw1 : IntKind.i64.wrap ((k : Int) + 1 - 1) = (k : Int) := by rw [IntKind.wrap_i64]; omega
  have hw2 : IntKind.i64.wrap (k : Int) = (k : Int) := by rw [IntKind.wrap_i64]; omega
  clear q1 q3 hk hz
  rw [enter_at _ Try.func9 code9_is]
  simp only [Try.ntmps9, ez, Nat.reduceAdd, Nat.reduceSub]
  repeat (first | refine Walk.cx ?_ | (refine Walk.cReg ?_; simp only [z9]) | (refine Walk.oq ?_; try walk_nrm) | (refine Walk.un ?_; walk_nrm))
  refine Walk.make 52 (.tmp 6) (.tmp 6) (ho_of (by conv => lhs; whnf) (by kernel_rfl)) (by rfl) (by decide) rfl 59 _ z 1 8 (by kernel_rfl) hi1 hz1 hsz hby k (by rfl) (by rfl) (by omega) (by omega) ?_
  rw [hz2]
  walk_nrm
  have s1 : (w.alloc (.cells (madeCells #[.int .i64 0] (k * 1)) 59)).heap.size = w.heap.size + 1 := by simp
  have o1 : ∀ b, b < w.heap.size → (w.alloc (.cells (madeCells #[.int .i64 0] (k * 1)) 59)).heap[b]? = w.heap[b]? := fun b hb => heap_new_lt _ _ hb
  have d1 := heap_alloc_new w (.cells (madeCells #[.int .i64 0] (k * 1)) 59)
  generalize hT : w.heap.size = T at *
  generalize w.alloc (.cells (madeCells #[.int .i64 0] (k * 1)) 59) = w1 at *
  clear hi1 hz1 hsz hby hz2 hmx hmn hq hw1 hw2
  repeat (first | refine Walk.cx ?_ | (refine Walk.cReg ?_; simp only [z9]) | (refine Walk.oq ?_; try walk_nrm) | (refine Walk.un ?_; walk_nrm))
  (refine Walk.oa ?_; try walk_nrm)
  have d2 := heap_alloc_new w1 (.cells #[.int .i64 0, .slice (some ⟨T, 0, none⟩) k k] 61)
  have s2 : (w1.alloc (.cells #[.int .i64 0, .slice (some ⟨T, 0, none⟩) k k] 61)).heap.size = w1.heap.size + 1 := by simp
  have o2 : ∀ b, b < w1.heap.size → (w1.alloc (.cells #[.int .i64 0, .slice (some ⟨T, 0, none⟩) k k] 61)).heap[b]? = w1.heap[b]? := fun b hb => heap_new_lt _ _ hb
  rw [s1] at d2 s2 o2
  try simp only [s1]
  generalize w1.alloc (.cells #[.int .i64 0, .slice (some ⟨T, 0, none⟩) k k] 61) = w2 at *
  repeat (first | refine Walk.cx ?_ | (refine Walk.cReg ?_; simp only [z9]) | (refine Walk.oq ?_; try walk_nrm) | (refine Walk.un ?_; walk_nrm))
  refine Walk.on1 rfl rfl Try.func9 rfl (.stop fun d => ⟨_, ⟨rfl, ⟨d2, fun _ => ⟨rfl, _, (o2 T (by omega)).trans d1, fun i h1 h2 => made1 k _ (by omega)⟩, fun _ => by omega, by omega⟩, fun b hb => (o2 b (by omega)).trans (o1 b hb), s2⟩, rfl⟩)
end
structure QuE (L : La) (y0 : L.Gh) (base : World) (P : Nat → L.Sg × (Ans ⊕ L.D) → Prop) where
  w : World
  y : L.Gh
  s : L.Sg
  tgt : L.Sg × (Ans ⊕ L.D)
  fuel : Nat
  le : L.le y0 y
  inv : L.I y s w
  size : base.heap.size ≤ w.heap.size
  old : ∀ b, b < base.heap.size → ¬ L.sh y0 b → w.heap[b]? = base.heap[b]?
  pub : ∀ b, L.sh y b → b < base.heap.size → L.sh y0 b
  run : P fuel tgt
section
variable {L : La} {main : Bool} {V : Nat → Option Wait} {Stop : Goroutine → World → Prop} {cs : List Frame} {y0 : L.Gh} {base : World} {P : Nat → L.Sg × (Ans ⊕ L.D) → Prop}
def quB (main : Bool) (V : Nat → Option Wait) (Stop : Goroutine → World → Prop) (cs : List Frame) (y0 : L.Gh) (base : World) (P : Nat → L.Sg × (Ans ⊕ L.D) → Prop) : Lb L where
  main := main
  E := QuE L y0 base P
  V := fun _ => V
  Stop := fun _ => Stop
  bot := fun _ => cs
  w := fun e => e.w
  s := fun e => e.s
  gh := fun e => e.y
  tgt := fun e => e.tgt
  fuel := fun e => e.fuel
  mine := fun e b => (base.heap.size ≤ b ∧ b < e.w.heap.size) ∧ ¬ L.sh e.y b
theorem qu_step (hP : ∀ n s d, P n (s, .inr d) → ∃ n', n' < n ∧ P n' (L.act s d)) (e : QuE L y0 base P) (d : L.D) (ht : e.tgt = (e.s, .inr d)) (fr : Frame) (l : List Frame) (hk : ∀ e' : QuE L y0 base P, Aft (quB main V Stop cs y0 base P) e d e' → LW (quB main V Stop cs y0 base P) e' (G (fr.finish (.tuple #[])) (l ++ cs))) :
    LW (quB main V Stop cs y0 base P) e (G (Frame.enter Try.prog 32 #[.nilIface] .normal) (fr :: (l ++ cs))) := by
  obtain ⟨ms, hu⟩ := undStepperN
  have hn1 := fun w => run_neq_nilIface (P := Try.prog) (w := w) 63 hu
  have hn2 := fun w es => ev_neq_nilIface (P := Try.prog) (w := w) 63 es hu
  obtain ⟨n, hn, hr⟩ : ∃ n, n < e.fuel ∧ P n (L.act e.s d) := hP _ _ _ (by have h := e.run; rw [ht] at h; exact h)
  have hh := hk { w := e.w, y := e.y, s := e.s, tgt := L.act e.s d, fuel := n, le := e.le, inv := e.inv, size := e.size, old := e.old, pub := e.pub, run := hr } ⟨rfl, hn, L.refl _, Nat.le_refl _, fun b h => ⟨h, rfl⟩⟩
  unfold LW at hh ⊢
  show Walk Try.prog main (DR V) Stop _ e.w
  replace hh : Walk Try.prog main (DR V) Stop (G (fr.finish (.tuple #[])) (l ++ cs)) e.w := hh
  rw [enter_at _ Try.func32 code32_is]
  simp only [Try.ntmps32, ez, Nat.reduceAdd, Nat.reduceSub]
  repeat (first | refine Walk.cx ?_ | (refine Walk.cReg ?_; simp only [z32]) | (refine Walk.oq ?_; try walk_nrm) | (refine Walk.un ?_; walk_nrm))
  exact Walk.on0 rfl rfl Try.func32 rfl hh
theorem qu_mine {y0 y' : L.Gh} {base : World} {e : QuE L y0 base P} {w' : World} {b : Nat} (hle : L.le e.y y') (hs : e.w.heap.size ≤ w'.heap.size) : ((base.heap.size ≤ b ∧ b < w'.heap.size) ∧ ¬ L.sh y' b) ↔ ((((base.heap.size ≤ b ∧ b < e.w.heap.size) ∧ ¬ L.sh e.y b) ∨ (e.w.heap.size ≤ b ∧ b < w'.heap.size)) ∧ ¬ L.sh y' b) := by
  have := e.size
  constructor
  · rintro ⟨⟨a, b'⟩, hn⟩
    refine ⟨?_, hn⟩
    by_cases hb : b < e.w.heap.size
    · exact .inl ⟨⟨a, hb⟩, fun h => hn (L.mono hle h)⟩
    · exact .inr ⟨by omega, b'⟩
  · rintro ⟨⟨⟨a, b'⟩, _⟩ | ⟨a, b'⟩, hn⟩
    · exact ⟨⟨a, by omega⟩, hn⟩
    · exact ⟨⟨by omega, b'⟩, hn⟩
def quL (hP : ∀ n s d, P n (s, .inr d) → ∃ n', n' < n ∧ P n' (L.act s d)) (hA : ∀ b, Apart V b) (main : Bool) (Stop : Goroutine → World → Prop) (cs : List Frame) (y0 : L.Gh) (base : World) : Lg L .nilIface where
  toLb := quB main V Stop cs y0 base P
  one := rfl
  inv := fun e => e.inv
  shA := fun _ b _ => hA b
  mineA := fun e b h => ⟨hA b, h.2, h.1.2⟩
  newA := fun _ b _ => hA b
  mg := fun e y' s' w' h0 h1 h2 h3 h4 => ⟨{ w := w', y := y', s := s', tgt := e.tgt, fuel := e.fuel, le := L.trans e.le h0, inv := h3, size := Nat.le_trans e.size h1, old := fun b hb hs => (h2 b (Nat.lt_of_lt_of_le hb e.size) (fun hm => by have := hm.1.1; omega) (fun hm => hs (e.pub b hm hb))).trans (e.old b hb hs), pub := fun b hb hlt => (h4 b hb).elim (fun h => e.pub b h hlt) fun h => h.elim (fun h => absurd h.1.1 (Nat.not_le_of_lt hlt)) fun h => absurd (Nat.le_trans e.size h) (Nat.not_le_of_lt hlt), run := e.run }, rfl, rfl, rfl, rfl, rfl, rfl, rfl, rfl, fun b => qu_mine h0 h1⟩
  step := fun e d ht fr l _ _ hk => qu_step hP e d ht fr l hk
variable {b : Frame} {a : Act} {k : List Item} {ops : Array Oper} {i : Nat} {rest : List Nat} {o : Oper} {w : World}
theorem Walk.callQu {f : FuncId} {fn : Func} {args : Array Operand} {ats : Array TypeId} (hP : ∀ n s d, P n (s, .inr d) → ∃ n', n' < n ∧ P n' (L.act s d)) (N : Nat) (y0 : L.Gh) (s : L.Sg) (r0 : Ans ⊕ L.D) (hA : ∀ b, Apart V b) (hI : L.I y0 s w) (h0 : P N (s, r0)) (Q : (K : Lg L .nilIface) → Value → K.E → Prop)
    (hc : ∀ (K : Lg L .nilIface) (e : K.E), K.tgt e = (K.s e, r0) → SCall K.toLb f (args.map a.eval) e (Q K))
    (ho : ops[i]? = some o) (hw : Region.wanted o (yielded ops a.tmps) = true) (hk : b.kind ≠ .early) (hop : o.op = .call { callee := .value (.func f), args, argTypes := ats })
    (hf : Try.prog.funcs[f]? = some fn) (hname : (fn.name == "runtime.NumGoroutine") = false) (hb : fn.body.isNone = false) (hp : Plain (b.at a (.inRegion ops (i :: rest) :: k)))
    (h : ∀ v (e' : QuE L y0 w P), Q (quL (V := V) hP hA main Stop cs y0 w) v e' → Walk Try.prog main (DR V) Stop (G (b.at (a.put o.dst v) (.inRegion ops rest :: k)) cs) e'.w) :
    Walk Try.prog main (DR V) Stop (G (b.at a (.inRegion ops (i :: rest) :: k)) cs) w := by
  refine Walk.callE ho hw hk hop hf hname hb ?_
  have key := hc (quL (V := V) hP hA main Stop cs y0 w) { w := w, y := y0, s := s, tgt := (s, r0), fuel := N, le := L.refl _, inv := hI, size := Nat.le_refl _, old := fun _ _ _ => rfl, pub := fun _ h _ => h, run := h0 } rfl (b.at a (.inRegion ops (i :: rest) :: k)) [] hp (fun _ h => by cases h) ?_
  · exact key
  · intro v e' hq
    have := h v e' hq
    rw [Frame.finish_at, ho]
    exact this
end
def stL (s : Sp) (m : Nat) : List Int := (List.range m).map s
theorem stL_succ (s : Sp) (k : Nat) : stL s (k + 1) = stL s k ++ [s k] := by simp [stL, List.range_succ]
theorem stL_get (s : Sp) (m k : Nat) (hk : k < m) : (stL s m).getD k 0 = s k := by simp [stL, List.getD_eq_getElem?_getD, hk]
def evP (m : Nat) (s : Sp) (n : Nat) (t : Sp × (Ans ⊕ SD)) : Prop :=
  t.1 = s ∧ ((∃ k, k ≤ m ∧ t.2 = dE m k (stL s k) ∧ n = 2 * m + 1 - k) ∨ (∃ k, k < m ∧ t.2 = .inr (.e2 k (stL s m)) ∧ n = m - k) ∨ ∃ a, t.2 = .inl a)
theorem evP_two {m : Nat} (s : Sp) (k : Nat) (hk : k < m) (n : Nat) (hn : m - k ≤ n) : ∃ n', n' < n ∧ evP m s n' (spAct m s (.e2 k (stL s m))) := by
  have h : spAct m s (.e2 k (stL s m)) = (s, if k + 1 = m then .inl ⟨true, sumZ (stL s m), []⟩ else .inr (.e2 (k + 1) (stL s m))) := by
    simp only [spAct, stL_get s m k hk, ne_eq, not_true_eq_false, if_false]
  rw [h]
  refine ⟨m - (k + 1), by omega, rfl, .inr ?_⟩
  by_cases hm : k + 1 = m
  · exact .inr ⟨_, if_pos hm⟩
  · exact .inl ⟨k + 1, by omega, if_neg hm, rfl⟩
theorem evP_step {m : Nat} (hm : 0 < m) (s : Sp) (n : Nat) (s' : Sp) (d : SD) (h : evP m s n (s', .inr d)) : ∃ n', n' < n ∧ evP m s n' (spAct m s' d) := by
  obtain ⟨h0, h1⟩ := h
  replace h0 : s' = s := h0
  subst h0
  rcases h1 with ⟨k, hk, e, rfl⟩ | ⟨k, hk, e, rfl⟩ | ⟨a, e⟩
  · replace e : Sum.inr d = dE m k (stL s' k) := e
    unfold dE at e
    by_cases hkm : k = m
    · rw [if_pos hkm] at e
      cases e
      subst hkm
      exact evP_two s' 0 hm _ (by omega)
    · rw [if_neg hkm] at e
      cases e
      have h : spAct m s' (.e1 k (stL s' k)) = (s', dE m (k + 1) (stL s' (k + 1))) := by rw [stL_succ]; rfl
      rw [h]
      exact ⟨2 * m + 1 - (k + 1), by omega, rfl, .inl ⟨k + 1, by omega, rfl, rfl⟩⟩
  · cases e
    exact evP_two s' k hk _ (Nat.le_refl _)
  · cases e
theorem evP_end {m : Nat} {s s' : Sp} {n : Nat} {l : List Int} (h : evP m s n (s', dE m m l)) : l = stL s m ∧ s' = s := by
  obtain ⟨h0, h1⟩ := h
  refine ⟨?_, h0⟩
  have e0 : dE m m l = .inr (.e2 0 l) := if_pos rfl
  rw [e0] at h1
  rcases h1 with ⟨k, hk, e, _⟩ | ⟨k, hk, e, _⟩ | ⟨a, e⟩
  · unfold dE at e
    by_cases hkm : k = m
    · rw [if_pos hkm] at e
      cases e
      rw [hkm]
    · rw [if_neg hkm] at e
      cases e
  · cases e; rfl
  · cases e
noncomputable def reg16_0 := rg Try.f16.body [0]
noncomputable def reg16_1 := rg Try.f16.body [1, 0]
theorem z16 : List.range reg16_0.size = [0] ∧ List.range reg16_1.size = [0, 1, 2] := by refine ⟨?_, ?_⟩ <;> kernel_rfl
theorem code16_is : Try.f16.body = some (.seq (.region 0 reg16_0 false) (.seq (.region 1 reg16_1 false) (.ret))) := by kernel_rfl
structure AllOut (cb rb m : Nat) (ra : Option Addr) (rc : Nat) (s : Sp) (w : World) (v : Value) (w' : World) : Prop where
  row : ∃ B, v = .slice (some ⟨B, 0, none⟩) m m ∧ w.heap.size ≤ B ∧ B < w'.heap.size ∧ Told w' B m (stL s m)
  I : SpI cb rb m ra rc s w'
  old : ∀ b, b < w.heap.size → ¬ (b = cb ∨ (1 < m ∧ b = rb)) → w'.heap[b]? = w.heap[b]?
  size : w.heap.size ≤ w'.heap.size
section
variable {main : Bool} {V : Nat → Option Wait} {cb rb m : Nat} {ra : Option Addr} {rc : Nat}
theorem all_w (hA : ∀ b, Apart V b) (s : Sp) (w : World) (I : SpI cb rb m ra rc s w) : CallW Try.prog main V 16 #[.pointer (some ⟨cb, 0, none⟩)] w (AllOut cb rb m ra rc s w) := by
  intro c cs
  have hm0 := I.pos.1
  rw [enter_at _ Try.func16 code16_is]
  simp only [Try.ntmps16, ez, Nat.reduceAdd, Nat.reduceSub]
  repeat (first | refine Walk.cx ?_ | (refine Walk.cReg ?_; simp only [z16]) | (refine Walk.oq ?_; try walk_nrm) | (refine Walk.un ?_; walk_nrm))
  refine Walk.callQu (L := spLa cb rb m ra rc) (P := evP m s) (fun n s' d h => evP_step hm0 s n s' d h) (2 * m + 1) () s (dE m 0 []) hA I ⟨rfl, .inl ⟨0, by omega, rfl, by omega⟩⟩ (fun K => EachOut K (dE m)) (f := 29) ?_ (ho_of (by conv => lhs; whnf) (by kernel_rfl)) (by rfl) (by decide) rfl Try.func29 (by kernel_rfl) (by rfl) ⟨rfl, rfl, _, Try.func16⟩ ?_
  · intro K e ht
    walk_nrm
    exact loadAll_s K (dE m) .e1 (fun k l hk => if_neg (by omega)) (fun _ _ _ => rfl) e ht
  rintro v e ⟨B, l, rfl, hl, hmB, hT, ht⟩
  have hr := e.run
  have ht : e.tgt = (e.s, dE m m l) := ht
  rw [ht] at hr
  obtain ⟨rfl, hs⟩ := evP_end hr
  have hI : SpI cb rb m ra rc s e.w := by have := e.inv; rw [hs] at this; exact this
  have hT : Told e.w B m (stL s m) := hT
  have hB : w.heap.size ≤ B ∧ B < e.w.heap.size := hmB.1
  have ho := e.old
  have hz := e.size
  walk_nrm
  generalize e.w = w1 at *
  repeat (first | refine Walk.cx ?_ | (refine Walk.cReg ?_; simp only [z16]) | (refine Walk.oq ?_; try walk_nrm) | (refine Walk.un ?_; walk_nrm))
  exact Walk.on1 rfl rfl Try.func16 rfl (.stop fun d => ⟨_, ⟨⟨B, rfl, hB.1, hB.2, hT⟩, hI.old fun _ _ => rfl, ho, hz⟩, rfl⟩)
end
end
end Go.Proofs.Ytabpfdckgnimaaa
