/- Part 2. -/
import Derived.Test.YtnnakajldnaldaaZ1
set_option linter.unusedSimpArgs false
set_option linter.unusedVariables false
set_option maxHeartbeats 8000000
set_option maxRecDepth 100000
namespace Go.Proofs.Ytnnakajldnaldaa
open Go.Conc Go.RowKit Go.Relay
open Go.ConcN (upd upd_ne upd_same)
section
section
variable {cb rb m : Nat} {ra : Option Addr} {rc : Nat}
theorem cell_back6 {L : La} {sv : Value} (K : Lg L sv) {F : FuncId} {fn : Func} {e2 : K.E} {fr c : Frame} {l : List Frame} {R : Nat} {a : Ans} {Q : Value → K.E → Prop} (hm : K.mine e2 R) (hR : (K.w e2).heap[R]? = some (.cells #[.bool false, .int .i64 0, .slice none 0 0] 43))
    (ht : K.tgt e2 = (K.s e2, .inl a)) (hk : ∀ e', K.tgt e' = (K.s e', .inl a) → LW K.toLb e' (G (c.finish (ansVal a)) (l ++ K.bot e')))
    (hF : Try.prog.funcs[F]? = some fn) (hres : fn.results = #[.cell 6 43]) (hfr : fr.mode = .returning ∧ fr.kind = .normal ∧ fr.defers = [] ∧ fr.fn = F ∧ fr.tmps.getD 6 undef = .pointer (some ⟨R, 0, none⟩)) :
    Walk Try.prog K.main (DR (K.V e2)) (K.Stop e2) (G fr (c :: (l ++ K.bot e2))) ((K.w e2).setRow R #[.bool a.1, .int .i64 a.2, .slice none 0 0]) := by
  obtain ⟨h1, h2, h3, h4, h5⟩ := hfr
  obtain ⟨e3, m⟩ := K.own e2 (w' := (K.w e2).setRow R #[.bool a.1, .int .i64 a.2, .slice none 0 0]) (by rw [setRow_size]; exact Nat.le_refl _) (fun b _ hbm => setRow_other _ _ (fun he : b = R => hbm (by rw [he]; exact hm)))
  have c9 := setRow_self (cells := #[.bool a.1, .int .i64 a.2, .slice none 0 0]) hR
  refine Walk.onCell (T := R) h1 h2 h3 (by rw [h4]; exact hF) hres h5 c9 (by kernel_rfl) (by kernel_rfl) ?_
  refine LW.to m (hk e3 ?_)
  rw [m.tgt, m.s]
  exact ht
noncomputable def reg18_0 : Array Oper := match Try.f18.body with | some (.seq (.region _ ops _) _) => ops | _ => #[]
theorem size18_0 : reg18_0.size = 2 := by kernel_rfl
noncomputable def reg18_1 : Array Oper := match Try.f18.body with | some (.seq _ (.seq (.region _ ops _) _)) => ops | _ => #[]
theorem size18_1 : reg18_1.size = 3 := by kernel_rfl
noncomputable def reg18_2 : Array Oper := match Try.f18.body with | some (.seq _ (.seq _ (.seq (.seq (.region _ ops _) _) _))) => ops | _ => #[]
theorem size18_2 : reg18_2.size = 2 := by kernel_rfl
noncomputable def reg18_4 : Array Oper := match Try.f18.body with | some (.seq _ (.seq _ (.seq (.seq _ (.block _ (.seq (.region _ ops _) _))) _))) => ops | _ => #[]
theorem size18_4 : reg18_4.size = 2 := by kernel_rfl
noncomputable def reg18_5 : Array Oper := match Try.f18.body with | some (.seq _ (.seq _ (.seq (.seq _ (.block _ (.seq _ (.cond _ (.region _ ops _) _)))) _))) => ops | _ => #[]
theorem size18_5 : reg18_5.size = 9 := by kernel_rfl
noncomputable def reg18_6 : Array Oper := match Try.f18.body with | some (.seq _ (.seq _ (.seq (.seq _ (.block _ (.seq _ (.cond _ _ (.seq (.region _ ops _) _))))) _))) => ops | _ => #[]
theorem size18_6 : reg18_6.size = 2 := by kernel_rfl
noncomputable def reg18_7 : Array Oper := match Try.f18.body with | some (.seq _ (.seq _ (.seq (.seq _ (.block _ (.seq _ (.cond _ _ (.seq _ (.cond _ (.region _ ops _) _)))))) _))) => ops | _ => #[]
theorem size18_7 : reg18_7.size = 5 := by kernel_rfl
noncomputable def reg18_8 : Array Oper := match Try.f18.body with | some (.seq _ (.seq _ (.seq (.seq _ (.block _ (.seq _ (.cond _ _ (.seq _ (.cond _ _ (.seq (.region _ ops _) _))))))) _))) => ops | _ => #[]
theorem size18_8 : reg18_8.size = 2 := by kernel_rfl
noncomputable def reg18_9 : Array Oper := match Try.f18.body with | some (.seq _ (.seq _ (.seq (.seq _ (.block _ (.seq _ (.cond _ _ (.seq _ (.cond _ _ (.seq _ (.cond _ (.region _ ops _) _)))))))) _))) => ops | _ => #[]
theorem size18_9 : reg18_9.size = 5 := by kernel_rfl
noncomputable def reg18_10 : Array Oper := match Try.f18.body with | some (.seq _ (.seq _ (.seq (.seq _ (.block _ (.seq _ (.cond _ _ (.seq _ (.cond _ _ (.seq _ (.cond _ _ (.seq (.region _ ops _) _))))))))) _))) => ops | _ => #[]
theorem size18_10 : reg18_10.size = 2 := by kernel_rfl
noncomputable def reg18_11 : Array Oper := match Try.f18.body with | some (.seq _ (.seq _ (.seq (.seq _ (.block _ (.seq _ (.cond _ _ (.seq _ (.cond _ _ (.seq _ (.cond _ _ (.seq _ (.cond _ (.region _ ops _) _)))))))))) _))) => ops | _ => #[]
theorem size18_11 : reg18_11.size = 9 := by kernel_rfl
noncomputable def reg18_12 : Array Oper := match Try.f18.body with | some (.seq _ (.seq _ (.seq (.seq _ (.block _ (.seq _ (.cond _ _ (.seq _ (.cond _ _ (.seq _ (.cond _ _ (.seq _ (.cond _ _ (.seq (.region _ ops _) _))))))))))) _))) => ops | _ => #[]
theorem size18_12 : reg18_12.size = 2 := by kernel_rfl
noncomputable def reg18_13 : Array Oper := match Try.f18.body with | some (.seq _ (.seq _ (.seq (.seq _ (.block _ (.seq _ (.cond _ _ (.seq _ (.cond _ _ (.seq _ (.cond _ _ (.seq _ (.cond _ _ (.seq _ (.cond _ (.region _ ops _) _)))))))))))) _))) => ops | _ => #[]
theorem size18_13 : reg18_13.size = 10 := by kernel_rfl
noncomputable def reg18_3 : Array Oper := match Try.f18.body with | some (.seq _ (.seq _ (.seq (.seq _ (.block _ (.seq _ (.cond _ _ (.seq _ (.cond _ _ (.seq _ (.cond _ _ (.seq _ (.cond _ _ (.seq _ (.cond _ _ (.seq (.region _ ops _) _))))))))))))) _))) => ops | _ => #[]
theorem size18_3 : reg18_3.size = 2 := by kernel_rfl
noncomputable def reg18_14 : Array Oper := match Try.f18.body with | some (.seq _ (.seq _ (.seq _ (.seq (.region _ ops _) _)))) => ops | _ => #[]
theorem size18_14 : reg18_14.size = 2 := by kernel_rfl
theorem code18_is : Try.f18.body = some (.seq (.region 0 reg18_0 false) (.seq (.region 1 reg18_1 false) (.seq (.seq (.region 2 reg18_2 false) (.block 0 (.seq (.region 4 reg18_4 false) (.cond (.tmp 12 ) (.region 5 reg18_5 false) (.seq (.region 6 reg18_6 false) (.cond (.tmp 22 ) (.region 7 reg18_7 false) (.seq (.region 8 reg18_8 false) (.cond (.tmp 28 ) (.region 9 reg18_9 false) (.seq (.region 10 reg18_10 false) (.cond (.tmp 34 ) (.region 11 reg18_11 false) (.seq (.region 12 reg18_12 false) (.cond (.tmp 45 ) (.region 13 reg18_13 false) (.seq (.region 3 reg18_3 false) (.ret)))))))))))))) (.seq (.region 14 reg18_14 false) (.ret))))) := by kernel_rfl
theorem call_s {sv : Value} (K : Lg (spLa cb rb m ra rc) sv) (e : K.E) (ok oa ob oc : Int) (ht : K.tgt e = spEnter m (K.s e) ⟨ok, oa, ob, oc⟩) :
    SCall K.toLb 18 #[.pointer (some ⟨cb, 0, none⟩), sv, .agg #[.int .i64 ok, .int .i64 oa, .int .i64 ob, .int .i64 oc]] e (fun v e' => ∃ a, K.tgt e' = (K.s e', .inl a) ∧ v = ansVal a) := by
  intro fr l hp hl hk
  have hm0 := (K.inv e).pos.1
  unfold LW
  rw [enter_at _ Try.func18 code18_is]
  simp only [Try.ntmps18, List.size_toArray, List.length_cons, List.length_nil, Nat.reduceAdd, Nat.reduceSub, Array.replicate_succ, Array.replicate_zero, List.push_toArray, List.append_toArray, List.nil_append, List.cons_append]
  repeat (first | refine Walk.c rfl ?_ | refine Walk.cRet ?_ | refine Walk.cEnd ?_ | (refine Walk.cReg ?_; simp only [size18_0, size18_1, size18_2, size18_4, size18_5, size18_6, size18_7, size18_8, size18_9, size18_10, size18_11, size18_12, size18_13, size18_3, size18_14, List.range, List.range.loop]) | (refine Walk.oq ?_; try walk_nrm) | (refine Walk.un ?_; walk_nrm))
  (refine Walk.oa ?_; try walk_nrm)
  have s0 : ((K.w e).alloc (.cells #[.int .i64 ok, .int .i64 oa, .int .i64 ob, .int .i64 oc] 46)).heap.size = (K.w e).heap.size + 1 := by simp
  have o0 : ∀ b, b < (K.w e).heap.size → ((K.w e).alloc (.cells #[.int .i64 ok, .int .i64 oa, .int .i64 ob, .int .i64 oc] 46)).heap[b]? = (K.w e).heap[b]? := fun b hb => heap_new_lt _ _ hb
  have d0 := heap_alloc_new (K.w e) (.cells #[.int .i64 ok, .int .i64 oa, .int .i64 ob, .int .i64 oc] 46)
  generalize hN : (K.w e).heap.size = N at *
  generalize (K.w e).alloc (.cells #[.int .i64 ok, .int .i64 oa, .int .i64 ob, .int .i64 oc] 46) = x0 at *
  (refine Walk.oa ?_; try walk_nrm)
  have s1 : (x0.alloc (.cells #[.bool false, .int .i64 0, .slice none 0 0] 43)).heap.size = N + 2 := by simp [s0]
  have o1 : ∀ b, b < N + 1 → (x0.alloc (.cells #[.bool false, .int .i64 0, .slice none 0 0] 43)).heap[b]? = x0.heap[b]? := fun b hb => heap_new_lt _ _ (by omega)
  have d1 : (x0.alloc (.cells #[.bool false, .int .i64 0, .slice none 0 0] 43)).heap[N + 1]? = some (.cells #[.bool false, .int .i64 0, .slice none 0 0] 43) := s0 ▸ heap_alloc_new x0 (.cells #[.bool false, .int .i64 0, .slice none 0 0] 43)
  try simp only [s0]
  generalize x0.alloc (.cells #[.bool false, .int .i64 0, .slice none 0 0] 43) = x1 at *
  repeat (first | refine Walk.c rfl ?_ | refine Walk.cRet ?_ | refine Walk.cEnd ?_ | (refine Walk.cReg ?_; simp only [size18_0, size18_1, size18_2, size18_4, size18_5, size18_6, size18_7, size18_8, size18_9, size18_10, size18_11, size18_12, size18_13, size18_3, size18_14, List.range, List.range.loop]) | (refine Walk.oq ?_; try walk_nrm) | (refine Walk.un ?_; walk_nrm))
  (refine Walk.oa ?_; try walk_nrm)
  have s2 : (x1.alloc (.cells #[.bool false, .int .i64 0, .slice none 0 0] 43)).heap.size = N + 3 := by simp [s1]
  have o2 : ∀ b, b < N + 2 → (x1.alloc (.cells #[.bool false, .int .i64 0, .slice none 0 0] 43)).heap[b]? = x1.heap[b]? := fun b hb => heap_new_lt _ _ (by omega)
  have d2 : (x1.alloc (.cells #[.bool false, .int .i64 0, .slice none 0 0] 43)).heap[N + 2]? = some (.cells #[.bool false, .int .i64 0, .slice none 0 0] 43) := s1 ▸ heap_alloc_new x1 (.cells #[.bool false, .int .i64 0, .slice none 0 0] 43)
  try simp only [s1]
  generalize x1.alloc (.cells #[.bool false, .int .i64 0, .slice none 0 0] 43) = x2 at *
  obtain ⟨e1, m1⟩ := K.grow e (w' := x2) (by omega) (fun b hb' => (o2 b (by omega)).trans ((o1 b (by omega)).trans (o0 b (by omega))))
  have hmn : K.mine e1 (N + 1) := m1.new (by omega) (by omega)
  have hmo : K.mine e1 (N + 2) := m1.new (by omega) (by omega)
  have c1 : x2.heap[N]? = some (.cells #[.int .i64 ok, .int .i64 oa, .int .i64 ob, .int .i64 oc] 46) := (o2 _ (by omega)).trans ((o1 _ (by omega)).trans d0)
  have c2 : x2.heap[N + 1]? = some (.cells #[.bool false, .int .i64 0, .slice none 0 0] 43) := (o2 _ (by omega)).trans d1
  have c3 : x2.heap[N + 2]? = some (.cells #[.bool false, .int .i64 0, .slice none 0 0] 43) := d2
  have ht1 : K.tgt e1 = spEnter m (K.s e1) ⟨ok, oa, ob, oc⟩ := by rw [m1.tgt, m1.s]; exact ht
  clear d0 d1 d2 s0 s1 s2 o0 o1 o2
  have hw1 := m1.w
  refine LW.to (l := fr :: l) m1 ?_
  unfold LW
  clear m1 ht
  subst hw1
  have hapN := (K.mineA e1 _ hmn).1
  have hapO := (K.mineA e1 _ hmo).1
  refine Walk.storeS 43 (.tmp 7) (.tmp 8) (ho_of (by conv => lhs; whnf) (by kernel_rfl)) (by rfl) (by decide) rfl (N + 2) #[.bool true, .int .i64 0, .slice none 0 0] _ 43 rfl rfl c3 (by kernel_rfl) (by rfl) (by simp [Value.oneCell']) hapO ?_
  obtain ⟨e2, m2⟩ := K.own e1 (w' := (K.w e1).setRow (N + 2) #[.bool true, .int .i64 0, .slice none 0 0]) (by rw [setRow_size]; exact Nat.le_refl _) (fun b _ hbm => setRow_other _ _ (fun he : b = N + 2 => hbm (by rw [he]; exact hmo)))
  have c1' : ((K.w e1).setRow (N + 2) #[.bool true, .int .i64 0, .slice none 0 0]).heap[N]? = some (.cells #[.int .i64 ok, .int .i64 oa, .int .i64 ob, .int .i64 oc] 46) := (setRow_other _ _ (by omega)).trans c1
  have c2' : ((K.w e1).setRow (N + 2) #[.bool true, .int .i64 0, .slice none 0 0]).heap[N + 1]? = some (.cells #[.bool false, .int .i64 0, .slice none 0 0] 43) := (setRow_other _ _ (by omega)).trans c2
  have c3' := setRow_self (cells := #[.bool true, .int .i64 0, .slice none 0 0]) c3
  have hmn' : K.mine e2 (N + 1) := (m2.mine _).2 (.inl hmn)
  have hmo' : K.mine e2 (N + 2) := (m2.mine _).2 (.inl hmo)
  have ht2 : K.tgt e2 = spEnter m (K.s e2) ⟨ok, oa, ob, oc⟩ := by rw [m2.tgt, m2.s]; exact ht1
  generalize (K.w e1).setRow (N + 2) #[.bool true, .int .i64 0, .slice none 0 0] = x3 at *
  have hw2 := m2.w
  refine LW.to (l := fr :: l) m2 ?_
  unfold LW
  clear m2 ht1 c1 c2 c3 hmn hmo hapN hapO
  subst hw2
  have hap0 := (K.mineA e2 _ hmn').1
  obtain ⟨fsA, huA⟩ := structT 43 (by kernel_rfl)
  have d0 := (cell_of c1' 0).trans rfl
  have d1 := (cell_of c1' 1).trans rfl
  have d2 := (cell_of c1' 2).trans rfl
  have d3 := (cell_of c1' 3).trans rfl
  try walk_nrm
  repeat (first | refine Walk.c rfl ?_ | refine Walk.cRet ?_ | refine Walk.cEnd ?_ | (refine Walk.cReg ?_; simp only [size18_0, size18_1, size18_2, size18_4, size18_5, size18_6, size18_7, size18_8, size18_9, size18_10, size18_11, size18_12, size18_13, size18_3, size18_14, List.range, List.range.loop]) | (refine Walk.oq ?_; try walk_nrm) | (refine Walk.un ?_; walk_nrm))
  by_cases h1 : ok = 1
  · subst h1
    have ht3 : K.tgt e2 = (K.s e2, .inr (.a1 (stAt m oa) ob)) := ht2
    repeat (first | refine Walk.c rfl ?_ | refine Walk.cRet ?_ | refine Walk.cEnd ?_ | (refine Walk.cReg ?_; simp only [size18_0, size18_1, size18_2, size18_4, size18_5, size18_6, size18_7, size18_8, size18_9, size18_10, size18_11, size18_12, size18_13, size18_3, size18_14, List.range, List.range.loop]) | (refine Walk.oq ?_; try walk_nrm) | (refine Walk.un ?_; walk_nrm))
    have hg := (SCall.fz K (sadd_s (Fz K e2) oa ob (.a1 (stAt m oa) ob) (fun y => .inl (true, y)) (fun _ => rfl) (fz0 K e2) ht3)).mono (Q' := fun x e' => Kept K e2 e' ∧ ∃ y, x = .int .i64 y ∧ K.tgt e' = (K.s e', .inl (true, y))) (fun v e' ⟨h, y, h1, h2⟩ => ⟨h, y, h1, h2⟩)
    refine LW.callS (K := K.toLb) (e := e2) (l := fr :: l) (f := 26) (Q := fun x e' => Kept K e2 e' ∧ ∃ y, x = .int .i64 y ∧ K.tgt e' = (K.s e', .inl (true, y))) ?_ (ho_of (by conv => lhs; whnf) (by kernel_rfl)) (by rfl) (by decide) rfl Try.func26 (by kernel_rfl) (by rfl) ⟨rfl, rfl, _, Try.func18⟩ (plain_cons hp hl) ?_
    · walk_nrm
      exact hg
    rintro x e2' ⟨hkept, y, rfl, ht4⟩
    obtain ⟨hm2, hb2⟩ := hkept (N + 1) hmn'
    obtain ⟨hm3, hb3⟩ := hkept (N + 2) hmo'
    rw [c2'] at hb2
    rw [c3'] at hb3
    have hap3 := (K.mineA e2' _ hm3).1
    clear hg hkept c1' c2' c3' d0 d1 d2 d3 hmn' hmo' hap0
    unfold LW
    walk_nrm
    repeat (first | (refine Walk.oq ?_; try walk_nrm) | (refine Walk.un ?_; walk_nrm))
    have g30 : (K.w e2').cell? ⟨N + 2, 1, none⟩ = some (.int .i64 0) := (cell_of hb3 1).trans rfl
    have y30 := frozen_of hb3 1
    (have hfr := hap3.1 ⟨N + 2, 1, none⟩ rfl; refine Walk.os hfr g30 ?_; clear hfr; try walk_nrm)
    clear g30 y30
    have b30 : ((K.w e2').setCell ⟨N + 2, 1, none⟩ (.int .i64 y)).heap[N + 2]? = some (.cells #[.bool true, .int .i64 y, .slice none 0 0] 43) := by
      rw [heap_set_self _ _ hb3]
      simp
    have o30 : ∀ z, z ≠ N + 2 → ((K.w e2').setCell ⟨N + 2, 1, none⟩ (.int .i64 y)).heap[z]? = (K.w e2').heap[z]? := fun z hb => heap_set_other _ _ _ _ hb
    have z30 : ((K.w e2').setCell ⟨N + 2, 1, none⟩ (.int .i64 y)).heap.size = (K.w e2').heap.size := size_set _ _ _
    obtain ⟨e3, m3⟩ := K.own e2' (w' := ((K.w e2').setCell ⟨N + 2, 1, none⟩ (.int .i64 y))) (Nat.le_of_eq z30.symm) (fun b _ hbm => o30 b (fun he : b = N + 2 => hbm (by rw [he]; exact hm3)))
    have b2 := (o30 (N + 1) (by omega)).trans hb2
    have hm2' : K.mine e3 (N + 1) := (m3.mine _).2 (.inl hm2)
    have ht5 : K.tgt e3 = (K.s e3, .inl (true, y)) := by rw [m3.tgt, m3.s]; exact ht4
    have b3 := b30
    clear b30 o30 z30
    generalize ((K.w e2').setCell ⟨N + 2, 1, none⟩ (.int .i64 y)) = x4 at *
    have hw3 := m3.w
    refine LW.to (l := fr :: l) m3 ?_
    unfold LW
    clear m3
    subst hw3
    try walk_nrm
    repeat (first | refine Walk.c rfl ?_ | refine Walk.cRet ?_ | refine Walk.cEnd ?_ | (refine Walk.cReg ?_; simp only [size18_0, size18_1, size18_2, size18_4, size18_5, size18_6, size18_7, size18_8, size18_9, size18_10, size18_11, size18_12, size18_13, size18_3, size18_14, List.range, List.range.loop]) | (refine Walk.oq ?_; try walk_nrm) | (refine Walk.un ?_; walk_nrm))
    refine Walk.loadS 43 (.tmp 7) (ho_of (by conv => lhs; whnf) (by kernel_rfl)) (by rfl) (by decide) rfl (N + 2) 0 [.bool true, .int .i64 y, .slice none 0 0] (.struct fsA) rfl (fun j v hj => ?_) huA rfl (by kernel_rfl) ?_
    · rw [Nat.zero_add, cell_of b3]
      simpa using hj
    walk_nrm
    refine Walk.storeS 43 (.tmp 6) (.tmp 55) (ho_of (by conv => lhs; whnf) (by kernel_rfl)) (by rfl) (by decide) rfl (N + 1) #[.bool true, .int .i64 y, .slice none 0 0] _ 43 rfl rfl b2 (by kernel_rfl) (by rfl) (by simp [Value.oneCell']) (K.mineA e3 _ hm2').1 ?_
    walk_nrm
    repeat (first | refine Walk.c rfl ?_ | refine Walk.cRet ?_ | refine Walk.cEnd ?_ | (refine Walk.cReg ?_; simp only [size18_0, size18_1, size18_2, size18_4, size18_5, size18_6, size18_7, size18_8, size18_9, size18_10, size18_11, size18_12, size18_13, size18_3, size18_14, List.range, List.range.loop]) | (refine Walk.oq ?_; try walk_nrm) | (refine Walk.un ?_; walk_nrm))
    exact cell_back6 K (a := (true, y)) (Q := fun _ _ => True) hm2' b2 ht5 (fun e' h => hk _ e' ⟨_, h, rfl⟩) Try.func18 rfl ⟨rfl, rfl, rfl, rfl, rfl⟩
  have hbk1 : (ok == 1) = false := by simp [h1]
  simp only [hbk1]
  repeat (first | refine Walk.c rfl ?_ | refine Walk.cRet ?_ | refine Walk.cEnd ?_ | (refine Walk.cReg ?_; simp only [size18_0, size18_1, size18_2, size18_4, size18_5, size18_6, size18_7, size18_8, size18_9, size18_10, size18_11, size18_12, size18_13, size18_3, size18_14, List.range, List.range.loop]) | (refine Walk.oq ?_; try walk_nrm) | (refine Walk.un ?_; walk_nrm))
  by_cases h2 : ok = 2
  · subst h2
    have ht3 : K.tgt e2 = (K.s e2, .inr (.u1 0 [])) := ht2
    repeat (first | refine Walk.c rfl ?_ | refine Walk.cRet ?_ | refine Walk.cEnd ?_ | (refine Walk.cReg ?_; simp only [size18_0, size18_1, size18_2, size18_4, size18_5, size18_6, size18_7, size18_8, size18_9, size18_10, size18_11, size18_12, size18_13, size18_3, size18_14, List.range, List.range.loop]) | (refine Walk.oq ?_; try walk_nrm) | (refine Walk.un ?_; walk_nrm))
    have ht4 : K.tgt e2 = (K.s e2, dU m 0 []) := ht3.trans (by unfold dU; rw [if_neg (by omega)]; rfl)
    have hg := (SCall.fz K (ssum_s (Fz K e2) (dU m) .u1 (fun k l hk => if_neg (by omega)) (fun _ _ _ => rfl) (fz0 K e2) ht4)).mono (Q' := fun x e' => Kept K e2 e' ∧ ∃ y, x = .int .i64 y ∧ K.tgt e' = (K.s e', .inl (true, y))) (fun v e' ⟨h, l, _, h1, h2⟩ => ⟨h, sumZ l, h1, h2.trans (by unfold dU; rw [if_pos rfl]; rfl)⟩)
    clear ht4
    refine LW.callS (K := K.toLb) (e := e2) (l := fr :: l) (f := 27) (Q := fun x e' => Kept K e2 e' ∧ ∃ y, x = .int .i64 y ∧ K.tgt e' = (K.s e', .inl (true, y))) ?_ (ho_of (by conv => lhs; whnf) (by kernel_rfl)) (by rfl) (by decide) rfl Try.func27 (by kernel_rfl) (by rfl) ⟨rfl, rfl, _, Try.func18⟩ (plain_cons hp hl) ?_
    · walk_nrm
      exact hg
    rintro x e2' ⟨hkept, y, rfl, ht4⟩
    obtain ⟨hm2, hb2⟩ := hkept (N + 1) hmn'
    obtain ⟨hm3, hb3⟩ := hkept (N + 2) hmo'
    rw [c2'] at hb2
    rw [c3'] at hb3
    have hap3 := (K.mineA e2' _ hm3).1
    clear hg hkept c1' c2' c3' d0 d1 d2 d3 hmn' hmo' hap0
    unfold LW
    walk_nrm
    repeat (first | (refine Walk.oq ?_; try walk_nrm) | (refine Walk.un ?_; walk_nrm))
    have g30 : (K.w e2').cell? ⟨N + 2, 1, none⟩ = some (.int .i64 0) := (cell_of hb3 1).trans rfl
    have y30 := frozen_of hb3 1
    (have hfr := hap3.1 ⟨N + 2, 1, none⟩ rfl; refine Walk.os hfr g30 ?_; clear hfr; try walk_nrm)
    clear g30 y30
    have b30 : ((K.w e2').setCell ⟨N + 2, 1, none⟩ (.int .i64 y)).heap[N + 2]? = some (.cells #[.bool true, .int .i64 y, .slice none 0 0] 43) := by
      rw [heap_set_self _ _ hb3]
      simp
    have o30 : ∀ z, z ≠ N + 2 → ((K.w e2').setCell ⟨N + 2, 1, none⟩ (.int .i64 y)).heap[z]? = (K.w e2').heap[z]? := fun z hb => heap_set_other _ _ _ _ hb
    have z30 : ((K.w e2').setCell ⟨N + 2, 1, none⟩ (.int .i64 y)).heap.size = (K.w e2').heap.size := size_set _ _ _
    obtain ⟨e3, m3⟩ := K.own e2' (w' := ((K.w e2').setCell ⟨N + 2, 1, none⟩ (.int .i64 y))) (Nat.le_of_eq z30.symm) (fun b _ hbm => o30 b (fun he : b = N + 2 => hbm (by rw [he]; exact hm3)))
    have b2 := (o30 (N + 1) (by omega)).trans hb2
    have hm2' : K.mine e3 (N + 1) := (m3.mine _).2 (.inl hm2)
    have ht5 : K.tgt e3 = (K.s e3, .inl (true, y)) := by rw [m3.tgt, m3.s]; exact ht4
    have b3 := b30
    clear b30 o30 z30
    generalize ((K.w e2').setCell ⟨N + 2, 1, none⟩ (.int .i64 y)) = x4 at *
    have hw3 := m3.w
    refine LW.to (l := fr :: l) m3 ?_
    unfold LW
    clear m3
    subst hw3
    try walk_nrm
    repeat (first | refine Walk.c rfl ?_ | refine Walk.cRet ?_ | refine Walk.cEnd ?_ | (refine Walk.cReg ?_; simp only [size18_0, size18_1, size18_2, size18_4, size18_5, size18_6, size18_7, size18_8, size18_9, size18_10, size18_11, size18_12, size18_13, size18_3, size18_14, List.range, List.range.loop]) | (refine Walk.oq ?_; try walk_nrm) | (refine Walk.un ?_; walk_nrm))
    refine Walk.loadS 43 (.tmp 7) (ho_of (by conv => lhs; whnf) (by kernel_rfl)) (by rfl) (by decide) rfl (N + 2) 0 [.bool true, .int .i64 y, .slice none 0 0] (.struct fsA) rfl (fun j v hj => ?_) huA rfl (by kernel_rfl) ?_
    · rw [Nat.zero_add, cell_of b3]
      simpa using hj
    walk_nrm
    refine Walk.storeS 43 (.tmp 6) (.tmp 55) (ho_of (by conv => lhs; whnf) (by kernel_rfl)) (by rfl) (by decide) rfl (N + 1) #[.bool true, .int .i64 y, .slice none 0 0] _ 43 rfl rfl b2 (by kernel_rfl) (by rfl) (by simp [Value.oneCell']) (K.mineA e3 _ hm2').1 ?_
    walk_nrm
    repeat (first | refine Walk.c rfl ?_ | refine Walk.cRet ?_ | refine Walk.cEnd ?_ | (refine Walk.cReg ?_; simp only [size18_0, size18_1, size18_2, size18_4, size18_5, size18_6, size18_7, size18_8, size18_9, size18_10, size18_11, size18_12, size18_13, size18_3, size18_14, List.range, List.range.loop]) | (refine Walk.oq ?_; try walk_nrm) | (refine Walk.un ?_; walk_nrm))
    exact cell_back6 K (a := (true, y)) (Q := fun _ _ => True) hm2' b2 ht5 (fun e' h => hk _ e' ⟨_, h, rfl⟩) Try.func18 rfl ⟨rfl, rfl, rfl, rfl, rfl⟩
  have hbk2 : (ok == 2) = false := by simp [h2]
  simp only [hbk2]
  repeat (first | refine Walk.c rfl ?_ | refine Walk.cRet ?_ | refine Walk.cEnd ?_ | (refine Walk.cReg ?_; simp only [size18_0, size18_1, size18_2, size18_4, size18_5, size18_6, size18_7, size18_8, size18_9, size18_10, size18_11, size18_12, size18_13, size18_3, size18_14, List.range, List.range.loop]) | (refine Walk.oq ?_; try walk_nrm) | (refine Walk.un ?_; walk_nrm))
  by_cases h3 : ok = 3
  · subst h3
    have ht3 : K.tgt e2 = (K.s e2, .inr (.t1 0 [])) := ht2
    repeat (first | refine Walk.c rfl ?_ | refine Walk.cRet ?_ | refine Walk.cEnd ?_ | (refine Walk.cReg ?_; simp only [size18_0, size18_1, size18_2, size18_4, size18_5, size18_6, size18_7, size18_8, size18_9, size18_10, size18_11, size18_12, size18_13, size18_3, size18_14, List.range, List.range.loop]) | (refine Walk.oq ?_; try walk_nrm) | (refine Walk.un ?_; walk_nrm))
    have ht4 : K.tgt e2 = (K.s e2, dT m 0 []) := ht3.trans (by unfold dT; rw [if_neg (by omega)]; rfl)
    have hg := (SCall.fz K (stake_s (Fz K e2) (fz0 K e2) ht4)).mono (Q' := fun x e' => Kept K e2 e' ∧ ∃ y, x = .int .i64 y ∧ K.tgt e' = (K.s e', .inl (true, y))) (fun v e' ⟨h, l, _, h1, h2⟩ => ⟨h, sumZ l, h1, h2.trans (by unfold dT; rw [if_pos rfl]; rfl)⟩)
    clear ht4
    refine LW.callS (K := K.toLb) (e := e2) (l := fr :: l) (f := 28) (Q := fun x e' => Kept K e2 e' ∧ ∃ y, x = .int .i64 y ∧ K.tgt e' = (K.s e', .inl (true, y))) ?_ (ho_of (by conv => lhs; whnf) (by kernel_rfl)) (by rfl) (by decide) rfl Try.func28 (by kernel_rfl) (by rfl) ⟨rfl, rfl, _, Try.func18⟩ (plain_cons hp hl) ?_
    · walk_nrm
      exact hg
    rintro x e2' ⟨hkept, y, rfl, ht4⟩
    obtain ⟨hm2, hb2⟩ := hkept (N + 1) hmn'
    obtain ⟨hm3, hb3⟩ := hkept (N + 2) hmo'
    rw [c2'] at hb2
    rw [c3'] at hb3
    have hap3 := (K.mineA e2' _ hm3).1
    clear hg hkept c1' c2' c3' d0 d1 d2 d3 hmn' hmo' hap0
    unfold LW
    walk_nrm
    repeat (first | (refine Walk.oq ?_; try walk_nrm) | (refine Walk.un ?_; walk_nrm))
    have g30 : (K.w e2').cell? ⟨N + 2, 1, none⟩ = some (.int .i64 0) := (cell_of hb3 1).trans rfl
    have y30 := frozen_of hb3 1
    (have hfr := hap3.1 ⟨N + 2, 1, none⟩ rfl; refine Walk.os hfr g30 ?_; clear hfr; try walk_nrm)
    clear g30 y30
    have b30 : ((K.w e2').setCell ⟨N + 2, 1, none⟩ (.int .i64 y)).heap[N + 2]? = some (.cells #[.bool true, .int .i64 y, .slice none 0 0] 43) := by
      rw [heap_set_self _ _ hb3]
      simp
    have o30 : ∀ z, z ≠ N + 2 → ((K.w e2').setCell ⟨N + 2, 1, none⟩ (.int .i64 y)).heap[z]? = (K.w e2').heap[z]? := fun z hb => heap_set_other _ _ _ _ hb
    have z30 : ((K.w e2').setCell ⟨N + 2, 1, none⟩ (.int .i64 y)).heap.size = (K.w e2').heap.size := size_set _ _ _
    obtain ⟨e3, m3⟩ := K.own e2' (w' := ((K.w e2').setCell ⟨N + 2, 1, none⟩ (.int .i64 y))) (Nat.le_of_eq z30.symm) (fun b _ hbm => o30 b (fun he : b = N + 2 => hbm (by rw [he]; exact hm3)))
    have b2 := (o30 (N + 1) (by omega)).trans hb2
    have hm2' : K.mine e3 (N + 1) := (m3.mine _).2 (.inl hm2)
    have ht5 : K.tgt e3 = (K.s e3, .inl (true, y)) := by rw [m3.tgt, m3.s]; exact ht4
    have b3 := b30
    clear b30 o30 z30
    generalize ((K.w e2').setCell ⟨N + 2, 1, none⟩ (.int .i64 y)) = x4 at *
    have hw3 := m3.w
    refine LW.to (l := fr :: l) m3 ?_
    unfold LW
    clear m3
    subst hw3
    try walk_nrm
    repeat (first | refine Walk.c rfl ?_ | refine Walk.cRet ?_ | refine Walk.cEnd ?_ | (refine Walk.cReg ?_; simp only [size18_0, size18_1, size18_2, size18_4, size18_5, size18_6, size18_7, size18_8, size18_9, size18_10, size18_11, size18_12, size18_13, size18_3, size18_14, List.range, List.range.loop]) | (refine Walk.oq ?_; try walk_nrm) | (refine Walk.un ?_; walk_nrm))
    refine Walk.loadS 43 (.tmp 7) (ho_of (by conv => lhs; whnf) (by kernel_rfl)) (by rfl) (by decide) rfl (N + 2) 0 [.bool true, .int .i64 y, .slice none 0 0] (.struct fsA) rfl (fun j v hj => ?_) huA rfl (by kernel_rfl) ?_
    · rw [Nat.zero_add, cell_of b3]
      simpa using hj
    walk_nrm
    refine Walk.storeS 43 (.tmp 6) (.tmp 55) (ho_of (by conv => lhs; whnf) (by kernel_rfl)) (by rfl) (by decide) rfl (N + 1) #[.bool true, .int .i64 y, .slice none 0 0] _ 43 rfl rfl b2 (by kernel_rfl) (by rfl) (by simp [Value.oneCell']) (K.mineA e3 _ hm2').1 ?_
    walk_nrm
    repeat (first | refine Walk.c rfl ?_ | refine Walk.cRet ?_ | refine Walk.cEnd ?_ | (refine Walk.cReg ?_; simp only [size18_0, size18_1, size18_2, size18_4, size18_5, size18_6, size18_7, size18_8, size18_9, size18_10, size18_11, size18_12, size18_13, size18_3, size18_14, List.range, List.range.loop]) | (refine Walk.oq ?_; try walk_nrm) | (refine Walk.un ?_; walk_nrm))
    exact cell_back6 K (a := (true, y)) (Q := fun _ _ => True) hm2' b2 ht5 (fun e' h => hk _ e' ⟨_, h, rfl⟩) Try.func18 rfl ⟨rfl, rfl, rfl, rfl, rfl⟩
  have hbk3 : (ok == 3) = false := by simp [h3]
  simp only [hbk3]
  repeat (first | refine Walk.c rfl ?_ | refine Walk.cRet ?_ | refine Walk.cEnd ?_ | (refine Walk.cReg ?_; simp only [size18_0, size18_1, size18_2, size18_4, size18_5, size18_6, size18_7, size18_8, size18_9, size18_10, size18_11, size18_12, size18_13, size18_3, size18_14, List.range, List.range.loop]) | (refine Walk.oq ?_; try walk_nrm) | (refine Walk.un ?_; walk_nrm))
  by_cases h4 : ok = 4
  · subst h4
    have ht3 : K.tgt e2 = (K.s e2, .inr (.m1 (stAt m oa) (stAt m ob) oc)) := ht2
    repeat (first | refine Walk.c rfl ?_ | refine Walk.cRet ?_ | refine Walk.cEnd ?_ | (refine Walk.cReg ?_; simp only [size18_0, size18_1, size18_2, size18_4, size18_5, size18_6, size18_7, size18_8, size18_9, size18_10, size18_11, size18_12, size18_13, size18_3, size18_14, List.range, List.range.loop]) | (refine Walk.oq ?_; try walk_nrm) | (refine Walk.un ?_; walk_nrm))
    have hg := (SCall.fz K (smove_s (Fz K e2) oa ob oc (fz0 K e2) ht3)).mono (Q' := fun x e' => Kept K e2 e' ∧ K.tgt e' = (K.s e', .inl (true, 0))) (fun v e' ⟨h, h2⟩ => ⟨h, h2⟩)
    refine LW.callS (K := K.toLb) (e := e2) (l := fr :: l) (f := 35) (Q := fun x e' => Kept K e2 e' ∧ K.tgt e' = (K.s e', .inl (true, 0))) ?_ (ho_of (by conv => lhs; whnf) (by kernel_rfl)) (by rfl) (by decide) rfl Try.func35 (by kernel_rfl) (by rfl) ⟨rfl, rfl, _, Try.func18⟩ (plain_cons hp hl) ?_
    · walk_nrm
      exact hg
    rintro x e2' ⟨hkept, ht4⟩
    obtain ⟨hm2, hb2⟩ := hkept (N + 1) hmn'
    obtain ⟨hm3, hb3⟩ := hkept (N + 2) hmo'
    rw [c2'] at hb2
    rw [c3'] at hb3
    have hap3 := (K.mineA e2' _ hm3).1
    clear hg hkept c1' c2' c3' d0 d1 d2 d3 hmn' hmo' hap0
    unfold LW
    walk_nrm
    repeat (first | refine Walk.c rfl ?_ | refine Walk.cRet ?_ | refine Walk.cEnd ?_ | (refine Walk.cReg ?_; simp only [size18_0, size18_1, size18_2, size18_4, size18_5, size18_6, size18_7, size18_8, size18_9, size18_10, size18_11, size18_12, size18_13, size18_3, size18_14, List.range, List.range.loop]) | (refine Walk.oq ?_; try walk_nrm) | (refine Walk.un ?_; walk_nrm))
    refine Walk.loadS 43 (.tmp 7) (ho_of (by conv => lhs; whnf) (by kernel_rfl)) (by rfl) (by decide) rfl (N + 2) 0 [.bool true, .int .i64 0, .slice none 0 0] (.struct fsA) rfl (fun j v hj => ?_) huA rfl (by kernel_rfl) ?_
    · rw [Nat.zero_add, cell_of hb3]
      simpa using hj
    walk_nrm
    refine Walk.storeS 43 (.tmp 6) (.tmp 55) (ho_of (by conv => lhs; whnf) (by kernel_rfl)) (by rfl) (by decide) rfl (N + 1) #[.bool true, .int .i64 0, .slice none 0 0] _ 43 rfl rfl hb2 (by kernel_rfl) (by rfl) (by simp [Value.oneCell']) (K.mineA e2' _ hm2).1 ?_
    walk_nrm
    repeat (first | refine Walk.c rfl ?_ | refine Walk.cRet ?_ | refine Walk.cEnd ?_ | (refine Walk.cReg ?_; simp only [size18_0, size18_1, size18_2, size18_4, size18_5, size18_6, size18_7, size18_8, size18_9, size18_10, size18_11, size18_12, size18_13, size18_3, size18_14, List.range, List.range.loop]) | (refine Walk.oq ?_; try walk_nrm) | (refine Walk.un ?_; walk_nrm))
    exact cell_back6 K (a := (true, 0)) (Q := fun _ _ => True) hm2 hb2 ht4 (fun e' h => hk _ e' ⟨_, h, rfl⟩) Try.func18 rfl ⟨rfl, rfl, rfl, rfl, rfl⟩
  have hbk4 : (ok == 4) = false := by simp [h4]
  simp only [hbk4]
  repeat (first | refine Walk.c rfl ?_ | refine Walk.cRet ?_ | refine Walk.cEnd ?_ | (refine Walk.cReg ?_; simp only [size18_0, size18_1, size18_2, size18_4, size18_5, size18_6, size18_7, size18_8, size18_9, size18_10, size18_11, size18_12, size18_13, size18_3, size18_14, List.range, List.range.loop]) | (refine Walk.oq ?_; try walk_nrm) | (refine Walk.un ?_; walk_nrm))
  by_cases h5 : ok = 5
  · subst h5
    have ht3 : K.tgt e2 = (K.s e2, .inr (.e1 0 [])) := ht2
    repeat (first | refine Walk.c rfl ?_ | refine Walk.cRet ?_ | refine Walk.cEnd ?_ | (refine Walk.cReg ?_; simp only [size18_0, size18_1, size18_2, size18_4, size18_5, size18_6, size18_7, size18_8, size18_9, size18_10, size18_11, size18_12, size18_13, size18_3, size18_14, List.range, List.range.loop]) | (refine Walk.oq ?_; try walk_nrm) | (refine Walk.un ?_; walk_nrm))
    have ht4 : K.tgt e2 = (K.s e2, dE m 0 []) := ht3.trans (by unfold dE; rw [if_neg (by omega)]; rfl)
    have hg := (SCall.fz K (even_s (Fz K e2) (fz0 K e2) ht4)).mono (Q' := fun x e' => Kept K e2 e' ∧ ∃ b y, x = .tuple #[.int .i64 y, .bool b] ∧ K.tgt e' = (K.s e', .inl (b, y))) (fun v e' ⟨h, b, y, h1, h2⟩ => ⟨h, b, y, h1, h2⟩)
    clear ht4
    refine LW.callS (K := K.toLb) (e := e2) (l := fr :: l) (f := 25) (Q := fun x e' => Kept K e2 e' ∧ ∃ b y, x = .tuple #[.int .i64 y, .bool b] ∧ K.tgt e' = (K.s e', .inl (b, y))) ?_ (ho_of (by conv => lhs; whnf) (by kernel_rfl)) (by rfl) (by decide) rfl Try.func25 (by kernel_rfl) (by rfl) ⟨rfl, rfl, _, Try.func18⟩ (plain_cons hp hl) ?_
    · walk_nrm
      exact hg
    rintro x e2' ⟨hkept, b, y, rfl, ht4⟩
    obtain ⟨hm2, hb2⟩ := hkept (N + 1) hmn'
    obtain ⟨hm3, hb3⟩ := hkept (N + 2) hmo'
    rw [c2'] at hb2
    rw [c3'] at hb3
    have hap3 := (K.mineA e2' _ hm3).1
    clear hg hkept c1' c2' c3' d0 d1 d2 d3 hmn' hmo' hap0
    unfold LW
    walk_nrm
    repeat (first | (refine Walk.oq ?_; try walk_nrm) | (refine Walk.un ?_; walk_nrm))
    have g30 : (K.w e2').cell? ⟨N + 2, 1, none⟩ = some (.int .i64 0) := (cell_of hb3 1).trans rfl
    have y30 := frozen_of hb3 1
    (have hfr := hap3.1 ⟨N + 2, 1, none⟩ rfl; refine Walk.os hfr g30 ?_; clear hfr; try walk_nrm)
    clear g30 y30
    have b30 : ((K.w e2').setCell ⟨N + 2, 1, none⟩ (.int .i64 y)).heap[N + 2]? = some (.cells #[.bool true, .int .i64 y, .slice none 0 0] 43) := by
      rw [heap_set_self _ _ hb3]
      simp
    have o30 : ∀ z, z ≠ N + 2 → ((K.w e2').setCell ⟨N + 2, 1, none⟩ (.int .i64 y)).heap[z]? = (K.w e2').heap[z]? := fun z hb => heap_set_other _ _ _ _ hb
    have z30 : ((K.w e2').setCell ⟨N + 2, 1, none⟩ (.int .i64 y)).heap.size = (K.w e2').heap.size := size_set _ _ _
    try walk_nrm
    repeat (first | (refine Walk.oq ?_; try walk_nrm) | (refine Walk.un ?_; walk_nrm))
    have g31 : ((K.w e2').setCell ⟨N + 2, 1, none⟩ (.int .i64 y)).cell? ⟨N + 2, 0, none⟩ = some (.bool true) := (cell_of b30 0).trans rfl
    have y31 := frozen_of b30 0
    (have hfr := hap3.1 ⟨N + 2, 0, none⟩ rfl; refine Walk.os hfr g31 ?_; clear hfr; try walk_nrm)
    clear g31 y31
    have b31 : (((K.w e2').setCell ⟨N + 2, 1, none⟩ (.int .i64 y)).setCell ⟨N + 2, 0, none⟩ (.bool b)).heap[N + 2]? = some (.cells #[.bool b, .int .i64 y, .slice none 0 0] 43) := by
      rw [heap_set_self _ _ b30]
      simp
    have o31 : ∀ z, z ≠ N + 2 → (((K.w e2').setCell ⟨N + 2, 1, none⟩ (.int .i64 y)).setCell ⟨N + 2, 0, none⟩ (.bool b)).heap[z]? = (K.w e2').heap[z]? := fun z hb => (heap_set_other _ _ _ _ hb).trans (o30 z hb)
    have z31 : (((K.w e2').setCell ⟨N + 2, 1, none⟩ (.int .i64 y)).setCell ⟨N + 2, 0, none⟩ (.bool b)).heap.size = (K.w e2').heap.size := (size_set _ _ _).trans z30
    obtain ⟨e3, m3⟩ := K.own e2' (w' := (((K.w e2').setCell ⟨N + 2, 1, none⟩ (.int .i64 y)).setCell ⟨N + 2, 0, none⟩ (.bool b))) (Nat.le_of_eq z31.symm) (fun b _ hbm => o31 b (fun he : b = N + 2 => hbm (by rw [he]; exact hm3)))
    have b2 := (o31 (N + 1) (by omega)).trans hb2
    have hm2' : K.mine e3 (N + 1) := (m3.mine _).2 (.inl hm2)
    have ht5 : K.tgt e3 = (K.s e3, .inl (b, y)) := by rw [m3.tgt, m3.s]; exact ht4
    have b3 := b31
    clear b31 o31 z31 b30 o30 z30
    generalize (((K.w e2').setCell ⟨N + 2, 1, none⟩ (.int .i64 y)).setCell ⟨N + 2, 0, none⟩ (.bool b)) = x4 at *
    have hw3 := m3.w
    refine LW.to (l := fr :: l) m3 ?_
    unfold LW
    clear m3
    subst hw3
    try walk_nrm
    repeat (first | refine Walk.c rfl ?_ | refine Walk.cRet ?_ | refine Walk.cEnd ?_ | (refine Walk.cReg ?_; simp only [size18_0, size18_1, size18_2, size18_4, size18_5, size18_6, size18_7, size18_8, size18_9, size18_10, size18_11, size18_12, size18_13, size18_3, size18_14, List.range, List.range.loop]) | (refine Walk.oq ?_; try walk_nrm) | (refine Walk.un ?_; walk_nrm))
    refine Walk.loadS 43 (.tmp 7) (ho_of (by conv => lhs; whnf) (by kernel_rfl)) (by rfl) (by decide) rfl (N + 2) 0 [.bool b, .int .i64 y, .slice none 0 0] (.struct fsA) rfl (fun j v hj => ?_) huA rfl (by kernel_rfl) ?_
    · rw [Nat.zero_add, cell_of b3]
      simpa using hj
    walk_nrm
    refine Walk.storeS 43 (.tmp 6) (.tmp 55) (ho_of (by conv => lhs; whnf) (by kernel_rfl)) (by rfl) (by decide) rfl (N + 1) #[.bool b, .int .i64 y, .slice none 0 0] _ 43 rfl rfl b2 (by kernel_rfl) (by rfl) (by simp [Value.oneCell']) (K.mineA e3 _ hm2').1 ?_
    walk_nrm
    repeat (first | refine Walk.c rfl ?_ | refine Walk.cRet ?_ | refine Walk.cEnd ?_ | (refine Walk.cReg ?_; simp only [size18_0, size18_1, size18_2, size18_4, size18_5, size18_6, size18_7, size18_8, size18_9, size18_10, size18_11, size18_12, size18_13, size18_3, size18_14, List.range, List.range.loop]) | (refine Walk.oq ?_; try walk_nrm) | (refine Walk.un ?_; walk_nrm))
    exact cell_back6 K (a := (b, y)) (Q := fun _ _ => True) hm2' b2 ht5 (fun e' h => hk _ e' ⟨_, h, rfl⟩) Try.func18 rfl ⟨rfl, rfl, rfl, rfl, rfl⟩
  have hbk5 : (ok == 5) = false := by simp [h5]
  simp only [hbk5]
  repeat (first | refine Walk.c rfl ?_ | refine Walk.cRet ?_ | refine Walk.cEnd ?_ | (refine Walk.cReg ?_; simp only [size18_0, size18_1, size18_2, size18_4, size18_5, size18_6, size18_7, size18_8, size18_9, size18_10, size18_11, size18_12, size18_13, size18_3, size18_14, List.range, List.range.loop]) | (refine Walk.oq ?_; try walk_nrm) | (refine Walk.un ?_; walk_nrm))
  have ht3 : K.tgt e2 = (K.s e2, .inl (false, 0)) := ht2.trans (spEnter_no _ _ h1 h2 h3 h4 h5)
  repeat (first | refine Walk.c rfl ?_ | refine Walk.cRet ?_ | refine Walk.cEnd ?_ | (refine Walk.cReg ?_; simp only [size18_0, size18_1, size18_2, size18_4, size18_5, size18_6, size18_7, size18_8, size18_9, size18_10, size18_11, size18_12, size18_13, size18_3, size18_14, List.range, List.range.loop]) | (refine Walk.oq ?_; try walk_nrm) | (refine Walk.un ?_; walk_nrm))
  refine Walk.storeS 43 (.tmp 6) (.tmp 11) (ho_of (by conv => lhs; whnf) (by kernel_rfl)) (by rfl) (by decide) rfl (N + 1) #[.bool false, .int .i64 0, .slice none 0 0] _ 43 rfl rfl c2' (by kernel_rfl) (by rfl) (by simp [Value.oneCell']) hap0 ?_
  walk_nrm
  repeat (first | refine Walk.c rfl ?_ | refine Walk.cRet ?_ | refine Walk.cEnd ?_ | (refine Walk.cReg ?_; simp only [size18_0, size18_1, size18_2, size18_4, size18_5, size18_6, size18_7, size18_8, size18_9, size18_10, size18_11, size18_12, size18_13, size18_3, size18_14, List.range, List.range.loop]) | (refine Walk.oq ?_; try walk_nrm) | (refine Walk.un ?_; walk_nrm))
  exact cell_back6 K (a := (false, 0)) (Q := fun _ _ => True) hmn' c2' ht3 (fun e' h => hk _ e' ⟨_, h, rfl⟩) Try.func18 rfl ⟨rfl, rfl, rfl, rfl, rfl⟩
end
end
end Go.Proofs.Ytnnakajldnaldaa
