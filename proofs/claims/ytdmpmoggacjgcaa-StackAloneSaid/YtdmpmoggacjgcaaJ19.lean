/- Part 19. -/
import Derived.Test.YtdmpmoggacjgcaaJ13
import Derived.Test.YtdmpmoggacjgcaaJ17
import Derived.Test.YtdmpmoggacjgcaaJ18
set_option linter.unusedSimpArgs false
set_option linter.unusedVariables false
set_option maxHeartbeats 8000000
set_option maxRecDepth 100000
namespace Go.Proofs.Ytdmpmoggacjgcaa
open Go.Conc Go.RowKit Go.Relay
open Go.ConcN (upd upd_ne upd_same)
section
noncomputable def reg33_0 := rg Try.f33.body [0]
noncomputable def reg33_1 := rg Try.f33.body [1, 0, 0]
noncomputable def reg33_2 := rg Try.f33.body [1, 0, 1, 0, 0]
noncomputable def reg33_3 := rg Try.f33.body [1, 0, 1, 0, 1, 0, 0]
noncomputable def reg33_4 := rg Try.f33.body [1, 0, 1, 0, 1, 1, 0]
noncomputable def reg33_5 := rg Try.f33.body [1, 0, 1, 0, 1, 1, 1, 0, 0]
noncomputable def reg33_6 := rg Try.f33.body [1, 0, 1, 0, 1, 1, 1, 0, 1, 0]
noncomputable def reg33_7 := rg Try.f33.body [1, 0, 1, 0, 1, 1, 1, 1, 0]
noncomputable def reg33_8 := rg Try.f33.body [1, 0, 1, 0, 1, 1, 1, 1, 1, 0, 0]
noncomputable def reg33_9 := rg Try.f33.body [1, 0, 1, 0, 1, 1, 1, 1, 1, 0, 1, 0]
noncomputable def reg33_10 := rg Try.f33.body [1, 0, 1, 0, 1, 1, 1, 1, 1, 1, 0]
noncomputable def reg33_11 := rg Try.f33.body [1, 0, 1, 0, 1, 1, 1, 1, 1, 1, 1, 0, 0]
noncomputable def reg33_12 := rg Try.f33.body [1, 1, 0]
theorem z33 : List.range reg33_0.size = [0, 1] ∧ List.range reg33_1.size = [0, 1] ∧ List.range reg33_2.size = [0, 1] ∧ List.range reg33_3.size = [0, 1, 2, 3, 4, 5, 6] ∧ List.range reg33_4.size = [0, 1] ∧ List.range reg33_5.size = [0, 1, 2, 3, 4, 5, 6, 7] ∧ List.range reg33_6.size = [0, 1, 2, 3] ∧ List.range reg33_7.size = [0, 1] ∧ List.range reg33_8.size = [0, 1, 2, 3, 4, 5, 6, 7] ∧ List.range reg33_9.size = [0, 1, 2, 3] ∧ List.range reg33_10.size = [0, 1] ∧ List.range reg33_11.size = [0, 1, 2, 3, 4] ∧ List.range reg33_12.size = [0, 1] := by refine ⟨?_, ?_, ?_, ?_, ?_, ?_, ?_, ?_, ?_, ?_, ?_, ?_, ?_⟩ <;> kernel_rfl
theorem code33_is : Try.f33.body = some (.seq (.region 0 reg33_0 false) (.seq (.seq (.region 1 reg33_1 false) (.block 0 (.seq (.region 2 reg33_2 false) (.cond (.tmp 15 ) (.seq (.region 3 reg33_3 false) (.ret)) (.seq (.region 4 reg33_4 false) (.cond (.tmp 23 ) (.seq (.region 5 reg33_5 false) (.seq (.region 6 reg33_6 false) (.ret))) (.seq (.region 7 reg33_7 false) (.cond (.tmp 34 ) (.seq (.region 8 reg33_8 false) (.seq (.region 9 reg33_9 false) (.ret))) (.seq (.region 10 reg33_10 false) (.cond (.tmp 45 ) (.seq (.region 11 reg33_11 false) (.ret)) (.skip))))))))))) (.seq (.region 12 reg33_12 false) (.ret)))) := by kernel_rfl
section
variable {kb nb n : Nat} {tg : Bool}
theorem skEnter_none (s : Sk) (o : OpV) (h1 : o.k ≠ 1) (h2 : o.k ≠ 2) (h3 : o.k ≠ 3) (h4 : o.k ≠ 4) : skEnter s o = (s, .inl (false, 0)) := by
 unfold skEnter
 rw [if_neg h1, if_neg h2, if_neg h3, if_neg h4]
theorem ans_back {L : La} {sv : Value} (K : Lg L sv) {e2 : K.E} {fr c : Frame} {l : List Frame} {R : Nat} {a : Ans} (hm : K.mine e2 R) (hR : (K.w e2).heap[R]? = some (.cells #[.bool false, .int .i64 0, .slice none 0 0] 32))
  (ht : K.tgt e2 = (K.s e2, .inl a)) (hk : ∀ v e', (∃ a, K.tgt e' = (K.s e', .inl a) ∧ v = ansVal a) → LW K.toLb e' (G (c.finish v) (l ++ K.bot e')))
  (hfr : fr.mode = .returning ∧ fr.kind = .normal ∧ fr.defers = [] ∧ fr.fn = 33 ∧ fr.tmps.getD 8 undef = .pointer (some ⟨R, 0, none⟩)) :
  Walk Try.prog K.main (DR (K.V e2)) (K.Stop e2) (G fr (c :: (l ++ K.bot e2))) ((K.w e2).setRow R #[.bool a.1, .int .i64 a.2, .slice none 0 0]) := by
 obtain ⟨h1, h2, h3, h4, h5⟩ := hfr
 obtain ⟨e3, m⟩ := K.own e2 (w' := (K.w e2).setRow R #[.bool a.1, .int .i64 a.2, .slice none 0 0]) (by rw [setRow_size]; exact Nat.le_refl _) (fun b _ hbm => setRow_other _ _ (fun he : b = R => hbm (by rw [he]; exact hm)))
 have c9 := setRow_self (cells := #[.bool a.1, .int .i64 a.2, .slice none 0 0]) hR
 refine Walk.onCell (T := R) h1 h2 h3 (by rw [h4]; exact Try.func33) rfl h5 c9 (by kernel_rfl) (by kernel_rfl) ?_
 refine LW.to m (hk _ e3 ⟨a, ?_, rfl⟩)
 rw [m.tgt, m.s]
 exact ht
theorem do_s {sv : Value} (K : Lg (skLa kb nb n tg) sv) (hne : kb ≠ nb) (hn : n ≤ 65536) (e : K.E) (th ok oa ob oc : Int) (ht : K.tgt e = skEnter (K.s e) ⟨ok, oa, ob, oc⟩) :
  SCall K.toLb 33 #[.pointer (some ⟨kb, 0, none⟩), sv, .int .i64 th, .agg #[.int .i64 ok, .int .i64 oa, .int .i64 ob, .int .i64 oc]] e (fun v e' => ∃ a, K.tgt e' = (K.s e', .inl a) ∧ v = ansVal a) := by
 intro fr l hp hl hk
 unfold LW
 rw [enter_at _ Try.func33 code33_is]
 simp only [Try.ntmps33, ez, Nat.reduceAdd, Nat.reduceSub]
 refine Walk.gz z33 ?_
 (refine Walk.oa ?_; try walk_nrm)
 (refine Walk.oa ?_; try walk_nrm)
 have hA1 : ((K.w e).alloc (.cells #[.int .i64 ok, .int .i64 oa, .int .i64 ob, .int .i64 oc] 45)).heap.size = (K.w e).heap.size + 1 := by simp
 have c1 : (((K.w e).alloc (.cells #[.int .i64 ok, .int .i64 oa, .int .i64 ob, .int .i64 oc] 45)).alloc (.cells #[.bool false, .int .i64 0, .slice none 0 0] 32)).heap[(K.w e).heap.size]? = some (.cells #[.int .i64 ok, .int .i64 oa, .int .i64 ob, .int .i64 oc] 45) := by
  rw [heap_new_lt _ _ (by omega)]
  exact heap_alloc_new _ _
 have c2 : (((K.w e).alloc (.cells #[.int .i64 ok, .int .i64 oa, .int .i64 ob, .int .i64 oc] 45)).alloc (.cells #[.bool false, .int .i64 0, .slice none 0 0] 32)).heap[(K.w e).heap.size + 1]? = some (.cells #[.bool false, .int .i64 0, .slice none 0 0] 32) := by
  have := heap_alloc_new ((K.w e).alloc (.cells #[.int .i64 ok, .int .i64 oa, .int .i64 ob, .int .i64 oc] 45)) (.cells #[.bool false, .int .i64 0, .slice none 0 0] 32)
  rwa [hA1] at this
 have hs2 : (((K.w e).alloc (.cells #[.int .i64 ok, .int .i64 oa, .int .i64 ob, .int .i64 oc] 45)).alloc (.cells #[.bool false, .int .i64 0, .slice none 0 0] 32)).heap.size = (K.w e).heap.size + 2 := by simp
 obtain ⟨e1, m1⟩ := K.grow e (w' := ((K.w e).alloc (.cells #[.int .i64 ok, .int .i64 oa, .int .i64 ob, .int .i64 oc] 45)).alloc (.cells #[.bool false, .int .i64 0, .slice none 0 0] 32)) (by omega) (fun b hb' => by
  rw [heap_new_lt _ _ (by omega)]
  exact heap_new_lt _ _ hb')
 try simp only [hA1]
 generalize hw2 : ((K.w e).alloc (.cells #[.int .i64 ok, .int .i64 oa, .int .i64 ob, .int .i64 oc] 45)).alloc (.cells #[.bool false, .int .i64 0, .slice none 0 0] 32) = w2 at *
 generalize hN : (K.w e).heap.size = N at *
 have hmn : K.mine e1 (N + 1) := m1.new (by omega) (by omega)
 have ht1 : K.tgt e1 = skEnter (K.s e1) ⟨ok, oa, ob, oc⟩ := by rw [m1.tgt, m1.s]; exact ht
 have d0 := (cell_of c1 0).trans rfl
 have d1 := (cell_of c1 1).trans rfl
 have hw1 := m1.w
 refine LW.to (l := fr :: l) m1 ?_
 unfold LW
 clear hw2 m1 ht
 subst hw1
 refine Walk.gz z33 ?_
 by_cases h1 : ok = 1
 ·subst h1
  have ht1' : K.tgt e1 = (K.s e1, .inr (.pu1 oa)) := ht1
  refine Walk.gz z33 ?_
  refine LW.callS (K := K.toLb) (e := e1) (l := fr :: l) (f := 28) (Q := fun x e' => Kept K e1 e' ∧ ∃ b, x = .bool b ∧ K.tgt e' = (K.s e', .inl (b, 0))) ?_ hoA (by rfl) (by decide) rfl Try.func28 (by kernel_rfl) (by rfl) ⟨rfl, rfl, _, Try.func33⟩ (plain_cons hp hl) ?_
  ·walk_nrm
   exact (SCall.fz K (push_s (Fz K e1) hne hn oa (fz0 K e1) ht1')).mono fun v e' h => ⟨h.1, h.2⟩
  rintro x e2 ⟨hkept, b, rfl, ht2⟩
  obtain ⟨hm2, hb2⟩ := hkept (N + 1) hmn
  rw [c2] at hb2
  have hap2 := (K.mineA e2 _ hm2).1
  unfold LW
  walk_nrm
  refine Walk.gz z33 ?_
  refine Walk.storeS 32 (.tmp 8) (.tmp 22) hoA (by rfl) (by decide) rfl (N + 1) #[.bool b, .int .i64 0, .slice none 0 0] _ 32 rfl rfl hb2 (by kernel_rfl) (by rfl) (by simp [Value.oneCell']) hap2 ?_
  walk_nrm
  refine Walk.gz z33 ?_
  exact ans_back K (a := (b, 0)) hm2 hb2 ht2 hk ⟨rfl, rfl, rfl, rfl, rfl⟩
 have hb1 : (ok == 1) = false := by simp [h1]
 simp only [hb1]
 refine Walk.gz z33 ?_
 by_cases h2 : ok = 2
 ·subst h2
  have ht1' : K.tgt e1 = (K.s e1, .inr .po1) := ht1
  refine Walk.gz z33 ?_
  refine LW.callS (K := K.toLb) (e := e1) (l := fr :: l) (f := 26) (Q := fun x e' => Kept K e1 e' ∧ ∃ b y, x = .tuple #[.int .i64 y, .bool b] ∧ K.tgt e' = (K.s e', .inl (b, y))) ?_ hoA (by rfl) (by decide) rfl Try.func26 (by kernel_rfl) (by rfl) ⟨rfl, rfl, _, Try.func33⟩ (plain_cons hp hl) ?_
  ·walk_nrm
   exact (SCall.fz K (pop_s (Fz K e1) hne hn (fz0 K e1) ht1')).mono fun v e' h => ⟨h.1, h.2⟩
  rintro x e2 ⟨hkept, b, y, rfl, ht2⟩
  obtain ⟨hm2, hb2⟩ := hkept (N + 1) hmn
  rw [c2] at hb2
  have hap2 := (K.mineA e2 _ hm2).1
  unfold LW
  walk_nrm
  refine Walk.gz z33 ?_
  refine Walk.storeS 32 (.tmp 8) (.tmp 33) hoA (by rfl) (by decide) rfl (N + 1) #[.bool b, .int .i64 y, .slice none 0 0] _ 32 rfl rfl hb2 (by kernel_rfl) (by rfl) (by simp [Value.oneCell']) hap2 ?_
  walk_nrm
  refine Walk.gz z33 ?_
  exact ans_back K (a := (b, y)) hm2 hb2 ht2 hk ⟨rfl, rfl, rfl, rfl, rfl⟩
 have hb2 : (ok == 2) = false := by simp [h2]
 simp only [hb2]
 refine Walk.gz z33 ?_
 by_cases h3 : ok = 3
 ·subst h3
  have ht1' : K.tgt e1 = (K.s e1, .inr .pe1) := ht1
  refine Walk.gz z33 ?_
  refine LW.callS (K := K.toLb) (e := e1) (l := fr :: l) (f := 27) (Q := fun x e' => Kept K e1 e' ∧ ∃ b y, x = .tuple #[.int .i64 y, .bool b] ∧ K.tgt e' = (K.s e', .inl (b, y))) ?_ hoA (by rfl) (by decide) rfl Try.func27 (by kernel_rfl) (by rfl) ⟨rfl, rfl, _, Try.func33⟩ (plain_cons hp hl) ?_
  ·walk_nrm
   exact (SCall.fz K (peek_s (Fz K e1) hne (fz0 K e1) ht1')).mono fun v e' h => ⟨h.1, h.2⟩
  rintro x e2 ⟨hkept, b, y, rfl, ht2⟩
  obtain ⟨hm2, hb2⟩ := hkept (N + 1) hmn
  rw [c2] at hb2
  have hap2 := (K.mineA e2 _ hm2).1
  unfold LW
  walk_nrm
  refine Walk.gz z33 ?_
  refine Walk.storeS 32 (.tmp 8) (.tmp 44) hoA (by rfl) (by decide) rfl (N + 1) #[.bool b, .int .i64 y, .slice none 0 0] _ 32 rfl rfl hb2 (by kernel_rfl) (by rfl) (by simp [Value.oneCell']) hap2 ?_
  walk_nrm
  refine Walk.gz z33 ?_
  exact ans_back K (a := (b, y)) hm2 hb2 ht2 hk ⟨rfl, rfl, rfl, rfl, rfl⟩
 have hb3 : (ok == 3) = false := by simp [h3]
 simp only [hb3]
 refine Walk.gz z33 ?_
 by_cases h4 : ok = 4
 ·subst h4
  have ht1' : K.tgt e1 = (K.s e1, .inr .em1) := ht1
  refine Walk.gz z33 ?_
  refine LW.callS (K := K.toLb) (e := e1) (l := fr :: l) (f := 29) (Q := fun x e' => Kept K e1 e' ∧ ∃ b, x = .bool b ∧ K.tgt e' = (K.s e', .inl (b, 0))) ?_ hoA (by rfl) (by decide) rfl Try.func29 (by kernel_rfl) (by rfl) ⟨rfl, rfl, _, Try.func33⟩ (plain_cons hp hl) ?_
  ·walk_nrm
   exact (SCall.fz K (empty_s (Fz K e1) hne (fz0 K e1) ht1')).mono fun v e' h => ⟨h.1, h.2⟩
  rintro x e2 ⟨hkept, b, rfl, ht2⟩
  obtain ⟨hm2, hb2⟩ := hkept (N + 1) hmn
  rw [c2] at hb2
  have hap2 := (K.mineA e2 _ hm2).1
  unfold LW
  walk_nrm
  refine Walk.gz z33 ?_
  refine Walk.storeS 32 (.tmp 8) (.tmp 50) hoA (by rfl) (by decide) rfl (N + 1) #[.bool b, .int .i64 0, .slice none 0 0] _ 32 rfl rfl hb2 (by kernel_rfl) (by rfl) (by simp [Value.oneCell']) hap2 ?_
  walk_nrm
  refine Walk.gz z33 ?_
  exact ans_back K (a := (b, 0)) hm2 hb2 ht2 hk ⟨rfl, rfl, rfl, rfl, rfl⟩
 have hb4 : (ok == 4) = false := by simp [h4]
 simp only [hb4]
 refine Walk.gz z33 ?_
 have ht2 : K.tgt e1 = (K.s e1, .inl (false, 0)) := ht1.trans (skEnter_none _ _ h1 h2 h3 h4)
 have hap2 := (K.mineA e1 _ hmn).1
 refine Walk.storeS 32 (.tmp 8) (.tmp 51) hoA (by rfl) (by decide) rfl (N + 1) #[.bool false, .int .i64 0, .slice none 0 0] _ 32 rfl rfl c2 (by kernel_rfl) (by rfl) (by simp [Value.oneCell']) hap2 ?_
 walk_nrm
 refine Walk.gz z33 ?_
 exact ans_back K (a := (false, 0)) hmn c2 ht2 hk ⟨rfl, rfl, rfl, rfl, rfl⟩
theorem do_ok (hne : kb ≠ nb) (hn : n ≤ 65536) : DoFn (skLa kb nb n tg) 33 #[.pointer (some ⟨kb, 0, none⟩)] #[] :=
 ⟨⟨_, Try.func33, by kernel_rfl, by rfl⟩, fun sv K e th op ht => do_s K hne hn e th op.k op.a op.b op.c ht⟩
end
end
section
noncomputable def reg18_0 := rg Try.f18.body [0]
noncomputable def reg18_1 := rg Try.f18.body [1, 0]
noncomputable def reg18_2 := rg Try.f18.body [1, 1, 0, 0]
noncomputable def reg18_3 := rg Try.f18.body [1, 1, 0, 1, 0, 0]
noncomputable def reg18_4 := rg Try.f18.body [1, 1, 0, 1, 0, 1, 0]
noncomputable def reg18_5 := rg Try.f18.body [1, 1, 0, 1, 0, 1, 1, 0]
noncomputable def reg18_6 := rg Try.f18.body [1, 1, 0, 1, 0, 1, 1, 1, 0]
noncomputable def reg18_7 := rg Try.f18.body [1, 1, 0, 1, 0, 1, 1, 1, 1, 0]
noncomputable def reg18_8 := rg Try.f18.body [1, 1, 0, 1, 0, 1, 1, 1, 1, 1, 0]
noncomputable def reg18_9 := rg Try.f18.body [1, 1, 0, 1, 0, 1, 1, 1, 1, 1, 1, 0]
noncomputable def reg18_10 := rg Try.f18.body [1, 1, 0, 1, 0, 1, 1, 1, 1, 1, 1, 1, 0]
noncomputable def reg18_11 := rg Try.f18.body [1, 1, 1, 0]
theorem z18 : List.range reg18_0.size = [0, 1] ∧ List.range reg18_1.size = [0] ∧ List.range reg18_2.size = [0, 1] ∧ List.range reg18_3.size = [0, 1] ∧ List.range reg18_4.size = [0, 1, 2, 3, 4, 5, 6] ∧ List.range reg18_5.size = [0, 1] ∧ List.range reg18_6.size = [0, 1, 2, 3, 4, 5, 6, 7, 8, 9] ∧ List.range reg18_7.size = [0, 1] ∧ List.range reg18_8.size = [0, 1, 2, 3, 4, 5, 6, 7, 8, 9] ∧ List.range reg18_9.size = [0, 1] ∧ List.range reg18_10.size = [0, 1, 2, 3, 4] ∧ List.range reg18_11.size = [0, 1] := by refine ⟨?_, ?_, ?_, ?_, ?_, ?_, ?_, ?_, ?_, ?_, ?_, ?_⟩ <;> kernel_rfl
theorem code18_is : Try.f18.body = some (.seq (.region 0 reg18_0 false) (.seq (.region 1 reg18_1 false) (.seq (.seq (.region 2 reg18_2 false) (.block 0 (.seq (.region 3 reg18_3 false) (.cond (.tmp 10 ) (.region 4 reg18_4 false) (.seq (.region 5 reg18_5 false) (.cond (.tmp 18 ) (.region 6 reg18_6 false) (.seq (.region 7 reg18_7 false) (.cond (.tmp 28 ) (.region 8 reg18_8 false) (.seq (.region 9 reg18_9 false) (.cond (.tmp 38 ) (.region 10 reg18_10 false) (.skip))))))))))) (.seq (.region 11 reg18_11 false) (.ret))))) := by kernel_rfl
section
variable {kb nb n : Nat} {tg : Bool}
theorem call_back {L : La} {sv : Value} (K : Lg L sv) {e2 : K.E} {fr c : Frame} {l : List Frame} {R : Nat} {a : Ans} {w' : World} (hs : (K.w e2).heap.size ≤ w'.heap.size) (hsame : ∀ b, b < (K.w e2).heap.size → ¬ K.mine e2 b → w'.heap[b]? = (K.w e2).heap[b]?)
  (hR : w'.heap[R]? = some (.cells #[.bool a.1, .int .i64 a.2, .slice none 0 0] 32))
  (ht : K.tgt e2 = (K.s e2, .inl a)) (hk : ∀ v e', (∃ a, K.tgt e' = (K.s e', .inl a) ∧ v = ansVal a) → LW K.toLb e' (G (c.finish v) (l ++ K.bot e')))
  (hfr : fr.mode = .returning ∧ fr.kind = .normal ∧ fr.defers = [] ∧ fr.fn = 18 ∧ fr.tmps.getD 6 undef = .pointer (some ⟨R, 0, none⟩)) :
  Walk Try.prog K.main (DR (K.V e2)) (K.Stop e2) (G fr (c :: (l ++ K.bot e2))) w' := by
 obtain ⟨h1, h2, h3, h4, h5⟩ := hfr
 obtain ⟨e3, m⟩ := K.own e2 (w' := w') hs hsame
 refine Walk.onCell (T := R) h1 h2 h3 (by rw [h4]; exact Try.func18) rfl h5 hR (by kernel_rfl) (by kernel_rfl) ?_
 refine LW.to m (hk _ e3 ⟨a, ?_, rfl⟩)
 rw [m.tgt, m.s]
 exact ht
theorem call_s {sv : Value} (K : Lg (skLa kb nb n tg) sv) (hne : kb ≠ nb) (hn : n ≤ 65536) (e : K.E) (ok oa ob oc : Int) (ht : K.tgt e = skEnter (K.s e) ⟨ok, oa, ob, oc⟩) :
  SCall K.toLb 18 #[.pointer (some ⟨kb, 0, none⟩), sv, .agg #[.int .i64 ok, .int .i64 oa, .int .i64 ob, .int .i64 oc]] e (fun v e' => ∃ a, K.tgt e' = (K.s e', .inl a) ∧ v = ansVal a) := by
 obtain ⟨fsA, huA⟩ := structT 32 (by kernel_rfl)
 intro fr l hp hl hk
 unfold LW
 rw [enter_at _ Try.func18 code18_is]
 simp only [Try.ntmps18, ez, Nat.reduceAdd, Nat.reduceSub]
 refine Walk.gz z18 ?_
 (refine Walk.oa ?_; try walk_nrm)
 (refine Walk.oa ?_; try walk_nrm)
 refine Walk.gz z18 ?_
 (refine Walk.oa ?_; try walk_nrm)
 have hA1 : ((K.w e).alloc (.cells #[.int .i64 ok, .int .i64 oa, .int .i64 ob, .int .i64 oc] 45)).heap.size = (K.w e).heap.size + 1 := by simp
 have hA2 : (((K.w e).alloc (.cells #[.int .i64 ok, .int .i64 oa, .int .i64 ob, .int .i64 oc] 45)).alloc (.cells #[.bool false, .int .i64 0, .slice none 0 0] 32)).heap.size = (K.w e).heap.size + 2 := by simp
 have hs3 : ((((K.w e).alloc (.cells #[.int .i64 ok, .int .i64 oa, .int .i64 ob, .int .i64 oc] 45)).alloc (.cells #[.bool false, .int .i64 0, .slice none 0 0] 32)).alloc (.cells #[.bool false, .int .i64 0, .slice none 0 0] 32)).heap.size = (K.w e).heap.size + 3 := by simp
 have c3 : ((((K.w e).alloc (.cells #[.int .i64 ok, .int .i64 oa, .int .i64 ob, .int .i64 oc] 45)).alloc (.cells #[.bool false, .int .i64 0, .slice none 0 0] 32)).alloc (.cells #[.bool false, .int .i64 0, .slice none 0 0] 32)).heap[(K.w e).heap.size + 2]? = some (.cells #[.bool false, .int .i64 0, .slice none 0 0] 32) := by
  have := heap_alloc_new (((K.w e).alloc (.cells #[.int .i64 ok, .int .i64 oa, .int .i64 ob, .int .i64 oc] 45)).alloc (.cells #[.bool false, .int .i64 0, .slice none 0 0] 32)) (.cells #[.bool false, .int .i64 0, .slice none 0 0] 32)
  rwa [hA2] at this
 have c2 : ((((K.w e).alloc (.cells #[.int .i64 ok, .int .i64 oa, .int .i64 ob, .int .i64 oc] 45)).alloc (.cells #[.bool false, .int .i64 0, .slice none 0 0] 32)).alloc (.cells #[.bool false, .int .i64 0, .slice none 0 0] 32)).heap[(K.w e).heap.size + 1]? = some (.cells #[.bool false, .int .i64 0, .slice none 0 0] 32) := by
  rw [heap_new_lt _ _ (by omega)]
  have := heap_alloc_new ((K.w e).alloc (.cells #[.int .i64 ok, .int .i64 oa, .int .i64 ob, .int .i64 oc] 45)) (.cells #[.bool false, .int .i64 0, .slice none 0 0] 32)
  rwa [hA1] at this
 have c1 : ((((K.w e).alloc (.cells #[.int .i64 ok, .int .i64 oa, .int .i64 ob, .int .i64 oc] 45)).alloc (.cells #[.bool false, .int .i64 0, .slice none 0 0] 32)).alloc (.cells #[.bool false, .int .i64 0, .slice none 0 0] 32)).heap[(K.w e).heap.size]? = some (.cells #[.int .i64 ok, .int .i64 oa, .int .i64 ob, .int .i64 oc] 45) := by
  rw [heap_new_lt _ _ (by omega), heap_new_lt _ _ (by omega)]
  exact heap_alloc_new _ _
 obtain ⟨e1, m1⟩ := K.grow e (w' := ((((K.w e).alloc (.cells #[.int .i64 ok, .int .i64 oa, .int .i64 ob, .int .i64 oc] 45)).alloc (.cells #[.bool false, .int .i64 0, .slice none 0 0] 32)).alloc (.cells #[.bool false, .int .i64 0, .slice none 0 0] 32))) (by omega) (fun b hb' => by
  rw [heap_new_lt _ _ (by omega), heap_new_lt _ _ (by omega)]
  exact heap_new_lt _ _ hb')
 try simp only [hA1, hA2]
 clear hA1 hA2
 generalize hw3 : ((((K.w e).alloc (.cells #[.int .i64 ok, .int .i64 oa, .int .i64 ob, .int .i64 oc] 45)).alloc (.cells #[.bool false, .int .i64 0, .slice none 0 0] 32)).alloc (.cells #[.bool false, .int .i64 0, .slice none 0 0] 32)) = w3 at *
 generalize hN : (K.w e).heap.size = N at *
 have hm1 : K.mine e1 (N + 1) := m1.new (by omega) (by omega)
 have hm2 : K.mine e1 (N + 2) := m1.new (by omega) (by omega)
 have ht1 : K.tgt e1 = skEnter (K.s e1) ⟨ok, oa, ob, oc⟩ := by rw [m1.tgt, m1.s]; exact ht
 have d0 : w3.cell? ⟨N, 0, none⟩ = some (.int .i64 ok) := (cell_of c1 0).trans rfl
 have d1 : w3.cell? ⟨N, 1, none⟩ = some (.int .i64 oa) := (cell_of c1 1).trans rfl
 have hw1 := m1.w
 refine LW.to (l := fr :: l) m1 ?_
 unfold LW
 clear hw3 m1 ht c1
 subst hw1
 refine Walk.gz z18 ?_
 by_cases h1 : ok = 1
 ·subst h1
  have ht1' : K.tgt e1 = (K.s e1, .inr (.pu1 oa)) := ht1
  refine Walk.gz z18 ?_
  refine LW.callS (K := K.toLb) (e := e1) (l := fr :: l) (f := 28) (Q := fun x e' => Kept K e1 e' ∧ ∃ b, x = .bool b ∧ K.tgt e' = (K.s e', .inl (b, 0))) ?_ hoA (by rfl) (by decide) rfl Try.func28 (by kernel_rfl) (by rfl) ⟨rfl, rfl, _, Try.func18⟩ (plain_cons hp hl) ?_
  ·walk_nrm
   exact (SCall.fz K (push_s (Fz K e1) hne hn oa (fz0 K e1) ht1')).mono fun v e' h => ⟨h.1, h.2⟩
  rintro x e2 ⟨hkept, b, rfl, ht2⟩
  have hk1 := hkept (N + 1) hm1
  have hk2 := hkept (N + 2) hm2
  rw [c2] at hk1
  rw [c3] at hk2
  clear hkept d0 d1
  unfold LW
  walk_nrm
  refine Walk.gz z18 ?_
  have hapA := (K.mineA e2 _ hk2.1).1
  have hapR := (K.mineA e2 _ hk1.1).1
  have dA := hk2.2
  have oA : ∀ b, b ≠ N + 2 → (K.w e2).heap[b]? = (K.w e2).heap[b]? := fun _ _ => rfl
  have zA : (K.w e2).heap.size = (K.w e2).heap.size := rfl
  have n0 : (K.w e2).cell? ⟨N + 2, 0, none⟩ = some (.bool false) := (cell_of dA 0).trans rfl
  have y0 := frozen_of dA 0
  (have hfr := hapA.1 ⟨N + 2, 0, none⟩ rfl; refine Walk.os hfr n0 ?_; clear hfr; try walk_nrm)
  have dB : ((K.w e2).setCell ⟨N + 2, 0, none⟩ (.bool b)).heap[N + 2]? = some (.cells #[.bool b, .int .i64 0, .slice none 0 0] 32) := by
   rw [heap_set_self _ _ dA]
   simp
  have oB : ∀ x, x ≠ N + 2 → ((K.w e2).setCell ⟨N + 2, 0, none⟩ (.bool b)).heap[x]? = (K.w e2).heap[x]? := fun x hx => (heap_set_other _ _ _ _ hx).trans (oA x hx)
  have zB : ((K.w e2).setCell ⟨N + 2, 0, none⟩ (.bool b)).heap.size = (K.w e2).heap.size := (size_set _ _ _).trans zA
  clear n0 y0 dA oA zA
  generalize (K.w e2).setCell ⟨N + 2, 0, none⟩ (.bool b) = wB at *
  refine Walk.gz z18 ?_
  refine Walk.loadS 32 (.tmp 7) hoA (by rfl) (by decide) rfl (N + 2) 0 [.bool b, .int .i64 0, .slice none 0 0] (.struct fsA) rfl (fun j v hj => ?_) huA rfl (by kernel_rfl) ?_
  ·rw [Nat.zero_add, cell_of dB]
   simpa using hj
  walk_nrm
  have dR : wB.heap[N + 1]? = some (.cells #[.bool false, .int .i64 0, .slice none 0 0] 32) := (oB _ (by omega)).trans hk1.2
  refine Walk.storeS 32 (.tmp 6) (.tmp 44) hoA (by rfl) (by decide) rfl (N + 1) #[.bool b, .int .i64 0, .slice none 0 0] _ 32 rfl rfl dR (by kernel_rfl) (by rfl) (by simp [Value.oneCell']) hapR ?_
  have dS := setRow_self (cells := #[.bool b, .int .i64 0, .slice none 0 0]) dR
  walk_nrm
  refine Walk.gz z18 ?_
  exact call_back K (a := (b, 0)) (by rw [setRow_size]; omega) (fun x _ hx => (setRow_other _ _ (fun h : x = N + 1 => hx (by rw [h]; exact hk1.1))).trans (oB x (fun h : x = N + 2 => hx (by rw [h]; exact hk2.1)))) dS ht2 hk ⟨rfl, rfl, rfl, rfl, rfl⟩
 have hb1 : (ok == 1) = false := by simp [h1]
 simp only [hb1]
 refine Walk.gz z18 ?_
 by_cases h2 : ok = 2
 ·subst h2
  have ht1' : K.tgt e1 = (K.s e1, .inr (.po1)) := ht1
  refine Walk.gz z18 ?_
  refine LW.callS (K := K.toLb) (e := e1) (l := fr :: l) (f := 26) (Q := fun x e' => Kept K e1 e' ∧ ∃ b y, x = .tuple #[.int .i64 y, .bool b] ∧ K.tgt e' = (K.s e', .inl (b, y))) ?_ hoA (by rfl) (by decide) rfl Try.func26 (by kernel_rfl) (by rfl) ⟨rfl, rfl, _, Try.func18⟩ (plain_cons hp hl) ?_
  ·walk_nrm
   exact (SCall.fz K (pop_s (Fz K e1) hne hn (fz0 K e1) ht1')).mono fun v e' h => ⟨h.1, h.2⟩
  rintro x e2 ⟨hkept, b, y, rfl, ht2⟩
  have hk1 := hkept (N + 1) hm1
  have hk2 := hkept (N + 2) hm2
  rw [c2] at hk1
  rw [c3] at hk2
  clear hkept d0 d1
  unfold LW
  walk_nrm
  refine Walk.gz z18 ?_
  have hapA := (K.mineA e2 _ hk2.1).1
  have hapR := (K.mineA e2 _ hk1.1).1
  have n1 : (K.w e2).cell? ⟨N + 2, 1, none⟩ = some (.int .i64 0) := (cell_of hk2.2 1).trans rfl
  have y1 := frozen_of hk2.2 1
  (have hfr := hapA.1 ⟨N + 2, 1, none⟩ rfl; refine Walk.os hfr n1 ?_; clear hfr; try walk_nrm)
  have dA : ((K.w e2).setCell ⟨N + 2, 1, none⟩ (.int .i64 y)).heap[N + 2]? = some (.cells #[.bool false, .int .i64 y, .slice none 0 0] 32) := by
   rw [heap_set_self _ _ hk2.2]
   simp
  have oA : ∀ b, b ≠ N + 2 → ((K.w e2).setCell ⟨N + 2, 1, none⟩ (.int .i64 y)).heap[b]? = (K.w e2).heap[b]? := fun b hb => heap_set_other _ _ _ _ hb
  have zA := size_set (K.w e2) ⟨N + 2, 1, none⟩ (.int .i64 y)
  clear n1 y1
  generalize (K.w e2).setCell ⟨N + 2, 1, none⟩ (.int .i64 y) = wA at *
  refine Walk.gz z18 ?_
  have n0 : wA.cell? ⟨N + 2, 0, none⟩ = some (.bool false) := (cell_of dA 0).trans rfl
  have y0 := frozen_of dA 0
  (have hfr := hapA.1 ⟨N + 2, 0, none⟩ rfl; refine Walk.os hfr n0 ?_; clear hfr; try walk_nrm)
  have dB : (wA.setCell ⟨N + 2, 0, none⟩ (.bool b)).heap[N + 2]? = some (.cells #[.bool b, .int .i64 y, .slice none 0 0] 32) := by
   rw [heap_set_self _ _ dA]
   simp
  have oB : ∀ x, x ≠ N + 2 → (wA.setCell ⟨N + 2, 0, none⟩ (.bool b)).heap[x]? = (K.w e2).heap[x]? := fun x hx => (heap_set_other _ _ _ _ hx).trans (oA x hx)
  have zB : (wA.setCell ⟨N + 2, 0, none⟩ (.bool b)).heap.size = (K.w e2).heap.size := (size_set _ _ _).trans zA
  clear n0 y0 dA oA zA
  generalize wA.setCell ⟨N + 2, 0, none⟩ (.bool b) = wB at *
  refine Walk.gz z18 ?_
  refine Walk.loadS 32 (.tmp 7) hoA (by rfl) (by decide) rfl (N + 2) 0 [.bool b, .int .i64 y, .slice none 0 0] (.struct fsA) rfl (fun j v hj => ?_) huA rfl (by kernel_rfl) ?_
  ·rw [Nat.zero_add, cell_of dB]
   simpa using hj
  walk_nrm
  have dR : wB.heap[N + 1]? = some (.cells #[.bool false, .int .i64 0, .slice none 0 0] 32) := (oB _ (by omega)).trans hk1.2
  refine Walk.storeS 32 (.tmp 6) (.tmp 44) hoA (by rfl) (by decide) rfl (N + 1) #[.bool b, .int .i64 y, .slice none 0 0] _ 32 rfl rfl dR (by kernel_rfl) (by rfl) (by simp [Value.oneCell']) hapR ?_
  have dS := setRow_self (cells := #[.bool b, .int .i64 y, .slice none 0 0]) dR
  walk_nrm
  refine Walk.gz z18 ?_
  exact call_back K (a := (b, y)) (by rw [setRow_size]; omega) (fun x _ hx => (setRow_other _ _ (fun h : x = N + 1 => hx (by rw [h]; exact hk1.1))).trans (oB x (fun h : x = N + 2 => hx (by rw [h]; exact hk2.1)))) dS ht2 hk ⟨rfl, rfl, rfl, rfl, rfl⟩
 have hb2 : (ok == 2) = false := by simp [h2]
 simp only [hb2]
 refine Walk.gz z18 ?_
 by_cases h3 : ok = 3
 ·subst h3
  have ht1' : K.tgt e1 = (K.s e1, .inr (.pe1)) := ht1
  refine Walk.gz z18 ?_
  refine LW.callS (K := K.toLb) (e := e1) (l := fr :: l) (f := 27) (Q := fun x e' => Kept K e1 e' ∧ ∃ b y, x = .tuple #[.int .i64 y, .bool b] ∧ K.tgt e' = (K.s e', .inl (b, y))) ?_ hoA (by rfl) (by decide) rfl Try.func27 (by kernel_rfl) (by rfl) ⟨rfl, rfl, _, Try.func18⟩ (plain_cons hp hl) ?_
  ·walk_nrm
   exact (SCall.fz K (peek_s (Fz K e1) hne (fz0 K e1) ht1')).mono fun v e' h => ⟨h.1, h.2⟩
  rintro x e2 ⟨hkept, b, y, rfl, ht2⟩
  have hk1 := hkept (N + 1) hm1
  have hk2 := hkept (N + 2) hm2
  rw [c2] at hk1
  rw [c3] at hk2
  clear hkept d0 d1
  unfold LW
  walk_nrm
  refine Walk.gz z18 ?_
  have hapA := (K.mineA e2 _ hk2.1).1
  have hapR := (K.mineA e2 _ hk1.1).1
  have n1 : (K.w e2).cell? ⟨N + 2, 1, none⟩ = some (.int .i64 0) := (cell_of hk2.2 1).trans rfl
  have y1 := frozen_of hk2.2 1
  (have hfr := hapA.1 ⟨N + 2, 1, none⟩ rfl; refine Walk.os hfr n1 ?_; clear hfr; try walk_nrm)
  have dA : ((K.w e2).setCell ⟨N + 2, 1, none⟩ (.int .i64 y)).heap[N + 2]? = some (.cells #[.bool false, .int .i64 y, .slice none 0 0] 32) := by
   rw [heap_set_self _ _ hk2.2]
   simp
  have oA : ∀ b, b ≠ N + 2 → ((K.w e2).setCell ⟨N + 2, 1, none⟩ (.int .i64 y)).heap[b]? = (K.w e2).heap[b]? := fun b hb => heap_set_other _ _ _ _ hb
  have zA := size_set (K.w e2) ⟨N + 2, 1, none⟩ (.int .i64 y)
  clear n1 y1
  generalize (K.w e2).setCell ⟨N + 2, 1, none⟩ (.int .i64 y) = wA at *
  refine Walk.gz z18 ?_
  have n0 : wA.cell? ⟨N + 2, 0, none⟩ = some (.bool false) := (cell_of dA 0).trans rfl
  have y0 := frozen_of dA 0
  (have hfr := hapA.1 ⟨N + 2, 0, none⟩ rfl; refine Walk.os hfr n0 ?_; clear hfr; try walk_nrm)
  have dB : (wA.setCell ⟨N + 2, 0, none⟩ (.bool b)).heap[N + 2]? = some (.cells #[.bool b, .int .i64 y, .slice none 0 0] 32) := by
   rw [heap_set_self _ _ dA]
   simp
  have oB : ∀ x, x ≠ N + 2 → (wA.setCell ⟨N + 2, 0, none⟩ (.bool b)).heap[x]? = (K.w e2).heap[x]? := fun x hx => (heap_set_other _ _ _ _ hx).trans (oA x hx)
  have zB : (wA.setCell ⟨N + 2, 0, none⟩ (.bool b)).heap.size = (K.w e2).heap.size := (size_set _ _ _).trans zA
  clear n0 y0 dA oA zA
  generalize wA.setCell ⟨N + 2, 0, none⟩ (.bool b) = wB at *
  refine Walk.gz z18 ?_
  refine Walk.loadS 32 (.tmp 7) hoA (by rfl) (by decide) rfl (N + 2) 0 [.bool b, .int .i64 y, .slice none 0 0] (.struct fsA) rfl (fun j v hj => ?_) huA rfl (by kernel_rfl) ?_
  ·rw [Nat.zero_add, cell_of dB]
   simpa using hj
  walk_nrm
  have dR : wB.heap[N + 1]? = some (.cells #[.bool false, .int .i64 0, .slice none 0 0] 32) := (oB _ (by omega)).trans hk1.2
  refine Walk.storeS 32 (.tmp 6) (.tmp 44) hoA (by rfl) (by decide) rfl (N + 1) #[.bool b, .int .i64 y, .slice none 0 0] _ 32 rfl rfl dR (by kernel_rfl) (by rfl) (by simp [Value.oneCell']) hapR ?_
  have dS := setRow_self (cells := #[.bool b, .int .i64 y, .slice none 0 0]) dR
  walk_nrm
  refine Walk.gz z18 ?_
  exact call_back K (a := (b, y)) (by rw [setRow_size]; omega) (fun x _ hx => (setRow_other _ _ (fun h : x = N + 1 => hx (by rw [h]; exact hk1.1))).trans (oB x (fun h : x = N + 2 => hx (by rw [h]; exact hk2.1)))) dS ht2 hk ⟨rfl, rfl, rfl, rfl, rfl⟩
 have hb3 : (ok == 3) = false := by simp [h3]
 simp only [hb3]
 refine Walk.gz z18 ?_
 by_cases h4 : ok = 4
 ·subst h4
  have ht1' : K.tgt e1 = (K.s e1, .inr (.em1)) := ht1
  refine Walk.gz z18 ?_
  refine LW.callS (K := K.toLb) (e := e1) (l := fr :: l) (f := 29) (Q := fun x e' => Kept K e1 e' ∧ ∃ b, x = .bool b ∧ K.tgt e' = (K.s e', .inl (b, 0))) ?_ hoA (by rfl) (by decide) rfl Try.func29 (by kernel_rfl) (by rfl) ⟨rfl, rfl, _, Try.func18⟩ (plain_cons hp hl) ?_
  ·walk_nrm
   exact (SCall.fz K (empty_s (Fz K e1) hne (fz0 K e1) ht1')).mono fun v e' h => ⟨h.1, h.2⟩
  rintro x e2 ⟨hkept, b, rfl, ht2⟩
  have hk1 := hkept (N + 1) hm1
  have hk2 := hkept (N + 2) hm2
  rw [c2] at hk1
  rw [c3] at hk2
  clear hkept d0 d1
  unfold LW
  walk_nrm
  refine Walk.gz z18 ?_
  have hapA := (K.mineA e2 _ hk2.1).1
  have hapR := (K.mineA e2 _ hk1.1).1
  have dA := hk2.2
  have oA : ∀ b, b ≠ N + 2 → (K.w e2).heap[b]? = (K.w e2).heap[b]? := fun _ _ => rfl
  have zA : (K.w e2).heap.size = (K.w e2).heap.size := rfl
  have n0 : (K.w e2).cell? ⟨N + 2, 0, none⟩ = some (.bool false) := (cell_of dA 0).trans rfl
  have y0 := frozen_of dA 0
  (have hfr := hapA.1 ⟨N + 2, 0, none⟩ rfl; refine Walk.os hfr n0 ?_; clear hfr; try walk_nrm)
  have dB : ((K.w e2).setCell ⟨N + 2, 0, none⟩ (.bool b)).heap[N + 2]? = some (.cells #[.bool b, .int .i64 0, .slice none 0 0] 32) := by
   rw [heap_set_self _ _ dA]
   simp
  have oB : ∀ x, x ≠ N + 2 → ((K.w e2).setCell ⟨N + 2, 0, none⟩ (.bool b)).heap[x]? = (K.w e2).heap[x]? := fun x hx => (heap_set_other _ _ _ _ hx).trans (oA x hx)
  have zB : ((K.w e2).setCell ⟨N + 2, 0, none⟩ (.bool b)).heap.size = (K.w e2).heap.size := (size_set _ _ _).trans zA
  clear n0 y0 dA oA zA
  generalize (K.w e2).setCell ⟨N + 2, 0, none⟩ (.bool b) = wB at *
  refine Walk.gz z18 ?_
  refine Walk.loadS 32 (.tmp 7) hoA (by rfl) (by decide) rfl (N + 2) 0 [.bool b, .int .i64 0, .slice none 0 0] (.struct fsA) rfl (fun j v hj => ?_) huA rfl (by kernel_rfl) ?_
  ·rw [Nat.zero_add, cell_of dB]
   simpa using hj
  walk_nrm
  have dR : wB.heap[N + 1]? = some (.cells #[.bool false, .int .i64 0, .slice none 0 0] 32) := (oB _ (by omega)).trans hk1.2
  refine Walk.storeS 32 (.tmp 6) (.tmp 44) hoA (by rfl) (by decide) rfl (N + 1) #[.bool b, .int .i64 0, .slice none 0 0] _ 32 rfl rfl dR (by kernel_rfl) (by rfl) (by simp [Value.oneCell']) hapR ?_
  have dS := setRow_self (cells := #[.bool b, .int .i64 0, .slice none 0 0]) dR
  walk_nrm
  refine Walk.gz z18 ?_
  exact call_back K (a := (b, 0)) (by rw [setRow_size]; omega) (fun x _ hx => (setRow_other _ _ (fun h : x = N + 1 => hx (by rw [h]; exact hk1.1))).trans (oB x (fun h : x = N + 2 => hx (by rw [h]; exact hk2.1)))) dS ht2 hk ⟨rfl, rfl, rfl, rfl, rfl⟩
 have hb4 : (ok == 4) = false := by simp [h4]
 simp only [hb4]
 refine Walk.gz z18 ?_
 have ht2 : K.tgt e1 = (K.s e1, .inl (false, 0)) := ht1.trans (skEnter_none _ _ h1 h2 h3 h4)
 have hk1 : K.mine e1 (N + 1) ∧ _ := ⟨hm1, c2⟩
 have hk2 : K.mine e1 (N + 2) ∧ _ := ⟨hm2, c3⟩
 have hapA := (K.mineA e1 _ hk2.1).1
 have hapR := (K.mineA e1 _ hk1.1).1
 have dA := hk2.2
 have oA : ∀ b, b ≠ N + 2 → (K.w e1).heap[b]? = (K.w e1).heap[b]? := fun _ _ => rfl
 have zA : (K.w e1).heap.size = (K.w e1).heap.size := rfl
 have dB := dA
 have oB := oA
 have zB := zA
 clear dA oA zA
 refine Walk.loadS 32 (.tmp 7) hoA (by rfl) (by decide) rfl (N + 2) 0 [.bool false, .int .i64 0, .slice none 0 0] (.struct fsA) rfl (fun j v hj => ?_) huA rfl (by kernel_rfl) ?_
 ·rw [Nat.zero_add, cell_of dB]
  simpa using hj
 walk_nrm
 have dR : (K.w e1).heap[N + 1]? = some (.cells #[.bool false, .int .i64 0, .slice none 0 0] 32) := (oB _ (by omega)).trans hk1.2
 refine Walk.storeS 32 (.tmp 6) (.tmp 44) hoA (by rfl) (by decide) rfl (N + 1) #[.bool false, .int .i64 0, .slice none 0 0] _ 32 rfl rfl dR (by kernel_rfl) (by rfl) (by simp [Value.oneCell']) hapR ?_
 have dS := setRow_self (cells := #[.bool false, .int .i64 0, .slice none 0 0]) dR
 walk_nrm
 refine Walk.gz z18 ?_
 exact call_back K (a := (false, 0)) (by rw [setRow_size]; omega) (fun x _ hx => (setRow_other _ _ (fun h : x = N + 1 => hx (by rw [h]; exact hk1.1))).trans (oB x (fun h : x = N + 2 => hx (by rw [h]; exact hk2.1)))) dS ht2 hk ⟨rfl, rfl, rfl, rfl, rfl⟩
end
end
end Go.Proofs.Ytdmpmoggacjgcaa
