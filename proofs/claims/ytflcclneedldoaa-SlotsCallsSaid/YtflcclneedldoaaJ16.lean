/- Part 16. -/
import Derived.Test.YtflcclneedldoaaJ9
import Derived.Test.YtflcclneedldoaaJ10
import Derived.Test.YtflcclneedldoaaJ15
set_option linter.unusedSimpArgs false
set_option linter.unusedVariables false
set_option maxHeartbeats 8000000
set_option maxRecDepth 100000
namespace Go.Proofs.Ytflcclneedldoaa
open Go.Conc Go.RowKit Go.Relay Try
open Go.ConcN (upd upd_ne upd_same)
noncomputable def reg60_0 := rk f60.body 0
noncomputable def reg60_1 := rk f60.body 1
noncomputable def reg60_2 := rk f60.body 2
noncomputable def reg60_3 := rk f60.body 3
theorem z60 : reg60_0.size = 1 /\ reg60_1.size = 2 /\ reg60_2.size = 3 /\ reg60_3.size = 3 := by and_intros <;> kernel_rfl
theorem code60_is : f60.body = some (.seq (.region 0 reg60_0 false) (.seq (.seq (.region 1 reg60_1 false) (.cond (.tmp 6 ) (.seq (.region 2 reg60_2 false) (.ret)) (.skip))) (.seq (.region 3 reg60_3 false) (.ret)))) := by kernel_rfl
noncomputable def reg18_0 := rk f18.body 0
noncomputable def reg18_1 := rk f18.body 1
noncomputable def reg18_2 := rk f18.body 2
noncomputable def reg18_3 := rk f18.body 3
noncomputable def reg18_4 := rk f18.body 4
noncomputable def reg18_5 := rk f18.body 5
noncomputable def reg18_6 := rk f18.body 6
noncomputable def reg18_7 := rk f18.body 7
noncomputable def reg18_8 := rk f18.body 8
noncomputable def reg18_9 := rk f18.body 9
noncomputable def reg18_10 := rk f18.body 10
noncomputable def reg18_11 := rk f18.body 11
noncomputable def reg18_12 := rk f18.body 12
noncomputable def reg18_13 := rk f18.body 13
noncomputable def reg18_14 := rk f18.body 14
noncomputable def reg18_15 := rk f18.body 15
theorem z18 : reg18_0.size = 2 /\ reg18_1.size = 2 /\ reg18_2.size = 2 /\ reg18_3.size = 9 /\ reg18_4.size = 2 /\ reg18_5.size = 9 /\ reg18_6.size = 2 /\ reg18_7.size = 7 /\ reg18_8.size = 2 /\ reg18_9.size = 9 /\ reg18_10.size = 2 /\ reg18_11.size = 12 /\ reg18_12.size = 4 /\ reg18_13.size = 3 /\ reg18_14.size = 2 /\ reg18_15.size = 2 := by and_intros <;> kernel_rfl
theorem code18_is : f18.body = some (.seq (.region 0 reg18_0 false) (.seq (.seq (.region 1 reg18_1 false) (.block 0 (.seq (.region 2 reg18_2 false) (.cond (.tmp 12 ) (.seq (.region 3 reg18_3 false) (.ret)) (.seq (.region 4 reg18_4 false) (.cond (.tmp 22 ) (.seq (.region 5 reg18_5 false) (.ret)) (.seq (.region 6 reg18_6 false) (.cond (.tmp 32 ) (.seq (.region 7 reg18_7 false) (.ret)) (.seq (.region 8 reg18_8 false) (.cond (.tmp 40 ) (.seq (.region 9 reg18_9 false) (.ret)) (.seq (.region 10 reg18_10 false) (.cond (.tmp 50 ) (.seq (.region 11 reg18_11 false) (.seq (.region 12 reg18_12 false) (.seq (.region 13 reg18_13 false) (.seq (.region 14 reg18_14 false) (.ret))))) (.skip))))))))))))) (.seq (.region 15 reg18_15 false) (.ret)))) := by kernel_rfl
section
variable {main : Bool} {V : Nat -> Option Wait}
theorem told_yes (x : Int) (w : World) (hA : ∀ b, w.heap.size <= b -> Az V b) : CallW prog main V 60 #[.int .i64 x, .int .i64 0] w (Gu x 0 w) := by
 have hap := hA w.heap.size (Nat.le_refl _)
 refine Aq func60 code60_is fun fr cs => ?_
 simp only [ntmps60, ez, Nat.reduceAdd, Nat.reduceSub]
 refine Aa z60 ?_
 (refine Wa ?_; try walk_nrm)
 have s1 : (w.alloc (.cells #[.bool false, .int .i64 0, .slice none 0 0] 42)).heap.size = w.heap.size + 1 := by simp
 have o1 : ∀ b, b < w.heap.size -> (w.alloc (.cells #[.bool false, .int .i64 0, .slice none 0 0] 42)).heap[b]? = w.heap[b]? := fun b hb => Ad _ _ hb
 have d1 := hAw w (.cells #[.bool false, .int .i64 0, .slice none 0 0] 42)
 generalize hN : w.heap.size = N at *
 generalize hw1 : w.alloc (.cells #[.bool false, .int .i64 0, .slice none 0 0] 42) = w1 at *
 refine Aa z60 ?_
 refine Am 42 (.tmp 4) (.tmp 10) Ah (by rfl) (by decide) rfl N #[.bool true, .int .i64 x, .slice none 0 0] _ 42 rfl rfl d1 (by kernel_rfl) (by rfl) (by simp [Value.oneCell']) hap ?_
 have d2 := Ba (cells := #[.bool true, .int .i64 x, .slice none 0 0]) d1
 have o2 : ∀ b, b < N -> (w1.setRow N #[.bool true, .int .i64 x, .slice none 0 0]).heap[b]? = w.heap[b]? := fun b hb => (Ap _ _ (by omega)).trans (o1 b hb)
 have s2 := Ay w1 N #[.bool true, .int .i64 x, .slice none 0 0]
 generalize w1.setRow N #[.bool true, .int .i64 x, .slice none 0 0] = w2 at *
 walk_nrm
 refine Aa z60 ?_
 refine Bv (T := N) rfl rfl rfl func60 rfl (by rfl) d2 (by kernel_rfl) (by kernel_rfl) (.stop fun d => ⟨_, ⟨rfl, ?_, ?_⟩, rfl⟩)
 ·rw [hN]
  exact o2
 ·show w.heap.size <= w2.heap.size
  omega
theorem told_no (x er : Int) (her : er ≠ 0) (w : World) (hA : ∀ b, w.heap.size <= b -> Az V b) : CallW prog main V 60 #[.int .i64 x, .int .i64 er] w (Gu x er w) := by
 have hap := hA w.heap.size (Nat.le_refl _)
 have hb1 : (er == 0) = false := by simp [her]
 have hb2 : (er != 0) = true := by simp [her]
 have hif : (if er = 0 then x else er) = er := if_neg her
 unfold Gu
 rw [hif]
 refine Aq func60 code60_is fun fr cs => ?_
 simp only [ntmps60, ez, Nat.reduceAdd, Nat.reduceSub]
 refine Aa z60 ?_
 (refine Wa ?_; try walk_nrm)
 have s1 : (w.alloc (.cells #[.bool false, .int .i64 0, .slice none 0 0] 42)).heap.size = w.heap.size + 1 := by simp
 have o1 : ∀ b, b < w.heap.size -> (w.alloc (.cells #[.bool false, .int .i64 0, .slice none 0 0] 42)).heap[b]? = w.heap[b]? := fun b hb => Ad _ _ hb
 have d1 := hAw w (.cells #[.bool false, .int .i64 0, .slice none 0 0] 42)
 generalize hN : w.heap.size = N at *
 generalize hw1 : w.alloc (.cells #[.bool false, .int .i64 0, .slice none 0 0] 42) = w1 at *
 refine Aa z60 ?_
 refine Am 42 (.tmp 4) (.tmp 8) Ah (by rfl) (by decide) rfl N #[.bool false, .int .i64 er, .slice none 0 0] _ 42 rfl rfl d1 (by kernel_rfl) (by rfl) (by simp [Value.oneCell']) hap ?_
 have d2 := Ba (cells := #[.bool false, .int .i64 er, .slice none 0 0]) d1
 have o2 : ∀ b, b < N -> (w1.setRow N #[.bool false, .int .i64 er, .slice none 0 0]).heap[b]? = w.heap[b]? := fun b hb => (Ap _ _ (by omega)).trans (o1 b hb)
 have s2 := Ay w1 N #[.bool false, .int .i64 er, .slice none 0 0]
 generalize w1.setRow N #[.bool false, .int .i64 er, .slice none 0 0] = w2 at *
 walk_nrm
 refine Aa z60 ?_
 refine Bv (T := N) rfl rfl rfl func60 rfl (by rfl) d2 (by kernel_rfl) (by kernel_rfl) (.stop fun d => ⟨_, ⟨by rw [hb1], ?_, ?_⟩, rfl⟩)
 ·exact o2
 ·show N <= w2.heap.size
  omega
theorem told_w (x er : Int) (w : World) (hA : ∀ b, w.heap.size <= b -> Az V b) : CallW prog main V 60 #[.int .i64 x, .int .i64 er] w (Gu x er w) := by
 by_cases h : er = 0
 ·subst h
  exact told_yes x w hA
 ·exact told_no x er h w hA
end
section
variable {rb sb n : Nat} {sv : Value}
theorem Eo {L : La} {sv : Value} (K : Lg L sv) {F : FuncId} {fn : Func} {e2 : K.E} {fr c : Frame} {l : List Frame} {R : Nat} {a : Ans} {sl : Value} (hm : K.mine e2 R) (hR : (K.w e2).heap[R]? = some (.cells #[.bool false, .int .i64 0, .slice none 0 0] 42))
  (ht : K.tgt e2 = (K.s e2, .inl a)) (hsl : GatL K e2 sl a.l) (hk : ∀ e', K.tgt e' = (K.s e', .inl a) -> GatL K e' sl a.l -> LW K.toLb e' (G (c.finish (Bo a sl)) (l ++ K.bot e')))
  (hF : prog.funcs[F]? = some fn) (hres : fn.results = #[.cell 6 42]) (hfr : fr.mode = .returning /\ fr.kind = .normal /\ fr.defers = [] /\ fr.fn = F /\ fr.tmps.getD 6 undef = .pointer (some ⟨R, 0, none⟩)) :
  Walk prog K.main (DR (K.V e2)) (K.Stop e2) (G fr (c :: (l ++ K.bot e2))) ((K.w e2).setRow R #[.bool a.ok, .int .i64 a.n, sl]) := by
 obtain ⟨h1, h2, h3, h4, h5⟩ := hfr
 obtain ⟨e3, m⟩ := K.own e2 (w' := (K.w e2).setRow R #[.bool a.ok, .int .i64 a.n, sl]) (by rw [Ay]; exact Nat.le_refl _) (fun b _ hbm => Ap _ _ (fun he : b = R => hbm (by rw [he]; exact hm)))
 have c9 := Ba (cells := #[.bool a.ok, .int .i64 a.n, sl]) hR
 refine Bv (T := R) h1 h2 h3 (by rw [h4]; exact hF) hres h5 c9 (by kernel_rfl) (by kernel_rfl) ?_
 refine Gb m (hk e3 ?_ ?_)
 ·rw [m.tgt, m.s]
  exact ht
 ·refine hsl.keep (fun b h => (m.mine b).2 (.inl h)) fun b _ hb => ?_
  rw [m.w]
  exact Ap _ _ (hsl.ne hR b hb)
theorem call_s (K : Lg (Br rb sb n) sv) (e : K.E) (th ok oa ob oc : Int) (ht : K.tgt e = Bt n (K.s e) th ⟨ok, oa, ob, oc⟩) :
  SCall K.toLb 18 #[.pointer (some ⟨rb, 0, none⟩), sv, .agg #[.int .i64 ok, .int .i64 oa, .int .i64 ob, .int .i64 oc]] e (DoOutG K) := by
 intro fr l hp hl hk
 unfold LW
 rw [enter_at _ func18 code18_is]
 simp only [ntmps18, ez, Nat.reduceAdd, Nat.reduceSub]
 refine Aa z18 ?_
 (refine Wa ?_; try walk_nrm)
 (refine Wa ?_; try walk_nrm)
 have hA1 : ((K.w e).alloc (.cells #[.int .i64 ok, .int .i64 oa, .int .i64 ob, .int .i64 oc] 45)).heap.size = (K.w e).heap.size + 1 := by simp
 have c1 : (((K.w e).alloc (.cells #[.int .i64 ok, .int .i64 oa, .int .i64 ob, .int .i64 oc] 45)).alloc (.cells #[.bool false, .int .i64 0, .slice none 0 0] 42)).heap[(K.w e).heap.size]? = some (.cells #[.int .i64 ok, .int .i64 oa, .int .i64 ob, .int .i64 oc] 45) := by
  rw [Ad _ _ (by omega)]
  exact hAw _ _
 have c2 : (((K.w e).alloc (.cells #[.int .i64 ok, .int .i64 oa, .int .i64 ob, .int .i64 oc] 45)).alloc (.cells #[.bool false, .int .i64 0, .slice none 0 0] 42)).heap[(K.w e).heap.size + 1]? = some (.cells #[.bool false, .int .i64 0, .slice none 0 0] 42) := by
  have := hAw ((K.w e).alloc (.cells #[.int .i64 ok, .int .i64 oa, .int .i64 ob, .int .i64 oc] 45)) (.cells #[.bool false, .int .i64 0, .slice none 0 0] 42)
  rwa [hA1] at this
 have hs2 : (((K.w e).alloc (.cells #[.int .i64 ok, .int .i64 oa, .int .i64 ob, .int .i64 oc] 45)).alloc (.cells #[.bool false, .int .i64 0, .slice none 0 0] 42)).heap.size = (K.w e).heap.size + 2 := by simp
 obtain ⟨e1, m1⟩ := K.grow e (w' := ((K.w e).alloc (.cells #[.int .i64 ok, .int .i64 oa, .int .i64 ob, .int .i64 oc] 45)).alloc (.cells #[.bool false, .int .i64 0, .slice none 0 0] 42)) (by omega) (fun b hb' => by
  rw [Ad _ _ (by omega)]
  exact Ad _ _ hb')
 try simp only [hA1]
 generalize hw2 : ((K.w e).alloc (.cells #[.int .i64 ok, .int .i64 oa, .int .i64 ob, .int .i64 oc] 45)).alloc (.cells #[.bool false, .int .i64 0, .slice none 0 0] 42) = w2 at *
 generalize hN : (K.w e).heap.size = N at *
 have hmn : K.mine e1 (N + 1) := m1.new (by omega) (by omega)
 have ht1 : K.tgt e1 = Bt n (K.s e1) th ⟨ok, oa, ob, oc⟩ := by rw [m1.tgt, m1.s]; exact ht
 have d0 := (Ab c1 0).trans rfl
 have d1 := (Ab c1 1).trans rfl
 have d2 := (Ab c1 2).trans rfl
 have hw1 := m1.w
 refine Gb (l := fr :: l) m1 ?_
 unfold LW
 clear hw2 m1 ht
 subst hw1
 have hapN := (K.mineA e1 _ hmn).1
 refine Aa z18 ?_
 by_cases h1 : ok = 1
 ·subst h1
  have ht3 : K.tgt e1 = (K.s e1, if good oa then .inr (.p1 oa ob) else .inl ⟨false, 1, []⟩) := ht1
  refine Aa z18 ?_
  have hg := Db K (put_all (Fz K e1) (fz0 K e1) oa ob ht3)
  refine Bi (K := K.toLb) (e := e1) (l := fr :: l) (f := 53) (Q := fun x e' => ∃ h : Ml K e1 e', ∃ er, x = .int .i64 er /\ (Fz K e1).tgt ⟨e', h⟩ = ((Fz K e1).s ⟨e', h⟩, .inl ⟨er == 0, if er = 0 then 0 else er, []⟩)) ?_ Ah (by rfl) (by decide) rfl func53 (by kernel_rfl) (by rfl) ⟨rfl, rfl, _, func18⟩ (Bc hp hl) ?_
  ·walk_nrm
   exact hg
  rintro x e2 ⟨hkept, er, rfl, ht4⟩
  obtain ⟨hm2, hb2⟩ := hkept (N + 1) hmn
  rw [c2] at hb2
  clear hg
  replace ht4 : K.tgt e2 = (K.s e2, .inl ⟨er == 0, if er = 0 then 0 else er, []⟩) := ht4
  have hans := told_w (main := K.main) (V := K.V e2) 0 er (K.w e2) (K.newA e2)
  unfold LW
  walk_nrm
  refine Aa z18 ?_
  refine qW (Post := Gu 0 er (K.w e2)) func60 ?_ ?_
  ·walk_nrm
   exact hans
  rintro v w3 ⟨rfl, o3, z3⟩
  clear hans
  have lN : N + 1 < (K.w e2).heap.size := (aEs hb2).1
  obtain ⟨e3, m3⟩ := K.grow e2 (w' := w3) z3 o3
  have hm3 : K.mine e3 (N + 1) := (m3.mine _).2 (.inl hm2)
  have hb3 : (K.w e3).heap[N + 1]? = some (.cells #[.bool false, .int .i64 0, .slice none 0 0] 42) := by rw [m3.w]; exact (o3 _ lN).trans hb2
  have ht5 : K.tgt e3 = (K.s e3, .inl ⟨er == 0, if er = 0 then 0 else er, []⟩) := by rw [m3.tgt, m3.s]; exact ht4
  have hap3 := (K.mineA e3 _ hm3).1
  refine Gb (l := fr :: l) m3 ?_
  unfold LW
  clear hb2 o3 m3 ht4
  generalize (if er = 0 then 0 else er) = y at *
  generalize (er == 0) = bb at *
  walk_nrm
  refine Aa z18 ?_
  refine Am 42 (.tmp 6) (.tmp 21) Ah (by rfl) (by decide) rfl (N + 1) #[.bool bb, .int .i64 y, .slice none 0 0] _ 42 rfl rfl hb3 (by kernel_rfl) (by rfl) (by simp [Value.oneCell']) hap3 ?_
  walk_nrm
  refine Aa z18 ?_
  exact Eo K (a := ⟨bb, y, []⟩) (sl := .slice none 0 0) hm3 hb3 ht5 (GatL.nil K e3) (fun e' h h' => hk _ e' ⟨_, _, h, rfl, h', by simp⟩) func18 rfl ⟨rfl, rfl, rfl, rfl, rfl⟩
 have hbk1 : (ok == 1) = false := by simp [h1]
 simp only [hbk1]
 refine Aa z18 ?_
 by_cases h2 : ok = 2
 ·subst h2
  have ht3 : K.tgt e1 = (K.s e1, if good oa then .inr (.g1 oa) else .inl ⟨false, 1, []⟩) := ht1
  refine Aa z18 ?_
  have hg := Db K (Qe (Fz K e1) (fz0 K e1) oa ht3)
  refine Bi (K := K.toLb) (e := e1) (l := fr :: l) (f := 54) (Q := fun x e' => ∃ h : Ml K e1 e', ∃ a er, x = .tuple #[.int .i64 a, .int .i64 er] /\ (Fz K e1).tgt ⟨e', h⟩ = ((Fz K e1).s ⟨e', h⟩, .inl ⟨er == 0, if er = 0 then a else er, []⟩)) ?_ Ah (by rfl) (by decide) rfl func54 (by kernel_rfl) (by rfl) ⟨rfl, rfl, _, func18⟩ (Bc hp hl) ?_
  ·walk_nrm
   exact hg
  rintro x e2 ⟨hkept, xv, er, rfl, ht4⟩
  obtain ⟨hm2, hb2⟩ := hkept (N + 1) hmn
  rw [c2] at hb2
  clear hg
  replace ht4 : K.tgt e2 = (K.s e2, .inl ⟨er == 0, if er = 0 then xv else er, []⟩) := ht4
  have hans := told_w (main := K.main) (V := K.V e2) xv er (K.w e2) (K.newA e2)
  unfold LW
  walk_nrm
  refine Aa z18 ?_
  refine qW (Post := Gu xv er (K.w e2)) func60 ?_ ?_
  ·walk_nrm
   exact hans
  rintro v w3 ⟨rfl, o3, z3⟩
  clear hans
  have lN : N + 1 < (K.w e2).heap.size := (aEs hb2).1
  obtain ⟨e3, m3⟩ := K.grow e2 (w' := w3) z3 o3
  have hm3 : K.mine e3 (N + 1) := (m3.mine _).2 (.inl hm2)
  have hb3 : (K.w e3).heap[N + 1]? = some (.cells #[.bool false, .int .i64 0, .slice none 0 0] 42) := by rw [m3.w]; exact (o3 _ lN).trans hb2
  have ht5 : K.tgt e3 = (K.s e3, .inl ⟨er == 0, if er = 0 then xv else er, []⟩) := by rw [m3.tgt, m3.s]; exact ht4
  have hap3 := (K.mineA e3 _ hm3).1
  refine Gb (l := fr :: l) m3 ?_
  unfold LW
  clear hb2 o3 m3 ht4
  generalize (if er = 0 then xv else er) = y at *
  generalize (er == 0) = bb at *
  walk_nrm
  refine Aa z18 ?_
  refine Am 42 (.tmp 6) (.tmp 31) Ah (by rfl) (by decide) rfl (N + 1) #[.bool bb, .int .i64 y, .slice none 0 0] _ 42 rfl rfl hb3 (by kernel_rfl) (by rfl) (by simp [Value.oneCell']) hap3 ?_
  walk_nrm
  refine Aa z18 ?_
  exact Eo K (a := ⟨bb, y, []⟩) (sl := .slice none 0 0) hm3 hb3 ht5 (GatL.nil K e3) (fun e' h h' => hk _ e' ⟨_, _, h, rfl, h', by simp⟩) func18 rfl ⟨rfl, rfl, rfl, rfl, rfl⟩
 have hbk2 : (ok == 2) = false := by simp [h2]
 simp only [hbk2]
 refine Aa z18 ?_
 by_cases h3 : ok = 3
 ·subst h3
  have ht3 : K.tgt e1 = (K.s e1, if good oa then .inr (.t oa) else .inl ⟨false, 0, []⟩) := ht1
  refine Aa z18 ?_
  have hg := Db K (Kx (Fz K e1) (fz0 K e1) oa ht3)
  refine Bi (K := K.toLb) (e := e1) (l := fr :: l) (f := 56) (Q := fun x e' => ∃ h : Ml K e1 e', ∃ b, x = .bool b /\ (Fz K e1).tgt ⟨e', h⟩ = ((Fz K e1).s ⟨e', h⟩, .inl ⟨b, 0, []⟩)) ?_ Ah (by rfl) (by decide) rfl func56 (by kernel_rfl) (by rfl) ⟨rfl, rfl, _, func18⟩ (Bc hp hl) ?_
  ·walk_nrm
   exact hg
  rintro x e2 ⟨hkept, b, rfl, ht4⟩
  obtain ⟨hm2, hb2⟩ := hkept (N + 1) hmn
  rw [c2] at hb2
  clear hg
  replace ht4 : K.tgt e2 = (K.s e2, .inl ⟨b, 0, []⟩) := ht4
  have hap2 := (K.mineA e2 _ hm2).1
  unfold LW
  walk_nrm
  refine Aa z18 ?_
  refine Am 42 (.tmp 6) (.tmp 39) Ah (by rfl) (by decide) rfl (N + 1) #[.bool b, .int .i64 0, .slice none 0 0] _ 42 rfl rfl hb2 (by kernel_rfl) (by rfl) (by simp [Value.oneCell']) hap2 ?_
  walk_nrm
  refine Aa z18 ?_
  exact Eo K (a := ⟨b, 0, []⟩) (sl := .slice none 0 0) hm2 hb2 ht4 (GatL.nil K e2) (fun e' h h' => hk _ e' ⟨_, _, h, rfl, h', by simp⟩) func18 rfl ⟨rfl, rfl, rfl, rfl, rfl⟩
 have hbk3 : (ok == 3) = false := by simp [h3]
 simp only [hbk3]
 refine Aa z18 ?_
 by_cases h4 : ok = 4
 ·subst h4
  have ht3 : K.tgt e1 = (K.s e1, hiD n oa ob) := ht1
  refine Aa z18 ?_
  have hg := Db K (Lm (Fz K e1) (fz0 K e1) oa ob ht3)
  refine Bi (K := K.toLb) (e := e1) (l := fr :: l) (f := 55) (Q := fun x e' => ∃ h : Ml K e1 e', Pk (Fz K e1) x ⟨e', h⟩) ?_ Ah (by rfl) (by decide) rfl func55 (by kernel_rfl) (by rfl) ⟨rfl, rfl, _, func18⟩ (Bc hp hl) ?_
  ·walk_nrm
   exact hg
  rintro x e2 ⟨hkept, y, rfl, ht4⟩
  obtain ⟨hm2, hb2⟩ := hkept (N + 1) hmn
  rw [c2] at hb2
  clear hg
  replace ht4 : K.tgt e2 = (K.s e2, .inl ⟨true, y, []⟩) := ht4
  have hap2 := (K.mineA e2 _ hm2).1
  unfold LW
  walk_nrm
  refine Aa z18 ?_
  refine Am 42 (.tmp 6) (.tmp 49) Ah (by rfl) (by decide) rfl (N + 1) #[.bool true, .int .i64 y, .slice none 0 0] _ 42 rfl rfl hb2 (by kernel_rfl) (by rfl) (by simp [Value.oneCell']) hap2 ?_
  walk_nrm
  refine Aa z18 ?_
  exact Eo K (a := ⟨true, y, []⟩) (sl := .slice none 0 0) hm2 hb2 ht4 (GatL.nil K e2) (fun e' h h' => hk _ e' ⟨_, _, h, rfl, h', by simp⟩) func18 rfl ⟨rfl, rfl, rfl, rfl, rfl⟩
 have hbk4 : (ok == 4) = false := by simp [h4]
 simp only [hbk4]
 refine Aa z18 ?_
 by_cases h5 : ok = 5
 ·subst h5
  have ht3 : K.tgt e1 = (K.s e1, gbD n oa ob) := ht1
  refine Aa z18 ?_
  have hg := Db K (gather_s (Fz K e1) (fz0 K e1) oa ob ht3)
  refine Bi (K := K.toLb) (e := e1) (l := fr :: l) (f := 61) (Q := fun x e' => ∃ h : Ml K e1 e', Oy (Fz K e1) x ⟨e', h⟩) ?_ Ah (by rfl) (by decide) rfl func61 (by kernel_rfl) (by rfl) ⟨rfl, rfl, _, func18⟩ (Bc hp hl) ?_
  ·walk_nrm
   exact hg
  rintro x e2 ⟨hkept, sl, er, ls, rfl, hls, hln, ht4⟩
  obtain ⟨hm2, hb2⟩ := hkept (N + 1) hmn
  rw [c2] at hb2
  clear hg
  replace ht4 : K.tgt e2 = (K.s e2, .inl ⟨er == 0, er, ls⟩) := ht4
  have hls2 : GatL K e2 sl ls := ⟨hls.1, hls.2.1, fun b hb => (hls.2.2 b hb).1⟩
  obtain ⟨sa, sc, rfl⟩ := hls.1
  have hans := told_w (main := K.main) (V := K.V e2) 0 er (K.w e2) (K.newA e2)
  unfold LW
  walk_nrm
  refine Aa z18 ?_
  refine qW (Post := Gu 0 er (K.w e2)) func60 ?_ ?_
  ·walk_nrm
   exact hans
  rintro v w3 ⟨rfl, o3, z3⟩
  clear hans
  have hy : (if er = 0 then (0 : Int) else er) = er := by split <;> omega
  rw [hy]
  have lN : N + 1 < (K.w e2).heap.size := (aEs hb2).1
  walk_nrm
  (refine Wa ?_; try walk_nrm)
  have s4 : (w3.alloc (.cells #[.bool false, .int .i64 0, .slice none 0 0] 42)).heap.size = w3.heap.size + 1 := by simp
  have o4 : ∀ b, b < w3.heap.size -> (w3.alloc (.cells #[.bool false, .int .i64 0, .slice none 0 0] 42)).heap[b]? = w3.heap[b]? := fun b hb => Ad _ _ hb
  have d4 := hAw w3 (.cells #[.bool false, .int .i64 0, .slice none 0 0] 42)
  generalize hX4 : w3.heap.size = X at *
  generalize w3.alloc (.cells #[.bool false, .int .i64 0, .slice none 0 0] 42) = w4 at *
  obtain ⟨e3, m3⟩ := K.grow e2 (w' := w4) (by omega) (fun b hb => (o4 b (by omega)).trans (o3 b hb))
  have hm3 : K.mine e3 (N + 1) := (m3.mine _).2 (.inl hm2)
  have hmX : K.mine e3 X := m3.new (by omega) (by omega)
  have hb3 : (K.w e3).heap[N + 1]? = some (.cells #[.bool false, .int .i64 0, .slice none 0 0] 42) := by rw [m3.w]; exact (o4 _ (by omega)).trans ((o3 _ lN).trans hb2)
  have hX3 : (K.w e3).heap[X]? = some (.cells #[.bool false, .int .i64 0, .slice none 0 0] 42) := by rw [m3.w]; exact d4
  have ht5 : K.tgt e3 = (K.s e3, .inl ⟨er == 0, er, ls⟩) := by rw [m3.tgt, m3.s]; exact ht4
  have hls3 : GatL K e3 (.slice sa ls.length sc) ls := hls2.keep (fun b h => (m3.mine b).2 (.inl h)) fun b hb _ => by
   have hlt := (K.mineA e2 b hb).2.2
   rw [m3.w]
   exact (o4 b (by omega)).trans (o3 b hlt)
  have hNX : N + 1 ≠ X := by omega
  have hwe := m3.w
  refine Gb (l := fr :: l) m3 ?_
  unfold LW
  clear hb2 o3 z3 m3 ht4 hls hls2 s4 o4 d4 hX4
  subst hwe
  have hapX := (K.mineA e3 _ hmX).1
  refine Am 42 (.tmp 9) (.tmp 63) Ah (by rfl) (by decide) rfl X #[.bool (er == 0), .int .i64 er, .slice none 0 0] _ 42 rfl rfl hX3 (by kernel_rfl) (by rfl) (by simp [Value.oneCell']) hapX ?_
  have d5 := Ba (cells := #[.bool (er == 0), .int .i64 er, .slice none 0 0]) hX3
  have o5 : ∀ b, b ≠ X -> ((K.w e3).setRow X #[.bool (er == 0), .int .i64 er, .slice none 0 0]).heap[b]? = (K.w e3).heap[b]? := fun b hb => Ap _ _ hb
  have s5 := Ay (K.w e3) X #[.bool (er == 0), .int .i64 er, .slice none 0 0]
  generalize (K.w e3).setRow X #[.bool (er == 0), .int .i64 er, .slice none 0 0] = x5 at *
  walk_nrm
  refine Aa z18 ?_
  have g5 : x5.cell? ⟨X, 2, none⟩ = some (.slice none 0 0) := (Ab d5 2).trans rfl
  have y5 := Av d5 2
  (have hfr := hapX.1 ⟨X, 2, none⟩ rfl; refine Ws hfr g5 ?_; clear hfr; try walk_nrm)
  clear g5 y5
  have d6 : (x5.setCell ⟨X, 2, none⟩ (.slice sa ls.length sc)).heap[X]? = some (.cells #[.bool (er == 0), .int .i64 er, .slice sa ls.length sc] 42) := by
   rw [Ao _ _ d5]
   simp
  have o6 : ∀ b, b ≠ X -> (x5.setCell ⟨X, 2, none⟩ (.slice sa ls.length sc)).heap[b]? = (K.w e3).heap[b]? := fun b hb => (Ac _ _ _ _ hb).trans (o5 b hb)
  have s6 : (x5.setCell ⟨X, 2, none⟩ (.slice sa ls.length sc)).heap.size = (K.w e3).heap.size := (Ai _ _ _).trans s5
  generalize x5.setCell ⟨X, 2, none⟩ (.slice sa ls.length sc) = x6 at *
  obtain ⟨e4, m4⟩ := K.own e3 (w' := x6) (Nat.le_of_eq s6.symm) (fun b _ hbm => o6 b (fun he : b = X => hbm (by rw [he]; exact hmX)))
  have hm4 : K.mine e4 (N + 1) := (m4.mine _).2 (.inl hm3)
  have hb4 : (K.w e4).heap[N + 1]? = some (.cells #[.bool false, .int .i64 0, .slice none 0 0] 42) := by rw [m4.w]; exact (o6 _ hNX).trans hb3
  have ht6 : K.tgt e4 = (K.s e4, .inl ⟨er == 0, er, ls⟩) := by rw [m4.tgt, m4.s]; exact ht5
  have hls4 : GatL K e4 (.slice sa ls.length sc) ls := hls3.keep (fun b h => (m4.mine b).2 (.inl h)) fun b _ hb => by
   rw [m4.w]
   exact o6 b (hls3.ne hX3 b hb)
  have d7 : (K.w e4).heap[X]? = some (.cells #[.bool (er == 0), .int .i64 er, .slice sa ls.length sc] 42) := by rw [m4.w]; exact d6
  have hcb := fun fr' hfr => Eo K (F := 18) (fr := fr') (c := fr) (l := l) (a := ⟨er == 0, er, ls⟩) (sl := .slice sa ls.length sc) hm4 hb4 ht6 hls4 (fun e' h h' => hk _ e' ⟨_, _, h, rfl, h', hln⟩) func18 rfl hfr
  have hap4 := (K.mineA e4 _ hm4).1
  obtain ⟨fsA, huA⟩ := Ci 42 (by kernel_rfl)
  have hwe := m4.w
  refine Gb (l := fr :: l) m4 ?_
  unfold LW
  clear m4 d5 o5 s5 d6 o6 s6 hls3 hls4 ht5 ht6 hb3 hX3 hm3 hmX hapX hln
  subst hwe
  generalize ls.length = ln at *
  try walk_nrm
  refine Aa z18 ?_
  refine Walk.loadS 42 (.tmp 9) Ah (by rfl) (by decide) rfl X 0 [.bool (er == 0), .int .i64 er, .slice sa ln sc] (.struct fsA) rfl (fun j v hj => ?_) huA rfl (by kernel_rfl) ?_
  ·rw [Nat.zero_add, Ab d7]
   simpa using hj
  walk_nrm
  refine Am 42 (.tmp 6) (.tmp 66) Ah (by rfl) (by decide) rfl (N + 1) #[.bool (er == 0), .int .i64 er, .slice sa ln sc] _ 42 rfl rfl hb4 (by kernel_rfl) (by rfl) (by simp [Value.oneCell']) hap4 ?_
  walk_nrm
  refine Aa z18 ?_
  exact hcb _ ⟨rfl, rfl, rfl, rfl, rfl⟩
 have hbk5 : (ok == 5) = false := by simp [h5]
 simp only [hbk5]
 refine Aa z18 ?_
 have ht3 : K.tgt e1 = (K.s e1, .inl Qs) := ht1.trans (No _ _ _ h1 h2 h3 h4 h5)
 refine Aa z18 ?_
 refine Am 42 (.tmp 6) (.tmp 67) Ah (by rfl) (by decide) rfl (N + 1) #[.bool false, .int .i64 0, .slice none 0 0] _ 42 rfl rfl c2 (by kernel_rfl) (by rfl) (by simp [Value.oneCell']) hapN ?_
 walk_nrm
 refine Aa z18 ?_
 exact Eo K (a := Qs) (sl := .slice none 0 0) hmn c2 ht3 (GatL.nil K e1) (fun e' h h' => hk _ e' ⟨_, _, h, rfl, h', by simp [Qs]⟩) func18 rfl ⟨rfl, rfl, rfl, rfl, rfl⟩
end
def NumB (w : World) (B : Nat) (xs : List Int) : Prop := w.heap[B]? = some (.cells (xs.map fun z => Value.int .i64 z).toArray 2)
theorem NumB.cell {w : World} {B : Nat} {xs : List Int} (h : NumB w B xs) {j : Nat} {z : Int} (hj : xs[j]? = some z) : w.cell? ⟨B, j, none⟩ = some (.int .i64 z) := by
 refine (Ab h j).trans ?_
 simp [hj]
theorem NumB.frozen {w : World} {B : Nat} {xs : List Int} (h : NumB w B xs) (j : Nat) : w.frozen? ⟨B, j, none⟩ = false := Av h j
theorem NumB.set {w : World} {B : Nat} {xs : List Int} (h : NumB w B xs) (j : Nat) (z : Int) : NumB (w.setCell ⟨B, j, none⟩ (.int .i64 z)) B (xs.set j z) := by
 unfold NumB
 rw [Ao _ _ h]
 simp [List.map_set]
theorem NumB.same {w w' : World} {B : Nat} {xs : List Int} (h : NumB w B xs) (hb : w'.heap[B]? = w.heap[B]?) : NumB w' B xs := hb.trans h
theorem NumB.lt {w : World} {B : Nat} {xs : List Int} (h : NumB w B xs) : B < w.heap.size := (aEs h).1
theorem NumB.row {w : World} {B : Nat} {xs : List Int} (h : NumB w B xs) {base : Nat} (hb : base <= B) (hn : xs.length <= maxLen) : w.ownsRow base 2 1 (.slice (some ⟨B, 0, none⟩) xs.length xs.length) xs.length (xs.map fun z => .int .i64 z) :=
 ⟨by simp, .inr ⟨B, xs.length, _, rfl, hb, h, Nat.le_refl _, hn, by simp, by simpa using List.take_of_length_le (by simp)⟩⟩
theorem NumB.lsR {w : World} {B : Nat} {xs : List Int} (h : NumB w B xs) : LsR (.slice (some ⟨B, 0, none⟩) xs.length xs.length) xs w :=
 ⟨_, _, rfl, Nat.le_refl _, fun e => (by cases e), fun j z hj => ⟨B, 0, rfl, by rw [Nat.zero_add]; exact h.cell hj⟩⟩
theorem made_zero (n : Nat) : madeCells #[Value.int .i64 0] n = ((List.replicate n (0 : Int)).map fun z => Value.int .i64 z).toArray := by
 apply Array.ext'
 rw [toList_madeCells_one]
 simp
def Pd (l : List Int) (n : Nat) : List Int := l ++ List.replicate (n - l.length) 0
theorem padL_nil (n : Nat) : Pd [] n = List.replicate n 0 := rfl
theorem padL_full {l : List Int} {n : Nat} (h : l.length = n) : Pd l n = l := by simp [Pd, h]
theorem padL_set {l : List Int} {n : Nat} (h : l.length < n) (v : Int) : (Pd l n).set l.length v = Pd (l ++ [v]) n := by
 unfold Pd
 obtain ⟨m, hm⟩ : ∃ m, n - l.length = m + 1 := ⟨n - l.length - 1, by omega⟩
 have hm2 : n - (l ++ [v]).length = m := by simp; omega
 rw [hm, hm2, List.replicate_succ, List.set_append_right _ _ (Nat.le_refl _)]
 simp
theorem range_snoc (f : Nat -> Int) (j : Nat) : (List.range (j + 1)).map f = (List.range j).map f ++ [f j] := by simp [List.range_succ]
section
variable {P : Program} {main : Bool} {V : Nat -> Option Wait} {Stop : Goroutine -> World -> Prop} {b : Frame} {a : Act} {cs : List Frame} {w : World} {fn : Func} {todo : List Item} {c : Frame} {t s r : Tmp}
theorem Gt (hn : b.kind = .normal) (hd : a.defers = []) (hf : P.funcs[b.fn]? = some fn) (hr : fn.results = #[.tmp t, .tmp s, .tmp r]) (h : Walk P main (DR V) Stop (G (c.finish (.tuple #[a.tmps.getD t undef, a.tmps.getD s undef, a.tmps.getD r undef])) cs) w) : Walk P main (DR V) Stop (G { b.at a todo with mode := .returning } (c :: cs)) w :=
 Walk.ctl rfl (fun w => stepG_leave (v := .tuple #[a.tmps.getD t undef, a.tmps.getD s undef, a.tmps.getD r undef]) hn hd hf (by simp [results, hr]) (by simp [results, hr])) h
end
section
variable {main : Bool} {V : Nat -> Option Wait}
theorem step_nil (w : World) : Aw prog main V 112 #[.nilIface] w (.tuple #[]) w := by
 obtain ⟨ms, hu⟩ := Hs
 have hn1 := fun w => Dj (P := prog) (w := w) 130 hu
 have hn2 := fun w es => Dt (P := prog) (w := w) 130 es hu
 refine Aq func112 code112_is fun fr cs => ?_
 simp only [ntmps112, ez, Nat.reduceAdd, Nat.reduceSub]
 refine Aa z112 ?_
 exact Jd rfl rfl func112 rfl fun d => ⟨rfl, d, rfl⟩
theorem holds_nil (b q : Nat) (v : Int) (w : World) (hc : w.cell? ⟨b, q, none⟩ = some (.int .i64 v)) : Aw prog main V 139 #[.nilIface, .pointer (some ⟨b, q, none⟩)] w (.int .i64 v) w := by
 have hi1 := Hj
 have hi2 := In
 refine Aq func139 code139_is fun fr cs => ?_
 simp only [ntmps139, ez, Nat.reduceAdd, Nat.reduceSub]
 refine Aa z139 ?_
 refine qV (x := .tuple #[]) (W := w) func112 ?_ ?_
 ·walk_nrm
  exact step_nil w
 walk_nrm
 refine Aa z139 ?_
 refine Hn b q Ah (by rfl) (by decide) rfl rfl ?_
 refine (atLoad b q _ w hc _ _).then ?_
 rintro g' w' ⟨v', ⟨rfl, dd, rfl⟩, rfl⟩
 refine Walk.back ?_ dd
 refine Walk.finish Ah ?_
 walk_nrm
 refine Aa z139 ?_
 exact Ar rfl rfl func139 rfl fun d => ⟨rfl, d, rfl⟩
theorem load_nil (b q : Nat) (v : Int) (w : World) (hc : w.cell? ⟨b, q, none⟩ = some (.int .i64 v)) : Aw prog main V 90 #[.pointer (some ⟨b, q, none⟩), .nilIface] w (.int .i64 v) w := by
 have hp1 := fun w => Ce (P := prog) 183 Ft (some ⟨b, q, none⟩) w
 have hp2 := fun w es => Cp (P := prog) 183 Ft (some ⟨b, q, none⟩) w es
 simp only [Option.isNone_some] at hp1
 refine Aq func90 code90_is fun fr cs => ?_
 simp only [ntmps90, ez, Nat.reduceAdd, Nat.reduceSub]
 refine Aa z90 ?_
 refine qV (x := .int .i64 v) (W := w) func139 ?_ ?_
 ·walk_nrm
  exact holds_nil b q v w hc
 walk_nrm
 refine Aa z90 ?_
 exact Ar rfl rfl func90 rfl fun d => ⟨rfl, d, rfl⟩
noncomputable def reg66_0 := rk f66.body 0
noncomputable def reg66_1 := rk f66.body 1
theorem z66 : reg66_0.size = 1 /\ reg66_1.size = 3 := by and_intros <;> kernel_rfl
theorem code66_is : f66.body = some (.seq (.region 0 reg66_0 false) (.seq (.region 1 reg66_1 false) (.ret))) := by kernel_rfl
theorem value_nil (b q : Nat) (v : Int) (w : World) (hc : w.cell? ⟨b, q, none⟩ = some (.int .i64 v)) : Aw prog main V 66 #[.pointer (some ⟨b, q, none⟩)] w (.int .i64 v) w := by
 refine Aq func66 code66_is fun fr cs => ?_
 simp only [ntmps66, ez, Nat.reduceAdd, Nat.reduceSub]
 refine Aa z66 ?_
 refine qV (x := .int .i64 v) (W := w) func90 ?_ ?_
 ·walk_nrm
  exact load_nil b q v w hc
 walk_nrm
 refine Aa z66 ?_
 exact Ar rfl rfl func66 rfl fun d => ⟨rfl, d, rfl⟩
end
noncomputable def reg64_0 := rk f64.body 0
noncomputable def reg64_1 := rk f64.body 1
noncomputable def reg64_2 := rk f64.body 2
noncomputable def reg64_3 := rk f64.body 3
noncomputable def reg64_4 := rk f64.body 4
noncomputable def reg64_5 := rk f64.body 5
noncomputable def reg64_6 := rk f64.body 6
noncomputable def reg64_7 := rk f64.body 7
theorem z64 : reg64_0.size = 1 /\ reg64_1.size = 4 /\ reg64_2.size = 3 /\ reg64_3.size = 1 /\ reg64_4.size = 2 /\ reg64_5.size = 12 /\ reg64_6.size = 2 /\ reg64_7.size = 2 := by and_intros <;> kernel_rfl
theorem code64_is : f64.body = some (.seq (.region 0 reg64_0 false) (.seq (.region 1 reg64_1 false) (.seq (.seq (.region 2 reg64_2 false) (.block 0 (.loop (.seq (.region 3 reg64_3 false) (.seq (.cond (.tmp 13 ) (.skip) (.exit 0)) (.seq (.block 1 (.seq (.region 4 reg64_4 false) (.region 5 reg64_5 false))) (.region 6 reg64_6 false))))))) (.seq (.region 7 reg64_7 false) (.ret))))) := by kernel_rfl
noncomputable def reg24_0 := rk f24.body 0
noncomputable def reg24_1 := rk f24.body 1
theorem z24 : reg24_0.size = 1 /\ reg24_1.size = 3 := by and_intros <;> kernel_rfl
theorem code24_is : f24.body = some (.seq (.region 0 reg24_0 false) (.seq (.region 1 reg24_1 false) (.ret))) := by kernel_rfl
noncomputable def reg25_0 := rk f25.body 0
noncomputable def reg25_1 := rk f25.body 1
theorem z25 : reg25_0.size = 1 /\ reg25_1.size = 3 := by and_intros <;> kernel_rfl
theorem code25_is : f25.body = some (.seq (.region 0 reg25_0 false) (.seq (.region 1 reg25_1 false) (.ret))) := by kernel_rfl
noncomputable def reg65_0 := rk f65.body 0
noncomputable def reg65_1 := rk f65.body 1
theorem z65 : reg65_0.size = 1 /\ reg65_1.size = 5 := by and_intros <;> kernel_rfl
theorem code65_is : f65.body = some (.seq (.region 0 reg65_0 false) (.seq (.region 1 reg65_1 false) (.ret))) := by kernel_rfl
noncomputable def reg67_0 := rk f67.body 0
noncomputable def reg67_1 := rk f67.body 1
theorem z67 : reg67_0.size = 1 /\ reg67_1.size = 5 := by and_intros <;> kernel_rfl
theorem code67_is : f67.body = some (.seq (.region 0 reg67_0 false) (.seq (.region 1 reg67_1 false) (.ret))) := by kernel_rfl
noncomputable def hdEa (rb f N n j : Nat) (u : Nat -> Value) : Frame :=
 (base 64).at { tmps := #[.pointer (some ⟨rb, 0, none⟩), .func (.func f) #[] #[], u 2, u 3, .slice none 0 0, .slice (some ⟨N, 0, none⟩) n n, u 6, u 7, u 8, u 9, u 10, .int .i64 n, .int .i64 j, u 13, u 14, u 15, u 16, u 17, u 18, u 19, u 20, u 21, u 22, u 23, u 24, u 25, u 26, u 27], defers := [] } [.code (.seq (.region 3 reg64_3 false) (.seq (.cond (.tmp 13 ) (.skip) (.exit 0)) (.seq (.block 1 (.seq (.region 4 reg64_4 false) (.region 5 reg64_5 false))) (.region 6 reg64_6 false)))), .inLoop (.seq (.region 3 reg64_3 false) (.seq (.cond (.tmp 13 ) (.skip) (.exit 0)) (.seq (.block 1 (.seq (.region 4 reg64_4 false) (.region 5 reg64_5 false))) (.region 6 reg64_6 false)))), .inBlock 0, .code (.seq (.region 7 reg64_7 false) (.ret))]
section
variable {main : Bool} {V : Nat -> Option Wait} {rb sb n : Nat} {s : Rg}
theorem stamps1_w (w : World) (I : RgI rb sb n s w) (i : Nat) (hi : i < n) : Aw prog main V 65 #[.pointer (some ⟨sb, i * 2, none⟩)] w (.int .i64 (s.st i)) w := by
 have hv := value_nil (main := main) (V := V) sb (i * 2) (s.st i) w (I.rdS hi).1
 refine Aq func65 code65_is fun fr cs => ?_
 simp only [ntmps65, ez, Nat.reduceAdd, Nat.reduceSub]
 refine Aa z65 ?_
 refine qV (x := .int .i64 (s.st i)) (W := w) func66 ?_ ?_
 ·walk_nrm
  exact hv
 walk_nrm
 refine Aa z65 ?_
 exact Ar rfl rfl func65 rfl fun d => ⟨rfl, d, rfl⟩
theorem values1_w (w : World) (I : RgI rb sb n s w) (i : Nat) (hi : i < n) : Aw prog main V 67 #[.pointer (some ⟨sb, i * 2, none⟩)] w (.int .i64 (s.va i)) w := by
 have hv := value_nil (main := main) (V := V) sb (i * 2 + 1) (s.va i) w (I.rdV hi).1
 refine Aq func67 code67_is fun fr cs => ?_
 simp only [ntmps67, ez, Nat.reduceAdd, Nat.reduceSub]
 refine Aa z67 ?_
 refine qV (x := .int .i64 (s.va i)) (W := w) func66 ?_ ?_
 ·walk_nrm
  exact hv
 walk_nrm
 refine Aa z67 ?_
 exact Ar rfl rfl func67 rfl fun d => ⟨rfl, d, rfl⟩
end
end Go.Proofs.Ytflcclneedldoaa
