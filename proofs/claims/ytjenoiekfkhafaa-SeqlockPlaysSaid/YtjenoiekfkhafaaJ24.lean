/- Part 24. -/
import Derived.Test.YtjenoiekfkhafaaJ11
import Derived.Test.YtjenoiekfkhafaaJ12
import Derived.Test.YtjenoiekfkhafaaJ23
set_option linter.unusedSimpArgs false
set_option linter.unusedVariables false
set_option linter.unusedVariables false
set_option maxHeartbeats 8000000
set_option maxRecDepth 100000
namespace Go.Proofs.Ytjenoiekfkhafaa
open Go.Conc Go.RowKit Go.Relay
open Go.ConcN (upd upd_ne upd_same)
section
theorem ListOK.ne {L : La} {sv : Value} {K : Lg L sv} {e : K.E} {sl : Value} {ls : List Int} (h : ListOK K e sl ls) {R : Nat} {arr : Array Value} (hR : (K.w e).heap[R]? = some (.cells arr 44)) : ∀ b, sl.ownBlock = some b → b ≠ R := by
 rcases h with ⟨rfl, rfl⟩ | ⟨B, rfl, hm, hN⟩
 ·intro b hb; cases hb
 ·intro b hb e
  have hb : some B = some b := hb
  obtain rfl := Option.some.inj hb
  subst e
  unfold NumB at hN
  rw [hR] at hN
  simp at hN
theorem ListOK.keep {L : La} {sv : Value} {K : Lg L sv} {e e' : K.E} {sl : Value} {ls : List Int} (h : ListOK K e sl ls) (hm : ∀ b, K.mine e b → K.mine e' b) (hb : ∀ b, K.mine e b → sl.ownBlock = some b → (K.w e').heap[b]? = (K.w e).heap[b]?) : ListOK K e' sl ls := by
 rcases h with ⟨rfl, rfl⟩ | ⟨B, rfl, hB, hN⟩
 ·exact .inl ⟨rfl, rfl⟩
 ·exact .inr ⟨B, rfl, hm B hB, hN.same (hb B hB rfl)⟩
theorem cell_back {L : La} {sv : Value} (K : Lg L sv) {F : FuncId} {fn : Func} {e2 : K.E} {fr c : Frame} {l : List Frame} {R : Nat} {a : Ans} {sl : Value} (hm : K.mine e2 R) (hR : (K.w e2).heap[R]? = some (.cells #[.bool false, .int .i64 0, .slice none 0 0] 44))
  (ht : K.tgt e2 = (K.s e2, .inl a)) (hsl : ListOK K e2 sl a.l) (hk : ∀ e', K.tgt e' = (K.s e', .inl a) → ListOK K e' sl a.l → LW K.toLb e' (G (c.finish (ansV a sl)) (l ++ K.bot e')))
  (hF : Try.prog.funcs[F]? = some fn) (hres : fn.results = #[.cell 8 44]) (hfr : fr.mode = .returning ∧ fr.kind = .normal ∧ fr.defers = [] ∧ fr.fn = F ∧ fr.tmps.getD 8 undef = .pointer (some ⟨R, 0, none⟩)) :
  Walk Try.prog K.main (DR (K.V e2)) (K.Stop e2) (G fr (c :: (l ++ K.bot e2))) ((K.w e2).setRow R #[.bool a.ok, .int .i64 a.n, sl]) := by
 obtain ⟨h1, h2, h3, h4, h5⟩ := hfr
 obtain ⟨e3, m⟩ := K.own e2 (w' := (K.w e2).setRow R #[.bool a.ok, .int .i64 a.n, sl]) (by rw [setRow_size]; exact Nat.le_refl _) (fun b _ hbm => setRow_other _ _ (fun he : b = R => hbm (by rw [he]; exact hm)))
 have c9 := setRow_self (cells := #[.bool a.ok, .int .i64 a.n, sl]) hR
 refine Walk.onCell (T := R) h1 h2 h3 (by rw [h4]; exact hF) hres h5 c9 (by kernel_rfl) (by kernel_rfl) ?_
 refine LW.to m (hk e3 ?_ ?_)
 ·rw [m.tgt, m.s]
  exact ht
 ·refine hsl.keep (fun b h => (m.mine b).2 (.inl h)) fun b _ hb => ?_
  rw [m.w]
  exact setRow_other _ _ (hsl.ne hR b hb)
section
variable {lb k : Nat} {sv : Value}
theorem write_s (K : Lg (sqLa lb k) sv) (xs : Nat → Int) (e : K.E) (a : Int) (sl : Value) (vs : List Int) (hsl : LsR sl vs (K.w e)) (hxs : ValsIn k xs vs) (ht : K.tgt e = (K.s e, .inr (.w1 false (sqTr a) xs))) : SCall K.toLb 23 #[.pointer (some ⟨lb, 0, none⟩), sv, .int .i64 a, sl] e (ChOut K) := by
 intro fr l hp hl hk
 have he := fun (e1 : K.E) (N : Nat) (hN : K.mine e1 N) (hc : (K.w e1).heap[N]? = some (.cells #[sv] 90)) (hsl1 : LsR sl vs (K.w e1)) (h : K.tgt e1 = (K.s e1, .inr (.w1 false (sqTr a) xs))) =>
  SCall.fz K (change_s (Fz K e1) false xs 42 _ #[.pointer (some ⟨N, 0, none⟩)] Try.func42 (by kernel_rfl) (by rfl) (layW_ok (Fz K e1) N (fun e2 => ((e2.2 N hN).2).trans hc)) (fz0 K e1) a sl vs hsl1 hxs h)
 obtain ⟨sa, sc, rfl, hslr⟩ := hsl
 have hsl : LsR (.slice sa vs.length sc) vs (K.w e) := ⟨sa, sc, rfl, hslr⟩
 clear hslr
 generalize vs.length = vn at *
 unfold LW
 rw [enter_at _ Try.func23 code23_is]
 simp only [Try.ntmps23, ez, Nat.reduceAdd, Nat.reduceSub]
 refine Walk.gz z23 ?_
 (refine Walk.oa ?_; try walk_nrm)
 change Walk Try.prog K.main (DR (K.V e)) (K.Stop e) _ ((K.w e).alloc (.cells sv.cells 90))
 rw [K.one]
 have c1 := heap_alloc_new (K.w e) (.cells #[sv] 90)
 have s1 : ((K.w e).alloc (.cells #[sv] 90)).heap.size = (K.w e).heap.size + 1 := by simp
 have hsl1 := hsl.same (w' := (K.w e).alloc (.cells #[sv] 90)) (fun b hb' => heap_new_lt _ _ hb')
 obtain ⟨e1, m1⟩ := K.grow e (w' := (K.w e).alloc (.cells #[sv] 90)) (by omega) (fun b hb' => heap_new_lt _ _ hb')
 generalize hR : (K.w e).heap.size = R at *
 generalize (K.w e).alloc (.cells #[sv] 90) = w1 at *
 have hmR : K.mine e1 R := m1.new (by omega) (by omega)
 have ht1 : K.tgt e1 = (K.s e1, .inr (.w1 false (sqTr a) xs)) := by rw [m1.tgt, m1.s]; exact ht
 have d1 := (cell_of c1 0).trans rfl
 have hw1 := m1.w
 rw [← hw1] at c1 hsl1
 have h1 := he e1 R hmR c1 hsl1 ht1
 clear he hw1 c1 hsl1 hsl
 refine Walk.gz z23 ?_
 refine LW.to (l := fr :: l) m1 ?_
 refine LW.callS (K := K.toLb) (e := e1) (l := fr :: l) (f := 41) (Q := fun x e' => ∃ h : Kept K e1 e', ChOut (Fz K e1) x ⟨e', h⟩) ?_ hoA (by rfl) (by decide) rfl Try.func41 (by kernel_rfl) (by rfl) ⟨rfl, rfl, _, Try.func23⟩ (plain_cons hp hl) ?_
 ·walk_nrm
  exact h1
 rintro x e2 ⟨hkept, b, rfl, ht2⟩
 have hkk := hk (.bool b) e2 ⟨b, rfl, ht2⟩
 unfold LW at hkk ⊢
 walk_nrm
 refine Walk.gz z23 ?_
 exact Walk.on1 rfl rfl Try.func23 rfl hkk
theorem add_s (K : Lg (sqLa lb k) sv) (xs : Nat → Int) (e : K.E) (a : Int) (sl : Value) (vs : List Int) (hsl : LsR sl vs (K.w e)) (hxs : ValsIn k xs vs) (ht : K.tgt e = (K.s e, .inr (.w1 true (sqTr a) xs))) : SCall K.toLb 24 #[.pointer (some ⟨lb, 0, none⟩), sv, .int .i64 a, sl] e (ChOut K) := by
 intro fr l hp hl hk
 have he := fun (e1 : K.E) (N : Nat) (hN : K.mine e1 N) (hc : (K.w e1).heap[N]? = some (.cells #[sv] 90)) (hsl1 : LsR sl vs (K.w e1)) (h : K.tgt e1 = (K.s e1, .inr (.w1 true (sqTr a) xs))) =>
  SCall.fz K (change_s (Fz K e1) true xs 43 _ #[.pointer (some ⟨N, 0, none⟩)] Try.func43 (by kernel_rfl) (by rfl) (layA_ok (Fz K e1) N (fun e2 => ((e2.2 N hN).2).trans hc)) (fz0 K e1) a sl vs hsl1 hxs h)
 obtain ⟨sa, sc, rfl, hslr⟩ := hsl
 have hsl : LsR (.slice sa vs.length sc) vs (K.w e) := ⟨sa, sc, rfl, hslr⟩
 clear hslr
 generalize vs.length = vn at *
 unfold LW
 rw [enter_at _ Try.func24 code24_is]
 simp only [Try.ntmps24, ez, Nat.reduceAdd, Nat.reduceSub]
 refine Walk.gz z24 ?_
 (refine Walk.oa ?_; try walk_nrm)
 change Walk Try.prog K.main (DR (K.V e)) (K.Stop e) _ ((K.w e).alloc (.cells sv.cells 90))
 rw [K.one]
 have c1 := heap_alloc_new (K.w e) (.cells #[sv] 90)
 have s1 : ((K.w e).alloc (.cells #[sv] 90)).heap.size = (K.w e).heap.size + 1 := by simp
 have hsl1 := hsl.same (w' := (K.w e).alloc (.cells #[sv] 90)) (fun b hb' => heap_new_lt _ _ hb')
 obtain ⟨e1, m1⟩ := K.grow e (w' := (K.w e).alloc (.cells #[sv] 90)) (by omega) (fun b hb' => heap_new_lt _ _ hb')
 generalize hR : (K.w e).heap.size = R at *
 generalize (K.w e).alloc (.cells #[sv] 90) = w1 at *
 have hmR : K.mine e1 R := m1.new (by omega) (by omega)
 have ht1 : K.tgt e1 = (K.s e1, .inr (.w1 true (sqTr a) xs)) := by rw [m1.tgt, m1.s]; exact ht
 have d1 := (cell_of c1 0).trans rfl
 have hw1 := m1.w
 rw [← hw1] at c1 hsl1
 have h1 := he e1 R hmR c1 hsl1 ht1
 clear he hw1 c1 hsl1 hsl
 refine Walk.gz z24 ?_
 refine LW.to (l := fr :: l) m1 ?_
 refine LW.callS (K := K.toLb) (e := e1) (l := fr :: l) (f := 41) (Q := fun x e' => ∃ h : Kept K e1 e', ChOut (Fz K e1) x ⟨e', h⟩) ?_ hoA (by rfl) (by decide) rfl Try.func41 (by kernel_rfl) (by rfl) ⟨rfl, rfl, _, Try.func24⟩ (plain_cons hp hl) ?_
 ·walk_nrm
  exact h1
 rintro x e2 ⟨hkept, b, rfl, ht2⟩
 have hkk := hk (.bool b) e2 ⟨b, rfl, ht2⟩
 unfold LW at hkk ⊢
 walk_nrm
 refine Walk.gz z24 ?_
 exact Walk.on1 rfl rfl Try.func24 rfl hkk
end
end
section
noncomputable def reg34_0 := rg Try.f34.body [0]
noncomputable def reg34_1 := rg Try.f34.body [1, 0, 0]
noncomputable def reg34_2 := rg Try.f34.body [1, 0, 1, 0, 0]
noncomputable def reg34_3 := rg Try.f34.body [1, 0, 1, 0, 1, 0, 0]
theorem size34_3 : reg34_3.size = 10 := by kernel_rfl
noncomputable def reg34_4 := rg Try.f34.body [1, 0, 1, 0, 1, 1, 0]
noncomputable def reg34_5 := rg Try.f34.body [1, 0, 1, 0, 1, 1, 1, 0, 0]
theorem size34_5 : reg34_5.size = 10 := by kernel_rfl
noncomputable def reg34_6 := rg Try.f34.body [1, 0, 1, 0, 1, 1, 1, 1, 0]
noncomputable def reg34_7 := rg Try.f34.body [1, 0, 1, 0, 1, 1, 1, 1, 1, 0, 0]
noncomputable def reg34_8 := rg Try.f34.body [1, 0, 1, 0, 1, 1, 1, 1, 1, 0, 1, 0]
noncomputable def reg34_9 := rg Try.f34.body [1, 0, 1, 0, 1, 1, 1, 1, 1, 1, 0]
noncomputable def reg34_10 := rg Try.f34.body [1, 0, 1, 0, 1, 1, 1, 1, 1, 1, 1, 0, 0]
noncomputable def reg34_11 := rg Try.f34.body [1, 0, 1, 0, 1, 1, 1, 1, 1, 1, 1, 1, 0]
noncomputable def reg34_12 := rg Try.f34.body [1, 0, 1, 0, 1, 1, 1, 1, 1, 1, 1, 1, 1, 0, 0]
noncomputable def reg34_13 := rg Try.f34.body [1, 0, 1, 0, 1, 1, 1, 1, 1, 1, 1, 1, 1, 0, 1, 0]
noncomputable def reg34_14 := rg Try.f34.body [1, 1, 0]
theorem z34 : List.range reg34_0.size = [0, 1] ∧ List.range reg34_1.size = [0, 1] ∧ List.range reg34_2.size = [0, 1] ∧ List.range reg34_3.size = [0, 1, 2, 3, 4, 5, 6, 7, 8, 9] ∧ List.range reg34_4.size = [0, 1] ∧ List.range reg34_5.size = [0, 1, 2, 3, 4, 5, 6, 7, 8, 9] ∧ List.range reg34_6.size = [0, 1] ∧ List.range reg34_7.size = [0, 1, 2, 3, 4, 5, 6, 7, 8, 9] ∧ List.range reg34_8.size = [0, 1, 2, 3] ∧ List.range reg34_9.size = [0, 1] ∧ List.range reg34_10.size = [0, 1, 2, 3, 4] ∧ List.range reg34_11.size = [0, 1] ∧ List.range reg34_12.size = [0, 1, 2, 3, 4, 5, 6, 7, 8, 9] ∧ List.range reg34_13.size = [0, 1, 2, 3] ∧ List.range reg34_14.size = [0, 1] := by refine ⟨?_, ?_, ?_, ?_, ?_, ?_, ?_, ?_, ?_, ?_, ?_, ?_, ?_, ?_, ?_⟩ <;> kernel_rfl
theorem code34_is : Try.f34.body = some (.seq (.region 0 reg34_0 false) (.seq (.seq (.region 1 reg34_1 false) (.block 0 (.seq (.region 2 reg34_2 false) (.cond (.tmp 15 ) (.seq (.region 3 reg34_3 true) (.ret)) (.seq (.region 4 reg34_4 false) (.cond (.tmp 26 ) (.seq (.region 5 reg34_5 true) (.ret)) (.seq (.region 6 reg34_6 false) (.cond (.tmp 37 ) (.seq (.region 7 reg34_7 false) (.seq (.region 8 reg34_8 false) (.ret))) (.seq (.region 9 reg34_9 false) (.cond (.tmp 50 ) (.seq (.region 10 reg34_10 false) (.ret)) (.seq (.region 11 reg34_11 false) (.cond (.tmp 56 ) (.seq (.region 12 reg34_12 false) (.seq (.region 13 reg34_13 false) (.ret))) (.skip))))))))))))) (.seq (.region 14 reg34_14 false) (.ret)))) := by kernel_rfl
section
variable {lb k : Nat} {sv : Value}
def tmD (lb : Nat) (sv : Value) (X R : Nat) (u : Nat → Value) : Array Value := #[.pointer (some ⟨lb, 0, none⟩), sv, u 2, u 3, u 4, u 5, u 6, .pointer (some ⟨X, 0, none⟩), .pointer (some ⟨R, 0, none⟩), u 9, u 10, u 11, u 12, u 13, u 14, u 15, u 16, u 17, u 18, u 19, u 20, u 21, u 22, u 23, u 24, u 25, u 26, u 27, u 28, u 29, u 30, u 31, u 32, u 33, u 34, u 35, u 36, u 37, u 38, u 39, u 40, u 41, u 42, u 43, u 44, u 45, u 46, u 47, u 48, u 49, u 50, u 51, u 52, u 53, u 54, u 55, u 56, u 57, u 58, u 59, u 60, u 61, u 62, u 63, u 64, u 65, u 66, u 67, u 68, u 69]
def DoPh (K : Lg (sqLa lb k) sv) (ad : Bool) (o : OpV) (X R d6 d7 d8 : Nat) (f : Nat → Bool) (u : Nat → Value) (e : K.E) (w' : World) : Prop :=
 (f 7 = false ∧ f 8 = false ∧ f 9 = false ∧ K.tgt e = (K.s e, .inr (.w1 ad (sqTr o.a) (sqVal o))) ∧ (K.w e).heap[X]? = some (.cells #[.int .i64 o.k, .int .i64 o.a, .int .i64 o.b, .int .i64 o.c] 47) ∧ K.mine e R ∧ (K.w e).heap[R]? = some (.cells #[.bool false, .int .i64 0, .slice none 0 0] 44) ∧ (∃ d, w' = (K.w e).at d) ∧
  (f 6 = true → ∃ B, u d6 = .slice (some ⟨B, 0, none⟩) (k + 1) (k + 1) ∧ NumB (K.w e) B ((List.range (k + 1)).map (sqVal o)))) ∨
 (f 7 = true ∧ ∃ b, (f 8 = false → u d7 = .bool b) ∧ (f 8 = true → u d8 = .agg #[.bool b, .int .i64 0, .slice none 0 0]) ∧ K.tgt e = (K.s e, .inl ⟨b, 0, []⟩) ∧ K.mine e R ∧ (K.w e).heap[R]? = some (.cells #[.bool false, .int .i64 0, .slice none 0 0] 44) ∧
  ((f 9 = false ∧ ∃ d, w' = (K.w e).at d) ∨ (f 9 = true ∧ ∃ d, w' = ((K.w e).setRow R #[.bool b, .int .i64 0, .slice none 0 0]).at d)))
variable {K : Lg (sqLa lb k) sv} {ad : Bool} {o : OpV} {X R d6 d7 d8 : Nat} {f : Nat → Bool} {u : Nat → Value} {e : K.E} {w' : World}
theorem DoPh.quiet {j d : Nat} {v : Value} (h : DoPh K ad o X R d6 d7 d8 f u e w') (hj : j ≠ 6 ∧ j ≠ 7 ∧ j ≠ 8 ∧ j ≠ 9) (hd : d ≠ d6 ∧ d ≠ d7 ∧ d ≠ d8) : DoPh K ad o X R d6 d7 d8 (upd f j true) (upd u d v) e w' := by
 unfold DoPh
 rw [upd_ne f true (Ne.symm hj.1), upd_ne f true (Ne.symm hj.2.1), upd_ne f true (Ne.symm hj.2.2.1), upd_ne f true (Ne.symm hj.2.2.2), upd_ne u v (Ne.symm hd.1), upd_ne u v (Ne.symm hd.2.1), upd_ne u v (Ne.symm hd.2.2)]
 exact h
theorem DoPh.early (h : DoPh K ad o X R d6 d7 d8 f u e w') (h7 : f 7 = false) : w'.heap[X]? = some (.cells #[.int .i64 o.k, .int .i64 o.a, .int .i64 o.b, .int .i64 o.c] 47) := by
 rcases h with ⟨_, _, _, _, hX, _, _, ⟨d, rfl⟩, _⟩ | ⟨h, _⟩
 ·exact hX
 ·rw [h7] at h; cases h
variable {fr : Frame} {l : List Frame}
theorem doW_reg (K : Lg (sqLa lb k) sv) (o : OpV) (X R : Nat) (hp : Plain fr) (hl : ∀ f ∈ l, Plain f) (e0 : K.E) (A : Array Value) (hA : A = tmD lb sv X R (fun j => A.getD j undef)) (hX : (K.w e0).heap[X]? = some (.cells #[.int .i64 o.k, .int .i64 o.a, .int .i64 o.b, .int .i64 o.c] 47)) (hmR : K.mine e0 R) (hR : (K.w e0).heap[R]? = some (.cells #[.bool false, .int .i64 0, .slice none 0 0] 44)) (ht : K.tgt e0 = (K.s e0, .inr (.w1 false (sqTr o.a) (sqVal o)))) (kk : List Item)
  (hk : ∀ (u : Nat → Value) (e : K.E) b, K.tgt e = (K.s e, .inl ⟨b, 0, []⟩) → K.mine e R → (K.w e).heap[R]? = some (.cells #[.bool false, .int .i64 0, .slice none 0 0] 44) → Walk Try.prog K.main (DR (K.V e)) (K.Stop e) (G ((base 34).at ⟨tmD lb sv X R u, []⟩ (.inRegion reg34_3 [] :: kk)) (fr :: (l ++ K.bot e))) ((K.w e).setRow R #[.bool b, .int .i64 0, .slice none 0 0])) :
  Walk Try.prog K.main (DR (K.V e0)) (K.Stop e0) (G ((base 34).at ⟨A, []⟩ (.code (.region 3 reg34_3 true) :: kk)) (fr :: (l ++ K.bot e0))) (K.w e0) := by
 obtain ⟨fsO, huO⟩ := structT 47 (by kernel_rfl)
 rw [hA]
 generalize (fun j => A.getD j undef) = u0
 clear hA
 refine Walk.drawnE (E := K.E × World) (V := fun x => K.V x.1) (Stop := fun x => K.Stop x.1) (cs := fun x => fr :: (l ++ K.bot x.1)) (w := fun x => x.2)
  (Inv := fun f a x => ∃ u, a = ⟨tmD lb sv X R u, []⟩ ∧ Facts [17, 18, 19, 20, 21, 22, 1006, 1007, 1008, 1009] [.pointer (some ⟨lb, 0, none⟩), sv, .pointer (some ⟨X, 1, none⟩), .int .i64 o.a, .pointer (some ⟨lb, 0, none⟩), opVal o, undef, undef, undef, undef] f u ∧ DoPh K false o X R 23 24 25 f u x.1 x.2) (e0, K.w e0) (by kernel_rfl) (by kernel_rfl)
  ⟨u0, rfl, Facts.none _ _ _, .inl ⟨rfl, rfl, rfl, ht, hX, hmR, hR, ⟨(K.w e0).drawn, rfl⟩, fun h => (by cases h)⟩⟩ ?_ ?_
 ·rintro f oi op a ⟨e, w'⟩ ⟨u, rfl, F, hw⟩ hC hfi ho hdeps rest hr
  dsimp only at hw hr ⊢
  have hil : oi < 10 := (Array.getElem?_eq_some_iff.1 ho).1
  match oi, hil with
  | 0, _ =>
   have h7 : f 7 = false := by
    cases h : f 7 with
    | false => rfl
    | true =>
     have h7_0 := (hC.deps (l := [0]) h (by kernel_rfl)) 0 (by simp)
     rw [hfi] at h7_0; cases h7_0
   have hX := hw.early h7
   clear hdeps ho hC hfi
   simp only [tmD] at hr ⊢
   (refine Walk.oq ?_; try walk_nrm)
   refine hr _ (e, w') ⟨upd u 17 (.pointer (some ⟨lb, 0, none⟩)), ?_, F.set (by decide) rfl rfl, hw.quiet (by decide) (by decide)⟩
   simp [tmD, upd]
  | 1, _ =>
   have h7 : f 7 = false := by
    cases h : f 7 with
    | false => rfl
    | true =>
     have h7_1 := (hC.deps (l := [1]) h (by kernel_rfl)) 1 (by simp)
     rw [hfi] at h7_1; cases h7_1
   have hX := hw.early h7
   clear hdeps ho hC hfi
   simp only [tmD] at hr ⊢
   (refine Walk.oq ?_; try walk_nrm)
   refine hr _ (e, w') ⟨upd u 18 (sv), ?_, F.set (by decide) rfl rfl, hw.quiet (by decide) (by decide)⟩
   simp [tmD, upd]
  | 2, _ =>
   have h7 : f 7 = false := by
    cases h : f 7 with
    | false => rfl
    | true =>
     have h7_3 := (hC.deps (l := [3]) h (by kernel_rfl)) 3 (by simp)
     have h3_2 := (hC.deps (l := [2]) h7_3 (by kernel_rfl)) 2 (by simp)
     rw [hfi] at h3_2; cases h3_2
   have hX := hw.early h7
   clear hdeps ho hC hfi
   simp only [tmD] at hr ⊢
   (refine Walk.oq ?_; try walk_nrm)
   refine hr _ (e, w') ⟨upd u 19 (.pointer (some ⟨X, 1, none⟩)), ?_, F.set (by decide) rfl rfl, hw.quiet (by decide) (by decide)⟩
   simp [tmD, upd]
  | 3, _ =>
   have h7 : f 7 = false := by
    cases h : f 7 with
    | false => rfl
    | true =>
     have h7_3 := (hC.deps (l := [3]) h (by kernel_rfl)) 3 (by simp)
     rw [hfi] at h7_3; cases h7_3
   have hX := hw.early h7
   have hdd := deps_of (l := [2]) (by kernel_rfl) ho hdeps
   have e19 := F 2 19 _ (hdd 2 (by simp)) rfl rfl
   have cX := (cell_of hX 1).trans rfl
   clear hdd
   clear hdeps ho hC hfi
   simp only [tmD] at hr ⊢
   (refine Walk.oq ?_; try walk_nrm)
   refine hr _ (e, w') ⟨upd u 20 (.int .i64 o.a), ?_, F.set (by decide) rfl rfl, hw.quiet (by decide) (by decide)⟩
   simp [tmD, upd, e19]
  | 4, _ =>
   have h7 : f 7 = false := by
    cases h : f 7 with
    | false => rfl
    | true =>
     have h7_6 := (hC.deps (l := [6]) h (by kernel_rfl)) 6 (by simp)
     have h6_4 := (hC.deps (l := [4]) h7_6 (by kernel_rfl)) 4 (by simp)
     rw [hfi] at h6_4; cases h6_4
   have hX := hw.early h7
   clear hdeps ho hC hfi
   simp only [tmD] at hr ⊢
   (refine Walk.oq ?_; try walk_nrm)
   refine hr _ (e, w') ⟨upd u 21 (.pointer (some ⟨lb, 0, none⟩)), ?_, F.set (by decide) rfl rfl, hw.quiet (by decide) (by decide)⟩
   simp [tmD, upd]
  | 5, _ =>
   have h7 : f 7 = false := by
    cases h : f 7 with
    | false => rfl
    | true =>
     have h7_6 := (hC.deps (l := [6]) h (by kernel_rfl)) 6 (by simp)
     have h6_5 := (hC.deps (l := [5]) h7_6 (by kernel_rfl)) 5 (by simp)
     rw [hfi] at h6_5; cases h6_5
   have hX := hw.early h7
   clear hdeps ho hC hfi
   simp only [tmD] at hr ⊢
   refine Walk.loadS 47 (.tmp 7) hoA (by rfl) (by decide) rfl X 0 [.int .i64 o.k, .int .i64 o.a, .int .i64 o.b, .int .i64 o.c] (.struct fsO) rfl (fun j v hj => ?_) huO rfl (by kernel_rfl) ?_
   ·rw [Nat.zero_add, cell_of hX]
    simpa using hj
   walk_nrm
   refine hr _ (e, w') ⟨upd u 22 (opVal o), ?_, F.set (by decide) rfl rfl, hw.quiet (by decide) (by decide)⟩
   simp [tmD, upd, opVal]
  | 6, _ =>
   have hdd := deps_of (l := [4, 5]) (by kernel_rfl) ho hdeps
   have e21 := F 4 21 _ (hdd 4 (by simp)) rfl rfl
   have e22 := F 5 22 _ (hdd 5 (by simp)) rfl rfl
   have h7 : f 7 = false := by
    cases h : f 7 with
    | false => rfl
    | true =>
     have h6 := (hC.deps (l := [6]) h (by kernel_rfl)) 6 (by simp)
     rw [hfi] at h6; cases h6
   rcases hw with ⟨_, h8, h9, htE, hX, hmR, hR, ⟨dd, rfl⟩, _⟩ | ⟨h, _⟩
   rotate_left
   ·rw [h7] at h; cases h
   refine Walk.back ?_ dd
   clear hdeps ho hC hdd
   have hv := values_w (main := K.main) (V := K.V e) o (K.w e) (K.inv e) (fun b hb => K.newA e b hb)
   simp only [tmD] at hr ⊢
   refine Walk.callW (Post := NewNum ((List.range (k + 1)).map (sqVal o)) (K.w e)) ?_ hoA (by rfl) (by decide) rfl Try.func51 (by kernel_rfl) (by rfl) ?_
   ·walk_nrm
    simp only [e21, e22]
    exact hv
   rintro v w1 ⟨B, rfl, hB1, hB2, hN, hold, hsz⟩
   obtain ⟨e1, m1⟩ := K.grow e (w' := w1) hsz hold
   have hXl : X < (K.w e).heap.size := (Array.getElem?_eq_some_iff.1 hX).1
   have hRl : R < (K.w e).heap.size := (Array.getElem?_eq_some_iff.1 hR).1
   refine LW.to (l := fr :: l) m1 ?_
   unfold LW
   have hlen : ((List.range (k + 1)).map (sqVal o)).length = k + 1 := by simp
   rw [hlen]
   walk_nrm
   refine hr _ (e1, K.w e1) ⟨upd (upd u 1006 undef) 23 (.slice (some ⟨B, 0, none⟩) (k + 1) (k + 1)), ?_, Facts.other (F.set (by decide) rfl rfl) (by decide), .inl ⟨by rw [upd_ne _ _ (by decide)]; exact h7, by rw [upd_ne _ _ (by decide)]; exact h8, by rw [upd_ne _ _ (by decide)]; exact h9, by rw [m1.tgt, m1.s]; exact htE, by rw [m1.w, hold X hXl]; exact hX, (m1.mine R).2 (.inl hmR), by rw [m1.w, hold R hRl]; exact hR, ⟨(K.w e1).drawn, rfl⟩, fun _ => ⟨B, upd_same _ _ _, by rw [m1.w]; exact hN⟩⟩⟩
   simp [tmD, upd, e21, e22]
  | 7, _ =>
   have hdd := deps_of (l := [0, 1, 3, 6]) (by kernel_rfl) ho hdeps
   have e17 := F 0 17 _ (hdd 0 (by simp)) rfl rfl
   have e18 := F 1 18 _ (hdd 1 (by simp)) rfl rfl
   have e20 := F 3 20 _ (hdd 3 (by simp)) rfl rfl
   have h6 := hdd 6 (by simp)
   rcases hw with ⟨_, h8, h9, htE, hX, hmR, hR, ⟨dd, rfl⟩, hB⟩ | ⟨h, _⟩
   rotate_left
   ·rw [hfi] at h; cases h
   obtain ⟨B, e23, hN⟩ := hB h6
   refine Walk.back ?_ dd
   clear hdeps ho hC hdd
   have hlen : ((List.range (k + 1)).map (sqVal o)).length = k + 1 := by simp
   have hsl := hN.lsR
   rw [hlen] at hsl
   have hvi : ValsIn k (sqVal o) ((List.range (k + 1)).map (sqVal o)) := fun i hi => by
    rw [List.take_of_length_le (by simp), padL_full hlen]
    simp [List.getElem?_range (show i < k + 1 by omega)]
   have hcall := SCall.fz K (write_s (Fz K e) (sqVal o) (fz0 K e) o.a (.slice (some ⟨B, 0, none⟩) (k + 1) (k + 1)) ((List.range (k + 1)).map (sqVal o)) hsl hvi htE)
   simp only [tmD] at hr ⊢
   refine (?_ : LW K.toLb e (G _ ((fr :: l) ++ K.bot e)))
   refine LW.callS (f := 23) (Q := fun x e' => ∃ h : Kept K e e', ChOut (Fz K e) x ⟨e', h⟩) ?_ hoA (by rfl) (by decide) rfl Try.func23 (by kernel_rfl) (by rfl) ⟨rfl, rfl, _, Try.func34⟩ (plain_cons hp hl) ?_
   ·walk_nrm
    simp only [e17, e18, e20, e23]
    exact hcall
   rintro v e2 ⟨hkept, b, rfl, ht2⟩
   obtain ⟨hm2, hb2⟩ := hkept R hmR
   unfold LW
   walk_nrm
   refine hr _ (e2, K.w e2) ⟨upd (upd u 1007 undef) 24 (.bool b), ?_, Facts.other (F.set (by decide) rfl rfl) (by decide), .inr ⟨upd_same _ _ _, b, fun _ => upd_same _ _ _, fun h => ?_, ht2, hm2, hb2.trans hR, .inl ⟨by rw [upd_ne _ _ (by decide)]; exact h9, (K.w e2).drawn, rfl⟩⟩⟩
   ·simp [tmD, upd, e17, e18, e20, e23]
   ·rw [upd_ne _ _ (by decide), h8] at h; cases h
  | 8, _ =>
   have h7 := (deps_of (l := [7]) (by kernel_rfl) ho hdeps) 7 (by simp)
   rcases hw with ⟨h, _⟩ | ⟨_, b, hb, _, htE, hmR, hR, ⟨h9, dd, rfl⟩ | ⟨h9, _⟩⟩
   ·rw [h7] at h; cases h
   rotate_left
   ·have h8 := (hC.deps (l := [8]) h9 (by kernel_rfl)) 8 (by simp)
    rw [hfi] at h8; cases h8
   replace hb := hb hfi
   refine Walk.back ?_ dd
   clear hdeps ho hC
   simp only [tmD, hb] at hr ⊢
   (refine Walk.oq ?_; try walk_nrm)
   refine hr _ (e, K.w e) ⟨upd (upd u 1008 undef) 25 (.agg #[.bool b, .int .i64 0, .slice none 0 0]), ?_, Facts.other (F.set (by decide) rfl rfl) (by decide), .inr ⟨by rw [upd_ne _ _ (by decide)]; exact h7, b, fun h => ?_, fun _ => upd_same _ _ _, htE, hmR, hR, .inl ⟨by rw [upd_ne _ _ (by decide)]; exact h9, (K.w e).drawn, rfl⟩⟩⟩
   ·simp [tmD, upd, hb]
   ·rw [upd_same] at h; cases h
  | 9, _ =>
   have hdd := deps_of (l := [7, 8]) (by kernel_rfl) ho hdeps
   have h7 := hdd 7 (by simp)
   have h8 := hdd 8 (by simp)
   rcases hw with ⟨h, _⟩ | ⟨_, b, _, hb, htE, hmR, hR, ⟨h9, dd, rfl⟩ | ⟨h9, _⟩⟩
   ·rw [h7] at h; cases h
   rotate_left
   ·rw [hfi] at h9; cases h9
   replace hb := hb h8
   refine Walk.back ?_ dd
   have hap := (K.mineA e _ hmR).1
   clear hdeps ho hC hdd
   simp only [tmD, hb] at hr ⊢
   refine Walk.storeS 44 (.tmp 8) (.tmp 25) hoA (by rfl) (by decide) rfl R #[.bool b, .int .i64 0, .slice none 0 0] _ 44 rfl rfl hR (by kernel_rfl) (by rfl) (by simp [Value.oneCell']) hap ?_
   walk_nrm
   refine hr _ (e, (K.w e).setRow R #[.bool b, .int .i64 0, .slice none 0 0]) ⟨upd u 1009 undef, ?_, F.set (by decide) rfl rfl, .inr ⟨by rw [upd_ne _ _ (by decide)]; exact h7, b, fun h => ?_, fun _ => by rw [upd_ne _ _ (by decide)]; exact hb, htE, hmR, hR, .inr ⟨upd_same _ _ _, ((K.w e).setRow R #[.bool b, .int .i64 0, .slice none 0 0]).drawn, rfl⟩⟩⟩
   ·simp [tmD, upd, hb]
   ·rw [upd_ne _ _ (by decide), h8] at h; cases h
 ·rintro f a ⟨e, w'⟩ ⟨u, rfl, F, hw⟩ hall
  have hsz : reg34_3.size = 10 := size34_3
  rcases hw with ⟨h, _⟩ | ⟨_, b, _, hb, htE, hmR, hR, ⟨h9, _⟩ | ⟨_, dd, hw'⟩⟩
  ·rw [hall 7 (by omega)] at h; cases h
  ·rw [hall 9 (by omega)] at h9; cases h9
  ·dsimp only at hw' ⊢
   subst hw'
   exact Walk.back (hk u e b htE hmR hR) dd
theorem doA_reg (K : Lg (sqLa lb k) sv) (o : OpV) (X R : Nat) (hp : Plain fr) (hl : ∀ f ∈ l, Plain f) (e0 : K.E) (A : Array Value) (hA : A = tmD lb sv X R (fun j => A.getD j undef)) (hX : (K.w e0).heap[X]? = some (.cells #[.int .i64 o.k, .int .i64 o.a, .int .i64 o.b, .int .i64 o.c] 47)) (hmR : K.mine e0 R) (hR : (K.w e0).heap[R]? = some (.cells #[.bool false, .int .i64 0, .slice none 0 0] 44)) (ht : K.tgt e0 = (K.s e0, .inr (.w1 true (sqTr o.a) (sqVal o)))) (kk : List Item)
  (hk : ∀ (u : Nat → Value) (e : K.E) b, K.tgt e = (K.s e, .inl ⟨b, 0, []⟩) → K.mine e R → (K.w e).heap[R]? = some (.cells #[.bool false, .int .i64 0, .slice none 0 0] 44) → Walk Try.prog K.main (DR (K.V e)) (K.Stop e) (G ((base 34).at ⟨tmD lb sv X R u, []⟩ (.inRegion reg34_5 [] :: kk)) (fr :: (l ++ K.bot e))) ((K.w e).setRow R #[.bool b, .int .i64 0, .slice none 0 0])) :
  Walk Try.prog K.main (DR (K.V e0)) (K.Stop e0) (G ((base 34).at ⟨A, []⟩ (.code (.region 5 reg34_5 true) :: kk)) (fr :: (l ++ K.bot e0))) (K.w e0) := by
 obtain ⟨fsO, huO⟩ := structT 47 (by kernel_rfl)
 rw [hA]
 generalize (fun j => A.getD j undef) = u0
 clear hA
 refine Walk.drawnE (E := K.E × World) (V := fun x => K.V x.1) (Stop := fun x => K.Stop x.1) (cs := fun x => fr :: (l ++ K.bot x.1)) (w := fun x => x.2)
  (Inv := fun f a x => ∃ u, a = ⟨tmD lb sv X R u, []⟩ ∧ Facts [28, 29, 30, 31, 32, 33, 1006, 1007, 1008, 1009] [.pointer (some ⟨lb, 0, none⟩), sv, .pointer (some ⟨X, 1, none⟩), .int .i64 o.a, .pointer (some ⟨lb, 0, none⟩), opVal o, undef, undef, undef, undef] f u ∧ DoPh K true o X R 34 35 36 f u x.1 x.2) (e0, K.w e0) (by kernel_rfl) (by kernel_rfl)
  ⟨u0, rfl, Facts.none _ _ _, .inl ⟨rfl, rfl, rfl, ht, hX, hmR, hR, ⟨(K.w e0).drawn, rfl⟩, fun h => (by cases h)⟩⟩ ?_ ?_
 ·rintro f oi op a ⟨e, w'⟩ ⟨u, rfl, F, hw⟩ hC hfi ho hdeps rest hr
  dsimp only at hw hr ⊢
  have hil : oi < 10 := (Array.getElem?_eq_some_iff.1 ho).1
  match oi, hil with
  | 0, _ =>
   have h7 : f 7 = false := by
    cases h : f 7 with
    | false => rfl
    | true =>
     have h7_0 := (hC.deps (l := [0]) h (by kernel_rfl)) 0 (by simp)
     rw [hfi] at h7_0; cases h7_0
   have hX := hw.early h7
   clear hdeps ho hC hfi
   simp only [tmD] at hr ⊢
   (refine Walk.oq ?_; try walk_nrm)
   refine hr _ (e, w') ⟨upd u 28 (.pointer (some ⟨lb, 0, none⟩)), ?_, F.set (by decide) rfl rfl, hw.quiet (by decide) (by decide)⟩
   simp [tmD, upd]
  | 1, _ =>
   have h7 : f 7 = false := by
    cases h : f 7 with
    | false => rfl
    | true =>
     have h7_1 := (hC.deps (l := [1]) h (by kernel_rfl)) 1 (by simp)
     rw [hfi] at h7_1; cases h7_1
   have hX := hw.early h7
   clear hdeps ho hC hfi
   simp only [tmD] at hr ⊢
   (refine Walk.oq ?_; try walk_nrm)
   refine hr _ (e, w') ⟨upd u 29 (sv), ?_, F.set (by decide) rfl rfl, hw.quiet (by decide) (by decide)⟩
   simp [tmD, upd]
  | 2, _ =>
   have h7 : f 7 = false := by
    cases h : f 7 with
    | false => rfl
    | true =>
     have h7_3 := (hC.deps (l := [3]) h (by kernel_rfl)) 3 (by simp)
     have h3_2 := (hC.deps (l := [2]) h7_3 (by kernel_rfl)) 2 (by simp)
     rw [hfi] at h3_2; cases h3_2
   have hX := hw.early h7
   clear hdeps ho hC hfi
   simp only [tmD] at hr ⊢
   (refine Walk.oq ?_; try walk_nrm)
   refine hr _ (e, w') ⟨upd u 30 (.pointer (some ⟨X, 1, none⟩)), ?_, F.set (by decide) rfl rfl, hw.quiet (by decide) (by decide)⟩
   simp [tmD, upd]
  | 3, _ =>
   have h7 : f 7 = false := by
    cases h : f 7 with
    | false => rfl
    | true =>
     have h7_3 := (hC.deps (l := [3]) h (by kernel_rfl)) 3 (by simp)
     rw [hfi] at h7_3; cases h7_3
   have hX := hw.early h7
   have hdd := deps_of (l := [2]) (by kernel_rfl) ho hdeps
   have e30 := F 2 30 _ (hdd 2 (by simp)) rfl rfl
   have cX := (cell_of hX 1).trans rfl
   clear hdd
   clear hdeps ho hC hfi
   simp only [tmD] at hr ⊢
   (refine Walk.oq ?_; try walk_nrm)
   refine hr _ (e, w') ⟨upd u 31 (.int .i64 o.a), ?_, F.set (by decide) rfl rfl, hw.quiet (by decide) (by decide)⟩
   simp [tmD, upd, e30]
  | 4, _ =>
   have h7 : f 7 = false := by
    cases h : f 7 with
    | false => rfl
    | true =>
     have h7_6 := (hC.deps (l := [6]) h (by kernel_rfl)) 6 (by simp)
     have h6_4 := (hC.deps (l := [4]) h7_6 (by kernel_rfl)) 4 (by simp)
     rw [hfi] at h6_4; cases h6_4
   have hX := hw.early h7
   clear hdeps ho hC hfi
   simp only [tmD] at hr ⊢
   (refine Walk.oq ?_; try walk_nrm)
   refine hr _ (e, w') ⟨upd u 32 (.pointer (some ⟨lb, 0, none⟩)), ?_, F.set (by decide) rfl rfl, hw.quiet (by decide) (by decide)⟩
   simp [tmD, upd]
  | 5, _ =>
   have h7 : f 7 = false := by
    cases h : f 7 with
    | false => rfl
    | true =>
     have h7_6 := (hC.deps (l := [6]) h (by kernel_rfl)) 6 (by simp)
     have h6_5 := (hC.deps (l := [5]) h7_6 (by kernel_rfl)) 5 (by simp)
     rw [hfi] at h6_5; cases h6_5
   have hX := hw.early h7
   clear hdeps ho hC hfi
   simp only [tmD] at hr ⊢
   refine Walk.loadS 47 (.tmp 7) hoA (by rfl) (by decide) rfl X 0 [.int .i64 o.k, .int .i64 o.a, .int .i64 o.b, .int .i64 o.c] (.struct fsO) rfl (fun j v hj => ?_) huO rfl (by kernel_rfl) ?_
   ·rw [Nat.zero_add, cell_of hX]
    simpa using hj
   walk_nrm
   refine hr _ (e, w') ⟨upd u 33 (opVal o), ?_, F.set (by decide) rfl rfl, hw.quiet (by decide) (by decide)⟩
   simp [tmD, upd, opVal]
  | 6, _ =>
   have hdd := deps_of (l := [4, 5]) (by kernel_rfl) ho hdeps
   have e32 := F 4 32 _ (hdd 4 (by simp)) rfl rfl
   have e33 := F 5 33 _ (hdd 5 (by simp)) rfl rfl
   have h7 : f 7 = false := by
    cases h : f 7 with
    | false => rfl
    | true =>
     have h6 := (hC.deps (l := [6]) h (by kernel_rfl)) 6 (by simp)
     rw [hfi] at h6; cases h6
   rcases hw with ⟨_, h8, h9, htE, hX, hmR, hR, ⟨dd, rfl⟩, _⟩ | ⟨h, _⟩
   rotate_left
   ·rw [h7] at h; cases h
   refine Walk.back ?_ dd
   clear hdeps ho hC hdd
   have hv := values_w (main := K.main) (V := K.V e) o (K.w e) (K.inv e) (fun b hb => K.newA e b hb)
   simp only [tmD] at hr ⊢
   refine Walk.callW (Post := NewNum ((List.range (k + 1)).map (sqVal o)) (K.w e)) ?_ hoA (by rfl) (by decide) rfl Try.func51 (by kernel_rfl) (by rfl) ?_
   ·walk_nrm
    simp only [e32, e33]
    exact hv
   rintro v w1 ⟨B, rfl, hB1, hB2, hN, hold, hsz⟩
   obtain ⟨e1, m1⟩ := K.grow e (w' := w1) hsz hold
   have hXl : X < (K.w e).heap.size := (Array.getElem?_eq_some_iff.1 hX).1
   have hRl : R < (K.w e).heap.size := (Array.getElem?_eq_some_iff.1 hR).1
   refine LW.to (l := fr :: l) m1 ?_
   unfold LW
   have hlen : ((List.range (k + 1)).map (sqVal o)).length = k + 1 := by simp
   rw [hlen]
   walk_nrm
   refine hr _ (e1, K.w e1) ⟨upd (upd u 1006 undef) 34 (.slice (some ⟨B, 0, none⟩) (k + 1) (k + 1)), ?_, Facts.other (F.set (by decide) rfl rfl) (by decide), .inl ⟨by rw [upd_ne _ _ (by decide)]; exact h7, by rw [upd_ne _ _ (by decide)]; exact h8, by rw [upd_ne _ _ (by decide)]; exact h9, by rw [m1.tgt, m1.s]; exact htE, by rw [m1.w, hold X hXl]; exact hX, (m1.mine R).2 (.inl hmR), by rw [m1.w, hold R hRl]; exact hR, ⟨(K.w e1).drawn, rfl⟩, fun _ => ⟨B, upd_same _ _ _, by rw [m1.w]; exact hN⟩⟩⟩
   simp [tmD, upd, e32, e33]
  | 7, _ =>
   have hdd := deps_of (l := [0, 1, 3, 6]) (by kernel_rfl) ho hdeps
   have e28 := F 0 28 _ (hdd 0 (by simp)) rfl rfl
   have e29 := F 1 29 _ (hdd 1 (by simp)) rfl rfl
   have e31 := F 3 31 _ (hdd 3 (by simp)) rfl rfl
   have h6 := hdd 6 (by simp)
   rcases hw with ⟨_, h8, h9, htE, hX, hmR, hR, ⟨dd, rfl⟩, hB⟩ | ⟨h, _⟩
   rotate_left
   ·rw [hfi] at h; cases h
   obtain ⟨B, e34, hN⟩ := hB h6
   refine Walk.back ?_ dd
   clear hdeps ho hC hdd
   have hlen : ((List.range (k + 1)).map (sqVal o)).length = k + 1 := by simp
   have hsl := hN.lsR
   rw [hlen] at hsl
   have hvi : ValsIn k (sqVal o) ((List.range (k + 1)).map (sqVal o)) := fun i hi => by
    rw [List.take_of_length_le (by simp), padL_full hlen]
    simp [List.getElem?_range (show i < k + 1 by omega)]
   have hcall := SCall.fz K (add_s (Fz K e) (sqVal o) (fz0 K e) o.a (.slice (some ⟨B, 0, none⟩) (k + 1) (k + 1)) ((List.range (k + 1)).map (sqVal o)) hsl hvi htE)
   simp only [tmD] at hr ⊢
   refine (?_ : LW K.toLb e (G _ ((fr :: l) ++ K.bot e)))
   refine LW.callS (f := 24) (Q := fun x e' => ∃ h : Kept K e e', ChOut (Fz K e) x ⟨e', h⟩) ?_ hoA (by rfl) (by decide) rfl Try.func24 (by kernel_rfl) (by rfl) ⟨rfl, rfl, _, Try.func34⟩ (plain_cons hp hl) ?_
   ·walk_nrm
    simp only [e28, e29, e31, e34]
    exact hcall
   rintro v e2 ⟨hkept, b, rfl, ht2⟩
   obtain ⟨hm2, hb2⟩ := hkept R hmR
   unfold LW
   walk_nrm
   refine hr _ (e2, K.w e2) ⟨upd (upd u 1007 undef) 35 (.bool b), ?_, Facts.other (F.set (by decide) rfl rfl) (by decide), .inr ⟨upd_same _ _ _, b, fun _ => upd_same _ _ _, fun h => ?_, ht2, hm2, hb2.trans hR, .inl ⟨by rw [upd_ne _ _ (by decide)]; exact h9, (K.w e2).drawn, rfl⟩⟩⟩
   ·simp [tmD, upd, e28, e29, e31, e34]
   ·rw [upd_ne _ _ (by decide), h8] at h; cases h
  | 8, _ =>
   have h7 := (deps_of (l := [7]) (by kernel_rfl) ho hdeps) 7 (by simp)
   rcases hw with ⟨h, _⟩ | ⟨_, b, hb, _, htE, hmR, hR, ⟨h9, dd, rfl⟩ | ⟨h9, _⟩⟩
   ·rw [h7] at h; cases h
   rotate_left
   ·have h8 := (hC.deps (l := [8]) h9 (by kernel_rfl)) 8 (by simp)
    rw [hfi] at h8; cases h8
   replace hb := hb hfi
   refine Walk.back ?_ dd
   clear hdeps ho hC
   simp only [tmD, hb] at hr ⊢
   (refine Walk.oq ?_; try walk_nrm)
   refine hr _ (e, K.w e) ⟨upd (upd u 1008 undef) 36 (.agg #[.bool b, .int .i64 0, .slice none 0 0]), ?_, Facts.other (F.set (by decide) rfl rfl) (by decide), .inr ⟨by rw [upd_ne _ _ (by decide)]; exact h7, b, fun h => ?_, fun _ => upd_same _ _ _, htE, hmR, hR, .inl ⟨by rw [upd_ne _ _ (by decide)]; exact h9, (K.w e).drawn, rfl⟩⟩⟩
   ·simp [tmD, upd, hb]
   ·rw [upd_same] at h; cases h
  | 9, _ =>
   have hdd := deps_of (l := [7, 8]) (by kernel_rfl) ho hdeps
   have h7 := hdd 7 (by simp)
   have h8 := hdd 8 (by simp)
   rcases hw with ⟨h, _⟩ | ⟨_, b, _, hb, htE, hmR, hR, ⟨h9, dd, rfl⟩ | ⟨h9, _⟩⟩
   ·rw [h7] at h; cases h
   rotate_left
   ·rw [hfi] at h9; cases h9
   replace hb := hb h8
   refine Walk.back ?_ dd
   have hap := (K.mineA e _ hmR).1
   clear hdeps ho hC hdd
   simp only [tmD, hb] at hr ⊢
   refine Walk.storeS 44 (.tmp 8) (.tmp 36) hoA (by rfl) (by decide) rfl R #[.bool b, .int .i64 0, .slice none 0 0] _ 44 rfl rfl hR (by kernel_rfl) (by rfl) (by simp [Value.oneCell']) hap ?_
   walk_nrm
   refine hr _ (e, (K.w e).setRow R #[.bool b, .int .i64 0, .slice none 0 0]) ⟨upd u 1009 undef, ?_, F.set (by decide) rfl rfl, .inr ⟨by rw [upd_ne _ _ (by decide)]; exact h7, b, fun h => ?_, fun _ => by rw [upd_ne _ _ (by decide)]; exact hb, htE, hmR, hR, .inr ⟨upd_same _ _ _, ((K.w e).setRow R #[.bool b, .int .i64 0, .slice none 0 0]).drawn, rfl⟩⟩⟩
   ·simp [tmD, upd, hb]
   ·rw [upd_ne _ _ (by decide), h8] at h; cases h
 ·rintro f a ⟨e, w'⟩ ⟨u, rfl, F, hw⟩ hall
  have hsz : reg34_5.size = 10 := size34_5
  rcases hw with ⟨h, _⟩ | ⟨_, b, _, hb, htE, hmR, hR, ⟨h9, _⟩ | ⟨_, dd, hw'⟩⟩
  ·rw [hall 7 (by omega)] at h; cases h
  ·rw [hall 9 (by omega)] at h9; cases h9
  ·dsimp only at hw' ⊢
   subst hw'
   exact Walk.back (hk u e b htE hmR hR) dd
end
end
section
section
variable {lb k : Nat} {sv : Value}
theorem sqEnter_no (s : Sq) (th : Int) (o : OpV) (h1 : o.k ≠ 1) (h2 : o.k ≠ 2) (h3 : o.k ≠ 3) (h4 : o.k ≠ 4) (h5 : o.k ≠ 5) : sqEnter s th o = (s, .inl aNo) := by
 unfold sqEnter
 rw [if_neg h1, if_neg h2, if_neg h3, if_neg h4, if_neg h5]
def DoOut {L : La} {sv : Value} (K : Lg L sv) (v : Value) (e' : K.E) : Prop := ∃ a sl, K.tgt e' = (K.s e', .inl a) ∧ v = ansV a sl ∧ ListOK K e' sl a.l ∧ a.l.length ≤ 16
theorem qdo_s (K : Lg (sqLa lb k) sv) (e : K.E) (th ok oa ob oc : Int) (ht : K.tgt e = sqEnter (K.s e) th ⟨ok, oa, ob, oc⟩) :
  SCall K.toLb 34 #[.pointer (some ⟨lb, 0, none⟩), sv, .int .i64 th, .agg #[.int .i64 ok, .int .i64 oa, .int .i64 ob, .int .i64 oc]] e (DoOut K) := by
 intro fr l hp hl hk
 have hk15 := (K.inv e).pos
 have hww : IntKind.i64.wrap oa = oa → True := fun _ => trivial
 unfold LW
 rw [enter_at _ Try.func34 code34_is]
 simp only [Try.ntmps34, ez, Nat.reduceAdd, Nat.reduceSub]
 refine Walk.gz z34 ?_
 (refine Walk.oa ?_; try walk_nrm)
 (refine Walk.oa ?_; try walk_nrm)
 have hA1 : ((K.w e).alloc (.cells #[.int .i64 ok, .int .i64 oa, .int .i64 ob, .int .i64 oc] 47)).heap.size = (K.w e).heap.size + 1 := by simp
 have c1 : (((K.w e).alloc (.cells #[.int .i64 ok, .int .i64 oa, .int .i64 ob, .int .i64 oc] 47)).alloc (.cells #[.bool false, .int .i64 0, .slice none 0 0] 44)).heap[(K.w e).heap.size]? = some (.cells #[.int .i64 ok, .int .i64 oa, .int .i64 ob, .int .i64 oc] 47) := by
  rw [heap_new_lt _ _ (by omega)]
  exact heap_alloc_new _ _
 have c2 : (((K.w e).alloc (.cells #[.int .i64 ok, .int .i64 oa, .int .i64 ob, .int .i64 oc] 47)).alloc (.cells #[.bool false, .int .i64 0, .slice none 0 0] 44)).heap[(K.w e).heap.size + 1]? = some (.cells #[.bool false, .int .i64 0, .slice none 0 0] 44) := by
  have := heap_alloc_new ((K.w e).alloc (.cells #[.int .i64 ok, .int .i64 oa, .int .i64 ob, .int .i64 oc] 47)) (.cells #[.bool false, .int .i64 0, .slice none 0 0] 44)
  rwa [hA1] at this
 have hs2 : (((K.w e).alloc (.cells #[.int .i64 ok, .int .i64 oa, .int .i64 ob, .int .i64 oc] 47)).alloc (.cells #[.bool false, .int .i64 0, .slice none 0 0] 44)).heap.size = (K.w e).heap.size + 2 := by simp
 obtain ⟨e1, m1⟩ := K.grow e (w' := ((K.w e).alloc (.cells #[.int .i64 ok, .int .i64 oa, .int .i64 ob, .int .i64 oc] 47)).alloc (.cells #[.bool false, .int .i64 0, .slice none 0 0] 44)) (by omega) (fun b hb' => by
  rw [heap_new_lt _ _ (by omega)]
  exact heap_new_lt _ _ hb')
 try simp only [hA1]
 generalize hw2 : ((K.w e).alloc (.cells #[.int .i64 ok, .int .i64 oa, .int .i64 ob, .int .i64 oc] 47)).alloc (.cells #[.bool false, .int .i64 0, .slice none 0 0] 44) = w2 at *
 generalize hN : (K.w e).heap.size = N at *
 have hmn : K.mine e1 (N + 1) := m1.new (by omega) (by omega)
 have ht1 : K.tgt e1 = sqEnter (K.s e1) th ⟨ok, oa, ob, oc⟩ := by rw [m1.tgt, m1.s]; exact ht
 have d0 := (cell_of c1 0).trans rfl
 have d1 := (cell_of c1 1).trans rfl
 have hw1 := m1.w
 refine LW.to (l := fr :: l) m1 ?_
 unfold LW
 clear hw2 m1 ht hww
 subst hw1
 have hapN := (K.mineA e1 _ hmn).1
 refine Walk.gz z34 ?_
 by_cases h1 : ok = 1
 ·subst h1
  have ht3 : K.tgt e1 = (K.s e1, .inr (.w1 false (sqTr oa) (sqVal ⟨1, oa, ob, oc⟩))) := ht1
  refine Walk.gz z34 ?_
  refine doW_reg K ⟨1, oa, ob, oc⟩ N (N + 1) hp hl e1 _ (by simp only [tmD]; rfl) c1 hmn c2 ht3 _ ?_
  intro u e2 b ht4 hm2 hb2
  simp only [tmD]
  refine Walk.gz z34 ?_
  exact cell_back K (a := ⟨b, 0, []⟩) (sl := .slice none 0 0) hm2 hb2 ht4 (.inl ⟨rfl, rfl⟩) (fun e' h h' => hk _ e' ⟨_, _, h, rfl, h', by simp⟩) Try.func34 rfl ⟨rfl, rfl, rfl, rfl, rfl⟩
 have hbk1 : (ok == 1) = false := by simp [h1]
 simp only [hbk1]
 refine Walk.gz z34 ?_
 by_cases h2 : ok = 2
 ·subst h2
  have ht3 : K.tgt e1 = (K.s e1, .inr (.w1 true (sqTr oa) (sqVal ⟨2, oa, ob, oc⟩))) := ht1
  refine Walk.gz z34 ?_
  refine doA_reg K ⟨2, oa, ob, oc⟩ N (N + 1) hp hl e1 _ (by simp only [tmD]; rfl) c1 hmn c2 ht3 _ ?_
  intro u e2 b ht4 hm2 hb2
  simp only [tmD]
  refine Walk.gz z34 ?_
  exact cell_back K (a := ⟨b, 0, []⟩) (sl := .slice none 0 0) hm2 hb2 ht4 (.inl ⟨rfl, rfl⟩) (fun e' h h' => hk _ e' ⟨_, _, h, rfl, h', by simp⟩) Try.func34 rfl ⟨rfl, rfl, rfl, rfl, rfl⟩
 have hbk2 : (ok == 2) = false := by simp [h2]
 simp only [hbk2]
 refine Walk.gz z34 ?_
 by_cases h3 : ok = 3
 ·subst h3
  have ht3 : K.tgt e1 = (K.s e1, .inr (.r1 (sqTr oa))) := ht1
  refine Walk.gz z34 ?_
  have hg := SCall.fz K (read_s (Fz K e1) (fz0 K e1) oa ht3)
  refine LW.callS (K := K.toLb) (e := e1) (l := fr :: l) (f := 25) (Q := fun x e' => ∃ h : Kept K e1 e', ReadOut (Fz K e1) x ⟨e', h⟩) ?_ hoA (by rfl) (by decide) rfl Try.func25 (by kernel_rfl) (by rfl) ⟨rfl, rfl, _, Try.func34⟩ (plain_cons hp hl) ?_
  ·walk_nrm
   exact hg
  rintro x e2 ⟨hkept, sl, b, ls, rfl, hls, hln, ht4⟩
  replace ht4 : K.tgt e2 = (K.s e2, .inl ⟨b, 0, ls⟩) := ht4
  have hls2 : ListOK K e2 sl ls := by
   rcases hls with h | ⟨B, h1, h2, h3⟩
   ·exact .inl h
   ·exact .inr ⟨B, h1, h2.1, h3⟩
  obtain ⟨hm2, hb2⟩ := hkept (N + 1) hmn
  rw [c2] at hb2
  have hap2 := (K.mineA e2 _ hm2).1
  have hcb := fun fr' hfr => cell_back K (F := 34) (fr := fr') (c := fr) (l := l) (a := ⟨b, 0, ls⟩) (sl := sl) hm2 hb2 ht4 hls2 (fun e' h h' => hk _ e' ⟨_, _, h, rfl, h', hln⟩) Try.func34 rfl hfr
  obtain ⟨sa, sc, rfl⟩ : ∃ sa sc, sl = .slice sa ls.length sc := by
   obtain ⟨x, y, h, _⟩ := hls2.lsR
   exact ⟨x, y, h⟩
  clear hg hls hls2 ht4
  unfold LW
  walk_nrm
  refine Walk.gz z34 ?_
  refine Walk.storeS 44 (.tmp 8) (.tmp 49) hoA (by rfl) (by decide) rfl (N + 1) #[.bool b, .int .i64 0, .slice sa ls.length sc] _ 44 rfl rfl hb2 (by kernel_rfl) (by rfl) (by simp [Value.oneCell']) hap2 ?_
  walk_nrm
  refine Walk.gz z34 ?_
  exact hcb _ ⟨rfl, rfl, rfl, rfl, rfl⟩
 have hbk3 : (ok == 3) = false := by simp [h3]
 simp only [hbk3]
 refine Walk.gz z34 ?_
 by_cases h4 : ok = 4
 ·subst h4
  have ht3 : K.tgt e1 = (K.s e1, .inr (.q 0 [])) := ht1
  refine Walk.gz z34 ?_
  have hg := SCall.fz K (raw_s (Fz K e1) (fun i l => if i = k + 1 then .inl ⟨true, 0, l⟩ else .inr (.q i l)) .q (fun i l hi => if_neg (by omega)) (fun s i l hi => by
   show (s, if i = k then _ else _) = _
   by_cases h : i = k
   ·rw [if_pos h, if_pos (by omega)]
   ·rw [if_neg h, if_neg (by omega)]) (fz0 K e1) (ht3.trans (by rw [if_neg (by omega)]; rfl)))
  refine LW.callS (K := K.toLb) (e := e1) (l := fr :: l) (f := 31) (Q := fun x e' => ∃ h : Kept K e1 e', RawOut (Fz K e1) (fun i l => if i = k + 1 then .inl ⟨true, 0, l⟩ else .inr (.q i l)) x ⟨e', h⟩) ?_ hoA (by rfl) (by decide) rfl Try.func31 (by kernel_rfl) (by rfl) ⟨rfl, rfl, _, Try.func34⟩ (plain_cons hp hl) ?_
  ·walk_nrm
   exact hg
  rintro x e2 ⟨hkept, B, ls, rfl, hlen, hmB, hNB, ht4⟩
  replace ht4 : K.tgt e2 = (K.s e2, .inl ⟨true, 0, ls⟩) := by
   refine Eq.trans ht4 (Prod.ext rfl ?_)
   exact if_pos rfl
  obtain ⟨hm2, hb2⟩ := hkept (N + 1) hmn
  rw [c2] at hb2
  have hap2 := (K.mineA e2 _ hm2).1
  have hcb := fun fr' hfr => cell_back K (F := 34) (fr := fr') (c := fr) (l := l) (a := ⟨true, 0, ls⟩) (sl := .slice (some ⟨B, 0, none⟩) (k + 1) (k + 1)) hm2 hb2 ht4 (.inr ⟨B, by rw [hlen], hmB.1, hNB⟩) (fun e' h h' => hk _ e' ⟨_, _, h, rfl, h', by show ls.length ≤ 16; omega⟩) Try.func34 rfl hfr
  clear hg hNB ht4
  unfold LW
  walk_nrm
  refine Walk.gz z34 ?_
  refine Walk.storeS 44 (.tmp 8) (.tmp 55) hoA (by rfl) (by decide) rfl (N + 1) #[.bool true, .int .i64 0, .slice (some ⟨B, 0, none⟩) (k + 1) (k + 1)] _ 44 rfl rfl hb2 (by kernel_rfl) (by rfl) (by simp [Value.oneCell']) hap2 ?_
  walk_nrm
  refine Walk.gz z34 ?_
  exact hcb _ ⟨rfl, rfl, rfl, rfl, rfl⟩
 have hbk4 : (ok == 4) = false := by simp [h4]
 simp only [hbk4]
 refine Walk.gz z34 ?_
 by_cases h5 : ok = 5
 ·subst h5
  have ht3 : K.tgt e1 = (K.s e1, .inr (.n1 oa)) := ht1
  refine Walk.gz z34 ?_
  have hg := SCall.fz K (newer_s (Fz K e1) (fz0 K e1) oa ht3)
  refine LW.callS (K := K.toLb) (e := e1) (l := fr :: l) (f := 30) (Q := fun x e' => ∃ h : Kept K e1 e', NewerOut (Fz K e1) x ⟨e', h⟩) ?_ hoA (by rfl) (by decide) rfl Try.func30 (by kernel_rfl) (by rfl) ⟨rfl, rfl, _, Try.func34⟩ (plain_cons hp hl) ?_
  ·walk_nrm
   exact hg
  rintro x e2 ⟨hkept, b, y, rfl, ht4⟩
  replace ht4 : K.tgt e2 = (K.s e2, .inl ⟨b, y, []⟩) := ht4
  obtain ⟨hm2, hb2⟩ := hkept (N + 1) hmn
  rw [c2] at hb2
  have hap2 := (K.mineA e2 _ hm2).1
  clear hg
  unfold LW
  walk_nrm
  refine Walk.gz z34 ?_
  refine Walk.storeS 44 (.tmp 8) (.tmp 68) hoA (by rfl) (by decide) rfl (N + 1) #[.bool b, .int .i64 y, .slice none 0 0] _ 44 rfl rfl hb2 (by kernel_rfl) (by rfl) (by simp [Value.oneCell']) hap2 ?_
  walk_nrm
  refine Walk.gz z34 ?_
  exact cell_back K (a := ⟨b, y, []⟩) (sl := .slice none 0 0) hm2 hb2 ht4 (.inl ⟨rfl, rfl⟩) (fun e' h h' => hk _ e' ⟨_, _, h, rfl, h', by simp⟩) Try.func34 rfl ⟨rfl, rfl, rfl, rfl, rfl⟩
 have hbk5 : (ok == 5) = false := by simp [h5]
 simp only [hbk5]
 refine Walk.gz z34 ?_
 have ht3 : K.tgt e1 = (K.s e1, .inl aNo) := ht1.trans (sqEnter_no _ _ _ h1 h2 h3 h4 h5)
 refine Walk.gz z34 ?_
 refine Walk.storeS 44 (.tmp 8) (.tmp 69) hoA (by rfl) (by decide) rfl (N + 1) #[.bool false, .int .i64 0, .slice none 0 0] _ 44 rfl rfl c2 (by kernel_rfl) (by rfl) (by simp [Value.oneCell']) hapN ?_
 walk_nrm
 refine Walk.gz z34 ?_
 exact cell_back K (a := aNo) (sl := .slice none 0 0) hmn c2 ht3 (.inl ⟨rfl, rfl⟩) (fun e' h h' => hk _ e' ⟨_, _, h, rfl, h', by simp [aNo]⟩) Try.func34 rfl ⟨rfl, rfl, rfl, rfl, rfl⟩
theorem qdo_ok : DoFn (sqLa lb k) 34 #[.pointer (some ⟨lb, 0, none⟩)] #[] :=
 ⟨⟨_, Try.func34, by kernel_rfl, by rfl⟩, fun sv K e th op ht => (qdo_s K e th op.k op.a op.b op.c ht).mono fun v e' ⟨a, sl, h1, h2, h3, h4⟩ => ⟨a, sl, h1, h2, h3.lsR, by omega⟩⟩
end
end
end Go.Proofs.Ytjenoiekfkhafaa
