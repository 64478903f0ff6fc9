/- Part 18. -/
import Derived.Test.YtcdcnmphjhfbpaaJ13
import Derived.Test.YtcdcnmphjhfbpaaJ17
set_option linter.unusedSimpArgs false
set_option linter.unusedVariables false
set_option linter.unusedVariables false
set_option maxHeartbeats 8000000
set_option maxRecDepth 100000
namespace Go.Proofs.Ytcdcnmphjhfbpaa
open Go.Conc Go.RowKit Go.Relay
open Go.ConcN (upd upd_ne upd_same)
section
section
variable {rb sb n : Nat} {sv : Value}
theorem ga_loop (K : Lg (Bs rb sb n) sv) (a mo m : Int) (ha : good a) (hmo : min mo n = m) (hn : n <= 65536) (fr : Frame) (l : List Frame) (hp : Cf fr) (hl : ∀ f ∈ l, Cf f) (hk : ∀ x e', Ng K x e' -> LW K.toLb e' (G (fr.finish x) (l ++ K.bot e'))) :
  ∀ (r : Nat) (ls : List Int) (sl : Value) (e : K.E) (u : Nat -> Value), (m - ls.length).toNat = r -> ls.length <= 65536 -> GatL K e sl ls -> K.tgt e = (K.s e, gaD n a m ls) -> LW K.toLb e (G (hdGa rb sv sl a mo u) (fr :: (l ++ K.bot e))) := by
 intro r
 induction r with
 | zero =>
  intro ls sl e u hr h6 hL ht
  unfold gaD at ht
  rw [if_neg (by omega)] at ht
  exact ga_out K a mo m hmo fr l hk sl ls e u (by omega) h6 hL ht
 | succ r ih =>
  intro ls sl e u hr h6 hL ht
  have hm : (ls.length : Int) < m := by omega
  by_cases hg : good (a + ls.length)
  ·have ht2 := ht
   unfold gaD at ht2
   rw [if_pos ⟨hm, hg⟩] at ht2
   refine ga_round K a mo m ha hmo fr l hp hl hk sl ls e u hm hg h6 hL ht2 fun e' u' sl' v hL' ht' => ?_
   have hlen : (ls ++ [v]).length = ls.length + 1 := by simp
   exact ih (ls ++ [v]) sl' e' u' (by rw [hlen]; omega) (by rw [hlen]; omega) hL' ht'
  ·unfold gaD at ht
   rw [if_neg fun h => hg h.2] at ht
   refine ga_refused K a mo m ha hmo fr l hk sl ls e u hm (fun h => ?_) hg h6 hL ht
   subst h
   exact hg (by simpa using ha)
def gbD (n : Nat) (a b : Int) : Ans ⊕ RD := if good a then (if min b n <= 0 then .inl ⟨true, 0, []⟩ else .inr (.a1 a (min b n) [])) else .inl ⟨false, 1, []⟩
theorem gbD_is {n : Nat} {a b : Int} (ha : good a) : gbD n a b = gaD n a (min b n) [] := by
 have h0 : a + (([] : List Int).length : Int) = a := by simp
 unfold gbD gaD
 rw [if_pos ha, h0]
 by_cases h : min b (n : Int) <= 0
 ·rw [if_pos h, if_neg (by simp only [List.length_nil]; omega)]
 ·rw [if_neg h, if_pos ⟨by simp only [List.length_nil]; omega, ha⟩]
theorem gather_s (K : Lg (Bs rb sb n) sv) (e : K.E) (a b : Int) (ht : K.tgt e = (K.s e, gbD n a b)) : SCall K.toLb 73 #[.pointer (some ⟨rb, 0, none⟩), sv, .int .i64 a, .int .i64 b] e (Ng K) := by
 intro fr l hp hl hk
 have hn := (K.inv e).pos
 have hyes := Ex (main := K.main) (V := K.V e) (K.w e) (K.inv e) a
 have hno := Gj (main := K.main) (V := K.V e) (.pointer (some ⟨rb, 0, none⟩)) (K.w e) a
 have hL0 : GatL K e (.slice none 0 0) [] := ⟨⟨_, _, rfl⟩, ⟨rfl, .inl ⟨rfl, rfl⟩⟩, fun b h => by simp [Value.ownBlock] at h⟩
 unfold LW
 rw [enter_at _ Try.func73 code73_is]
 simp only [Try.ntmps73, ez, Nat.reduceAdd, Nat.reduceSub]
 refine Aa z73 ?_
 by_cases h2 : good a
 ·rw [gbD_is h2] at ht
  have hlp := fun u => ga_loop K a b (min b n) h2 rfl hn.2 fr l hp hl hk _ [] (.slice none 0 0) e u rfl (by simp) hL0 ht
  refine Walk.callV (x := .bool true) (W := K.w e) ?_ Aj (by rfl) (by decide) rfl Try.func74 (by kernel_rfl) (by rfl) ?_
  ·walk_nrm
   exact hyes h2
  walk_nrm
  clear hyes hno hL0 ht
  refine Aa z73 ?_
  refine Walk.ctl rfl (fun w => stepG_loop) ?_
  unfold LW at hlp
  refine Fd (F := fun u => G (hdGa rb sv (.slice none 0 0) a b u) (fr :: (l ++ K.bot e))) hlp ?_
  simp only [hdGa]
  rfl
 ·unfold gbD at ht
  rw [if_neg h2] at ht
  have hkk := hk (.tuple #[.slice none 0 0, .int .i64 1]) e ⟨.slice none 0 0, 1, [], rfl, hL0, by simp, ht⟩
  refine Walk.callV (x := .bool false) (W := K.w e) ?_ Aj (by rfl) (by decide) rfl Try.func74 (by kernel_rfl) (by rfl) ?_
  ·walk_nrm
   exact hno h2
  walk_nrm
  clear hyes hno hL0 ht
  unfold LW at hkk
  refine Aa z73 ?_
  exact By rfl rfl Try.func73 rfl hkk
end
end
section
noncomputable def reg113_0 := rk Try.f113.body 0
noncomputable def reg113_1 := rk Try.f113.body 1
noncomputable def reg113_2 := rk Try.f113.body 2
noncomputable def reg113_3 := rk Try.f113.body 3
theorem z113 : reg113_0.size = 1 /\ reg113_1.size = 2 /\ reg113_2.size = 2 /\ reg113_3.size = 5 := by and_intros <;> kernel_rfl
theorem code113_is : Try.f113.body = some (.seq (.region 0 reg113_0 false) (.seq (.seq (.region 1 reg113_1 false) (.cond (.tmp 6 ) (.region 2 reg113_2 false) (.skip))) (.seq (.region 3 reg113_3 false) (.ret)))) := by kernel_rfl
section
variable {main : Bool} {V : Nat -> Option Wait}
theorem put_no (r sv : Value) (q v : Int) (hq : ¬ good q) (w : World) : As Try.prog main V 60 #[r, sv, .int .i64 q, .int .i64 v] w (.int .i64 1) w := by
 have hno := Gj (main := main) (V := V) r w q hq
 refine Ap Try.func60 code60_is fun fr cs => ?_
 simp only [Try.ntmps60, ez, Nat.reduceAdd, Nat.reduceSub]
 refine Aa z60 ?_
 refine Walk.callV (x := .bool false) (W := w) ?_ Aj (by rfl) (by decide) rfl Try.func74 (by kernel_rfl) (by rfl) ?_
 ·walk_nrm
  exact hno
 walk_nrm
 refine Aa z60 ?_
 exact An rfl rfl Try.func60 rfl fun d => ⟨rfl, d, rfl⟩
theorem there_no (r sv : Value) (q : Int) (hq : ¬ good q) (w : World) : As Try.prog main V 63 #[r, sv, .int .i64 q] w (.bool false) w := by
 have hno := Gj (main := main) (V := V) r w q hq
 refine Ap Try.func63 code63_is fun fr cs => ?_
 simp only [Try.ntmps63, ez, Nat.reduceAdd, Nat.reduceSub]
 refine Aa z63 ?_
 refine Walk.callV (x := .bool false) (W := w) ?_ Aj (by rfl) (by decide) rfl Try.func74 (by kernel_rfl) (by rfl) ?_
 ·walk_nrm
  exact hno
 walk_nrm
 refine Aa z63 ?_
 exact An rfl rfl Try.func63 rfl fun d => ⟨rfl, d, rfl⟩
def Nh (x er : Int) (w : World) (v : Value) (w' : World) : Prop := v = .agg #[.bool (er == 0), .int .i64 (if er = 0 then x else er), .slice none 0 0] /\ (∀ b, b < w.heap.size -> w'.heap[b]? = w.heap[b]?) /\ w.heap.size <= w'.heap.size
theorem answer_yes (x : Int) (w : World) (hA : ∀ b, w.heap.size <= b -> Bd V b) : CallW Try.prog main V 113 #[.int .i64 x, .int .i64 0] w (Nh x 0 w) := by
 have hap := hA w.heap.size (Nat.le_refl _)
 refine Ap Try.func113 code113_is fun fr cs => ?_
 simp only [Try.ntmps113, ez, Nat.reduceAdd, Nat.reduceSub]
 refine Aa z113 ?_
 (refine Walk.oa ?_; try walk_nrm)
 have s1 : (w.alloc (.cells #[.bool false, .int .i64 0, .slice none 0 0] 46)).heap.size = w.heap.size + 1 := by simp
 have o1 : ∀ b, b < w.heap.size -> (w.alloc (.cells #[.bool false, .int .i64 0, .slice none 0 0] 46)).heap[b]? = w.heap[b]? := fun b hb => Ad _ _ hb
 have d1 := heap_alloc_new w (.cells #[.bool false, .int .i64 0, .slice none 0 0] 46)
 generalize hN : w.heap.size = N at *
 generalize hw1 : w.alloc (.cells #[.bool false, .int .i64 0, .slice none 0 0] 46) = w1 at *
 refine Aa z113 ?_
 refine Az 46 (.tmp 4) (.tmp 11) Aj (by rfl) (by decide) rfl N #[.bool true, .int .i64 x, .slice none 0 0] _ 46 rfl rfl d1 (by kernel_rfl) (by rfl) (by simp [Value.oneCell']) hap ?_
 have d2 := Bk (cells := #[.bool true, .int .i64 x, .slice none 0 0]) d1
 have o2 : ∀ b, b < N -> (w1.setRow N #[.bool true, .int .i64 x, .slice none 0 0]).heap[b]? = w.heap[b]? := fun b hb => (Av _ _ (by omega)).trans (o1 b hb)
 have s2 := Bg w1 N #[.bool true, .int .i64 x, .slice none 0 0]
 generalize w1.setRow N #[.bool true, .int .i64 x, .slice none 0 0] = w2 at *
 walk_nrm
 refine Aa z113 ?_
 refine Cj (T := N) rfl rfl rfl Try.func113 rfl (by rfl) d2 (by kernel_rfl) (by kernel_rfl) (.stop fun d => ⟨_, ⟨rfl, ?_, ?_⟩, rfl⟩)
 ·rw [hN]
  exact o2
 ·show w.heap.size <= w2.heap.size
  omega
theorem answer_no (x er : Int) (her : er ≠ 0) (w : World) (hA : ∀ b, w.heap.size <= b -> Bd V b) : CallW Try.prog main V 113 #[.int .i64 x, .int .i64 er] w (Nh x er w) := by
 have hap := hA w.heap.size (Nat.le_refl _)
 have hb1 : (er == 0) = false := by simp [her]
 have hb2 : (er != 0) = true := by simp [her]
 have hif : (if er = 0 then x else er) = er := if_neg her
 unfold Nh
 rw [hif]
 refine Ap Try.func113 code113_is fun fr cs => ?_
 simp only [Try.ntmps113, ez, Nat.reduceAdd, Nat.reduceSub]
 refine Aa z113 ?_
 (refine Walk.oa ?_; try walk_nrm)
 have s1 : (w.alloc (.cells #[.bool false, .int .i64 0, .slice none 0 0] 46)).heap.size = w.heap.size + 1 := by simp
 have o1 : ∀ b, b < w.heap.size -> (w.alloc (.cells #[.bool false, .int .i64 0, .slice none 0 0] 46)).heap[b]? = w.heap[b]? := fun b hb => Ad _ _ hb
 have d1 := heap_alloc_new w (.cells #[.bool false, .int .i64 0, .slice none 0 0] 46)
 generalize hN : w.heap.size = N at *
 generalize hw1 : w.alloc (.cells #[.bool false, .int .i64 0, .slice none 0 0] 46) = w1 at *
 refine Aa z113 ?_
 refine Az 46 (.tmp 4) (.tmp 11) Aj (by rfl) (by decide) rfl N #[.bool false, .int .i64 er, .slice none 0 0] _ 46 rfl rfl d1 (by kernel_rfl) (by rfl) (by simp [Value.oneCell']) hap ?_
 have d2 := Bk (cells := #[.bool false, .int .i64 er, .slice none 0 0]) d1
 have o2 : ∀ b, b < N -> (w1.setRow N #[.bool false, .int .i64 er, .slice none 0 0]).heap[b]? = w.heap[b]? := fun b hb => (Av _ _ (by omega)).trans (o1 b hb)
 have s2 := Bg w1 N #[.bool false, .int .i64 er, .slice none 0 0]
 generalize w1.setRow N #[.bool false, .int .i64 er, .slice none 0 0] = w2 at *
 walk_nrm
 refine Aa z113 ?_
 refine Cj (T := N) rfl rfl rfl Try.func113 rfl (by rfl) d2 (by kernel_rfl) (by kernel_rfl) (.stop fun d => ⟨_, ⟨by rw [hb1], ?_, ?_⟩, rfl⟩)
 ·exact o2
 ·show N <= w2.heap.size
  omega
theorem answer_w (x er : Int) (w : World) (hA : ∀ b, w.heap.size <= b -> Bd V b) : CallW Try.prog main V 113 #[.int .i64 x, .int .i64 er] w (Nh x er w) := by
 by_cases h : er = 0
 ·subst h
  exact answer_yes x w hA
 ·exact answer_no x er h w hA
end
section
variable {rb sb n : Nat} {sv : Value}
theorem Kg {L : La} {sv : Value} (K : Lg L sv) (e : K.E) {f : FuncId} {args : Array Value} {x : Value} {Q : Value -> K.E -> Prop} (h : As Try.prog K.main (K.V e) f args (K.w e) x (K.w e)) (hq : Q x e) : SCall K.toLb f args e Q := fun fr l hp hl hk => by
 unfold LW
 refine (h fr (l ++ K.bot e)).then ?_
 rintro g w' ⟨v, ⟨rfl, d, rfl⟩, rfl⟩
 refine Walk.back ?_ d
 exact hk _ e hq
theorem put_all (K : Lg (Bs rb sb n) sv) (e : K.E) (q v : Int) (ht : K.tgt e = (K.s e, if good q then .inr (.p1 q v) else .inl ⟨false, 1, []⟩)) : SCall K.toLb 60 #[.pointer (some ⟨rb, 0, none⟩), sv, .int .i64 q, .int .i64 v] e (fun x e' => ∃ er, x = .int .i64 er /\ K.tgt e' = (K.s e', .inl ⟨er == 0, if er = 0 then 0 else er, []⟩)) := by
 by_cases h : good q
 ·rw [if_pos h] at ht
  exact (put_s K e q v h ht).mono fun x e' ⟨h1, h2⟩ => ⟨0, h1, h2⟩
 ·rw [if_neg h] at ht
  exact Kg K e (put_no _ sv q v h (K.w e)) ⟨1, rfl, ht⟩
theorem get_all (K : Lg (Bs rb sb n) sv) (e : K.E) (q : Int) (ht : K.tgt e = (K.s e, if good q then .inr (.g1 q) else .inl ⟨false, 1, []⟩)) : SCall K.toLb 61 #[.pointer (some ⟨rb, 0, none⟩), sv, .int .i64 q] e (fun x e' => ∃ a er, x = .tuple #[.int .i64 a, .int .i64 er] /\ K.tgt e' = (K.s e', .inl ⟨er == 0, if er = 0 then a else er, []⟩)) := by
 by_cases h : good q
 ·rw [if_pos h] at ht
  refine (get_s K e q h (.g1 q) (.g2 q) (.g3 q) (.inl ⟨false, 6, []⟩) (.inl ⟨false, 10, []⟩) (fun v => .inl ⟨true, v, []⟩) (fun _ => rfl) (fun _ => rfl) (fun _ _ => rfl) ht).mono ?_
  rintro x e' ⟨a, er, rfl, ⟨rfl, h⟩ | ⟨rfl, h⟩ | ⟨rfl, h⟩⟩
  ·exact ⟨a, 6, rfl, h⟩
  ·exact ⟨a, 10, rfl, h⟩
  ·exact ⟨a, 0, rfl, h⟩
 ·rw [if_neg h] at ht
  exact Kg K e (get_no _ sv q h (K.w e)) ⟨0, 1, rfl, ht⟩
theorem there_all (K : Lg (Bs rb sb n) sv) (e : K.E) (q : Int) (ht : K.tgt e = (K.s e, if good q then .inr (.t q) else .inl ⟨false, 0, []⟩)) : SCall K.toLb 63 #[.pointer (some ⟨rb, 0, none⟩), sv, .int .i64 q] e (fun x e' => ∃ b, x = .bool b /\ K.tgt e' = (K.s e', .inl ⟨b, 0, []⟩)) := by
 by_cases h : good q
 ·rw [if_pos h] at ht
  exact (there_s K e q h (.t q) ht).mono fun x e' ⟨h1, h2⟩ => ⟨_, h2, h1.tgt⟩
 ·rw [if_neg h] at ht
  exact Kg K e (there_no _ sv q h (K.w e)) ⟨false, rfl, ht⟩
theorem GatL.ne {L : La} {sv : Value} {K : Lg L sv} {e : K.E} {sl : Value} {ls : List Int} (h : GatL K e sl ls) {R : Nat} {arr : Array Value} (hR : (K.w e).heap[R]? = some (.cells arr 46)) : ∀ b, sl.ownBlock = some b -> b ≠ R := fun b hb e' => by
 subst e'
 rcases h.2.1.2 with ⟨e1, _⟩ | ⟨g, cap, cur, e1, _, h2, _⟩
 ·rw [e1] at hb; cases hb
 ·rw [e1] at hb
  cases hb
  rw [hR] at h2
  cases h2
theorem GatL.keep {L : La} {sv : Value} {K : Lg L sv} {e e' : K.E} {sl : Value} {ls : List Int} (h : GatL K e sl ls) (hm : ∀ b, K.mine e b -> K.mine e' b) (hb : ∀ b, K.mine e b -> sl.ownBlock = some b -> (K.w e').heap[b]? = (K.w e).heap[b]?) : GatL K e' sl ls :=
 ⟨h.1, Ao h.2.1 fun b hb' => hb b (h.2.2 b hb') hb', fun b hb' => hm b (h.2.2 b hb')⟩
theorem GatL.lsR {L : La} {sv : Value} {K : Lg L sv} {e : K.E} {sl : Value} {ls : List Int} (h : GatL K e sl ls) : LsR sl ls (K.w e) := by
 obtain ⟨⟨a, c, rfl⟩, hr, _⟩ := h
 have hx : ls.length <= c /\ (a = none -> c = 0) := by
  rcases hr.2 with ⟨e1, _⟩ | ⟨g, cap, cur, e1, _, _, hle, _⟩
  ·injection e1 with _ en ec
   exact ⟨by omega, fun _ => ec⟩
  ·injection e1 with e1 _ e3
   subst e1 e3
   exact ⟨hle, fun h => by cases h⟩
 refine ⟨a, c, rfl, hx.1, hx.2, fun j z hz => ?_⟩
 obtain ⟨g, e1, _, _, hc⟩ := Jt hr (j := j) (x := .int .i64 z) (by rw [List.getElem?_map, hz]; rfl)
 exact ⟨g, 0, e1, by rw [Nat.zero_add]; exact hc⟩
theorem GatL.nil {L : La} {sv : Value} (K : Lg L sv) (e : K.E) : GatL K e (.slice none 0 0) [] := ⟨⟨_, _, rfl⟩, ⟨rfl, .inl ⟨rfl, rfl⟩⟩, fun b h => by simp [Value.ownBlock] at h⟩
theorem Dr {L : La} {sv : Value} (K : Lg L sv) {F : FuncId} {fn : Func} {e2 : K.E} {fr c : Frame} {l : List Frame} {R : Nat} {a : Ans} {sl : Value} (hm : K.mine e2 R) (hR : (K.w e2).heap[R]? = some (.cells #[.bool false, .int .i64 0, .slice none 0 0] 46))
  (ht : K.tgt e2 = (K.s e2, .inl a)) (hsl : GatL K e2 sl a.l) (hk : ∀ e', K.tgt e' = (K.s e', .inl a) -> GatL K e' sl a.l -> LW K.toLb e' (G (c.finish (Cu a sl)) (l ++ K.bot e')))
  (hF : Try.prog.funcs[F]? = some fn) (hres : fn.results = #[.cell 8 46]) (hfr : fr.mode = .returning /\ fr.kind = .normal /\ fr.defers = [] /\ fr.fn = F /\ fr.tmps.getD 8 undef = .pointer (some ⟨R, 0, none⟩)) :
  Walk Try.prog K.main (DR (K.V e2)) (K.Stop e2) (G fr (c :: (l ++ K.bot e2))) ((K.w e2).setRow R #[.bool a.ok, .int .i64 a.n, sl]) := by
 obtain ⟨h1, h2, h3, h4, h5⟩ := hfr
 obtain ⟨e3, m⟩ := K.own e2 (w' := (K.w e2).setRow R #[.bool a.ok, .int .i64 a.n, sl]) (by rw [Bg]; exact Nat.le_refl _) (fun b _ hbm => Av _ _ (fun he : b = R => hbm (by rw [he]; exact hm)))
 have c9 := Bk (cells := #[.bool a.ok, .int .i64 a.n, sl]) hR
 refine Cj (T := R) h1 h2 h3 (by rw [h4]; exact hF) hres h5 c9 (by kernel_rfl) (by kernel_rfl) ?_
 refine Jr m (hk e3 ?_ ?_)
 ·rw [m.tgt, m.s]
  exact ht
 ·refine hsl.keep (fun b h => (m.mine b).2 (.inl h)) fun b _ hb => ?_
  rw [m.w]
  exact Av _ _ (hsl.ne hR b hb)
end
end
section
noncomputable def reg67_0 := rk Try.f67.body 0
noncomputable def reg67_1 := rk Try.f67.body 1
noncomputable def reg67_2 := rk Try.f67.body 2
noncomputable def reg67_3 := rk Try.f67.body 3
noncomputable def reg67_4 := rk Try.f67.body 4
noncomputable def reg67_5 := rk Try.f67.body 5
noncomputable def reg67_6 := rk Try.f67.body 6
noncomputable def reg67_7 := rk Try.f67.body 7
noncomputable def reg67_8 := rk Try.f67.body 8
noncomputable def reg67_9 := rk Try.f67.body 9
noncomputable def reg67_10 := rk Try.f67.body 10
noncomputable def reg67_11 := rk Try.f67.body 11
noncomputable def reg67_12 := rk Try.f67.body 12
noncomputable def reg67_13 := rk Try.f67.body 13
noncomputable def reg67_14 := rk Try.f67.body 14
noncomputable def reg67_15 := rk Try.f67.body 15
theorem z67 : reg67_0.size = 2 /\ reg67_1.size = 2 /\ reg67_2.size = 2 /\ reg67_3.size = 2 /\ reg67_4.size = 2 /\ reg67_5.size = 9 /\ reg67_6.size = 2 /\ reg67_7.size = 9 /\ reg67_8.size = 2 /\ reg67_9.size = 7 /\ reg67_10.size = 2 /\ reg67_11.size = 9 /\ reg67_12.size = 2 /\ reg67_13.size = 12 /\ reg67_14.size = 6 /\ reg67_15.size = 2 := by and_intros <;> kernel_rfl
theorem code67_is : Try.f67.body = some (.seq (.region 0 reg67_0 false) (.seq (.seq (.region 1 reg67_1 false) (.cond (.tmp 12 ) (.seq (.region 2 reg67_2 false) (.ret)) (.skip))) (.seq (.seq (.region 3 reg67_3 false) (.block 0 (.seq (.region 4 reg67_4 false) (.cond (.tmp 16 ) (.seq (.region 5 reg67_5 false) (.ret)) (.seq (.region 6 reg67_6 false) (.cond (.tmp 26 ) (.seq (.region 7 reg67_7 false) (.ret)) (.seq (.region 8 reg67_8 false) (.cond (.tmp 36 ) (.seq (.region 9 reg67_9 false) (.ret)) (.seq (.region 10 reg67_10 false) (.cond (.tmp 44 ) (.seq (.region 11 reg67_11 false) (.ret)) (.seq (.region 12 reg67_12 false) (.cond (.tmp 54 ) (.seq (.region 13 reg67_13 false) (.seq (.region 14 reg67_14 false) (.ret))) (.skip))))))))))))) (.seq (.region 15 reg67_15 false) (.ret))))) := by kernel_rfl
section
variable {rb sb n : Nat} {sv : Value}
def aNoR : Ans := ⟨false, 0, []⟩
theorem rgEnter_no (s : Rg) (th : Int) (o : OpV) (h1 : o.k ≠ 1) (h2 : o.k ≠ 2) (h3 : o.k ≠ 3) (h4 : o.k ≠ 4) (h5 : o.k ≠ 5) : Fo n s th o = (s, .inl aNoR) := by
 unfold Fo
 rw [if_neg h1, if_neg h2, if_neg h3, if_neg h4, if_neg h5]
 rfl
def DoOutG {L : La} {sv : Value} (K : Lg L sv) (v : Value) (e' : K.E) : Prop := ∃ a sl, K.tgt e' = (K.s e', .inl a) /\ v = Cu a sl /\ GatL K e' sl a.l /\ a.l.length <= 65536
theorem rdo_s (K : Lg (Bs rb sb n) sv) (e : K.E) (th ok oa ob oc : Int) (ht : K.tgt e = Fo n (K.s e) th ⟨ok, oa, ob, oc⟩) :
  SCall K.toLb 67 #[.pointer (some ⟨rb, 0, none⟩), sv, .int .i64 th, .agg #[.int .i64 ok, .int .i64 oa, .int .i64 ob, .int .i64 oc]] e (DoOutG K) := by
 intro fr l hp hl hk
 have hp1 := fun w => Bz (P := Try.prog) 35 Dl (some ⟨rb, 0, none⟩) w
 have hp2 := fun w es => Cn (P := Try.prog) 35 Dl (some ⟨rb, 0, none⟩) w es
 simp only [Option.isNone_some] at hp1
 unfold LW
 rw [enter_at _ Try.func67 code67_is]
 simp only [Try.ntmps67, ez, Nat.reduceAdd, Nat.reduceSub]
 refine Aa z67 ?_
 (refine Walk.oa ?_; try walk_nrm)
 (refine Walk.oa ?_; try walk_nrm)
 have hA1 : ((K.w e).alloc (.cells #[.int .i64 ok, .int .i64 oa, .int .i64 ob, .int .i64 oc] 49)).heap.size = (K.w e).heap.size + 1 := by simp
 have c1 : (((K.w e).alloc (.cells #[.int .i64 ok, .int .i64 oa, .int .i64 ob, .int .i64 oc] 49)).alloc (.cells #[.bool false, .int .i64 0, .slice none 0 0] 46)).heap[(K.w e).heap.size]? = some (.cells #[.int .i64 ok, .int .i64 oa, .int .i64 ob, .int .i64 oc] 49) := by
  rw [Ad _ _ (by omega)]
  exact heap_alloc_new _ _
 have c2 : (((K.w e).alloc (.cells #[.int .i64 ok, .int .i64 oa, .int .i64 ob, .int .i64 oc] 49)).alloc (.cells #[.bool false, .int .i64 0, .slice none 0 0] 46)).heap[(K.w e).heap.size + 1]? = some (.cells #[.bool false, .int .i64 0, .slice none 0 0] 46) := by
  have := heap_alloc_new ((K.w e).alloc (.cells #[.int .i64 ok, .int .i64 oa, .int .i64 ob, .int .i64 oc] 49)) (.cells #[.bool false, .int .i64 0, .slice none 0 0] 46)
  rwa [hA1] at this
 have hs2 : (((K.w e).alloc (.cells #[.int .i64 ok, .int .i64 oa, .int .i64 ob, .int .i64 oc] 49)).alloc (.cells #[.bool false, .int .i64 0, .slice none 0 0] 46)).heap.size = (K.w e).heap.size + 2 := by simp
 obtain ⟨e1, m1⟩ := K.grow e (w' := ((K.w e).alloc (.cells #[.int .i64 ok, .int .i64 oa, .int .i64 ob, .int .i64 oc] 49)).alloc (.cells #[.bool false, .int .i64 0, .slice none 0 0] 46)) (by omega) (fun b hb' => by
  rw [Ad _ _ (by omega)]
  exact Ad _ _ hb')
 try simp only [hA1]
 generalize hw2 : ((K.w e).alloc (.cells #[.int .i64 ok, .int .i64 oa, .int .i64 ob, .int .i64 oc] 49)).alloc (.cells #[.bool false, .int .i64 0, .slice none 0 0] 46) = w2 at *
 generalize hN : (K.w e).heap.size = N at *
 have hmn : K.mine e1 (N + 1) := m1.new (by omega) (by omega)
 have ht1 : K.tgt e1 = Fo n (K.s e1) th ⟨ok, oa, ob, oc⟩ := by rw [m1.tgt, m1.s]; exact ht
 have d0 := (Ac c1 0).trans rfl
 have d1 := (Ac c1 1).trans rfl
 have d2 := (Ac c1 2).trans rfl
 have hw1 := m1.w
 refine Jr (l := fr :: l) m1 ?_
 unfold LW
 clear hw2 m1 ht
 subst hw1
 have hapN := (K.mineA e1 _ hmn).1
 refine Aa z67 ?_
 by_cases h1 : ok = 1
 ·subst h1
  have ht3 : K.tgt e1 = (K.s e1, if good oa then .inr (.p1 oa ob) else .inl ⟨false, 1, []⟩) := ht1
  refine Aa z67 ?_
  have hg := Fi K (put_all (Fz K e1) (fz0 K e1) oa ob ht3)
  refine Bt (K := K.toLb) (e := e1) (l := fr :: l) (f := 60) (Q := fun x e' => ∃ h : Kept K e1 e', ∃ er, x = .int .i64 er /\ (Fz K e1).tgt ⟨e', h⟩ = ((Fz K e1).s ⟨e', h⟩, .inl ⟨er == 0, if er = 0 then 0 else er, []⟩)) ?_ Aj (by rfl) (by decide) rfl Try.func60 (by kernel_rfl) (by rfl) ⟨rfl, rfl, _, Try.func67⟩ (Bl hp hl) ?_
  ·walk_nrm
   exact hg
  rintro x e2 ⟨hkept, er, rfl, ht4⟩
  obtain ⟨hm2, hb2⟩ := hkept (N + 1) hmn
  rw [c2] at hb2
  clear hg
  replace ht4 : K.tgt e2 = (K.s e2, .inl ⟨er == 0, if er = 0 then 0 else er, []⟩) := ht4
  have hans := answer_w (main := K.main) (V := K.V e2) 0 er (K.w e2) (K.newA e2)
  unfold LW
  walk_nrm
  refine Aa z67 ?_
  refine Ah (Post := Nh 0 er (K.w e2)) ?_ Aj (by rfl) (by decide) rfl Try.func113 (by kernel_rfl) (by rfl) ?_
  ·walk_nrm
   exact hans
  rintro v w3 ⟨rfl, o3, z3⟩
  clear hans
  have lN : N + 1 < (K.w e2).heap.size := (Array.getElem?_eq_some_iff.1 hb2).1
  obtain ⟨e3, m3⟩ := K.grow e2 (w' := w3) z3 o3
  have hm3 : K.mine e3 (N + 1) := (m3.mine _).2 (.inl hm2)
  have hb3 : (K.w e3).heap[N + 1]? = some (.cells #[.bool false, .int .i64 0, .slice none 0 0] 46) := by rw [m3.w]; exact (o3 _ lN).trans hb2
  have ht5 : K.tgt e3 = (K.s e3, .inl ⟨er == 0, if er = 0 then 0 else er, []⟩) := by rw [m3.tgt, m3.s]; exact ht4
  have hap3 := (K.mineA e3 _ hm3).1
  refine Jr (l := fr :: l) m3 ?_
  unfold LW
  clear hb2 o3 m3 ht4
  generalize (if er = 0 then 0 else er) = y at *
  generalize (er == 0) = bb at *
  walk_nrm
  refine Aa z67 ?_
  refine Az 46 (.tmp 8) (.tmp 25) Aj (by rfl) (by decide) rfl (N + 1) #[.bool bb, .int .i64 y, .slice none 0 0] _ 46 rfl rfl hb3 (by kernel_rfl) (by rfl) (by simp [Value.oneCell']) hap3 ?_
  walk_nrm
  refine Aa z67 ?_
  exact Dr K (a := ⟨bb, y, []⟩) (sl := .slice none 0 0) hm3 hb3 ht5 (GatL.nil K e3) (fun e' h h' => hk _ e' ⟨_, _, h, rfl, h', by simp⟩) Try.func67 rfl ⟨rfl, rfl, rfl, rfl, rfl⟩
 have hbk1 : (ok == 1) = false := by simp [h1]
 simp only [hbk1]
 refine Aa z67 ?_
 by_cases h2 : ok = 2
 ·subst h2
  have ht3 : K.tgt e1 = (K.s e1, if good oa then .inr (.g1 oa) else .inl ⟨false, 1, []⟩) := ht1
  refine Aa z67 ?_
  have hg := Fi K (get_all (Fz K e1) (fz0 K e1) oa ht3)
  refine Bt (K := K.toLb) (e := e1) (l := fr :: l) (f := 61) (Q := fun x e' => ∃ h : Kept K e1 e', ∃ a er, x = .tuple #[.int .i64 a, .int .i64 er] /\ (Fz K e1).tgt ⟨e', h⟩ = ((Fz K e1).s ⟨e', h⟩, .inl ⟨er == 0, if er = 0 then a else er, []⟩)) ?_ Aj (by rfl) (by decide) rfl Try.func61 (by kernel_rfl) (by rfl) ⟨rfl, rfl, _, Try.func67⟩ (Bl hp hl) ?_
  ·walk_nrm
   exact hg
  rintro x e2 ⟨hkept, xv, er, rfl, ht4⟩
  obtain ⟨hm2, hb2⟩ := hkept (N + 1) hmn
  rw [c2] at hb2
  clear hg
  replace ht4 : K.tgt e2 = (K.s e2, .inl ⟨er == 0, if er = 0 then xv else er, []⟩) := ht4
  have hans := answer_w (main := K.main) (V := K.V e2) xv er (K.w e2) (K.newA e2)
  unfold LW
  walk_nrm
  refine Aa z67 ?_
  refine Ah (Post := Nh xv er (K.w e2)) ?_ Aj (by rfl) (by decide) rfl Try.func113 (by kernel_rfl) (by rfl) ?_
  ·walk_nrm
   exact hans
  rintro v w3 ⟨rfl, o3, z3⟩
  clear hans
  have lN : N + 1 < (K.w e2).heap.size := (Array.getElem?_eq_some_iff.1 hb2).1
  obtain ⟨e3, m3⟩ := K.grow e2 (w' := w3) z3 o3
  have hm3 : K.mine e3 (N + 1) := (m3.mine _).2 (.inl hm2)
  have hb3 : (K.w e3).heap[N + 1]? = some (.cells #[.bool false, .int .i64 0, .slice none 0 0] 46) := by rw [m3.w]; exact (o3 _ lN).trans hb2
  have ht5 : K.tgt e3 = (K.s e3, .inl ⟨er == 0, if er = 0 then xv else er, []⟩) := by rw [m3.tgt, m3.s]; exact ht4
  have hap3 := (K.mineA e3 _ hm3).1
  refine Jr (l := fr :: l) m3 ?_
  unfold LW
  clear hb2 o3 m3 ht4
  generalize (if er = 0 then xv else er) = y at *
  generalize (er == 0) = bb at *
  walk_nrm
  refine Aa z67 ?_
  refine Az 46 (.tmp 8) (.tmp 35) Aj (by rfl) (by decide) rfl (N + 1) #[.bool bb, .int .i64 y, .slice none 0 0] _ 46 rfl rfl hb3 (by kernel_rfl) (by rfl) (by simp [Value.oneCell']) hap3 ?_
  walk_nrm
  refine Aa z67 ?_
  exact Dr K (a := ⟨bb, y, []⟩) (sl := .slice none 0 0) hm3 hb3 ht5 (GatL.nil K e3) (fun e' h h' => hk _ e' ⟨_, _, h, rfl, h', by simp⟩) Try.func67 rfl ⟨rfl, rfl, rfl, rfl, rfl⟩
 have hbk2 : (ok == 2) = false := by simp [h2]
 simp only [hbk2]
 refine Aa z67 ?_
 by_cases h3 : ok = 3
 ·subst h3
  have ht3 : K.tgt e1 = (K.s e1, if good oa then .inr (.t oa) else .inl ⟨false, 0, []⟩) := ht1
  refine Aa z67 ?_
  have hg := Fi K (there_all (Fz K e1) (fz0 K e1) oa ht3)
  refine Bt (K := K.toLb) (e := e1) (l := fr :: l) (f := 63) (Q := fun x e' => ∃ h : Kept K e1 e', ∃ b, x = .bool b /\ (Fz K e1).tgt ⟨e', h⟩ = ((Fz K e1).s ⟨e', h⟩, .inl ⟨b, 0, []⟩)) ?_ Aj (by rfl) (by decide) rfl Try.func63 (by kernel_rfl) (by rfl) ⟨rfl, rfl, _, Try.func67⟩ (Bl hp hl) ?_
  ·walk_nrm
   exact hg
  rintro x e2 ⟨hkept, b, rfl, ht4⟩
  obtain ⟨hm2, hb2⟩ := hkept (N + 1) hmn
  rw [c2] at hb2
  clear hg
  replace ht4 : K.tgt e2 = (K.s e2, .inl ⟨b, 0, []⟩) := ht4
  have hap2 := (K.mineA e2 _ hm2).1
  unfold LW
  walk_nrm
  refine Aa z67 ?_
  refine Az 46 (.tmp 8) (.tmp 43) Aj (by rfl) (by decide) rfl (N + 1) #[.bool b, .int .i64 0, .slice none 0 0] _ 46 rfl rfl hb2 (by kernel_rfl) (by rfl) (by simp [Value.oneCell']) hap2 ?_
  walk_nrm
  refine Aa z67 ?_
  exact Dr K (a := ⟨b, 0, []⟩) (sl := .slice none 0 0) hm2 hb2 ht4 (GatL.nil K e2) (fun e' h h' => hk _ e' ⟨_, _, h, rfl, h', by simp⟩) Try.func67 rfl ⟨rfl, rfl, rfl, rfl, rfl⟩
 have hbk3 : (ok == 3) = false := by simp [h3]
 simp only [hbk3]
 refine Aa z67 ?_
 by_cases h4 : ok = 4
 ·subst h4
  have ht3 : K.tgt e1 = (K.s e1, hiD n oa ob) := ht1
  refine Aa z67 ?_
  have hg := Fi K (highest_s (Fz K e1) (fz0 K e1) oa ob ht3)
  refine Bt (K := K.toLb) (e := e1) (l := fr :: l) (f := 62) (Q := fun x e' => ∃ h : Kept K e1 e', Oh (Fz K e1) x ⟨e', h⟩) ?_ Aj (by rfl) (by decide) rfl Try.func62 (by kernel_rfl) (by rfl) ⟨rfl, rfl, _, Try.func67⟩ (Bl hp hl) ?_
  ·walk_nrm
   exact hg
  rintro x e2 ⟨hkept, y, rfl, ht4⟩
  obtain ⟨hm2, hb2⟩ := hkept (N + 1) hmn
  rw [c2] at hb2
  clear hg
  replace ht4 : K.tgt e2 = (K.s e2, .inl ⟨true, y, []⟩) := ht4
  have hap2 := (K.mineA e2 _ hm2).1
  unfold LW
  walk_nrm
  refine Aa z67 ?_
  refine Az 46 (.tmp 8) (.tmp 53) Aj (by rfl) (by decide) rfl (N + 1) #[.bool true, .int .i64 y, .slice none 0 0] _ 46 rfl rfl hb2 (by kernel_rfl) (by rfl) (by simp [Value.oneCell']) hap2 ?_
  walk_nrm
  refine Aa z67 ?_
  exact Dr K (a := ⟨true, y, []⟩) (sl := .slice none 0 0) hm2 hb2 ht4 (GatL.nil K e2) (fun e' h h' => hk _ e' ⟨_, _, h, rfl, h', by simp⟩) Try.func67 rfl ⟨rfl, rfl, rfl, rfl, rfl⟩
 have hbk4 : (ok == 4) = false := by simp [h4]
 simp only [hbk4]
 refine Aa z67 ?_
 by_cases h5 : ok = 5
 ·subst h5
  have ht3 : K.tgt e1 = (K.s e1, gbD n oa ob) := ht1
  refine Aa z67 ?_
  have hg := Fi K (gather_s (Fz K e1) (fz0 K e1) oa ob ht3)
  refine Bt (K := K.toLb) (e := e1) (l := fr :: l) (f := 73) (Q := fun x e' => ∃ h : Kept K e1 e', Ng (Fz K e1) x ⟨e', h⟩) ?_ Aj (by rfl) (by decide) rfl Try.func73 (by kernel_rfl) (by rfl) ⟨rfl, rfl, _, Try.func67⟩ (Bl hp hl) ?_
  ·walk_nrm
   exact hg
  rintro x e2 ⟨hkept, sl, er, ls, rfl, hls, hln, ht4⟩
  obtain ⟨hm2, hb2⟩ := hkept (N + 1) hmn
  rw [c2] at hb2
  clear hg
  replace ht4 : K.tgt e2 = (K.s e2, .inl ⟨er == 0, er, ls⟩) := ht4
  have hls2 : GatL K e2 sl ls := ⟨hls.1, hls.2.1, fun b hb => (hls.2.2 b hb).1⟩
  have hap2 := (K.mineA e2 _ hm2).1
  have hcb := fun fr' hfr => Dr K (F := 67) (fr := fr') (c := fr) (l := l) (a := ⟨er == 0, er, ls⟩) (sl := sl) hm2 hb2 ht4 hls2 (fun e' h h' => hk _ e' ⟨_, _, h, rfl, h', hln⟩) Try.func67 rfl hfr
  obtain ⟨sa, sc, rfl⟩ := hls.1
  clear hls hls2 ht4
  generalize ls.length = ln at *
  unfold LW
  walk_nrm
  refine Aa z67 ?_
  refine Az 46 (.tmp 8) (.tmp 70) Aj (by rfl) (by decide) rfl (N + 1) #[.bool (er == 0), .int .i64 er, .slice sa ln sc] _ 46 rfl rfl hb2 (by kernel_rfl) (by rfl) (by simp [Value.oneCell']) hap2 ?_
  walk_nrm
  refine Aa z67 ?_
  exact hcb _ ⟨rfl, rfl, rfl, rfl, rfl⟩
 have hbk5 : (ok == 5) = false := by simp [h5]
 simp only [hbk5]
 refine Aa z67 ?_
 have ht3 : K.tgt e1 = (K.s e1, .inl aNoR) := ht1.trans (rgEnter_no _ _ _ h1 h2 h3 h4 h5)
 refine Aa z67 ?_
 refine Az 46 (.tmp 8) (.tmp 71) Aj (by rfl) (by decide) rfl (N + 1) #[.bool false, .int .i64 0, .slice none 0 0] _ 46 rfl rfl c2 (by kernel_rfl) (by rfl) (by simp [Value.oneCell']) hapN ?_
 walk_nrm
 refine Aa z67 ?_
 exact Dr K (a := aNoR) (sl := .slice none 0 0) hmn c2 ht3 (GatL.nil K e1) (fun e' h h' => hk _ e' ⟨_, _, h, rfl, h', by simp [aNoR]⟩) Try.func67 rfl ⟨rfl, rfl, rfl, rfl, rfl⟩
theorem rdo_ok : DoFn (Bs rb sb n) 67 #[.pointer (some ⟨rb, 0, none⟩)] #[] :=
 ⟨⟨_, Try.func67, by kernel_rfl, by rfl⟩, fun sv K e th op ht => (rdo_s K e th op.k op.a op.b op.c ht).mono fun v e' ⟨a, sl, h1, h2, h3, h4⟩ => ⟨a, sl, h1, h2, h3.lsR, by omega⟩⟩
end
end
end Go.Proofs.Ytcdcnmphjhfbpaa
