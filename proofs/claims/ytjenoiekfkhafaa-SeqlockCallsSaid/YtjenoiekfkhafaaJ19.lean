/- Part 19. -/
import Derived.Test.YtjenoiekfkhafaaJ15
import Derived.Test.YtjenoiekfkhafaaJ17
import Derived.Test.YtjenoiekfkhafaaJ18
set_option linter.unusedSimpArgs false
set_option linter.unusedVariables false
set_option linter.unusedVariables false
set_option maxHeartbeats 8000000
set_option maxRecDepth 100000
namespace Go.Proofs.Ytjenoiekfkhafaa
open Go.Conc Go.RowKit Go.Relay
open Go.ConcN (upd upd_ne upd_same)
structure Closing (f : FuncId) (t : Tmp) (v : Value) (g : Goroutine) : Prop where
 all : ∃ fr, g = G fr [] /\ fr.mode = .returning /\ fr.kind = .normal /\ fr.defers = [] /\ fr.fn = f /\ fr.tmps.getD t undef = v
theorem fixed_run (c : Frame) (cs : List Frame) (w : World) : Runs (fun g w' => g = G (c.finish (.bool true)) cs /\ (∀ b, b < w.heap.size -> w'.heap[b]? = w.heap[b]?) /\ w.heap.size <= w'.heap.size) (G (Frame.enter Try.prog 12 #[] .normal) (c :: cs)) w := by
 refine Runs.walk (fixed_in c cs w) ?_
 rintro _ w1 ⟨fr, rfl, O1, Z1, ha1, hw1, I1, hs1, hB⟩
 refine Runs.then (splay_any _ [1, 2] (by decide) (.slice (some ⟨w.heap.size + 3, 0, none⟩) 2 2) 99 (some ⟨w.heap.size + 3, 0, none⟩) (w.heap.size + 3) 0 2 2 (fun _ => rfl) (by decide) _ _ _ _ (some ⟨w.heap.size + 4, 0, none⟩) 9 fxSl (by decide) fr (c :: cs) w1 (fx_lsR hw1) I1 (fun j z hz => ⟨_, 0, rfl, hs1 j z hz⟩) (fun w' _ => Jc _ 2 2 w' (by decide) (.inr ⟨_, rfl⟩))) ?_
 rintro _ w2 ⟨cells, H, rfl⟩
 have O2 := H.old
 have Z2 := H.size
 have hT := H.tr.tr
 rw [fx_state] at hT
 have l1 := (Array.getElem?_eq_some_iff.1 ha1).1
 refine Runs.walk (hB cells _ _ _ w2 hT (fx_run _) ((O2 _ l1).trans ha1)) ?_
 rintro _ w3 ⟨fr2, b, o, ac, b0, o0, tc0, sb, so, sc, v1, rfl, O3, Z3, C3, hw3, I3, hs3, hB3⟩
 refine Runs.then (splay_any _ [1, 2] (by decide) (.slice (some ⟨w2.heap.size + 3, 0, none⟩) 2 2) 99 (some ⟨w2.heap.size + 3, 0, none⟩) (w2.heap.size + 3) 0 2 2 (fun _ => rfl) (by decide) _ _ _ _ (some ⟨w2.heap.size + 4, 0, none⟩) 7 fySl (by decide) fr2 (c :: cs) w3 (fx_lsR hw3) I3 (fun j z hz => ⟨_, 0, rfl, hs3 j z hz⟩) (fun w' _ => Jc _ 2 2 w' (by decide) (.inr ⟨_, rfl⟩))) ?_
 rintro _ w4 ⟨cells4, H4, rfl⟩
 have O4 := H4.old
 have Z4 := H4.size
 refine Runs.walk (hB3 cells4 _ _ _ _ w4 (C3.old O4) H4.tr.tr (fy_run _)) ?_
 rintro _ w5 ⟨rfl, O5, Z5⟩
 exact .now ⟨rfl, fun b hb => (O5 b (by omega)).trans ((O4 b (by omega)).trans ((O3 b (by omega)).trans ((O2 b (by omega)).trans (O1 b hb)))), by omega⟩
section
noncomputable def reg40_0 := rk Try.f40.body 0
noncomputable def reg40_1 := rk Try.f40.body 1
noncomputable def reg40_2 := rk Try.f40.body 2
noncomputable def reg40_3 := rk Try.f40.body 3
noncomputable def reg40_5 := rk Try.f40.body 5
noncomputable def reg40_4 := rk Try.f40.body 4
noncomputable def reg40_6 := rk Try.f40.body 6
theorem z40 : reg40_0.size = 2 /\ reg40_1.size = 1 /\ reg40_2.size = 1 /\ reg40_3.size = 3 /\ reg40_4.size = 3 /\ reg40_5.size = 11 /\ reg40_6.size = 2 := by and_intros <;> kernel_rfl
theorem code40_is : Try.f40.body = some (.seq (.region 0 reg40_0 false) (.seq (.region 1 reg40_1 false) (.seq (.seq (.region 2 reg40_2 false) (.block 0 (.loop (.seq (.seq (.region 3 reg40_3 false) (.cond (.tmp 9 ) (.skip) (.exit 0))) (.seq (.block 1 (.region 5 reg40_5 false)) (.region 4 reg40_4 false)))))) (.seq (.region 6 reg40_6 false) (.ret))))) := by kernel_rfl
noncomputable def hdLv (X n : Nat) (lv : Value) (i : Nat) (u : Nat -> Value) : Frame :=
 (base 40).at { tmps := #[u 0, .int .i64 n, .pointer (some ⟨X, 0, none⟩), u 3, u 4, lv, .int .i64 i, u 7, u 8, u 9, u 10, u 11, u 12, u 13, u 14, u 15, u 16, u 17, u 18, u 19, u 20, u 21, u 22], defers := [] } [.code (.seq (.seq (.region 3 reg40_3 false) (.cond (.tmp 9 ) (.skip) (.exit 0))) (.seq (.block 1 (.region 5 reg40_5 false)) (.region 4 reg40_4 false))), .inLoop (.seq (.seq (.region 3 reg40_3 false) (.cond (.tmp 9 ) (.skip) (.exit 0))) (.seq (.block 1 (.region 5 reg40_5 false)) (.region 4 reg40_4 false))), .inBlock 0, .code (.seq (.region 6 reg40_6 false) (.ret))]
structure LvI (w0 : World) (X : Nat) (o : OpV) (i : Nat) (ta : Option Addr) (tc : Nat) (w : World) : Prop where
 op : w.heap[X]? = some (.cells #[.int .i64 o.k, .int .i64 o.a, .int .i64 o.b, .int .i64 o.c] 47)
 row : w.ownsRow (X + 1) 2 1 (.slice ta i tc) i (((List.range i).map (Ar o)).map fun z => .int .i64 z)
 old : ∀ b, b < w0.heap.size -> w.heap[b]? = w0.heap[b]?
 lo : w0.heap.size <= X /\ X < w.heap.size
theorem LvI.at {w0 : World} {X : Nat} {o : OpV} {i : Nat} {ta : Option Addr} {tc : Nat} {w : World} (h : LvI w0 X o i ta tc w) (d : Nat) : LvI w0 X o i ta tc (w.at d) := ⟨h.op, Aw h.row fun _ _ => rfl, h.old, h.lo⟩
section
variable {main : Bool} {V : Nat -> Option Wait}
theorem lv_in (o : OpV) (n : Nat) (w : World) (cs : List Frame) :
  Walk Try.prog main (DR V) (fun g w' => (∃ u, g = G (hdLv w.heap.size n (.slice none 0 0) 0 u) cs) /\ LvI w w.heap.size o 0 none 0 w') (G (Frame.enter Try.prog 40 #[Bu o, .int .i64 (n : Nat)] .normal) cs) w := by
 obtain ⟨ok, oa, ob, oc⟩ := o
 simp only [Bu]
 rw [enter_at _ Try.func40 code40_is]
 simp only [Try.ntmps40, ez, Nat.reduceAdd, Nat.reduceSub]
 refine Aa z40 ?_
 (refine Walk.oa ?_; try walk_nrm)
 have s0 : (w.alloc (.cells #[.int .i64 ok, .int .i64 oa, .int .i64 ob, .int .i64 oc] 47)).heap.size = w.heap.size + 1 := by simp
 have o0 : ∀ b, b < w.heap.size -> (w.alloc (.cells #[.int .i64 ok, .int .i64 oa, .int .i64 ob, .int .i64 oc] 47)).heap[b]? = w.heap[b]? := fun b hb => Ab _ _ hb
 have d0 := heap_alloc_new w (.cells #[.int .i64 ok, .int .i64 oa, .int .i64 ob, .int .i64 oc] 47)
 generalize hX : w.heap.size = X at *
 generalize w.alloc (.cells #[.int .i64 ok, .int .i64 oa, .int .i64 ob, .int .i64 oc] 47) = w1 at *
 refine Aa z40 ?_
 refine Walk.ctl rfl (fun w => stepG_loop) ?_
 refine .stop fun d => ⟨Am ?_, LvI.at ⟨d0, ⟨rfl, .inl ⟨rfl, rfl⟩⟩, fun b hb => o0 b (by omega), by omega, by omega⟩ d⟩
 simp only [hdLv]
 rfl
theorem lv_go (o : OpV) (X n i : Nat) (hn : n <= 16) (hi : i < n) (ta : Option Addr) (tc : Nat) (u : Nat -> Value) (cs : List Frame) (w0 w : World) (M : LvI w0 X o i ta tc w) (hA : ∀ b, w0.heap.size <= b -> Ay V b) :
  Walk Try.prog main (DR V) (fun g w' => ∃ ta' tc', (∃ u, g = G (hdLv X n (.slice ta' (i + 1) tc') (i + 1) u) cs) /\ LvI w0 X o (i + 1) ta' tc' w') (G (hdLv X n (.slice ta i tc) i u) cs) w := by
 obtain ⟨hop, hrow, hold, hlo⟩ := M
 have hi2 := Option.some_get (show (Try.prog.info? 2).isSome = true by kernel_rfl)
 have c2 := (Ad hop 2).trans rfl
 have c3 := (Ad hop 3).trans rfl
 have hi0 : (0 : Int) <= i := by omega
 have hi1 : decide ((i : Int) < n) = true := by simp; omega
 have hi3 : decide (i < n) = true := by simp; omega
 have hw1 : IntKind.wrap .i64 ((i : Int) + 1) = (i : Int) + 1 := by rw [IntKind.wrap_i64]; omega
 have hw2 : IntKind.wrap .i64 (i : Int) = (i : Int) := by rw [IntKind.wrap_i64]; omega
 have hv : IntKind.i64.wrap (o.b + IntKind.i64.wrap ((i : Int) * o.c)) = Ar o i := rfl
 unfold hdLv
 refine Aa z40 ?_
 try simp only [hv]
 generalize hz : Ar o i = z at *
 (refine Walk.oa ?_; try walk_nrm)
 have s1 : (w.alloc (.cells #[.int .i64 z] 2)).heap.size = w.heap.size + 1 := by simp
 have o1 : ∀ b, b < w.heap.size -> (w.alloc (.cells #[.int .i64 z] 2)).heap[b]? = w.heap[b]? := fun b hb => Ab _ _ hb
 have d1 := heap_alloc_new w (.cells #[.int .i64 z] 2)
 have hrow1 : (w.alloc (.cells #[.int .i64 z] 2)).ownsRow (X + 1) 2 1 (.slice ta i tc) i (((List.range i).map (Ar o)).map fun z => .int .i64 z) := Aw hrow fun b hb => o1 b (hrow.lt b hb).2
 have hnews : ∀ (q : Nat) (x : Value), ([.int .i64 z] : List Value)[q]? = some x -> (w.alloc (.cells #[.int .i64 z] 2)).cell? ((⟨w.heap.size, 0, none⟩ : Addr).add q) = some x := fun q x hx => by
  rw [Bj, Nat.zero_add]
  refine (Ad d1 q).trans ?_
  simpa using hx
 refine Walk.append (.tmp 12) (.tmp 20) 22 Ao (by rfl) (by decide) rfl (X + 1) 2 _ (.int .i64 0) 1 8 Ff hi2.symm (by rfl) (by rfl) (by rfl) (by rfl) (by decide) (.slice ta i tc) i _ rfl hrow1 ⟨w.heap.size, 0, none⟩ 1 1 [.int .i64 z] rfl (by rfl) hnews (by simp [Value.oneCell']) (by decide) (by simp [maxLen]; omega) (by omega) (by omega) (fun b hb => hA b (by have := (hrow1.lt b hb).1; omega)) (fun g gcap w3 hown3 hgr hat hlt => ?_)
 have hold3 : ∀ b, b < w0.heap.size -> w3.heap[b]? = w0.heap[b]? := fun b hb => (hgr.block b (by omega) (fun he => by have := (hrow1.lt b he.symm).1; omega)).trans ((o1 b (by omega)).trans (hold b hb))
 have hop3 : w3.heap[X]? = some (.cells #[.int .i64 o.k, .int .i64 o.a, .int .i64 o.b, .int .i64 o.c] 47) := (hgr.block X (by omega) (fun he => by have := (hrow1.lt X he.symm).1; omega)).trans ((o1 X (by omega)).trans hop)
 have hs3 := hgr.size
 clear hrow1 hnews o1 d1
 walk_nrm
 refine Aa z40 ?_
 refine Walk.ctl rfl (fun w => stepG_inLoop) ?_
 refine .stop fun d => ⟨some ⟨g, 0, none⟩, gcap, Am ?_, LvI.at ⟨hop3, ?_, hold3, by omega, by omega⟩ d⟩
 ·have hc : ((i + 1 : Nat) : Int) = (i : Int) + 1 := by simp
  simp only [hdLv, hc]
  rfl
 ·rw [Ng, hz, List.map_append]
  exact hown3
theorem lv_end (X n : Nat) (lv : Value) (u : Nat -> Value) (c : Frame) (cs : List Frame) (w : World) :
  Walk Try.prog main (DR V) (fun g w' => g = G (c.finish lv) cs /\ ∃ d, w' = w.at d) (G (hdLv X n lv n u) (c :: cs)) w := by
 unfold hdLv
 refine Aa z40 ?_
 exact Bh rfl rfl Try.func40 rfl (.stop fun d => ⟨rfl, d, rfl⟩)
def NewLs (n : Nat) (xs : List Int) (w : World) (v : Value) (w' : World) : Prop := ∃ ta tc, v = .slice ta n tc /\ LsR v xs w' /\ (∀ b, b < w.heap.size -> w'.heap[b]? = w.heap[b]?) /\ w.heap.size <= w'.heap.size
theorem row_lsR {w : World} {base : Nat} {ta : Option Addr} {tc : Nat} {xs : List Int} (h : w.ownsRow base 2 1 (.slice ta xs.length tc) xs.length (xs.map fun z => .int .i64 z)) : LsR (.slice ta xs.length tc) xs w := by
 have hnum := Iq h
 rcases h.2 with ⟨e, h0⟩ | ⟨g, cap, cur, e, _, _, hle, _⟩
 ·injection e with e1 e2 e3
  exact ⟨ta, tc, rfl, by omega, fun _ => e3, fun j z hj => hnum j z hj⟩
 ·injection e with e1 e2 e3
  exact ⟨ta, tc, rfl, by omega, fun e => (by rw [e1] at e; cases e), fun j z hj => hnum j z hj⟩
theorem lv_w (o : OpV) (n : Nat) (hn : n <= 16) (w : World) (hA : ∀ b, w.heap.size <= b -> Ay V b) : CallW Try.prog main V 40 #[Bu o, .int .i64 (n : Nat)] w (NewLs n ((List.range n).map (Ar o)) w) := by
 intro c cs
 refine (lv_in o n w (c :: cs)).then ?_
 rintro g w1 ⟨⟨u, rfl⟩, M⟩
 have loop : ∀ (r i : Nat) (ta : Option Addr) (tc : Nat) (u : Nat -> Value) (w1 : World), i + r = n -> LvI w w.heap.size o i ta tc w1 ->
   Walk Try.prog main (DR V) (fun g w' => ∃ v, NewLs n ((List.range n).map (Ar o)) w v w' /\ g = G (c.finish v) cs) (G (hdLv w.heap.size n (.slice ta i tc) i u) (c :: cs)) w1 := by
  intro r
  induction r with
  | zero =>
   intro i ta tc u w1 hi M
   obtain rfl : i = n := hi
   refine (lv_end _ i _ u c cs w1).mono ?_
   rintro g w' ⟨rfl, d, rfl⟩
   have hl : ((List.range i).map (Ar o)).length = i := by simp
   have hr := M.row
   have := row_lsR (xs := (List.range i).map (Ar o)) (ta := ta) (tc := tc) (w := w1) (base := w.heap.size + 1) (by rw [hl]; exact hr)
   rw [hl] at this
   exact ⟨_, ⟨ta, tc, rfl, this.same (w' := w1.at d) fun _ _ => rfl, M.old, by have := M.lo; show w.heap.size <= w1.heap.size; omega⟩, rfl⟩
  | succ r ih =>
   intro i ta tc u w1 hi M
   refine (lv_go o _ n i (by omega) (by omega) ta tc u (c :: cs) w w1 M hA).then ?_
   rintro g w' ⟨ta', tc', ⟨u', rfl⟩, M'⟩
   exact ih (i + 1) ta' tc' u' w' (by omega) M'
 exact loop n 0 none 0 u w1 (by omega) M
end
end
section
noncomputable def reg19_0 := rk Try.f19.body 0
noncomputable def reg19_1 := rk Try.f19.body 1
noncomputable def reg19_2 := rk Try.f19.body 2
noncomputable def reg19_4 := rk Try.f19.body 4
noncomputable def reg19_5 := rk Try.f19.body 5
theorem size19_5 : reg19_5.size = 10 := by kernel_rfl
noncomputable def reg19_6 := rk Try.f19.body 6
noncomputable def reg19_7 := rk Try.f19.body 7
theorem size19_7 : reg19_7.size = 10 := by kernel_rfl
noncomputable def reg19_8 := rk Try.f19.body 8
noncomputable def reg19_9 := rk Try.f19.body 9
noncomputable def reg19_10 := rk Try.f19.body 10
noncomputable def reg19_11 := rk Try.f19.body 11
noncomputable def reg19_12 := rk Try.f19.body 12
noncomputable def reg19_13 := rk Try.f19.body 13
noncomputable def reg19_3 := rk Try.f19.body 3
noncomputable def reg19_14 := rk Try.f19.body 14
theorem z19 : reg19_0.size = 2 /\ reg19_1.size = 3 /\ reg19_2.size = 2 /\ reg19_3.size = 2 /\ reg19_4.size = 2 /\ reg19_5.size = 10 /\ reg19_6.size = 2 /\ reg19_7.size = 10 /\ reg19_8.size = 2 /\ reg19_9.size = 12 /\ reg19_10.size = 2 /\ reg19_11.size = 5 /\ reg19_12.size = 2 /\ reg19_13.size = 12 /\ reg19_14.size = 2 := by and_intros <;> kernel_rfl
theorem code19_is : Try.f19.body = some (.seq (.region 0 reg19_0 false) (.seq (.region 1 reg19_1 false) (.seq (.seq (.region 2 reg19_2 false) (.block 0 (.seq (.region 4 reg19_4 false) (.cond (.tmp 14 ) (.region 5 reg19_5 true) (.seq (.region 6 reg19_6 false) (.cond (.tmp 25 ) (.region 7 reg19_7 true) (.seq (.region 8 reg19_8 false) (.cond (.tmp 36 ) (.region 9 reg19_9 false) (.seq (.region 10 reg19_10 false) (.cond (.tmp 48 ) (.region 11 reg19_11 false) (.seq (.region 12 reg19_12 false) (.cond (.tmp 54 ) (.region 13 reg19_13 false) (.seq (.region 3 reg19_3 false) (.ret)))))))))))))) (.seq (.region 14 reg19_14 false) (.ret))))) := by kernel_rfl
section
variable {lb k : Nat} {sv : Value}
def Fj (lb n : Nat) (sv : Value) (X R A : Nat) (u : Nat -> Value) : Array Value := #[.pointer (some ⟨lb, 0, none⟩), sv, u 2, .int .i64 n, u 4, u 5, .pointer (some ⟨X, 0, none⟩), u 7, .pointer (some ⟨R, 0, none⟩), .pointer (some ⟨A, 0, none⟩), u 10, u 11, u 12, u 13, u 14, u 15, u 16, u 17, u 18, u 19, u 20, u 21, u 22, u 23, u 24, u 25, u 26, u 27, u 28, u 29, u 30, u 31, u 32, u 33, u 34, u 35, u 36, u 37, u 38, u 39, u 40, u 41, u 42, u 43, u 44, u 45, u 46, u 47, u 48, u 49, u 50, u 51, u 52, u 53, u 54, u 55, u 56, u 57, u 58, u 59, u 60, u 61, u 62, u 63, u 64, u 65, u 66]
def CaPh (K : Lg (Aj lb k) sv) (ad : Bool) (n : Nat) (o : OpV) (X R A d6 d7 : Nat) (f : Nat -> Bool) (u : Nat -> Value) (e : K.E) (w' : World) : Prop :=
 (f 7 = false /\ f 9 = false /\ K.tgt e = (K.s e, .inr (.w1 ad (Bv o.a) (Ar o))) /\ (K.w e).heap[X]? = some (.cells #[.int .i64 o.k, .int .i64 o.a, .int .i64 o.b, .int .i64 o.c] 47) /\ K.mine e A /\ (K.w e).heap[A]? = some (.cells #[.bool true, .int .i64 0, .slice none 0 0] 44) /\ K.mine e R /\ (K.w e).heap[R]? = some (.cells #[.bool false, .int .i64 0, .slice none 0 0] 44) /\ (∃ d, w' = (K.w e).at d) /\
  (f 6 = true -> ∃ ta tc, u d6 = .slice ta n tc /\ LsR (.slice ta n tc) ((List.range n).map (Ar o)) (K.w e))) ∨
 (f 7 = true /\ ∃ b, u d7 = .bool b /\ K.tgt e = (K.s e, .inl ⟨b, 0, []⟩) /\ K.mine e A /\ (K.w e).heap[A]? = some (.cells #[.bool true, .int .i64 0, .slice none 0 0] 44) /\ K.mine e R /\ (K.w e).heap[R]? = some (.cells #[.bool false, .int .i64 0, .slice none 0 0] 44) /\
  ((f 9 = false /\ ∃ d, w' = (K.w e).at d) ∨ (f 9 = true /\ ∃ d, w' = ((K.w e).setCell ⟨A, 0, none⟩ (.bool b)).at d)))
variable {K : Lg (Aj lb k) sv} {ad : Bool} {n : Nat} {o : OpV} {X R A d6 d7 : Nat} {f : Nat -> Bool} {u : Nat -> Value} {e : K.E} {w' : World}
theorem CaPh.quiet {j d : Nat} {v : Value} (h : CaPh K ad n o X R A d6 d7 f u e w') (hj : j ≠ 6 /\ j ≠ 7 /\ j ≠ 9) (hd : d ≠ d6 /\ d ≠ d7) : CaPh K ad n o X R A d6 d7 (upd f j true) (upd u d v) e w' := by
 unfold CaPh
 rw [upd_ne f true (Ne.symm hj.1), upd_ne f true (Ne.symm hj.2.1), upd_ne f true (Ne.symm hj.2.2), upd_ne u v (Ne.symm hd.1), upd_ne u v (Ne.symm hd.2)]
 exact h
theorem CaPh.early (h : CaPh K ad n o X R A d6 d7 f u e w') (h7 : f 7 = false) : w'.heap[X]? = some (.cells #[.int .i64 o.k, .int .i64 o.a, .int .i64 o.b, .int .i64 o.c] 47) := by
 rcases h with ⟨_, _, _, hX, _, _, _, _, ⟨d, rfl⟩, _⟩ | ⟨h, _⟩
 ·exact hX
 ·rw [h7] at h; cases h
variable {fr : Frame} {l : List Frame}
theorem caW_reg (K : Lg (Aj lb k) sv) (n : Nat) (hn1 : n <= k + 1) (hn2 : k + 1 <= n) (o : OpV) (X R A : Nat) (hp : Bf fr) (hl : ∀ f ∈ l, Bf f) (e0 : K.E) (T : Array Value) (hT : T = Fj lb n sv X R A (fun j => T.getD j undef)) (hX : (K.w e0).heap[X]? = some (.cells #[.int .i64 o.k, .int .i64 o.a, .int .i64 o.b, .int .i64 o.c] 47)) (hmA : K.mine e0 A) (hA : (K.w e0).heap[A]? = some (.cells #[.bool true, .int .i64 0, .slice none 0 0] 44)) (hmR : K.mine e0 R) (hR : (K.w e0).heap[R]? = some (.cells #[.bool false, .int .i64 0, .slice none 0 0] 44)) (ht : K.tgt e0 = (K.s e0, .inr (.w1 false (Bv o.a) (Ar o)))) (kk : List Item)
  (hk : ∀ (u : Nat -> Value) (e : K.E) b, K.tgt e = (K.s e, .inl ⟨b, 0, []⟩) -> K.mine e A -> (K.w e).heap[A]? = some (.cells #[.bool true, .int .i64 0, .slice none 0 0] 44) -> K.mine e R -> (K.w e).heap[R]? = some (.cells #[.bool false, .int .i64 0, .slice none 0 0] 44) -> Walk Try.prog K.main (DR (K.V e)) (K.Stop e) (G ((base 19).at ⟨Fj lb n sv X R A u, []⟩ (.inRegion reg19_5 [] :: kk)) (fr :: (l ++ K.bot e))) ((K.w e).setCell ⟨A, 0, none⟩ (.bool b))) :
  Walk Try.prog K.main (DR (K.V e0)) (K.Stop e0) (G ((base 19).at ⟨T, []⟩ (.code (.region 5 reg19_5 true) :: kk)) (fr :: (l ++ K.bot e0))) (K.w e0) := by
 obtain ⟨fsO, huO⟩ := Cf 47 (by kernel_rfl)
 have hk15 := (K.inv e0).pos
 rw [hT]
 generalize (fun j => T.getD j undef) = u0
 clear hT
 refine Ed (E := K.E × World) (V := fun x => K.V x.1) (Stop := fun x => K.Stop x.1) (cs := fun x => fr :: (l ++ K.bot x.1)) (w := fun x => x.2)
  (Inv := fun f a x => ∃ u, a = ⟨Fj lb n sv X R A u, []⟩ /\ Facts [16, 17, 18, 19, 20, 21, 1006, 1007, 24, 1009] [.pointer (some ⟨lb, 0, none⟩), sv, .pointer (some ⟨X, 1, none⟩), .int .i64 o.a, Bu o, .int .i64 n, undef, undef, .pointer (some ⟨A, 0, none⟩), undef] f u /\ CaPh K false n o X R A 22 23 f u x.1 x.2) (e0, K.w e0) (by kernel_rfl) (by kernel_rfl)
  ⟨u0, rfl, Cx _ _ _, .inl ⟨rfl, rfl, ht, hX, hmA, hA, hmR, hR, ⟨(K.w e0).drawn, rfl⟩, fun h => (by cases h)⟩⟩ ?_ ?_
 ·rintro f oi op a ⟨e, w'⟩ ⟨u, rfl, F, hw⟩ hC hfi ho hdeps rest hr
  dsimp only at hw hr ⊢
  have hil : oi < 10 := (Array.getElem?_eq_some_iff.1 ho).1
  match oi, hil with
  | 0, _ =>
   have h7 : f 7 = false := by
    cases h : f 7 with
    | false => rfl
    | true =>
     have h7_0 := (hC.deps (l := [0]) h (by kernel_rfl)) 0 (by simp)
     rw [hfi] at h7_0; cases h7_0
   have hX := hw.early h7
   clear hdeps ho hC hfi
   simp only [Fj] at hr ⊢
   (refine Walk.oq ?_; try walk_nrm)
   refine hr _ (e, w') ⟨upd u 16 (.pointer (some ⟨lb, 0, none⟩)), ?_, F.set (by decide) rfl rfl, hw.quiet (by decide) (by decide)⟩
   simp [Fj, upd]
  | 1, _ =>
   have h7 : f 7 = false := by
    cases h : f 7 with
    | false => rfl
    | true =>
     have h7_1 := (hC.deps (l := [1]) h (by kernel_rfl)) 1 (by simp)
     rw [hfi] at h7_1; cases h7_1
   have hX := hw.early h7
   clear hdeps ho hC hfi
   simp only [Fj] at hr ⊢
   (refine Walk.oq ?_; try walk_nrm)
   refine hr _ (e, w') ⟨upd u 17 (sv), ?_, F.set (by decide) rfl rfl, hw.quiet (by decide) (by decide)⟩
   simp [Fj, upd]
  | 2, _ =>
   have h7 : f 7 = false := by
    cases h : f 7 with
    | false => rfl
    | true =>
     have h7_3 := (hC.deps (l := [3]) h (by kernel_rfl)) 3 (by simp)
     have h3_2 := (hC.deps (l := [2]) h7_3 (by kernel_rfl)) 2 (by simp)
     rw [hfi] at h3_2; cases h3_2
   have hX := hw.early h7
   clear hdeps ho hC hfi
   simp only [Fj] at hr ⊢
   (refine Walk.oq ?_; try walk_nrm)
   refine hr _ (e, w') ⟨upd u 18 (.pointer (some ⟨X, 1, none⟩)), ?_, F.set (by decide) rfl rfl, hw.quiet (by decide) (by decide)⟩
   simp [Fj, upd]
  | 3, _ =>
   have h7 : f 7 = false := by
    cases h : f 7 with
    | false => rfl
    | true =>
     have h7_3 := (hC.deps (l := [3]) h (by kernel_rfl)) 3 (by simp)
     rw [hfi] at h7_3; cases h7_3
   have hX := hw.early h7
   have hdd := Af (l := [2]) (by kernel_rfl) ho hdeps
   have e18 := F 2 18 _ (hdd 2 (by simp)) rfl rfl
   have cX := (Ad hX 1).trans rfl
   clear hdd
   clear hdeps ho hC hfi
   simp only [Fj] at hr ⊢
   (refine Walk.oq ?_; try walk_nrm)
   refine hr _ (e, w') ⟨upd u 19 (.int .i64 o.a), ?_, F.set (by decide) rfl rfl, hw.quiet (by decide) (by decide)⟩
   simp [Fj, upd, e18]
  | 4, _ =>
   have h7 : f 7 = false := by
    cases h : f 7 with
    | false => rfl
    | true =>
     have h7_6 := (hC.deps (l := [6]) h (by kernel_rfl)) 6 (by simp)
     have h6_4 := (hC.deps (l := [4]) h7_6 (by kernel_rfl)) 4 (by simp)
     rw [hfi] at h6_4; cases h6_4
   have hX := hw.early h7
   clear hdeps ho hC hfi
   simp only [Fj] at hr ⊢
   refine Walk.loadS 47 (.tmp 6) Ao (by rfl) (by decide) rfl X 0 [.int .i64 o.k, .int .i64 o.a, .int .i64 o.b, .int .i64 o.c] (.struct fsO) rfl (fun j v hj => ?_) huO rfl (by kernel_rfl) ?_
   ·rw [Nat.zero_add, Ad hX]
    simpa using hj
   walk_nrm
   refine hr _ (e, w') ⟨upd u 20 (Bu o), ?_, F.set (by decide) rfl rfl, hw.quiet (by decide) (by decide)⟩
   simp [Fj, upd, Bu]
  | 5, _ =>
   have h7 : f 7 = false := by
    cases h : f 7 with
    | false => rfl
    | true =>
     have h7_6 := (hC.deps (l := [6]) h (by kernel_rfl)) 6 (by simp)
     have h6_5 := (hC.deps (l := [5]) h7_6 (by kernel_rfl)) 5 (by simp)
     rw [hfi] at h6_5; cases h6_5
   have hX := hw.early h7
   clear hdeps ho hC hfi
   simp only [Fj] at hr ⊢
   (refine Walk.oq ?_; try walk_nrm)
   refine hr _ (e, w') ⟨upd u 21 (.int .i64 n), ?_, F.set (by decide) rfl rfl, hw.quiet (by decide) (by decide)⟩
   simp [Fj, upd]
  | 6, _ =>
   have hdd := Af (l := [4, 5]) (by kernel_rfl) ho hdeps
   have e20 := F 4 20 _ (hdd 4 (by simp)) rfl rfl
   have e21 := F 5 21 _ (hdd 5 (by simp)) rfl rfl
   have h7 : f 7 = false := by
    cases h : f 7 with
    | false => rfl
    | true =>
     have h6 := (hC.deps (l := [6]) h (by kernel_rfl)) 6 (by simp)
     rw [hfi] at h6; cases h6
   rcases hw with ⟨_, h9, htE, hX, hmA, hA, hmR, hR, ⟨dd, rfl⟩, _⟩ | ⟨h, _⟩
   rotate_left
   ·rw [h7] at h; cases h
   refine Walk.back ?_ dd
   clear hdeps ho hC hdd
   have hv := lv_w (main := K.main) (V := K.V e) o n (by omega) (K.w e) (fun b hb => K.newA e b hb)
   simp only [Fj] at hr ⊢
   refine Ah (Post := NewLs n ((List.range n).map (Ar o)) (K.w e)) ?_ Ao (by rfl) (by decide) rfl Try.func40 (by kernel_rfl) (by rfl) ?_
   ·walk_nrm
    simp only [e20, e21]
    exact hv
   rintro v w1 ⟨ta, tc, rfl, hN, hold, hsz⟩
   obtain ⟨e1, m1⟩ := K.grow e (w' := w1) hsz hold
   have hXl : X < (K.w e).heap.size := (Array.getElem?_eq_some_iff.1 hX).1
   have hRl : R < (K.w e).heap.size := (Array.getElem?_eq_some_iff.1 hR).1
   have hAl : A < (K.w e).heap.size := (Array.getElem?_eq_some_iff.1 hA).1
   refine Dq (l := fr :: l) m1 ?_
   unfold LW
   walk_nrm
   refine hr _ (e1, K.w e1) ⟨upd (upd u 1006 undef) 22 (.slice ta n tc), ?_, Bl (F.set (by decide) rfl rfl) (by decide), .inl ⟨by rw [upd_ne _ _ (by decide)]; exact h7, by rw [upd_ne _ _ (by decide)]; exact h9, by rw [m1.tgt, m1.s]; exact htE, by rw [m1.w, hold X hXl]; exact hX, (m1.mine A).2 (.inl hmA), by rw [m1.w, hold A hAl]; exact hA, (m1.mine R).2 (.inl hmR), by rw [m1.w, hold R hRl]; exact hR, ⟨(K.w e1).drawn, rfl⟩, fun _ => ⟨ta, tc, upd_same _ _ _, by rw [m1.w]; exact hN⟩⟩⟩
   simp [Fj, upd, e20, e21]
  | 7, _ =>
   have hdd := Af (l := [0, 1, 3, 6]) (by kernel_rfl) ho hdeps
   have e16 := F 0 16 _ (hdd 0 (by simp)) rfl rfl
   have e17 := F 1 17 _ (hdd 1 (by simp)) rfl rfl
   have e19 := F 3 19 _ (hdd 3 (by simp)) rfl rfl
   have h6 := hdd 6 (by simp)
   rcases hw with ⟨_, h9, htE, hX, hmA, hA, hmR, hR, ⟨dd, rfl⟩, hB⟩ | ⟨h, _⟩
   rotate_left
   ·rw [hfi] at h; cases h
   obtain ⟨ta, tc, e22, hsl⟩ := hB h6
   refine Walk.back ?_ dd
   clear hdeps ho hC hdd
   have hlen : ((List.range n).map (Ar o)).length = n := by simp
   have hvi : Fv k (Ar o) ((List.range n).map (Ar o)) := fun i hi => by
    obtain rfl : n = k + 1 := by omega
    rw [List.take_of_length_le (by simp), Er hlen]
    simp [List.getElem?_range (show i < k + 1 by omega)]
   have hcall := Cs K (Oo (Fz K e) (Ar o) (fz0 K e) o.a (.slice ta n tc) ((List.range n).map (Ar o)) hsl hvi htE)
   simp only [Fj] at hr ⊢
   refine (?_ : LW K.toLb e (G _ ((fr :: l) ++ K.bot e)))
   refine Bb (f := 23) (Q := fun x e' => ∃ h : Lo K e e', Ge (Fz K e) x ⟨e', h⟩) ?_ Ao (by rfl) (by decide) rfl Try.func23 (by kernel_rfl) (by rfl) ⟨rfl, rfl, _, Try.func19⟩ (As hp hl) ?_
   ·walk_nrm
    simp only [e16, e17, e19, e22]
    exact hcall
   rintro v e2 ⟨hkept, b, rfl, ht2⟩
   obtain ⟨hm2, hb2⟩ := hkept R hmR
   obtain ⟨hm3, hb3⟩ := hkept A hmA
   unfold LW
   walk_nrm
   refine hr _ (e2, K.w e2) ⟨upd (upd u 1007 undef) 23 (.bool b), ?_, Bl (F.set (by decide) rfl rfl) (by decide), .inr ⟨upd_same _ _ _, b, upd_same _ _ _, ht2, hm3, hb3.trans hA, hm2, hb2.trans hR, .inl ⟨by rw [upd_ne _ _ (by decide)]; exact h9, (K.w e2).drawn, rfl⟩⟩⟩
   simp [Fj, upd, e16, e17, e19, e22]
  | 8, _ =>
   clear hdeps ho hC hfi
   simp only [Fj] at hr ⊢
   (refine Walk.oq ?_; try walk_nrm)
   refine hr _ (e, w') ⟨upd u 24 (.pointer (some ⟨A, 0, none⟩)), ?_, F.set (by decide) rfl rfl, hw.quiet (by decide) (by decide)⟩
   simp [Fj, upd]
  | 9, _ =>
   have hdd := Af (l := [7, 8]) (by kernel_rfl) ho hdeps
   have h7 := hdd 7 (by simp)
   have e24 := F 8 24 _ (hdd 8 (by simp)) rfl rfl
   rcases hw with ⟨h, _⟩ | ⟨_, b, hb, htE, hmA, hA, hmR, hR, ⟨h9, dd, rfl⟩ | ⟨h9, _⟩⟩
   ·rw [h7] at h; cases h
   rotate_left
   ·rw [hfi] at h9; cases h9
   refine Walk.back ?_ dd
   have hap := (K.mineA e _ hmA).1
   have g30 : (K.w e).cell? ⟨A, 0, none⟩ = some (.bool true) := (Ad hA 0).trans rfl
   have y30 := An hA 0
   clear hdeps ho hC hdd
   simp only [Fj, hb, e24] at hr ⊢
   (have hfr := hap.1 ⟨A, 0, none⟩ rfl; refine Walk.os hfr g30 ?_; clear hfr; try walk_nrm)
   refine hr _ (e, (K.w e).setCell ⟨A, 0, none⟩ (.bool b)) ⟨upd u 1009 undef, ?_, F.set (by decide) rfl rfl, .inr ⟨by rw [upd_ne _ _ (by decide)]; exact h7, b, by rw [upd_ne _ _ (by decide)]; exact hb, htE, hmA, hA, hmR, hR, .inr ⟨upd_same _ _ _, ((K.w e).setCell ⟨A, 0, none⟩ (.bool b)).drawn, rfl⟩⟩⟩
   simp [Fj, upd, hb, e24]
 ·rintro f a ⟨e, w'⟩ ⟨u, rfl, F, hw⟩ hall
  have hsz : reg19_5.size = 10 := size19_5
  rcases hw with ⟨h, _⟩ | ⟨_, b, _, htE, hmA, hA, hmR, hR, ⟨h9, _⟩ | ⟨_, dd, hw'⟩⟩
  ·rw [hall 7 (by omega)] at h; cases h
  ·rw [hall 9 (by omega)] at h9; cases h9
  ·dsimp only at hw' ⊢
   subst hw'
   exact Walk.back (hk u e b htE hmA hA hmR hR) dd
theorem caA_reg (K : Lg (Aj lb k) sv) (n : Nat) (hn1 : n <= k + 1) (hn2 : k + 1 <= n) (o : OpV) (X R A : Nat) (hp : Bf fr) (hl : ∀ f ∈ l, Bf f) (e0 : K.E) (T : Array Value) (hT : T = Fj lb n sv X R A (fun j => T.getD j undef)) (hX : (K.w e0).heap[X]? = some (.cells #[.int .i64 o.k, .int .i64 o.a, .int .i64 o.b, .int .i64 o.c] 47)) (hmA : K.mine e0 A) (hA : (K.w e0).heap[A]? = some (.cells #[.bool true, .int .i64 0, .slice none 0 0] 44)) (hmR : K.mine e0 R) (hR : (K.w e0).heap[R]? = some (.cells #[.bool false, .int .i64 0, .slice none 0 0] 44)) (ht : K.tgt e0 = (K.s e0, .inr (.w1 true (Bv o.a) (Ar o)))) (kk : List Item)
  (hk : ∀ (u : Nat -> Value) (e : K.E) b, K.tgt e = (K.s e, .inl ⟨b, 0, []⟩) -> K.mine e A -> (K.w e).heap[A]? = some (.cells #[.bool true, .int .i64 0, .slice none 0 0] 44) -> K.mine e R -> (K.w e).heap[R]? = some (.cells #[.bool false, .int .i64 0, .slice none 0 0] 44) -> Walk Try.prog K.main (DR (K.V e)) (K.Stop e) (G ((base 19).at ⟨Fj lb n sv X R A u, []⟩ (.inRegion reg19_7 [] :: kk)) (fr :: (l ++ K.bot e))) ((K.w e).setCell ⟨A, 0, none⟩ (.bool b))) :
  Walk Try.prog K.main (DR (K.V e0)) (K.Stop e0) (G ((base 19).at ⟨T, []⟩ (.code (.region 7 reg19_7 true) :: kk)) (fr :: (l ++ K.bot e0))) (K.w e0) := by
 obtain ⟨fsO, huO⟩ := Cf 47 (by kernel_rfl)
 have hk15 := (K.inv e0).pos
 rw [hT]
 generalize (fun j => T.getD j undef) = u0
 clear hT
 refine Ed (E := K.E × World) (V := fun x => K.V x.1) (Stop := fun x => K.Stop x.1) (cs := fun x => fr :: (l ++ K.bot x.1)) (w := fun x => x.2)
  (Inv := fun f a x => ∃ u, a = ⟨Fj lb n sv X R A u, []⟩ /\ Facts [27, 28, 29, 30, 31, 32, 1006, 1007, 35, 1009] [.pointer (some ⟨lb, 0, none⟩), sv, .pointer (some ⟨X, 1, none⟩), .int .i64 o.a, Bu o, .int .i64 n, undef, undef, .pointer (some ⟨A, 0, none⟩), undef] f u /\ CaPh K true n o X R A 33 34 f u x.1 x.2) (e0, K.w e0) (by kernel_rfl) (by kernel_rfl)
  ⟨u0, rfl, Cx _ _ _, .inl ⟨rfl, rfl, ht, hX, hmA, hA, hmR, hR, ⟨(K.w e0).drawn, rfl⟩, fun h => (by cases h)⟩⟩ ?_ ?_
 ·rintro f oi op a ⟨e, w'⟩ ⟨u, rfl, F, hw⟩ hC hfi ho hdeps rest hr
  dsimp only at hw hr ⊢
  have hil : oi < 10 := (Array.getElem?_eq_some_iff.1 ho).1
  match oi, hil with
  | 0, _ =>
   have h7 : f 7 = false := by
    cases h : f 7 with
    | false => rfl
    | true =>
     have h7_0 := (hC.deps (l := [0]) h (by kernel_rfl)) 0 (by simp)
     rw [hfi] at h7_0; cases h7_0
   have hX := hw.early h7
   clear hdeps ho hC hfi
   simp only [Fj] at hr ⊢
   (refine Walk.oq ?_; try walk_nrm)
   refine hr _ (e, w') ⟨upd u 27 (.pointer (some ⟨lb, 0, none⟩)), ?_, F.set (by decide) rfl rfl, hw.quiet (by decide) (by decide)⟩
   simp [Fj, upd]
  | 1, _ =>
   have h7 : f 7 = false := by
    cases h : f 7 with
    | false => rfl
    | true =>
     have h7_1 := (hC.deps (l := [1]) h (by kernel_rfl)) 1 (by simp)
     rw [hfi] at h7_1; cases h7_1
   have hX := hw.early h7
   clear hdeps ho hC hfi
   simp only [Fj] at hr ⊢
   (refine Walk.oq ?_; try walk_nrm)
   refine hr _ (e, w') ⟨upd u 28 (sv), ?_, F.set (by decide) rfl rfl, hw.quiet (by decide) (by decide)⟩
   simp [Fj, upd]
  | 2, _ =>
   have h7 : f 7 = false := by
    cases h : f 7 with
    | false => rfl
    | true =>
     have h7_3 := (hC.deps (l := [3]) h (by kernel_rfl)) 3 (by simp)
     have h3_2 := (hC.deps (l := [2]) h7_3 (by kernel_rfl)) 2 (by simp)
     rw [hfi] at h3_2; cases h3_2
   have hX := hw.early h7
   clear hdeps ho hC hfi
   simp only [Fj] at hr ⊢
   (refine Walk.oq ?_; try walk_nrm)
   refine hr _ (e, w') ⟨upd u 29 (.pointer (some ⟨X, 1, none⟩)), ?_, F.set (by decide) rfl rfl, hw.quiet (by decide) (by decide)⟩
   simp [Fj, upd]
  | 3, _ =>
   have h7 : f 7 = false := by
    cases h : f 7 with
    | false => rfl
    | true =>
     have h7_3 := (hC.deps (l := [3]) h (by kernel_rfl)) 3 (by simp)
     rw [hfi] at h7_3; cases h7_3
   have hX := hw.early h7
   have hdd := Af (l := [2]) (by kernel_rfl) ho hdeps
   have e29 := F 2 29 _ (hdd 2 (by simp)) rfl rfl
   have cX := (Ad hX 1).trans rfl
   clear hdd
   clear hdeps ho hC hfi
   simp only [Fj] at hr ⊢
   (refine Walk.oq ?_; try walk_nrm)
   refine hr _ (e, w') ⟨upd u 30 (.int .i64 o.a), ?_, F.set (by decide) rfl rfl, hw.quiet (by decide) (by decide)⟩
   simp [Fj, upd, e29]
  | 4, _ =>
   have h7 : f 7 = false := by
    cases h : f 7 with
    | false => rfl
    | true =>
     have h7_6 := (hC.deps (l := [6]) h (by kernel_rfl)) 6 (by simp)
     have h6_4 := (hC.deps (l := [4]) h7_6 (by kernel_rfl)) 4 (by simp)
     rw [hfi] at h6_4; cases h6_4
   have hX := hw.early h7
   clear hdeps ho hC hfi
   simp only [Fj] at hr ⊢
   refine Walk.loadS 47 (.tmp 6) Ao (by rfl) (by decide) rfl X 0 [.int .i64 o.k, .int .i64 o.a, .int .i64 o.b, .int .i64 o.c] (.struct fsO) rfl (fun j v hj => ?_) huO rfl (by kernel_rfl) ?_
   ·rw [Nat.zero_add, Ad hX]
    simpa using hj
   walk_nrm
   refine hr _ (e, w') ⟨upd u 31 (Bu o), ?_, F.set (by decide) rfl rfl, hw.quiet (by decide) (by decide)⟩
   simp [Fj, upd, Bu]
  | 5, _ =>
   have h7 : f 7 = false := by
    cases h : f 7 with
    | false => rfl
    | true =>
     have h7_6 := (hC.deps (l := [6]) h (by kernel_rfl)) 6 (by simp)
     have h6_5 := (hC.deps (l := [5]) h7_6 (by kernel_rfl)) 5 (by simp)
     rw [hfi] at h6_5; cases h6_5
   have hX := hw.early h7
   clear hdeps ho hC hfi
   simp only [Fj] at hr ⊢
   (refine Walk.oq ?_; try walk_nrm)
   refine hr _ (e, w') ⟨upd u 32 (.int .i64 n), ?_, F.set (by decide) rfl rfl, hw.quiet (by decide) (by decide)⟩
   simp [Fj, upd]
  | 6, _ =>
   have hdd := Af (l := [4, 5]) (by kernel_rfl) ho hdeps
   have e31 := F 4 31 _ (hdd 4 (by simp)) rfl rfl
   have e32 := F 5 32 _ (hdd 5 (by simp)) rfl rfl
   have h7 : f 7 = false := by
    cases h : f 7 with
    | false => rfl
    | true =>
     have h6 := (hC.deps (l := [6]) h (by kernel_rfl)) 6 (by simp)
     rw [hfi] at h6; cases h6
   rcases hw with ⟨_, h9, htE, hX, hmA, hA, hmR, hR, ⟨dd, rfl⟩, _⟩ | ⟨h, _⟩
   rotate_left
   ·rw [h7] at h; cases h
   refine Walk.back ?_ dd
   clear hdeps ho hC hdd
   have hv := lv_w (main := K.main) (V := K.V e) o n (by omega) (K.w e) (fun b hb => K.newA e b hb)
   simp only [Fj] at hr ⊢
   refine Ah (Post := NewLs n ((List.range n).map (Ar o)) (K.w e)) ?_ Ao (by rfl) (by decide) rfl Try.func40 (by kernel_rfl) (by rfl) ?_
   ·walk_nrm
    simp only [e31, e32]
    exact hv
   rintro v w1 ⟨ta, tc, rfl, hN, hold, hsz⟩
   obtain ⟨e1, m1⟩ := K.grow e (w' := w1) hsz hold
   have hXl : X < (K.w e).heap.size := (Array.getElem?_eq_some_iff.1 hX).1
   have hRl : R < (K.w e).heap.size := (Array.getElem?_eq_some_iff.1 hR).1
   have hAl : A < (K.w e).heap.size := (Array.getElem?_eq_some_iff.1 hA).1
   refine Dq (l := fr :: l) m1 ?_
   unfold LW
   walk_nrm
   refine hr _ (e1, K.w e1) ⟨upd (upd u 1006 undef) 33 (.slice ta n tc), ?_, Bl (F.set (by decide) rfl rfl) (by decide), .inl ⟨by rw [upd_ne _ _ (by decide)]; exact h7, by rw [upd_ne _ _ (by decide)]; exact h9, by rw [m1.tgt, m1.s]; exact htE, by rw [m1.w, hold X hXl]; exact hX, (m1.mine A).2 (.inl hmA), by rw [m1.w, hold A hAl]; exact hA, (m1.mine R).2 (.inl hmR), by rw [m1.w, hold R hRl]; exact hR, ⟨(K.w e1).drawn, rfl⟩, fun _ => ⟨ta, tc, upd_same _ _ _, by rw [m1.w]; exact hN⟩⟩⟩
   simp [Fj, upd, e31, e32]
  | 7, _ =>
   have hdd := Af (l := [0, 1, 3, 6]) (by kernel_rfl) ho hdeps
   have e27 := F 0 27 _ (hdd 0 (by simp)) rfl rfl
   have e28 := F 1 28 _ (hdd 1 (by simp)) rfl rfl
   have e30 := F 3 30 _ (hdd 3 (by simp)) rfl rfl
   have h6 := hdd 6 (by simp)
   rcases hw with ⟨_, h9, htE, hX, hmA, hA, hmR, hR, ⟨dd, rfl⟩, hB⟩ | ⟨h, _⟩
   rotate_left
   ·rw [hfi] at h; cases h
   obtain ⟨ta, tc, e33, hsl⟩ := hB h6
   refine Walk.back ?_ dd
   clear hdeps ho hC hdd
   have hlen : ((List.range n).map (Ar o)).length = n := by simp
   have hvi : Fv k (Ar o) ((List.range n).map (Ar o)) := fun i hi => by
    obtain rfl : n = k + 1 := by omega
    rw [List.take_of_length_le (by simp), Er hlen]
    simp [List.getElem?_range (show i < k + 1 by omega)]
   have hcall := Cs K (add_s (Fz K e) (Ar o) (fz0 K e) o.a (.slice ta n tc) ((List.range n).map (Ar o)) hsl hvi htE)
   simp only [Fj] at hr ⊢
   refine (?_ : LW K.toLb e (G _ ((fr :: l) ++ K.bot e)))
   refine Bb (f := 24) (Q := fun x e' => ∃ h : Lo K e e', Ge (Fz K e) x ⟨e', h⟩) ?_ Ao (by rfl) (by decide) rfl Try.func24 (by kernel_rfl) (by rfl) ⟨rfl, rfl, _, Try.func19⟩ (As hp hl) ?_
   ·walk_nrm
    simp only [e27, e28, e30, e33]
    exact hcall
   rintro v e2 ⟨hkept, b, rfl, ht2⟩
   obtain ⟨hm2, hb2⟩ := hkept R hmR
   obtain ⟨hm3, hb3⟩ := hkept A hmA
   unfold LW
   walk_nrm
   refine hr _ (e2, K.w e2) ⟨upd (upd u 1007 undef) 34 (.bool b), ?_, Bl (F.set (by decide) rfl rfl) (by decide), .inr ⟨upd_same _ _ _, b, upd_same _ _ _, ht2, hm3, hb3.trans hA, hm2, hb2.trans hR, .inl ⟨by rw [upd_ne _ _ (by decide)]; exact h9, (K.w e2).drawn, rfl⟩⟩⟩
   simp [Fj, upd, e27, e28, e30, e33]
  | 8, _ =>
   clear hdeps ho hC hfi
   simp only [Fj] at hr ⊢
   (refine Walk.oq ?_; try walk_nrm)
   refine hr _ (e, w') ⟨upd u 35 (.pointer (some ⟨A, 0, none⟩)), ?_, F.set (by decide) rfl rfl, hw.quiet (by decide) (by decide)⟩
   simp [Fj, upd]
  | 9, _ =>
   have hdd := Af (l := [7, 8]) (by kernel_rfl) ho hdeps
   have h7 := hdd 7 (by simp)
   have e35 := F 8 35 _ (hdd 8 (by simp)) rfl rfl
   rcases hw with ⟨h, _⟩ | ⟨_, b, hb, htE, hmA, hA, hmR, hR, ⟨h9, dd, rfl⟩ | ⟨h9, _⟩⟩
   ·rw [h7] at h; cases h
   rotate_left
   ·rw [hfi] at h9; cases h9
   refine Walk.back ?_ dd
   have hap := (K.mineA e _ hmA).1
   have g30 : (K.w e).cell? ⟨A, 0, none⟩ = some (.bool true) := (Ad hA 0).trans rfl
   have y30 := An hA 0
   clear hdeps ho hC hdd
   simp only [Fj, hb, e35] at hr ⊢
   (have hfr := hap.1 ⟨A, 0, none⟩ rfl; refine Walk.os hfr g30 ?_; clear hfr; try walk_nrm)
   refine hr _ (e, (K.w e).setCell ⟨A, 0, none⟩ (.bool b)) ⟨upd u 1009 undef, ?_, F.set (by decide) rfl rfl, .inr ⟨by rw [upd_ne _ _ (by decide)]; exact h7, b, by rw [upd_ne _ _ (by decide)]; exact hb, htE, hmA, hA, hmR, hR, .inr ⟨upd_same _ _ _, ((K.w e).setCell ⟨A, 0, none⟩ (.bool b)).drawn, rfl⟩⟩⟩
   simp [Fj, upd, hb, e35]
 ·rintro f a ⟨e, w'⟩ ⟨u, rfl, F, hw⟩ hall
  have hsz : reg19_7.size = 10 := size19_7
  rcases hw with ⟨h, _⟩ | ⟨_, b, _, htE, hmA, hA, hmR, hR, ⟨h9, _⟩ | ⟨_, dd, hw'⟩⟩
  ·rw [hall 7 (by omega)] at h; cases h
  ·rw [hall 9 (by omega)] at h9; cases h9
  ·dsimp only at hw' ⊢
   subst hw'
   exact Walk.back (hk u e b htE hmA hA hmR hR) dd
end
end
section
section
variable {lb k : Nat}
theorem call_s {sv : Value} (K : Lg (Aj lb k) sv) (e : K.E) (th : Int) (n : Nat) (hn1 : n <= k + 1) (hn2 : k + 1 <= n) (ok oa ob oc : Int) (ht : K.tgt e = By (K.s e) th ⟨ok, oa, ob, oc⟩) :
  SCall K.toLb 19 #[.pointer (some ⟨lb, 0, none⟩), sv, .agg #[.int .i64 ok, .int .i64 oa, .int .i64 ob, .int .i64 oc], .int .i64 n] e (DoOut K) := by
 intro fr l hp hl hk
 have hk15 := (K.inv e).pos
 unfold LW
 rw [enter_at _ Try.func19 code19_is]
 simp only [Try.ntmps19, ez, Nat.reduceAdd, Nat.reduceSub]
 refine Aa z19 ?_
 (refine Walk.oa ?_; try walk_nrm)
 have s0 : ((K.w e).alloc (.cells #[.int .i64 ok, .int .i64 oa, .int .i64 ob, .int .i64 oc] 47)).heap.size = (K.w e).heap.size + 1 := by simp
 have o0 : ∀ b, b < (K.w e).heap.size -> ((K.w e).alloc (.cells #[.int .i64 ok, .int .i64 oa, .int .i64 ob, .int .i64 oc] 47)).heap[b]? = (K.w e).heap[b]? := fun b hb => Ab _ _ hb
 have d0 := heap_alloc_new (K.w e) (.cells #[.int .i64 ok, .int .i64 oa, .int .i64 ob, .int .i64 oc] 47)
 generalize hN : (K.w e).heap.size = N at *
 generalize (K.w e).alloc (.cells #[.int .i64 ok, .int .i64 oa, .int .i64 ob, .int .i64 oc] 47) = x0 at *
 (refine Walk.oa ?_; try walk_nrm)
 have s1 : (x0.alloc (.cells #[.bool false, .int .i64 0, .slice none 0 0] 44)).heap.size = N + 2 := by simp [s0]
 have o1 : ∀ b, b < N + 1 -> (x0.alloc (.cells #[.bool false, .int .i64 0, .slice none 0 0] 44)).heap[b]? = x0.heap[b]? := fun b hb => Ab _ _ (by omega)
 have d1 : (x0.alloc (.cells #[.bool false, .int .i64 0, .slice none 0 0] 44)).heap[N + 1]? = some (.cells #[.bool false, .int .i64 0, .slice none 0 0] 44) := s0 ▸ heap_alloc_new x0 (.cells #[.bool false, .int .i64 0, .slice none 0 0] 44)
 try simp only [s0]
 generalize x0.alloc (.cells #[.bool false, .int .i64 0, .slice none 0 0] 44) = x1 at *
 refine Aa z19 ?_
 (refine Walk.oa ?_; try walk_nrm)
 have s2 : (x1.alloc (.cells #[.bool false, .int .i64 0, .slice none 0 0] 44)).heap.size = N + 3 := by simp [s1]
 have o2 : ∀ b, b < N + 2 -> (x1.alloc (.cells #[.bool false, .int .i64 0, .slice none 0 0] 44)).heap[b]? = x1.heap[b]? := fun b hb => Ab _ _ (by omega)
 have d2 : (x1.alloc (.cells #[.bool false, .int .i64 0, .slice none 0 0] 44)).heap[N + 2]? = some (.cells #[.bool false, .int .i64 0, .slice none 0 0] 44) := s1 ▸ heap_alloc_new x1 (.cells #[.bool false, .int .i64 0, .slice none 0 0] 44)
 try simp only [s1]
 generalize x1.alloc (.cells #[.bool false, .int .i64 0, .slice none 0 0] 44) = x2 at *
 obtain ⟨e1, m1⟩ := K.grow e (w' := x2) (by omega) (fun b hb' => (o2 b (by omega)).trans ((o1 b (by omega)).trans (o0 b (by omega))))
 have hmn : K.mine e1 (N + 1) := m1.new (by omega) (by omega)
 have hmo : K.mine e1 (N + 2) := m1.new (by omega) (by omega)
 have c1 : x2.heap[N]? = some (.cells #[.int .i64 ok, .int .i64 oa, .int .i64 ob, .int .i64 oc] 47) := (o2 _ (by omega)).trans ((o1 _ (by omega)).trans d0)
 have c2 : x2.heap[N + 1]? = some (.cells #[.bool false, .int .i64 0, .slice none 0 0] 44) := (o2 _ (by omega)).trans d1
 have c3 : x2.heap[N + 2]? = some (.cells #[.bool false, .int .i64 0, .slice none 0 0] 44) := d2
 have ht1 : K.tgt e1 = By (K.s e1) th ⟨ok, oa, ob, oc⟩ := by rw [m1.tgt, m1.s]; exact ht
 clear d0 d1 d2 s0 s1 s2 o0 o1 o2
 have hw1 := m1.w
 refine Dq (l := fr :: l) m1 ?_
 unfold LW
 clear m1 ht
 subst hw1
 have hapN := (K.mineA e1 _ hmn).1
 have hapO := (K.mineA e1 _ hmo).1
 refine Ap 44 (.tmp 9) (.tmp 10) Ao (by rfl) (by decide) rfl (N + 2) #[.bool true, .int .i64 0, .slice none 0 0] _ 44 rfl rfl c3 (by kernel_rfl) (by rfl) (by simp [Value.oneCell']) hapO ?_
 obtain ⟨e2, m2⟩ := K.own e1 (w' := (K.w e1).setRow (N + 2) #[.bool true, .int .i64 0, .slice none 0 0]) (by rw [Az]; exact Nat.le_refl _) (fun b _ hbm => Aq _ _ (fun he : b = N + 2 => hbm (by rw [he]; exact hmo)))
 have c1' : ((K.w e1).setRow (N + 2) #[.bool true, .int .i64 0, .slice none 0 0]).heap[N]? = some (.cells #[.int .i64 ok, .int .i64 oa, .int .i64 ob, .int .i64 oc] 47) := (Aq _ _ (by omega)).trans c1
 have c2' : ((K.w e1).setRow (N + 2) #[.bool true, .int .i64 0, .slice none 0 0]).heap[N + 1]? = some (.cells #[.bool false, .int .i64 0, .slice none 0 0] 44) := (Aq _ _ (by omega)).trans c2
 have c3' := setRow_self (cells := #[.bool true, .int .i64 0, .slice none 0 0]) c3
 have hmn' : K.mine e2 (N + 1) := (m2.mine _).2 (.inl hmn)
 have hmo' : K.mine e2 (N + 2) := (m2.mine _).2 (.inl hmo)
 have ht2 : K.tgt e2 = By (K.s e2) th ⟨ok, oa, ob, oc⟩ := by rw [m2.tgt, m2.s]; exact ht1
 generalize (K.w e1).setRow (N + 2) #[.bool true, .int .i64 0, .slice none 0 0] = x3 at *
 have hw2 := m2.w
 refine Dq (l := fr :: l) m2 ?_
 unfold LW
 clear m2 ht1 c1 c2 c3 hmn hmo hapN hapO
 subst hw2
 have hap0 := (K.mineA e2 _ hmn').1
 obtain ⟨fsA, huA⟩ := Cf 44 (by kernel_rfl)
 have d0 := (Ad c1' 0).trans rfl
 have d1 := (Ad c1' 1).trans rfl
 have d2 := (Ad c1' 2).trans rfl
 have d3 := (Ad c1' 3).trans rfl
 try walk_nrm
 refine Aa z19 ?_
 by_cases h1 : ok = 1
 ·subst h1
  have ht3 : K.tgt e2 = (K.s e2, .inr (.w1 false (Bv oa) (Ar ⟨1, oa, ob, oc⟩))) := ht2
  refine Aa z19 ?_
  refine caW_reg K n hn1 hn2 ⟨1, oa, ob, oc⟩ N (N + 1) (N + 2) hp hl e2 _ (by simp only [Fj]; rfl) c1' hmo' c3' hmn' c2' ht3 _ ?_
  intro u e2' b ht4 hm3 hb3 hm2 hb2
  have hls2 : ListOK K e2' (.slice none 0 0) (⟨b, 0, []⟩ : Ans).l := .inl ⟨rfl, rfl⟩
  clear c1' c2' c3' d0 d1 d2 d3 hmn' hmo' hap0
  simp only [Fj]
  have b30 : ((K.w e2').setCell ⟨N + 2, 0, none⟩ (.bool b)).heap[N + 2]? = some (.cells #[.bool b, .int .i64 0, .slice none 0 0] 44) := by
   rw [Ak _ _ hb3]
   simp
  have o30 : ∀ z, z ≠ N + 2 -> ((K.w e2').setCell ⟨N + 2, 0, none⟩ (.bool b)).heap[z]? = (K.w e2').heap[z]? := fun z hb => Ac _ _ _ _ hb
  have z30 : ((K.w e2').setCell ⟨N + 2, 0, none⟩ (.bool b)).heap.size = (K.w e2').heap.size := Ai _ _ _
  obtain ⟨e3, m3⟩ := K.own e2' (w' := ((K.w e2').setCell ⟨N + 2, 0, none⟩ (.bool b))) (Nat.le_of_eq z30.symm) (fun b _ hbm => o30 b (fun he : b = N + 2 => hbm (by rw [he]; exact hm3)))
  have b2 := (o30 (N + 1) (by omega)).trans hb2
  have hm2' : K.mine e3 (N + 1) := (m3.mine _).2 (.inl hm2)
  have ht5 : K.tgt e3 = (K.s e3, .inl ⟨b, 0, []⟩) := by rw [m3.tgt, m3.s]; exact ht4
  have hls3 : ListOK K e3 (.slice none 0 0) (⟨b, 0, []⟩ : Ans).l := hls2.keep (fun b h => (m3.mine b).2 (.inl h)) fun b _ hb => by
   rw [m3.w]
   exact o30 b (hls2.ne hb3 b hb)
  have b2' : (K.w e3).heap[N + 1]? = some (.cells #[.bool false, .int .i64 0, .slice none 0 0] 44) := by rw [m3.w]; exact b2
  have hcb := fun fr' hfr => Cn K (F := 19) (fr := fr') (c := fr) (l := l) (a := ⟨b, 0, []⟩) (sl := .slice none 0 0) hm2' b2' ht5 hls3 (fun e' h h' => hk _ e' ⟨_, _, h, rfl, h', by simp⟩) Try.func19 rfl hfr
  have b3 := b30
  clear b30 o30 z30
  generalize ((K.w e2').setCell ⟨N + 2, 0, none⟩ (.bool b)) = x4 at *
  have hw3 := m3.w
  refine Dq (l := fr :: l) m3 ?_
  unfold LW
  clear m3
  subst hw3
  try walk_nrm
  refine Aa z19 ?_
  refine Walk.loadS 44 (.tmp 9) Ao (by rfl) (by decide) rfl (N + 2) 0 [.bool b, .int .i64 0, .slice none 0 0] (.struct fsA) rfl (fun j v hj => ?_) huA rfl (by kernel_rfl) ?_
  ·rw [Nat.zero_add, Ad b3]
   simpa using hj
  walk_nrm
  refine Ap 44 (.tmp 8) (.tmp 66) Ao (by rfl) (by decide) rfl (N + 1) #[.bool b, .int .i64 0, .slice none 0 0] _ 44 rfl rfl b2 (by kernel_rfl) (by rfl) (by simp [Value.oneCell']) (K.mineA e3 _ hm2').1 ?_
  walk_nrm
  refine Aa z19 ?_
  exact hcb _ ⟨rfl, rfl, rfl, rfl, rfl⟩
 have hbk1 : (ok == 1) = false := by simp [h1]
 simp only [hbk1]
 refine Aa z19 ?_
 by_cases h2 : ok = 2
 ·subst h2
  have ht3 : K.tgt e2 = (K.s e2, .inr (.w1 true (Bv oa) (Ar ⟨2, oa, ob, oc⟩))) := ht2
  refine Aa z19 ?_
  refine caA_reg K n hn1 hn2 ⟨2, oa, ob, oc⟩ N (N + 1) (N + 2) hp hl e2 _ (by simp only [Fj]; rfl) c1' hmo' c3' hmn' c2' ht3 _ ?_
  intro u e2' b ht4 hm3 hb3 hm2 hb2
  have hls2 : ListOK K e2' (.slice none 0 0) (⟨b, 0, []⟩ : Ans).l := .inl ⟨rfl, rfl⟩
  clear c1' c2' c3' d0 d1 d2 d3 hmn' hmo' hap0
  simp only [Fj]
  have b30 : ((K.w e2').setCell ⟨N + 2, 0, none⟩ (.bool b)).heap[N + 2]? = some (.cells #[.bool b, .int .i64 0, .slice none 0 0] 44) := by
   rw [Ak _ _ hb3]
   simp
  have o30 : ∀ z, z ≠ N + 2 -> ((K.w e2').setCell ⟨N + 2, 0, none⟩ (.bool b)).heap[z]? = (K.w e2').heap[z]? := fun z hb => Ac _ _ _ _ hb
  have z30 : ((K.w e2').setCell ⟨N + 2, 0, none⟩ (.bool b)).heap.size = (K.w e2').heap.size := Ai _ _ _
  obtain ⟨e3, m3⟩ := K.own e2' (w' := ((K.w e2').setCell ⟨N + 2, 0, none⟩ (.bool b))) (Nat.le_of_eq z30.symm) (fun b _ hbm => o30 b (fun he : b = N + 2 => hbm (by rw [he]; exact hm3)))
  have b2 := (o30 (N + 1) (by omega)).trans hb2
  have hm2' : K.mine e3 (N + 1) := (m3.mine _).2 (.inl hm2)
  have ht5 : K.tgt e3 = (K.s e3, .inl ⟨b, 0, []⟩) := by rw [m3.tgt, m3.s]; exact ht4
  have hls3 : ListOK K e3 (.slice none 0 0) (⟨b, 0, []⟩ : Ans).l := hls2.keep (fun b h => (m3.mine b).2 (.inl h)) fun b _ hb => by
   rw [m3.w]
   exact o30 b (hls2.ne hb3 b hb)
  have b2' : (K.w e3).heap[N + 1]? = some (.cells #[.bool false, .int .i64 0, .slice none 0 0] 44) := by rw [m3.w]; exact b2
  have hcb := fun fr' hfr => Cn K (F := 19) (fr := fr') (c := fr) (l := l) (a := ⟨b, 0, []⟩) (sl := .slice none 0 0) hm2' b2' ht5 hls3 (fun e' h h' => hk _ e' ⟨_, _, h, rfl, h', by simp⟩) Try.func19 rfl hfr
  have b3 := b30
  clear b30 o30 z30
  generalize ((K.w e2').setCell ⟨N + 2, 0, none⟩ (.bool b)) = x4 at *
  have hw3 := m3.w
  refine Dq (l := fr :: l) m3 ?_
  unfold LW
  clear m3
  subst hw3
  try walk_nrm
  refine Aa z19 ?_
  refine Walk.loadS 44 (.tmp 9) Ao (by rfl) (by decide) rfl (N + 2) 0 [.bool b, .int .i64 0, .slice none 0 0] (.struct fsA) rfl (fun j v hj => ?_) huA rfl (by kernel_rfl) ?_
  ·rw [Nat.zero_add, Ad b3]
   simpa using hj
  walk_nrm
  refine Ap 44 (.tmp 8) (.tmp 66) Ao (by rfl) (by decide) rfl (N + 1) #[.bool b, .int .i64 0, .slice none 0 0] _ 44 rfl rfl b2 (by kernel_rfl) (by rfl) (by simp [Value.oneCell']) (K.mineA e3 _ hm2').1 ?_
  walk_nrm
  refine Aa z19 ?_
  exact hcb _ ⟨rfl, rfl, rfl, rfl, rfl⟩
 have hbk2 : (ok == 2) = false := by simp [h2]
 simp only [hbk2]
 refine Aa z19 ?_
 by_cases h3 : ok = 3
 ·subst h3
  have ht3 : K.tgt e2 = (K.s e2, .inr (.r1 (Bv oa))) := ht2
  refine Aa z19 ?_
  have hg := Cs K (read_s (Fz K e2) (fz0 K e2) oa ht3)
  refine Bb (K := K.toLb) (e := e2) (l := fr :: l) (f := 25) (Q := fun x e' => ∃ h : Lo K e2 e', Iw (Fz K e2) x ⟨e', h⟩) ?_ Ao (by rfl) (by decide) rfl Try.func25 (by kernel_rfl) (by rfl) ⟨rfl, rfl, _, Try.func19⟩ (As hp hl) ?_
  ·walk_nrm
   exact hg
  rintro x e2' ⟨hkept, sl, b, ls, rfl, hls, hln, ht4⟩
  obtain ⟨hm2, hb2⟩ := hkept (N + 1) hmn'
  obtain ⟨hm3, hb3⟩ := hkept (N + 2) hmo'
  rw [c2'] at hb2
  rw [c3'] at hb3
  have hap3 := (K.mineA e2' _ hm3).1
  replace ht4 : K.tgt e2' = (K.s e2', .inl ⟨b, 0, ls⟩) := ht4
  have hls2 : ListOK K e2' sl (⟨b, 0, ls⟩ : Ans).l := by
   rcases hls with h | ⟨B, h1, h2, h3⟩
   ·exact .inl h
   ·exact .inr ⟨B, h1, h2.1, h3⟩
  obtain ⟨sa, sc, rfl⟩ : ∃ sa sc, sl = .slice sa ls.length sc := by
   obtain ⟨x, y, h, _⟩ := hls2.lsR
   exact ⟨x, y, h⟩
  clear hls
  clear hg hkept c1' c2' c3' d0 d1 d2 d3 hmn' hmo' hap0
  unfold LW
  walk_nrm
  repeat (first | (refine Walk.oq ?_; try walk_nrm) | (refine Ax ?_; walk_nrm))
  have g30 : (K.w e2').cell? ⟨N + 2, 2, none⟩ = some (.slice none 0 0) := (Ad hb3 2).trans rfl
  have y30 := An hb3 2
  (have hfr := hap3.1 ⟨N + 2, 2, none⟩ rfl; refine Walk.os hfr g30 ?_; clear hfr; try walk_nrm)
  clear g30 y30
  have b30 : ((K.w e2').setCell ⟨N + 2, 2, none⟩ (.slice sa ls.length sc)).heap[N + 2]? = some (.cells #[.bool true, .int .i64 0, .slice sa ls.length sc] 44) := by
   rw [Ak _ _ hb3]
   simp
  have o30 : ∀ z, z ≠ N + 2 -> ((K.w e2').setCell ⟨N + 2, 2, none⟩ (.slice sa ls.length sc)).heap[z]? = (K.w e2').heap[z]? := fun z hb => Ac _ _ _ _ hb
  have z30 : ((K.w e2').setCell ⟨N + 2, 2, none⟩ (.slice sa ls.length sc)).heap.size = (K.w e2').heap.size := Ai _ _ _
  try walk_nrm
  repeat (first | (refine Walk.oq ?_; try walk_nrm) | (refine Ax ?_; walk_nrm))
  have g31 : ((K.w e2').setCell ⟨N + 2, 2, none⟩ (.slice sa ls.length sc)).cell? ⟨N + 2, 0, none⟩ = some (.bool true) := (Ad b30 0).trans rfl
  have y31 := An b30 0
  (have hfr := hap3.1 ⟨N + 2, 0, none⟩ rfl; refine Walk.os hfr g31 ?_; clear hfr; try walk_nrm)
  clear g31 y31
  have b31 : (((K.w e2').setCell ⟨N + 2, 2, none⟩ (.slice sa ls.length sc)).setCell ⟨N + 2, 0, none⟩ (.bool b)).heap[N + 2]? = some (.cells #[.bool b, .int .i64 0, .slice sa ls.length sc] 44) := by
   rw [Ak _ _ b30]
   simp
  have o31 : ∀ z, z ≠ N + 2 -> (((K.w e2').setCell ⟨N + 2, 2, none⟩ (.slice sa ls.length sc)).setCell ⟨N + 2, 0, none⟩ (.bool b)).heap[z]? = (K.w e2').heap[z]? := fun z hb => (Ac _ _ _ _ hb).trans (o30 z hb)
  have z31 : (((K.w e2').setCell ⟨N + 2, 2, none⟩ (.slice sa ls.length sc)).setCell ⟨N + 2, 0, none⟩ (.bool b)).heap.size = (K.w e2').heap.size := (Ai _ _ _).trans z30
  obtain ⟨e3, m3⟩ := K.own e2' (w' := (((K.w e2').setCell ⟨N + 2, 2, none⟩ (.slice sa ls.length sc)).setCell ⟨N + 2, 0, none⟩ (.bool b))) (Nat.le_of_eq z31.symm) (fun b _ hbm => o31 b (fun he : b = N + 2 => hbm (by rw [he]; exact hm3)))
  have b2 := (o31 (N + 1) (by omega)).trans hb2
  have hm2' : K.mine e3 (N + 1) := (m3.mine _).2 (.inl hm2)
  have ht5 : K.tgt e3 = (K.s e3, .inl ⟨b, 0, ls⟩) := by rw [m3.tgt, m3.s]; exact ht4
  have hls3 : ListOK K e3 (.slice sa ls.length sc) (⟨b, 0, ls⟩ : Ans).l := hls2.keep (fun b h => (m3.mine b).2 (.inl h)) fun b _ hb => by
   rw [m3.w]
   exact o31 b (hls2.ne hb3 b hb)
  have b2' : (K.w e3).heap[N + 1]? = some (.cells #[.bool false, .int .i64 0, .slice none 0 0] 44) := by rw [m3.w]; exact b2
  have hcb := fun fr' hfr => Cn K (F := 19) (fr := fr') (c := fr) (l := l) (a := ⟨b, 0, ls⟩) (sl := .slice sa ls.length sc) hm2' b2' ht5 hls3 (fun e' h h' => hk _ e' ⟨_, _, h, rfl, h', hln⟩) Try.func19 rfl hfr
  have b3 := b31
  clear b31 o31 z31 b30 o30 z30
  generalize (((K.w e2').setCell ⟨N + 2, 2, none⟩ (.slice sa ls.length sc)).setCell ⟨N + 2, 0, none⟩ (.bool b)) = x4 at *
  have hw3 := m3.w
  refine Dq (l := fr :: l) m3 ?_
  unfold LW
  clear m3
  subst hw3
  try walk_nrm
  refine Aa z19 ?_
  refine Walk.loadS 44 (.tmp 9) Ao (by rfl) (by decide) rfl (N + 2) 0 [.bool b, .int .i64 0, .slice sa ls.length sc] (.struct fsA) rfl (fun j v hj => ?_) huA rfl (by kernel_rfl) ?_
  ·rw [Nat.zero_add, Ad b3]
   simpa using hj
  walk_nrm
  refine Ap 44 (.tmp 8) (.tmp 66) Ao (by rfl) (by decide) rfl (N + 1) #[.bool b, .int .i64 0, .slice sa ls.length sc] _ 44 rfl rfl b2 (by kernel_rfl) (by rfl) (by simp [Value.oneCell']) (K.mineA e3 _ hm2').1 ?_
  walk_nrm
  refine Aa z19 ?_
  exact hcb _ ⟨rfl, rfl, rfl, rfl, rfl⟩
 have hbk3 : (ok == 3) = false := by simp [h3]
 simp only [hbk3]
 refine Aa z19 ?_
 by_cases h4 : ok = 4
 ·subst h4
  have ht3 : K.tgt e2 = (K.s e2, .inr (.q 0 [])) := ht2
  refine Aa z19 ?_
  have hg := Cs K (raw_s (Fz K e2) (fun i l => if i = k + 1 then .inl ⟨true, 0, l⟩ else .inr (.q i l)) .q (fun i l hi => if_neg (by omega)) (fun s i l hi => by
   show (s, if i = k then _ else _) = _
   by_cases h : i = k
   ·rw [if_pos h, if_pos (by omega)]
   ·rw [if_neg h, if_neg (by omega)]) (fz0 K e2) (ht3.trans (by rw [if_neg (by omega)]; rfl)))
  refine Bb (K := K.toLb) (e := e2) (l := fr :: l) (f := 31) (Q := fun x e' => ∃ h : Lo K e2 e', Ln (Fz K e2) (fun i l => if i = k + 1 then .inl ⟨true, 0, l⟩ else .inr (.q i l)) x ⟨e', h⟩) ?_ Ao (by rfl) (by decide) rfl Try.func31 (by kernel_rfl) (by rfl) ⟨rfl, rfl, _, Try.func19⟩ (As hp hl) ?_
  ·walk_nrm
   exact hg
  rintro x e2' ⟨hkept, B, ls, rfl, hlen, hmB, hNB, ht4⟩
  obtain ⟨hm2, hb2⟩ := hkept (N + 1) hmn'
  obtain ⟨hm3, hb3⟩ := hkept (N + 2) hmo'
  rw [c2'] at hb2
  rw [c3'] at hb3
  have hap3 := (K.mineA e2' _ hm3).1
  replace ht4 : K.tgt e2' = (K.s e2', .inl ⟨true, 0, ls⟩) := by
   refine Eq.trans ht4 (Prod.ext rfl ?_)
   exact if_pos rfl
  have hls2 : ListOK K e2' (.slice (some ⟨B, 0, none⟩) (k + 1) (k + 1)) (⟨true, 0, ls⟩ : Ans).l := .inr ⟨B, by rw [hlen], hmB.1, hNB⟩
  have hln : ls.length <= 16 := by omega
  clear hNB hmB hlen
  clear hg hkept c1' c2' c3' d0 d1 d2 d3 hmn' hmo' hap0
  unfold LW
  walk_nrm
  repeat (first | (refine Walk.oq ?_; try walk_nrm) | (refine Ax ?_; walk_nrm))
  have g30 : (K.w e2').cell? ⟨N + 2, 2, none⟩ = some (.slice none 0 0) := (Ad hb3 2).trans rfl
  have y30 := An hb3 2
  (have hfr := hap3.1 ⟨N + 2, 2, none⟩ rfl; refine Walk.os hfr g30 ?_; clear hfr; try walk_nrm)
  clear g30 y30
  have b30 : ((K.w e2').setCell ⟨N + 2, 2, none⟩ (.slice (some ⟨B, 0, none⟩) (k + 1) (k + 1))).heap[N + 2]? = some (.cells #[.bool true, .int .i64 0, .slice (some ⟨B, 0, none⟩) (k + 1) (k + 1)] 44) := by
   rw [Ak _ _ hb3]
   simp
  have o30 : ∀ z, z ≠ N + 2 -> ((K.w e2').setCell ⟨N + 2, 2, none⟩ (.slice (some ⟨B, 0, none⟩) (k + 1) (k + 1))).heap[z]? = (K.w e2').heap[z]? := fun z hb => Ac _ _ _ _ hb
  have z30 : ((K.w e2').setCell ⟨N + 2, 2, none⟩ (.slice (some ⟨B, 0, none⟩) (k + 1) (k + 1))).heap.size = (K.w e2').heap.size := Ai _ _ _
  obtain ⟨e3, m3⟩ := K.own e2' (w' := ((K.w e2').setCell ⟨N + 2, 2, none⟩ (.slice (some ⟨B, 0, none⟩) (k + 1) (k + 1)))) (Nat.le_of_eq z30.symm) (fun b _ hbm => o30 b (fun he : b = N + 2 => hbm (by rw [he]; exact hm3)))
  have b2 := (o30 (N + 1) (by omega)).trans hb2
  have hm2' : K.mine e3 (N + 1) := (m3.mine _).2 (.inl hm2)
  have ht5 : K.tgt e3 = (K.s e3, .inl ⟨true, 0, ls⟩) := by rw [m3.tgt, m3.s]; exact ht4
  have hls3 : ListOK K e3 (.slice (some ⟨B, 0, none⟩) (k + 1) (k + 1)) (⟨true, 0, ls⟩ : Ans).l := hls2.keep (fun b h => (m3.mine b).2 (.inl h)) fun b _ hb => by
   rw [m3.w]
   exact o30 b (hls2.ne hb3 b hb)
  have b2' : (K.w e3).heap[N + 1]? = some (.cells #[.bool false, .int .i64 0, .slice none 0 0] 44) := by rw [m3.w]; exact b2
  have hcb := fun fr' hfr => Cn K (F := 19) (fr := fr') (c := fr) (l := l) (a := ⟨true, 0, ls⟩) (sl := .slice (some ⟨B, 0, none⟩) (k + 1) (k + 1)) hm2' b2' ht5 hls3 (fun e' h h' => hk _ e' ⟨_, _, h, rfl, h', hln⟩) Try.func19 rfl hfr
  have b3 := b30
  clear b30 o30 z30
  generalize ((K.w e2').setCell ⟨N + 2, 2, none⟩ (.slice (some ⟨B, 0, none⟩) (k + 1) (k + 1))) = x4 at *
  have hw3 := m3.w
  refine Dq (l := fr :: l) m3 ?_
  unfold LW
  clear m3
  subst hw3
  try walk_nrm
  refine Aa z19 ?_
  refine Walk.loadS 44 (.tmp 9) Ao (by rfl) (by decide) rfl (N + 2) 0 [.bool true, .int .i64 0, .slice (some ⟨B, 0, none⟩) (k + 1) (k + 1)] (.struct fsA) rfl (fun j v hj => ?_) huA rfl (by kernel_rfl) ?_
  ·rw [Nat.zero_add, Ad b3]
   simpa using hj
  walk_nrm
  refine Ap 44 (.tmp 8) (.tmp 66) Ao (by rfl) (by decide) rfl (N + 1) #[.bool true, .int .i64 0, .slice (some ⟨B, 0, none⟩) (k + 1) (k + 1)] _ 44 rfl rfl b2 (by kernel_rfl) (by rfl) (by simp [Value.oneCell']) (K.mineA e3 _ hm2').1 ?_
  walk_nrm
  refine Aa z19 ?_
  exact hcb _ ⟨rfl, rfl, rfl, rfl, rfl⟩
 have hbk4 : (ok == 4) = false := by simp [h4]
 simp only [hbk4]
 refine Aa z19 ?_
 by_cases h5 : ok = 5
 ·subst h5
  have ht3 : K.tgt e2 = (K.s e2, .inr (.n1 oa)) := ht2
  refine Aa z19 ?_
  have hg := Cs K (Pd (Fz K e2) (fz0 K e2) oa ht3)
  refine Bb (K := K.toLb) (e := e2) (l := fr :: l) (f := 30) (Q := fun x e' => ∃ h : Lo K e2 e', Of (Fz K e2) x ⟨e', h⟩) ?_ Ao (by rfl) (by decide) rfl Try.func30 (by kernel_rfl) (by rfl) ⟨rfl, rfl, _, Try.func19⟩ (As hp hl) ?_
  ·walk_nrm
   exact hg
  rintro x e2' ⟨hkept, b, y, rfl, ht4⟩
  obtain ⟨hm2, hb2⟩ := hkept (N + 1) hmn'
  obtain ⟨hm3, hb3⟩ := hkept (N + 2) hmo'
  rw [c2'] at hb2
  rw [c3'] at hb3
  have hap3 := (K.mineA e2' _ hm3).1
  replace ht4 : K.tgt e2' = (K.s e2', .inl ⟨b, y, []⟩) := ht4
  have hls2 : ListOK K e2' (.slice none 0 0) (⟨b, y, []⟩ : Ans).l := .inl ⟨rfl, rfl⟩
  clear hg hkept c1' c2' c3' d0 d1 d2 d3 hmn' hmo' hap0
  unfold LW
  walk_nrm
  repeat (first | (refine Walk.oq ?_; try walk_nrm) | (refine Ax ?_; walk_nrm))
  have g30 : (K.w e2').cell? ⟨N + 2, 1, none⟩ = some (.int .i64 0) := (Ad hb3 1).trans rfl
  have y30 := An hb3 1
  (have hfr := hap3.1 ⟨N + 2, 1, none⟩ rfl; refine Walk.os hfr g30 ?_; clear hfr; try walk_nrm)
  clear g30 y30
  have b30 : ((K.w e2').setCell ⟨N + 2, 1, none⟩ (.int .i64 y)).heap[N + 2]? = some (.cells #[.bool true, .int .i64 y, .slice none 0 0] 44) := by
   rw [Ak _ _ hb3]
   simp
  have o30 : ∀ z, z ≠ N + 2 -> ((K.w e2').setCell ⟨N + 2, 1, none⟩ (.int .i64 y)).heap[z]? = (K.w e2').heap[z]? := fun z hb => Ac _ _ _ _ hb
  have z30 : ((K.w e2').setCell ⟨N + 2, 1, none⟩ (.int .i64 y)).heap.size = (K.w e2').heap.size := Ai _ _ _
  try walk_nrm
  repeat (first | (refine Walk.oq ?_; try walk_nrm) | (refine Ax ?_; walk_nrm))
  have g31 : ((K.w e2').setCell ⟨N + 2, 1, none⟩ (.int .i64 y)).cell? ⟨N + 2, 0, none⟩ = some (.bool true) := (Ad b30 0).trans rfl
  have y31 := An b30 0
  (have hfr := hap3.1 ⟨N + 2, 0, none⟩ rfl; refine Walk.os hfr g31 ?_; clear hfr; try walk_nrm)
  clear g31 y31
  have b31 : (((K.w e2').setCell ⟨N + 2, 1, none⟩ (.int .i64 y)).setCell ⟨N + 2, 0, none⟩ (.bool b)).heap[N + 2]? = some (.cells #[.bool b, .int .i64 y, .slice none 0 0] 44) := by
   rw [Ak _ _ b30]
   simp
  have o31 : ∀ z, z ≠ N + 2 -> (((K.w e2').setCell ⟨N + 2, 1, none⟩ (.int .i64 y)).setCell ⟨N + 2, 0, none⟩ (.bool b)).heap[z]? = (K.w e2').heap[z]? := fun z hb => (Ac _ _ _ _ hb).trans (o30 z hb)
  have z31 : (((K.w e2').setCell ⟨N + 2, 1, none⟩ (.int .i64 y)).setCell ⟨N + 2, 0, none⟩ (.bool b)).heap.size = (K.w e2').heap.size := (Ai _ _ _).trans z30
  obtain ⟨e3, m3⟩ := K.own e2' (w' := (((K.w e2').setCell ⟨N + 2, 1, none⟩ (.int .i64 y)).setCell ⟨N + 2, 0, none⟩ (.bool b))) (Nat.le_of_eq z31.symm) (fun b _ hbm => o31 b (fun he : b = N + 2 => hbm (by rw [he]; exact hm3)))
  have b2 := (o31 (N + 1) (by omega)).trans hb2
  have hm2' : K.mine e3 (N + 1) := (m3.mine _).2 (.inl hm2)
  have ht5 : K.tgt e3 = (K.s e3, .inl ⟨b, y, []⟩) := by rw [m3.tgt, m3.s]; exact ht4
  have hls3 : ListOK K e3 (.slice none 0 0) (⟨b, y, []⟩ : Ans).l := hls2.keep (fun b h => (m3.mine b).2 (.inl h)) fun b _ hb => by
   rw [m3.w]
   exact o31 b (hls2.ne hb3 b hb)
  have b2' : (K.w e3).heap[N + 1]? = some (.cells #[.bool false, .int .i64 0, .slice none 0 0] 44) := by rw [m3.w]; exact b2
  have hcb := fun fr' hfr => Cn K (F := 19) (fr := fr') (c := fr) (l := l) (a := ⟨b, y, []⟩) (sl := .slice none 0 0) hm2' b2' ht5 hls3 (fun e' h h' => hk _ e' ⟨_, _, h, rfl, h', by simp⟩) Try.func19 rfl hfr
  have b3 := b31
  clear b31 o31 z31 b30 o30 z30
  generalize (((K.w e2').setCell ⟨N + 2, 1, none⟩ (.int .i64 y)).setCell ⟨N + 2, 0, none⟩ (.bool b)) = x4 at *
  have hw3 := m3.w
  refine Dq (l := fr :: l) m3 ?_
  unfold LW
  clear m3
  subst hw3
  try walk_nrm
  refine Aa z19 ?_
  refine Walk.loadS 44 (.tmp 9) Ao (by rfl) (by decide) rfl (N + 2) 0 [.bool b, .int .i64 y, .slice none 0 0] (.struct fsA) rfl (fun j v hj => ?_) huA rfl (by kernel_rfl) ?_
  ·rw [Nat.zero_add, Ad b3]
   simpa using hj
  walk_nrm
  refine Ap 44 (.tmp 8) (.tmp 66) Ao (by rfl) (by decide) rfl (N + 1) #[.bool b, .int .i64 y, .slice none 0 0] _ 44 rfl rfl b2 (by kernel_rfl) (by rfl) (by simp [Value.oneCell']) (K.mineA e3 _ hm2').1 ?_
  walk_nrm
  refine Aa z19 ?_
  exact hcb _ ⟨rfl, rfl, rfl, rfl, rfl⟩
 have hbk5 : (ok == 5) = false := by simp [h5]
 simp only [hbk5]
 refine Aa z19 ?_
 have ht3 : K.tgt e2 = (K.s e2, .inl Fw) := ht2.trans (Ms _ _ _ h1 h2 h3 h4 h5)
 refine Aa z19 ?_
 refine Ap 44 (.tmp 8) (.tmp 13) Ao (by rfl) (by decide) rfl (N + 1) #[.bool false, .int .i64 0, .slice none 0 0] _ 44 rfl rfl c2' (by kernel_rfl) (by rfl) (by simp [Value.oneCell']) hap0 ?_
 walk_nrm
 refine Aa z19 ?_
 exact Cn K (a := Fw) (sl := .slice none 0 0) hmn' c2' ht3 (.inl ⟨rfl, rfl⟩) (fun e' h h' => hk _ e' ⟨_, _, h, rfl, h', by simp [Fw]⟩) Try.func19 rfl ⟨rfl, rfl, rfl, rfl, rfl⟩
end
end
end Go.Proofs.Ytjenoiekfkhafaa
