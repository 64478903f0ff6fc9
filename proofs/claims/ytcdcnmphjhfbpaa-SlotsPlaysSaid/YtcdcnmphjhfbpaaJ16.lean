/- Part 16. -/
import Derived.Test.YtcdcnmphjhfbpaaJ3
import Derived.Test.YtcdcnmphjhfbpaaJ9
import Derived.Test.YtcdcnmphjhfbpaaJ10
import Derived.Test.YtcdcnmphjhfbpaaJ13
import Derived.Test.YtcdcnmphjhfbpaaJ14
import Derived.Test.YtcdcnmphjhfbpaaJ15
import Derived.Laws.CopyRow
set_option linter.unusedSimpArgs false
set_option linter.unusedVariables false
set_option linter.unusedVariables false
set_option maxHeartbeats 8000000
set_option maxRecDepth 100000
namespace Go.Proofs.Ytcdcnmphjhfbpaa
open Go.Conc Go.RowKit Go.Relay
open Go.ConcN (upd upd_ne upd_same)
section
section
variable {a0 M tb tc n m : Nat} {cb : CB} {ta : Option Addr} {S : Rg} {T : Nat -> R11}
theorem begin_no {main : Bool} {i : Nat} (hi : i < n) (o : OpV) (a : Ans) (hk : eR m o = some a) (hlo : -9223372036854775808 <= o.a) (w : World) (I : M11 a0 M cb tb tc n m ta S T w) (hn : n <= 64) (hm : m <= 65536) (ha0 : a0 <= w.heap.size) (hl : (T i).ans.length <= 65536) (hat : (T i).at' <= 65536) :
  CallW Try.prog main (fun _ => none) 148 #[.pointer (some ⟨M, 0, none⟩), .int .i64 i, .agg #[.int .i64 o.k, .int .i64 o.a, .int .i64 o.b, .int .i64 o.c]] w (fun v w' => v = .tuple #[] /\ ∃ av oA, M11 a0 M cb tb tc n m ta S (upd T i (((T i).clr o.a).told a av oA)) w' /\ Got M cb m tb n T (upd T i (((T i).clr o.a).told a av oA)) w w') := by
 obtain ⟨k, oa, ob, oc⟩ := o
 unfold eR at hk
 dsimp only at hk hlo ⊢
 by_cases h0 : m = 0
 ·rw [if_pos (.inl h0)] at hk
  obtain rfl := Option.some.inj hk
  exact bg_z hi k oa ob oc (by omega) w I hn hm ha0 hl hat
 by_cases h1 : k < 1
 ·rw [if_pos (.inr (.inl h1))] at hk
  obtain rfl := Option.some.inj hk
  exact bg_lo hi k oa ob oc (by omega) h1 w I hn hm ha0 hl hat
 by_cases h2 : 5 < k
 ·rw [if_pos (.inr (.inr h2))] at hk
  obtain rfl := Option.some.inj hk
  exact bg_hi hi k oa ob oc (by omega) h2 w I hn hm ha0 hl hat
 rw [if_neg (by omega)] at hk
 by_cases h4 : k = 4
 ·subst h4
  rw [if_pos rfl] at hk
  by_cases hg : good oa
  ·by_cases hb : ob < oa
   ·rw [if_neg (by omega), if_neg (by have := hg.1; omega)] at hk
    obtain rfl := Option.some.inj hk
    exact bg_4b hi oa ob oc (by omega) hg hb w I hn hm ha0 hl hat
   ·rw [if_pos ⟨hg, by omega⟩] at hk
    cases hk
  ·rw [if_neg (fun h => hg h.1)] at hk
   by_cases hmi : oa = -9223372036854775808
   ·rw [if_pos hmi] at hk
    obtain rfl := Option.some.inj hk
    exact bg_4m hi oa ob oc (by omega) hmi w I hn hm ha0 hl hat
   ·rw [if_neg hmi] at hk
    obtain rfl := Option.some.inj hk
    exact bg_4n hi oa ob oc (by omega) (by omega) hg w I hn hm ha0 hl hat
 rw [if_neg h4] at hk
 by_cases hg : good oa
 ·rw [if_pos hg] at hk
  by_cases h5 : k = 5 /\ ob < 1
  ·rw [if_pos h5] at hk
   obtain rfl := Option.some.inj hk
   obtain ⟨rfl, hb⟩ := h5
   exact bg_5n hi oa ob oc (by omega) hg hb w I hn hm ha0 hl hat
  ·rw [if_neg h5] at hk
   cases hk
 ·rw [if_neg hg] at hk
  by_cases h3 : k = 3
  ·subst h3
   rw [if_pos rfl] at hk
   obtain rfl := Option.some.inj hk
   exact bg_3n hi oa ob oc (by omega) hg w I hn hm ha0 hl hat
  ·rw [if_neg h3] at hk
   obtain rfl := Option.some.inj hk
   exact bg_n hi k oa ob oc (by omega) (by omega) (by omega) h3 h4 hg w I hn hm ha0 hl hat
theorem begin_yes {main : Bool} {i : Nat} (hi : i < n) (o : OpV) (hk : eR m o = none) (w : World) (I : M11 a0 M cb tb tc n m ta S T w) (hn : n <= 64) (hm : m <= 65536) (ha0 : a0 <= w.heap.size) :
  CallW Try.prog main (fun _ => none) 148 #[.pointer (some ⟨M, 0, none⟩), .int .i64 i, .agg #[.int .i64 o.k, .int .i64 o.a, .int .i64 o.b, .int .i64 o.c]] w (fun v w' => v = .tuple #[] /\ M11 a0 M cb tb tc n m ta S (upd T i ((T i).first o.a)) w' /\ Got M cb m tb n T (upd T i ((T i).first o.a)) w w') := by
 obtain ⟨k, oa, ob, oc⟩ := o
 unfold eR at hk
 dsimp only at hk ⊢
 by_cases h0 : m = 0 ∨ k < 1 ∨ 5 < k
 ·rw [if_pos h0] at hk
  cases hk
 rw [if_neg h0] at hk
 by_cases h4 : k = 4
 ·subst h4
  rw [if_pos rfl] at hk
  by_cases hg : good oa /\ oa <= ob
  ·exact bg_4y hi oa ob oc (by omega) hg.1 (by omega) w I hn hm ha0
  ·rw [if_neg hg] at hk
   cases hk
 rw [if_neg h4] at hk
 by_cases hg : good oa
 ·rw [if_pos hg] at hk
  by_cases h5 : k = 5 /\ ob < 1
  ·rw [if_pos h5] at hk
   cases hk
  ·by_cases h55 : k = 5
   ·subst h55
    exact bg_5y hi oa ob oc (by omega) hg (fun h => h5 ⟨rfl, h⟩) w I hn hm ha0
   ·exact bg_y hi k oa ob oc (by omega) (by omega) (by omega) hg w I hn hm ha0
 ·rw [if_neg hg] at hk
  by_cases h3 : k = 3
  ·rw [if_pos h3] at hk; cases hk
  ·rw [if_neg h3] at hk; cases hk
end
end
section
noncomputable def reg116_0 := rk Try.f116.body 0
theorem size116_0 : reg116_0.size = 29 := by kernel_rfl
noncomputable def reg116_1 := rk Try.f116.body 1
theorem size116_1 : reg116_1.size = 21 := by kernel_rfl
theorem z116 : reg116_0.size = 29 /\ reg116_1.size = 21 := by and_intros <;> kernel_rfl
theorem code116_is : Try.f116.body = some (.block 0 (.loop (.seq (.seq (.region 0 reg116_0 true) (.cond (.tmp 32 ) (.skip) (.exit 0))) (.block 1 (.region 1 reg116_1 true))))) := by kernel_rfl
noncomputable def hdSet (M i : Nat) (u : Nat -> Value) : Frame :=
 (base 116).at { tmps := #[.pointer (some ⟨M, 0, none⟩), .int .i64 i, u 2, u 3, u 4, u 5, u 6, u 7, u 8, u 9, u 10, u 11, u 12, u 13, u 14, u 15, u 16, u 17, u 18, u 19, u 20, u 21, u 22, u 23, u 24, u 25, u 26, u 27, u 28, u 29, u 30, u 31, u 32, u 33, u 34, u 35, u 36, u 37, u 38, u 39, u 40, u 41, u 42, u 43, u 44, u 45, u 46, u 47, u 48, u 49, u 50, u 51, u 52, u 53], defers := [] } [.code (.seq (.seq (.region 0 reg116_0 true) (.cond (.tmp 32 ) (.skip) (.exit 0))) (.block 1 (.region 1 reg116_1 true))), .inLoop (.seq (.seq (.region 0 reg116_0 true) (.cond (.tmp 32 ) (.skip) (.exit 0))) (.block 1 (.region 1 reg116_1 true))), .inBlock 0]
section
variable {a0 M tb tc n m : Nat} {cb : CB} {ta : Option Addr} {S : Rg} {T : Nat -> R11} {main : Bool}
theorem set_in (i : Nat) (cs : List Frame) (w : World) :
  Walk Try.prog main (DR (fun _ => none)) (fun g w' => (∃ u, g = G (hdSet M i u) cs) /\ ∃ d, w' = w.at d) (G (Frame.enter Try.prog 116 #[.pointer (some ⟨M, 0, none⟩), .int .i64 i] .normal) cs) w := by
 rw [enter_at _ Try.func116 code116_is]
 simp only [Try.ntmps116, ez, Nat.reduceAdd, Nat.reduceSub]
 refine Aa z116 ?_
 refine Walk.ctl rfl (fun w => stepG_loop) ?_
 refine .stop fun d => ⟨Ak ?_, d, rfl⟩
 simp only [hdSet]
 rfl
theorem set_on {i : Nat} (hi : i < n) (w : World) (I : M11 a0 M cb tb tc n m ta S T w) (hpc : (T i).pc ≠ 0) (u : Nat -> Value) (fr : Frame) (cs : List Frame) :
  Walk Try.prog main (DR (fun _ => none)) (fun g w' => g = G (fr.finish (.tuple #[])) cs /\ ∃ d, w' = w.at d) (G (hdSet M i u) (fr :: cs)) w := by
 have hi0 : (0 : Int) <= i := by omega
 have hi1 : decide ((i : Int) < n) = true := by simp; omega
 have hi3 : decide (i < n) = true := by simp; omega
 have hi4 : (i : Int) < n := by omega
 have hb0 : ((T i).pc == 0) = false := by simp [hpc]
 have c1 : w.cell? ⟨M, 3, none⟩ = some (.slice (some ⟨tb, 0, none⟩) n tc) := I.cT (by omega)
 have c3 : w.cell? ⟨tb, i * 9 + 4, none⟩ = some (.int .i64 (T i).pc) := I.tcell hi rfl
 generalize (T i).pc = pc at *
 conv => arg 5; unfold hdSet
 refine Aa z116 ?_
 (refine Ba (by kernel_rfl) size116_0 (by kernel_rfl) (by kernel_rfl) (by decide) ?_; simp only [List.range, List.range.loop]; repeat (first | (refine Cm.oq ?_) | (refine Al Aj (by rfl) ?_; walk_nrm)))
 refine Cm.done ?_
 refine Aa z116 ?_
 exact Ar rfl rfl Try.func116 rfl (.stop fun d => ⟨rfl, d, rfl⟩)
theorem set_end {i : Nat} (hi : i < n) (w : World) (I : M11 a0 M cb tb tc n m ta S T w) (hpc : (T i).pc = 0) (hat : (T i).at' = (T i).ops.length) (u : Nat -> Value) (fr : Frame) (cs : List Frame) :
  Walk Try.prog main (DR (fun _ => none)) (fun g w' => g = G (fr.finish (.tuple #[])) cs /\ ∃ d, w' = w.at d) (G (hdSet M i u) (fr :: cs)) w := by
 have hi0 : (0 : Int) <= i := by omega
 have hi1 : decide ((i : Int) < n) = true := by simp; omega
 have hi3 : decide (i < n) = true := by simp; omega
 have hi4 : (i : Int) < n := by omega
 obtain ⟨oa, oc, hov⟩ := (I.rows i hi).ovS
 have c1 : w.cell? ⟨M, 3, none⟩ = some (.slice (some ⟨tb, 0, none⟩) n tc) := I.cT (by omega)
 have c3 : w.cell? ⟨tb, i * 9 + 4, none⟩ = some (.int .i64 (T i).pc) := I.tcell hi rfl
 have c4 : w.cell? ⟨tb, i * 9 + 3, none⟩ = some (.int .i64 (T i).at') := I.tcell hi rfl
 have c5 : w.cell? ⟨tb, i * 9, none⟩ = some (T i).ov := I.tcell hi (j := 0) rfl
 rw [hpc] at c3
 rw [hat] at c4
 rw [hov] at c5
 generalize (T i).ops.length = ln at *
 have hb1 : decide ((ln : Int) < ln) = false := by simp
 have hb2 : decide (ln < ln) = false := by simp
 clear hov hat hpc
 conv => arg 5; unfold hdSet
 refine Aa z116 ?_
 (refine Ba (by kernel_rfl) size116_0 (by kernel_rfl) (by kernel_rfl) (by decide) ?_; simp only [List.range, List.range.loop]; repeat (first | (refine Cm.oq ?_) | (refine Al Aj (by rfl) ?_; walk_nrm)))
 refine Cm.done ?_
 refine Aa z116 ?_
 exact Ar rfl rfl Try.func116 rfl (.stop fun d => ⟨rfl, d, rfl⟩)
theorem set_go {i : Nat} (hi : i < n) (o : OpV) (w : World) (I : M11 a0 M cb tb tc n m ta S T w) (hpc : (T i).pc = 0) (ho : (T i).ops[(T i).at']? = some o) (P : World -> Prop) (hP : ∀ w d, P w -> P (w.at d))
  (hbg : CallW Try.prog main (fun _ => none) 148 #[.pointer (some ⟨M, 0, none⟩), .int .i64 i, .agg #[.int .i64 o.k, .int .i64 o.a, .int .i64 o.b, .int .i64 o.c]] w (fun v w' => v = .tuple #[] /\ P w')) (u : Nat -> Value) (cs : List Frame) :
  Walk Try.prog main (DR (fun _ => none)) (fun g w' => (∃ u, g = G (hdSet M i u) cs) /\ P w') (G (hdSet M i u) cs) w := by
 have hi0 : (0 : Int) <= i := by omega
 have hi1 : decide ((i : Int) < n) = true := by simp; omega
 have hi3 : decide (i < n) = true := by simp; omega
 have hi4 : (i : Int) < n := by omega
 have hlt := (List.getElem?_eq_some_iff.1 ho).1
 obtain ⟨fsO, huO⟩ := Co 49 (by kernel_rfl)
 obtain ⟨g, off, oc, hov, _, _, hop⟩ := (I.rows i hi).op ho
 have c1 : w.cell? ⟨M, 3, none⟩ = some (.slice (some ⟨tb, 0, none⟩) n tc) := I.cT (by omega)
 have c3 : w.cell? ⟨tb, i * 9 + 4, none⟩ = some (.int .i64 (T i).pc) := I.tcell hi rfl
 have c4 : w.cell? ⟨tb, i * 9 + 3, none⟩ = some (.int .i64 (T i).at') := I.tcell hi rfl
 have c5 : w.cell? ⟨tb, i * 9, none⟩ = some (T i).ov := I.tcell hi (j := 0) rfl
 rw [hpc] at c3
 rw [hov] at c5
 generalize (T i).ops.length = ln at *
 generalize (T i).at' = k at *
 have hk0 : (0 : Int) <= k := by omega
 have hk1 : decide ((k : Int) < ln) = true := by simp; omega
 have hk3 : decide (k < ln) = true := by simp; omega
 have hk4 : (k : Int) < ln := by omega
 clear hov hpc I ho
 conv => arg 5; unfold hdSet
 refine Aa z116 ?_
 (refine Ba (by kernel_rfl) size116_0 (by kernel_rfl) (by kernel_rfl) (by decide) ?_; simp only [List.range, List.range.loop]; repeat (first | (refine Cm.oq ?_) | (refine Al Aj (by rfl) ?_; walk_nrm)))
 refine Cm.done ?_
 refine Aa z116 ?_
 (refine Ay (by kernel_rfl) size116_1 (by kernel_rfl) (by kernel_rfl) (by kernel_rfl) (by decide) ?_; simp only [List.range, List.range.loop]; repeat (first | (refine Cm.oq ?_) | (refine Al Aj (by rfl) ?_; walk_nrm)))
 refine Cm.loadS 49 (.tmp 51) Aj (by rfl) rfl g (off + k * 4) [.int .i64 o.k, .int .i64 o.a, .int .i64 o.b, .int .i64 o.c] (.struct fsO) rfl (fun x hx => hx ▸ hop) huO rfl (by kernel_rfl) ?_
 walk_nrm
 refine Cm.done ?_
 intro rest hr0
 refine Ah (Post := fun v w' => v = .tuple #[] /\ P w') ?_ Aj (by rfl) (by decide) rfl Try.func148 (by kernel_rfl) (by rfl) ?_
 ·walk_nrm
  exact hbg
 rintro v w1 ⟨rfl, hP1⟩
 refine hr0 _ _ ?_
 try walk_nrm
 refine Aa z116 ?_
 refine Walk.ctl rfl (fun w => stepG_inLoop) ?_
 refine .stop fun d => ⟨Ak ?_, hP w1 d hP1⟩
 simp only [hdSet]
 rfl
structure Set11 (m : Nat) (t t' : R11) : Prop where
 ov : t'.ov = t.ov
 ops : t'.ops = t.ops
 who : t'.who = t.who
 how : ∃ q asw, asw.length = q /\ (∀ x, x < q -> ∃ o a, t.ops[t.at' + x]? = some o /\ eR m o = some a /\ asw[x]? = some a) /\ t'.at' = t.at' + q /\ t'.ans = t.ans ++ asw /\
  ((t'.at' = t.ops.length /\ t'.pc = 0) ∨ ∃ o, t.ops[t'.at']? = some o /\ eR m o = none /\ t'.pc = 1 /\ t'.q = o.a /\ t'.seen = [] /\ t'.live)
theorem settle_loop {i : Nat} (hi : i < n) (hn : n <= 64) (hm : m <= 65536) (fr : Frame) (cs : List Frame) : ∀ (r : Nat) (T : Nat -> R11) (w : World) (u : Nat -> Value), (T i).at' + r = (T i).ops.length -> (T i).ops.length <= 65536 -> (T i).ans.length <= (T i).at' -> (T i).pc = 0 -> a0 <= w.heap.size -> M11 a0 M cb tb tc n m ta S T w ->
  Walk Try.prog main (DR (fun _ => none)) (fun g w' => g = G (fr.finish (.tuple #[])) cs /\ ∃ t', Set11 m (T i) t' /\ M11 a0 M cb tb tc n m ta S (upd T i t') w' /\ Got M cb m tb n T (upd T i t') w w') (G (hdSet M i u) (fr :: cs)) w := by
 intro r
 induction r with
 | zero =>
  intro T w u hr hln hal hpc ha0 I
  refine (set_end hi w I hpc hr u fr cs).mono ?_
  rintro g w' ⟨rfl, d, rfl⟩
  have e : upd T i (T i) = T := by
   funext k
   by_cases h : k = i
   ·subst h; rw [upd_same]
   ·rw [upd_ne _ _ h]
  refine ⟨rfl, T i, ⟨rfl, rfl, rfl, 0, [], rfl, fun x hx => absurd hx (Nat.not_lt_zero x), rfl, by simp, .inl ⟨hr, hpc⟩⟩, ?_, ?_⟩
  ·rw [e]; exact I.same fun _ _ => rfl
  ·rw [e]; exact ⟨Chg.refl.at d, fun _ h => .inl h⟩
 | succ r ih =>
  intro T w u hr hln hal hpc ha0 I
  obtain ⟨o, ho⟩ : ∃ o, (T i).ops[(T i).at']? = some o := ⟨_, List.getElem?_eq_getElem (by omega)⟩
  cases hk : eR m o with
  | none =>
   refine (set_go hi o w I hpc ho (fun w' => M11 a0 M cb tb tc n m ta S (upd T i ((T i).first o.a)) w' /\ Got M cb m tb n T (upd T i ((T i).first o.a)) w w') (fun w' d h => ⟨h.1.same fun _ _ => rfl, ⟨h.2.chg.at d, h.2.own⟩⟩) (begin_yes hi o hk w I hn hm ha0) u (fr :: cs)).then ?_
   rintro _ w1 ⟨⟨u1, rfl⟩, I1, g1⟩
   refine (set_on hi w1 I1 (by rw [upd_same]; show (1 : Int) ≠ 0; decide) u1 fr cs).mono ?_
   rintro g w' ⟨rfl, d, rfl⟩
   exact ⟨rfl, (T i).first o.a, ⟨rfl, rfl, rfl, 0, [], rfl, fun x hx => absurd hx (Nat.not_lt_zero x), rfl, by simp [R11.first], .inr ⟨o, ho, hk, rfl, rfl, rfl, trivial⟩⟩, I1.same fun _ _ => rfl, ⟨g1.chg.at d, g1.own⟩⟩
  | some a =>
   refine (set_go hi o w I hpc ho (fun w' => ∃ av oA, M11 a0 M cb tb tc n m ta S (upd T i (((T i).clr o.a).told a av oA)) w' /\ Got M cb m tb n T (upd T i (((T i).clr o.a).told a av oA)) w w') (fun w' d h => h.imp fun av h => h.imp fun oA h => ⟨h.1.same fun _ _ => rfl, ⟨h.2.chg.at d, h.2.own⟩⟩) (begin_no hi o a hk ((I.rows i hi).low64 ho) w I hn hm ha0 (by omega) (by omega)) u (fr :: cs)).then ?_
   rintro _ w1 ⟨⟨u1, rfl⟩, av, oA, I1, g1⟩
   have hz := g1.chg.size
   refine (ih (upd T i (((T i).clr o.a).told a av oA)) w1 u1 (by rw [upd_same]; show (T i).at' + 1 + r = _; show _ = (T i).ops.length; omega) (by rw [upd_same]; exact hln) (by rw [upd_same]; show ((T i).ans ++ [a]).length <= (T i).at' + 1; simp; omega) (by rw [upd_same]; rfl) (by omega) I1).mono ?_
   rintro g w' ⟨rfl, t', Z5, I2, g2⟩
   rw [upd_same] at Z5
   rw [Ag] at I2 g2
   obtain ⟨q, asw, s0, s1, s2, s3, s4⟩ := Z5.how
   refine ⟨rfl, t', ⟨Z5.ov, Z5.ops, Z5.who, q + 1, a :: asw, by simp [s0], fun x hx => ?_, ?_, ?_, s4⟩, I2, g1.trans g2⟩
   ·cases x with
    | zero => exact ⟨o, a, ho, hk, rfl⟩
    | succ x =>
     obtain ⟨o', a', h1, h2, h3⟩ := s1 x (by omega)
     refine ⟨o', a', ?_, h2, h3⟩
     rw [<- h1]
     show (T i).ops[(T i).at' + (x + 1)]? = (T i).ops[(T i).at' + 1 + x]?
     congr 1
     omega
   ·rw [s2]
    show (T i).at' + 1 + q = _
    omega
   ·rw [s3]
    show (T i).ans ++ [a] ++ _ = _
    rw [List.append_assoc]
    rfl
theorem settle_w {i : Nat} (hi : i < n) (hn : n <= 64) (hm : m <= 65536) (w : World) (hr : (T i).at' <= (T i).ops.length) (hln : (T i).ops.length <= 65536) (hal : (T i).ans.length <= (T i).at') (hpc : (T i).pc = 0) (ha0 : a0 <= w.heap.size) (I : M11 a0 M cb tb tc n m ta S T w) :
  CallW Try.prog main (fun _ => none) 116 #[.pointer (some ⟨M, 0, none⟩), .int .i64 i] w (fun v w' => v = .tuple #[] /\ ∃ t', Set11 m (T i) t' /\ M11 a0 M cb tb tc n m ta S (upd T i t') w' /\ Got M cb m tb n T (upd T i t') w w') := by
 intro c cs
 refine (set_in i (c :: cs) w).then ?_
 rintro _ _ ⟨⟨u, rfl⟩, d, rfl⟩
 refine Walk.back ?_ d
 refine (settle_loop hi hn hm c cs ((T i).ops.length - (T i).at') T w u (by omega) hln hal hpc ha0 I).mono ?_
 rintro g w' ⟨rfl, h⟩
 exact ⟨_, ⟨rfl, h⟩, rfl⟩
theorem settle_on {i : Nat} (hi : i < n) (w : World) (hpc : (T i).pc ≠ 0) (I : M11 a0 M cb tb tc n m ta S T w) :
  As Try.prog main (fun _ => none) 116 #[.pointer (some ⟨M, 0, none⟩), .int .i64 i] w (.tuple #[]) w := by
 intro c cs
 refine (set_in i (c :: cs) w).then ?_
 rintro _ _ ⟨⟨u, rfl⟩, d, rfl⟩
 refine Walk.back ?_ d
 refine (set_on hi w I hpc u c cs).mono ?_
 rintro g w' ⟨rfl, d, rfl⟩
 exact ⟨_, ⟨rfl, d, rfl⟩, rfl⟩
end
end
section
theorem Dl : Try.prog.underlying 35 = some (.pointer 132) := by kernel_rfl
noncomputable def reg75_0 := rk Try.f75.body 0
noncomputable def reg75_1 := rk Try.f75.body 1
theorem z75 : reg75_0.size = 1 /\ reg75_1.size = 7 := by and_intros <;> kernel_rfl
theorem code75_is : Try.f75.body = some (.seq (.region 0 reg75_0 false) (.seq (.region 1 reg75_1 false) (.ret))) := by kernel_rfl
noncomputable def reg19_0 := rk Try.f19.body 0
noncomputable def reg19_1 := rk Try.f19.body 1
noncomputable def reg19_2 := rk Try.f19.body 2
noncomputable def reg19_3 := rk Try.f19.body 3
theorem z19 : reg19_0.size = 1 /\ reg19_1.size = 2 /\ reg19_2.size = 1 /\ reg19_3.size = 6 := by and_intros <;> kernel_rfl
theorem code19_is : Try.f19.body = some (.seq (.region 0 reg19_0 false) (.seq (.seq (.region 1 reg19_1 false) (.cond (.tmp 4 ) (.seq (.region 2 reg19_2 false) (.ret)) (.skip))) (.seq (.region 3 reg19_3 false) (.ret)))) := by kernel_rfl
noncomputable def reg74_0 := rk Try.f74.body 0
noncomputable def reg74_1 := rk Try.f74.body 1
theorem z74 : reg74_0.size = 1 /\ reg74_1.size = 8 := by and_intros <;> kernel_rfl
theorem code74_is : Try.f74.body = some (.seq (.region 0 reg74_0 false) (.seq (.region 1 reg74_1 false) (.ret))) := by kernel_rfl
noncomputable def reg23_0 := rk Try.f23.body 0
noncomputable def reg23_1 := rk Try.f23.body 1
noncomputable def reg23_2 := rk Try.f23.body 2
noncomputable def reg23_3 := rk Try.f23.body 3
theorem z23 : reg23_0.size = 1 /\ reg23_1.size = 4 /\ reg23_2.size = 1 /\ reg23_3.size = 5 := by and_intros <;> kernel_rfl
theorem code23_is : Try.f23.body = some (.seq (.region 0 reg23_0 false) (.seq (.seq (.region 1 reg23_1 false) (.cond (.tmp 8 ) (.seq (.region 2 reg23_2 false) (.ret)) (.skip))) (.seq (.region 3 reg23_3 false) (.ret)))) := by kernel_rfl
noncomputable def reg24_0 := rk Try.f24.body 0
noncomputable def reg24_1 := rk Try.f24.body 1
noncomputable def reg24_2 := rk Try.f24.body 2
noncomputable def reg24_3 := rk Try.f24.body 3
noncomputable def reg24_4 := rk Try.f24.body 4
noncomputable def reg24_5 := rk Try.f24.body 5
theorem z24 : reg24_0.size = 1 /\ reg24_1.size = 4 /\ reg24_2.size = 1 /\ reg24_3.size = 5 /\ reg24_4.size = 1 /\ reg24_5.size = 5 := by and_intros <;> kernel_rfl
theorem code24_is : Try.f24.body = some (.seq (.region 0 reg24_0 false) (.seq (.block 0 (.seq (.region 1 reg24_1 false) (.cond (.tmp 5 ) (.seq (.region 2 reg24_2 false) (.ret)) (.seq (.region 3 reg24_3 false) (.cond (.tmp 9 ) (.seq (.region 4 reg24_4 false) (.ret)) (.skip)))))) (.seq (.region 5 reg24_5 false) (.ret)))) := by kernel_rfl
section
variable {main : Bool} {V : Nat -> Option Wait} {rb sb n : Nat} {s : Rg}
theorem good_yes (q : Int) (w : World) (h0 : 0 <= q) : As Try.prog main V 75 #[.int .i64 q] w (.bool (decide (q < 4611686018427387904))) w := by
 refine Ap Try.func75 code75_is fun fr cs => ?_
 simp only [Try.ntmps75, ez, Nat.reduceAdd, Nat.reduceSub]
 refine Aa z75 ?_
 exact An rfl rfl Try.func75 rfl fun d => ⟨rfl, d, rfl⟩
theorem good_no (q : Int) (w : World) (h0 : ¬ 0 <= q) : As Try.prog main V 75 #[.int .i64 q] w (.bool false) w := by
 have h1 : q < 0 := by omega
 refine Ap Try.func75 code75_is fun fr cs => ?_
 simp only [Try.ntmps75, ez, Nat.reduceAdd, Nat.reduceSub]
 refine Aa z75 ?_
 exact An rfl rfl Try.func75 rfl fun d => ⟨rfl, d, rfl⟩
theorem good_w (q : Int) (w : World) : As Try.prog main V 75 #[.int .i64 q] w (.bool (decide (good q))) w := by
 by_cases h0 : 0 <= q
 ·have e : decide (good q) = decide (q < 4611686018427387904) := by simp [good, h0]
  rw [e]
  exact good_yes q w h0
 ·have e : decide (good q) = false := by simp [good, h0]
  rw [e]
  exact good_no q w h0
theorem Hj (w : World) (I : RgI rb sb n s w) : As Try.prog main V 19 #[.pointer (some ⟨rb, 0, none⟩)] w (.int .i64 (n : Nat)) w := by
 have c1 := I.size
 have hp1 := fun w => Bz (P := Try.prog) 35 Dl (some ⟨rb, 0, none⟩) w
 have hp2 := fun w es => Cn (P := Try.prog) 35 Dl (some ⟨rb, 0, none⟩) w es
 simp only [Option.isNone_some] at hp1
 clear I
 refine Ap Try.func19 code19_is fun fr cs => ?_
 simp only [Try.ntmps19, ez, Nat.reduceAdd, Nat.reduceSub]
 refine Aa z19 ?_
 exact An rfl rfl Try.func19 rfl fun d => ⟨rfl, d, rfl⟩
theorem size_nil (w : World) : As Try.prog main V 19 #[.pointer none] w (.int .i64 0) w := by
 have hp1 := fun w => Bz (P := Try.prog) 35 Dl none w
 have hp2 := fun w es => Cn (P := Try.prog) 35 Dl none w es
 simp only [Option.isNone_none] at hp1
 refine Ap Try.func19 code19_is fun fr cs => ?_
 simp only [Try.ntmps19, ez, Nat.reduceAdd, Nat.reduceSub]
 refine Aa z19 ?_
 exact An rfl rfl Try.func19 rfl fun d => ⟨rfl, d, rfl⟩
theorem Ex (w : World) (I : RgI rb sb n s w) (q : Int) (h : good q) : As Try.prog main V 74 #[.pointer (some ⟨rb, 0, none⟩), .int .i64 q] w (.bool true) w := by
 have hg := good_w (main := main) (V := V) q w
 have hsz := Hj (main := main) (V := V) w I
 have hn := I.pos.1
 have hn1 : decide ((0 : Int) < (n : Int)) = true := by simp; omega
 have hn2 : decide (0 < n) = true := by simp; omega
 clear I
 have e : decide (good q) = true := by simp [h]
 rw [e] at hg
 refine Ap Try.func74 code74_is fun fr cs => ?_
 simp only [Try.ntmps74, ez, Nat.reduceAdd, Nat.reduceSub]
 refine Aa z74 ?_
 refine Walk.callV (x := .bool true) (W := w) ?_ Aj (by rfl) (by decide) rfl Try.func75 (by kernel_rfl) (by rfl) ?_
 ·walk_nrm
  exact hg
 walk_nrm
 refine Aa z74 ?_
 refine Walk.callV (x := .int .i64 (n : Nat)) (W := w) ?_ Aj (by rfl) (by decide) rfl Try.func19 (by kernel_rfl) (by rfl) ?_
 ·walk_nrm
  exact hsz
 walk_nrm
 refine Aa z74 ?_
 exact An rfl rfl Try.func74 rfl fun d => ⟨rfl, d, rfl⟩
theorem Gj (r : Value) (w : World) (q : Int) (h : ¬ good q) : As Try.prog main V 74 #[r, .int .i64 q] w (.bool false) w := by
 have hg := good_w (main := main) (V := V) q w
 have e : decide (good q) = false := by simp [h]
 rw [e] at hg
 refine Ap Try.func74 code74_is fun fr cs => ?_
 simp only [Try.ntmps74, ez, Nat.reduceAdd, Nat.reduceSub]
 refine Aa z74 ?_
 refine Walk.callV (x := .bool false) (W := w) ?_ Aj (by rfl) (by decide) rfl Try.func75 (by kernel_rfl) (by rfl) ?_
 ·walk_nrm
  exact hg
 walk_nrm
 refine Aa z74 ?_
 exact An rfl rfl Try.func74 rfl fun d => ⟨rfl, d, rfl⟩
theorem holds_w (w : World) (I : RgI rb sb n s w) (q : Int) : As Try.prog main V 74 #[.pointer (some ⟨rb, 0, none⟩), .int .i64 q] w (.bool (decide (good q))) w := by
 by_cases h : good q
 ·rw [show decide (good q) = true by simp [h]]
  exact Ex w I q h
 ·rw [show decide (good q) = false by simp [h]]
  exact Gj _ w q h
theorem ixR_tmod {n : Nat} (hn : 1 <= n) {q : Int} (hq : 0 <= q) : q.tmod n = ((Bq n q : Nat) : Int) := by
 have h1 := Int.emod_nonneg q (show (n : Int) ≠ 0 by omega)
 rw [Int.tmod_eq_emod_of_nonneg hq]
 unfold Bq
 omega
theorem laR_tdiv {n : Nat} {q : Int} (hq : 0 <= q) : q.tdiv n = q / n := Int.tdiv_eq_ediv_of_nonneg hq
theorem slot_w (w : World) (I : RgI rb sb n s w) (q : Int) (hq : good q) : As Try.prog main V 23 #[.pointer (some ⟨rb, 0, none⟩), .int .i64 q] w (.int .i64 (Bq n q : Nat)) w := by
 have hh := holds_w (main := main) (V := V) w I q
 have hsz := Hj (main := main) (V := V) w I
 have e : decide (good q) = true := by simp [hq]
 rw [e] at hh
 have hn := I.pos
 have hm := ixR_tmod hn.1 hq.1
 have hn0 : ¬ ((n : Int) = 0) := by omega
 have hn1 : ¬ (n = 0) := by omega
 have hlt := Mi hn.1 q
 have hw : IntKind.wrap .i64 (q.tmod n) = ((Bq n q : Nat) : Int) := by rw [hm, IntKind.wrap_i64]; omega
 clear I
 refine Ap Try.func23 code23_is fun fr cs => ?_
 simp only [Try.ntmps23, ez, Nat.reduceAdd, Nat.reduceSub]
 refine Aa z23 ?_
 refine Walk.callV (x := .bool true) (W := w) ?_ Aj (by rfl) (by decide) rfl Try.func74 (by kernel_rfl) (by rfl) ?_
 ·walk_nrm
  exact hh
 walk_nrm
 refine Aa z23 ?_
 refine Walk.callV (x := .int .i64 (n : Nat)) (W := w) ?_ Aj (by rfl) (by decide) rfl Try.func19 (by kernel_rfl) (by rfl) ?_
 ·walk_nrm
  exact hsz
 walk_nrm
 refine Aa z23 ?_
 exact An rfl rfl Try.func23 rfl fun d => ⟨by simp [hm, hw], d, rfl⟩
theorem lap_w (w : World) (I : RgI rb sb n s w) (q : Int) (hq : good q) : As Try.prog main V 24 #[.pointer (some ⟨rb, 0, none⟩), .int .i64 q] w (.int .i64 (q / n)) w := by
 have hg := good_w (main := main) (V := V) q w
 have hh := holds_w (main := main) (V := V) w I q
 have hsz := Hj (main := main) (V := V) w I
 have e : decide (good q) = true := by simp [hq]
 rw [e] at hh hg
 have hn := I.pos
 have hm := laR_tdiv (n := n) hq.1
 have hn0 : ¬ ((n : Int) = 0) := by omega
 have hn1 : ¬ (n = 0) := by omega
 have hb : 0 <= q / (n : Int) /\ q / (n : Int) <= q := ⟨Int.ediv_nonneg hq.1 (by omega), Int.ediv_le_self _ hq.1⟩
 have hq2 := hq.2
 have hw : IntKind.wrap .i64 (q / (n : Int)) = q / n := by rw [IntKind.wrap_i64]; omega
 clear I
 refine Ap Try.func24 code24_is fun fr cs => ?_
 simp only [Try.ntmps24, ez, Nat.reduceAdd, Nat.reduceSub]
 refine Aa z24 ?_
 refine Walk.callV (x := .bool true) (W := w) ?_ Aj (by rfl) (by decide) rfl Try.func75 (by kernel_rfl) (by rfl) ?_
 ·walk_nrm
  exact hg
 walk_nrm
 refine Aa z24 ?_
 refine Walk.callV (x := .bool true) (W := w) ?_ Aj (by rfl) (by decide) rfl Try.func74 (by kernel_rfl) (by rfl) ?_
 ·walk_nrm
  exact hh
 walk_nrm
 refine Aa z24 ?_
 refine Walk.callV (x := .int .i64 (n : Nat)) (W := w) ?_ Aj (by rfl) (by decide) rfl Try.func19 (by kernel_rfl) (by rfl) ?_
 ·walk_nrm
  exact hsz
 walk_nrm
 refine Aa z24 ?_
 exact An rfl rfl Try.func24 rfl fun d => ⟨by simp [hm, hw], d, rfl⟩
end
end
section
noncomputable def reg110_0 := rk Try.f110.body 0
noncomputable def reg110_1 := rk Try.f110.body 1
theorem size110_1 : reg110_1.size = 14 := by kernel_rfl
theorem z110 : reg110_0.size = 2 /\ reg110_1.size = 14 := by and_intros <;> kernel_rfl
theorem code110_is : Try.f110.body = some (.seq (.region 0 reg110_0 false) (.seq (.region 1 reg110_1 true) (.ret))) := by kernel_rfl
noncomputable def reg63_0 := rk Try.f63.body 0
noncomputable def reg63_1 := rk Try.f63.body 1
noncomputable def reg63_2 := rk Try.f63.body 2
noncomputable def reg63_3 := rk Try.f63.body 3
noncomputable def reg63_4 := rk Try.f63.body 4
theorem z63 : reg63_0.size = 1 /\ reg63_1.size = 4 /\ reg63_2.size = 1 /\ reg63_3.size = 8 /\ reg63_4.size = 8 := by and_intros <;> kernel_rfl
theorem code63_is : Try.f63.body = some (.seq (.region 0 reg63_0 false) (.seq (.seq (.region 1 reg63_1 false) (.cond (.tmp 12 ) (.seq (.region 2 reg63_2 false) (.ret)) (.skip))) (.seq (.region 3 reg63_3 false) (.seq (.region 4 reg63_4 false) (.ret))))) := by kernel_rfl
noncomputable def reg60_0 := rk Try.f60.body 0
noncomputable def reg60_1 := rk Try.f60.body 1
noncomputable def reg60_2 := rk Try.f60.body 2
noncomputable def reg60_3 := rk Try.f60.body 3
noncomputable def reg60_4 := rk Try.f60.body 4
noncomputable def reg60_5 := rk Try.f60.body 5
noncomputable def reg60_6 := rk Try.f60.body 6
noncomputable def reg60_7 := rk Try.f60.body 7
theorem z60 : reg60_0.size = 1 /\ reg60_1.size = 4 /\ reg60_2.size = 1 /\ reg60_3.size = 8 /\ reg60_4.size = 7 /\ reg60_5.size = 6 /\ reg60_6.size = 6 /\ reg60_7.size = 1 := by and_intros <;> kernel_rfl
theorem code60_is : Try.f60.body = some (.seq (.region 0 reg60_0 false) (.seq (.seq (.region 1 reg60_1 false) (.cond (.tmp 14 ) (.seq (.region 2 reg60_2 false) (.ret)) (.skip))) (.seq (.region 3 reg60_3 false) (.seq (.region 4 reg60_4 false) (.seq (.region 5 reg60_5 false) (.seq (.region 6 reg60_6 false) (.seq (.region 7 reg60_7 false) (.ret)))))))) := by kernel_rfl
theorem laR_in {n : Nat} (hn : 1 <= n) {q : Int} (hq : good q) : 0 <= Ce n q /\ Ce n q < 9223372036854775808 := by
 have hb : 0 <= q / (n : Int) /\ q / (n : Int) <= q := ⟨Int.ediv_nonneg hq.1 (by omega), Int.ediv_le_self _ hq.1⟩
 have := hq.2
 unfold Ce
 omega
section
variable {main : Bool} {V : Nat -> Option Wait} {rb sb n : Nat} {s : Rg}
theorem at_w (w : World) (I : RgI rb sb n s w) (q : Int) (hq : good q) : As Try.prog main V 110 #[.pointer (some ⟨rb, 0, none⟩), .int .i64 q] w (.tuple #[.pointer (some ⟨sb, Bq n q * 2, none⟩), .int .i64 (Ce n q)]) w := by
 have hsl := slot_w (main := main) (V := V) w I q hq
 have hlp := lap_w (main := main) (V := V) w I q hq
 have c1 := I.size
 have hn := I.pos
 have hb := laR_in hn.1 hq
 have hw : IntKind.wrap .i64 (2 * (q / (n : Int))) = Ce n q := by
  have e : Ce n q = 2 * (q / (n : Int)) := rfl
  rw [<- e, IntKind.wrap_i64]
  omega
 have hlt := Mi hn.1 q
 have hl1 : ((Bq n q : Nat) : Int) < (n : Int) := by omega
 generalize Ce n q = la at *
 generalize Bq n q = ix at *
 generalize q / (n : Int) = qn at *
 clear I
 refine Ap Try.func110 code110_is fun fr cs => ?_
 simp only [Try.ntmps110, ez, Nat.reduceAdd, Nat.reduceSub]
 refine Aa z110 ?_
 (refine Jn (by kernel_rfl) size110_1 (by kernel_rfl) (by kernel_rfl) (by decide) ?_; simp only [List.range, List.range.loop]; repeat (first | (refine Cm.oq ?_) | (refine Al Aj (by rfl) ?_; walk_nrm)))
 refine Cm.callV (x := .int .i64 (ix : Nat)) ?_ Aj (by rfl) rfl Try.func23 (by kernel_rfl) (by rfl) ?_
 ·intro w' he
  subst he
  walk_nrm
  exact hsl
 walk_nrm
 repeat (first | (refine Cm.oq ?_) | (refine Al Aj (by rfl) ?_; walk_nrm))
 refine Cm.callV (x := .int .i64 qn) ?_ Aj (by rfl) rfl Try.func24 (by kernel_rfl) (by rfl) ?_
 ·intro w' he
  subst he
  walk_nrm
  exact hlp
 walk_nrm
 repeat (first | (refine Cm.oq ?_) | (refine Al Aj (by rfl) ?_; walk_nrm))
 refine Cm.done ?_
 refine Aa z110 ?_
 exact By rfl rfl Try.func110 rfl (.stop fun d => ⟨_, ⟨rfl, d, rfl⟩, rfl⟩)
end
section
variable {rb sb n : Nat} {sv : Value}
theorem Mf (K : Lg (Bs rb sb n) sv) (i : Nat) (hi : i < n) (e : K.E) (d : RD) (ht : K.tgt e = (K.s e, .inr d)) : SCall K.toLb 100 #[.pointer (some ⟨sb, i * 2, none⟩), sv] e (fun v e' => Aft K.toLb e d e' /\ v = .int .i64 ((K.s e' : Rg).st i)) := word_load K (stpW i hi) e d trivial ht
theorem load_vlu (K : Lg (Bs rb sb n) sv) (i : Nat) (hi : i < n) (e : K.E) (d : RD) (ht : K.tgt e = (K.s e, .inr d)) : SCall K.toLb 100 #[.pointer (some ⟨sb, i * 2 + 1, none⟩), sv] e (fun v e' => Aft K.toLb e d e' /\ v = .int .i64 ((K.s e' : Rg).va i)) := word_load K (vluW i hi) e d trivial ht
theorem store_stp (K : Lg (Bs rb sb n) sv) (i : Nat) (hi : i < n) (e : K.E) (d : RD) (x : Int) (ht : K.tgt e = (K.s e, .inr d)) : SCall K.toLb 71 #[.pointer (some ⟨sb, i * 2, none⟩), sv, .int .i64 x] e (fun _ e' => ∃ s : Rg, Wrote K e d s (Cg s i x) e') := Lm K (stpW i hi) e d x trivial trivial ht
theorem store_vlu (K : Lg (Bs rb sb n) sv) (i : Nat) (hi : i < n) (e : K.E) (d : RD) (x : Int) (ht : K.tgt e = (K.s e, .inr d)) : SCall K.toLb 71 #[.pointer (some ⟨sb, i * 2 + 1, none⟩), sv, .int .i64 x] e (fun _ e' => ∃ s : Rg, Wrote K e d s (Eu s i x) e') := Lm K (vluW i hi) e d x trivial trivial ht
theorem there_s (K : Lg (Bs rb sb n) sv) (e : K.E) (q : Int) (hq : good q) (d : RD) (ht : K.tgt e = (K.s e, .inr d)) : SCall K.toLb 63 #[.pointer (some ⟨rb, 0, none⟩), sv, .int .i64 q] e (fun v e' => Aft K.toLb e d e' /\ v = .bool (decide ((K.s e' : Rg).st (Bq n q) = Ce n q))) := by
 intro fr l hp hl hk
 have I := K.inv e
 have hh := Ex (main := K.main) (V := K.V e) (K.w e) I q hq
 have ha := at_w (main := K.main) (V := K.V e) (K.w e) I q hq
 have hw := Mf K (Bq n q) (Mi I.pos.1 q) e d ht
 generalize Bq n q = ix at *
 generalize Ce n q = la at *
 unfold LW
 clear I
 rw [enter_at _ Try.func63 code63_is]
 simp only [Try.ntmps63, ez, Nat.reduceAdd, Nat.reduceSub]
 refine Aa z63 ?_
 refine Walk.callV (x := .bool true) (W := K.w e) ?_ Aj (by rfl) (by decide) rfl Try.func74 (by kernel_rfl) (by rfl) ?_
 ·walk_nrm
  exact hh
 walk_nrm
 clear hh
 refine Aa z63 ?_
 refine Walk.callV (x := .tuple #[.pointer (some ⟨sb, ix * 2, none⟩), .int .i64 la]) (W := K.w e) ?_ Aj (by rfl) (by decide) rfl Try.func110 (by kernel_rfl) (by rfl) ?_
 ·walk_nrm
  exact ha
 walk_nrm
 clear ha
 refine Aa z63 ?_
 refine Bt (K := K.toLb) (e := e) (l := fr :: l) (f := 100) (Q := fun v e' => Aft K.toLb e d e' /\ v = .int .i64 ((K.s e' : Rg).st ix)) ?_ Aj (by rfl) (by decide) rfl Try.func100 (by kernel_rfl) (by rfl) ⟨rfl, rfl, _, Try.func63⟩ (Bl hp hl) ?_
 ·walk_nrm
  exact hw
 rintro v e1 ⟨ha, rfl⟩
 have hkk := hk (.bool (decide ((K.s e1 : Rg).st ix = la))) e1 ⟨ha, rfl⟩
 generalize (K.s e1 : Rg).st ix = x at *
 have eb : decide (x = la) = (x == la) := by by_cases h : x = la <;> simp [h]
 rw [eb] at hkk
 unfold LW at hkk ⊢
 walk_nrm
 refine Aa z63 ?_
 exact Be rfl rfl Try.func63 rfl hkk
theorem put_s (K : Lg (Bs rb sb n) sv) (e : K.E) (q v : Int) (hq : good q) (ht : K.tgt e = (K.s e, .inr (.p1 q v))) : SCall K.toLb 60 #[.pointer (some ⟨rb, 0, none⟩), sv, .int .i64 q, .int .i64 v] e (fun x e' => x = .int .i64 0 /\ K.tgt e' = (K.s e', .inl ⟨true, 0, []⟩)) := by
 intro fr l hp hl hk
 have I := K.inv e
 have hh := Ex (main := K.main) (V := K.V e) (K.w e) I q hq
 have ha := at_w (main := K.main) (V := K.V e) (K.w e) I q hq
 have hix := Mi I.pos.1 q
 have hb := laR_in I.pos.1 hq
 have w1 := store_stp K (Bq n q) hix e (.p1 q v) (Ce n q - 1) ht
 have h1 : ∀ (e1 : K.E) (s1 : Rg), Wrote K e (.p1 q v) s1 (Cg s1 (Bq n q) (Ce n q - 1)) e1 -> K.tgt e1 = (K.s e1, .inr (.p2 q v)) := fun e1 s1 h => by
  rw [h.tgt]
  have : (K.s e1 : Rg) = Cg s1 (Bq n q) (Ce n q - 1) := h.s
  rw [this]
  rfl
 have w2 := fun (e1 : K.E) (h : K.tgt e1 = (K.s e1, .inr (.p2 q v))) => store_vlu K (Bq n q) hix e1 (.p2 q v) v h
 have h2 : ∀ (e1 e2 : K.E) (s1 : Rg), Wrote K e1 (.p2 q v) s1 (Eu s1 (Bq n q) v) e2 -> K.tgt e2 = (K.s e2, .inr (.p3 q)) := fun e1 e2 s1 h => by
  rw [h.tgt]
  have : (K.s e2 : Rg) = Eu s1 (Bq n q) v := h.s
  rw [this]
  rfl
 have w3 := fun (e1 : K.E) (h : K.tgt e1 = (K.s e1, .inr (.p3 q))) => store_stp K (Bq n q) hix e1 (.p3 q) (Ce n q) h
 have h3 : ∀ (e1 e2 : K.E) (s1 : Rg), Wrote K e1 (.p3 q) s1 (Cg s1 (Bq n q) (Ce n q)) e2 -> K.tgt e2 = (K.s e2, .inl ⟨true, 0, []⟩) := fun e1 e2 s1 h => by
  rw [h.tgt]
  have : (K.s e2 : Rg) = Cg s1 (Bq n q) (Ce n q) := h.s
  rw [this]
  rfl
 have hw1 : IntKind.wrap .i64 (Ce n q - 1) = Ce n q - 1 := by rw [IntKind.wrap_i64]; omega
 generalize Bq n q = ix at *
 generalize Ce n q = la at *
 unfold LW
 clear I
 rw [enter_at _ Try.func60 code60_is]
 simp only [Try.ntmps60, ez, Nat.reduceAdd, Nat.reduceSub]
 refine Aa z60 ?_
 refine Walk.callV (x := .bool true) (W := K.w e) ?_ Aj (by rfl) (by decide) rfl Try.func74 (by kernel_rfl) (by rfl) ?_
 ·walk_nrm
  exact hh
 walk_nrm
 clear hh
 refine Aa z60 ?_
 refine Walk.callV (x := .tuple #[.pointer (some ⟨sb, ix * 2, none⟩), .int .i64 la]) (W := K.w e) ?_ Aj (by rfl) (by decide) rfl Try.func110 (by kernel_rfl) (by rfl) ?_
 ·walk_nrm
  exact ha
 walk_nrm
 clear ha
 refine Aa z60 ?_
 refine Bt (K := K.toLb) (e := e) (l := fr :: l) (f := 71) (Q := fun _ e' => ∃ s : Rg, Wrote K e (.p1 q v) s (Cg s ix (la - 1)) e') ?_ Aj (by rfl) (by decide) rfl Try.func71 (by kernel_rfl) (by rfl) ⟨rfl, rfl, _, Try.func60⟩ (Bl hp hl) ?_
 ·walk_nrm
  exact w1
 rintro x e1 ⟨s1, hs1⟩
 have g1 := h1 e1 s1 hs1
 unfold LW
 walk_nrm
 refine Aa z60 ?_
 refine Bt (K := K.toLb) (e := e1) (l := fr :: l) (f := 71) (Q := fun _ e' => ∃ s : Rg, Wrote K e1 (.p2 q v) s (Eu s ix v) e') ?_ Aj (by rfl) (by decide) rfl Try.func71 (by kernel_rfl) (by rfl) ⟨rfl, rfl, _, Try.func60⟩ (Bl hp hl) ?_
 ·walk_nrm
  exact w2 e1 g1
 rintro x2 e2 ⟨s2, hs2⟩
 have g2 := h2 e1 e2 s2 hs2
 unfold LW
 walk_nrm
 refine Aa z60 ?_
 refine Bt (K := K.toLb) (e := e2) (l := fr :: l) (f := 71) (Q := fun _ e' => ∃ s : Rg, Wrote K e2 (.p3 q) s (Cg s ix la) e') ?_ Aj (by rfl) (by decide) rfl Try.func71 (by kernel_rfl) (by rfl) ⟨rfl, rfl, _, Try.func60⟩ (Bl hp hl) ?_
 ·walk_nrm
  exact w3 e2 g2
 rintro x3 e3 ⟨s3, hs3⟩
 have hkk := hk (.int .i64 0) e3 ⟨rfl, h3 e2 e3 s3 hs3⟩
 unfold LW at hkk ⊢
 walk_nrm
 refine Aa z60 ?_
 exact Be rfl rfl Try.func60 rfl hkk
end
end
end Go.Proofs.Ytcdcnmphjhfbpaa
