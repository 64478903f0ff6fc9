/- Part 23. -/
import Derived.Test.YtjenoiekfkhafaaJ22
set_option linter.unusedSimpArgs false
set_option linter.unusedVariables false
set_option linter.unusedVariables false
set_option maxHeartbeats 8000000
set_option maxRecDepth 100000
namespace Go.Proofs.Ytjenoiekfkhafaa
open Go.Conc Go.RowKit Go.Relay
open Go.ConcN (upd upd_ne upd_same)
section
noncomputable def reg52_0 := rk Try.f52.body 0
theorem size52_0 : reg52_0.size = 29 := by kernel_rfl
noncomputable def reg52_1 := rk Try.f52.body 1
theorem size52_1 : reg52_1.size = 21 := by kernel_rfl
theorem z52 : reg52_0.size = 29 /\ reg52_1.size = 21 := by and_intros <;> kernel_rfl
theorem code52_is : Try.f52.body = some (.block 0 (.loop (.seq (.seq (.region 0 reg52_0 true) (.cond (.tmp 32 ) (.skip) (.exit 0))) (.block 1 (.region 1 reg52_1 true))))) := by kernel_rfl
noncomputable def hdSet (M i : Nat) (u : Nat -> Value) : Frame :=
 (base 52).at { tmps := #[.pointer (some ⟨M, 0, none⟩), .int .i64 i, u 2, u 3, u 4, u 5, u 6, u 7, u 8, u 9, u 10, u 11, u 12, u 13, u 14, u 15, u 16, u 17, u 18, u 19, u 20, u 21, u 22, u 23, u 24, u 25, u 26, u 27, u 28, u 29, u 30, u 31, u 32, u 33, u 34, u 35, u 36, u 37, u 38, u 39, u 40, u 41, u 42, u 43, u 44, u 45, u 46, u 47, u 48, u 49, u 50, u 51, u 52, u 53], defers := [] } [.code (.seq (.seq (.region 0 reg52_0 true) (.cond (.tmp 32 ) (.skip) (.exit 0))) (.block 1 (.region 1 reg52_1 true))), .inLoop (.seq (.seq (.region 0 reg52_0 true) (.cond (.tmp 32 ) (.skip) (.exit 0))) (.block 1 (.region 1 reg52_1 true))), .inBlock 0]
section
variable {a0 M cg cc tb tc n m : Nat} {ta : Option Addr} {S : Sq} {T : Nat -> R8} {main : Bool}
theorem set_in (i : Nat) (cs : List Frame) (w : World) :
  Walk Try.prog main (DR (fun _ => none)) (fun g w' => (∃ u, g = G (hdSet M i u) cs) /\ ∃ d, w' = w.at d) (G (Frame.enter Try.prog 52 #[.pointer (some ⟨M, 0, none⟩), .int .i64 i] .normal) cs) w := by
 rw [enter_at _ Try.func52 code52_is]
 simp only [Try.ntmps52, ez, Nat.reduceAdd, Nat.reduceSub]
 refine Aa z52 ?_
 refine Walk.ctl rfl (fun w => stepG_loop) ?_
 refine .stop fun d => ⟨Am ?_, d, rfl⟩
 simp only [hdSet]
 rfl
theorem set_on {i : Nat} (hi : i < n) (w : World) (I : M8 a0 M cg cc tb tc n m ta S T w) (hpc : (T i).pc ≠ 0) (u : Nat -> Value) (fr : Frame) (cs : List Frame) :
  Walk Try.prog main (DR (fun _ => none)) (fun g w' => g = G (fr.finish (.tuple #[])) cs /\ ∃ d, w' = w.at d) (G (hdSet M i u) (fr :: cs)) w := by
 have hi0 : (0 : Int) <= i := by omega
 have hi1 : decide ((i : Int) < n) = true := by simp; omega
 have hi3 : decide (i < n) = true := by simp; omega
 have hi4 : (i : Int) < n := by omega
 have hb0 : ((T i).pc == 0) = false := by simp [hpc]
 have c1 : w.cell? ⟨M, 2, none⟩ = some (.slice (some ⟨tb, 0, none⟩) n tc) := I.cT (by omega)
 have c3 : w.cell? ⟨tb, i * 8 + 4, none⟩ = some (.int .i64 (T i).pc) := I.tcell hi rfl
 generalize (T i).pc = pc at *
 conv => arg 5; unfold hdSet
 refine Aa z52 ?_
 (refine Bx (by kernel_rfl) size52_0 (by kernel_rfl) (by kernel_rfl) (by decide) ?_; simp only [List.range, List.range.loop]; repeat (first | (refine Cm.oq ?_) | (refine Bm Ao (by rfl) ?_; walk_nrm)))
 refine Cm.done ?_
 refine Aa z52 ?_
 exact Av rfl rfl Try.func52 rfl (.stop fun d => ⟨rfl, d, rfl⟩)
theorem set_end {i : Nat} (hi : i < n) (w : World) (I : M8 a0 M cg cc tb tc n m ta S T w) (hpc : (T i).pc = 0) (hat : (T i).at' = (T i).ops.length) (u : Nat -> Value) (fr : Frame) (cs : List Frame) :
  Walk Try.prog main (DR (fun _ => none)) (fun g w' => g = G (fr.finish (.tuple #[])) cs /\ ∃ d, w' = w.at d) (G (hdSet M i u) (fr :: cs)) w := by
 have hi0 : (0 : Int) <= i := by omega
 have hi1 : decide ((i : Int) < n) = true := by simp; omega
 have hi3 : decide (i < n) = true := by simp; omega
 have hi4 : (i : Int) < n := by omega
 obtain ⟨oa, oc, hov⟩ := (I.rows i hi).ovS
 have c1 : w.cell? ⟨M, 2, none⟩ = some (.slice (some ⟨tb, 0, none⟩) n tc) := I.cT (by omega)
 have c3 : w.cell? ⟨tb, i * 8 + 4, none⟩ = some (.int .i64 (T i).pc) := I.tcell hi rfl
 have c4 : w.cell? ⟨tb, i * 8 + 3, none⟩ = some (.int .i64 (T i).at') := I.tcell hi rfl
 have c5 : w.cell? ⟨tb, i * 8, none⟩ = some (T i).ov := I.tcell hi (j := 0) rfl
 rw [hpc] at c3
 rw [hat] at c4
 rw [hov] at c5
 generalize (T i).ops.length = ln at *
 have hb1 : decide ((ln : Int) < ln) = false := by simp
 have hb2 : decide (ln < ln) = false := by simp
 clear hov hat hpc
 conv => arg 5; unfold hdSet
 refine Aa z52 ?_
 (refine Bx (by kernel_rfl) size52_0 (by kernel_rfl) (by kernel_rfl) (by decide) ?_; simp only [List.range, List.range.loop]; repeat (first | (refine Cm.oq ?_) | (refine Bm Ao (by rfl) ?_; walk_nrm)))
 refine Cm.done ?_
 refine Aa z52 ?_
 exact Av rfl rfl Try.func52 rfl (.stop fun d => ⟨rfl, d, rfl⟩)
theorem set_go {i : Nat} (hi : i < n) (o : OpV) (w : World) (I : M8 a0 M cg cc tb tc n m ta S T w) (hpc : (T i).pc = 0) (ho : (T i).ops[(T i).at']? = some o) (P : World -> Prop) (hP : ∀ w d, P w -> P (w.at d))
  (hbg : CallW Try.prog main (fun _ => none) 70 #[.pointer (some ⟨M, 0, none⟩), .int .i64 i, .agg #[.int .i64 o.k, .int .i64 o.a, .int .i64 o.b, .int .i64 o.c]] w (fun v w' => v = .tuple #[] /\ P w')) (u : Nat -> Value) (cs : List Frame) :
  Walk Try.prog main (DR (fun _ => none)) (fun g w' => (∃ u, g = G (hdSet M i u) cs) /\ P w') (G (hdSet M i u) cs) w := by
 have hi0 : (0 : Int) <= i := by omega
 have hi1 : decide ((i : Int) < n) = true := by simp; omega
 have hi3 : decide (i < n) = true := by simp; omega
 have hi4 : (i : Int) < n := by omega
 have hlt := (List.getElem?_eq_some_iff.1 ho).1
 obtain ⟨fsO, huO⟩ := Cf 47 (by kernel_rfl)
 obtain ⟨g, off, oc, hov, _, _, hop⟩ := (I.rows i hi).op ho
 have c1 : w.cell? ⟨M, 2, none⟩ = some (.slice (some ⟨tb, 0, none⟩) n tc) := I.cT (by omega)
 have c3 : w.cell? ⟨tb, i * 8 + 4, none⟩ = some (.int .i64 (T i).pc) := I.tcell hi rfl
 have c4 : w.cell? ⟨tb, i * 8 + 3, none⟩ = some (.int .i64 (T i).at') := I.tcell hi rfl
 have c5 : w.cell? ⟨tb, i * 8, none⟩ = some (T i).ov := I.tcell hi (j := 0) rfl
 rw [hpc] at c3
 rw [hov] at c5
 generalize (T i).ops.length = ln at *
 generalize (T i).at' = k at *
 have hk0 : (0 : Int) <= k := by omega
 have hk1 : decide ((k : Int) < ln) = true := by simp; omega
 have hk3 : decide (k < ln) = true := by simp; omega
 have hk4 : (k : Int) < ln := by omega
 clear hov hpc I ho
 conv => arg 5; unfold hdSet
 refine Aa z52 ?_
 (refine Bx (by kernel_rfl) size52_0 (by kernel_rfl) (by kernel_rfl) (by decide) ?_; simp only [List.range, List.range.loop]; repeat (first | (refine Cm.oq ?_) | (refine Bm Ao (by rfl) ?_; walk_nrm)))
 refine Cm.done ?_
 refine Aa z52 ?_
 (refine Ci (by kernel_rfl) size52_1 (by kernel_rfl) (by kernel_rfl) (by kernel_rfl) (by decide) ?_; simp only [List.range, List.range.loop]; repeat (first | (refine Cm.oq ?_) | (refine Bm Ao (by rfl) ?_; walk_nrm)))
 refine Cm.loadS 47 (.tmp 51) Ao (by rfl) rfl g (off + k * 4) [.int .i64 o.k, .int .i64 o.a, .int .i64 o.b, .int .i64 o.c] (.struct fsO) rfl (fun x hx => hx ▸ hop) huO rfl (by kernel_rfl) ?_
 walk_nrm
 refine Cm.done ?_
 intro rest hr0
 refine Ah (Post := fun v w' => v = .tuple #[] /\ P w') ?_ Ao (by rfl) (by decide) rfl Try.func70 (by kernel_rfl) (by rfl) ?_
 ·walk_nrm
  exact hbg
 rintro v w1 ⟨rfl, hP1⟩
 refine hr0 _ _ ?_
 try walk_nrm
 refine Aa z52 ?_
 refine Walk.ctl rfl (fun w => stepG_inLoop) ?_
 refine .stop fun d => ⟨Am ?_, hP w1 d hP1⟩
 simp only [hdSet]
 rfl
structure Set8 (t t' : R8) : Prop where
 ov : t'.ov = t.ov
 ops : t'.ops = t.ops
 who : t'.who = t.who
 how : ∃ q, (∀ x, x < q -> ∃ o, t.ops[t.at' + x]? = some o /\ ¬ Ft o) /\ t'.at' = t.at' + q /\ t'.ans = t.ans ++ List.replicate q Fw /\
  ((t'.at' = t.ops.length /\ t'.pc = 0) ∨ ∃ o, t.ops[t'.at']? = some o /\ Ft o /\ t'.pc = 1 /\ t'.tr = (Bv o.a : Nat) /\ t'.seen = [] /\ t'.live)
theorem settle_loop {i : Nat} (hi : i < n) (hn : n <= 64) (fr : Frame) (cs : List Frame) : ∀ (r : Nat) (T : Nat -> R8) (w : World) (u : Nat -> Value), (T i).at' + r = (T i).ops.length -> (T i).ops.length <= 65536 -> (T i).ans.length <= (T i).at' -> (T i).pc = 0 -> a0 <= w.heap.size -> M8 a0 M cg cc tb tc n m ta S T w ->
  Walk Try.prog main (DR (fun _ => none)) (fun g w' => g = G (fr.finish (.tuple #[])) cs /\ ∃ t', Set8 (T i) t' /\ M8 a0 M cg cc tb tc n m ta S (upd T i t') w' /\ Got M cg tb n T (upd T i t') w w') (G (hdSet M i u) (fr :: cs)) w := by
 intro r
 induction r with
 | zero =>
  intro T w u hr hln hal hpc ha0 I
  refine (set_end hi w I hpc hr u fr cs).mono ?_
  rintro g w' ⟨rfl, d, rfl⟩
  have e : upd T i (T i) = T := by
   funext k
   by_cases h : k = i
   ·subst h; rw [upd_same]
   ·rw [upd_ne _ _ h]
  refine ⟨rfl, T i, ⟨rfl, rfl, rfl, 0, fun x hx => absurd hx (Nat.not_lt_zero x), rfl, by simp, .inl ⟨hr, hpc⟩⟩, ?_, ?_⟩
  ·rw [e]; exact I.same fun _ _ => rfl
  ·rw [e]; exact ⟨Chg.refl.at d, fun _ h => .inl h⟩
 | succ r ih =>
  intro T w u hr hln hal hpc ha0 I
  obtain ⟨o, ho⟩ : ∃ o, (T i).ops[(T i).at']? = some o := ⟨_, List.getElem?_eq_getElem (by omega)⟩
  by_cases hk : Ft o
  ·refine (set_go hi o w I hpc ho (fun w' => M8 a0 M cg cc tb tc n m ta S (upd T i ((T i).first (Bv o.a : Nat))) w' /\ Got M cg tb n T (upd T i ((T i).first (Bv o.a : Nat))) w w') (fun w' d h => ⟨h.1.same fun _ _ => rfl, ⟨h.2.chg.at d, h.2.own⟩⟩) (begin_yes hi o hk w I hn ha0) u (fr :: cs)).then ?_
   rintro _ w1 ⟨⟨u1, rfl⟩, I1, g1⟩
   refine (set_on hi w1 I1 (by rw [upd_same]; show (1 : Int) ≠ 0; decide) u1 fr cs).mono ?_
   rintro g w' ⟨rfl, d, rfl⟩
   exact ⟨rfl, (T i).first (Bv o.a : Nat), ⟨rfl, rfl, rfl, 0, fun x hx => absurd hx (Nat.not_lt_zero x), rfl, by simp [R8.first], .inr ⟨o, ho, hk, rfl, rfl, rfl, trivial⟩⟩, I1.same fun _ _ => rfl, ⟨g1.chg.at d, g1.own⟩⟩
  ·refine (set_go hi o w I hpc ho (fun w' => ∃ av oA, M8 a0 M cg cc tb tc n m ta S (upd T i ((T i).told Fw av oA)) w' /\ Got M cg tb n T (upd T i ((T i).told Fw av oA)) w w') (fun w' d h => h.imp fun av h => h.imp fun oA h => ⟨h.1.same fun _ _ => rfl, ⟨h.2.chg.at d, h.2.own⟩⟩) (begin_no hi o hk w I hn ha0 (by omega) (by omega)) u (fr :: cs)).then ?_
   rintro _ w1 ⟨⟨u1, rfl⟩, av, oA, I1, g1⟩
   have hz := g1.chg.size
   refine (ih (upd T i ((T i).told Fw av oA)) w1 u1 (by rw [upd_same]; show (T i).at' + 1 + r = _; show _ = (T i).ops.length; omega) (by rw [upd_same]; exact hln) (by rw [upd_same]; simp [R8.told]; omega) (by rw [upd_same]; rfl) (by omega) I1).mono ?_
   rintro g w' ⟨rfl, t', Z5, I2, g2⟩
   rw [upd_same] at Z5
   rw [Bc] at I2 g2
   obtain ⟨q, s1, s2, s3, s4⟩ := Z5.how
   refine ⟨rfl, t', ⟨Z5.ov, Z5.ops, Z5.who, q + 1, fun x hx => ?_, ?_, ?_, s4⟩, I2, g1.trans g2⟩
   ·cases x with
    | zero => exact ⟨o, ho, hk⟩
    | succ x =>
     obtain ⟨o', h1, h2⟩ := s1 x (by omega)
     refine ⟨o', ?_, h2⟩
     rw [<- h1]
     show (T i).ops[(T i).at' + (x + 1)]? = (T i).ops[(T i).at' + 1 + x]?
     congr 1
     omega
   ·rw [s2]
    show (T i).at' + 1 + q = _
    omega
   ·rw [s3]
    show (T i).ans ++ [Fw] ++ _ = _
    rw [List.replicate_succ, List.append_assoc]
    rfl
theorem settle_w {i : Nat} (hi : i < n) (hn : n <= 64) (w : World) (hr : (T i).at' <= (T i).ops.length) (hln : (T i).ops.length <= 65536) (hal : (T i).ans.length <= (T i).at') (hpc : (T i).pc = 0) (ha0 : a0 <= w.heap.size) (I : M8 a0 M cg cc tb tc n m ta S T w) :
  CallW Try.prog main (fun _ => none) 52 #[.pointer (some ⟨M, 0, none⟩), .int .i64 i] w (fun v w' => v = .tuple #[] /\ ∃ t', Set8 (T i) t' /\ M8 a0 M cg cc tb tc n m ta S (upd T i t') w' /\ Got M cg tb n T (upd T i t') w w') := by
 intro c cs
 refine (set_in i (c :: cs) w).then ?_
 rintro _ _ ⟨⟨u, rfl⟩, d, rfl⟩
 refine Walk.back ?_ d
 refine (settle_loop hi hn c cs ((T i).ops.length - (T i).at') T w u (by omega) hln hal hpc ha0 I).mono ?_
 rintro g w' ⟨rfl, h⟩
 exact ⟨_, ⟨rfl, h⟩, rfl⟩
theorem settle_on {i : Nat} (hi : i < n) (w : World) (hpc : (T i).pc ≠ 0) (I : M8 a0 M cg cc tb tc n m ta S T w) :
  Bn Try.prog main (fun _ => none) 52 #[.pointer (some ⟨M, 0, none⟩), .int .i64 i] w (.tuple #[]) w := by
 intro c cs
 refine (set_in i (c :: cs) w).then ?_
 rintro _ _ ⟨⟨u, rfl⟩, d, rfl⟩
 refine Walk.back ?_ d
 refine (set_on hi w I hpc u c cs).mono ?_
 rintro g w' ⟨rfl, d, rfl⟩
 exact ⟨_, ⟨rfl, d, rfl⟩, rfl⟩
end
end
section
def Ij (t : R8) (tr : Nat) (t' : R8) : Prop := (1 < tr /\ t' = t.first ((tr - 1 : Nat) : Int)) ∨ (tr = 1 /\ ∃ av oA, t' = (t.first 0).told Fw av oA)
section
variable {a0 M cg cc tb tc n m : Nat} {ta : Option Addr} {S : Sq} {T : Nat -> R8}
theorem Kl {main : Bool} {i : Nat} (hi : i < n) (tr : Nat) (h1 : 1 <= tr) (h2 : tr <= 1024) (htr : (T i).tr = (tr : Int)) (hl : (T i).ans.length <= 65536) (hat : (T i).at' <= 65536) (w : World) (I : M8 a0 M cg cc tb tc n m ta S T w) (hn : n <= 64) (ha0 : a0 <= w.heap.size) :
  CallW Try.prog main (fun _ => none) 89 #[.pointer (some ⟨M, 0, none⟩), .int .i64 i] w (fun v w' => v = .tuple #[] /\ ∃ t', Ij (T i) tr t' /\ M8 a0 M cg cc tb tc n m ta S (upd T i t') w' /\ Got M cg tb n T (upd T i t') w w') := by
 by_cases h : tr = 1
 ·subst h
  intro c cs
  refine (failed_end (main := main) hi (by rw [htr]; rfl) hl hat w I hn ha0 c cs).mono ?_
  rintro g w' ⟨v, ⟨hv, av, oA, h1, h2⟩, e⟩
  exact ⟨v, ⟨hv, _, .inr ⟨rfl, av, oA, rfl⟩, h1, h2⟩, e⟩
 ·intro c cs
  refine (failed_go (main := main) hi (tr - 1) (by omega) (by omega) (by rw [htr]; omega) w I hn ha0 c cs).mono ?_
  rintro g w' ⟨v, ⟨hv, h1', h2'⟩, e⟩
  exact ⟨v, ⟨hv, _, .inl ⟨by omega, rfl⟩, h1', h2'⟩, e⟩
noncomputable def reg71_0 := rk Try.f71.body 0
noncomputable def reg71_1 := rk Try.f71.body 1
noncomputable def reg71_4 := rk Try.f71.body 4
noncomputable def reg71_5 := rk Try.f71.body 5
theorem size71_5 : reg71_5.size = 12 := by kernel_rfl
noncomputable def reg71_6 := rk Try.f71.body 6
noncomputable def reg71_7 := rk Try.f71.body 7
noncomputable def reg71_8 := rk Try.f71.body 8
noncomputable def reg71_9 := rk Try.f71.body 9
theorem size71_9 : reg71_9.size = 13 := by kernel_rfl
noncomputable def reg71_10 := rk Try.f71.body 10
noncomputable def reg71_11 := rk Try.f71.body 11
noncomputable def reg71_12 := rk Try.f71.body 12
noncomputable def reg71_13 := rk Try.f71.body 13
noncomputable def reg71_14 := rk Try.f71.body 14
noncomputable def reg71_15 := rk Try.f71.body 15
noncomputable def reg71_16 := rk Try.f71.body 16
noncomputable def reg71_17 := rk Try.f71.body 17
noncomputable def reg71_2 := rk Try.f71.body 2
noncomputable def reg71_3 := rk Try.f71.body 3
theorem z71 : reg71_0.size = 1 /\ reg71_1.size = 6 /\ reg71_2.size = 13 /\ reg71_3.size = 4 /\ reg71_4.size = 3 /\ reg71_5.size = 12 /\ reg71_6.size = 6 /\ reg71_7.size = 3 /\ reg71_8.size = 3 /\ reg71_9.size = 13 /\ reg71_10.size = 3 /\ reg71_11.size = 9 /\ reg71_12.size = 5 /\ reg71_13.size = 3 /\ reg71_14.size = 8 /\ reg71_15.size = 3 /\ reg71_16.size = 10 /\ reg71_17.size = 8 := by and_intros <;> kernel_rfl
theorem code71_is : Try.f71.body = some (.seq (.region 0 reg71_0 false) (.seq (.region 1 reg71_1 false) (.block 0 (.seq (.region 4 reg71_4 false) (.cond (.tmp 32 ) (.seq (.region 5 reg71_5 true) (.seq (.region 6 reg71_6 false) (.cond (.tmp 51 ) (.region 7 reg71_7 false) (.skip)))) (.seq (.region 8 reg71_8 false) (.cond (.tmp 55 ) (.seq (.seq (.region 9 reg71_9 true) (.cond (.tmp 70 ) (.seq (.region 10 reg71_10 false) (.ret)) (.skip))) (.region 11 reg71_11 false)) (.seq (.region 12 reg71_12 false) (.cond (.tmp 82 ) (.seq (.region 13 reg71_13 false) (.seq (.region 14 reg71_14 false) (.seq (.seq (.region 15 reg71_15 false) (.cond (.tmp 98 ) (.region 16 reg71_16 false) (.skip))) (.region 17 reg71_17 false)))) (.seq (.region 2 reg71_2 false) (.region 3 reg71_3 false))))))))))) := by kernel_rfl
theorem write_1e {main : Bool} {i : Nat} (hi : i < n) (o : OpV) (hev : ¬ Ba S.v) (w : World) (I : M8 a0 M cg cc tb tc n m ta S T w) (hn : n <= 64) (ha0 : a0 <= w.heap.size) :
  CallW Try.prog main (fun _ => none) 71 #[.pointer (some ⟨M, 0, none⟩), .int .i64 i, .agg #[.int .i64 o.k, .int .i64 o.a, .int .i64 o.b, .int .i64 o.c], .int .i64 1] w (fun v w' => v = .tuple #[] /\ M8 a0 M cg cc tb tc n m ta S (upd T i { T i with vn := S.v }) w' /\ Got M cg tb n T (upd T i { T i with vn := S.v }) w w') := by
 intro c cs
 obtain ⟨k, oa, ob, oc⟩ := o
 dsimp only
 have hi0 : (0 : Int) <= i := by omega
 have hi1 : decide ((i : Int) < n) = true := by simp; omega
 have hi3 : decide (i < n) = true := by simp; omega
 have hi4 : (i : Int) < n := by omega
 have ll1 := I.lt.1
 have ll3 := I.lt.2.2 (by omega)
 have lb := I.base
 rw [enter_at _ Try.func71 code71_is]
 simp only [Try.ntmps71, ez, Nat.reduceAdd, Nat.reduceSub]
 refine Aa z71 ?_
 (refine Walk.oa ?_; try walk_nrm)
 have s0 : (w.alloc (.cells #[.int .i64 k, .int .i64 oa, .int .i64 ob, .int .i64 oc] 47)).heap.size = w.heap.size + 1 := by simp
 have o0 : ∀ x, x < w.heap.size -> (w.alloc (.cells #[.int .i64 k, .int .i64 oa, .int .i64 ob, .int .i64 oc] 47)).heap[x]? = w.heap[x]? := fun x hx => Ab _ _ hx
 have d0 := heap_alloc_new w (.cells #[.int .i64 k, .int .i64 oa, .int .i64 ob, .int .i64 oc] 47)
 have I0 := I.same o0
 generalize hT : w.heap.size = Zs at *
 generalize hw0 : w.alloc (.cells #[.int .i64 k, .int .i64 oa, .int .i64 ob, .int .i64 oc] 47) = w0 at *
 have g0 : Got M cg tb n T T w w0 := ⟨⟨by omega, fun b hb hn => o0 b (by omega)⟩, fun _ h => .inl h⟩
 have cW : w0.cell? ⟨M, 1, none⟩ = some (.slice (some ⟨cg, 0, none⟩) m cc) := I0.cC
 refine Aa z71 ?_
 clear cW
 have c1 : w0.cell? ⟨M, 2, none⟩ = some (.slice (some ⟨tb, 0, none⟩) n tc) := I0.cT (by omega)
 have c2 : w0.cell? ⟨M, 0, none⟩ = some (.int .i64 S.v) := I0.cV
 have c3 : w0.cell? ⟨tb, i * 8 + 6, none⟩ = some (.int .i64 (T i).vn) := I0.tcell hi rfl
 have z3 := I0.tfrz hi (i * 8 + 6)
 have I1 := I0.put hi (j := 6) (v := .int .i64 S.v) (t := { T i with vn := S.v }) rfl (by decide) ⟨rfl, rfl, rfl, rfl, rfl, rfl, rfl, rfl⟩
 try walk_nrm
 refine Aa z71 ?_
 (refine Ci (by kernel_rfl) size71_5 (by kernel_rfl) (by kernel_rfl) (by kernel_rfl) (by decide) ?_; simp only [List.range, List.range.loop]; repeat (first | (refine Cm.oq ?_) | (refine Bm Ao (by rfl) ?_; walk_nrm)))
 refine Cm.done ?_
 intro rest hr
 (have hfr := Jr tb (i * 8 + 6); refine Walk.os hfr c3 ?_; clear hfr; try walk_nrm)
 refine hr _ _ ?_
 have s1 := Ai w0 ⟨tb, i * 8 + 6, none⟩ (.int .i64 S.v)
 have o1 : ∀ x, x ≠ tb -> (w0.setCell ⟨tb, i * 8 + 6, none⟩ (.int .i64 S.v)).heap[x]? = w0.heap[x]? := fun x hx => Ac _ _ _ _ hx
 generalize w0.setCell ⟨tb, i * 8 + 6, none⟩ (.int .i64 S.v) = w1 at *
 clear c1 c2 c3 z3
 have c2 : w1.cell? ⟨M, 0, none⟩ = some (.int .i64 S.v) := I1.cV
 have g1 : Got M cg tb n T (upd T i { T i with vn := S.v }) w w1 := g0.trans ⟨⟨by omega, fun x hx hn => o1 x fun e => hn (.inr (.inr (.inl e)))⟩, fun b hb => De (t := { T i with vn := S.v }) hi (fun b hb => .inl hb) b hb⟩
 try walk_nrm
 refine Aa z71 ?_
 have hb1 : (S.v.tmod 2 == 0) = true := by unfold Ba at hev; simpa using hev
 have hb2 : (S.v.tmod 2 != 0) = false := by unfold Ba at hev; simpa using hev
 try simp only [hb1, hb2]
 refine Aa z71 ?_
 exact Av rfl rfl Try.func71 rfl (.stop fun d => ⟨_, ⟨rfl, I1.same fun _ _ => rfl, ⟨g1.chg.at d, g1.own⟩⟩, rfl⟩)
theorem write_1o {main : Bool} {i : Nat} (hi : i < n) (o : OpV) (hev : Ba S.v) (tr : Nat) (h1 : 1 <= tr) (h2 : tr <= 1024) (htr : (T i).tr = (tr : Int)) (hl : (T i).ans.length <= 65536) (hat : (T i).at' <= 65536) (w : World) (I : M8 a0 M cg cc tb tc n m ta S T w) (hn : n <= 64) (ha0 : a0 <= w.heap.size) :
  CallW Try.prog main (fun _ => none) 71 #[.pointer (some ⟨M, 0, none⟩), .int .i64 i, .agg #[.int .i64 o.k, .int .i64 o.a, .int .i64 o.b, .int .i64 o.c], .int .i64 1] w (fun v w' => v = .tuple #[] /\ ∃ t', Ij { T i with vn := S.v } tr t' /\ M8 a0 M cg cc tb tc n m ta S (upd T i t') w' /\ Got M cg tb n T (upd T i t') w w') := by
 intro c cs
 obtain ⟨k, oa, ob, oc⟩ := o
 dsimp only
 have hi0 : (0 : Int) <= i := by omega
 have hi1 : decide ((i : Int) < n) = true := by simp; omega
 have hi3 : decide (i < n) = true := by simp; omega
 have hi4 : (i : Int) < n := by omega
 have ll1 := I.lt.1
 have ll3 := I.lt.2.2 (by omega)
 have lb := I.base
 rw [enter_at _ Try.func71 code71_is]
 simp only [Try.ntmps71, ez, Nat.reduceAdd, Nat.reduceSub]
 refine Aa z71 ?_
 (refine Walk.oa ?_; try walk_nrm)
 have s0 : (w.alloc (.cells #[.int .i64 k, .int .i64 oa, .int .i64 ob, .int .i64 oc] 47)).heap.size = w.heap.size + 1 := by simp
 have o0 : ∀ x, x < w.heap.size -> (w.alloc (.cells #[.int .i64 k, .int .i64 oa, .int .i64 ob, .int .i64 oc] 47)).heap[x]? = w.heap[x]? := fun x hx => Ab _ _ hx
 have d0 := heap_alloc_new w (.cells #[.int .i64 k, .int .i64 oa, .int .i64 ob, .int .i64 oc] 47)
 have I0 := I.same o0
 generalize hT : w.heap.size = Zs at *
 generalize hw0 : w.alloc (.cells #[.int .i64 k, .int .i64 oa, .int .i64 ob, .int .i64 oc] 47) = w0 at *
 have g0 : Got M cg tb n T T w w0 := ⟨⟨by omega, fun b hb hn => o0 b (by omega)⟩, fun _ h => .inl h⟩
 have cW : w0.cell? ⟨M, 1, none⟩ = some (.slice (some ⟨cg, 0, none⟩) m cc) := I0.cC
 refine Aa z71 ?_
 clear cW
 have c1 : w0.cell? ⟨M, 2, none⟩ = some (.slice (some ⟨tb, 0, none⟩) n tc) := I0.cT (by omega)
 have c2 : w0.cell? ⟨M, 0, none⟩ = some (.int .i64 S.v) := I0.cV
 have c3 : w0.cell? ⟨tb, i * 8 + 6, none⟩ = some (.int .i64 (T i).vn) := I0.tcell hi rfl
 have z3 := I0.tfrz hi (i * 8 + 6)
 have I1 := I0.put hi (j := 6) (v := .int .i64 S.v) (t := { T i with vn := S.v }) rfl (by decide) ⟨rfl, rfl, rfl, rfl, rfl, rfl, rfl, rfl⟩
 try walk_nrm
 refine Aa z71 ?_
 (refine Ci (by kernel_rfl) size71_5 (by kernel_rfl) (by kernel_rfl) (by kernel_rfl) (by decide) ?_; simp only [List.range, List.range.loop]; repeat (first | (refine Cm.oq ?_) | (refine Bm Ao (by rfl) ?_; walk_nrm)))
 refine Cm.done ?_
 intro rest hr
 (have hfr := Jr tb (i * 8 + 6); refine Walk.os hfr c3 ?_; clear hfr; try walk_nrm)
 refine hr _ _ ?_
 have s1 := Ai w0 ⟨tb, i * 8 + 6, none⟩ (.int .i64 S.v)
 have o1 : ∀ x, x ≠ tb -> (w0.setCell ⟨tb, i * 8 + 6, none⟩ (.int .i64 S.v)).heap[x]? = w0.heap[x]? := fun x hx => Ac _ _ _ _ hx
 generalize w0.setCell ⟨tb, i * 8 + 6, none⟩ (.int .i64 S.v) = w1 at *
 clear c1 c2 c3 z3
 have c2 : w1.cell? ⟨M, 0, none⟩ = some (.int .i64 S.v) := I1.cV
 have g1 : Got M cg tb n T (upd T i { T i with vn := S.v }) w w1 := g0.trans ⟨⟨by omega, fun x hx hn => o1 x fun e => hn (.inr (.inr (.inl e)))⟩, fun b hb => De (t := { T i with vn := S.v }) hi (fun b hb => .inl hb) b hb⟩
 try walk_nrm
 refine Aa z71 ?_
 have hb1 : (S.v.tmod 2 == 0) = false := by unfold Ba at hev; simpa using hev
 have hb2 : (S.v.tmod 2 != 0) = true := by unfold Ba at hev; simpa using hev
 have hf := Kl (main := main) hi tr h1 h2 (by rw [upd_same]; exact htr) (by rw [upd_same]; exact hl) (by rw [upd_same]; exact hat) w1 I1 hn (by omega)
 simp only [upd_same, Bc] at hf
 clear htr
 try simp only [hb1, hb2]
 refine Aa z71 ?_
 refine Ah (Post := fun v w' => v = .tuple #[] /\ ∃ t', Ij { T i with vn := S.v } tr t' /\ M8 a0 M cg cc tb tc n m ta S (upd T i t') w' /\ Got M cg tb n (upd T i { T i with vn := S.v }) (upd T i t') w1 w') ?_ Ao (by rfl) (by decide) rfl Try.func89 (by kernel_rfl) (by rfl) ?_
 ·walk_nrm
  exact hf
 rintro v w2 ⟨rfl, t', hF, I2, g2⟩
 walk_nrm
 refine Aa z71 ?_
 exact Av rfl rfl Try.func71 rfl (.stop fun d => ⟨_, ⟨rfl, t', hF, I2.same fun _ _ => rfl, ⟨(g1.trans g2).chg.at d, (g1.trans g2).own⟩⟩, rfl⟩)
end
end
section
section
variable {a0 M cg cc tb tc n m : Nat} {ta : Option Addr} {S : Sq} {T : Nat -> R8}
theorem write_2e {main : Bool} {i : Nat} (hi : i < n) (o : OpV) (hv : (T i).vn = S.v) (w : World) (I : M8 a0 M cg cc tb tc n m ta S T w) (hn : n <= 64) (ha0 : a0 <= w.heap.size) :
  CallW Try.prog main (fun _ => none) 71 #[.pointer (some ⟨M, 0, none⟩), .int .i64 i, .agg #[.int .i64 o.k, .int .i64 o.a, .int .i64 o.b, .int .i64 o.c], .int .i64 2] w (fun v w' => v = .tuple #[] /\ M8 a0 M cg cc tb tc n m ta (Cv S (IntKind.i64.wrap (S.v + 1))) T w' /\ Got M cg tb n T T w w') := by
 intro c cs
 obtain ⟨k, oa, ob, oc⟩ := o
 dsimp only
 have hi0 : (0 : Int) <= i := by omega
 have hi1 : decide ((i : Int) < n) = true := by simp; omega
 have hi3 : decide (i < n) = true := by simp; omega
 have hi4 : (i : Int) < n := by omega
 have ll1 := I.lt.1
 have ll3 := I.lt.2.2 (by omega)
 have lb := I.base
 rw [enter_at _ Try.func71 code71_is]
 simp only [Try.ntmps71, ez, Nat.reduceAdd, Nat.reduceSub]
 refine Aa z71 ?_
 (refine Walk.oa ?_; try walk_nrm)
 have s0 : (w.alloc (.cells #[.int .i64 k, .int .i64 oa, .int .i64 ob, .int .i64 oc] 47)).heap.size = w.heap.size + 1 := by simp
 have o0 : ∀ x, x < w.heap.size -> (w.alloc (.cells #[.int .i64 k, .int .i64 oa, .int .i64 ob, .int .i64 oc] 47)).heap[x]? = w.heap[x]? := fun x hx => Ab _ _ hx
 have d0 := heap_alloc_new w (.cells #[.int .i64 k, .int .i64 oa, .int .i64 ob, .int .i64 oc] 47)
 have I0 := I.same o0
 generalize hT : w.heap.size = Zs at *
 generalize hw0 : w.alloc (.cells #[.int .i64 k, .int .i64 oa, .int .i64 ob, .int .i64 oc] 47) = w0 at *
 have g0 : Got M cg tb n T T w w0 := ⟨⟨by omega, fun b hb hn => o0 b (by omega)⟩, fun _ h => .inl h⟩
 have cW : w0.cell? ⟨M, 1, none⟩ = some (.slice (some ⟨cg, 0, none⟩) m cc) := I0.cC
 refine Aa z71 ?_
 clear cW
 have c1 : w0.cell? ⟨M, 2, none⟩ = some (.slice (some ⟨tb, 0, none⟩) n tc) := I0.cT (by omega)
 have c3 : w0.cell? ⟨tb, i * 8 + 6, none⟩ = some (.int .i64 (T i).vn) := I0.tcell hi rfl
 rw [hv] at c3
 clear hv
 have c2 : w0.cell? ⟨M, 0, none⟩ = some (.int .i64 S.v) := I0.cV
 have z2 := I0.mfrz 0
 have I1 := I0.putV (IntKind.i64.wrap (S.v + 1))
 have hne : (S.v != S.v) = false := by simp
 generalize hx : IntKind.i64.wrap (S.v + 1) = x1 at *
 try walk_nrm
 refine Aa z71 ?_
 (refine Bx (by kernel_rfl) size71_9 (by kernel_rfl) (by kernel_rfl) (by decide) ?_; simp only [List.range, List.range.loop]; repeat (first | (refine Cm.oq ?_) | (refine Bm Ao (by rfl) ?_; walk_nrm)))
 refine Cm.done ?_
 try simp only [hne]
 refine Aa z71 ?_
 try simp only [hx]
 (have hfr := Jr M 0; refine Walk.os hfr c2 ?_; clear hfr; try walk_nrm)
 have s1 := Ai w0 ⟨M, 0, none⟩ (.int .i64 (x1))
 have o1 : ∀ x, x ≠ M -> (w0.setCell ⟨M, 0, none⟩ (.int .i64 (x1))).heap[x]? = w0.heap[x]? := fun x hx => Ac _ _ _ _ hx
 generalize w0.setCell ⟨M, 0, none⟩ (.int .i64 (x1)) = w1 at *
 clear c1 c2 c3 z2
 have g1 : Got M cg tb n T T w w1 := g0.trans ⟨⟨by omega, fun x hx hn => o1 x fun e => hn (.inl e)⟩, fun b hb => .inl hb⟩
 try walk_nrm
 refine Aa z71 ?_
 exact Av rfl rfl Try.func71 rfl (.stop fun d => ⟨_, ⟨rfl, I1.same fun _ _ => rfl, ⟨g1.chg.at d, g1.own⟩⟩, rfl⟩)
theorem write_2n {main : Bool} {i : Nat} (hi : i < n) (o : OpV) (hv : S.v ≠ (T i).vn) (tr : Nat) (h1 : 1 <= tr) (h2 : tr <= 1024) (htr : (T i).tr = (tr : Int)) (hl : (T i).ans.length <= 65536) (hat : (T i).at' <= 65536) (w : World) (I : M8 a0 M cg cc tb tc n m ta S T w) (hn : n <= 64) (ha0 : a0 <= w.heap.size) :
  CallW Try.prog main (fun _ => none) 71 #[.pointer (some ⟨M, 0, none⟩), .int .i64 i, .agg #[.int .i64 o.k, .int .i64 o.a, .int .i64 o.b, .int .i64 o.c], .int .i64 2] w (fun v w' => v = .tuple #[] /\ ∃ t', Ij (T i) tr t' /\ M8 a0 M cg cc tb tc n m ta S (upd T i t') w' /\ Got M cg tb n T (upd T i t') w w') := by
 intro c cs
 obtain ⟨k, oa, ob, oc⟩ := o
 dsimp only
 have hi0 : (0 : Int) <= i := by omega
 have hi1 : decide ((i : Int) < n) = true := by simp; omega
 have hi3 : decide (i < n) = true := by simp; omega
 have hi4 : (i : Int) < n := by omega
 have ll1 := I.lt.1
 have ll3 := I.lt.2.2 (by omega)
 have lb := I.base
 rw [enter_at _ Try.func71 code71_is]
 simp only [Try.ntmps71, ez, Nat.reduceAdd, Nat.reduceSub]
 refine Aa z71 ?_
 (refine Walk.oa ?_; try walk_nrm)
 have s0 : (w.alloc (.cells #[.int .i64 k, .int .i64 oa, .int .i64 ob, .int .i64 oc] 47)).heap.size = w.heap.size + 1 := by simp
 have o0 : ∀ x, x < w.heap.size -> (w.alloc (.cells #[.int .i64 k, .int .i64 oa, .int .i64 ob, .int .i64 oc] 47)).heap[x]? = w.heap[x]? := fun x hx => Ab _ _ hx
 have d0 := heap_alloc_new w (.cells #[.int .i64 k, .int .i64 oa, .int .i64 ob, .int .i64 oc] 47)
 have I0 := I.same o0
 generalize hT : w.heap.size = Zs at *
 generalize hw0 : w.alloc (.cells #[.int .i64 k, .int .i64 oa, .int .i64 ob, .int .i64 oc] 47) = w0 at *
 have g0 : Got M cg tb n T T w w0 := ⟨⟨by omega, fun b hb hn => o0 b (by omega)⟩, fun _ h => .inl h⟩
 have cW : w0.cell? ⟨M, 1, none⟩ = some (.slice (some ⟨cg, 0, none⟩) m cc) := I0.cC
 refine Aa z71 ?_
 clear cW
 have c1 : w0.cell? ⟨M, 2, none⟩ = some (.slice (some ⟨tb, 0, none⟩) n tc) := I0.cT (by omega)
 have c3 : w0.cell? ⟨tb, i * 8 + 6, none⟩ = some (.int .i64 (T i).vn) := I0.tcell hi rfl
 have c2 : w0.cell? ⟨M, 0, none⟩ = some (.int .i64 S.v) := I0.cV
 have hf := Kl (main := main) hi tr h1 h2 htr hl hat w0 I0 hn (by omega)
 have hne : (S.v != (T i).vn) = true := by simpa using hv
 have hne2 : (S.v == (T i).vn) = false := by simpa using hv
 clear htr
 try walk_nrm
 refine Aa z71 ?_
 (refine Bx (by kernel_rfl) size71_9 (by kernel_rfl) (by kernel_rfl) (by decide) ?_; simp only [List.range, List.range.loop]; repeat (first | (refine Cm.oq ?_) | (refine Bm Ao (by rfl) ?_; walk_nrm)))
 refine Cm.done ?_
 try simp only [hne]
 refine Aa z71 ?_
 refine Ah (Post := fun v w' => v = .tuple #[] /\ ∃ t', Ij (T i) tr t' /\ M8 a0 M cg cc tb tc n m ta S (upd T i t') w' /\ Got M cg tb n T (upd T i t') w0 w') ?_ Ao (by rfl) (by decide) rfl Try.func89 (by kernel_rfl) (by rfl) ?_
 ·walk_nrm
  exact hf
 rintro v w2 ⟨rfl, t', hF, I2, g2⟩
 walk_nrm
 refine Aa z71 ?_
 exact Av rfl rfl Try.func71 rfl (.stop fun d => ⟨_, ⟨rfl, t', hF, I2.same fun _ _ => rfl, ⟨(g0.trans g2).chg.at d, (g0.trans g2).own⟩⟩, rfl⟩)
theorem write_4 {main : Bool} {i : Nat} (hi : i < n) (o : OpV) (p : Nat) (hp : m + 3 <= p) (hp2 : p <= 1000) (hl : (T i).ans.length <= 65536) (hat : (T i).at' <= 65536) (w : World) (I : M8 a0 M cg cc tb tc n m ta S T w) (hn : n <= 64) (ha0 : a0 <= w.heap.size) :
  CallW Try.prog main (fun _ => none) 71 #[.pointer (some ⟨M, 0, none⟩), .int .i64 i, .agg #[.int .i64 o.k, .int .i64 o.a, .int .i64 o.b, .int .i64 o.c], .int .i64 p] w (fun v w' => v = .tuple #[] /\ ∃ av oA, M8 a0 M cg cc tb tc n m ta (Cv S (IntKind.i64.wrap ((T i).vn + 2))) (upd T i ((T i).told ⟨true, 0, []⟩ av oA)) w' /\ Got M cg tb n T (upd T i ((T i).told ⟨true, 0, []⟩ av oA)) w w') := by
 intro c cs
 obtain ⟨k, oa, ob, oc⟩ := o
 dsimp only
 have hi0 : (0 : Int) <= i := by omega
 have hi1 : decide ((i : Int) < n) = true := by simp; omega
 have hi3 : decide (i < n) = true := by simp; omega
 have hi4 : (i : Int) < n := by omega
 have ll1 := I.lt.1
 have ll3 := I.lt.2.2 (by omega)
 have lb := I.base
 rw [enter_at _ Try.func71 code71_is]
 simp only [Try.ntmps71, ez, Nat.reduceAdd, Nat.reduceSub]
 refine Aa z71 ?_
 (refine Walk.oa ?_; try walk_nrm)
 have s0 : (w.alloc (.cells #[.int .i64 k, .int .i64 oa, .int .i64 ob, .int .i64 oc] 47)).heap.size = w.heap.size + 1 := by simp
 have o0 : ∀ x, x < w.heap.size -> (w.alloc (.cells #[.int .i64 k, .int .i64 oa, .int .i64 ob, .int .i64 oc] 47)).heap[x]? = w.heap[x]? := fun x hx => Ab _ _ hx
 have d0 := heap_alloc_new w (.cells #[.int .i64 k, .int .i64 oa, .int .i64 ob, .int .i64 oc] 47)
 have I0 := I.same o0
 generalize hT : w.heap.size = Zs at *
 generalize hw0 : w.alloc (.cells #[.int .i64 k, .int .i64 oa, .int .i64 ob, .int .i64 oc] 47) = w0 at *
 have g0 : Got M cg tb n T T w w0 := ⟨⟨by omega, fun b hb hn => o0 b (by omega)⟩, fun _ h => .inl h⟩
 have cW : w0.cell? ⟨M, 1, none⟩ = some (.slice (some ⟨cg, 0, none⟩) m cc) := I0.cC
 have q1 : ((p : Int) == 1) = false := by simp; omega
 have q2 : ((p : Int) == 2) = false := by simp; omega
 have q3 : IntKind.i64.wrap ((m : Int) + 2) = (m : Int) + 2 := by rw [IntKind.wrap_i64]; omega
 have q4 : decide ((p : Int) <= (m : Int) + 2) = false := by simp; omega
 have q5 : decide ((m : Int) + 2 < (p : Int)) = true := by simp; omega
 have q6 : ¬ p = 1 := by omega
 have q7 : ¬ p = 2 := by omega
 refine Aa z71 ?_
 clear cW
 have c1 : w0.cell? ⟨M, 2, none⟩ = some (.slice (some ⟨tb, 0, none⟩) n tc) := I0.cT (by omega)
 have c3 : w0.cell? ⟨tb, i * 8 + 6, none⟩ = some (.int .i64 (T i).vn) := I0.tcell hi rfl
 have c2 : w0.cell? ⟨M, 0, none⟩ = some (.int .i64 S.v) := I0.cV
 have z2 := I0.mfrz 0
 have I1 := I0.putV (IntKind.i64.wrap ((T i).vn + 2))
 generalize hx : IntKind.i64.wrap ((T i).vn + 2) = x1 at *
 try walk_nrm
 refine Aa z71 ?_
 try simp only [hx]
 (have hfr := Jr M 0; refine Walk.os hfr c2 ?_; clear hfr; try walk_nrm)
 have s1 := Ai w0 ⟨M, 0, none⟩ (.int .i64 (x1))
 have o1 : ∀ x, x ≠ M -> (w0.setCell ⟨M, 0, none⟩ (.int .i64 (x1))).heap[x]? = w0.heap[x]? := fun x hx => Ac _ _ _ _ hx
 generalize w0.setCell ⟨M, 0, none⟩ (.int .i64 (x1)) = w1 at *
 clear c1 c2 c3 z2
 have g1 : Got M cg tb n T T w w1 := g0.trans ⟨⟨by omega, fun x hx hn => o1 x fun e => hn (.inl e)⟩, fun b hb => .inl hb⟩
 have he := Om (main := main) hi ⟨true, 0, []⟩ (.slice none 0 0) w1 (LsAt.nil _ _ _) I1 hn (by omega) hl hat
 simp only [Bw] at he
 try walk_nrm
 refine Aa z71 ?_
 refine Ah (Post := fun v w' => v = .tuple #[] /\ ∃ av oA, M8 a0 M cg cc tb tc n m ta (Cv S x1) (upd T i ((T i).told ⟨true, 0, []⟩ av oA)) w' /\ Got M cg tb n T (upd T i ((T i).told ⟨true, 0, []⟩ av oA)) w1 w') ?_ Ao (by rfl) (by decide) rfl Try.func73 (by kernel_rfl) (by rfl) ?_
 ·walk_nrm
  exact he
 rintro v w2 ⟨rfl, av, oA, I2, g2⟩
 walk_nrm
 refine Aa z71 ?_
 exact Av rfl rfl Try.func71 rfl (.stop fun d => ⟨_, ⟨rfl, av, oA, I2.same fun _ _ => rfl, ⟨(g1.trans g2).chg.at d, (g1.trans g2).own⟩⟩, rfl⟩)
end
end
end Go.Proofs.Ytjenoiekfkhafaa
