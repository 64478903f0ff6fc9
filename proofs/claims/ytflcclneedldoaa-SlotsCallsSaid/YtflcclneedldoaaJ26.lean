/- Part 26. -/
import Derived.Test.YtflcclneedldoaaJ18
import Derived.Test.YtflcclneedldoaaJ25
set_option linter.unusedSimpArgs false
set_option linter.unusedVariables false
set_option maxHeartbeats 8000000
set_option maxRecDepth 100000
namespace Go.Proofs.Ytflcclneedldoaa
open Go.Conc Go.RowKit Go.Relay Try
open Go.ConcN (upd upd_ne upd_same)
noncomputable def reg118_0 := rk f118.body 0
noncomputable def reg118_1 := rk f118.body 1
noncomputable def reg118_2 := rk f118.body 2
noncomputable def reg118_4 := rk f118.body 4
noncomputable def reg118_5 := rk f118.body 5
noncomputable def reg118_3 := rk f118.body 3
noncomputable def reg118_6 := rk f118.body 6
theorem z118 : reg118_0.size = 1 /\ reg118_1.size = 1 /\ reg118_2.size = 7 /\ reg118_3.size = 3 /\ reg118_4.size = 9 /\ reg118_5.size = 1 /\ reg118_6.size = 1 := by and_intros <;> kernel_rfl
theorem code118_is : f118.body = some (.seq (.region 0 reg118_0 false) (.seq (.seq (.region 1 reg118_1 false) (.block 0 (.loop (.seq (.seq (.region 2 reg118_2 false) (.cond (.tmp 10 ) (.skip) (.exit 0))) (.seq (.block 1 (.seq (.region 4 reg118_4 false) (.cond (.tmp 21 ) (.seq (.region 5 reg118_5 false) (.ret)) (.skip)))) (.region 3 reg118_3 false)))))) (.seq (.region 6 reg118_6 false) (.ret)))) := by kernel_rfl
noncomputable def hdLeft (M j : Nat) (u : Nat -> Value) : Frame :=
 (base 118).at { tmps := #[.pointer (some ⟨M, 0, none⟩), u 1, .bool false, .int .i64 j, u 4, u 5, u 6, u 7, u 8, u 9, u 10, u 11, u 12, u 13, u 14, u 15, u 16, u 17, u 18, u 19, u 20, u 21], defers := [] } [.code (.seq (.seq (.region 2 reg118_2 false) (.cond (.tmp 10 ) (.skip) (.exit 0))) (.seq (.block 1 (.seq (.region 4 reg118_4 false) (.cond (.tmp 21 ) (.seq (.region 5 reg118_5 false) (.ret)) (.skip)))) (.region 3 reg118_3 false))), .inLoop (.seq (.seq (.region 2 reg118_2 false) (.cond (.tmp 10 ) (.skip) (.exit 0))) (.seq (.block 1 (.seq (.region 4 reg118_4 false) (.cond (.tmp 21 ) (.seq (.region 5 reg118_5 false) (.ret)) (.skip)))) (.region 3 reg118_3 false))), .inBlock 0, .code (.seq (.region 6 reg118_6 false) (.ret))]
def Mb (T : Nat -> R11) (j r : Nat) : Bool := (List.range' j r).any fun i => decide (0 < (T i).pc)
section
variable {a0 M tb tc n m : Nat} {cb : CB} {ta : Option Addr} {S : Rg} {T : Nat -> R11} {main : Bool} {V : Nat -> Option Wait}
theorem left_in (cs : List Frame) (w : World) :
  Walk prog main (DR V) (fun g w' => (∃ u, g = G (hdLeft M 0 u) cs) /\ ∃ d, w' = w.at d) (G (Frame.enter prog 118 #[.pointer (some ⟨M, 0, none⟩)] .normal) cs) w := by
 rw [enter_at _ func118 code118_is]
 simp only [ntmps118, ez, Nat.reduceAdd, Nat.reduceSub]
 refine Aa z118 ?_
 refine cLp ?_
 refine .stop fun d => ⟨Ak ?_, d, rfl⟩
 simp only [hdLeft]
 rfl
theorem left_out (w : World) (I : M11 a0 M cb tb tc n m ta S T w) (u : Nat -> Value) (fr : Frame) (cs : List Frame) :
  Walk prog main (DR V) (fun g w' => g = G (fr.finish (.bool false)) cs /\ ∃ d, w' = w.at d) (G (hdLeft M n u) (fr :: cs)) w := by
 have c1 : w.cell? ⟨M, 3, none⟩ = some (.slice ta n tc) := (Ab I.hd 3).trans rfl
 have hj3 : decide (n < n) = false := by simp
 conv => arg 5; unfold hdLeft
 refine Aa z118 ?_
 exact Bk rfl rfl func118 rfl (.stop fun d => ⟨rfl, d, rfl⟩)
theorem left_yes {j : Nat} (hj : j < n) (w : World) (I : M11 a0 M cb tb tc n m ta S T w) (hn : n <= 64) (hpc : 0 < (T j).pc) (u : Nat -> Value) (fr : Frame) (cs : List Frame) :
  Walk prog main (DR V) (fun g w' => g = G (fr.finish (.bool true)) cs /\ ∃ d, w' = w.at d) (G (hdLeft M j u) (fr :: cs)) w := by
 obtain ⟨hj0, hj1, hj3, hj4⟩ := hIx j n
 have hb : decide (0 < (T j).pc) = true := by simp [hpc]
 have c1 := I.cT (by omega)
 have c2 : w.cell? ⟨tb, j * 9 + 4, none⟩ = some (.int .i64 (T j).pc) := I.tcell hj rfl
 generalize (T j).pc = pc at *
 conv => arg 5; unfold hdLeft
 refine Aa z118 ?_
 exact Bk rfl rfl func118 rfl (.stop fun d => ⟨rfl, d, rfl⟩)
theorem left_no {j : Nat} (hj : j < n) (w : World) (I : M11 a0 M cb tb tc n m ta S T w) (hn : n <= 64) (hpc : ¬ 0 < (T j).pc) (u : Nat -> Value) (cs : List Frame) :
  Walk prog main (DR V) (fun g w' => (∃ u, g = G (hdLeft M (j + 1) u) cs) /\ ∃ d, w' = w.at d) (G (hdLeft M j u) cs) w := by
 obtain ⟨hj0, hj1, hj3, hj4⟩ := hIx j n
 have hw1 := wI ((j : Int) + 1)
 have hcc : ((j + 1 : Nat) : Int) = (j : Int) + 1 := by simp
 have hb : decide (0 < (T j).pc) = false := by simp only [decide_eq_false_iff_not]; exact hpc
 have c1 := I.cT (by omega)
 have c2 : w.cell? ⟨tb, j * 9 + 4, none⟩ = some (.int .i64 (T j).pc) := I.tcell hj rfl
 generalize (T j).pc = pc at *
 conv => arg 5; unfold hdLeft
 refine Aa z118 ?_
 refine cIL ?_
 refine .stop fun d => ⟨Ak ?_, d, rfl⟩
 simp only [hdLeft, hcc]
 rfl
theorem left_w (w : World) (I : M11 a0 M cb tb tc n m ta S T w) (hn : n <= 64) : Aw prog main V 118 #[.pointer (some ⟨M, 0, none⟩)] w (.bool (Mb T 0 n)) w := by
 intro c cs
 have loop : ∀ (r j : Nat) (u : Nat -> Value), j + r = n -> Walk prog main (DR V) (fun g w' => g = G (c.finish (.bool (Mb T j r))) cs /\ ∃ d, w' = w.at d) (G (hdLeft M j u) (c :: cs)) w := by
  intro r
  induction r with
  | zero =>
   intro j u hj
   have hj' : j = n := by omega
   subst hj'
   exact left_out w I u c cs
  | succ r ih =>
   intro j u hj
   by_cases hpc : 0 < (T j).pc
   ·refine (left_yes (by omega) w I hn hpc u c cs).mono ?_
    rintro g w' ⟨rfl, d, rfl⟩
    refine ⟨?_, d, rfl⟩
    simp [Mb, List.range'_succ, hpc]
   ·refine (left_no (by omega) w I hn hpc u (c :: cs)).then ?_
    rintro _ _ ⟨⟨u1, rfl⟩, d, rfl⟩
    refine Walk.back ?_ d
    have := ih (j + 1) u1 (by omega)
    have e : Mb T j (r + 1) = Mb T (j + 1) r := by simp [Mb, List.range'_succ, hpc]
    rw [e]
    exact this
 refine (left_in (c :: cs) w).then ?_
 rintro _ _ ⟨⟨u, rfl⟩, d, rfl⟩
 refine Walk.back ?_ d
 refine (loop n 0 u (by omega)).mono ?_
 rintro g w' ⟨rfl, d, rfl⟩
 exact ⟨_, ⟨rfl, d, rfl⟩, rfl⟩
end
structure MoreO (a0 : Nat) (w : World) (ov : Value) (ord : List Nat) (i g cap : Nat) (w1 : World) : Prop where
 row : w1.ownsRow a0 3 1 (.slice (some ⟨g, 0, none⟩) (ord.length + 1) cap) (ord.length + 1) (Ea ord ++ [.int .i64 i])
 old : ∀ b, b < w.heap.size -> ov.ownBlock ≠ some b -> w1.heap[b]? = w.heap[b]?
 size : w.heap.size <= w1.heap.size
 hat : ov.ownBlock = some g ∨ w.heap.size <= g
 lt : g < w1.heap.size
section
variable {a0 M tb tc n m : Nat} {cb : CB} {ta : Option Addr} {Sx : Rg} {T : Nat -> R11} {main : Bool}
theorem sched_go (M : Nat) (s so ls sc : Nat) (mo : Int) (R : Nat) (ord : List Nat) (oa : Option Addr) (oc k : Nat) (hk : k < ls) (hls : ls <= 17592186044416) (hm : (ord.length : Int) < mo) (hmo : mo <= 1048576) (w : World) {i : Nat} (hi : i < n) (I : M11 a0 M cb tb tc n m ta Sx T w) (ha0 : a0 <= w.heap.size) (hpc : 0 < (T i).pc) (c0 : w.cell? ⟨s, so + k, none⟩ = some (.int .i64 i)) (hrow : w.ownsRow a0 3 1 (.slice oa ord.length oc) ord.length (Ea ord)) (P1 P2 : Nat -> Nat -> World -> Prop)
  (hst : ∀ g cap w1, MoreO a0 w (.slice oa ord.length oc) ord i g cap w1 -> CallW prog main (fun _ => none) 117 #[.pointer (some ⟨M, 0, none⟩), .int .i64 i] w1 (fun v w2 => v = .tuple #[] /\ P1 g cap w2))
  (hse : ∀ g cap w2, P1 g cap w2 -> CallW prog main (fun _ => none) 116 #[.pointer (some ⟨M, 0, none⟩), .int .i64 i] w2 (fun v w3 => v = .tuple #[] /\ P2 g cap w3)) (u : Nat -> Value) (cs : List Frame) :
  Walk prog main (DR (fun _ => none)) (fun g' w' => ∃ g cap, (∃ u, g' = G (hdRun1 M (.slice (some ⟨s, so, none⟩) ls sc) mo R n (.slice (some ⟨g, 0, none⟩) (ord.length + 1) cap) (k + 1) u) cs) /\ ∃ w2 d, P2 g cap w2 /\ w' = w2.at d) (G (hdRun1 M (.slice (some ⟨s, so, none⟩) ls sc) mo R n (.slice oa ord.length oc) k u) cs) w := by
 obtain ⟨hk0, hj1, hj3, hj4⟩ := hIx k ls
 have hj5 : decide ((ord.length : Int) < mo) = true := by simp; omega
 have hw1 := wI ((k : Int) + 1)
 have hcc : ((k + 1 : Nat) : Int) = (k : Int) + 1 := by simp
 have hi0 : (0 : Int) <= i := by omega
 have hz1 : decide ((0 : Int) <= i) = true := by simp
 obtain ⟨_, hi1, hi3, hi4⟩ := hIx i n
 have hp1 : decide (0 < (T i).pc) = true := by simp only [decide_eq_true_eq]; exact hpc
 have c1 := I.cT (by omega)
 have c2 : w.cell? ⟨tb, i * 9 + 4, none⟩ = some (.int .i64 (T i).pc) := I.tcell hi rfl
 have hi3' := Option.some_get (show (prog.info? 3).isSome = true by kernel_rfl)
 generalize (T i).pc = pc at *
 generalize hoL : ord.length = lo at *
 conv => arg 5; unfold hdRun1
 refine Aa z59 ?_
 (refine Wa ?_; try walk_nrm)
 have d1 := hAw w (.cells #[.int .i64 i] 3)
 have o1 : ∀ x, x < w.heap.size -> (w.alloc (.cells #[.int .i64 i] 3)).heap[x]? = w.heap[x]? := fun x hx => Ad _ _ hx
 have s1 : (w.alloc (.cells #[.int .i64 i] 3)).heap.size = w.heap.size + 1 := by simp
 have hrow1 : (w.alloc (.cells #[.int .i64 i] 3)).ownsRow a0 3 1 (.slice oa lo oc) lo (Ea ord) := As hrow fun g hg => o1 g (hrow.lt g hg).2
 generalize hS : w.heap.size = S at *
 generalize w.alloc (.cells #[.int .i64 i] 3) = w0 at *
 repeat (first | (refine Wq ?_; try walk_nrm) | (refine Bh ?_; walk_nrm))
 refine Walk.append (.tmp 89) (.tmp 91) 30 Ah (by rfl) (by decide) rfl a0 3 _ (.int .i64 0) 1 8 (by kernel_rfl) hi3'.symm (by rfl) (by rfl) (by rfl) (by rfl) (by decide) (.slice oa lo oc) lo (Ea ord) rfl hrow1 ⟨S, 0, none⟩ 1 1 [.int .i64 i] rfl (by rfl) (fun j v hv => ?_) (by simp [Value.oneCell']) (by decide) (by simp [maxLen]; omega) (by omega) (by omega) (fun g _ => Ov g) (fun g cap w3 hown hg hat hlt => ?_)
 ·rw [Bs, Nat.zero_add]
  refine (Ab d1 j).trans ?_
  simpa using hv
 have hgs := hg.size
 have hA : MoreO a0 w (.slice oa lo oc) ord i g cap w3 := ⟨by rw [hoL]; exact hown, fun b hb hne => (hg.block b (by omega) fun e => hne e.symm).trans (o1 b (by omega)), by omega, hat.imp id fun h => by omega, hlt⟩
 have hst1 := hst g cap w3 hA
 clear hrow1 d1 o1 hown hg hat hst c1 c2 I hrow hA
 walk_nrm
 repeat (first | (refine Wq ?_; try walk_nrm) | (refine Bh ?_; walk_nrm))
 try walk_nrm
 refine Aa z59 ?_
 refine qW (Post := fun v w' => v = .tuple #[] /\ P1 g cap w') func117 ?_ ?_
 ·walk_nrm
  exact hst1
 rintro v w4 ⟨rfl, hP1⟩
 have hse1 := hse g cap w4 hP1
 walk_nrm
 refine Aa z59 ?_
 refine qW (Post := fun v w' => v = .tuple #[] /\ P2 g cap w') func116 ?_ ?_
 ·walk_nrm
  exact hse1
 rintro v w5 ⟨rfl, hP2⟩
 walk_nrm
 refine Aa z59 ?_
 refine cIL ?_
 refine .stop fun d => ⟨g, cap, Ak ?_, w5, d, hP2, rfl⟩
 simp only [hdRun1, hcc]
 rfl
theorem rest_end (M : Nat) (mo : Int) (R n : Nat) (ov : Value) (u : Nat -> Value) (cs : List Frame) (w : World) :
  Walk prog main (DR (fun _ => none)) (fun g w' => (∃ u, g = G (hdRun2 M mo R n ov u) cs) /\ ∃ d, w' = w.at d) (G (hdRun3 M mo R n ov n u) cs) w := by
 have hj1 : decide ((n : Int) < n) = false := by simp
 have hj3 : decide (n < n) = false := by simp
 conv => arg 5; unfold hdRun3
 refine Aa z59 ?_
 refine cIL ?_
 refine .stop fun d => ⟨Ak ?_, d, rfl⟩
 simp only [hdRun2]
 rfl
theorem rest_full (M : Nat) (mo : Int) (R n : Nat) (oa : Option Addr) (ln oc i : Nat) (hi : i < n) (hm : mo <= (ln : Int)) (u : Nat -> Value) (cs : List Frame) (w : World) :
  Walk prog main (DR (fun _ => none)) (fun g w' => (∃ u, g = G (hdRun2 M mo R n (.slice oa ln oc) u) cs) /\ ∃ d, w' = w.at d) (G (hdRun3 M mo R n (.slice oa ln oc) i u) cs) w := by
 have hi0 : (0 : Int) <= i := by omega
 have hz1 : decide ((0 : Int) <= i) = true := by simp
 obtain ⟨_, hi1, hi3, hi4⟩ := hIx i n
 have hj5 : decide ((ln : Int) < mo) = false := by simp; omega
 have hj6 : ¬ (ln : Int) < mo := by omega
 conv => arg 5; unfold hdRun3
 refine Aa z59 ?_
 refine cIL ?_
 refine .stop fun d => ⟨Ak ?_, d, rfl⟩
 simp only [hdRun2]
 rfl
theorem rest_off' (M : Nat) (mo : Int) (R : Nat) (oa : Option Addr) (ln oc : Nat) (hm : (ln : Int) < mo) (w : World) {i : Nat} (hi : i < n) (hn : n <= 64) (I : M11 a0 M cb tb tc n m ta Sx T w) (hpc : ¬ 0 < (T i).pc) (u : Nat -> Value) (cs : List Frame) :
  Walk prog main (DR (fun _ => none)) (fun g w' => (∃ u, g = G (hdRun3 M mo R n (.slice oa ln oc) (i + 1) u) cs) /\ ∃ d, w' = w.at d) (G (hdRun3 M mo R n (.slice oa ln oc) i u) cs) w := by
 have hj5 : decide ((ln : Int) < mo) = true := by simp; omega
 have hw1 := wI ((i : Int) + 1)
 have hcc : ((i + 1 : Nat) : Int) = (i : Int) + 1 := by simp
 have hi0 : (0 : Int) <= i := by omega
 have hz1 : decide ((0 : Int) <= i) = true := by simp
 obtain ⟨_, hi1, hi3, hi4⟩ := hIx i n
 have hp1 : decide (0 < (T i).pc) = false := by simp only [decide_eq_false_iff_not]; exact hpc
 have c1 := I.cT (by omega)
 have c2 : w.cell? ⟨tb, i * 9 + 4, none⟩ = some (.int .i64 (T i).pc) := I.tcell hi rfl
 generalize (T i).pc = pc at *
 conv => arg 5; unfold hdRun3
 refine Aa z59 ?_
 refine cIL ?_
 refine .stop fun d => ⟨Ak ?_, d, rfl⟩
 simp only [hdRun3, hcc]
 rfl
theorem rest_go (M : Nat) (mo : Int) (R : Nat) (ord : List Nat) (oa : Option Addr) (oc : Nat) (hm : (ord.length : Int) < mo) (hmo : mo <= 1048576) (w : World) {i : Nat} (hi : i < n) (hn : n <= 64) (I : M11 a0 M cb tb tc n m ta Sx T w) (ha0 : a0 <= w.heap.size) (hpc : 0 < (T i).pc) (hrow : w.ownsRow a0 3 1 (.slice oa ord.length oc) ord.length (Ea ord)) (P1 P2 : Nat -> Nat -> World -> Prop)
  (hst : ∀ g cap w1, MoreO a0 w (.slice oa ord.length oc) ord i g cap w1 -> CallW prog main (fun _ => none) 117 #[.pointer (some ⟨M, 0, none⟩), .int .i64 i] w1 (fun v w2 => v = .tuple #[] /\ P1 g cap w2))
  (hse : ∀ g cap w2, P1 g cap w2 -> CallW prog main (fun _ => none) 116 #[.pointer (some ⟨M, 0, none⟩), .int .i64 i] w2 (fun v w3 => v = .tuple #[] /\ P2 g cap w3)) (u : Nat -> Value) (cs : List Frame) :
  Walk prog main (DR (fun _ => none)) (fun g' w' => ∃ g cap, (∃ u, g' = G (hdRun3 M mo R n (.slice (some ⟨g, 0, none⟩) (ord.length + 1) cap) (i + 1) u) cs) /\ ∃ w2 d, P2 g cap w2 /\ w' = w2.at d) (G (hdRun3 M mo R n (.slice oa ord.length oc) i u) cs) w := by
 have hj5 : decide ((ord.length : Int) < mo) = true := by simp; omega
 have hw1 := wI ((i : Int) + 1)
 have hcc : ((i + 1 : Nat) : Int) = (i : Int) + 1 := by simp
 have hi0 : (0 : Int) <= i := by omega
 have hz1 : decide ((0 : Int) <= i) = true := by simp
 obtain ⟨_, hi1, hi3, hi4⟩ := hIx i n
 have hp1 : decide (0 < (T i).pc) = true := by simp only [decide_eq_true_eq]; exact hpc
 have c1 := I.cT (by omega)
 have c2 : w.cell? ⟨tb, i * 9 + 4, none⟩ = some (.int .i64 (T i).pc) := I.tcell hi rfl
 have hi3' := Option.some_get (show (prog.info? 3).isSome = true by kernel_rfl)
 generalize (T i).pc = pc at *
 generalize hoL : ord.length = lo at *
 conv => arg 5; unfold hdRun3
 refine Aa z59 ?_
 (refine Wa ?_; try walk_nrm)
 have d1 := hAw w (.cells #[.int .i64 i] 3)
 have o1 : ∀ x, x < w.heap.size -> (w.alloc (.cells #[.int .i64 i] 3)).heap[x]? = w.heap[x]? := fun x hx => Ad _ _ hx
 have s1 : (w.alloc (.cells #[.int .i64 i] 3)).heap.size = w.heap.size + 1 := by simp
 have hrow1 : (w.alloc (.cells #[.int .i64 i] 3)).ownsRow a0 3 1 (.slice oa lo oc) lo (Ea ord) := As hrow fun g hg => o1 g (hrow.lt g hg).2
 generalize hS : w.heap.size = S at *
 generalize w.alloc (.cells #[.int .i64 i] 3) = w0 at *
 repeat (first | (refine Wq ?_; try walk_nrm) | (refine Bh ?_; walk_nrm))
 refine Walk.append (.tmp 127) (.tmp 129) 30 Ah (by rfl) (by decide) rfl a0 3 _ (.int .i64 0) 1 8 (by kernel_rfl) hi3'.symm (by rfl) (by rfl) (by rfl) (by rfl) (by decide) (.slice oa lo oc) lo (Ea ord) rfl hrow1 ⟨S, 0, none⟩ 1 1 [.int .i64 i] rfl (by rfl) (fun j v hv => ?_) (by simp [Value.oneCell']) (by decide) (by simp [maxLen]; omega) (by omega) (by omega) (fun g _ => Ov g) (fun g cap w3 hown hg hat hlt => ?_)
 ·rw [Bs, Nat.zero_add]
  refine (Ab d1 j).trans ?_
  simpa using hv
 have hgs := hg.size
 have hA : MoreO a0 w (.slice oa lo oc) ord i g cap w3 := ⟨by rw [hoL]; exact hown, fun b hb hne => (hg.block b (by omega) fun e => hne e.symm).trans (o1 b (by omega)), by omega, hat.imp id fun h => by omega, hlt⟩
 have hst1 := hst g cap w3 hA
 clear hrow1 d1 o1 hown hg hat hst c1 c2 I hrow hA
 walk_nrm
 repeat (first | (refine Wq ?_; try walk_nrm) | (refine Bh ?_; walk_nrm))
 try walk_nrm
 refine Aa z59 ?_
 refine qW (Post := fun v w' => v = .tuple #[] /\ P1 g cap w') func117 ?_ ?_
 ·walk_nrm
  exact hst1
 rintro v w4 ⟨rfl, hP1⟩
 have hse1 := hse g cap w4 hP1
 walk_nrm
 refine Aa z59 ?_
 refine qW (Post := fun v w' => v = .tuple #[] /\ P2 g cap w') func116 ?_ ?_
 ·walk_nrm
  exact hse1
 rintro v w5 ⟨rfl, hP2⟩
 walk_nrm
 refine Aa z59 ?_
 refine cIL ?_
 refine .stop fun d => ⟨g, cap, Ak ?_, w5, d, hP2, rfl⟩
 simp only [hdRun3, hcc]
 rfl
end
structure RO11 (a0 M : Nat) (cb : CB) (m R : Nat) (ops : Nat -> List OpV) (W : World) (n : Nat) (x : OX (Cr m)) (ord : List Nat) (oa : Option Addr) (oc : Nat) (w : World) : Prop where
 N : ∃ tb tc ta T, RN11 a0 M cb m R ops W tb tc ta T n x w /\ ∀ b, (Value.slice oa ord.length oc).ownBlock = some b -> ¬ Fb M cb m tb n T b /\ b ≠ R
 row : w.ownsRow a0 3 1 (.slice oa ord.length oc) ord.length (Ea ord)
section
variable {a0 M n m R : Nat} {cb : CB} {main : Bool} {ops : Nat -> List OpV} {W : World} {x : OX (Cr m)} {ord : List Nat} {oa : Option Addr} {oc : Nat} {w : World}
theorem RO11.at (H : RO11 a0 M cb m R ops W n x ord oa oc w) (d : Nat) : RO11 a0 M cb m R ops W n x ord oa oc (w.at d) := by
 obtain ⟨tb, tc, ta, T, N, F⟩ := H.N
 exact ⟨⟨tb, tc, ta, T, ⟨N.I.same fun _ _ => rfl, N.z, N.zM, N.th, N.al, N.out, N.res, N.resS, N.old, N.le⟩, F⟩, H.row⟩
theorem RO11.pc (H : RO11 a0 M cb m R ops W n x ord oa oc w) : ∃ tb tc ta T, M11 a0 M cb tb tc n m ta x.s T w /\ ∀ i, i < n -> (0 < (T i).pc ↔ x.out i = none) := by
 obtain ⟨tb, tc, ta, T, N, F⟩ := H.N
 refine ⟨tb, tc, ta, T, N.I, fun i hi => ?_⟩
 have h1 := N.out i hi
 rcases (N.th i hi).pos with ⟨hd, _, _, hp⟩ | ⟨d, o, hd, _, _, hs⟩
 ·rw [hd] at h1
  rw [hp]
  cases ho : x.out i with
  | none => rw [ho] at h1; cases h1
  | some v => simp
 ·rw [hd] at h1
  cases ho : x.out i with
  | none => simp [hs.on]
  | some v => rw [ho] at h1; cases h1
theorem nextO_some {L : La} (x : OX L) (i : Nat) (d : L.D) (h : (x.th i).d = some d) : Cz x i = Ge x i (Ei L (i : Nat) (L.act x.s d) (x.th i).left (x.th i).ans) (x.cnt + 1) := by
 unfold Cz
 rw [h]
def MidR (a0 M : Nat) (cb : CB) (m R : Nat) (ops : Nat -> List OpV) (W : World) (n : Nat) (x : OX (Cr m)) (ord : List Nat) (i g cap : Nat) (w2 : World) : Prop :=
 ∃ tb tc ta T t' d o w w1, RN11 a0 M cb m R ops W tb tc ta T n x w /\ (x.th i).d = some d /\ (ops i)[(T i).at']? = some o /\ (x.th i).left = (ops i).drop ((T i).at' + 1) /\ w.heap.size <= w1.heap.size /\ (∀ b, b < w.heap.size -> (b < a0 ∨ Fb M cb m tb n T b ∨ b = R) -> w1.heap[b]? = w.heap[b]?) /\
  M11 a0 M cb tb tc n m ta (Bd m x.s d).1 (upd T i t') w2 /\ Got M cb m tb n T (upd T i t') w1 w2 /\ Af11 m o (Bd m x.s d).2 (T i) t' /\ w1.ownsRow a0 3 1 (.slice (some ⟨g, 0, none⟩) (ord.length + 1) cap) (ord.length + 1) (Ea (ord ++ [i])) /\ ¬ Fb M cb m tb n T g /\ g ≠ R /\ R < w.heap.size
theorem run_step (hm : m <= 65536) (hn : n <= 64) (hol : ∀ i, i < n -> (ops i).length <= 65536) (H : RO11 a0 M cb m R ops W n x ord oa oc w) {i : Nat} (hi : i < n) (ho : x.out i = none) {g cap : Nat} {w1 : World} (A : MoreO a0 w (.slice oa ord.length oc) ord i g cap w1) :
  CallW prog main (fun _ => none) 117 #[.pointer (some ⟨M, 0, none⟩), .int .i64 i] w1 (fun v w2 => v = .tuple #[] /\ MidR a0 M cb m R ops W n x ord i g cap w2) := by
 obtain ⟨tb, tc, ta, T, N, F⟩ := H.N
 have hT := N.th i hi
 have h1 := N.out i hi
 rw [ho] at h1
 have hRl := (aEs N.res).1
 obtain ⟨d, o, hd, hop, hleft, hst⟩ : ∃ d o, (x.th i).d = some d /\ (ops i)[(T i).at']? = some o /\ (x.th i).left = (ops i).drop ((T i).at' + 1) /\ St11 m o (T i) d := by
  rcases hT.pos with ⟨hd, _⟩ | h
  ·rw [hd] at h1; cases h1
  ·exact h
 have hkeep : ∀ b, b < w.heap.size -> (b < a0 ∨ Fb M cb m tb n T b ∨ b = R) -> w1.heap[b]? = w.heap[b]? := fun b hb h => A.old b hb fun e => by
  obtain ⟨f1, f2⟩ := F b e
  rcases h with h | h | h
  ·have := (H.row.lt b e).1; omega
  ·exact f1 h
  ·exact f2 h
 have I1 : M11 a0 M cb tb tc n m ta x.s T w1 := N.I.keep fun b hb h => hkeep b hb (h.imp id .inl)
 have hstep := step11_w (main := main) hi x.s o d w1 I1 hm hn (by have := N.le; have := A.size; omega) (by rw [hT.ops]; exact hop) (by rw [hT.ops]; exact hol i hi) (N.al i hi) hst
 have hg : ¬ Fb M cb m tb n T g /\ g ≠ R := by
  rcases A.hat with h | h
  ·exact F g h
  ·refine ⟨fun e => ?_, by omega⟩
   obtain ⟨l1, l2, l3⟩ := N.I.lt
   rcases e with e | e | e | ⟨k, hk, e⟩
   ·omega
   ·have := l2 _ e; omega
   ·have := l3 (by omega); omega
   ·have := ((N.I.rows k hk).low e).2; omega
 intro c cs
 refine (hstep c cs).mono ?_
 rintro g' w2 ⟨v, ⟨rfl, t', I2, g2, hA⟩, rfl⟩
 refine ⟨_, ⟨rfl, tb, tc, ta, T, t', d, o, w, w1, N, hd, hop, hleft, A.size, hkeep, I2, g2, hA, ?_, hg.1, hg.2, hRl⟩, rfl⟩
 rw [ordRow_snoc]
 exact A.row
theorem Ni (hm : m <= 65536) (hn : n <= 64) (hol : ∀ i, i < n -> (ops i).length <= 65536) {i : Nat} (hi : i < n) {g cap : Nat} {w2 : World} (H : MidR a0 M cb m R ops W n x ord i g cap w2) :
  CallW prog main (fun _ => none) 116 #[.pointer (some ⟨M, 0, none⟩), .int .i64 i] w2 (fun v w3 => v = .tuple #[] /\ RO11 a0 M cb m R ops W n (Cz x i) (ord ++ [i]) (some ⟨g, 0, none⟩) cap w3) := by
 obtain ⟨tb, tc, ta, T, t', d, o, w, w1, N, hd, hop, hleft, hsz, hkeep, I2, g2, hA, hrow, hgS, hgR, hRl⟩ := H
 have hT := N.th i hi
 have hs2 := g2.chg.size
 have hN := N.le
 have hA' : Af11 m o (Bd m x.s d).2 (T i) (upd T i t' i) := by rw [upd_same]; exact hA
 have hse := settle_af (main := main) (T := upd T i t') hi hn hm (i : Nat) (Bd m x.s d).1 o (Bd m x.s d).2 (T i) hA' (by rw [hT.ops]; exact hop) (by rw [hT.ops]; exact hol i hi) (N.al i hi) w2 (by omega) I2
 intro c cs
 refine (hse c cs).mono ?_
 rintro g' w3 ⟨v, ⟨rfl, th, t2, hland, hth, hal, I3, g3⟩, rfl⟩
 rw [An] at I3 g3
 have G := g2.grew.trans g3.grew
 have hs3 := G.chg.size
 rw [hT.ops, hT.ans, <- hleft] at hland
 rw [hT.ops] at hth
 have hx : Cz x i = Ge x i ((Bd m x.s d).1, th) (x.cnt + 1) := by
  rw [nextO_some x i d hd]
  have e : Ei (Cr m) (i : Nat) ((Cr m).act x.s d) (x.th i).left (x.th i).ans = ((Bd m x.s d).1, th) := hland
  rw [e]
  rfl
 refine ⟨_, ⟨rfl, ⟨⟨tb, tc, ta, upd T i t2, ⟨?_, N.z, N.zM, fun j hj => ?_, fun j hj => ?_, fun j hj => ?_, ?_, fun h => ?_, fun b hb => ?_, by omega⟩, fun b hb => ?_⟩, ?_⟩⟩, rfl⟩
 ·rw [hx]; exact I3
 ·rw [hx]
  by_cases e : j = i
  ·subst e
   rw [putO_th, upd_same]
   exact hth
  ·rw [(Gp x e _ _).1, upd_ne _ _ e]
   exact N.th j hj
 ·by_cases e : j = i
  ·subst e
   rw [upd_same]
   exact hal
  ·rw [upd_ne _ _ e]
   exact N.al j hj
 ·rw [hx]
  by_cases e : j = i
  ·subst e
   exact putO_out _ _ _ _
  ·rw [(Gp x e _ _).1, (Gp x e _ _).2]
   exact N.out j hj
 ·exact (G.chg.same R (by omega) N.resS).trans ((hkeep R hRl (.inr (.inr rfl))).trans N.res)
 ·exact (G.own R h).elim N.resS fun h => by omega
 ·exact (G.chg.same b (by omega) fun h => by have := m11S_old N.I N.zM h; omega).trans ((hkeep b (by omega) (.inl hb)).trans (N.old b hb))
 ·simp only [Value.ownBlock, Option.some.injEq] at hb
  subst hb
  have hgl := (hrow.lt g rfl).2
  exact ⟨fun h => (G.own g h).elim hgS fun h => by omega, hgR⟩
 ·have e : (ord ++ [i]).length = ord.length + 1 := by simp
  rw [e]
  exact As hrow fun b hb => by
   simp only [Value.ownBlock, Option.some.injEq] at hb
   subst hb
   exact G.chg.same g (hrow.lt g rfl).2 hgS
end
noncomputable def hdRunE (M R n : Nat) (ov : Value) (u : Nat -> Value) : Frame :=
 (base 59).at { tmps := #[.pointer (some ⟨M, 0, none⟩), u 1, u 2, u 3, u 4, u 5, u 6, u 7, .pointer (some ⟨R, 0, none⟩), .int .i64 n, u 10, u 11, ov, u 13, u 14, u 15, u 16, u 17, u 18, u 19, u 20, u 21, u 22, u 23, u 24, u 25, u 26, u 27, u 28, u 29, u 30, u 31, u 32, u 33, u 34, u 35, u 36, u 37, u 38, u 39, u 40, u 41, u 42, u 43, u 44, u 45, u 46, u 47, u 48, u 49, u 50, u 51, u 52, u 53, u 54, u 55, u 56, u 57, u 58, u 59, u 60, u 61, u 62, u 63, u 64, u 65, u 66, u 67, u 68, u 69, u 70, u 71, u 72, u 73, u 74, u 75, u 76, u 77, u 78, u 79, u 80, u 81, u 82, u 83, u 84, u 85, u 86, u 87, u 88, u 89, u 90, u 91, u 92, u 93, u 94, u 95, u 96, u 97, u 98, u 99, u 100, u 101, u 102, u 103, u 104, u 105, u 106, u 107, u 108, u 109, u 110, u 111, u 112, u 113, u 114, u 115, u 116, u 117, u 118, u 119, u 120, u 121, u 122, u 123, u 124, u 125, u 126, u 127, u 128, u 129, u 130, u 131, u 132, u 133, u 134, u 135, u 136, u 137, u 138, u 139, u 140, u 141, u 142, u 143, u 144, u 145, u 146, u 147, u 148, u 149, u 150, u 151, u 152, u 153, u 154, u 155, u 156, u 157, u 158, u 159, u 160, u 161], defers := [] } [.code (.region 33 reg59_33 false), .code (.seq (.seq (.region 34 reg59_34 false) (.block 8 (.loop (.seq (.seq (.region 35 reg59_35 false) (.cond (.tmp 145 ) (.skip) (.exit 8))) (.seq (.block 9 (.region 37 reg59_37 true)) (.region 36 reg59_36 false)))))) (.seq (.region 38 reg59_38 false) (.ret)))]
section
variable {main : Bool}
theorem rest_no (M : Nat) (mo : Int) (R n : Nat) (ov : Value) (u : Nat -> Value) (cs : List Frame) (w : World) (hl : Aw prog main (fun _ => none) 118 #[.pointer (some ⟨M, 0, none⟩)] w (.bool false) w) :
  Walk prog main (DR (fun _ => none)) (fun g w' => (∃ u, g = G (hdRunE M R n ov u) cs) /\ ∃ d, w' = w.at d) (G (hdRun2 M mo R n ov u) cs) w := by
 conv => arg 5; unfold hdRun2
 refine Aa z59 ?_
 refine qV (x := .bool false) (W := w) func118 ?_ ?_
 ·walk_nrm
  exact hl
 walk_nrm
 repeat (first | (refine Wq ?_; try walk_nrm) | (refine Bh ?_; walk_nrm))
 repeat (refine Walk.c rfl ?_)
 refine .stop fun d => ⟨Ak ?_, d, rfl⟩
 simp only [hdRunE]
 rfl
theorem rest_most (M : Nat) (mo : Int) (R n : Nat) (oa : Option Addr) (ln oc : Nat) (hm : mo <= (ln : Int)) (u : Nat -> Value) (cs : List Frame) (w : World) (hl : Aw prog main (fun _ => none) 118 #[.pointer (some ⟨M, 0, none⟩)] w (.bool true) w) :
  Walk prog main (DR (fun _ => none)) (fun g w' => (∃ u, g = G (hdRunE M R n (.slice oa ln oc) u) cs) /\ ∃ d, w' = w.at d) (G (hdRun2 M mo R n (.slice oa ln oc) u) cs) w := by
 have hj5 : decide ((ln : Int) < mo) = false := by simp; omega
 have hj6 : ¬ (ln : Int) < mo := by omega
 conv => arg 5; unfold hdRun2
 refine Aa z59 ?_
 refine qV (x := .bool true) (W := w) func118 ?_ ?_
 ·walk_nrm
  exact hl
 walk_nrm
 repeat (first | (refine Wq ?_; try walk_nrm) | (refine Bh ?_; walk_nrm))
 repeat (refine Walk.c rfl ?_)
 refine .stop fun d => ⟨Ak ?_, d, rfl⟩
 simp only [hdRunE]
 rfl
theorem rest_yes (M : Nat) (mo : Int) (R n : Nat) (oa : Option Addr) (ln oc : Nat) (hm : (ln : Int) < mo) (u : Nat -> Value) (cs : List Frame) (w : World) (hl : Aw prog main (fun _ => none) 118 #[.pointer (some ⟨M, 0, none⟩)] w (.bool true) w) :
  Walk prog main (DR (fun _ => none)) (fun g w' => (∃ u, g = G (hdRun3 M mo R n (.slice oa ln oc) 0 u) cs) /\ ∃ d, w' = w.at d) (G (hdRun2 M mo R n (.slice oa ln oc) u) cs) w := by
 have hj5 : decide ((ln : Int) < mo) = true := by simp; omega
 conv => arg 5; unfold hdRun2
 refine Aa z59 ?_
 refine qV (x := .bool true) (W := w) func118 ?_ ?_
 ·walk_nrm
  exact hl
 walk_nrm
 refine Aa z59 ?_
 refine cLp ?_
 refine .stop fun d => ⟨Ak ?_, d, rfl⟩
 simp only [hdRun3]
 rfl
end
section
variable {a0 M n m R : Nat} {cb : CB} {main : Bool} {ops : Nat -> List OpV} {W : World} {most : Int}
def Pf (a0 M : Nat) (cb : CB) (m R : Nat) (ops : Nat -> List OpV) (W : World) (n : Nat) (st : OX (Cr m) × List Nat) (oa : Option Addr) (oc : Nat) (w : World) : Prop := RO11 a0 M cb m R ops W n st.1 st.2 oa oc w
theorem RO11.le {x : OX (Cr m)} {ord : List Nat} {oa : Option Addr} {oc : Nat} {w : World} (H : RO11 a0 M cb m R ops W n x ord oa oc w) : a0 <= w.heap.size /\ ∀ b, b < a0 -> w.heap[b]? = W.heap[b]? := by
 obtain ⟨tb, tc, ta, T, N, F⟩ := H.N
 exact ⟨N.le, N.old⟩
theorem RO11.left {x : OX (Cr m)} {ord : List Nat} {oa : Option Addr} {oc : Nat} {w : World} (hn : n <= 64) (H : RO11 a0 M cb m R ops W n x ord oa oc w) : Aw prog main (fun _ => none) 118 #[.pointer (some ⟨M, 0, none⟩)] w (.bool (decide (0 < Do (Cc (Cr m) n most ops) x))) w := by
 obtain ⟨tb, tc, ta, T, I, hpc⟩ := H.pc
 have e : Mb T 0 n = decide (0 < Do (Cc (Cr m) n most ops) x) := by
  rw [Bool.eq_iff_iff, decide_eq_true_eq]
  unfold Mb Do
  rw [<- List.range_eq_range', List.any_eq_true, List.countP_pos_iff]
  constructor
  ·rintro ⟨i, hi, h⟩
   have h1 := List.mem_range.1 hi
   refine ⟨i, hi, ?_⟩
   have := (hpc i h1).1 (by simpa using h)
   show (x.out i).isNone = true
   rw [this]
   rfl
  ·rintro ⟨i, hi, h⟩
   have h1 : i < n := List.mem_range.1 hi
   refine ⟨i, List.mem_range.2 h1, ?_⟩
   have h : (x.out i).isNone = true := h
   have := (hpc i h1).2 (by simpa using h)
   simpa using this
 have := left_w (main := main) (V := fun _ => none) w I hn
 rw [e] at this
 exact this
theorem run_sched (hm : m <= 65536) (hn : n <= 64) (hol : ∀ i, i < n -> (ops i).length <= 65536) (hmo : most <= 1048576) (sa : Option Addr) (sc : Nat) (sl : List Int) (hsl : sl.length <= 17592186044416) (hs : ∀ (j : Nat) (z : Int), sl[j]? = some z -> ∃ s so, sa = some ⟨s, so, none⟩ /\ s < a0 /\ W.cell? ⟨s, so + j, none⟩ = some (.int .i64 z)) (cs : List Frame) :
  ∀ (r k : Nat) (st : OX (Cr m) × List Nat) (oa : Option Addr) (oc : Nat) (u : Nat -> Value) (w : World), k + r = sl.length -> Pf a0 M cb m R ops W n st oa oc w ->
  Walk prog main (DR (fun _ => none)) (fun g w' => ∃ oa oc, (∃ u, g = G (hdRun2 M most R n (.slice oa ((sl.drop k).foldl (Bb (Cc (Cr m) n most ops)) st).2.length oc) u) cs) /\ Pf a0 M cb m R ops W n ((sl.drop k).foldl (Bb (Cc (Cr m) n most ops)) st) oa oc w') (G (hdRun1 M (.slice sa sl.length sc) most R n (.slice oa st.2.length oc) k u) cs) w := by
 intro r
 induction r with
 | zero =>
  intro k st oa oc u w hk H
  have hk : k = sl.length := hk
  subst hk
  have e : sl.drop sl.length = [] := List.drop_length
  rw [e]
  refine (sched_end M sa sl.length sc most R n _ u cs w).mono ?_
  rintro g w' ⟨⟨u, rfl⟩, d, rfl⟩
  exact ⟨oa, oc, ⟨u, rfl⟩, RO11.at H d⟩
 | succ r ih =>
  intro k st oa oc u w hk H
  have hkl : k < sl.length := by omega
  obtain ⟨z, hz⟩ : ∃ z, sl[k]? = some z := ⟨_, List.getElem?_eq_getElem hkl⟩
  have ed : sl.drop k = z :: sl.drop (k + 1) := by
   rw [<- (lEs hz).2]; exact List.drop_eq_getElem_cons hkl
  obtain ⟨s, so, rfl, hsa, hc0⟩ := hs k z hz
  obtain ⟨hle, hold⟩ := RO11.le H
  have c0 : w.cell? ⟨s, so + k, none⟩ = some (.int .i64 z) := (cBk (a := ⟨s, so + k, none⟩) (hold s hsa)).trans hc0
  by_cases hfull : most <= (st.2.length : Int)
  ·have hov : Bj (Cc (Cr m) n most ops) st = true := by
    unfold Bj
    have : decide ((Cc (Cr m) n most ops).most <= (st.2.length : Int)) = true := decide_eq_true hfull
    rw [this, Bool.or_true]
   rw [Jn hov]
   refine (sched_full M _ sl.length sc most R n oa st.2.length oc k hkl hfull u cs w).mono ?_
   rintro g w' ⟨⟨u, rfl⟩, d, rfl⟩
   exact ⟨oa, oc, ⟨u, rfl⟩, RO11.at H d⟩
  ·have hlt : (st.2.length : Int) < most := by omega
   rw [ed, List.foldl_cons]
   by_cases hok : 0 <= z /\ z < n /\ st.1.out z.toNat = none
   ·obtain ⟨h1, h2, h3⟩ := hok
    obtain ⟨i, rfl⟩ : ∃ i : Nat, z = i := ⟨z.toNat, by omega⟩
    have hi : i < n := by omega
    have h3 : st.1.out i = none := by simpa using h3
    have hov : Bj (Cc (Cr m) n most ops) st = false := by
     unfold Bj
     have e1 : decide ((Cc (Cr m) n most ops).most <= (st.2.length : Int)) = false := decide_eq_false (by show ¬ most <= _; omega)
     have e2 : Do (Cc (Cr m) n most ops) st.1 ≠ 0 := by
      intro e
      have : 0 < Do (Cc (Cr m) n most ops) st.1 := List.countP_pos_iff.2 ⟨i, List.mem_range.2 hi, by show (st.1.out i).isNone = true; rw [h3]; rfl⟩
      omega
     rw [e1, Bool.or_false]
     exact decide_eq_false e2
    have es : Bb (Cc (Cr m) n most ops) st (i : Nat) = (Cz st.1 i, st.2 ++ [i]) := step_yes hov hi h3
    rw [es]
    obtain ⟨tb, tc, ta, T, I, hpc⟩ := RO11.pc H
    refine (sched_go M s so sl.length sc most R st.2 oa oc k hkl hsl hlt hmo w hi I hle ((hpc i hi).2 h3) c0 H.row (fun g cap w2 => MidR a0 M cb m R ops W n st.1 st.2 i g cap w2) (fun g cap w3 => RO11 a0 M cb m R ops W n (Cz st.1 i) (st.2 ++ [i]) (some ⟨g, 0, none⟩) cap w3) (fun g cap w1 A => run_step hm hn hol H hi h3 A) (fun g cap w2 h => Ni hm hn hol hi h) u cs).then ?_
    rintro g' w' ⟨g, cap, ⟨u', rfl⟩, w2, d, H2, rfl⟩
    refine Walk.back ?_ d
    have el : st.2.length + 1 = (Cz st.1 i, st.2 ++ [i]).2.length := by simp
    rw [el]
    exact ih (k + 1) (Cz st.1 i, st.2 ++ [i]) (some ⟨g, 0, none⟩) cap u' w2 (by omega) H2
   ·have es : Bb (Cc (Cr m) n most ops) st z = st := step_no hok
    rw [es]
    have go : Walk prog main (DR (fun _ => none)) (fun g w' => (∃ u, g = G (hdRun1 M (.slice (some ⟨s, so, none⟩) sl.length sc) most R n (.slice oa st.2.length oc) (k + 1) u) cs) /\ ∃ d, w' = w.at d) (G (hdRun1 M (.slice (some ⟨s, so, none⟩) sl.length sc) most R n (.slice oa st.2.length oc) k u) cs) w := by
     by_cases h1 : z < 0
     ·exact sched_neg M s so sl.length sc most R n oa st.2.length oc k hkl hsl hlt z h1 u cs w c0
     ·by_cases h2 : n <= z
      ·exact sched_far M s so sl.length sc most R n oa st.2.length oc k hkl hsl hlt z (by omega) h2 u cs w c0
      ·obtain ⟨i, rfl⟩ : ∃ i : Nat, z = i := ⟨z.toNat, by omega⟩
       have hi : i < n := by omega
       obtain ⟨tb, tc, ta, T, I, hpc⟩ := RO11.pc H
       exact sched_off M s so sl.length sc most R oa st.2.length oc k hkl hsl hlt w hi I (fun h => hok ⟨by omega, by omega, by simpa using (hpc i hi).1 h⟩) u cs c0
    refine go.then ?_
    rintro g w' ⟨⟨u', rfl⟩, d, rfl⟩
    exact Walk.back (ih (k + 1) st oa oc u' w (by omega) H) d
theorem run_round (hm : m <= 65536) (hn : n <= 64) (hol : ∀ i, i < n -> (ops i).length <= 65536) (hmo : most <= 1048576) (cs : List Frame) :
  ∀ (r i : Nat) (st : OX (Cr m) × List Nat) (oa : Option Addr) (oc : Nat) (u : Nat -> Value) (w : World), i + r = n -> Pf a0 M cb m R ops W n st oa oc w ->
  Walk prog main (DR (fun _ => none)) (fun g w' => ∃ oa oc, (∃ u, g = G (hdRun2 M most R n (.slice oa ((List.range' i r).foldl (fun st i => Bb (Cc (Cr m) n most ops) st (i : Nat)) st).2.length oc) u) cs) /\ Pf a0 M cb m R ops W n ((List.range' i r).foldl (fun st i => Bb (Cc (Cr m) n most ops) st (i : Nat)) st) oa oc w') (G (hdRun3 M most R n (.slice oa st.2.length oc) i u) cs) w := by
 intro r
 induction r with
 | zero =>
  intro i st oa oc u w hi H
  have hi : i = n := hi
  subst hi
  refine (rest_end M most R i _ u cs w).mono ?_
  rintro g w' ⟨⟨u, rfl⟩, d, rfl⟩
  exact ⟨oa, oc, ⟨u, rfl⟩, RO11.at H d⟩
 | succ r ih =>
  intro i st oa oc u w hi' H
  have hi : i < n := by omega
  obtain ⟨hle, hold⟩ := RO11.le H
  by_cases hfull : most <= (st.2.length : Int)
  ·have hov : Bj (Cc (Cr m) n most ops) st = true := by
    unfold Bj
    have : decide ((Cc (Cr m) n most ops).most <= (st.2.length : Int)) = true := decide_eq_true hfull
    rw [this, Bool.or_true]
   rw [Jo hov]
   refine (rest_full M most R n oa st.2.length oc i hi hfull u cs w).mono ?_
   rintro g w' ⟨⟨u, rfl⟩, d, rfl⟩
   exact ⟨oa, oc, ⟨u, rfl⟩, RO11.at H d⟩
  ·have hlt : (st.2.length : Int) < most := by omega
   rw [List.range'_succ, List.foldl_cons]
   obtain ⟨tb, tc, ta, T, I, hpc⟩ := RO11.pc H
   by_cases h3 : st.1.out i = none
   ·have hov : Bj (Cc (Cr m) n most ops) st = false := by
     unfold Bj
     have e1 : decide ((Cc (Cr m) n most ops).most <= (st.2.length : Int)) = false := decide_eq_false (by show ¬ most <= _; omega)
     have e2 : Do (Cc (Cr m) n most ops) st.1 ≠ 0 := by
      intro e
      have : 0 < Do (Cc (Cr m) n most ops) st.1 := List.countP_pos_iff.2 ⟨i, List.mem_range.2 hi, by show (st.1.out i).isNone = true; rw [h3]; rfl⟩
      omega
     rw [e1, Bool.or_false]
     exact decide_eq_false e2
    have es : Bb (Cc (Cr m) n most ops) st (i : Nat) = (Cz st.1 i, st.2 ++ [i]) := step_yes hov hi h3
    rw [es]
    refine (rest_go M most R st.2 oa oc hlt hmo w hi hn I hle ((hpc i hi).2 h3) H.row (fun g cap w2 => MidR a0 M cb m R ops W n st.1 st.2 i g cap w2) (fun g cap w3 => RO11 a0 M cb m R ops W n (Cz st.1 i) (st.2 ++ [i]) (some ⟨g, 0, none⟩) cap w3) (fun g cap w1 A => run_step hm hn hol H hi h3 A) (fun g cap w2 h => Ni hm hn hol hi h) u cs).then ?_
    rintro g' w' ⟨g, cap, ⟨u', rfl⟩, w2, d, H2, rfl⟩
    refine Walk.back ?_ d
    have el : st.2.length + 1 = (Cz st.1 i, st.2 ++ [i]).2.length := by simp
    rw [el]
    exact ih (i + 1) (Cz st.1 i, st.2 ++ [i]) (some ⟨g, 0, none⟩) cap u' w2 (by omega) H2
   ·have es : Bb (Cc (Cr m) n most ops) st (i : Nat) = st := step_no (fun h => h3 (by have h2 : st.1.out ((i : Nat) : Int).toNat = none := h.2.2; simpa using h2))
    rw [es]
    refine (rest_off' M most R oa st.2.length oc hlt w hi hn I (fun h => h3 ((hpc i hi).1 h)) u cs).then ?_
    rintro g w' ⟨⟨u', rfl⟩, d, rfl⟩
    exact Walk.back (ih (i + 1) st oa oc u' w (by omega) H) d
theorem run_rest (hm : m <= 65536) (hn : n <= 64) (hol : ∀ i, i < n -> (ops i).length <= 65536) (hmo : most <= 1048576) (cs : List Frame) :
  ∀ (f : Nat) (st : OX (Cr m) × List Nat) (oa : Option Addr) (oc : Nat) (u : Nat -> Value) (w : World), most <= (st.2.length + f : Nat) -> Pf a0 M cb m R ops W n st oa oc w ->
  Walk prog main (DR (fun _ => none)) (fun g w' => ∃ oa oc, (∃ u, g = G (hdRunE M R n (.slice oa (Bz (Cc (Cr m) n most ops) f st).2.length oc) u) cs) /\ Pf a0 M cb m R ops W n (Bz (Cc (Cr m) n most ops) f st) oa oc w') (G (hdRun2 M most R n (.slice oa st.2.length oc) u) cs) w := by
 intro f
 have done : ∀ (st : OX (Cr m) × List Nat) (oa : Option Addr) (oc : Nat) (u : Nat -> Value) (w : World), Bj (Cc (Cr m) n most ops) st = true -> Pf a0 M cb m R ops W n st oa oc w ->
   Walk prog main (DR (fun _ => none)) (fun g w' => ∃ oa oc, (∃ u, g = G (hdRunE M R n (.slice oa st.2.length oc) u) cs) /\ Pf a0 M cb m R ops W n st oa oc w') (G (hdRun2 M most R n (.slice oa st.2.length oc) u) cs) w := by
  intro st oa oc u w hov H
  have hl := RO11.left (main := main) (most := most) hn H
  by_cases hg : 0 < Do (Cc (Cr m) n most ops) st.1
  ·rw [decide_eq_true hg] at hl
   have hfull : most <= (st.2.length : Int) := by
    unfold Bj at hov
    have e : decide (Do (Cc (Cr m) n most ops) st.1 = 0) = false := decide_eq_false (by omega)
    rw [e, Bool.false_or] at hov
    exact of_decide_eq_true hov
   refine (rest_most M most R n oa st.2.length oc hfull u cs w hl).mono ?_
   rintro g w' ⟨⟨u, rfl⟩, d, rfl⟩
   exact ⟨oa, oc, ⟨u, rfl⟩, RO11.at H d⟩
  ·rw [decide_eq_false hg] at hl
   refine (rest_no M most R n _ u cs w hl).mono ?_
   rintro g w' ⟨⟨u, rfl⟩, d, rfl⟩
   exact ⟨oa, oc, ⟨u, rfl⟩, RO11.at H d⟩
 induction f with
 | zero =>
  intro st oa oc u w hf H
  refine done st oa oc u w ?_ H
  unfold Bj
  have : decide ((Cc (Cr m) n most ops).most <= (st.2.length : Int)) = true := decide_eq_true (by show most <= _; omega)
  rw [this, Bool.or_true]
 | succ f ih =>
  intro st oa oc u w hf H
  cases hov : Bj (Cc (Cr m) n most ops) st with
  | true =>
   rw [Kd _ hov]
   exact done st oa oc u w hov H
  | false =>
   rw [Mq _ hov]
   have hl := RO11.left (main := main) (most := most) hn H
   obtain ⟨hlt, j, hj, ho⟩ := Nv hov
   have hlt : (st.2.length : Int) < most := hlt
   have hg : 0 < Do (Cc (Cr m) n most ops) st.1 := List.countP_pos_iff.2 ⟨j, List.mem_range.2 hj, by show (st.1.out j).isNone = true; have ho : st.1.out j = none := ho; rw [ho]; rfl⟩
   rw [decide_eq_true hg] at hl
   refine (rest_yes M most R n oa st.2.length oc hlt u cs w hl).then ?_
   rintro g w' ⟨⟨u1, rfl⟩, d, rfl⟩
   refine Walk.back ?_ d
   have e : El (Cc (Cr m) n most ops) st = (List.range' 0 n).foldl (fun st i => Bb (Cc (Cr m) n most ops) st (i : Nat)) st := by
    unfold El
    rw [List.range_eq_range']
    rfl
   have h1 := Jl _ hov
   refine (run_round hm hn hol hmo cs n 0 st oa oc u1 w (by omega) H).then ?_
   rw [<- e]
   rintro g w2 ⟨oa2, oc2, ⟨u2, rfl⟩, H2⟩
   exact ih _ oa2 oc2 u2 w2 (by omega) H2
end
end Go.Proofs.Ytflcclneedldoaa
