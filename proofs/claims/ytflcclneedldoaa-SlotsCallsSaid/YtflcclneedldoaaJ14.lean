/- Part 14. -/
import Derived.Test.YtflcclneedldoaaJ3
import Derived.Test.YtflcclneedldoaaJ4
import Derived.Test.YtflcclneedldoaaJ13
set_option linter.unusedSimpArgs false
set_option linter.unusedVariables false
set_option maxHeartbeats 8000000
set_option maxRecDepth 100000
namespace Go.Proofs.Ytflcclneedldoaa
open Go.Conc Go.RowKit Go.Relay
open Go.ConcN (upd upd_ne upd_same)
section
variable {main : Bool} {V : Nat -> Option Wait}
section
variable {P : Program} {t e : TypeId} {ti : TypeInfo}
theorem run_sl_of (hu : P.underlying t = some (.slice e)) (hi : P.info? e = some ti) (tb m cap x : Nat) (hx : x <= cap) (w : World) (es : Array Event) : (Instr.sliceAt t (.slice (some ⟨tb, 0, none⟩) m cap) none (some (.int .i64 x)) none).run P w = .ok (.slice (some ⟨tb, 0, none⟩) x cap) w /\
  (Instr.sliceAt t (.slice (some ⟨tb, 0, none⟩) m cap) none (some (.int .i64 x)) none).events P w es = es := by
 have h1 : (x : Int) <= cap := by omega
 constructor <;> simp [Instr.sliceAt, Instr.slice, run_underlying hu, Instr.sliceBounds, Instr.sliceBound, asIntOf, sizeOf, typeInfo, hi, h1, hx, Addr.add]
end
theorem hu53 : Try.prog.underlying 201 = some (.slice 184) := by kernel_rfl
theorem Ok (tb m tcap : Nat) (w : World) (hm : m <= tcap) : Aw Try.prog main V 167 #[.slice (some ⟨tb, 0, none⟩) m tcap] w (.slice (some ⟨tb, 0, none⟩) (min m 64) tcap) w := by
 refine Aq Try.func167 rfl fun fr cs => ?_
 simp only [Try.ntmps167, ez, Nat.reduceAdd, Nat.reduceSub]
 have hmn := @By Try.prog
 refine Ae ?_
 have hmin : min (m : Int) 64 = ((min m 64 : Nat) : Int) := by omega
 rw [hmin]
 have hxl : min m 64 <= tcap := by omega
 generalize min m 64 = x at hxl ⊢
 have hi := Option.some_get (show (Try.prog.info? 184).isSome = true by kernel_rfl)
 have hs := fun w => (run_sl_of hu53 hi.symm tb m tcap x hxl w #[]).1
 have hse := fun w es => (run_sl_of hu53 hi.symm tb m tcap x hxl w es).2
 clear hi
 refine Ae ?_
 exact Ar rfl rfl Try.func167 rfl fun d => ⟨by simp, d, rfl⟩
end
noncomputable def reg126_0 := rk Try.f126.body 0
noncomputable def reg126_1 := rk Try.f126.body 1
noncomputable def reg126_2 := rk Try.f126.body 2
noncomputable def reg126_3 := rk Try.f126.body 3
noncomputable def reg126_4 := rk Try.f126.body 4
noncomputable def reg126_5 := rk Try.f126.body 5
noncomputable def reg126_6 := rk Try.f126.body 6
noncomputable def reg126_7 := rk Try.f126.body 7
noncomputable def reg126_8 := rk Try.f126.body 8
noncomputable def reg126_9 := rk Try.f126.body 9
noncomputable def reg126_10 := rk Try.f126.body 10
theorem size126_10 : reg126_10.size = 4 := by kernel_rfl
theorem z126 : reg126_0.size = 3 /\ reg126_1.size = 3 /\ reg126_2.size = 5 /\ reg126_3.size = 4 /\ reg126_4.size = 3 /\ reg126_5.size = 1 /\ reg126_6.size = 7 /\ reg126_7.size = 6 /\ reg126_8.size = 5 /\ reg126_9.size = 2 /\ reg126_10.size = 4 := by and_intros <;> kernel_rfl
theorem code126_is : Try.f126.body = some (.seq (.region 0 reg126_0 false) (.seq (.region 1 reg126_1 false) (.seq (.region 2 reg126_2 false) (.seq (.region 3 reg126_3 false) (.seq (.seq (.region 4 reg126_4 false) (.block 0 (.loop (.seq (.region 5 reg126_5 false) (.seq (.cond (.tmp 21 ) (.skip) (.exit 0)) (.seq (.block 1 (.seq (.region 6 reg126_6 false) (.seq (.region 7 reg126_7 false) (.region 8 reg126_8 false)))) (.region 9 reg126_9 false))))))) (.seq (.region 10 reg126_10 true) (.ret))))))) := by kernel_rfl
def Ng (N i : Nat) : Value := .func (.func 165) #[] #[.pointer (some ⟨N + 5 + 2 * i, 0, none⟩), .pointer (some ⟨N + 2, 0, none⟩), .pointer (some ⟨N + 4 + 2 * i, 0, none⟩), .pointer (some ⟨N, 0, none⟩)]
structure MkO (N n : Nat) (dv : Value) (oa : Nat -> Option Addr) (ln oc : Nat -> Nat) (w0 w : World) (i : Nat) : Prop where
 size : w.heap.size = N + 4 + 2 * i
 old : ∀ b, b < N -> w.heap[b]? = w0.heap[b]?
 cD : w.heap[N]? = some (.cells #[dv] 151)
 cN : w.heap[N + 1]? = some (.cells (madeCells #[.slice none 0 0] n) 40)
 cA : w.heap[N + 2]? = some (.cells #[.slice (some ⟨N + 1, 0, none⟩) n n] 29)
 cF : ∃ arr : Array Value, w.heap[N + 3]? = some (.cells arr 184) /\ arr.size = n /\ ∀ j, j < i -> arr[j]? = some (Ng N j)
 cI : ∀ j, j < i -> w.heap[N + 4 + 2 * j]? = some (.cells #[.int .i64 (j : Nat)] 3)
 cO : ∀ j, j < i -> w.heap[N + 5 + 2 * j]? = some (.cells #[.slice (oa j) (min (ln j) 65536) (oc j)] 22)
theorem MkO.at {N n : Nat} {dv : Value} {oa : Nat -> Option Addr} {ln oc : Nat -> Nat} {w0 w : World} {i : Nat} (h : MkO N n dv oa ln oc w0 w i) (d : Nat) : MkO N n dv oa ln oc w0 (w.at d) i := ⟨h.size, h.old, h.cD, h.cN, h.cA, h.cF, h.cI, h.cO⟩
section
variable {P : Program} {t e : TypeId} {ti : TypeInfo}
theorem Iu (hu : P.underlying t = some (.slice e)) (hi : P.info? e = some ti) (a : Option Addr) (m cap x : Nat) (hx : x <= cap) (ha : a = none /\ cap = 0 ∨ ∃ p, a = some p) (w : World) (es : Array Event) : (Instr.sliceAt t (.slice a m cap) none (some (.int .i64 x)) none).run P w = .ok (.slice a x cap) w /\
  (Instr.sliceAt t (.slice a m cap) none (some (.int .i64 x)) none).events P w es = es := by
 have h1 : (x : Int) <= cap := by omega
 rcases ha with ⟨rfl, rfl⟩ | ⟨p, rfl⟩
 ·have : x = 0 := by omega
  subst this
  constructor <;> simp [Instr.sliceAt, Instr.slice, run_underlying hu, Instr.sliceBounds, Instr.sliceBound, asIntOf, sizeOf, typeInfo, hi]
 ·constructor <;> simp [Instr.sliceAt, Instr.slice, run_underlying hu, Instr.sliceBounds, Instr.sliceBound, asIntOf, sizeOf, typeInfo, hi, h1, hx, Addr.add]
end
theorem huOps : Try.prog.underlying 22 = some (.slice 45) := by kernel_rfl
noncomputable def hd46 (dv : Value) (ta : Option Addr) (tc N n j : Nat) (u : Nat -> Value) : Frame :=
 (base 126).at { tmps := #[.slice ta n tc, dv, u 2, .pointer (some ⟨N, 0, none⟩), u 4, u 5, .pointer (some ⟨N + 2, 0, none⟩), .slice (some ⟨N + 3, 0, none⟩) n n, u 8, u 9, u 10, u 11, u 12, u 13, u 14, u 15, u 16, u 17, .slice ta n tc, .int .i64 n, .int .i64 j, u 21, u 22, u 23, u 24, u 25, u 26, u 27, u 28, u 29, u 30, u 31, u 32, u 33, u 34, u 35, u 36], defers := [] } [.code (.seq (.region 5 reg126_5 false) (.seq (.cond (.tmp 21 ) (.skip) (.exit 0)) (.seq (.block 1 (.seq (.region 6 reg126_6 false) (.seq (.region 7 reg126_7 false) (.region 8 reg126_8 false)))) (.region 9 reg126_9 false)))), .inLoop (.seq (.region 5 reg126_5 false) (.seq (.cond (.tmp 21 ) (.skip) (.exit 0)) (.seq (.block 1 (.seq (.region 6 reg126_6 false) (.seq (.region 7 reg126_7 false) (.region 8 reg126_8 false)))) (.region 9 reg126_9 false)))), .inBlock 0, .code (.seq (.region 10 reg126_10 true) (.ret))]
section
variable {main : Bool} {V : Nat -> Option Wait}
theorem madeCells_get (v : Value) (n i : Nat) (hi : i < n) : (madeCells #[v] n)[i]? = some v := by
 have : (madeCells #[v] n)[i]? = (madeCells #[v] n).toList[i]? := by simp
 rw [this, toList_madeCells_one, List.getElem?_replicate, if_pos hi]
theorem Fp (v : Value) (n : Nat) : (madeCells #[v] n).size = n := by
 rw [<- Array.length_toList, toList_madeCells_one, List.length_replicate]
theorem opThreads_in (fdo : FuncId) (first cap : Array Value) (tv : Value) (ta : Option Addr) (tc n : Nat) (hn : n <= 64) (cs : List Frame) (w : World) (hA : ∀ b, w.heap.size <= b -> Az V b)
  (hp : ∀ w' : World, (∀ b, b < w.heap.size -> w'.heap[b]? = w.heap[b]?) -> Aw Try.prog main V 164 #[tv] w' (.slice ta n tc) w') (oa : Nat -> Option Addr) (ln oc : Nat -> Nat) :
  Walk Try.prog main (DR V) (fun g w' => (∃ u, g = G (hd46 (.func (.func fdo) first cap) ta tc w.heap.size n 0 u) cs) /\ MkO w.heap.size n (.func (.func fdo) first cap) oa ln oc w w' 0) (G (Frame.enter Try.prog 126 #[tv, .func (.func fdo) first cap] .normal) cs) w := by
 have hi1 := Option.some_get (show (Try.prog.info? 40).isSome = true by kernel_rfl)
 have hi2 := Option.some_get (show (Try.prog.info? 184).isSome = true by kernel_rfl)
 rw [enter_at _ Try.func126 code126_is]
 simp only [Try.ntmps126, ez, Nat.reduceAdd, Nat.reduceSub]
 refine Aa z126 ?_
 (refine Wa ?_; try walk_nrm)
 have s1 : (w.alloc (.cells #[.func (.func fdo) first cap] 151)).heap.size = w.heap.size + 1 := by simp
 have o1 : ∀ b, b < w.heap.size -> (w.alloc (.cells #[.func (.func fdo) first cap] 151)).heap[b]? = w.heap[b]? := fun b hb => Ad _ _ hb
 have d1 := hAw w (.cells #[.func (.func fdo) first cap] 151)
 generalize hN : w.heap.size = N at *
 generalize w.alloc (.cells #[.func (.func fdo) first cap] 151) = w1 at *
 refine Aa z126 ?_
 refine qV (x := .slice ta n tc) (W := w1) Try.func164 ?_ ?_
 ·walk_nrm
  exact hp w1 o1
 walk_nrm
 refine Aa z126 ?_
 refine Fj 29 (.tmp 13) (.tmp 13) Ah (by rfl) (by decide) rfl 40 _ (.slice none 0 0) 1 24 (by kernel_rfl) hi1.symm (by rfl) (by rfl) (by rfl) n (by rfl) (by rfl) (by omega) (by omega) ?_
 walk_nrm
 simp only [Value.cells, Nat.mul_one]
 have s2 : (w1.alloc (.cells (madeCells #[.slice none 0 0] n) 40)).heap.size = N + 2 := by simp [s1]
 have o2 : ∀ b, b < N + 1 -> (w1.alloc (.cells (madeCells #[.slice none 0 0] n) 40)).heap[b]? = w1.heap[b]? := fun b hb => Ad _ _ (by omega)
 have d2 := hAw w1 (.cells (madeCells #[.slice none 0 0] n) 40)
 rw [s1] at d2
 try simp only [s1]
 generalize w1.alloc (.cells (madeCells #[.slice none 0 0] n) 40) = w2 at *
 (refine Wa ?_; try walk_nrm)
 have s3 : (w2.alloc (.cells #[.slice none 0 0] 29)).heap.size = N + 3 := by simp [s2]
 have o3 : ∀ b, b < N + 2 -> (w2.alloc (.cells #[.slice none 0 0] 29)).heap[b]? = w2.heap[b]? := fun b hb => Ad _ _ (by omega)
 have d3 := hAw w2 (.cells #[.slice none 0 0] 29)
 rw [s2] at d3
 try simp only [s2]
 generalize w2.alloc (.cells #[.slice none 0 0] 29) = w3 at *
 have c3 := (Ab d3 0).trans rfl
 have z3 := Av d3 0
 have f3 := (hA (N + 2) (by omega)).1 ⟨N + 2, 0, none⟩ rfl
 (refine Ws f3 c3 ?_; try walk_nrm)
 have s4 := Ai w3 ⟨N + 2, 0, none⟩ (.slice (some ⟨N + 1, 0, none⟩) n n)
 have o4 : ∀ b, b ≠ N + 2 -> (w3.setCell ⟨N + 2, 0, none⟩ (.slice (some ⟨N + 1, 0, none⟩) n n)).heap[b]? = w3.heap[b]? := fun b hb => Ac _ _ _ _ hb
 have d4 : (w3.setCell ⟨N + 2, 0, none⟩ (.slice (some ⟨N + 1, 0, none⟩) n n)).heap[N + 2]? = some (.cells #[.slice (some ⟨N + 1, 0, none⟩) n n] 29) := by
  rw [Ao _ _ d3]
  simp
 rw [s3] at s4
 clear c3 z3 f3
 generalize w3.setCell ⟨N + 2, 0, none⟩ (.slice (some ⟨N + 1, 0, none⟩) n n) = w4 at *
 refine Aa z126 ?_
 refine Fj 201 (.tmp 16) (.tmp 16) Ah (by rfl) (by decide) rfl 184 _ .nilFunc 1 8 (by kernel_rfl) hi2.symm (by rfl) (by rfl) (by rfl) n (by rfl) (by rfl) (by omega) (by omega) ?_
 walk_nrm
 simp only [Value.cells, Nat.mul_one]
 have s5 : (w4.alloc (.cells (madeCells #[.nilFunc] n) 184)).heap.size = N + 4 := by simp [s4]
 have o5 : ∀ b, b < N + 3 -> (w4.alloc (.cells (madeCells #[.nilFunc] n) 184)).heap[b]? = w4.heap[b]? := fun b hb => Ad _ _ (by omega)
 have d5 := hAw w4 (.cells (madeCells #[.nilFunc] n) 184)
 rw [s4] at d5
 try simp only [s4]
 generalize w4.alloc (.cells (madeCells #[.nilFunc] n) 184) = w5 at *
 refine Aa z126 ?_
 refine cLp ?_
 refine .stop fun d => ⟨Ak ?_, MkO.at ⟨by omega, fun b hb => ?_, ?_, ?_, ?_, ⟨_, d5, Fp _ _, fun j hj => absurd hj (Nat.not_lt_zero _)⟩, fun j hj => absurd hj (Nat.not_lt_zero _), fun j hj => absurd hj (Nat.not_lt_zero _)⟩ d⟩
 ·simp only [hd46]
  rfl
 ·rw [o5 b (by omega), o4 b (by omega), o3 b (by omega), o2 b (by omega), o1 b hb]
 ·rw [o5 N (by omega), o4 N (by omega), o3 N (by omega), o2 N (by omega), d1]
 ·rw [o5 _ (by omega), o4 _ (by omega), o3 _ (by omega), d2]
 ·rw [o5 _ (by omega), d4]
end
section
variable {main : Bool} {V : Nat -> Option Wait}
structure OpsIn (tb toff n : Nat) (oa : Nat -> Option Addr) (ln oc : Nat -> Nat) (ops : Nat -> List OpV) (w : World) : Prop where
 hd : ∀ i, i < n -> w.cell? ⟨tb, toff + i, none⟩ = some (.slice (oa i) (ln i) (oc i))
 cap : ∀ i, i < n -> ln i <= oc i
 ad : ∀ i, i < n -> (oa i = none /\ oc i = 0) ∨ ∃ p, oa i = some p
 len : ∀ i, i < n -> (ops i).length = min (ln i) 65536
 ops : ∀ i, i < n -> ∀ (j : Nat) (o : OpV), (ops i)[j]? = some o -> ∃ b off, oa i = some ⟨b, off, none⟩ /\ w.cell? ⟨b, off + j * 4, none⟩ = some (.int .i64 o.k) /\ w.cell? ⟨b, off + j * 4 + 1, none⟩ = some (.int .i64 o.a) /\ w.cell? ⟨b, off + j * 4 + 2, none⟩ = some (.int .i64 o.b) /\ w.cell? ⟨b, off + j * 4 + 3, none⟩ = some (.int .i64 o.c)
theorem opThreads_go (dv : Value) (tb toff tc N n i : Nat) (hn : n <= 64) (hi : i < n) (oa : Nat -> Option Addr) (ln oc : Nat -> Nat) (u : Nat -> Value) (cs : List Frame) (w0 w : World) (hN : w0.heap.size = N) (M : MkO N n dv oa ln oc w0 w i) (hA : ∀ b, N <= b -> Az V b)
  (hh : w0.cell? ⟨tb, toff + i, none⟩ = some (.slice (oa i) (ln i) (oc i))) (hcap : ln i <= oc i) (had : (oa i = none /\ oc i = 0) ∨ ∃ p, oa i = some p) :
  Walk Try.prog main (DR V) (fun g w' => (∃ u, g = G (hd46 dv (some ⟨tb, toff, none⟩) tc N n (i + 1) u) cs) /\ MkO N n dv oa ln oc w0 w' (i + 1)) (G (hd46 dv (some ⟨tb, toff, none⟩) tc N n i u) cs) w := by
 have hmn := @By Try.prog
 have hiOp := Option.some_get (show (Try.prog.info? 45).isSome = true by kernel_rfl)
 have hx : w.cell? ⟨tb, toff + i, none⟩ = some (.slice (oa i) (ln i) (oc i)) := (cBk (a := ⟨tb, toff + i, none⟩) (M.old tb (by have := Al hh; omega))).trans hh
 obtain ⟨arr, c5, hsz, hF⟩ := M.cF
 have hs := M.size
 have hi0 : (0 : Int) <= i := by omega
 have hi1 : decide ((i : Int) < n) = true := by simp; omega
 have hi2 : decide (n <= i) = false := by simp; omega
 have hi3 : decide (i < n) = true := by simp; omega
 have hw1 := wI ((i : Int) + 1)
 unfold hd46
 refine Aa z126 ?_
 (refine Wa ?_; try walk_nrm)
 have s1 : (w.alloc (.cells #[.int .i64 0] 3)).heap.size = N + 5 + 2 * i := by simp [hs]; omega
 have d1 : (w.alloc (.cells #[.int .i64 0] 3)).heap[N + 4 + 2 * i]? = some (.cells #[.int .i64 0] 3) := hs ▸ hAw w (.cells #[.int .i64 0] 3)
 have o1 : ∀ b, b < N + 4 + 2 * i -> (w.alloc (.cells #[.int .i64 0] 3)).heap[b]? = w.heap[b]? := fun b hb => Ad _ _ (by omega)
 try simp only [hs]
 generalize w.alloc (.cells #[.int .i64 0] 3) = w1 at *
 (refine Wa ?_; try walk_nrm)
 have s2 : (w1.alloc (.cells #[.slice none 0 0] 22)).heap.size = N + 6 + 2 * i := by simp [s1]; omega
 have d2 : (w1.alloc (.cells #[.slice none 0 0] 22)).heap[N + 5 + 2 * i]? = some (.cells #[.slice none 0 0] 22) := s1 ▸ hAw w1 (.cells #[.slice none 0 0] 22)
 have o2 : ∀ b, b < N + 5 + 2 * i -> (w1.alloc (.cells #[.slice none 0 0] 22)).heap[b]? = w1.heap[b]? := fun b hb => Ad _ _ (by omega)
 try simp only [s1]
 generalize w1.alloc (.cells #[.slice none 0 0] 22) = w2 at *
 have d1' := (o2 (N + 4 + 2 * i) (by omega)).trans d1
 have c1 := (Ab d1' 0).trans rfl
 have z1 := Av d1' 0
 have f1 := (hA (N + 4 + 2 * i) (by omega)).1 ⟨N + 4 + 2 * i, 0, none⟩ rfl
 (refine Ws f1 c1 ?_; try walk_nrm)
 have s3 := Ai w2 ⟨N + 4 + 2 * i, 0, none⟩ (.int .i64 (i : Nat))
 have o3 : ∀ b, b ≠ N + 4 + 2 * i -> (w2.setCell ⟨N + 4 + 2 * i, 0, none⟩ (.int .i64 (i : Nat))).heap[b]? = w2.heap[b]? := fun b hb => Ac _ _ _ _ hb
 have d3 : (w2.setCell ⟨N + 4 + 2 * i, 0, none⟩ (.int .i64 (i : Nat))).heap[N + 4 + 2 * i]? = some (.cells #[.int .i64 (i : Nat)] 3) := by
  rw [Ao _ _ d1']
  simp
 clear c1 z1 f1
 generalize w2.setCell ⟨N + 4 + 2 * i, 0, none⟩ (.int .i64 (i : Nat)) = w3 at *
 have d2' := (o3 (N + 5 + 2 * i) (by omega)).trans d2
 have c2 := (Ab d2' 0).trans rfl
 have z2 := Av d2' 0
 have f2 := (hA (N + 5 + 2 * i) (by omega)).1 ⟨N + 5 + 2 * i, 0, none⟩ rfl
 (refine Ws f2 c2 ?_; try walk_nrm)
 have s4 := Ai w3 ⟨N + 5 + 2 * i, 0, none⟩ (.slice (oa i) (ln i) (oc i))
 have o4 : ∀ b, b ≠ N + 5 + 2 * i -> (w3.setCell ⟨N + 5 + 2 * i, 0, none⟩ (.slice (oa i) (ln i) (oc i))).heap[b]? = w3.heap[b]? := fun b hb => Ac _ _ _ _ hb
 have d4 : (w3.setCell ⟨N + 5 + 2 * i, 0, none⟩ (.slice (oa i) (ln i) (oc i))).heap[N + 5 + 2 * i]? = some (.cells #[.slice (oa i) (ln i) (oc i)] 22) := by
  rw [Ao _ _ d2']
  simp
 clear c2 z2
 generalize w3.setCell ⟨N + 5 + 2 * i, 0, none⟩ (.slice (oa i) (ln i) (oc i)) = w4 at *
 have c4 := (Ab d4 0).trans rfl
 have z4 := Av d4 0
 refine Aa z126 ?_
 have hmin : min (ln i : Int) 65536 = ((min (ln i) 65536 : Nat) : Int) := by omega
 try rw [hmin]
 have hxl : min (ln i) 65536 <= oc i := by omega
 generalize hxx : min (ln i) 65536 = x at hxl ⊢
 have hsl := fun w => (Iu huOps hiOp.symm (oa i) (ln i) (oc i) x hxl (by rcases had with h | h; exact .inl h; exact .inr h) w #[]).1
 have hse := fun w es => (Iu huOps hiOp.symm (oa i) (ln i) (oc i) x hxl (by rcases had with h | h; exact .inl h; exact .inr h) w es).2
 refine Aa z126 ?_
 (refine Ws f2 c4 ?_; try walk_nrm)
 have s5 := Ai w4 ⟨N + 5 + 2 * i, 0, none⟩ (.slice (oa i) x (oc i))
 have o5 : ∀ b, b ≠ N + 5 + 2 * i -> (w4.setCell ⟨N + 5 + 2 * i, 0, none⟩ (.slice (oa i) x (oc i))).heap[b]? = w4.heap[b]? := fun b hb => Ac _ _ _ _ hb
 have d5 : (w4.setCell ⟨N + 5 + 2 * i, 0, none⟩ (.slice (oa i) x (oc i))).heap[N + 5 + 2 * i]? = some (.cells #[.slice (oa i) x (oc i)] 22) := by
  rw [Ao _ _ d4]
  simp
 clear c4 z4 hsl hse hmn
 generalize w4.setCell ⟨N + 5 + 2 * i, 0, none⟩ (.slice (oa i) x (oc i)) = w5 at *
 have d3' := (o5 (N + 4 + 2 * i) (by omega)).trans ((o4 (N + 4 + 2 * i) (by omega)).trans d3)
 have c3 := (Ab d3' 0).trans rfl
 have old5 : ∀ b, b < N + 4 + 2 * i -> w5.heap[b]? = w.heap[b]? := fun b hb => by rw [o5 b (by omega), o4 b (by omega), o3 b (by omega), o2 b (by omega), o1 b hb]
 have e5 := (old5 (N + 3) (by omega)).trans c5
 have hil : i < arr.size := by omega
 have c6 := (Ab e5 i).trans (Array.getElem?_eq_getElem hil)
 have z6 := Av e5 i
 have f6 := (hA (N + 3) (by omega)).1 ⟨N + 3, i, none⟩ rfl
 have hst : ∀ d, (store ⟨N + 3, i, none⟩ (Ng N i)).run Try.prog (w5.at d) = .ok () ((w5.setCell ⟨N + 3, i, none⟩ (Ng N i)).at d) := fun d => by
  have hy' : (w5.at d).cell? ⟨N + 3, i, none⟩ = some arr[i] := c6
  have hz' : (w5.at d).frozen? ⟨N + 3, i, none⟩ = false := z6
  rw [run_store Try.prog (w5.at d) _ _ _ rfl, hy']
  simp only [hz', Bool.false_eq_true, if_false]
  rfl
 have hse : ∀ d es, (store ⟨N + 3, i, none⟩ (Ng N i)).events Try.prog (w5.at d) es = es.push ⟨.cell ⟨N + 3, i, none⟩, true, false⟩ := fun d es => by
  have hy' : (w5.at d).cell? ⟨N + 3, i, none⟩ = some arr[i] := c6
  have hz' : (w5.at d).frozen? ⟨N + 3, i, none⟩ = false := z6
  rw [events_store Try.prog (w5.at d) es _ _ _ rfl, hy']
  simp only [hz', Bool.false_eq_true, if_false]
  rfl
 simp only [Ng] at hst hse
 refine Aa z126 ?_
 refine Kt (W := w5.setCell ⟨N + 3, i, none⟩ (Ng N i)) Ah (by rfl) (by decide) (fun dd e he => ?_) (fun dd es hes => Qo f6 c6 dd es hes) (fun dd K hK => ?_)
 ·simp [go_sem, storedEv, *] at he
  subst he
  exact Jb _ _ f6
 ·have e6 : (w5.setCell ⟨N + 3, i, none⟩ (Ng N i)).heap[N + 3]? = some (.cells (arr.setIfInBounds i (Ng N i)) 184) := Ao _ _ e5
  have o6 : ∀ b, b ≠ N + 3 -> (w5.setCell ⟨N + 3, i, none⟩ (Ng N i)).heap[b]? = w5.heap[b]? := fun b hb => Ac _ _ _ _ hb
  have s6 := Ai w5 ⟨N + 3, i, none⟩ (Ng N i)
  go_simp
  try rw [hst dd]
  refine hK _ ?_
  clear hK K hst hse
  try walk_nrm
  refine Aa z126 ?_
  refine cIL ?_
  refine .stop fun d' => ⟨Ak ?_, MkO.at ⟨by omega, fun b hb => ?_, ?_, ?_, ?_, ⟨_, e6, by simp [hsz], fun j hj => ?_⟩, fun j hj => ?_, fun j hj => ?_⟩ d'⟩
  ·have hc : ((i + 1 : Nat) : Int) = (i : Int) + 1 := by simp
   simp only [hd46, hc]
   rfl
  ·rw [o6 b (by omega), old5 b (by omega)]; exact M.old b hb
  ·rw [o6 _ (by omega), old5 _ (by omega)]; exact M.cD
  ·rw [o6 _ (by omega), old5 _ (by omega)]; exact M.cN
  ·rw [o6 _ (by omega), old5 _ (by omega)]; exact M.cA
  ·by_cases h : j = i
   ·subst h
    exact Array.getElem?_setIfInBounds_self_of_lt hil
   ·rw [Array.getElem?_setIfInBounds_ne (Ne.symm h)]
    exact hF j (by omega)
  ·by_cases h : j = i
   ·subst h
    rw [o6 _ (by omega)]; exact d3'
   ·rw [o6 _ (by omega), old5 _ (by omega)]; exact M.cI j (by omega)
  ·by_cases h : j = i
   ·subst h
    rw [o6 _ (by omega), hxx]; exact d5
   ·rw [o6 _ (by omega), old5 _ (by omega)]; exact M.cO j (by omega)
theorem opThreads_out (dv : Value) (ta : Option Addr) (tc N n : Nat) (u : Nat -> Value) (c : Frame) (cs : List Frame) (w : World) (hA2 : w.cell? ⟨N + 2, 0, none⟩ = some (.slice (some ⟨N + 1, 0, none⟩) n n)) :
  Walk Try.prog main (DR V) (fun g w' => g = G (c.finish (.tuple #[.slice (some ⟨N + 3, 0, none⟩) n n, .slice (some ⟨N + 1, 0, none⟩) n n])) cs /\ ∃ d, w' = w.at d) (G (hd46 dv ta tc N n n u) (c :: cs)) w := by
 unfold hd46
 refine Aa z126 ?_
 (refine Ku (by kernel_rfl) size126_10 (by kernel_rfl) (by kernel_rfl) (by decide) ?_; simp only [List.range, List.range.loop]; repeat (first | (refine cQ ?_) | (refine Be Ah (by rfl) ?_; walk_nrm)))
 refine cDn ?_
 refine Aa z126 ?_
 refine Cb rfl rfl Try.func126 rfl (.stop fun d => ⟨rfl, d, rfl⟩)
end
section
variable {main : Bool} {V : Nat -> Option Wait}
theorem opThreads_w (fdo : FuncId) (first cap : Array Value) (tv : Value) (ta : Option Addr) (tb toff tc n : Nat) (hta : 0 < n -> ta = some ⟨tb, toff, none⟩) (hn : n <= 64) (oa : Nat -> Option Addr) (ln oc : Nat -> Nat) (ops : Nat -> List OpV) (w : World) (I : OpsIn tb toff n oa ln oc ops w) (hA : ∀ b, w.heap.size <= b -> Az V b)
  (hp : ∀ w' : World, (∀ b, b < w.heap.size -> w'.heap[b]? = w.heap[b]?) -> Aw Try.prog main V 164 #[tv] w' (.slice ta n tc) w') :
  CallW Try.prog main V 126 #[tv, .func (.func fdo) first cap] w (fun v w' => v = .tuple #[.slice (some ⟨w.heap.size + 3, 0, none⟩) n n, .slice (some ⟨w.heap.size + 1, 0, none⟩) n n] /\ MkO w.heap.size n (.func (.func fdo) first cap) oa ln oc w w' n) := by
 intro c cs
 refine (opThreads_in fdo first cap tv ta tc n hn (c :: cs) w hA hp oa ln oc).then ?_
 rintro g w1 ⟨⟨u, rfl⟩, M⟩
 have loop : ∀ (r i : Nat) (u : Nat -> Value) (w1 : World), i + r = n -> MkO w.heap.size n (.func (.func fdo) first cap) oa ln oc w w1 i ->
   Walk Try.prog main (DR V) (fun g w' => ∃ v, (v = .tuple #[.slice (some ⟨w.heap.size + 3, 0, none⟩) n n, .slice (some ⟨w.heap.size + 1, 0, none⟩) n n] /\ MkO w.heap.size n (.func (.func fdo) first cap) oa ln oc w w' n) /\ g = G (c.finish v) cs) (G (hd46 (.func (.func fdo) first cap) ta tc w.heap.size n i u) (c :: cs)) w1 := by
  intro r
  induction r with
  | zero =>
   intro i u w1 hi M
   obtain rfl : i = n := hi
   refine (opThreads_out _ ta tc w.heap.size i u c cs w1 ((Ab M.cA 0).trans rfl)).mono ?_
   rintro g w' ⟨rfl, d, rfl⟩
   exact ⟨_, ⟨rfl, M.at d⟩, rfl⟩
  | succ r ih =>
   intro i u w1 hi M
   have hin : i < n := by omega
   obtain rfl := hta (by omega)
   refine (opThreads_go _ tb toff tc w.heap.size n i hn hin oa ln oc u (c :: cs) w w1 rfl M hA (I.hd i hin) (I.cap i hin) (I.ad i hin)).then ?_
   rintro g w' ⟨⟨u', rfl⟩, M'⟩
   exact ih (i + 1) u' w' (by omega) M'
 exact loop n 0 u w1 (by omega) M
noncomputable def reg76_0 := rk Try.f76.body 0
noncomputable def reg76_1 := rk Try.f76.body 1
noncomputable def reg76_2 := rk Try.f76.body 2
noncomputable def reg76_3 := rk Try.f76.body 3
theorem z76 : reg76_0.size = 1 /\ reg76_1.size = 8 /\ reg76_2.size = 11 /\ reg76_3.size = 5 := by and_intros <;> kernel_rfl
theorem code76_is : Try.f76.body = some (.seq (.region 0 reg76_0 false) (.seq (.region 1 reg76_1 false) (.seq (.region 2 reg76_2 false) (.seq (.region 3 reg76_3 false) (.ret))))) := by kernel_rfl
def OpsBack (main : Bool) (V : Nat -> Option Wait) (T A n : Nat) (fr c : Frame) (cs : List Frame) : Prop := ∀ (oo : Option Addr) (ol ok : Nat) (bv : Value) (stuck : Bool) (w : World), w.heap[T]? = some (.cells #[.slice none 0 0, .slice none 0 0, .slice none 0 0, .bool false] 33) -> Az V T ->
 Walk Try.prog main (DR V) (fun g w' => g = G (c.finish (.agg #[.slice (some ⟨A, 0, none⟩) n n, .slice oo ol ok, .slice none 0 0, .bool stuck])) cs /\ ∃ d, w' = (w.setRow T #[.slice (some ⟨A, 0, none⟩) n n, .slice oo ol ok, .slice none 0 0, .bool stuck]).at d) (G (fr.finish (.tuple #[.slice oo ol ok, .bool stuck, bv])) (c :: cs)) w
theorem ops_in (fdo : FuncId) (first cap : Array Value) (tv sv : Value) (most : Int) (ta : Option Addr) (tb toff tc n : Nat) (hta : 0 < n -> ta = some ⟨tb, toff, none⟩) (hn : n <= 64) (oa : Nat -> Option Addr) (ln oc : Nat -> Nat) (ops : Nat -> List OpV) (c : Frame) (cs : List Frame) (w : World) (I : OpsIn tb toff n oa ln oc ops w) (hA : ∀ b, w.heap.size <= b -> Az V b)
  (hp : ∀ w' : World, (∀ b, b < w.heap.size -> w'.heap[b]? = w.heap[b]?) -> Aw Try.prog main V 164 #[tv] w' (.slice ta n tc) w') :
  Walk Try.prog main (DR V) (fun g w' => ∃ fr w1, g = G (Frame.enter Try.prog 127 #[.slice (some ⟨w.heap.size + 4, 0, none⟩) n n, sv, .int .i64 most] .normal) (fr :: c :: cs) /\ (∀ b, b < w.heap.size -> w1.heap[b]? = w.heap[b]?) /\ w1.heap.size = w.heap.size + 1 /\ w1.heap[w.heap.size]? = some (.cells #[.slice none 0 0, .slice none 0 0, .slice none 0 0, .bool false] 33) /\ MkO (w.heap.size + 1) n (.func (.func fdo) first cap) oa ln oc w1 w' n /\ OpsBack main V w.heap.size (w.heap.size + 2) n fr c cs)
   (G (Frame.enter Try.prog 76 #[tv, .func (.func fdo) first cap, sv, .int .i64 most] .normal) (c :: cs)) w := by
 rw [enter_at _ Try.func76 code76_is]
 simp only [Try.ntmps76, ez, Nat.reduceAdd, Nat.reduceSub]
 refine Aa z76 ?_
 (refine Wa ?_; try walk_nrm)
 have s1 : (w.alloc (.cells #[.slice none 0 0, .slice none 0 0, .slice none 0 0, .bool false] 33)).heap.size = w.heap.size + 1 := by simp
 have o1 : ∀ b, b < w.heap.size -> (w.alloc (.cells #[.slice none 0 0, .slice none 0 0, .slice none 0 0, .bool false] 33)).heap[b]? = w.heap[b]? := fun b hb => Ad _ _ hb
 have d1 := hAw w (.cells #[.slice none 0 0, .slice none 0 0, .slice none 0 0, .bool false] 33)
 generalize hN : w.heap.size = T at *
 generalize w.alloc (.cells #[.slice none 0 0, .slice none 0 0, .slice none 0 0, .bool false] 33) = w1 at *
 have I1 : OpsIn tb toff n oa ln oc ops w1 := by
  have hc : ∀ {b j : Nat} {v : Value}, w.cell? ⟨b, j, none⟩ = some v -> w1.cell? ⟨b, j, none⟩ = some v := fun {b j v} h => (cBk (a := ⟨b, j, none⟩) (o1 b (hN ▸ Al h))).trans h
  exact ⟨fun i hi => hc (I.hd i hi), I.cap, I.ad, I.len, fun i hi j o ho => by
   obtain ⟨b, off, e, c0, c1, c2, c3⟩ := I.ops i hi j o ho
   exact ⟨b, off, e, hc c0, hc c1, hc c2, hc c3⟩⟩
 refine Aa z76 ?_
 refine qW (Post := fun v w' => v = .tuple #[.slice (some ⟨w1.heap.size + 3, 0, none⟩) n n, .slice (some ⟨w1.heap.size + 1, 0, none⟩) n n] /\ MkO w1.heap.size n (.func (.func fdo) first cap) oa ln oc w1 w' n) Try.func126 ?_ ?_
 ·walk_nrm
  exact opThreads_w fdo first cap tv ta tb toff tc n hta hn oa ln oc ops w1 I1 (fun b hb => hA b (by omega)) (fun w' hw' => hp w' fun b hb => (hw' b (by omega)).trans (o1 b hb))
 rintro v w2 ⟨rfl, M⟩
 rw [s1] at M ⊢
 walk_nrm
 refine Aa z76 ?_
 refine Walk.callE Ah (by rfl) (by decide) rfl Try.func127 (by kernel_rfl) (by rfl) ?_
 walk_nrm
 refine .stop fun d => ⟨_, w1, rfl, o1, s1, d1, M.at d, ?_⟩
 intro oo ol ok bv stuck w3 hT hap
 refine Walk.finish Ah ?_
 walk_nrm
 refine Aa z76 ?_
 refine Am 33 (.tmp 8) (.tmp 31) Ah (by rfl) (by decide) rfl T #[.slice (some ⟨T + 2, 0, none⟩) n n, .slice oo ol ok, .slice none 0 0, .bool stuck] _ 33 rfl rfl hT (by kernel_rfl) (by rfl) (by simp [Value.oneCell']) hap ?_
 have c9 := Ba (cells := #[.slice (some ⟨T + 2, 0, none⟩) n n, .slice oo ol ok, .slice none 0 0, .bool stuck]) hT
 walk_nrm
 refine Aa z76 ?_
 exact Bv (T := T) rfl rfl rfl Try.func76 rfl (by rfl) c9 (by kernel_rfl) (by kernel_rfl) (.stop fun d => ⟨rfl, d, rfl⟩)
end
structure Abs (X : Type) where
 n : Nat
 most : Int
 born : X -> Nat -> X
 next : X -> Nat -> X
 out : X -> Nat -> Option Bool
section
variable {X : Type}
def Do (C : Abs X) (x : X) : Nat := (List.range C.n).countP (fun i => (C.out x i).isNone)
def Bj (C : Abs X) (st : X × List Nat) : Bool := decide (Do C st.1 = 0) || decide (C.most <= st.2.length)
def Bb (C : Abs X) (st : X × List Nat) (z : Int) : X × List Nat :=
 if Bj C st = false /\ 0 <= z /\ z < C.n /\ C.out st.1 z.toNat = none then (C.next st.1 z.toNat, st.2 ++ [z.toNat]) else st
def El (C : Abs X) (st : X × List Nat) : X × List Nat := (List.range C.n).foldl (fun st i => Bb C st (i : Nat)) st
def Bz (C : Abs X) : Nat -> X × List Nat -> X × List Nat
 | 0, st => st
 | f + 1, st => if Bj C st then st else Bz C f (El C st)
def Kl (C : Abs X) (st : X × List Nat) (l : List Int) : X × List Nat := Bz C C.most.toNat (l.foldl (Bb C) st)
def Js (C : Abs X) : Nat -> Nat -> X -> X
 | 0, _, x => x
 | n + 1, k, x => Js C n (k + 1) (C.born x k)
def runA (C : Abs X) (x0 : X) (l : List Int) : X × List Nat := Kl C (Js C C.n 0 x0, []) l
def absOf {S : Stile} (C : Crew S X) : Abs X := ⟨S.n, S.most, C.born, C.next, C.out⟩
theorem rest_abs {S : Stile} (C : Crew S X) : ∀ (f : Nat) (st : X × List Nat), Ke C f st = Bz (absOf C) f st
 | 0, _ => rfl
 | f + 1, st => by
  unfold Ke Bz
  rw [rest_abs C f]
  rfl
theorem born_abs {S : Stile} (C : Crew S X) : ∀ (n k : Nat) (x : X), Jc C n k x = Js (absOf C) n k x
 | 0, _, _ => rfl
 | n + 1, k, x => by
  unfold Jc Js
  exact born_abs C n (k + 1) _
theorem follow_abs {S : Stile} (C : Crew S X) (st : X × List Nat) (l : List Int) : Ja C st l = Kl (absOf C) st l := by
 unfold Ja Kl
 rw [rest_abs]
 rfl
end
def Cc (L : La) (n : Nat) (most : Int) (ops : Nat -> List OpV) : Abs (OX L) := ⟨n, most, Kr ops, Cz, OX.out⟩
def Qv (L : La) (s0 : L.Sg) : OX L := ⟨s0, fun _ => t0 L, fun _ => none, 0⟩
def Ca (L : La) (s0 : L.Sg) (ops : Nat -> List OpV) (n : Nat) (most : Int) (sl : List Int) : OX L × List Nat := runA (Cc L n (min (max most 0) 1048576) ops) (Qv L s0) sl
def Du {L : La} (n : Nat) (x : OX L) : Bool := decide (0 < (List.range n).countP (fun i => (x.out i).isNone))
structure OpsAll (L : La) (y0 : L.Gh) (w w' : World) (n : Nat) (x : OX L) (ord : List Nat) (cells : Array Value) (y : L.Gh) (A : Nat) (oo : Option Addr) (ok : Nat) (hd : Nat -> Value) (own : Nat -> Nat -> Prop) : Prop where
 eq : cells = #[.slice (some ⟨A, 0, none⟩) n n, .slice oo ord.length ok, .slice none 0 0, .bool (Du n x)]
 orow : w'.ownsRow w.heap.size 3 1 (.slice oo ord.length ok) ord.length (ord.map fun i => .int .i64 (i : Nat))
 Alo : w.heap.size <= A
 heads : ∃ arr : Array Value, w'.heap[A]? = some (.cells arr 40) /\ arr.size = n /\ ∀ i, i < n -> arr[i]? = some (hd i)
 rows : ∀ i, i < n -> RowA w.heap.size (own i) (hd i) (x.th i).ans w'
 one : ∀ i j b, own i b -> own j b -> i = j
 ownA : ∀ i b, own i b -> b ≠ A /\ ¬ L.sh y b
 ownO : ∀ i b, own i b -> (Value.slice oo ord.length ok).ownBlock ≠ some b
 shA : ∀ b, L.sh y b -> b ≠ A /\ (Value.slice oo ord.length ok).ownBlock ≠ some b
 Aord : (Value.slice oo ord.length ok).ownBlock ≠ some A
 le : L.le y0 y
 I : L.I y x.s w'
 pub : ∀ b, L.sh y b -> b < w.heap.size -> L.sh y0 b
structure OpsOut (L : La) (y0 : L.Gh) (s0 : L.Sg) (ops : Nat -> List OpV) (n : Nat) (most : Int) (sl : List Int) (w w' : World) (cells : Array Value) : Prop where
 all : ∃ y A oo ok hd own, OpsAll L y0 w w' n (Ca L s0 ops n most sl).1 (Ca L s0 ops n most sl).2 cells y A oo ok hd own
 old : ∀ b, b < w.heap.size -> ¬ L.sh y0 b -> w'.heap[b]? = w.heap[b]?
 size : w.heap.size <= w'.heap.size
theorem Lc {w : World} {base base' : Nat} {e : TypeId} {size : Nat} {v : Value} {n : Nat} {xs : List Value} (h : w.ownsRow base e size v n xs) (hb : ∀ g, v.ownBlock = some g -> base' <= g) : w.ownsRow base' e size v n xs := by
 refine ⟨h.1, ?_⟩
 rcases h.2 with z | ⟨g, cap, cur, h0, h1, h2⟩
 ·exact .inl z
 ·exact .inr ⟨g, cap, cur, h0, hb g (by rw [h0]; rfl), h2⟩
section
variable {L : La} {fdo : FuncId} {first cap : Array Value}
theorem ops_run (hD : DoFn L fdo first cap) (y0 : L.Gh) (s0 : L.Sg) (tv : Value) (most : Int) (tb toff tc n : Nat) (hn1 : 1 <= n) (hn : n <= 64) (oa : Nat -> Option Addr) (ln oc : Nat -> Nat) (ops : Nat -> List OpV) (sa : Option Addr) (sc : Nat) (sl : List Int) (hsl : sl.length <= 17592186044416) (c : Frame) (cs : List Frame) (w : World)
  (I : OpsIn tb toff n oa ln oc ops w) (hI : L.I y0 s0 w) (hns : ∀ i, i < n -> ∀ (j : Nat) (o : OpV), (ops i)[j]? = some o -> ∀ b off, oa i = some ⟨b, off, none⟩ -> ¬ L.sh y0 b)
  (hsc : ∀ (j : Nat) (z : Int), sl[j]? = some z -> ∃ s so, sa = some ⟨s, so, none⟩ /\ w.cell? ⟨s, so + j, none⟩ = some (.int .i64 z) /\ ¬ L.sh y0 s)
  (hp : ∀ w' : World, (∀ b, b < w.heap.size -> w'.heap[b]? = w.heap[b]?) -> Aw Try.prog true (fun _ => none) 164 #[tv] w' (.slice (some ⟨tb, toff, none⟩) n tc) w') :
  Runs (fun g w' => ∃ cells, OpsOut L y0 s0 ops n most sl w w' cells /\ g = G (c.finish (.agg cells)) cs) (G (Frame.enter Try.prog 76 #[tv, .func (.func fdo) first cap, .slice sa sl.length sc, .int .i64 most] .normal) (c :: cs)) w := by
 have hA : ∀ b, Az (fun _ => none) b := fun b => ⟨fun _ _ _ _ h => (by cases h), fun _ _ h => (by cases h)⟩
 refine Runs.walk (ops_in fdo first cap tv (.slice sa sl.length sc) most (some ⟨tb, toff, none⟩) tb toff tc n (fun _ => rfl) hn oa ln oc ops c cs w I (fun b _ => hA b) hp) ?_
 rintro _ w2 ⟨fr, w1, rfl, o1, s1, hT, M, hB⟩
 have hshw : ∀ b, L.sh y0 b -> b < w.heap.size := fun b h => L.lt hI h
 have s2 : w2.heap.size = w.heap.size + 1 + 4 + 2 * n := M.size
 have o2 : ∀ b, b < w.heap.size -> w2.heap[b]? = w.heap[b]? := fun b hb => (M.old b (by omega)).trans (o1 b hb)
 have hc2 : ∀ {b j : Nat} {v : Value}, w.cell? ⟨b, j, none⟩ = some v -> w2.cell? ⟨b, j, none⟩ = some v := fun {b j v} h => (cBk (a := ⟨b, j, none⟩) (o2 b (Al h))).trans h
 have hI2 : L.I y0 s0 w2 := L.stable hI fun b h => o2 b (hshw b h)
 let g : OG := ⟨n, w2, w.heap.size + 1 + 1, ops, L.sh y0⟩
 let Q : Given := ⟨0, n, w.heap.size + 4, n, most, fun i => Ng (w.heap.size + 1) i, sa, sc, sl⟩
 obtain ⟨farr, hF1, hF2, hF3⟩ := M.cF
 have hfree : ∀ b, w.heap.size <= b -> ¬ L.sh y0 b := fun b hb h => by have := hshw b h; omega
 refine Runs.then (over_run (fun S => crewO L g y0 hD S) (Qv L s0) Q (.slice (some ⟨w.heap.size + 4, 0, none⟩) n n) w2 hn1 hn hsl (fun _ => rfl) (by
   have := Ok (main := true) (V := fun _ => none) (w.heap.size + 4) n n w2 (Nat.le_refl _)
   rw [Nat.min_eq_left hn] at this
   exact this) (fun g0 sb scap sts => ⟨fun _ => [], ?_, fun _ => none, fun _ => .slice none 0 0, ?_⟩) fr (c :: cs)) ?_
 ·intro i hi
  refine ⟨w.heap.size + 1 + 5 + 2 * i, w.heap.size + 1 + 2, w.heap.size + 1 + 4 + 2 * i, w.heap.size + 1, n, oa i, oc i, ⟨hi, hn, by rw [show g.ops i = ops i from rfl, I.len i hi]; omega, ?_, (Ab M.cA 0).trans rfl, (Ab (M.cI i hi) 0).trans rfl, (Ab M.cD 0).trans rfl, ⟨hfree _ (by omega), show _ ≠ w.heap.size + 1 + 1 by omega⟩, ⟨hfree _ (by omega), show _ ≠ w.heap.size + 1 + 1 by omega⟩, ⟨hfree _ (by omega), show _ ≠ w.heap.size + 1 + 1 by omega⟩, ⟨hfree _ (by omega), show _ ≠ w.heap.size + 1 + 1 by omega⟩, fun j o ho => ?_⟩, rfl⟩
  ·rw [show (g.ops i).length = min (ln i) 65536 from I.len i hi]
   exact (Ab (M.cO i hi) 0).trans rfl
  ·obtain ⟨b, off, e, c0, c1, c2, c3⟩ := I.ops i hi j o ho
   exact ⟨b, off, e, hns i hi j o ho b off e, show b ≠ w.heap.size + 1 + 1 by have := Al c0; omega, hc2 c0, hc2 c1, hc2 c2, hc2 c3⟩
 ·refine ⟨y0, L.refl _, ⟨⟨rfl, show w.heap.size + 1 + 1 < w2.heap.size by omega, ⟨hfree _ (show w.heap.size <= w.heap.size + 4 by omega), show w.heap.size + 4 ≠ w.heap.size + 1 + 1 by omega⟩, fun i hi => ?_, fun j z hz => ?_⟩, Nat.zero_le _, Nat.le_refl _, fun _ _ => rfl, fun _ _ _ _ => rfl, fun _ _ h => (by cases h), fun b h => ⟨rfl, by have := hshw b h; show b ≠ w.heap.size + 1 + 1; omega, by have := hshw b h; show b < w2.heap.size; omega, fun _ => h⟩, hI2, ⟨_, M.cN, Fp _ _, fun i hi => madeCells_get _ n i hi⟩, fun i hi => RowA.nil _ _ _, fun i hi => absurd hi (Nat.not_lt_zero _), fun _ _ _ => rfl⟩⟩
  ·exact (Ab hF1 i).trans (hF3 i hi)
  ·obtain ⟨s, so, e, hc, h1⟩ := hsc j z hz
   exact ⟨s, so, e, hc2 hc, h1, show s ≠ w.heap.size + 1 + 1 by have := Al hc; omega⟩
 ·rintro _ w4 ⟨_, ⟨g0, sb, scap, sts, x, ord, oa', oc', q, k, own, csx, hx, hov, rfl, ⟨hThr, pr, hd, y, hy, P⟩, hrow, hrb, hq, hqs, hsz, _⟩, rfl⟩
  have hT4 : w4.heap[w.heap.size]? = some (.cells #[.slice none 0 0, .slice none 0 0, .slice none 0 0, .bool false] 33) := (P.old _ (show w.heap.size < w2.heap.size by omega) (hfree _ (Nat.le_refl _)) (show w.heap.size ≠ w.heap.size + 1 + 1 by omega)).trans ((M.old _ (by omega)).trans hT)
  have hp : (x, ord) = Ca L s0 ops n most sl := by
   rw [hx, follow_abs, born_abs]
   rfl
  have hg : decide (0 < Ij (crewO L g y0 hD (Hi (Q.at g0) w2.heap.size sb scap sts)) x) = Du n x := rfl
  refine Runs.walk (hB oa' ord.length oc' _ _ w4 hT4 (hA _)) ?_
  rintro _ _ ⟨rfl, d, rfl⟩
  obtain ⟨arr, hAr, hAz, hAi⟩ := P.an
  have hset : ∀ b, b ≠ w.heap.size -> (w4.setRow w.heap.size #[.slice (some ⟨w.heap.size + 2, 0, none⟩) n n, .slice oa' ord.length oc', .slice none 0 0, .bool (Du n x)]).heap[b]? = w4.heap[b]? := fun b hb => Ap _ _ hb
  have hle : w2.heap.size <= w4.heap.size := P.size
  have hshn : ∀ b, L.sh y b -> b ≠ w.heap.size := fun b h e => hfree b (by omega) ((P.shl b h).2.2.2 (show b < w2.heap.size by omega))
  have hprn : ∀ b i, pr b = some i -> b ≠ w.heap.size := fun b i h e => by
   have h1 : w2.heap.size <= b := (P.prl b i h).1
   omega
  have Ah : own (w.heap.size + 1 + 1) = none := P.base _ (show w.heap.size + 1 + 1 < w2.heap.size by omega)
  have e2 : (Ca L s0 ops n most sl).1 = x := by rw [<- hp]
  have e3 : (Ca L s0 ops n most sl).2 = ord := by rw [<- hp]
  refine .now ⟨_, ⟨?_, fun b hb hs => ?_, ?_⟩, rfl⟩
  ·rw [e2, e3]
   refine ⟨y, w.heap.size + 2, oa', oc', hd, fun i b => pr b = some i, ⟨?_, ?_, by omega, ⟨arr, (hset _ (by omega)).trans hAr, hAz, hAi⟩, fun i hi => ?_, fun i j b h1 h2 => ?_, fun i b h => ⟨?_, (P.prl b i h).2.2.2⟩, fun i b h e => ?_, fun b h => ⟨(P.shl b h).2.1, fun e => ?_⟩, fun e => ?_, hy, L.stable P.I fun b h => hset b (hshn b h), fun b h hb => (P.shl b h).2.2.2 (show b < w2.heap.size by omega)⟩⟩
   ·rw [hg]
   ·refine As (Lc hrow fun b hb => ?_) fun b hb => hset b ?_
    ·have := hrow.lt b hb; omega
    ·have := hrow.lt b hb; omega
   ·exact ((P.row i hi).same fun b h => hset b (hprn b i h)).low (show w.heap.size <= w2.heap.size by omega)
   ·rw [h1] at h2; exact Option.some.inj h2
   ·have h1 : w2.heap.size <= b := (P.prl b i h).1
    omega
   ·have h1 := (hrb b e).1
    rw [(P.prl b i h).2.2.1] at h1; cases h1
   ·have h1 := (hrb b e).1
    rw [(P.shl b h).1] at h1; cases h1
   ·have h1 := (hrb _ e).1
    rw [show w.heap.size + 2 = w.heap.size + 1 + 1 by omega, Ah] at h1; cases h1
  ·exact (hset b (by omega)).trans ((P.old b (show b < w2.heap.size by omega) hs (show b ≠ w.heap.size + 1 + 1 by omega)).trans (o2 b hb))
  ·show w.heap.size <= (w4.setRow _ _).heap.size
   rw [Ay]; omega
end
end Go.Proofs.Ytflcclneedldoaa
namespace Go.Relay
section
open Go.Conc Go.RowKit
open Go.ConcN (upd upd_ne upd_same)
section
variable {P : Program} {main : Bool} {V : Nat -> Option Wait} {ops : Array Oper} {Z : World -> Prop} {w : World} {K : Act -> Prop} {i : Nat} {rest : List Nat} {a : Act} {o : Oper}
theorem Nc (ho : ops[i]? = some o) (hw : Region.wanted o (yielded ops a.tmps) = true) (he : ∀ w, Z w -> ∀ d, ∀ e ∈ (execOp a.eval o).events P (w.at d) #[], Je V e)
  (h : ∃ a', (∀ w, Z w -> ∀ d, ∀ K' : Act -> World -> Prop, K' a' (w.at d) -> uponK o a K' ((execOp a.eval o).run P (w.at d))) /\ Cm P main V ops Z K rest a') : Cm P main V ops Z K (i :: rest) a := by
 obtain ⟨a', h1, h2⟩ := h
 exact Cm.opq ho hw he h1 h2
theorem pre_skip {q : Nat -> Bool} {i : Nat} (h : q i = false) (vals : Nat -> Value) (a : Act) : Ax ops vals (fun j => decide (j < i + 1) && q j) a = Ax ops vals (fun j => decide (j < i) && q j) a :=
 Bm (fun j _ => ⟨by
  by_cases e : j = i
  ·subst e; simp [h]
  ·have : (decide (j < i + 1) : Bool) = decide (j < i) := by by_cases hl : j < i <;> simp [hl] <;> omega
   rw [this], fun _ => rfl⟩) a
theorem pre_take {m : Nat} {q : Nat -> Bool} (hc : Fx ops m = true) (hi : i < m) (h : q i = true) (vals : Nat -> Value) (ho : ops[i]? = some o) (a : Act) : Ax ops vals (fun j => decide (j < i + 1) && q j) a = (Ax ops vals (fun j => decide (j < i) && q j) a).put o.dst (vals i) := by
 rw [<- Df hc hi vals (f := fun j => decide (j < i) && q j) (by simp) ho a]
 refine Bm (fun j _ => ⟨?_, fun _ => rfl⟩) a
 by_cases e : j = i
 ·subst e; simp [h, upd_same]
 ·rw [upd_ne _ _ e]
  have : (decide (j < i + 1) : Bool) = decide (j < i) := by by_cases hl : j < i <;> simp [hl] <;> omega
  rw [this]
theorem Ot {m : Nat} {q : Nat -> Bool} (hz : Z w) (hc : Fx ops m = true) : ∀ (r i : Nat) (vals : Nat -> Value) (a0 : Act), i + r = m -> Cm P main V ops Z K ((List.range' i r).filter q) (Ax ops vals (fun j => decide (j < i) && q j) a0) ->
  ∃ vals', (∀ j, j < i -> vals' j = vals j) /\ (∀ j o, i <= j -> j < m -> q j = true -> ops[j]? = some o -> Oz P main V ops Z o (Ax ops vals' (fun x => decide (x < j) && q x) a0) (vals' j)) /\ K (Ax ops vals' (fun j => decide (j < m) && q j) a0)
 | 0, i, vals, a0, hi, h => by
  have hi : i = m := hi
  refine ⟨vals, fun _ _ => rfl, fun j o hj hjm _ ho => ?_, ?_⟩
  ·omega
  ·rw [<- hi]; exact h
 | r + 1, i, vals, a0, hi, h => by
  rw [List.range'_succ] at h
  cases hq : q i with
  | false =>
   rw [List.filter_cons_of_neg (by simp [hq]), <- pre_skip hq] at h
   obtain ⟨vals', k1, k2, k3⟩ := Ot hz hc r (i + 1) vals a0 (by omega) h
   refine ⟨vals', fun j hj => k1 j (by omega), fun j o hj hjm hqj ho => ?_, k3⟩
   by_cases e : j = i
   ·rw [e, hq] at hqj; cases hqj
   ·exact k2 j o (by omega) hjm hqj ho
  | true =>
   rw [List.filter_cons_of_pos hq] at h
   obtain ⟨o, a', ho, hn, hcond⟩ := h
   generalize hX : Ax ops vals (fun j => decide (j < i) && q j) a0 = X at *
   obtain ⟨v, hv, hcond⟩ : ∃ v, a' = X.put o.dst v /\ Oz P main V ops Z o X v := by
    rcases hcond with ⟨h1, h2⟩ | ⟨h1, h2, h3⟩ | ⟨h1, f, fn, args, ats, x, e1, e2, e3, e4, e5, e6⟩
    ·exact ⟨undef, h2, .inl ⟨h1, rfl⟩⟩
    ·have h0 := h3 w hz 0
     obtain ⟨v, hv⟩ : ∃ v, a' = X.put o.dst v := by
      revert h0
      generalize (execOp _ o).run P (w.at 0) = rr
      intro h0
      unfold uponK at h0
      split at h0
      ·exact ⟨_, h0.1.symm⟩
      ·exact ⟨_, h0.1.symm⟩
      ·exact h0.elim
     exact ⟨v, hv, .inr (.inl ⟨h1, h2, hv ▸ h3⟩)⟩
    ·exact ⟨x, e6, .inr (.inr ⟨h1, f, fn, args, ats, e1, e2, e3, e4, e5⟩)⟩
   have hpre : Ax ops (upd vals i v) (fun j => decide (j < i) && q j) a0 = X := by
    rw [<- hX]
    exact Bm (fun j _ => ⟨rfl, fun hd => upd_ne _ _ (by have := of_decide_eq_true (Bool.and_eq_true _ _ ▸ hd : _ /\ _).1; omega)⟩) a0
   have hs := pre_take hc (by omega) hq (upd vals i v) ho a0
   rw [hpre, upd_same, <- hv] at hs
   rw [<- hs] at hn
   obtain ⟨vals', k1, k2, k3⟩ := Ot hz hc r (i + 1) (upd vals i v) a0 (by omega) hn
   refine ⟨vals', fun j hj => (k1 j (by omega)).trans (upd_ne _ _ (by omega)), fun j o' hj hjm hqj ho' => ?_, k3⟩
   by_cases e : j = i
   ·subst e
    rw [ho] at ho'
    cases ho'
    have e1 : Ax ops vals' (fun x => decide (x < j) && q x) a0 = X := by
     rw [<- hpre]
     exact Bm (fun x _ => ⟨rfl, fun hd => k1 x (by have := of_decide_eq_true (Bool.and_eq_true _ _ ▸ hd : _ /\ _).1; omega)⟩) a0
    have e2 : vals' j = v := (k1 j (by omega)).trans (upd_same _ _ _)
    rw [e1, e2]
    exact hcond
   ·exact k2 j o' (by omega) hjm hqj ho'
end
section
variable {P : Program} {main : Bool} {V : Nat -> Option Wait} {Stop : Goroutine -> World -> Prop} {b : Frame} {k : List Item} {cs : List Frame} {ops : Array Oper} {w : World} {a : Act}
theorem Walk.calmOpG {Z : World -> Prop} {m i : Nat} (hz : Z w) {o : Oper} {vals : Nat -> Value} {f g : Nat -> Bool} {rest : List Nat} (hc : Fx ops m = true) (hk : b.kind ≠ .early) (hi : i < m) (ho : ops[i]? = some o) (hd : ∀ e ∈ o.after, Region.binds .any e = true -> f e.on = true)
  (hg : ∀ (j : Nat) (p : Oper) (t : Nat), ops[j]? = some p -> p.dst = some t -> t ∈ o.looksAt ops -> j < i -> g j = true)
  (hcond : Oz P main V ops Z o (Ax ops vals g a) (vals i)) (hr' : Walk P main (DR V) Stop (G (b.at ((Ax ops vals f a).put o.dst (vals i)) (.inRegion ops rest :: k)) cs) w) :
  Walk P main (DR V) Stop (G (b.at (Ax ops vals f a) (.inRegion ops (i :: rest) :: k)) cs) w := by
 obtain ⟨hsel, ⟨t0, ht0, hself⟩, hdist⟩ := My hc hi ho
 have hlook : ∀ t ∈ o.looksAt ops, (Ax ops vals f a).tmps[t]? = (Ax ops vals g a).tmps[t]? := fun t ht => Ek _ a a rfl fun j hj hjd => by
  have hjl := List.mem_range.1 hj
  have hoj := Array.getElem?_eq_getElem hjl
  have hne : j ≠ i := fun e => by
   subst e
   rw [Jr ho, ht0] at hjd
   cases hjd
   exact hself ht
  rw [hoj] at hjd
  obtain ⟨h1, h2⟩ := (hdist j _ hoj hne).2 t hjd ht
  exact ⟨(Hr h2 ho hd).trans (hg j _ t hoj hjd ht h1).symm, rfl⟩
 obtain ⟨s1, s2, s3⟩ := Kz hlook hsel
 have hsz : (Ax ops vals f a).tmps.size = (Ax ops vals g a).tmps.size := by
  unfold Ax
  rw [Fo, Fo]
 have hput : ∀ v, (Ax ops vals g a).put o.dst v = (Ax ops vals g a).put o.dst (vals i) -> (Ax ops vals f a).put o.dst v = (Ax ops vals f a).put o.dst (vals i) := fun v e => by
  refine Qm (fun t => ?_) (by rw [Em, Em])
  rw [Cg, Cg]
  split
  ·next e' =>
   have h1 : ((Ax ops vals g a).put o.dst v).tmps[t]? = ((Ax ops vals g a).put o.dst (vals i)).tmps[t]? := by rw [e]
   rw [Cg, Cg, if_pos e', if_pos e'] at h1
   by_cases hl : t < (Ax ops vals f a).tmps.size
   ·rw [Array.getElem?_eq_getElem (hsz ▸ hl)] at h1
    simp only [Option.map_some] at h1
    rw [Array.getElem?_eq_getElem hl]
    exact h1
   ·rw [Array.getElem?_eq_none (by omega)]; rfl
  ·rfl
 rcases hcond with ⟨c1, c2⟩ | ⟨c1, c2, c3⟩ | ⟨c1, f', fn, args, ats, e1, e2, e3, e4, e5⟩
 ·rw [<- s2] at c1
  rw [c2] at hr'
  exact Walk.ctl rfl (fun w => stepG_unwanted ho c1) hr'
 ·rw [<- s2] at c1
  rw [<- s1] at c2 c3
  refine Walk.opq ho c1 hk (c2 w hz) fun d' K hK => ?_
  have h3 := c3 w hz d'
  revert h3
  generalize (execOp (Ax ops vals f a).eval o).run P (w.at d') = rr
  intro h3
  unfold uponK at h3 ⊢
  split at h3
  ·obtain ⟨x1, rfl⟩ := h3
   refine hK _ ?_
   rw [hput _ x1]; exact hr'
  ·obtain ⟨x1, rfl⟩ := h3
   refine hK _ ?_
   rw [hput _ x1]; exact hr'
  ·exact h3.elim
 ·rw [<- s2] at c1
  have hargs : args.map (Ax ops vals f a).eval = args.map (Ax ops vals g a).eval := Array.map_congr_left fun x hx => s3 x (by rw [e1]; simp [Op.operands, Call.operands, hx])
  rw [<- hargs] at e5
  exact Walk.callV (e5 w hz) ho c1 hk e1 e2 e3 e4 hr'
def apartB (ops : Array Oper) (iA iB m : Nat) : Bool := decide (iA < iB) && decide (iB < m) && Ji ops iB iA && (List.range m).all fun i => decide (i = iA) || decide (i = iB) || (ops[i]?).any fun o =>
 !(o.looksAt ops).any (fun t => (ops[iA]?).bind (·.dst) == some t) && !(o.looksAt ops).any (fun t => (ops[iB]?).bind (·.dst) == some t)
def Ck (iA iB : Nat) (j : Nat) : Bool := !decide (j = iA) && !decide (j = iB)
theorem look_full {m i : Nat} {o : Oper} {vals vals' : Nat -> Value} {f g : Nat -> Bool} (hc : Fx ops m = true) (hi : i < m) (ho : ops[i]? = some o) (hd : ∀ e ∈ o.after, Region.binds .any e = true -> f e.on = true) (hg : ∀ j, j < i -> g j = true /\ vals j = vals' j) (a : Act) :
  ∀ y ∈ o.op.operands, (Ax ops vals f a).eval y = (Ax ops vals' g a).eval y := by
 obtain ⟨hsel, ⟨t0, ht0, hself⟩, hdist⟩ := My hc hi ho
 have hlook : ∀ t ∈ o.looksAt ops, (Ax ops vals f a).tmps[t]? = (Ax ops vals' g a).tmps[t]? := fun t ht => Ek _ a a rfl fun j hj hjd => by
  have hjl := List.mem_range.1 hj
  have hoj := Array.getElem?_eq_getElem hjl
  have hne : j ≠ i := fun e => by
   subst e
   rw [Jr ho, ht0] at hjd
   cases hjd
   exact hself ht
  rw [hoj] at hjd
  obtain ⟨h1, h2⟩ := (hdist j _ hoj hne).2 t hjd ht
  obtain ⟨g1, g2⟩ := hg j h1
  exact ⟨(Hr h2 ho hd).trans g1.symm, g2⟩
 exact (Kz hlook hsel).2.2
theorem Io {id m iA iB : Nat} {Z : World -> Prop} {w1 : World} {oA oB : Oper} {vA : Value} (PB : Value -> World -> Prop) (hm : P.follows .mixedOrders = true) (hsz : ops.size = m + 1) (hlow : Qp ops = true) (hc : Fx ops m = true) (hl : lastB ops m = true) (hap : apartB ops iA iB m = true) (hk : b.kind ≠ .early)
  (Ah : ops[iA]? = some oA) (hoB : ops[iB]? = some oB) (hz : Z w) (hz1 : Z w1) (hz2 : ∀ v w', PB v w' -> Z w')
  (h : Cm P main V ops Z (fun aF => (∀ x, (∀ y ∈ oA.op.operands, x.eval y = aF.eval y) -> OpW P main V Stop b k cs ops iA (fun x' w' => x' = x.put oA.dst vA /\ ∃ d, w' = w1.at d) x w) /\
   (∀ x, (∀ y ∈ oB.op.operands, x.eval y = (aF.put oA.dst vA).eval y) -> OpW P main V Stop b k cs ops iB (fun x' w' => ∃ v w2, PB v w2 /\ x' = x.put oB.dst v /\ ∃ d, w' = w2.at d) x w1) /\
   ∀ v w2, PB v w2 -> OpW P main V Stop b k cs ops m (fun a' w' => Walk P main (DR V) Stop (G (b.at a' (.inRegion ops [] :: k)) cs) w') ((aF.put oA.dst vA).put oB.dst v) w2) ((List.range m).filter (Ck iA iB)) a) :
  Walk P main (DR V) Stop (G (b.at a (.code (.region id ops true) :: k)) cs) w := by
 unfold apartB at hap
 simp only [Bool.and_eq_true, decide_eq_true_eq] at hap
 obtain ⟨⟨⟨hAB, hBm⟩, hBA⟩, hq⟩ := hap
 rw [List.range_eq_range'] at h
 have hzero : Ax ops (fun _ => undef) (fun j => decide (j < 0) && Ck iA iB j) a = a := Co _ a fun j _ => by simp
 rw [<- hzero] at h
 obtain ⟨vals, _, hcond, hA, hB, hC⟩ := Ot (q := Ck iA iB) hz hc m 0 (fun _ => undef) a (by omega) h
 clear h hzero
 generalize hvA : upd vals iA vA = va
 have hva : ∀ j, j ≠ iA -> va j = vals j := fun j hj => by rw [<- hvA]; exact upd_ne _ _ hj
 have hvaA : va iA = vA := by rw [<- hvA]; exact upd_same _ _ _
 have qA : ∀ j, Ck iA iB j = true ↔ j ≠ iA /\ j ≠ iB := fun j => by simp [Ck]
 have quiet : ∀ (vs : Nat -> Value) (f : Nat -> Bool) (i : Nat) (o : Oper) (rest : List Nat) (ww : World), (∀ j, j ≠ iA -> j ≠ iB -> vs j = vals j) -> Z ww -> i < m -> i ≠ iA -> i ≠ iB -> f i = false -> ops[i]? = some o -> (∀ e ∈ o.after, Region.binds .any e = true -> f e.on = true) ->
   Walk P main (DR V) Stop (G (b.at (Ax ops vs (upd f i true) a) (.inRegion ops rest :: k)) cs) ww -> Walk P main (DR V) Stop (G (b.at (Ax ops vs f a) (.inRegion ops (i :: rest) :: k)) cs) ww := by
  intro vs f i o rest ww hvs hzw him h1 h2 hf ho hd hr
  rw [Df hc him vs hf ho a] at hr
  have hcd := hcond i o (Nat.zero_le _) him ((qA i).2 ⟨h1, h2⟩) ho
  have e : Ax ops vals (fun x => decide (x < i) && Ck iA iB x) a = Ax ops vs (fun x => decide (x < i) && Ck iA iB x) a := Bm (fun j _ => ⟨rfl, fun hd => by
   have := (qA j).1 (Bool.and_eq_true _ _ ▸ hd : _ /\ _).2
   exact (hvs j this.1 this.2).symm⟩) a
  rw [e, <- hvs i h1 h2] at hcd
  refine Walk.calmOpG hzw hc hk him ho hd (fun j p t hj ht hm hji => ?_) hcd hr
  have hh := List.all_eq_true.1 hq i (List.mem_range.2 him)
  rw [ho] at hh
  simp only [decide_eq_false h1, decide_eq_false h2, Bool.false_or, Option.any_some, Bool.and_eq_true, Bool.not_eq_true'] at hh
  have hjA : j ≠ iA := fun e' => by
   subst e'
   rw [hj] at hh
   have : (o.looksAt ops).any (fun t => (some p).bind (·.dst) == some t) = true := List.any_eq_true.2 ⟨t, hm, by simp [ht]⟩
   rw [this] at hh
   exact absurd hh.1 (by simp)
  have hjB : j ≠ iB := fun e' => by
   subst e'
   rw [hj] at hh
   have : (o.looksAt ops).any (fun t => (some p).bind (·.dst) == some t) = true := List.any_eq_true.2 ⟨t, hm, by simp [ht]⟩
   rw [this] at hh
   exact absurd hh.2 (by simp)
  simp [hji, (qA j).2 ⟨hjA, hjB⟩]
 have eA : Ax ops va (upd (fun j => decide (j < m) && Ck iA iB j) iA true) a = (Ax ops vals (fun j => decide (j < m) && Ck iA iB j) a).put oA.dst vA := by
  rw [Df hc (by omega) va (by simp [Ck]) Ah a, hvaA]
  congr 1
  exact Bm (fun j _ => ⟨rfl, fun hd => hva j ((qA j).1 (Bool.and_eq_true _ _ ▸ hd : _ /\ _).2).1⟩) a
 refine Cv (Inv := fun f x w' => (f m = true /\ (∀ j, j < m -> f j = true) /\ Walk P main (DR V) Stop (G (b.at x (.inRegion ops [] :: k)) cs) w') ∨ (f m = false /\ f iB = false /\ x = Ax ops va f a /\ ∃ d, w' = (if f iA then w1 else w).at d) ∨
  (f m = false /\ f iB = true /\ f iA = true /\ ∃ v w2, PB v w2 /\ x = Ax ops (upd va iB v) f a /\ ∃ d, w' = w2.at d)) hm hlow (fun d => .inr (.inl ⟨rfl, rfl, (Gn va a).symm, d, rfl⟩)) ?_ ?_
 ·rintro f i o x w' hI hC' hf ho hd rest hr
  have hi : i < m + 1 := by have := (aEs ho).1; omega
  rcases hI with ⟨h1, h2, _⟩ | ⟨h1, h2, rfl, d, rfl⟩ | ⟨h1, h2, h3, v, w2, hPB, rfl, d, rfl⟩
  ·exfalso
   by_cases e : i = m
   ·rw [e, h1] at hf; cases hf
   ·rw [h2 i (by omega)] at hf; cases hf
  ·refine Walk.back ?_ d
   by_cases e : i = m
   ·subst e
    have := Kh hl hC' ho hd (i - iB) iB (by omega) (by omega)
    rw [h2] at this; cases this
   by_cases eiA : i = iA
   ·subst eiA
    rw [Ah] at ho
    cases ho
    rw [hf, if_neg (by simp)]
    refine hA _ (look_full hc (by omega) Ah hd (fun j hj => ⟨by simp [Ck]; omega, hva j (by omega)⟩) a) rest ?_
    rintro x' w' ⟨rfl, d', rfl⟩
    refine hr _ _ (.inr (.inl ⟨by rw [upd_ne _ _ (by omega)]; exact h1, by rw [upd_ne _ _ (by omega)]; exact h2, ?_, d', by rw [upd_same]; rfl⟩))
    rw [Df hc (by omega) va hf Ah a, hvaA]
   by_cases eiB : i = iB
   ·subst eiB
    rw [hoB] at ho
    cases ho
    have hfA : f iA = true := Hr hBA hoB hd
    rw [hfA, if_pos rfl]
    refine hB _ ?_ rest ?_
    ·rw [<- eA]
     exact look_full hc hBm hoB hd (fun j hj => ⟨by
      by_cases ej : j = iA
      ·rw [ej, upd_same]
      ·rw [upd_ne _ _ ej]
       simp [Ck, ej]; omega, rfl⟩) a
    ·rintro x' w' ⟨v, w2, hPB, rfl, d', rfl⟩
     refine hr _ _ (.inr (.inr ⟨by rw [upd_ne _ _ (by omega)]; exact h1, upd_same _ _ _, by rw [upd_ne _ _ (by omega)]; exact hfA, v, w2, hPB, ?_, d', rfl⟩))
     rw [Df hc hBm (upd va i v) hf hoB a, upd_same]
     congr 1
     exact Bm (fun j _ => ⟨rfl, fun hj => (upd_ne _ _ (fun e' => by rw [e', hf] at hj; cases hj)).symm⟩) a
   ·refine quiet va f i o rest _ (fun j h _ => hva j h) ?_ (by omega) eiA eiB hf ho hd ?_
    ·split
     ·exact hz1
     ·exact hz
    ·refine (hr _ (((if f iA then w1 else w)).at ((if f iA then w1 else w)).drawn) (.inr (.inl ⟨by rw [upd_ne _ _ (by omega)]; exact h1, by rw [upd_ne _ _ (Ne.symm eiB)]; exact h2, rfl, _, by rw [upd_ne _ _ (Ne.symm eiA)]⟩)))
  ·refine Walk.back ?_ d
   by_cases e : i = m
   ·subst e
    have hall := Kh hl hC' ho hd
    have ef : Ax ops (upd va iB v) f a = ((Ax ops vals (fun j => decide (j < i) && Ck iA iB j) a).put oA.dst vA).put oB.dst v := by
     have e1 : Ax ops va (upd (fun j => decide (j < i) && Ck iA iB j) iA true) a = Ax ops (upd va iB v) (upd (fun j => decide (j < i) && Ck iA iB j) iA true) a := Bm (fun j _ => ⟨rfl, fun hj => (upd_ne _ _ (fun e' => by
      rw [e', upd_ne _ _ (by omega)] at hj
      simp [Ck] at hj)).symm⟩) a
     have e2 := Df hc hBm (upd va iB v) (f := upd (fun j => decide (j < i) && Ck iA iB j) iA true) (by rw [upd_ne _ _ (by omega)]; simp [Ck]) hoB a
     rw [upd_same, <- e1, eA] at e2
     rw [<- e2]
     refine Bm (fun j hj => ⟨?_, fun _ => rfl⟩) a
     by_cases ej : j = iB
     ·rw [ej, upd_same, h2]
     ·rw [upd_ne _ _ ej]
      by_cases ej2 : j = iA
      ·rw [ej2, upd_same, h3]
      ·rw [upd_ne _ _ ej2]
       by_cases hji : j < i
       ·rw [hall (i - j) j (by omega) (by omega)]
        simp [hji, Ck, ej, ej2]
       ·have : j = i := by omega
        rw [this, hf]; simp
    rw [ef]
    refine hC v w2 hPB rest fun a' w' hw' => hr a' w' (.inl ⟨upd_same _ _ _, fun j hj => ?_, hw'⟩)
    rw [upd_ne _ _ (by omega)]
    exact hall (i - j) j (by omega) (by omega)
   ·have n1 : i ≠ iA := fun e' => by rw [e', h3] at hf; cases hf
    have n2 : i ≠ iB := fun e' => by rw [e', h2] at hf; cases hf
    refine quiet (upd va iB v) f i o rest _ (fun j h h' => (upd_ne _ _ h').trans (hva j h)) (hz2 v w2 hPB) (by omega) n1 n2 hf ho hd ?_
    exact hr _ (w2.at w2.drawn) (.inr (.inr ⟨by rw [upd_ne _ _ (by omega)]; exact h1, by rw [upd_ne _ _ (Ne.symm n2)]; exact h2, by rw [upd_ne _ _ (Ne.symm n1)]; exact h3, v, w2, hPB, rfl, _, rfl⟩))
 ·rintro f x w' hI hall
  rcases hI with ⟨_, _, h3⟩ | ⟨h1, _⟩ | ⟨h1, _⟩
  ·exact h3
  ·rw [hall m (by omega)] at h1; cases h1
  ·rw [hall m (by omega)] at h1; cases h1
end
end
end Go.Relay
