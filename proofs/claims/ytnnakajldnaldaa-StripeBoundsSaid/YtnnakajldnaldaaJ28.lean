/- Part 28. -/
import Derived.Test.YtnnakajldnaldaaJ16
import Derived.Test.YtnnakajldnaldaaJ26
import Derived.Test.YtnnakajldnaldaaJ27
set_option linter.unusedSimpArgs false
set_option linter.unusedVariables false
set_option maxHeartbeats 8000000
set_option maxRecDepth 100000
namespace Go.Proofs.Ytnnakajldnaldaa
open Go.Conc Go.RowKit Go.Relay
open Go.ConcN (upd upd_ne upd_same)
section
def spJ (sl : List Int) (j : Nat) : Sp := fun i => if i < j then sl.getD i 0 else 0
theorem spJ_succ (sl : List Int) (j : Nat) : spPut (spJ sl j) j (sl.getD j 0) = spJ sl (j + 1) := by
  funext i
  unfold spPut spJ
  by_cases h : i = j
  · subst h
    rw [upd_same, if_pos (by omega)]
  · rw [upd_ne _ _ h]
    by_cases h2 : i < j
    · rw [if_pos h2, if_pos (by omega)]
    · rw [if_neg h2, if_neg (by omega)]
theorem stAt_nat {m j : Nat} (h : j < m) : stAt m (j : Int) = j := by
  unfold stAt
  have : ((j : Int) % (m : Int)) = (j : Int) := Int.emod_eq_of_lt (by omega) (by omega)
  rw [this]
  rfl
noncomputable def reg30_0 := rg Try.f30.body [0]
noncomputable def reg30_1 := rg Try.f30.body [1, 0]
noncomputable def reg30_2 := rg Try.f30.body [1, 1, 0, 0]
noncomputable def reg30_3 := rg Try.f30.body [1, 1, 0, 1, 0, 0, 0]
noncomputable def reg30_4 := rg Try.f30.body [1, 1, 0, 1, 0, 0, 1, 1, 0, 0, 0]
noncomputable def reg30_5 := rg Try.f30.body [1, 1, 0, 1, 0, 0, 1, 1, 0, 0, 1]
noncomputable def reg30_6 := rg Try.f30.body [1, 1, 0, 1, 0, 0, 1, 1, 1]
noncomputable def reg30_7 := rg Try.f30.body [1, 1, 1, 0]
theorem z30 : List.range reg30_0.size = [0] ∧ List.range reg30_1.size = [0, 1, 2, 3] ∧ List.range reg30_2.size = [0, 1, 2, 3, 4, 5, 6] ∧ List.range reg30_3.size = [0] ∧ List.range reg30_4.size = [0, 1, 2, 3, 4] ∧ List.range reg30_5.size = [0, 1, 2, 3] ∧ List.range reg30_6.size = [0, 1] ∧ List.range reg30_7.size = [0, 1] := by refine ⟨?_, ?_, ?_, ?_, ?_, ?_, ?_, ?_⟩ <;> kernel_rfl
theorem code30_is : Try.f30.body = some (.seq (.region 0 reg30_0 false) (.seq (.region 1 reg30_1 false) (.seq (.seq (.region 2 reg30_2 false) (.block 0 (.loop (.seq (.region 3 reg30_3 false) (.seq (.cond (.tmp 16 ) (.skip) (.exit 0)) (.seq (.block 1 (.seq (.region 4 reg30_4 false) (.region 5 reg30_5 false))) (.region 6 reg30_6 false))))))) (.seq (.region 7 reg30_7 false) (.ret))))) := by kernel_rfl
noncomputable def hdNewc (st : Value) (cb : Nat) (sa : Option Addr) (k c j : Nat) (u : Nat → Value) : Frame :=
  (base 30).at { tmps := #[st, u 1, u 2, .pointer (some ⟨cb, 0, none⟩), u 4, u 5, u 6, u 7, u 8, u 9, u 10, u 11, u 12, .slice sa k c, .int .i64 k, .int .i64 j, u 16, u 17, u 18, u 19, u 20, u 21, u 22, u 23, u 24, u 25], defers := [] } [.code (.seq (.region 3 reg30_3 false) (.seq (.cond (.tmp 16 ) (.skip) (.exit 0)) (.seq (.block 1 (.seq (.region 4 reg30_4 false) (.region 5 reg30_5 false))) (.region 6 reg30_6 false)))), .inLoop (.seq (.region 3 reg30_3 false) (.seq (.cond (.tmp 16 ) (.skip) (.exit 0)) (.seq (.block 1 (.seq (.region 4 reg30_4 false) (.region 5 reg30_5 false))) (.region 6 reg30_6 false)))), .inBlock 0, .code (.seq (.region 7 reg30_7 false) (.ret))]
section
variable {main : Bool} {V : Nat → Option Wait} {cb rb m : Nat} {ra : Option Addr} {rc : Nat}
def SlIn (sa : Option Addr) (sl : List Int) (w : World) : Prop := ∀ (j : Nat) (z : Int), sl[j]? = some z → IntKind.i64.wrap z = z ∧ ∃ s so, sa = some ⟨s, so, none⟩ ∧ w.cell? ⟨s, so + j, none⟩ = some (.int .i64 z)
theorem SlIn.old {sa : Option Addr} {sl : List Int} {w w' : World} (h : SlIn sa sl w) (hb : ∀ b, b < w.heap.size → w'.heap[b]? = w.heap[b]?) : SlIn sa sl w' := fun j z hz => by
  obtain ⟨h1, s, so, e, hc⟩ := h j z hz
  exact ⟨h1, s, so, e, (World.cell?_of_block (a := ⟨s, so + j, none⟩) (hb s (cell_lt' hc))).trans hc⟩
structure NewI (cb rb m : Nat) (ra : Option Addr) (rc : Nat) (sl : List Int) (j : Nat) (w0 w : World) : Prop where
  I : SpI cb rb m ra rc (spJ sl j) w
  old : ∀ b, b < w0.heap.size → w.heap[b]? = w0.heap[b]?
  size : w0.heap.size ≤ w.heap.size
theorem newc_go (hA : ∀ b, Apart V b) (st : Value) (sa : Option Addr) (sl : List Int) (k c j : Nat) (hj : j < k) (hkm : k ≤ m) (hkl : k ≤ sl.length) (w0 w : World) (hsl : SlIn sa sl w0) (hcb : w0.heap.size ≤ cb) (hrb : w0.heap.size ≤ rb) (I : NewI cb rb m ra rc sl j w0 w) (u : Nat → Value) (cs : List Frame) :
    Walk Try.prog main (DR V) (fun g w' => ∃ u w1, g = G (hdNewc st cb sa k c (j + 1) u) cs ∧ NewI cb rb m ra rc sl (j + 1) w0 w1 ∧ ∃ d, w' = w1.at d) (G (hdNewc st cb sa k c j u) cs) w := by
  have hm := I.I.pos
  have hx0 : sl[j]? = some (sl.getD j 0) := by rw [List.getD_eq_getElem?_getD, List.getElem?_eq_getElem (by omega)]; rfl
  obtain ⟨hz, s, so, rfl, hc0⟩ := hsl j _ hx0
  have c1 : w.cell? ⟨s, so + j, none⟩ = some (.int .i64 (sl.getD j 0)) := (World.cell?_of_block (a := ⟨s, so + j, none⟩) (I.old s (cell_lt' hc0))).trans hc0
  have hact : ∀ s : Sp, spAct m s (.a1 (stAt m (j : Int)) (sl.getD j 0)) = (spPut s (stAt m (j : Int)) (IntKind.i64.wrap (s (stAt m (j : Int)) + sl.getD j 0)), .inl (true, IntKind.i64.wrap (s (stAt m (j : Int)) + sl.getD j 0))) := fun _ => rfl
  have hrun : runN (spLa cb rb m ra rc) 1 (spJ sl j, .inr (.a1 (stAt m (j : Int)) (sl.getD j 0))) = some (spJ sl (j + 1), (true, sl.getD j 0)) := by
    have h0 : spJ sl j j = 0 := if_neg (Nat.lt_irrefl j)
    have e : spAct m (spJ sl j) (.a1 (stAt m (j : Int)) (sl.getD j 0)) = (spJ sl (j + 1), .inl (true, sl.getD j 0)) := by
      rw [hact, stAt_nat (by omega), h0, Int.zero_add, hz, spJ_succ]
    show runN (spLa cb rb m ra rc) 0 (spAct m (spJ sl j) (.a1 (stAt m (j : Int)) (sl.getD j 0))) = _
    rw [e]
    rfl
  generalize sl.getD j 0 = z at *
  have hj0 : (0 : Int) ≤ j := by omega
  have hj1 : decide ((j : Int) < k) = true := by simp; omega
  have hj3 : decide (j < k) = true := by simp; omega
  have hj4 : (j : Int) < k := by omega
  have hw1 : IntKind.wrap .i64 ((j : Int) + 1) = ((j + 1 : Nat) : Int) := by rw [IntKind.wrap_i64]; omega
  have hI := I.I
  have hO := I.old
  have hS := I.size
  clear hact hx0 hc0 hsl I
  unfold hdNewc
  repeat (first | refine Walk.cx ?_ | (refine Walk.cReg ?_; simp only [z30]) | (refine Walk.oq ?_; try walk_nrm) | (refine Walk.un ?_; walk_nrm))
  refine Walk.callLone (L := spLa cb rb m ra rc) (Rel := fun v x => ∃ y, v = .int .i64 y) 1 (spJ sl j) (.inr (.a1 (stAt m (j : Int)) z)) hA hI hrun (f := 26) (fun K e ht => ?_) (ho_of (by conv => lhs; whnf) (by kernel_rfl)) (by rfl) (by decide) rfl Try.func26 (by kernel_rfl) (by rfl) ⟨rfl, rfl, _, Try.func30⟩ ?_
  · walk_nrm
    exact (sadd_s K (j : Int) z (.a1 (stAt m (j : Int)) z) (fun y => .inl (true, y)) (fun _ => rfl) e ht).mono fun v e' ⟨y, h1, h2⟩ => ⟨(true, y), ⟨y, h1⟩, h2⟩
  rintro v w1 ⟨y, rfl⟩ L1
  have I1 : NewI cb rb m (some ⟨s, so, none⟩ : Option Addr) rc sl (j + 1) w0 w1 ∨ True := .inr trivial
  have I2 : NewI cb rb m ra rc sl (j + 1) w0 w1 := ⟨L1.I, fun b hb => (L1.old b (by omega) (by rintro (rfl | ⟨_, rfl⟩) <;> omega)).trans (hO b hb), Nat.le_trans hS L1.size⟩
  clear I1 L1 hrun c1
  walk_nrm
  repeat (first | refine Walk.cx ?_ | (refine Walk.cReg ?_; simp only [z30]) | (refine Walk.oq ?_; try walk_nrm) | (refine Walk.un ?_; walk_nrm))
  refine Walk.ctl rfl (fun w => stepG_inLoop) ?_
  have hfin := fun u => (Walk.stop (P := Try.prog) (main := main) (D := DR V) (w := w1) (g := G (hdNewc st cb (some ⟨s, so, none⟩) k c (j + 1) u) cs) (Stop := fun g w' => ∃ u w1, g = G (hdNewc st cb (some ⟨s, so, none⟩) k c (j + 1) u) cs ∧ NewI cb rb m ra rc sl (j + 1) w0 w1 ∧ ∃ d, w' = w1.at d) fun d => ⟨u, w1, rfl, I2, d, rfl⟩)
  refine slots_walk (F := fun u => G (hdNewc st cb (some ⟨s, so, none⟩) k c (j + 1) u) cs) hfin ?_
  simp only [hdNewc]
  rfl
theorem newc_out (st : Value) (sa : Option Addr) (k c : Nat) (w : World) (u : Nat → Value) (fr : Frame) (cs : List Frame) :
    Walk Try.prog main (DR V) (fun g w' => g = G (fr.finish (.pointer (some ⟨cb, 0, none⟩))) cs ∧ ∃ d, w' = w.at d) (G (hdNewc st cb sa k c k u) (fr :: cs)) w := by
  have hj3 : decide (k < k) = false := by simp
  unfold hdNewc
  repeat (first | refine Walk.cx ?_ | (refine Walk.cReg ?_; simp only [z30]) | (refine Walk.oq ?_; try walk_nrm) | (refine Walk.un ?_; walk_nrm))
  exact Walk.on1 rfl rfl Try.func30 rfl (.stop fun d => ⟨rfl, d, rfl⟩)
theorem newc_loop (hA : ∀ b, Apart V b) (st : Value) (sa : Option Addr) (sl : List Int) (k c : Nat) (hkm : k ≤ m) (hkl : k ≤ sl.length) (w0 : World) (hsl : SlIn sa sl w0) (hcb : w0.heap.size ≤ cb) (hrb : w0.heap.size ≤ rb) (fr : Frame) (cs : List Frame) : ∀ (r j : Nat) (w : World) (u : Nat → Value), j + r = k → NewI cb rb m ra rc sl j w0 w →
    Walk Try.prog main (DR V) (fun g w' => g = G (fr.finish (.pointer (some ⟨cb, 0, none⟩))) cs ∧ ∃ w1, NewI cb rb m ra rc sl k w0 w1 ∧ ∃ d, w' = w1.at d) (G (hdNewc st cb sa k c j u) (fr :: cs)) w := by
  intro r
  induction r with
  | zero =>
    intro j w u hj I
    have hjk : j = k := by omega
    subst hjk
    refine (newc_out st sa j c w u fr cs).mono ?_
    rintro g w' ⟨rfl, d, rfl⟩
    exact ⟨rfl, w, I, d, rfl⟩
  | succ r ih =>
    intro j w u hj I
    refine (newc_go hA st sa sl k c j (by omega) hkm hkl w0 w hsl hcb hrb I u (fr :: cs)).then ?_
    rintro _ _ ⟨u1, w1, rfl, I1, d, rfl⟩
    exact Walk.back (ih (j + 1) w1 u1 (by omega) I1) d
theorem huI64 : Try.prog.underlying 22 = some (.slice 2) := by kernel_rfl
theorem newc_in (sa : Option Addr) (n c : Nat) (hc : n ≤ c) (ha : sa = none ∧ c = 0 ∨ ∃ p, sa = some p) (hn : n ≤ 17592186044416) (cs : List Frame) (w : World) :
    Walk Try.prog main (DR V) (fun g w' => ∃ u w1, g = G (hdNewc (.slice sa n c) (w.heap.size + 1) sa (min n 64) c 0 u) cs ∧ SpI (w.heap.size + 1) w.heap.size (stN n) (some ⟨w.heap.size, 0, none⟩) (stN n - 1) sp0 w1 ∧ (∀ b, b < w.heap.size → w1.heap[b]? = w.heap[b]?) ∧ w1.heap.size = w.heap.size + 2 ∧ ∃ d, w' = w1.at d)
      (G (Frame.enter Try.prog 30 #[.slice sa n c] .normal) cs) w := by
  have hmn := @events_min_ints Try.prog
  have hk0 : min (n : Int) 64 = ((min n 64 : Nat) : Int) := by omega
  obtain ⟨k, hk⟩ : ∃ k, min n 64 = k := ⟨_, rfl⟩
  have h1 : k ≤ n := by omega
  have h2 : k ≤ c := by omega
  have h3 : (k : Int) ≤ c := by omega
  have h4 : (0 : Int) ≤ k := by omega
  have h5 : (k : Int) ≤ n := by omega
  rw [hk] at hk0 ⊢
  have hi := Option.some_get (show (Try.prog.info? 2).isSome = true by kernel_rfl)
  have hs := fun w => (run_slx huI64 hi.symm sa n c k h2 ha w #[]).1
  have hse := fun w es => (run_slx huI64 hi.symm sa n c k h2 ha w es).2
  clear hi
  rw [enter_at _ Try.func30 code30_is]
  simp only [Try.ntmps30, ez, Nat.reduceAdd, Nat.reduceSub]
  repeat (first | refine Walk.cx ?_ | (refine Walk.cReg ?_; simp only [z30]) | (refine Walk.oq ?_; try walk_nrm) | (refine Walk.un ?_; walk_nrm))
  refine Walk.callW (Post := fun v w' => v = .pointer (some ⟨w.heap.size + 1, 0, none⟩) ∧ SpI (w.heap.size + 1) w.heap.size (stN n) (some ⟨w.heap.size, 0, none⟩) (stN n - 1) sp0 w' ∧ (∀ b, b < w.heap.size → w'.heap[b]? = w.heap[b]?) ∧ w'.heap.size = w.heap.size + 2) ?_ (ho_of (by conv => lhs; whnf) (by kernel_rfl)) (by rfl) (by decide) rfl Try.func16 (by kernel_rfl) (by rfl) ?_
  · walk_nrm
    exact new_w n w
  rintro v w1 ⟨rfl, hI, hO, hS⟩
  generalize w.heap.size = T at *
  walk_nrm
  repeat (first | refine Walk.cx ?_ | (refine Walk.cReg ?_; simp only [z30]) | (refine Walk.oq ?_; try walk_nrm) | (refine Walk.un ?_; walk_nrm))
  refine Walk.ctl rfl (fun w => stepG_loop) ?_
  refine slots_walk (F := fun u => G (hdNewc (.slice sa n c) (T + 1) sa k c 0 u) cs) (fun u => .stop fun d => ⟨u, w1, rfl, hI, hO, hS, d, rfl⟩) ?_
  simp only [hdNewc]
  rfl
end
end
def NewcOut (xs : List Int) (w : World) (v : Value) (w' : World) : Prop := v = .pointer (some ⟨w.heap.size + 1, 0, none⟩) ∧ SpI (w.heap.size + 1) w.heap.size (stN xs.length) (some ⟨w.heap.size, 0, none⟩) (stN xs.length - 1) (spJ xs (min xs.length 64)) w' ∧ (∀ b, b < w.heap.size → w'.heap[b]? = w.heap[b]?) ∧ w.heap.size + 2 ≤ w'.heap.size
theorem newCounter_w {main : Bool} {V : Nat → Option Wait} (hA : ∀ b, Apart V b) (xa : Option Addr) (xs : List Int) (xc : Nat) (hxc : xs.length ≤ xc) (hxa : xa = none ∧ xc = 0 ∨ ∃ p, xa = some p) (hxn : xs.length ≤ 17592186044416) (w : World) (hx : SlIn xa xs w) : CallW Try.prog main V 30 #[.slice xa xs.length xc] w (NewcOut xs w) := by
  intro c cs
  obtain ⟨q1, q2, q3⟩ := stN_le xs.length
  refine (newc_in xa xs.length xc hxc hxa hxn (c :: cs) w).then ?_
  rintro _ _ ⟨u, w1, rfl, hI, hO, hS, d, rfl⟩
  refine Walk.back ?_ d
  have h0 : spJ xs 0 = sp0 := by funext i; simp [spJ, sp0]
  rw [← h0] at hI
  refine (newc_loop hA _ xa xs (min xs.length 64) xc (by omega) (by omega) w hx (by omega) (Nat.le_refl _) c cs (min xs.length 64) 0 w1 u (by omega) ⟨hI, hO, by omega⟩).mono ?_
  rintro g w' ⟨rfl, w2, I2, d2, rfl⟩
  refine ⟨_, ⟨rfl, I2.I.old fun _ _ => rfl, I2.old, ?_⟩, rfl⟩
  show w.heap.size + 2 ≤ w2.heap.size
  have := I2.I.lt
  omega
noncomputable def reg14_0 := rg Try.f14.body [0]
noncomputable def reg14_1 := rg Try.f14.body [1, 0]
noncomputable def reg14_2 := rg Try.f14.body [1, 1, 0]
noncomputable def reg14_3 := rg Try.f14.body [1, 1, 1, 0]
noncomputable def reg14_4 := rg Try.f14.body [1, 1, 1, 1, 0]
theorem z14 : List.range reg14_0.size = [0] ∧ List.range reg14_1.size = [0, 1, 2] ∧ List.range reg14_2.size = [0, 1, 2, 3, 4, 5, 6, 7] ∧ List.range reg14_3.size = [0, 1, 2, 3] ∧ List.range reg14_4.size = [0, 1] := by refine ⟨?_, ?_, ?_, ?_, ?_⟩ <;> kernel_rfl
theorem code14_is : Try.f14.body = some (.seq (.region 0 reg14_0 false) (.seq (.region 1 reg14_1 false) (.seq (.region 2 reg14_2 false) (.seq (.region 3 reg14_3 false) (.seq (.region 4 reg14_4 false) (.ret)))))) := by kernel_rfl
def SPBack (T0 cb rb m : Nat) (ra : Option Addr) (rc : Nat) (fr c : Frame) (cs : List Frame) : Prop := ∀ (A na : Nat) (oo : Option Addr) (ol ok : Nat) (stuck : Bool) (s : Sp) (w : World), cb ≠ T0 → rb ≠ T0 → SpI cb rb m ra rc s w → w.heap[T0]? = some (.cells #[.slice none 0 0, .slice none 0 0, .slice none 0 0, .bool false] 31) →
  Walk Try.prog true (DR (fun _ => none)) (fun g w' => ∃ B, g = G (c.finish (.agg #[.slice (some ⟨A, 0, none⟩) na na, .slice oo ol ok, .slice (some ⟨B, 0, none⟩) m m, .bool stuck])) cs ∧ w.heap.size ≤ B ∧ Told w' B m (stL s m) ∧ (∀ b, b < w.heap.size → b ≠ T0 → ¬ (b = cb ∨ (1 < m ∧ b = rb)) → w'.heap[b]? = w.heap[b]?) ∧ w.heap.size ≤ w'.heap.size)
    (G (fr.finish (.agg #[.slice (some ⟨A, 0, none⟩) na na, .slice oo ol ok, .slice none 0 0, .bool stuck])) (c :: cs)) w
theorem splay_in (xa : Option Addr) (xs : List Int) (xc : Nat) (hxc : xs.length ≤ xc) (hxa : xa = none ∧ xc = 0 ∨ ∃ p, xa = some p) (hxn : xs.length ≤ 17592186044416) (tv sv : Value) (most : Int) (c : Frame) (cs : List Frame) (w : World) (hx : SlIn xa xs w) :
    Walk Try.prog true (DR (fun _ => none)) (fun g w' => ∃ fr, g = G (Frame.enter Try.prog 31 #[tv, .func (.func 32) #[.pointer (some ⟨w.heap.size + 2, 0, none⟩)] #[], sv, .int .i64 most] .normal) (fr :: c :: cs) ∧ SpI (w.heap.size + 2) (w.heap.size + 1) (stN xs.length) (some ⟨w.heap.size + 1, 0, none⟩) (stN xs.length - 1) (spJ xs (min xs.length 64)) w' ∧ (∀ b, b < w.heap.size → w'.heap[b]? = w.heap[b]?) ∧ w.heap.size + 3 ≤ w'.heap.size ∧
        w'.heap[w.heap.size]? = some (.cells #[.slice none 0 0, .slice none 0 0, .slice none 0 0, .bool false] 31) ∧ SPBack w.heap.size (w.heap.size + 2) (w.heap.size + 1) (stN xs.length) (some ⟨w.heap.size + 1, 0, none⟩) (stN xs.length - 1) fr c cs)
      (G (Frame.enter Try.prog 14 #[.slice xa xs.length xc, tv, sv, .int .i64 most] .normal) (c :: cs)) w := by
  have hA : ∀ b, Apart (fun _ => none) b := fun b => ⟨fun _ _ _ _ h => (by cases h), fun _ _ h => (by cases h)⟩
  obtain ⟨fsT, huT⟩ := structT 31 (by kernel_rfl)
  rw [enter_at _ Try.func14 code14_is]
  simp only [Try.ntmps14, ez, Nat.reduceAdd, Nat.reduceSub]
  repeat (first | refine Walk.cx ?_ | (refine Walk.cReg ?_; simp only [z14]) | (refine Walk.oq ?_; try walk_nrm) | (refine Walk.un ?_; walk_nrm))
  (refine Walk.oa ?_; try walk_nrm)
  have s1 : (w.alloc (.cells #[.slice none 0 0, .slice none 0 0, .slice none 0 0, .bool false] 31)).heap.size = w.heap.size + 1 := by simp
  have o1 : ∀ b, b < w.heap.size → (w.alloc (.cells #[.slice none 0 0, .slice none 0 0, .slice none 0 0, .bool false] 31)).heap[b]? = w.heap[b]? := fun b hb => heap_new_lt _ _ hb
  have d1 := heap_alloc_new w (.cells #[.slice none 0 0, .slice none 0 0, .slice none 0 0, .bool false] 31)
  generalize hN : w.heap.size = T0 at *
  generalize w.alloc (.cells #[.slice none 0 0, .slice none 0 0, .slice none 0 0, .bool false] 31) = w1 at *
  repeat (first | refine Walk.cx ?_ | (refine Walk.cReg ?_; simp only [z14]) | (refine Walk.oq ?_; try walk_nrm) | (refine Walk.un ?_; walk_nrm))
  have hx1 : SlIn xa xs w1 := hx.old (fun b hb => o1 b (by omega))
  refine Walk.callW (Post := NewcOut xs w1) ?_ (ho_of (by conv => lhs; whnf) (by kernel_rfl)) (by rfl) (by decide) rfl Try.func30 (by kernel_rfl) (by rfl) ?_
  · walk_nrm
    exact newCounter_w hA xa xs xc hxc hxa hxn w1 hx1
  rintro v w2 ⟨rfl, hI, hO, hS⟩
  rw [s1] at hI hO hS ⊢
  generalize hn : stN xs.length = m at *
  clear hx1
  walk_nrm
  repeat (first | refine Walk.cx ?_ | (refine Walk.cReg ?_; simp only [z14]) | (refine Walk.oq ?_; try walk_nrm) | (refine Walk.un ?_; walk_nrm))
  refine Walk.callE (ho_of (by conv => lhs; whnf) (by kernel_rfl)) (by rfl) (by decide) rfl Try.func31 (by kernel_rfl) (by rfl) ?_
  walk_nrm
  refine .stop fun d => ⟨_, rfl, hI.old fun _ _ => rfl, fun b hb => (hO b (by omega)).trans (o1 b (by omega)), hS, (hO T0 (by omega)).trans d1, ?_⟩
  intro A na oo ol ok stuck s w4 hne hnr I4 hT
  refine Walk.finish (ho_of (by conv => lhs; whnf) (by kernel_rfl)) ?_
  walk_nrm
  (refine Walk.oa ?_; try walk_nrm)
  have d5 := heap_alloc_new w4 (.cells #[.slice none 0 0, .slice none 0 0, .slice none 0 0, .bool false] 31)
  have s5 : (w4.alloc (.cells #[.slice none 0 0, .slice none 0 0, .slice none 0 0, .bool false] 31)).heap.size = w4.heap.size + 1 := by simp
  have o5 : ∀ b, b < w4.heap.size → (w4.alloc (.cells #[.slice none 0 0, .slice none 0 0, .slice none 0 0, .bool false] 31)).heap[b]? = w4.heap[b]? := fun b hb => heap_new_lt _ _ hb
  have hT0 : T0 < w4.heap.size := (Array.getElem?_eq_some_iff.1 hT).1
  generalize hT1 : w4.heap.size = T1 at *
  generalize w4.alloc (.cells #[.slice none 0 0, .slice none 0 0, .slice none 0 0, .bool false] 31) = w5 at *
  refine Walk.storeS 31 (.tmp 10) (.tmp 18) (ho_of (by conv => lhs; whnf) (by kernel_rfl)) (by rfl) (by decide) rfl T1 #[.slice (some ⟨A, 0, none⟩) na na, .slice oo ol ok, .slice none 0 0, .bool stuck] _ 31 rfl rfl d5 (by kernel_rfl) (by rfl) (by simp [Value.oneCell']) (hA _) ?_
  have d6 := setRow_self (cells := #[.slice (some ⟨A, 0, none⟩) na na, .slice oo ol ok, .slice none 0 0, .bool stuck]) d5
  have o6 : ∀ b, b < T1 → (w5.setRow T1 #[.slice (some ⟨A, 0, none⟩) na na, .slice oo ol ok, .slice none 0 0, .bool stuck]).heap[b]? = w4.heap[b]? := fun b hb => (setRow_other _ _ (by omega)).trans (o5 b (by omega))
  have s6 := setRow_size w5 T1 #[.slice (some ⟨A, 0, none⟩) na na, .slice oo ol ok, .slice none 0 0, .bool stuck]
  rw [s5] at s6
  generalize w5.setRow T1 #[.slice (some ⟨A, 0, none⟩) na na, .slice oo ol ok, .slice none 0 0, .bool stuck] = w6 at *
  have I6 : SpI (T0 + 2) (T0 + 1) m (some ⟨T0 + 1, 0, none⟩) (m - 1) s w6 := I4.old fun b hb => o6 b (by
    rcases hb with rfl | ⟨hm, rfl⟩
    · have := I4.lt; omega
    · have := I4.ltr hm; omega)
  walk_nrm
  repeat (first | refine Walk.cx ?_ | (refine Walk.cReg ?_; simp only [z14]) | (refine Walk.oq ?_; try walk_nrm) | (refine Walk.un ?_; walk_nrm))
  refine Walk.callW (Post := AllOut (T0 + 2) (T0 + 1) m (some ⟨T0 + 1, 0, none⟩) (m - 1) s w6) ?_ (ho_of (by conv => lhs; whnf) (by kernel_rfl)) (by rfl) (by decide) rfl Try.func21 (by kernel_rfl) (by rfl) ?_
  · walk_nrm
    exact all_w hA s w6 I6
  rintro v w7 ⟨⟨B, rfl, hB1, hB2, hTold⟩, I7, hold7, hs7⟩
  have hlt4 : T0 + 2 < w4.heap.size ∧ (1 < m → T0 + 1 < w4.heap.size) := ⟨I4.lt, fun h => I4.ltr h⟩
  rw [hT1] at hlt4
  have d7 := (hold7 T1 (by omega) (by omega)).trans d6
  have c7 := (cell_of d7 2).trans rfl
  have z7 := frozen_of d7 2
  walk_nrm
  repeat (first | (refine Walk.oq ?_; try walk_nrm) | (refine Walk.un ?_; walk_nrm))
  (have hfr := (hA T1).1 ⟨T1, 2, none⟩ rfl; refine Walk.os hfr c7 ?_; clear hfr; try walk_nrm)
  have d8 : (w7.setCell ⟨T1, 2, none⟩ (.slice (some ⟨B, 0, none⟩) m m)).heap[T1]? = some (.cells #[.slice (some ⟨A, 0, none⟩) na na, .slice oo ol ok, .slice (some ⟨B, 0, none⟩) m m, .bool stuck] 31) := by
    rw [heap_set_self _ _ d7]
    simp
  have o8 : ∀ b, b ≠ T1 → (w7.setCell ⟨T1, 2, none⟩ (.slice (some ⟨B, 0, none⟩) m m)).heap[b]? = w7.heap[b]? := fun b hb => heap_set_other _ _ _ _ hb
  have s8 := size_set w7 ⟨T1, 2, none⟩ (.slice (some ⟨B, 0, none⟩) m m)
  clear c7 z7
  generalize w7.setCell ⟨T1, 2, none⟩ (.slice (some ⟨B, 0, none⟩) m m) = w8 at *
  repeat (first | refine Walk.cx ?_ | (refine Walk.cReg ?_; simp only [z14]) | (refine Walk.oq ?_; try walk_nrm) | (refine Walk.un ?_; walk_nrm))
  refine Walk.loadS 31 (.tmp 10) (ho_of (by conv => lhs; whnf) (by kernel_rfl)) (by rfl) (by decide) rfl T1 0 [.slice (some ⟨A, 0, none⟩) na na, .slice oo ol ok, .slice (some ⟨B, 0, none⟩) m m, .bool stuck] (.struct fsT) rfl (fun j v hj => ?_) huT rfl (by kernel_rfl) ?_
  · rw [Nat.zero_add, cell_of d8]
    simpa using hj
  have dT : w8.heap[T0]? = some (.cells #[.slice none 0 0, .slice none 0 0, .slice none 0 0, .bool false] 31) := (o8 T0 (by omega)).trans ((hold7 T0 (by omega) (by omega)).trans ((o6 T0 (by omega)).trans hT))
  walk_nrm
  refine Walk.storeS 31 (.tmp 8) (.tmp 22) (ho_of (by conv => lhs; whnf) (by kernel_rfl)) (by rfl) (by decide) rfl T0 #[.slice (some ⟨A, 0, none⟩) na na, .slice oo ol ok, .slice (some ⟨B, 0, none⟩) m m, .bool stuck] _ 31 rfl rfl dT (by kernel_rfl) (by rfl) (by simp [Value.oneCell']) (hA _) ?_
  have d9 := setRow_self (cells := #[.slice (some ⟨A, 0, none⟩) na na, .slice oo ol ok, .slice (some ⟨B, 0, none⟩) m m, .bool stuck]) dT
  walk_nrm
  repeat (first | refine Walk.cx ?_ | (refine Walk.cReg ?_; simp only [z14]) | (refine Walk.oq ?_; try walk_nrm) | (refine Walk.un ?_; walk_nrm))
  refine Walk.onCell (T := T0) rfl rfl rfl Try.func14 rfl (by rfl) d9 (by kernel_rfl) (by kernel_rfl) (.stop fun d => ⟨B, rfl, by omega, ?_, fun b hb hbT hbs => ?_, ?_⟩)
  · obtain ⟨arr, h1, h2⟩ := hTold
    exact ⟨arr, (setRow_other _ _ (by omega)).trans ((o8 B (by omega)).trans h1), h2⟩
  · exact (setRow_other _ _ hbT).trans ((o8 b (by omega)).trans ((hold7 b (by omega) hbs).trans (o6 b hb)))
  · show T1 ≤ (w8.setRow _ _).heap.size
    rw [setRow_size]
    omega
theorem stL_len (s : Sp) (m : Nat) : (stL s m).length = m := by simp [stL]
structure SPAny (n : Nat) (L : La) (stx : L.Sg → List Int) (F : OX L × List Nat) (w w' : World) (cells : Array Value) : Prop where
  tr : TrA cells n (fun i => (F.1.th i).ans) F.2 (stx F.1.s) (stuckO n F.1) w'
  old : ∀ b, b < w.heap.size → w'.heap[b]? = w.heap[b]?
  size : w.heap.size ≤ w'.heap.size
theorem splay_any (xa : Option Addr) (xs : List Int) (xc : Nat) (hxc : xs.length ≤ xc) (hxa : xa = none ∧ xc = 0 ∨ ∃ p, xa = some p) (hxn : xs.length ≤ 17592186044416) (tv : Value) (most : Int) (ta : Option Addr) (tb toff tc n : Nat) (hta : 0 < n → ta = some ⟨tb, toff, none⟩) (hn : n ≤ 64) (oa : Nat → Option Addr) (ln oc : Nat → Nat) (ops : Nat → List OpV) (sa : Option Addr) (sc : Nat) (sl : List Int) (hsl : sl.length ≤ 17592186044416) (c : Frame) (cs : List Frame) (w : World) (hx : SlIn xa xs w)
    (I : OpsIn tb toff n oa ln oc ops w)
    (hsc : ∀ (j : Nat) (z : Int), sl[j]? = some z → ∃ s so, sa = some ⟨s, so, none⟩ ∧ w.cell? ⟨s, so + j, none⟩ = some (.int .i64 z))
    (hp : ∀ w' : World, (∀ b, b < w.heap.size → w'.heap[b]? = w.heap[b]?) → CallV Try.prog true (fun _ => none) 58 #[tv] w' (.slice ta n tc) w') :
    Runs (fun g w' => ∃ cells, SPAny n (spLa (w.heap.size + 2) (w.heap.size + 1) (stN xs.length) (some ⟨w.heap.size + 1, 0, none⟩) (stN xs.length - 1)) (fun s => stL s (stN xs.length)) (playO (spLa (w.heap.size + 2) (w.heap.size + 1) (stN xs.length) (some ⟨w.heap.size + 1, 0, none⟩) (stN xs.length - 1)) (spJ xs (min xs.length 64)) ops n most sl) w w' cells ∧ g = G (c.finish (.agg cells)) cs) (G (Frame.enter Try.prog 14 #[.slice xa xs.length xc, tv, .slice sa sl.length sc, .int .i64 most] .normal) (c :: cs)) w := by
  obtain ⟨q1, q2, q3⟩ := stN_le xs.length
  refine Runs.walk (splay_in xa xs xc hxc hxa hxn tv (.slice sa sl.length sc) most c cs w hx) ?_
  rintro _ w1 ⟨fr, rfl, hI, hO, hS, hT, hB⟩
  have hc1 : ∀ {b j : Nat} {v : Value}, w.cell? ⟨b, j, none⟩ = some v → w1.cell? ⟨b, j, none⟩ = some v := fun {b j v} e => (World.cell?_of_block (a := ⟨b, j, none⟩) (hO b (cell_lt' e))).trans e
  have hsh : ∀ b, b < w.heap.size → ¬ (b = w.heap.size + 2 ∨ (1 < stN xs.length ∧ b = w.heap.size + 1)) := fun b hb h => by omega
  have I1 : OpsIn tb toff n oa ln oc ops w1 := I.old hO
  refine Runs.then (ops_any (L := spLa (w.heap.size + 2) (w.heap.size + 1) (stN xs.length) (some ⟨w.heap.size + 1, 0, none⟩) (stN xs.length - 1)) sdo_ok (spJ xs (min xs.length 64)) tv most ta tb toff tc n hta hn oa ln oc ops sa sc sl hsl fr (c :: cs) w1 I1 hI (fun i hi j o ho b off e => ?_) (fun j z hz => ?_) (fun w' hw' => hp w' fun b hb => (hw' b (by omega)).trans (hO b hb))) ?_
  · obtain ⟨b', off', e', c0, _⟩ := I.ops i hi j o ho
    rw [e] at e'
    injection e' with e'
    injection e' with e' _
    subst e'
    exact hsh b (cell_lt' c0)
  · obtain ⟨s, so, e, hc⟩ := hsc j z hz
    exact ⟨s, so, e, hc1 hc, hsh s (cell_lt' hc)⟩
  · rintro _ w4 ⟨cells, H, rfl⟩
    obtain ⟨A, oo, ok, hd, arr, rfl, hrow, hAl, hAr, hAi, hans⟩ := H.all
    have hIf := H.I
    have hold := H.old
    have hsz := H.size
    have hT4 : w4.heap[w.heap.size]? = some (.cells #[.slice none 0 0, .slice none 0 0, .slice none 0 0, .bool false] 31) := (hold _ (by omega) (fun h : _ ∨ _ => by omega)).trans hT
    refine Runs.walk (hB A n oo _ ok _ _ w4 (by omega) (by omega) hIf hT4) ?_
    rintro _ w5 ⟨B, rfl, hBsz, hTold, hold5, hsz5⟩
    generalize playO (spLa (w.heap.size + 2) (w.heap.size + 1) (stN xs.length) (some ⟨w.heap.size + 1, 0, none⟩) (stN xs.length - 1)) (spJ xs (min xs.length 64)) ops n most sl = F at *
    refine .now ⟨_, ⟨⟨some ⟨A, 0, none⟩, n, oo, ok, some ⟨B, 0, none⟩, stN xs.length, ?_, ?_, ?_, fun i hi => ?_⟩, fun b hb => ?_, by omega⟩, rfl⟩
    · rw [show (stL F.1.s (stN xs.length)).length = stN xs.length from stL_len _ _]
      rfl
    · refine numA_of (base := 0) (e := 3) (m := F.2.length) (tc := ok) ?_
      have : ((F.2.map fun i => ((i : Nat) : Int)).map (Value.int .i64)) = (F.2.map fun i => .int .i64 (i : Nat)) := by simp
      rw [this]
      refine row_same (row_raise hrow fun b hb => Nat.zero_le _) fun b hb => hold5 b (hrow.lt b hb).2 ?_ ?_ <;> (have := (hrow.lt b hb).1; omega)
    · intro i x hx
      refine ⟨B, 0, rfl, ?_⟩
      rw [Nat.zero_add]
      exact hTold.cell i x hx
    · obtain ⟨ta2, tc2, e, hr⟩ := hans i hi
      refine ⟨A, 0, ta2, tc2, rfl, ?_, ?_⟩
      · rw [Nat.zero_add]
        refine (cell_of ((hold5 A (Array.getElem?_eq_some_iff.1 hAr).1 (by omega) (by omega)).trans hAr) i).trans ?_
        rw [hAi i hi, e]
      · rw [e] at hr
        refine ansA_of (base := w1.heap.size) (m := ((F.1.th i).ans).length) (tc := tc2) ?_ rfl
        refine row_same hr fun b hb => hold5 b (hr.lt b hb).2 ?_ ?_ <;> (have := (hr.lt b hb).1; omega)
    · exact (hold5 b (by omega) (by omega) (hsh b hb)).trans ((hold b (by omega) (hsh b hb)).trans (hO b hb))
section
section
variable {X : Type} {A : Abs X}
theorem fold_short : ∀ (l : List Int) (st : X × List Nat), (st.2.length : Int) ≤ A.most → ((l.foldl (stepA A) st).2.length : Int) ≤ A.most
  | [], _, h => h
  | z :: l, st, h => fold_short l _ (step_short h z)
theorem foldn_short : ∀ (l : List Nat) (st : X × List Nat), (st.2.length : Int) ≤ A.most → ((l.foldl (fun st i => stepA A st (i : Nat)) st).2.length : Int) ≤ A.most
  | [], _, h => h
  | z :: l, st, h => foldn_short l _ (step_short h _)
theorem rest_short : ∀ (f : Nat) (st : X × List Nat), (st.2.length : Int) ≤ A.most → ((restA A f st).2.length : Int) ≤ A.most
  | 0, _, h => h
  | f + 1, st, h => by
    unfold restA
    split
    · exact h
    · exact rest_short f _ (foldn_short _ _ h)
end
theorem playO_short (L : La) (s0 : L.Sg) (ops : Nat → List OpV) (n : Nat) (most : Int) (sl : List Int) : (playO L s0 ops n most sl).2.length ≤ 1048576 := by
  have h : ((playO L s0 ops n most sl).2.length : Int) ≤ min (max most 0) 1048576 := rest_short (A := absO L n (min (max most 0) 1048576) ops) _ _ (fold_short _ _ (by show ((0 : Nat) : Int) ≤ min (max most 0) 1048576; omega))
  omega
def RunR (n m a0 : Nat) (L : La) (stx : L.Sg → List Int) (W w : World) (F : OX L × List Nat) (v : Value) (w' : World) : Prop := ∃ cells, v = .agg cells ∧ (∀ w'' : World, (∀ b, a0 ≤ b → b < w'.heap.size → w''.heap[b]? = w'.heap[b]?) → TrA cells n (fun i => (F.1.th i).ans) F.2 (stx F.1.s) (stuckO n F.1) w'') ∧ (∀ b, b < a0 → w'.heap[b]? = W.heap[b]?) ∧ w.heap.size ≤ w'.heap.size ∧ ∀ i, i < n → (F.1.th i).ans.length ≤ 65536
section
variable {a0 M cg cc n m R : Nat} {main : Bool} {cb rb rc : Nat} {ra : Option Addr} {ops : Nat → List OpV} {W : World}
theorem run_tail (hm : m ≤ 64) (hn : n ≤ 64) (hol : ∀ i, i < n → (ops i).length ≤ 65536) (F : OX (spLa cb rb m ra rc) × List Nat) (oa : Option Addr) (oc : Nat) (u : Nat → Value) (c : Frame) (cs : List Frame) (w : World) (H : RS5 cb rb rc ra a0 M cg cc m R ops W n F oa oc w) (hRa : a0 ≤ R) :
    Walk Try.prog main (DR (fun _ => none)) (fun g w' => ∃ v, RunR n m a0 (spLa cb rb m ra rc) (fun s => stL s m) W w F v w' ∧ g = G (c.finish v) cs) (G (hdRunE M R n (.slice oa F.2.length oc) u) (c :: cs)) w := by
  obtain ⟨tb, tc, ta, T, N, hF⟩ := H.N
  have hRl := (Array.getElem?_eq_some_iff.1 N.res).1
  have hl := RO5.left (main := main) (most := 0) hn H
  have hl : CallV Try.prog main (fun _ => none) 50 #[.pointer (some ⟨M, 0, none⟩)] w (.bool (stuckO n F.1)) w := hl
  have hav : ∀ i, i < n → ∃ aa ac, (T i).av = .slice aa (T i).ans.length ac ∧ w.ownsRow a0 43 3 (.slice aa (T i).ans.length ac) (T i).ans.length (ansRow (T i).ans) ∧ w.cell? ⟨tb, i * 7 + 1, none⟩ = some (.slice aa (T i).ans.length ac) ∧ (T i).ans = (F.1.th i).ans ∧ (∀ b, (Value.slice aa (T i).ans.length ac).ownBlock = some b → b ≠ R) := fun i hi => by
    have hr := (N.I.rows i hi).rA
    obtain ⟨aa, ac, e⟩ := row_shape hr
    have hc := N.I.tcell hi (j := 1) (v := (T i).av) rfl
    refine ⟨aa, ac, e, by rw [← e]; exact hr, by rw [← e]; exact hc, (N.th i hi).ans, fun b hb hbR => N.resS ?_⟩
    rw [← e] at hb
    subst hbR
    exact .inr (.inr (.inr ⟨i, hi, .inl hb⟩))
  refine (last_in M R n m oa F.2.length oc (stuckO n F.1) (stL F.1.s m) u (c :: cs) w hl (state_w w N.I hm)).then ?_
  rintro _ w1 ⟨sa, sc, Q, ⟨u1, rfl⟩, hQ, hQb, hC1, hst, hs1, hsQ⟩
  have loop : ∀ (r i : Nat) (ha : Option Addr) (hc : Nat) (u : Nat → Value) (w2 : World), i + r = n → w2.heap[Q]? = some (.cells (trC (.slice ha i hc) (.slice oa F.2.length oc) (.slice sa m sc) (stuckO n F.1)) 31) → w2.ownsRow (Q + 1) 41 1 (.slice ha i hc) i (hdRow (fun i => (T i).av) i) → Chg (fun x => x = Q ∨ Q + 1 ≤ x) w1 w2 →
      Walk Try.prog main (DR (fun _ => none)) (fun g w' => ∃ v, RunR n m a0 (spLa cb rb m ra rc) (fun s => stL s m) W w F v w' ∧ g = G (c.finish v) cs) (G (hdRun4 M R n Q i u) (c :: cs)) w2 := by
    intro r
    induction r with
    | zero =>
      intro i ha hc u w2 hi h2 h3 h4
      obtain rfl : i = n := hi
      have hR2 : w2.heap[R]? = some zTr := (h4.same R (by have := hC1.size; omega) (by omega)).trans ((hC1.same R hRl id).trans N.res)
      have hs4 := h4.size
      refine (last_out M R i Q _ _ _ _ u c cs w2 h2 hR2 (by simp [Value.oneCell'])).mono ?_
      rintro g w' ⟨rfl, hC5⟩
      have hs5 := hC5.size
      have far : ∀ b, b < w.heap.size → b ≠ R → w'.heap[b]? = w.heap[b]? := fun b hb hbR => (hC5.same b (by have := hC1.size; omega) hbR).trans ((h4.same b (by have := hC1.size; omega) (by omega)).trans (hC1.same b hb id))
      refine ⟨_, ⟨_, rfl, fun w'' h'' => ⟨⟨ha, hc, oa, oc, sa, sc, ?_, ?_, ?_, fun j hj => ?_⟩⟩, fun b hb => ?_, by omega, fun j hj => ?_⟩, rfl⟩
      · have e : (stL F.1.s m).length = m := stL_len _ _
        show _ = trC _ _ (.slice sa (stL F.1.s m).length sc) _
        rw [e]; rfl
      · refine numA_of (base := a0) (e := 3) (m := F.2.length) (tc := oc) ?_
        have e : ((F.2.map fun i => ((i : Nat) : Int)).map (Value.int .i64)) = ordRow F.2 := by simp [ordRow]
        rw [e]
        exact row_same H.row fun g hg => (h'' g (H.row.lt g hg).1 (by have := (H.row.lt g hg).2; have := hC1.size; omega)).trans (far g (H.row.lt g hg).2 (hF g hg).2)
      · refine numA_of (base := w.heap.size) (e := 2) (m := m) (tc := sc) ?_
        refine row_same hst fun g hg => ?_
        have g1 := (hst.lt g hg).1
        have g2 := hsQ g hg
        have gN := N.le
        exact (h'' g (by omega) (by omega)).trans <| (hC5.same g (by omega) (by omega)).trans (h4.same g (by omega) (by omega))
      · obtain ⟨aa, ac, e1, e2, e3, e4, e5⟩ := hav j hj
        obtain ⟨g, eg, hg, hgl, hcell⟩ := row_at h3 (j := j) (x := (T j).av) (by simp [hdRow, hj])
        refine ⟨g, 0, aa, ac, eg, ?_, ?_⟩
        · rw [Nat.zero_add, ← e4, ← e1]
          have gN := N.le
          have gC := hC1.size
          exact (World.cell?_of_block (a := ⟨g, j, none⟩) ((h'' g (by omega) (by omega)).trans (hC5.same g hgl (by omega)))).trans hcell
        · rw [← e4]
          refine ansA_of (base := a0) (m := (T j).ans.length) (tc := ac) ?_ rfl
          exact row_same e2 fun b hb => (h'' b (e2.lt b hb).1 (by have := (e2.lt b hb).2; have := hC1.size; omega)).trans (far b (e2.lt b hb).2 (e5 b hb))
      · have := N.le
        exact (far b (by omega) (by omega)).trans (N.old b hb)
      · obtain ⟨aa, ac, e1, e2, e3, e4, e5⟩ := hav j hj
        rw [← e4]
        have hal := N.al j hj
        have hp : (T j).at' ≤ (ops j).length := by
          rcases (N.th j hj).pos with ⟨_, _, h, _⟩ | ⟨_, o, _, h, _⟩
          · omega
          · have := (List.getElem?_eq_some_iff.1 h).1; omega
        have := hol j hj
        omega
    | succ r ih =>
      intro i ha hc u w2 hi h2 h3 h4
      obtain ⟨aa, ac, e1, e2, e3, e4, e5⟩ := hav i (by omega)
      obtain ⟨l1, l2, l3⟩ := N.I.lt
      have l3 := l3 (by omega)
      have hs4 := h4.size
      have hcell : ∀ {x j : Nat} {v : Value}, w.cell? ⟨x, j, none⟩ = some v → w2.cell? ⟨x, j, none⟩ = some v := fun {x j v} h => (World.cell?_of_block (a := ⟨x, j, none⟩) ((h4.same x (by have := cell_lt' h; have := hC1.size; omega) (by have := cell_lt' h; omega)).trans (hC1.same x (cell_lt' h) id))).trans h
      refine (last_go M R n Q i tb tc _ _ _ ha hc aa (T i).ans.length ac (fun i => (T i).av) u (c :: cs) (Q + 1) w2 h2 h3 (by omega) hn e1 (by omega) (by omega) (hcell (N.I.cT (by omega))) (hcell e3) (by omega) (by omega)).then ?_
      rintro g w3 ⟨g', cap, ⟨u', rfl⟩, m1, m2, m3⟩
      exact ih (i + 1) _ cap u' w3 (by omega) m1 m2 (h4.trans m3 fun x hx h => h)
  exact loop n 0 none 0 u1 w1 (by omega) hQb (rowNil _ _ _ _) Chg.refl
theorem run_w (hm0 : 0 < m) (hm : m ≤ 64) (C0 : Nat → Int) (T : Nat → R5) (b off n0 tcc N : Nat) (hN : N = min n0 64) (va : Option Addr) (hv : 0 < N → va = some ⟨b, off, none⟩) (oa : Nat → Option Addr) (ln oc : Nat → Nat) (ops : Nat → List OpV) (sa : Option Addr) (sc : Nat) (sl : List Int) (most : Int) (ha0 : a0 = W.heap.size) (O : OpsIn b off N oa ln oc ops W)
    (hsl : sl.length ≤ 17592186044416) (hs : ∀ (j : Nat) (z : Int), sl[j]? = some z → ∃ s so, sa = some ⟨s, so, none⟩ ∧ W.cell? ⟨s, so + j, none⟩ = some (.int .i64 z)) (w : World) (I : M5 a0 M cg cc 0 0 0 m none C0 T w) (old : ∀ b, b < a0 → w.heap[b]? = W.heap[b]?) (hle : a0 ≤ w.heap.size) :
    CallW Try.prog main (fun _ => none) 34 #[.pointer (some ⟨M, 0, none⟩), .slice va n0 tcc, .slice sa sl.length sc, .int .i64 most] w (RunR N m a0 (spLa cb rb m ra rc) (fun s => stL s m) W w (playO (spLa cb rb m ra rc) C0 ops N most sl)) := by
  intro c cs
  have hol : ∀ i, i < N → (ops i).length ≤ 65536 := fun i hi => by have := O.len i hi; omega
  have hN64 : N ≤ 64 := by omega
  refine (into_run M va n0 tcc (.slice sa sl.length sc) most (c :: cs) w).then ?_
  rw [← hN]
  rintro _ _ ⟨⟨u0, rfl⟩, d0, rfl⟩
  refine Walk.back ?_ d0
  obtain ⟨l1, l2, l3⟩ := I.lt
  have hsz : (w.alloc zTr).heap.size = w.heap.size + 1 := by simp
  have H0 : RN5 cb rb rc ra a0 M cg cc m w.heap.size ops W M 0 none T 0 (x0O (spLa cb rb m ra rc) C0) (w.alloc zTr) := by
    refine ⟨(I.same fun b hb => heap_new_lt _ _ hb).noT, fun _ => ⟨rfl, rfl⟩, fun _ => rfl, fun i hi => absurd hi (Nat.not_lt_zero i), fun i hi => absurd hi (Nat.not_lt_zero i), fun i hi => absurd hi (Nat.not_lt_zero i), heap_alloc_new _ _, ?_, fun b hb => (heap_new_lt _ _ (by omega)).trans (old b hb), by omega⟩
    rintro (h | h | h | ⟨k, hk, _⟩)
    · omega
    · omega
    · omega
    · exact absurd hk (Nat.not_lt_zero k)
  refine (run_threads (main := main) hN64 hm0 b off n0 tcc (.slice sa sl.length sc) (min (max most 0) 1048576) (min (max most 0) 1048576) oa ln oc ops (by omega) W ha0 O (.slice va n0 tcc) (fun h => by rw [hv h]) (c :: cs) N 0 M 0 none T _ u0 _ (by omega) H0).then ?_
  rintro _ w1 ⟨⟨u1, rfl⟩, tb, tc', ta', T1, H1⟩
  have hs1 := H1.le
  refine (run_end0 M _ _ _ w.heap.size N u1 (c :: cs) w1).then ?_
  rintro _ _ ⟨⟨u2, rfl⟩, d, rfl⟩
  refine Walk.back ?_ d
  have HO : RS5 cb rb rc ra a0 M cg cc m w.heap.size ops W N (bornsA (absO (spLa cb rb m ra rc) N (min (max most 0) 1048576) ops) N 0 (x0O (spLa cb rb m ra rc) C0), []) none 0 w1 := ⟨⟨tb, tc', ta', T1, H1, fun b hb => by cases hb⟩, rowNil _ _ _ _⟩
  refine (run_sched (main := main) (most := min (max most 0) 1048576) hm0 hm hN64 hol (by omega) sa sc sl hsl (fun j z hz => by
    obtain ⟨s, so, e, h⟩ := hs j z hz
    exact ⟨s, so, e, by rw [ha0]; exact cell_lt' h, h⟩) (c :: cs) sl.length 0 _ none 0 u2 w1 (by omega) HO).then ?_
  rintro _ w2 ⟨oa2, oc2, ⟨u3, rfl⟩, H2⟩
  rw [List.drop_zero] at H2 ⊢
  refine (run_rest (main := main) (most := min (max most 0) 1048576) hm0 hm hN64 hol (by omega) (c :: cs) (min (max most 0) 1048576).toNat _ oa2 oc2 u3 w2 (by omega) H2).then ?_
  rintro _ w3 ⟨oa3, oc3, ⟨u4, rfl⟩, H3⟩
  have eF : restA (absO (spLa cb rb m ra rc) N (min (max most 0) 1048576) ops) (min (max most 0) 1048576).toNat (sl.foldl (stepA (absO (spLa cb rb m ra rc) N (min (max most 0) 1048576) ops)) (bornsA (absO (spLa cb rb m ra rc) N (min (max most 0) 1048576) ops) N 0 (x0O (spLa cb rb m ra rc) C0), [])) = playO (spLa cb rb m ra rc) C0 ops N most sl := rfl
  rw [eF] at H3 ⊢
  obtain ⟨_, _, _, _, N3, _⟩ := H3.N
  have hR3 := (Array.getElem?_eq_some_iff.1 N3.res).1
  refine (run_tail (main := main) hm hN64 hol _ oa3 oc3 u4 c cs w3 H3 hle).mono ?_
  rintro g w' ⟨v, ⟨cells, e1, e2, e3, e4, e5⟩, hg⟩
  exact ⟨v, ⟨cells, e1, e2, e3, by omega, e5⟩, hg⟩
end
end
end Go.Proofs.Ytnnakajldnaldaa
