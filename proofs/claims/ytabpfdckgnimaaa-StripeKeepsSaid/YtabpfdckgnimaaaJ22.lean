/- Part 22. -/
import Derived.Test.YtabpfdckgnimaaaJ17
import Derived.Test.YtabpfdckgnimaaaJ18
import Derived.Test.YtabpfdckgnimaaaJ21
set_option linter.unusedSimpArgs false
set_option linter.unusedVariables false
set_option linter.unusedVariables false
set_option maxHeartbeats 8000000
set_option maxRecDepth 100000
namespace Go.Proofs.Ytabpfdckgnimaaa
open Go.Conc Go.RowKit Go.Relay
open Go.ConcN (upd upd_ne upd_same)
section
def spJ (sl : List Int) (j : Nat) : Sp := fun i => if i < j then IntKind.i64.wrap (sl.getD i 0) else 0
theorem spJ_succ (sl : List Int) (j : Nat) : spPut (spJ sl j) j (IntKind.i64.wrap (sl.getD j 0)) = spJ sl (j + 1) := by
  funext i
  unfold spPut spJ
  by_cases h : i = j
  · subst h
    rw [upd_same, if_pos (by omega)]
  · rw [upd_ne _ _ h]
    by_cases h2 : i < j
    · rw [if_pos h2, if_pos (by omega)]
    · rw [if_neg h2, if_neg (by omega)]
theorem stAt_nat {m j : Nat} (h : j < m) : stAt m (j : Int) = j := by
  unfold stAt
  have : ((j : Int) % (m : Int)) = (j : Int) := Int.emod_eq_of_lt (by omega) (by omega)
  rw [this]
  rfl
noncomputable def reg13_0 := rg Try.f13.body [0]
noncomputable def reg13_1 := rg Try.f13.body [1, 0]
noncomputable def reg13_2 := rg Try.f13.body [1, 1, 0, 0]
noncomputable def reg13_3 := rg Try.f13.body [1, 1, 0, 1, 0, 0, 0]
noncomputable def reg13_4 := rg Try.f13.body [1, 1, 0, 1, 0, 0, 1, 1, 0, 0, 0]
noncomputable def reg13_5 := rg Try.f13.body [1, 1, 0, 1, 0, 0, 1, 1, 0, 0, 1]
noncomputable def reg13_6 := rg Try.f13.body [1, 1, 0, 1, 0, 0, 1, 1, 1]
noncomputable def reg13_7 := rg Try.f13.body [1, 1, 1, 0]
theorem z13 : List.range reg13_0.size = [0] ∧ List.range reg13_1.size = [0, 1, 2, 3] ∧ List.range reg13_2.size = [0, 1, 2, 3, 4, 5, 6] ∧ List.range reg13_3.size = [0] ∧ List.range reg13_4.size = [0, 1, 2, 3, 4] ∧ List.range reg13_5.size = [0, 1, 2, 3] ∧ List.range reg13_6.size = [0, 1] ∧ List.range reg13_7.size = [0, 1] := by refine ⟨?_, ?_, ?_, ?_, ?_, ?_, ?_, ?_⟩ <;> kernel_rfl
theorem code13_is : Try.f13.body = some (.seq (.region 0 reg13_0 false) (.seq (.region 1 reg13_1 false) (.seq (.seq (.region 2 reg13_2 false) (.block 0 (.loop (.seq (.region 3 reg13_3 false) (.seq (.cond (.tmp 16 ) (.skip) (.exit 0)) (.seq (.block 1 (.seq (.region 4 reg13_4 false) (.region 5 reg13_5 false))) (.region 6 reg13_6 false))))))) (.seq (.region 7 reg13_7 false) (.ret))))) := by kernel_rfl
noncomputable def hdNewc (st : Value) (cb : Nat) (sa : Option Addr) (k c j : Nat) (u : Nat → Value) : Frame :=
  (base 13).at { tmps := #[st, u 1, u 2, .pointer (some ⟨cb, 0, none⟩), u 4, u 5, u 6, u 7, u 8, u 9, u 10, u 11, u 12, .slice sa k c, .int .i64 k, .int .i64 j, u 16, u 17, u 18, u 19, u 20, u 21, u 22, u 23, u 24, u 25], defers := [] } [.code (.seq (.region 3 reg13_3 false) (.seq (.cond (.tmp 16 ) (.skip) (.exit 0)) (.seq (.block 1 (.seq (.region 4 reg13_4 false) (.region 5 reg13_5 false))) (.region 6 reg13_6 false)))), .inLoop (.seq (.region 3 reg13_3 false) (.seq (.cond (.tmp 16 ) (.skip) (.exit 0)) (.seq (.block 1 (.seq (.region 4 reg13_4 false) (.region 5 reg13_5 false))) (.region 6 reg13_6 false)))), .inBlock 0, .code (.seq (.region 7 reg13_7 false) (.ret))]
section
variable {main : Bool} {V : Nat → Option Wait} {cb rb m : Nat} {ra : Option Addr} {rc : Nat}
def SlIn (sa : Option Addr) (sl : List Int) (w : World) : Prop := ∀ (j : Nat) (z : Int), sl[j]? = some z → ∃ s so, sa = some ⟨s, so, none⟩ ∧ w.cell? ⟨s, so + j, none⟩ = some (.int .i64 z)
theorem SlIn.old {sa : Option Addr} {sl : List Int} {w w' : World} (h : SlIn sa sl w) (hb : ∀ b, b < w.heap.size → w'.heap[b]? = w.heap[b]?) : SlIn sa sl w' := fun j z hz => by
  obtain ⟨s, so, e, hc⟩ := h j z hz
  exact ⟨s, so, e, (World.cell?_of_block (a := ⟨s, so + j, none⟩) (hb s (cell_lt' hc))).trans hc⟩
structure NewI (cb rb m : Nat) (ra : Option Addr) (rc : Nat) (sl : List Int) (j : Nat) (w0 w : World) : Prop where
  I : SpI cb rb m ra rc (spJ sl j) w
  old : ∀ b, b < w0.heap.size → w.heap[b]? = w0.heap[b]?
  size : w0.heap.size ≤ w.heap.size
theorem newc_go (hA : ∀ b, Apart V b) (st : Value) (sa : Option Addr) (sl : List Int) (k c j : Nat) (hj : j < k) (hkm : k ≤ m) (hkl : k ≤ sl.length) (w0 w : World) (hsl : SlIn sa sl w0) (hcb : w0.heap.size ≤ cb) (hrb : w0.heap.size ≤ rb) (I : NewI cb rb m ra rc sl j w0 w) (u : Nat → Value) (cs : List Frame) :
    Walk Try.prog main (DR V) (fun g w' => ∃ u w1, g = G (hdNewc st cb sa k c (j + 1) u) cs ∧ NewI cb rb m ra rc sl (j + 1) w0 w1 ∧ ∃ d, w' = w1.at d) (G (hdNewc st cb sa k c j u) cs) w := by
  have hm := I.I.pos
  have hx0 : sl[j]? = some (sl.getD j 0) := by rw [List.getD_eq_getElem?_getD, List.getElem?_eq_getElem (by omega)]; rfl
  obtain ⟨s, so, rfl, hc0⟩ := hsl j _ hx0
  have c1 : w.cell? ⟨s, so + j, none⟩ = some (.int .i64 (sl.getD j 0)) := (World.cell?_of_block (a := ⟨s, so + j, none⟩) (I.old s (cell_lt' hc0))).trans hc0
  have hact : ∀ s : Sp, spAct m s (.a1 (stAt m (j : Int)) (sl.getD j 0)) = (spPut s (stAt m (j : Int)) (IntKind.i64.wrap (s (stAt m (j : Int)) + sl.getD j 0)), .inl ⟨true, IntKind.i64.wrap (s (stAt m (j : Int)) + sl.getD j 0), []⟩) := fun _ => rfl
  have hrun : runN (spLa cb rb m ra rc) 1 (spJ sl j, .inr (.a1 (stAt m (j : Int)) (sl.getD j 0))) = some (spJ sl (j + 1), ⟨true, IntKind.i64.wrap (sl.getD j 0), []⟩) := by
    have h0 : spJ sl j j = 0 := if_neg (Nat.lt_irrefl j)
    have e : spAct m (spJ sl j) (.a1 (stAt m (j : Int)) (sl.getD j 0)) = (spJ sl (j + 1), .inl ⟨true, IntKind.i64.wrap (sl.getD j 0), []⟩) := by
      rw [hact, stAt_nat (by omega), h0, Int.zero_add, spJ_succ]
    show runN (spLa cb rb m ra rc) 0 (spAct m (spJ sl j) (.a1 (stAt m (j : Int)) (sl.getD j 0))) = _
    rw [e]
    rfl
  generalize sl.getD j 0 = z at *
  have hj0 : (0 : Int) ≤ j := by omega
  have hj1 : decide ((j : Int) < k) = true := by simp; omega
  have hj3 : decide (j < k) = true := by simp; omega
  have hj4 : (j : Int) < k := by omega
  have hw1 : IntKind.wrap .i64 ((j : Int) + 1) = ((j + 1 : Nat) : Int) := by rw [IntKind.wrap_i64]; omega
  have hI := I.I
  have hO := I.old
  have hS := I.size
  clear hact hx0 hc0 hsl I
  unfold hdNewc
  repeat (first | refine Walk.cx ?_ | (refine Walk.cReg ?_; simp only [z13]) | (refine Walk.oq ?_; try walk_nrm) | (refine Walk.un ?_; walk_nrm))
  refine Walk.callLone (L := spLa cb rb m ra rc) (Rel := fun v x _ _ => ∃ y, v = .int .i64 y) 1 () (spJ sl j) (.inr (.a1 (stAt m (j : Int)) z)) hA hI hrun (f := 10) (fun K e ht => ?_) (ho_of (by conv => lhs; whnf) (by kernel_rfl)) (by rfl) (by decide) rfl Try.func10 (by kernel_rfl) (by rfl) ⟨rfl, rfl, _, Try.func13⟩ ?_
  · walk_nrm
    exact (sadd_s K (j : Int) z (.a1 (stAt m (j : Int)) z) (fun y => .inl ⟨true, y, []⟩) (fun _ => rfl) e ht).mono fun v e' ⟨y, h1, h2⟩ => ⟨⟨true, y, []⟩, ⟨y, h1⟩, h2⟩
  rintro v w1 _ ⟨y, rfl⟩ L1
  have I1 : NewI cb rb m (some ⟨s, so, none⟩ : Option Addr) rc sl (j + 1) w0 w1 ∨ True := .inr trivial
  have I2 : NewI cb rb m ra rc sl (j + 1) w0 w1 := ⟨L1.I, fun b hb => (L1.old b (by omega) (by rintro (rfl | ⟨_, rfl⟩) <;> omega)).trans (hO b hb), Nat.le_trans hS L1.size⟩
  clear I1 L1 hrun c1
  walk_nrm
  repeat (first | refine Walk.cx ?_ | (refine Walk.cReg ?_; simp only [z13]) | (refine Walk.oq ?_; try walk_nrm) | (refine Walk.un ?_; walk_nrm))
  refine Walk.ctl rfl (fun w => stepG_inLoop) ?_
  have hfin := fun u => (Walk.stop (P := Try.prog) (main := main) (D := DR V) (w := w1) (g := G (hdNewc st cb (some ⟨s, so, none⟩) k c (j + 1) u) cs) (Stop := fun g w' => ∃ u w1, g = G (hdNewc st cb (some ⟨s, so, none⟩) k c (j + 1) u) cs ∧ NewI cb rb m ra rc sl (j + 1) w0 w1 ∧ ∃ d, w' = w1.at d) fun d => ⟨u, w1, rfl, I2, d, rfl⟩)
  refine slots_walk (F := fun u => G (hdNewc st cb (some ⟨s, so, none⟩) k c (j + 1) u) cs) hfin ?_
  simp only [hdNewc]
  rfl
theorem newc_out (st : Value) (sa : Option Addr) (k c : Nat) (w : World) (u : Nat → Value) (fr : Frame) (cs : List Frame) :
    Walk Try.prog main (DR V) (fun g w' => g = G (fr.finish (.pointer (some ⟨cb, 0, none⟩))) cs ∧ ∃ d, w' = w.at d) (G (hdNewc st cb sa k c k u) (fr :: cs)) w := by
  have hj3 : decide (k < k) = false := by simp
  unfold hdNewc
  repeat (first | refine Walk.cx ?_ | (refine Walk.cReg ?_; simp only [z13]) | (refine Walk.oq ?_; try walk_nrm) | (refine Walk.un ?_; walk_nrm))
  exact Walk.on1 rfl rfl Try.func13 rfl (.stop fun d => ⟨rfl, d, rfl⟩)
theorem newc_loop (hA : ∀ b, Apart V b) (st : Value) (sa : Option Addr) (sl : List Int) (k c : Nat) (hkm : k ≤ m) (hkl : k ≤ sl.length) (w0 : World) (hsl : SlIn sa sl w0) (hcb : w0.heap.size ≤ cb) (hrb : w0.heap.size ≤ rb) (fr : Frame) (cs : List Frame) : ∀ (r j : Nat) (w : World) (u : Nat → Value), j + r = k → NewI cb rb m ra rc sl j w0 w →
    Walk Try.prog main (DR V) (fun g w' => g = G (fr.finish (.pointer (some ⟨cb, 0, none⟩))) cs ∧ ∃ w1, NewI cb rb m ra rc sl k w0 w1 ∧ ∃ d, w' = w1.at d) (G (hdNewc st cb sa k c j u) (fr :: cs)) w := by
  intro r
  induction r with
  | zero =>
    intro j w u hj I
    have hjk : j = k := by omega
    subst hjk
    refine (newc_out st sa j c w u fr cs).mono ?_
    rintro g w' ⟨rfl, d, rfl⟩
    exact ⟨rfl, w, I, d, rfl⟩
  | succ r ih =>
    intro j w u hj I
    refine (newc_go hA st sa sl k c j (by omega) hkm hkl w0 w hsl hcb hrb I u (fr :: cs)).then ?_
    rintro _ _ ⟨u1, w1, rfl, I1, d, rfl⟩
    exact Walk.back (ih (j + 1) w1 u1 (by omega) I1) d
theorem huI64 : Try.prog.underlying 22 = some (.slice 2) := by kernel_rfl
theorem newc_in (sa : Option Addr) (n c : Nat) (hc : n ≤ c) (ha : sa = none ∧ c = 0 ∨ ∃ p, sa = some p) (hn : n ≤ 17592186044416) (cs : List Frame) (w : World) :
    Walk Try.prog main (DR V) (fun g w' => ∃ u w1, g = G (hdNewc (.slice sa n c) (w.heap.size + 1) sa (min n 64) c 0 u) cs ∧ SpI (w.heap.size + 1) w.heap.size (stN n) (some ⟨w.heap.size, 0, none⟩) (stN n - 1) sp0 w1 ∧ (∀ b, b < w.heap.size → w1.heap[b]? = w.heap[b]?) ∧ w1.heap.size = w.heap.size + 2 ∧ ∃ d, w' = w1.at d)
      (G (Frame.enter Try.prog 13 #[.slice sa n c] .normal) cs) w := by
  have hmn := @events_min_ints Try.prog
  have hk0 : min (n : Int) 64 = ((min n 64 : Nat) : Int) := by omega
  obtain ⟨k, hk⟩ : ∃ k, min n 64 = k := ⟨_, rfl⟩
  have h1 : k ≤ n := by omega
  have h2 : k ≤ c := by omega
  have h3 : (k : Int) ≤ c := by omega
  have h4 : (0 : Int) ≤ k := by omega
  have h5 : (k : Int) ≤ n := by omega
  rw [hk] at hk0 ⊢
  have hi := Option.some_get (show (Try.prog.info? 2).isSome = true by kernel_rfl)
  have hs := fun w => (run_slx huI64 hi.symm sa n c k h2 ha w #[]).1
  have hse := fun w es => (run_slx huI64 hi.symm sa n c k h2 ha w es).2
  clear hi
  rw [enter_at _ Try.func13 code13_is]
  simp only [Try.ntmps13, ez, Nat.reduceAdd, Nat.reduceSub]
  repeat (first | refine Walk.cx ?_ | (refine Walk.cReg ?_; simp only [z13]) | (refine Walk.oq ?_; try walk_nrm) | (refine Walk.un ?_; walk_nrm))
  refine Walk.callW (Post := fun v w' => v = .pointer (some ⟨w.heap.size + 1, 0, none⟩) ∧ SpI (w.heap.size + 1) w.heap.size (stN n) (some ⟨w.heap.size, 0, none⟩) (stN n - 1) sp0 w' ∧ (∀ b, b < w.heap.size → w'.heap[b]? = w.heap[b]?) ∧ w'.heap.size = w.heap.size + 2) ?_ (ho_of (by conv => lhs; whnf) (by kernel_rfl)) (by rfl) (by decide) rfl Try.func9 (by kernel_rfl) (by rfl) ?_
  · walk_nrm
    exact new_w n w
  rintro v w1 ⟨rfl, hI, hO, hS⟩
  generalize w.heap.size = T at *
  walk_nrm
  repeat (first | refine Walk.cx ?_ | (refine Walk.cReg ?_; simp only [z13]) | (refine Walk.oq ?_; try walk_nrm) | (refine Walk.un ?_; walk_nrm))
  refine Walk.ctl rfl (fun w => stepG_loop) ?_
  refine slots_walk (F := fun u => G (hdNewc (.slice sa n c) (T + 1) sa k c 0 u) cs) (fun u => .stop fun d => ⟨u, w1, rfl, hI, hO, hS, d, rfl⟩) ?_
  simp only [hdNewc]
  rfl
end
end
def NewcOut (xs : List Int) (w : World) (v : Value) (w' : World) : Prop := v = .pointer (some ⟨w.heap.size + 1, 0, none⟩) ∧ SpI (w.heap.size + 1) w.heap.size (stN xs.length) (some ⟨w.heap.size, 0, none⟩) (stN xs.length - 1) (spJ xs (min xs.length 64)) w' ∧ (∀ b, b < w.heap.size → w'.heap[b]? = w.heap[b]?) ∧ w.heap.size + 2 ≤ w'.heap.size
theorem newCounter_w {main : Bool} {V : Nat → Option Wait} (hA : ∀ b, Apart V b) (xa : Option Addr) (xs : List Int) (xc : Nat) (hxc : xs.length ≤ xc) (hxa : xa = none ∧ xc = 0 ∨ ∃ p, xa = some p) (hxn : xs.length ≤ 17592186044416) (w : World) (hx : SlIn xa xs w) : CallW Try.prog main V 13 #[.slice xa xs.length xc] w (NewcOut xs w) := by
  intro c cs
  obtain ⟨q1, q2, q3⟩ := stN_le xs.length
  refine (newc_in xa xs.length xc hxc hxa hxn (c :: cs) w).then ?_
  rintro _ _ ⟨u, w1, rfl, hI, hO, hS, d, rfl⟩
  refine Walk.back ?_ d
  have h0 : spJ xs 0 = sp0 := by funext i; simp [spJ, sp0]
  rw [← h0] at hI
  refine (newc_loop hA _ xa xs (min xs.length 64) xc (by omega) (by omega) w hx (by omega) (Nat.le_refl _) c cs (min xs.length 64) 0 w1 u (by omega) ⟨hI, hO, by omega⟩).mono ?_
  rintro g w' ⟨rfl, w2, I2, d2, rfl⟩
  refine ⟨_, ⟨rfl, I2.I.old fun _ _ => rfl, I2.old, ?_⟩, rfl⟩
  show w.heap.size + 2 ≤ w2.heap.size
  have := I2.I.lt
  omega
noncomputable def reg5_0 := rg Try.f5.body [0]
noncomputable def reg5_1 := rg Try.f5.body [1, 0]
noncomputable def reg5_2 := rg Try.f5.body [1, 1, 0]
noncomputable def reg5_3 := rg Try.f5.body [1, 1, 1, 0]
noncomputable def reg5_4 := rg Try.f5.body [1, 1, 1, 1, 0]
theorem z5 : List.range reg5_0.size = [0] ∧ List.range reg5_1.size = [0, 1, 2] ∧ List.range reg5_2.size = [0, 1, 2, 3, 4, 5, 6, 7] ∧ List.range reg5_3.size = [0, 1, 2, 3] ∧ List.range reg5_4.size = [0, 1] := by refine ⟨?_, ?_, ?_, ?_, ?_⟩ <;> kernel_rfl
theorem code5_is : Try.f5.body = some (.seq (.region 0 reg5_0 false) (.seq (.region 1 reg5_1 false) (.seq (.region 2 reg5_2 false) (.seq (.region 3 reg5_3 false) (.seq (.region 4 reg5_4 false) (.ret)))))) := by kernel_rfl
def SPBack (T0 cb rb m : Nat) (ra : Option Addr) (rc : Nat) (fr c : Frame) (cs : List Frame) : Prop := ∀ (A na : Nat) (oo : Option Addr) (ol ok : Nat) (stuck : Bool) (s : Sp) (w : World), cb ≠ T0 → rb ≠ T0 → SpI cb rb m ra rc s w → w.heap[T0]? = some (.cells #[.slice none 0 0, .slice none 0 0, .slice none 0 0, .bool false] 31) →
  Walk Try.prog true (DR (fun _ => none)) (fun g w' => ∃ B, g = G (c.finish (.agg #[.slice (some ⟨A, 0, none⟩) na na, .slice oo ol ok, .slice (some ⟨B, 0, none⟩) m m, .bool stuck])) cs ∧ w.heap.size ≤ B ∧ Told w' B m (stL s m) ∧ (∀ b, b < w.heap.size → b ≠ T0 → ¬ (b = cb ∨ (1 < m ∧ b = rb)) → w'.heap[b]? = w.heap[b]?) ∧ w.heap.size ≤ w'.heap.size)
    (G (fr.finish (.agg #[.slice (some ⟨A, 0, none⟩) na na, .slice oo ol ok, .slice none 0 0, .bool stuck])) (c :: cs)) w
theorem splay_in (xa : Option Addr) (xs : List Int) (xc : Nat) (hxc : xs.length ≤ xc) (hxa : xa = none ∧ xc = 0 ∨ ∃ p, xa = some p) (hxn : xs.length ≤ 17592186044416) (tv sv : Value) (most : Int) (c : Frame) (cs : List Frame) (w : World) (hx : SlIn xa xs w) :
    Walk Try.prog true (DR (fun _ => none)) (fun g w' => ∃ fr, g = G (Frame.enter Try.prog 14 #[tv, .func (.func 15) #[.pointer (some ⟨w.heap.size + 2, 0, none⟩)] #[], sv, .int .i64 most] .normal) (fr :: c :: cs) ∧ SpI (w.heap.size + 2) (w.heap.size + 1) (stN xs.length) (some ⟨w.heap.size + 1, 0, none⟩) (stN xs.length - 1) (spJ xs (min xs.length 64)) w' ∧ (∀ b, b < w.heap.size → w'.heap[b]? = w.heap[b]?) ∧ w.heap.size + 3 ≤ w'.heap.size ∧
        w'.heap[w.heap.size]? = some (.cells #[.slice none 0 0, .slice none 0 0, .slice none 0 0, .bool false] 31) ∧ SPBack w.heap.size (w.heap.size + 2) (w.heap.size + 1) (stN xs.length) (some ⟨w.heap.size + 1, 0, none⟩) (stN xs.length - 1) fr c cs)
      (G (Frame.enter Try.prog 5 #[.slice xa xs.length xc, tv, sv, .int .i64 most] .normal) (c :: cs)) w := by
  have hA : ∀ b, Apart (fun _ => none) b := fun b => ⟨fun _ _ _ _ h => (by cases h), fun _ _ h => (by cases h)⟩
  obtain ⟨fsT, huT⟩ := structT 31 (by kernel_rfl)
  rw [enter_at _ Try.func5 code5_is]
  simp only [Try.ntmps5, ez, Nat.reduceAdd, Nat.reduceSub]
  repeat (first | refine Walk.cx ?_ | (refine Walk.cReg ?_; simp only [z5]) | (refine Walk.oq ?_; try walk_nrm) | (refine Walk.un ?_; walk_nrm))
  (refine Walk.oa ?_; try walk_nrm)
  have s1 : (w.alloc (.cells #[.slice none 0 0, .slice none 0 0, .slice none 0 0, .bool false] 31)).heap.size = w.heap.size + 1 := by simp
  have o1 : ∀ b, b < w.heap.size → (w.alloc (.cells #[.slice none 0 0, .slice none 0 0, .slice none 0 0, .bool false] 31)).heap[b]? = w.heap[b]? := fun b hb => heap_new_lt _ _ hb
  have d1 := heap_alloc_new w (.cells #[.slice none 0 0, .slice none 0 0, .slice none 0 0, .bool false] 31)
  generalize hN : w.heap.size = T0 at *
  generalize w.alloc (.cells #[.slice none 0 0, .slice none 0 0, .slice none 0 0, .bool false] 31) = w1 at *
  repeat (first | refine Walk.cx ?_ | (refine Walk.cReg ?_; simp only [z5]) | (refine Walk.oq ?_; try walk_nrm) | (refine Walk.un ?_; walk_nrm))
  have hx1 : SlIn xa xs w1 := hx.old (fun b hb => o1 b (by omega))
  refine Walk.callW (Post := NewcOut xs w1) ?_ (ho_of (by conv => lhs; whnf) (by kernel_rfl)) (by rfl) (by decide) rfl Try.func13 (by kernel_rfl) (by rfl) ?_
  · walk_nrm
    exact newCounter_w hA xa xs xc hxc hxa hxn w1 hx1
  rintro v w2 ⟨rfl, hI, hO, hS⟩
  rw [s1] at hI hO hS ⊢
  generalize hn : stN xs.length = m at *
  clear hx1
  walk_nrm
  repeat (first | refine Walk.cx ?_ | (refine Walk.cReg ?_; simp only [z5]) | (refine Walk.oq ?_; try walk_nrm) | (refine Walk.un ?_; walk_nrm))
  refine Walk.callE (ho_of (by conv => lhs; whnf) (by kernel_rfl)) (by rfl) (by decide) rfl Try.func14 (by kernel_rfl) (by rfl) ?_
  walk_nrm
  refine .stop fun d => ⟨_, rfl, hI.old fun _ _ => rfl, fun b hb => (hO b (by omega)).trans (o1 b (by omega)), hS, (hO T0 (by omega)).trans d1, ?_⟩
  intro A na oo ol ok stuck s w4 hne hnr I4 hT
  refine Walk.finish (ho_of (by conv => lhs; whnf) (by kernel_rfl)) ?_
  walk_nrm
  (refine Walk.oa ?_; try walk_nrm)
  have d5 := heap_alloc_new w4 (.cells #[.slice none 0 0, .slice none 0 0, .slice none 0 0, .bool false] 31)
  have s5 : (w4.alloc (.cells #[.slice none 0 0, .slice none 0 0, .slice none 0 0, .bool false] 31)).heap.size = w4.heap.size + 1 := by simp
  have o5 : ∀ b, b < w4.heap.size → (w4.alloc (.cells #[.slice none 0 0, .slice none 0 0, .slice none 0 0, .bool false] 31)).heap[b]? = w4.heap[b]? := fun b hb => heap_new_lt _ _ hb
  have hT0 : T0 < w4.heap.size := (Array.getElem?_eq_some_iff.1 hT).1
  generalize hT1 : w4.heap.size = T1 at *
  generalize w4.alloc (.cells #[.slice none 0 0, .slice none 0 0, .slice none 0 0, .bool false] 31) = w5 at *
  refine Walk.storeS 31 (.tmp 10) (.tmp 18) (ho_of (by conv => lhs; whnf) (by kernel_rfl)) (by rfl) (by decide) rfl T1 #[.slice (some ⟨A, 0, none⟩) na na, .slice oo ol ok, .slice none 0 0, .bool stuck] _ 31 rfl rfl d5 (by kernel_rfl) (by rfl) (by simp [Value.oneCell']) (hA _) ?_
  have d6 := setRow_self (cells := #[.slice (some ⟨A, 0, none⟩) na na, .slice oo ol ok, .slice none 0 0, .bool stuck]) d5
  have o6 : ∀ b, b < T1 → (w5.setRow T1 #[.slice (some ⟨A, 0, none⟩) na na, .slice oo ol ok, .slice none 0 0, .bool stuck]).heap[b]? = w4.heap[b]? := fun b hb => (setRow_other _ _ (by omega)).trans (o5 b (by omega))
  have s6 := setRow_size w5 T1 #[.slice (some ⟨A, 0, none⟩) na na, .slice oo ol ok, .slice none 0 0, .bool stuck]
  rw [s5] at s6
  generalize w5.setRow T1 #[.slice (some ⟨A, 0, none⟩) na na, .slice oo ol ok, .slice none 0 0, .bool stuck] = w6 at *
  have I6 : SpI (T0 + 2) (T0 + 1) m (some ⟨T0 + 1, 0, none⟩) (m - 1) s w6 := I4.old fun b hb => o6 b (by
    rcases hb with rfl | ⟨hm, rfl⟩
    · have := I4.lt; omega
    · have := I4.ltr hm; omega)
  walk_nrm
  repeat (first | refine Walk.cx ?_ | (refine Walk.cReg ?_; simp only [z5]) | (refine Walk.oq ?_; try walk_nrm) | (refine Walk.un ?_; walk_nrm))
  refine Walk.callW (Post := AllOut (T0 + 2) (T0 + 1) m (some ⟨T0 + 1, 0, none⟩) (m - 1) s w6) ?_ (ho_of (by conv => lhs; whnf) (by kernel_rfl)) (by rfl) (by decide) rfl Try.func16 (by kernel_rfl) (by rfl) ?_
  · walk_nrm
    exact all_w hA s w6 I6
  rintro v w7 ⟨⟨B, rfl, hB1, hB2, hTold⟩, I7, hold7, hs7⟩
  have hlt4 : T0 + 2 < w4.heap.size ∧ (1 < m → T0 + 1 < w4.heap.size) := ⟨I4.lt, fun h => I4.ltr h⟩
  rw [hT1] at hlt4
  have d7 := (hold7 T1 (by omega) (by omega)).trans d6
  have c7 := (cell_of d7 2).trans rfl
  have z7 := frozen_of d7 2
  walk_nrm
  repeat (first | (refine Walk.oq ?_; try walk_nrm) | (refine Walk.un ?_; walk_nrm))
  (have hfr := (hA T1).1 ⟨T1, 2, none⟩ rfl; refine Walk.os hfr c7 ?_; clear hfr; try walk_nrm)
  have d8 : (w7.setCell ⟨T1, 2, none⟩ (.slice (some ⟨B, 0, none⟩) m m)).heap[T1]? = some (.cells #[.slice (some ⟨A, 0, none⟩) na na, .slice oo ol ok, .slice (some ⟨B, 0, none⟩) m m, .bool stuck] 31) := by
    rw [heap_set_self _ _ d7]
    simp
  have o8 : ∀ b, b ≠ T1 → (w7.setCell ⟨T1, 2, none⟩ (.slice (some ⟨B, 0, none⟩) m m)).heap[b]? = w7.heap[b]? := fun b hb => heap_set_other _ _ _ _ hb
  have s8 := size_set w7 ⟨T1, 2, none⟩ (.slice (some ⟨B, 0, none⟩) m m)
  clear c7 z7
  generalize w7.setCell ⟨T1, 2, none⟩ (.slice (some ⟨B, 0, none⟩) m m) = w8 at *
  repeat (first | refine Walk.cx ?_ | (refine Walk.cReg ?_; simp only [z5]) | (refine Walk.oq ?_; try walk_nrm) | (refine Walk.un ?_; walk_nrm))
  refine Walk.loadS 31 (.tmp 10) (ho_of (by conv => lhs; whnf) (by kernel_rfl)) (by rfl) (by decide) rfl T1 0 [.slice (some ⟨A, 0, none⟩) na na, .slice oo ol ok, .slice (some ⟨B, 0, none⟩) m m, .bool stuck] (.struct fsT) rfl (fun j v hj => ?_) huT rfl (by kernel_rfl) ?_
  · rw [Nat.zero_add, cell_of d8]
    simpa using hj
  have dT : w8.heap[T0]? = some (.cells #[.slice none 0 0, .slice none 0 0, .slice none 0 0, .bool false] 31) := (o8 T0 (by omega)).trans ((hold7 T0 (by omega) (by omega)).trans ((o6 T0 (by omega)).trans hT))
  walk_nrm
  refine Walk.storeS 31 (.tmp 8) (.tmp 22) (ho_of (by conv => lhs; whnf) (by kernel_rfl)) (by rfl) (by decide) rfl T0 #[.slice (some ⟨A, 0, none⟩) na na, .slice oo ol ok, .slice (some ⟨B, 0, none⟩) m m, .bool stuck] _ 31 rfl rfl dT (by kernel_rfl) (by rfl) (by simp [Value.oneCell']) (hA _) ?_
  have d9 := setRow_self (cells := #[.slice (some ⟨A, 0, none⟩) na na, .slice oo ol ok, .slice (some ⟨B, 0, none⟩) m m, .bool stuck]) dT
  walk_nrm
  repeat (first | refine Walk.cx ?_ | (refine Walk.cReg ?_; simp only [z5]) | (refine Walk.oq ?_; try walk_nrm) | (refine Walk.un ?_; walk_nrm))
  refine Walk.onCell (T := T0) rfl rfl rfl Try.func5 rfl (by rfl) d9 (by kernel_rfl) (by kernel_rfl) (.stop fun d => ⟨B, rfl, by omega, ?_, fun b hb hbT hbs => ?_, ?_⟩)
  · obtain ⟨arr, h1, h2⟩ := hTold
    exact ⟨arr, (setRow_other _ _ (by omega)).trans ((o8 B (by omega)).trans h1), h2⟩
  · exact (setRow_other _ _ hbT).trans ((o8 b (by omega)).trans ((hold7 b (by omega) hbs).trans (o6 b hb)))
  · show T1 ≤ (w8.setRow _ _).heap.size
    rw [setRow_size]
    omega
theorem stL_len (s : Sp) (m : Nat) : (stL s m).length = m := by simp [stL]
theorem Told.is {w : World} {B m : Nat} {l : List Int} (h : Told w B m l) (hl : l.length = m) : w.heap[B]? = some (.cells (l.map fun z => Value.int .i64 z).toArray 2) := by
  obtain ⟨arr, h1, h2, h3⟩ := h
  have e : arr = (l.map fun z => Value.int .i64 z).toArray := by
    apply Array.ext_getElem?
    intro i
    by_cases hi : i < l.length
    · rw [h3 i l[i] (List.getElem?_eq_getElem hi)]
      simp [hi]
    · exact (Array.getElem?_eq_none (by omega)).trans (Array.getElem?_eq_none (by simp only [List.size_toArray, List.length_map]; omega)).symm
  rw [← e]
  exact h1
theorem Told.row {w : World} {B m : Nat} {l : List Int} (h : Told w B m l) (hl : l.length = m) {base : Nat} (hb : base ≤ B) (hn : m ≤ maxLen) : w.ownsRow base 2 1 (.slice (some ⟨B, 0, none⟩) m m) m (l.map fun z => .int .i64 z) := by
  subst hl
  exact ⟨by simp, .inr ⟨B, l.length, _, rfl, hb, h.is rfl, Nat.le_refl _, hn, by simp, by simpa using List.take_of_length_le (by simp)⟩⟩
structure TrO (base : Nat) (cells : Array Value) (n : Nat) (F : Nat → List Ans) (ord : List Nat) (sts : List Int) (k : Bool) (w : World) : Prop where
  all : ∃ (A : Nat) (oo : Option Addr) (ok : Nat) (sv : Value) (hd : Nat → Value) (own : Nat → Nat → Prop), cells = trC (.slice (some ⟨A, 0, none⟩) n n) (.slice oo ord.length ok) sv k ∧ base ≤ A ∧
    w.ownsRow base 3 1 (.slice oo ord.length ok) ord.length (ord.map fun i => .int .i64 (i : Nat)) ∧ w.ownsRow base 2 1 sv sts.length (sts.map fun z => .int .i64 z) ∧
    (∃ arr : Array Value, w.heap[A]? = some (.cells arr 35) ∧ arr.size = n ∧ ∀ i, i < n → arr[i]? = some (hd i)) ∧ (∀ i, i < n → RowA base (own i) (hd i) (F i) w) ∧ (∀ i j b, own i b → own j b → i = j) ∧
    (∀ i b, own i b → b ≠ A ∧ (Value.slice oo ord.length ok).ownBlock ≠ some b ∧ sv.ownBlock ≠ some b) ∧ (Value.slice oo ord.length ok).ownBlock ≠ some A ∧ sv.ownBlock ≠ some A ∧ ∀ b, (Value.slice oo ord.length ok).ownBlock = some b → sv.ownBlock ≠ some b
theorem TrO.tr {base : Nat} {cells : Array Value} {n : Nat} {F : Nat → List Ans} {ord : List Nat} {sts : List Int} {k : Bool} {w : World} (h : TrO base cells n F ord sts k w) : TrA cells n F ord sts k w := by
  obtain ⟨A, oo, ok, sv, hd, own, e, hA, hord, hst, ⟨arr, h1, h2, h3⟩, hrows, _⟩ := h.all
  obtain ⟨sa, sc, rfl⟩ : ∃ sa sc, sv = .slice sa sts.length sc := by
    rcases hst.2 with ⟨e, e0⟩ | ⟨g, cap, cur, e, _⟩
    · exact ⟨none, 0, by rw [e, e0]⟩
    · exact ⟨_, _, e⟩
  refine ⟨⟨some ⟨A, 0, none⟩, n, oo, ok, sa, sc, e, ?_, numA_of hst, fun i hi => ?_⟩⟩
  · refine numA_of (base := base) (e := 3) (m := ord.length) (tc := ok) ?_
    have : ((ord.map fun i => ((i : Nat) : Int)).map (Value.int .i64)) = (ord.map fun i => .int .i64 (i : Nat)) := by simp
    rw [this]
    exact hord
  · obtain ⟨ta, tc, e, hans⟩ := ansA_of (hrows i hi)
    refine ⟨A, 0, ta, tc, rfl, ?_, hans⟩
    rw [Nat.zero_add, ← e]
    exact (cell_of h1 i).trans (h3 i hi)
structure SPAny (n : Nat) (L : La) (stx : L.Sg → List Int) (F : OX L × List Nat) (w w' : World) (cells : Array Value) : Prop where
  tr : TrO w.heap.size cells n (fun i => (F.1.th i).ans) F.2 (stx F.1.s) (stuckO n F.1) w'
  old : ∀ b, b < w.heap.size → w'.heap[b]? = w.heap[b]?
  size : w.heap.size ≤ w'.heap.size
theorem row_low {w : World} {base base' : Nat} {e : TypeId} {size : Nat} {v : Value} {n : Nat} {xs : List Value} (h : w.ownsRow base e size v n xs) (hb : base' ≤ base) : w.ownsRow base' e size v n xs :=
  ⟨h.1, h.2.imp id fun ⟨g, cap, cur, h1, h2, h3⟩ => ⟨g, cap, cur, h1, Nat.le_trans hb h2, h3⟩⟩
theorem splay_any (xa : Option Addr) (xs : List Int) (xc : Nat) (hxc : xs.length ≤ xc) (hxa : xa = none ∧ xc = 0 ∨ ∃ p, xa = some p) (hxn : xs.length ≤ 17592186044416) (tv : Value) (most : Int) (ta : Option Addr) (tb toff tc n : Nat) (hta : 0 < n → ta = some ⟨tb, toff, none⟩) (hn : n ≤ 64) (oa : Nat → Option Addr) (ln oc : Nat → Nat) (ops : Nat → List OpV) (sa : Option Addr) (sc : Nat) (sl : List Int) (hsl : sl.length ≤ 17592186044416) (c : Frame) (cs : List Frame) (w : World) (hx : SlIn xa xs w)
    (I : OpsIn tb toff n oa ln oc ops w)
    (hsc : ∀ (j : Nat) (z : Int), sl[j]? = some z → ∃ s so, sa = some ⟨s, so, none⟩ ∧ w.cell? ⟨s, so + j, none⟩ = some (.int .i64 z))
    (hp : ∀ w' : World, (∀ b, b < w.heap.size → w'.heap[b]? = w.heap[b]?) → CallV Try.prog true (fun _ => none) 35 #[tv] w' (.slice ta n tc) w') :
    Runs (fun g w' => ∃ cells, SPAny n (spLa (w.heap.size + 2) (w.heap.size + 1) (stN xs.length) (some ⟨w.heap.size + 1, 0, none⟩) (stN xs.length - 1)) (fun s => stL s (stN xs.length)) (playO (spLa (w.heap.size + 2) (w.heap.size + 1) (stN xs.length) (some ⟨w.heap.size + 1, 0, none⟩) (stN xs.length - 1)) (spJ xs (min xs.length 64)) ops n most sl) w w' cells ∧ g = G (c.finish (.agg cells)) cs) (G (Frame.enter Try.prog 5 #[.slice xa xs.length xc, tv, .slice sa sl.length sc, .int .i64 most] .normal) (c :: cs)) w := by
  obtain ⟨q1, q2, q3⟩ := stN_le xs.length
  refine Runs.walk (splay_in xa xs xc hxc hxa hxn tv (.slice sa sl.length sc) most c cs w hx) ?_
  rintro _ w1 ⟨fr, rfl, hI, hO, hS, hT, hB⟩
  have hc1 : ∀ {b j : Nat} {v : Value}, w.cell? ⟨b, j, none⟩ = some v → w1.cell? ⟨b, j, none⟩ = some v := fun {b j v} e => (World.cell?_of_block (a := ⟨b, j, none⟩) (hO b (cell_lt' e))).trans e
  have hsh : ∀ b, b < w.heap.size → ¬ (b = w.heap.size + 2 ∨ (1 < stN xs.length ∧ b = w.heap.size + 1)) := fun b hb h => by omega
  have I1 : OpsIn tb toff n oa ln oc ops w1 := I.old hO
  refine Runs.then (ops_any (L := spLa (w.heap.size + 2) (w.heap.size + 1) (stN xs.length) (some ⟨w.heap.size + 1, 0, none⟩) (stN xs.length - 1)) sdo_ok () (spJ xs (min xs.length 64)) tv most ta tb toff tc n hta hn oa ln oc ops sa sc sl hsl fr (c :: cs) w1 I1 hI (fun i hi j o ho b off e => ?_) (fun j z hz => ?_) (fun w' hw' => hp w' fun b hb => (hw' b (by omega)).trans (hO b hb))) ?_
  · obtain ⟨b', off', e', c0, _⟩ := I.ops i hi j o ho
    rw [e] at e'
    injection e' with e'
    injection e' with e' _
    subst e'
    exact hsh b (cell_lt' c0)
  · obtain ⟨s, so, e, hc⟩ := hsc j z hz
    exact ⟨s, so, e, hc1 hc, hsh s (cell_lt' hc)⟩
  · rintro _ w4 ⟨cells, H, rfl⟩
    obtain ⟨y, A, oo, ok, hd, own, O⟩ := H.all
    have hold := H.old
    have hsz := H.size
    generalize playO (spLa (w.heap.size + 2) (w.heap.size + 1) (stN xs.length) (some ⟨w.heap.size + 1, 0, none⟩) (stN xs.length - 1)) (spJ xs (min xs.length 64)) ops n most sl = F at *
    obtain rfl := O.eq
    obtain ⟨arr, hAr, hAz, hAi⟩ := O.heads
    have hAl := O.Alo
    have hAlt : A < w4.heap.size := (Array.getElem?_eq_some_iff.1 hAr).1
    have hT4 : w4.heap[w.heap.size]? = some (.cells #[.slice none 0 0, .slice none 0 0, .slice none 0 0, .bool false] 31) := (hold _ (by omega) (show ¬ (w.heap.size = w.heap.size + 2 ∨ (1 < stN xs.length ∧ w.heap.size = w.heap.size + 1)) by omega)).trans hT
    refine Runs.walk (hB A n oo _ ok _ _ w4 (by omega) (by omega) O.I hT4) ?_
    rintro _ w5 ⟨B, rfl, hBsz, hTold, hold5, hsz5⟩
    have hlen := stL_len F.1.s (stN xs.length)
    have hrow := hTold.row (base := w4.heap.size) hlen hBsz (by simp only [maxLen]; omega)
    have hns : ∀ b, w1.heap.size ≤ b → ¬ (b = w.heap.size + 2 ∨ (1 < stN xs.length ∧ b = w.heap.size + 1)) := fun b hb => by omega
    have hrowlt : ∀ (v : Value) (e : TypeId) (sz m : Nat) (ys : List Value), w4.ownsRow w1.heap.size e sz v m ys → w5.ownsRow w.heap.size e sz v m ys := fun v e sz m ys h => row_low (row_same h fun b hb => hold5 b (h.lt b hb).2 (by have := (h.lt b hb).1; omega) (hns b (h.lt b hb).1)) (by omega)
    have hBb := fun b (h : (Value.slice (some (⟨B, 0, none⟩ : Addr)) (stN xs.length) (stN xs.length)).ownBlock = some b) => (hrow.lt b h).1
    refine .now ⟨_, ⟨⟨A, oo, ok, .slice (some ⟨B, 0, none⟩) (stN xs.length) (stN xs.length), hd, fun i b => own i b ∧ w1.heap.size ≤ b ∧ b < w4.heap.size, rfl, by omega, hrowlt _ _ _ _ _ O.orow, ?_, ⟨arr, (hold5 A hAlt (by omega) (hns A hAl)).trans hAr, hAz, hAi⟩, fun i hi => ?_, fun i j b h1 h2 => O.one i j b h1.1 h2.1, fun i b h => ⟨(O.ownA i b h.1).1, O.ownO i b h.1, fun e => ?_⟩, O.Aord, fun e => ?_, fun b h e => ?_⟩, fun b hb => ?_, by omega⟩, rfl⟩
    · rw [hlen]
      exact row_low hrow (by omega)
    · obtain ⟨ta2, tc2, z, hz1, hz2, hz3, hz4, hz5⟩ := O.rows i hi
      refine ⟨ta2, tc2, z, hz1, hz2, hrowlt _ _ _ _ _ hz3, fun b hb => ⟨hz4 b hb, hz3.lt b hb⟩, fun p hp' => ?_⟩
      obtain ⟨la, lc, e, hlen, hl⟩ := hz5 p hp'
      exact ⟨la, lc, e, hlen, fun hne => ⟨hrowlt _ _ _ _ _ (hl hne).1, fun b hb => ⟨(hl hne).2 b hb, (hl hne).1.lt b hb⟩⟩⟩
    · have := hBb b e; omega
    · have := hBb A e; omega
    · have := hBb b e; have := (O.orow.lt b h).2; omega
    · exact (hold5 b (by omega) (by omega) (hsh b hb)).trans ((hold b (by omega) (hsh b hb)).trans (hO b hb))
section
section
variable {cb rb m rc : Nat} {ra : Option Addr}
theorem run_sum (s : Sp) : ∀ (r k : Nat), k + r = m → runN (spLa cb rb m ra rc) r (s, dU m k (stL s k)) = some (s, ⟨true, sumZ (stL s m), []⟩)
  | 0, k, h => by
    have h : k = m := h
    subst h
    have e : dU k k (stL s k) = .inl ⟨true, sumZ (stL s k), []⟩ := if_pos rfl
    rw [e]
    exact runN_inl _ _ _ _
  | r + 1, k, h => by
    have e : dU m k (stL s k) = .inr (.u1 k (stL s k)) := if_neg (by omega)
    rw [e]
    have e2 : (spLa cb rb m ra rc).act s (.u1 k (stL s k)) = (s, dU m (k + 1) (stL s (k + 1))) := by rw [stL_succ]; rfl
    show runN (spLa cb rb m ra rc) r ((spLa cb rb m ra rc).act s (.u1 k (stL s k))) = _
    rw [e2]
    exact run_sum s r (k + 1) (by omega)
def tkS (s : Sp) (k : Nat) : Sp := fun i => if i < k then 0 else s i
theorem tkS_succ (s : Sp) (k : Nat) : spPut (tkS s k) k 0 = tkS s (k + 1) := by
  funext i
  unfold spPut tkS
  by_cases h : i = k
  · subst h; rw [upd_same, if_pos (by omega)]
  · rw [upd_ne _ _ h]
    by_cases h2 : i < k
    · rw [if_pos h2, if_pos (by omega)]
    · rw [if_neg h2, if_neg (by omega)]
theorem run_take (s : Sp) : ∀ (r k : Nat), k + r = m → runN (spLa cb rb m ra rc) r (tkS s k, dT m k (stL s k)) = some (tkS s m, ⟨true, sumZ (stL s m), []⟩)
  | 0, k, h => by
    have h : k = m := h
    subst h
    have e : dT k k (stL s k) = .inl ⟨true, sumZ (stL s k), []⟩ := if_pos rfl
    rw [e]
    exact runN_inl _ _ _ _
  | r + 1, k, h => by
    have e : dT m k (stL s k) = .inr (.t1 k (stL s k)) := if_neg (by omega)
    rw [e]
    have e2 : (spLa cb rb m ra rc).act (tkS s k) (.t1 k (stL s k)) = (tkS s (k + 1), dT m (k + 1) (stL s (k + 1))) := by
      have e3 : tkS s k k = s k := if_neg (Nat.lt_irrefl k)
      show (spPut (tkS s k) k 0, if k + 1 = m then Sum.inl (Ans.mk true (sumZ (stL s k ++ [tkS s k k])) []) else Sum.inr (SD.t1 (k + 1) (stL s k ++ [tkS s k k]))) = _
      rw [tkS_succ, e3, ← stL_succ]
      rfl
    show runN (spLa cb rb m ra rc) r ((spLa cb rb m ra rc).act (tkS s k) (.t1 k (stL s k))) = _
    rw [e2]
    exact run_take s r (k + 1) (by omega)
theorem tkS_zero (s : Sp) : tkS s 0 = s := by
  funext i
  exact if_neg (Nat.not_lt_zero i)
noncomputable def reg11_0 := rg Try.f11.body [0]
noncomputable def reg11_1 := rg Try.f11.body [1, 0]
theorem z11 : List.range reg11_0.size = [0] ∧ List.range reg11_1.size = [0, 1, 2] := by refine ⟨?_, ?_⟩ <;> kernel_rfl
theorem code11_is : Try.f11.body = some (.seq (.region 0 reg11_0 false) (.seq (.region 1 reg11_1 false) (.ret))) := by kernel_rfl
structure Reads (cb rb m : Nat) (ra : Option Addr) (rc : Nat) (s : Sp) (w w' : World) : Prop where
  I : SpI cb rb m ra rc s w'
  size : w.heap.size ≤ w'.heap.size
  old : ∀ b, b < w.heap.size → ¬ (b = cb ∨ (1 < m ∧ b = rb)) → w'.heap[b]? = w.heap[b]?
variable {main : Bool} {V : Nat → Option Wait}
theorem total_w (hA : ∀ b, Apart V b) (s : Sp) (w : World) (I : SpI cb rb m ra rc s w) : CallW Try.prog main V 11 #[.pointer (some ⟨cb, 0, none⟩)] w (fun v w' => v = .int .i64 (sumZ (stL s m)) ∧ Reads cb rb m ra rc s w w') := by
  intro c cs
  rw [enter_at _ Try.func11 code11_is]
  simp only [Try.ntmps11, ez, Nat.reduceAdd, Nat.reduceSub]
  repeat (first | refine Walk.cx ?_ | (refine Walk.cReg ?_; simp only [z11]) | (refine Walk.oq ?_; try walk_nrm) | (refine Walk.un ?_; walk_nrm))
  refine Walk.callLone (L := spLa cb rb m ra rc) (R := (s, ⟨true, sumZ (stL s m), []⟩)) (Rel := fun v x _ _ => v = .int .i64 x.n) m () s (dU m 0 []) hA I (run_sum s m 0 (by omega)) (f := 20) (fun K e ht => ?_) (ho_of (by conv => lhs; whnf) (by kernel_rfl)) (by rfl) (by decide) rfl Try.func20 (by kernel_rfl) (by rfl) ⟨rfl, rfl, _, Try.func11⟩ ?_
  · walk_nrm
    have h := ssum_s K (dU m) .u1 (fun k l hk => if_neg (by omega)) (fun _ _ _ => rfl) e ht
    refine fun fr l hp hl hk => h fr l hp hl fun v e' ⟨ls, _, hv, ht'⟩ => hk v e' ⟨⟨true, sumZ ls, []⟩, hv, ?_⟩
    rw [ht']
    exact congrArg (Prod.mk _) (if_pos rfl)
  rintro v w1 _ rfl H1
  have hI : SpI cb rb m ra rc s w1 := H1.I
  have hO := H1.old
  have hZ := H1.size
  walk_nrm
  repeat (first | refine Walk.cx ?_ | (refine Walk.cReg ?_; simp only [z11]) | (refine Walk.oq ?_; try walk_nrm) | (refine Walk.un ?_; walk_nrm))
  exact Walk.on1 rfl rfl Try.func11 rfl (.stop fun d => ⟨_, ⟨rfl, hI.old fun _ _ => rfl, hZ, hO⟩, rfl⟩)
end
def fxSl : List Int := [0, 1, 1, 0]
def fySl : List Int := [0, 1, 1, 0, 0]
theorem stN2 : stN 2 = 2 := by decide
def fxZ : Array Value := #[.int .i64 0, .int .i64 0]
def fxB : Array Value := #[.int .i64 1, .int .i64 0, .int .i64 1, .int .i64 0, .int .i64 1, .int .i64 1, .int .i64 1, .int .i64 0]
def fxA (k : Int) : Array Value := #[.int .i64 k, .int .i64 0, .int .i64 0, .int .i64 0]
def fxH (A B : Nat) : Array Value := #[.slice (some ⟨A, 0, none⟩) 1 1, .slice (some ⟨B, 0, none⟩) 2 2]
def fxOa (A B : Nat) (i : Nat) : Option Addr := if i = 0 then some ⟨A, 0, none⟩ else some ⟨B, 0, none⟩
def fxL (i : Nat) : Nat := if i = 0 then 1 else 2
def fkOps (k : Int) : Nat → List OpV := fun i => ([[⟨k, 0, 0, 0⟩], [⟨1, 0, 1, 0⟩, ⟨1, 1, 1, 0⟩]] : List (List OpV)).getD i []
theorem fx_run (cb rb : Nat) (ra : Option Addr) (rc : Nat) : ((playO (spLa cb rb 2 ra rc) (spJ [0, 0] (min ([0, 0] : List Int).length 64)) (fkOps 2) 2 99 fxSl).1.th 0).ans = [⟨true, 1, []⟩] := by kernel_rfl
theorem fy_run (cb rb : Nat) (ra : Option Addr) (rc : Nat) : ((playO (spLa cb rb 2 ra rc) (spJ [0, 0] (min ([0, 0] : List Int).length 64)) (fkOps 5) 2 99 fySl).1.th 0).ans = [⟨false, 0, []⟩] := by kernel_rfl
theorem fx_ops {k : Int} {A B Hd : Nat} {w : World} (h1 : w.heap[A]? = some (.cells (fxA k) 34)) (h2 : w.heap[B]? = some (.cells fxB 34)) (h4 : w.heap[Hd]? = some (.cells (fxH A B) 28)) : OpsIn Hd 0 2 (fxOa A B) fxL fxL (fkOps k) w := by
  refine ⟨fun i hi => ?_, fun i hi => Nat.le_refl _, fun i hi => .inr ?_, fun i hi => ?_, fun i hi j o ho => ?_⟩
  · rw [Nat.zero_add]
    refine (cell_of h4 i).trans ?_
    match i, hi with
    | 0, _ => rfl
    | 1, _ => rfl
  · match i, hi with
    | 0, _ => exact ⟨_, rfl⟩
    | 1, _ => exact ⟨_, rfl⟩
  · match i, hi with
    | 0, _ => rfl
    | 1, _ => rfl
  · match i, hi, ho with
    | 0, _, ho =>
      match j, ho with
      | 0, ho => cases ho; exact ⟨A, 0, rfl, (cell_of h1 _).trans rfl, (cell_of h1 _).trans rfl, (cell_of h1 _).trans rfl, (cell_of h1 _).trans rfl⟩
      | j + 1, ho => exact absurd ho (by simp [fkOps])
    | 1, _, ho =>
      match j, ho with
      | 0, ho => cases ho; exact ⟨B, 0, rfl, (cell_of h2 _).trans rfl, (cell_of h2 _).trans rfl, (cell_of h2 _).trans rfl, (cell_of h2 _).trans rfl⟩
      | 1, ho => cases ho; exact ⟨B, 0, rfl, (cell_of h2 _).trans rfl, (cell_of h2 _).trans rfl, (cell_of h2 _).trans rfl, (cell_of h2 _).trans rfl⟩
      | j + 2, ho => exact absurd ho (by simp [fkOps])
end
end Go.Proofs.Ytabpfdckgnimaaa
