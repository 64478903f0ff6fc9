/- Part 18. -/
import Derived.Test.YtnnakajldnaldaaJ16
import Derived.Test.YtnnakajldnaldaaJ17
set_option linter.unusedSimpArgs false
set_option linter.unusedVariables false
set_option maxHeartbeats 8000000
set_option maxRecDepth 100000
namespace Go.Proofs.Ytnnakajldnaldaa
open Go.Conc Go.RowKit Go.Relay
open Go.ConcN (upd upd_ne upd_same)
section
def intRow (l : List Int) : List Value := l.map (.int .i64)
theorem intRow_snoc (l : List Int) (x : Int) : intRow (l ++ [x]) = intRow l ++ [.int .i64 x] := by simp [intRow]
structure R5 where
  ov : Value
  ops : List OpV
  av : Value
  ans : List Ans
  who : Int
  at' : Nat
  pc : Int
  sum : Int
  sv : Value
  seen : List Int
def R5.cells (t : R5) : List Value := [t.ov, t.av, .int .i64 t.who, .int .i64 t.at', .int .i64 t.pc, .int .i64 t.sum, t.sv]
def R5.own (t : R5) (b : Nat) : Prop := t.av.ownBlock = some b ∨ t.sv.ownBlock = some b
def OpsAt (a0 : Nat) (ov : Value) (l : List OpV) (w : World) : Prop := ∃ oa oc, ov = .slice oa l.length oc ∧ ∀ (k : Nat) (o : OpV), l[k]? = some o → ∃ b off, oa = some ⟨b, off, none⟩ ∧ b < a0 ∧ b < w.heap.size ∧ ∀ (j : Nat) (v : Value), ([.int .i64 o.k, .int .i64 o.a, .int .i64 o.b, .int .i64 o.c] : List Value)[j]? = some v → w.cell? ⟨b, off + k * 4 + j, none⟩ = some v
theorem OpsAt.same {a0 : Nat} {ov : Value} {l : List OpV} {w w' : World} (h : OpsAt a0 ov l w) (hO : ∀ b, b < a0 → b < w.heap.size → w'.heap[b]? = w.heap[b]?) : OpsAt a0 ov l w' := by
  obtain ⟨oa, oc, e, h⟩ := h
  refine ⟨oa, oc, e, fun k o ho => ?_⟩
  obtain ⟨b, off, e, h1, h2, h3⟩ := h k o ho
  have hb := hO b h1 h2
  refine ⟨b, off, e, h1, ?_, fun j v hv => (World.cell?_of_block (a := ⟨b, off + k * 4 + j, none⟩) hb).trans (h3 j v hv)⟩
  have := h3 0 _ rfl
  exact cell_lt' ((World.cell?_of_block (a := ⟨b, off + k * 4 + 0, none⟩) hb).trans this)
structure R5.Rows (t : R5) (a0 : Nat) (w : World) : Prop where
  rO : OpsAt a0 t.ov t.ops w
  rA : w.ownsRow a0 43 3 t.av t.ans.length (ansRow t.ans)
  rS : w.ownsRow a0 2 1 t.sv t.seen.length (intRow t.seen)
  ne : ∀ b, t.av.ownBlock = some b → t.sv.ownBlock ≠ some b
theorem R5.Rows.same {t : R5} {a0 : Nat} {w w' : World} (h : t.Rows a0 w) (hO : ∀ b, b < a0 → b < w.heap.size → w'.heap[b]? = w.heap[b]?) (hR : ∀ b, t.own b → w'.heap[b]? = w.heap[b]?) : t.Rows a0 w' :=
  ⟨h.rO.same hO, row_same h.rA fun b hb => hR b (.inl hb), row_same h.rS fun b hb => hR b (.inr hb), h.ne⟩
theorem R5.Rows.low {t : R5} {a0 : Nat} {w : World} (h : t.Rows a0 w) {b : Nat} (hb : t.own b) : a0 ≤ b ∧ b < w.heap.size := by
  rcases hb with hb | hb
  · exact h.rA.lt b hb
  · exact h.rS.lt b hb
structure M5 (a0 M cg cc tb tc n m : Nat) (ta : Option Addr) (C : Nat → Int) (T : Nat → R5) (w : World) : Prop where
  hd : w.heap[M]? = some (.cells #[.slice (some ⟨cg, 0, none⟩) m cc, .slice ta n tc] 103)
  cs : ∃ arr : Array Value, w.heap[cg]? = some (.cells arr 2) ∧ ∀ i, i < m → arr[i]? = some (.int .i64 (C i))
  ts : 0 < n → ta = some ⟨tb, 0, none⟩ ∧ ∃ arr : Array Value, w.heap[tb]? = some (.cells arr 105) ∧ arr.size = tc * 7 ∧ n ≤ tc ∧ tc ≤ maxLen ∧ ∀ i, i < n → ∀ (j : Nat) (v : Value), (T i).cells[j]? = some v → arr[i * 7 + j]? = some v
  rows : ∀ i, i < n → (T i).Rows a0 w
  far : ∀ i, i < n → ∀ b, (T i).own b → b ≠ M ∧ b ≠ cg ∧ b ≠ tb ∧ ∀ k, k < n → k ≠ i → ¬ (T k).own b
  base : a0 ≤ M ∧ a0 ≤ cg ∧ M ≠ cg ∧ (0 < n → a0 ≤ tb ∧ M ≠ tb ∧ cg ≠ tb)
section
variable {a0 M cg cc tb tc n m : Nat} {ta : Option Addr} {C : Nat → Int} {T : Nat → R5} {w w' : World}
theorem M5.lt (I : M5 a0 M cg cc tb tc n m ta C T w) : M < w.heap.size ∧ cg < w.heap.size ∧ (0 < n → tb < w.heap.size) := by
  obtain ⟨arr, h1, _⟩ := I.cs
  refine ⟨(Array.getElem?_eq_some_iff.1 I.hd).1, (Array.getElem?_eq_some_iff.1 h1).1, fun hn => ?_⟩
  obtain ⟨_, arr, h2, _⟩ := I.ts hn
  exact (Array.getElem?_eq_some_iff.1 h2).1
theorem M5.same (I : M5 a0 M cg cc tb tc n m ta C T w) (h : ∀ b, b < w.heap.size → w'.heap[b]? = w.heap[b]?) : M5 a0 M cg cc tb tc n m ta C T w' := by
  obtain ⟨l1, l2, l3⟩ := I.lt
  refine ⟨(h M l1).trans I.hd, ?_, fun hn => ?_, fun i hi => ?_, I.far, I.base⟩
  · obtain ⟨arr, h1, h2⟩ := I.cs
    exact ⟨arr, (h cg l2).trans h1, h2⟩
  · obtain ⟨e, arr, h1, h2⟩ := I.ts hn
    exact ⟨e, arr, (h tb (l3 hn)).trans h1, h2⟩
  · have R := I.rows i hi
    exact R.same (fun b _ hb => h b hb) fun b hb => h b (R.low hb).2
theorem M5.tcell (I : M5 a0 M cg cc tb tc n m ta C T w) {i : Nat} (hi : i < n) {j : Nat} {v : Value} (h : (T i).cells[j]? = some v) : w.cell? ⟨tb, i * 7 + j, none⟩ = some v := by
  obtain ⟨_, arr, h1, _, _, _, h2⟩ := I.ts (by omega)
  exact (cell_of h1 _).trans (h2 i hi j v h)
theorem M5.tfrz (I : M5 a0 M cg cc tb tc n m ta C T w) {i : Nat} (hi : i < n) (q : Nat) : w.frozen? ⟨tb, q, none⟩ = false := by
  obtain ⟨_, arr, h1, _⟩ := I.ts (by omega)
  exact frozen_of h1 q
theorem M5.cC (I : M5 a0 M cg cc tb tc n m ta C T w) : w.cell? ⟨M, 0, none⟩ = some (.slice (some ⟨cg, 0, none⟩) m cc) := (cell_of I.hd 0).trans rfl
theorem M5.cT (I : M5 a0 M cg cc tb tc n m ta C T w) (hn : 0 < n) : w.cell? ⟨M, 1, none⟩ = some (.slice (some ⟨tb, 0, none⟩) n tc) := by
  obtain ⟨rfl, _⟩ := I.ts hn
  exact (cell_of I.hd 1).trans rfl
theorem M5.ccell (I : M5 a0 M cg cc tb tc n m ta C T w) {i : Nat} (hi : i < m) : w.cell? ⟨cg, i, none⟩ = some (.int .i64 (C i)) := by
  obtain ⟨arr, h1, h2⟩ := I.cs
  exact (cell_of h1 _).trans (h2 i hi)
theorem M5.cfrz (I : M5 a0 M cg cc tb tc n m ta C T w) (q : Nat) : w.frozen? ⟨cg, q, none⟩ = false := by
  obtain ⟨arr, h1, _⟩ := I.cs
  exact frozen_of h1 q
theorem M5.putC (I : M5 a0 M cg cc tb tc n m ta C T w) {i : Nat} (hi : i < m) (x : Int) : M5 a0 M cg cc tb tc n m ta (upd C i x) T (w.setCell ⟨cg, i, none⟩ (.int .i64 x)) := by
  obtain ⟨b1, b2, b3, b4⟩ := I.base
  have ho : ∀ b, b ≠ cg → (w.setCell ⟨cg, i, none⟩ (.int .i64 x)).heap[b]? = w.heap[b]? := fun b hb => heap_set_other _ _ _ _ hb
  refine ⟨(ho M b3).trans I.hd, ?_, fun hn => ?_, fun k hk => ?_, I.far, I.base⟩
  · obtain ⟨arr, h1, h2⟩ := I.cs
    refine ⟨_, heap_set_self _ _ h1, fun k hk => ?_⟩
    by_cases e : k = i
    · subst e
      rw [upd_same]
      exact Array.getElem?_setIfInBounds_self_of_lt (Array.getElem?_eq_some_iff.1 (h2 k hk)).1
    · rw [upd_ne _ _ e, Array.getElem?_setIfInBounds_ne (by omega)]
      exact h2 k hk
  · obtain ⟨e, arr, h1, h2⟩ := I.ts hn
    exact ⟨e, arr, (ho tb (Ne.symm (b4 hn).2.2)).trans h1, h2⟩
  · have R := I.rows k hk
    exact R.same (fun b hb _ => ho b (by omega)) fun b hb => ho b (I.far k hk b hb).2.1
theorem M5.put' (I : M5 a0 M cg cc tb tc n m ta C T w) {i : Nat} (hi : i < n) {j : Nat} {v : Value} {t : R5} (hc : t.cells = (T i).cells.set j v) (hj : j < 7) (w1 : World) (h1 : ∀ b, b < w.heap.size → ¬ (T i).own b → w1.heap[b]? = w.heap[b]?)
    (hr : t.Rows a0 w1) (hf : ∀ b, t.own b → (T i).own b ∨ w.heap.size ≤ b) : M5 a0 M cg cc tb tc n m ta C (upd T i t) (w1.setCell ⟨tb, i * 7 + j, none⟩ v) := by
  obtain ⟨b1, b2, b3, b4⟩ := I.base
  obtain ⟨b5, b6, b7⟩ := b4 (by omega)
  obtain ⟨l1, l2, l3⟩ := I.lt
  have l3 := l3 (by omega)
  have hns : ∀ {b}, b = M ∨ b = cg ∨ b = tb → ¬ (T i).own b := fun hb ho => by
    obtain ⟨e1, e2, e3, _⟩ := I.far i hi _ ho
    rcases hb with h | h | h
    · exact e1 h
    · exact e2 h
    · exact e3 h
  have ho : ∀ b, b ≠ tb → (w1.setCell ⟨tb, i * 7 + j, none⟩ v).heap[b]? = w1.heap[b]? := fun b hb => heap_set_other _ _ _ _ hb
  have hfar : ∀ b, t.own b → b ≠ M ∧ b ≠ cg ∧ b ≠ tb ∧ ∀ k, k < n → k ≠ i → ¬ (T k).own b := fun b hb => by
    rcases hf b hb with h | h
    · exact I.far i hi b h
    · exact ⟨by omega, by omega, by omega, fun k hk _ hk' => by have := ((I.rows k hk).low hk').2; omega⟩
  refine ⟨(ho M b6).trans ((h1 M l1 (hns (.inl rfl))).trans I.hd), ?_, fun hn => ?_, fun k hk => ?_, fun k hk b hb => ?_, I.base⟩
  · obtain ⟨arr, h2, h3⟩ := I.cs
    exact ⟨arr, (ho cg b7).trans ((h1 cg l2 (hns (.inr (.inl rfl)))).trans h2), h3⟩
  · obtain ⟨e, arr, h2, h3, h4, h5, h6⟩ := I.ts hn
    refine ⟨e, _, heap_set_self _ _ ((h1 tb l3 (hns (.inr (.inr rfl)))).trans h2), by simpa using h3, h4, h5, fun k hk q x hx => ?_⟩
    by_cases e : k = i
    · subst e
      rw [upd_same, hc] at hx
      by_cases eq : q = j
      · subst eq
        rw [List.getElem?_set_self (by simpa [R5.cells] using hj)] at hx
        cases hx
        exact Array.getElem?_setIfInBounds_self_of_lt (by rw [h3]; have : (k + 1) * 7 ≤ tc * 7 := Nat.mul_le_mul_right 7 (by omega); omega)
      · rw [List.getElem?_set_ne (by omega)] at hx
        rw [Array.getElem?_setIfInBounds_ne (by omega)]
        exact h6 k hk q x hx
    · rw [upd_ne _ _ e] at hx
      have hq : q < 7 := by have := (List.getElem?_eq_some_iff.1 hx).1; simpa [R5.cells] using this
      rw [Array.getElem?_setIfInBounds_ne (by
        rcases Nat.lt_or_gt_of_ne e with h | h
        · have : (k + 1) * 7 ≤ i * 7 := Nat.mul_le_mul_right 7 h
          omega
        · have : (i + 1) * 7 ≤ k * 7 := Nat.mul_le_mul_right 7 h
          omega)]
      exact h6 k hk q x hx
  · by_cases e : k = i
    · subst e
      rw [upd_same]
      exact hr.same (fun b hb _ => ho b (by omega)) fun b hb => ho b (hfar b hb).2.2.1
    · rw [upd_ne _ _ e]
      have R := I.rows k hk
      exact R.same (fun b hb hw => (ho b (by omega)).trans (h1 b hw fun h => by have := ((I.rows i hi).low h).1; omega)) fun b hb => (ho b (I.far k hk b hb).2.2.1).trans (h1 b (R.low hb).2 ((I.far k hk b hb).2.2.2 i hi (Ne.symm e)))
  · by_cases e : k = i
    · subst e
      rw [upd_same] at hb
      obtain ⟨e1, e2, e3, e4⟩ := hfar b hb
      refine ⟨e1, e2, e3, fun q hq hqk => ?_⟩
      rw [upd_ne _ _ hqk]
      exact e4 q hq hqk
    · rw [upd_ne _ _ e] at hb
      obtain ⟨e1, e2, e3, e4⟩ := I.far k hk b hb
      refine ⟨e1, e2, e3, fun q hq hqk => ?_⟩
      by_cases eq : q = i
      · subst eq
        rw [upd_same]
        exact fun h => (hfar b h).2.2.2 k hk e hb
      · rw [upd_ne _ _ eq]
        exact e4 q hq hqk
theorem M5.put (I : M5 a0 M cg cc tb tc n m ta C T w) {i : Nat} (hi : i < n) {j : Nat} {v : Value} {t : R5} (hc : t.cells = (T i).cells.set j v) (hj : j < 7) (h1 : t.ov = (T i).ov ∧ t.ops = (T i).ops ∧ t.av = (T i).av ∧ t.ans = (T i).ans ∧ t.sv = (T i).sv ∧ t.seen = (T i).seen) : M5 a0 M cg cc tb tc n m ta C (upd T i t) (w.setCell ⟨tb, i * 7 + j, none⟩ v) := by
  obtain ⟨e1, e2, e3, e4, e5, e6⟩ := h1
  have R := I.rows i hi
  refine I.put' hi hc hj w (fun _ _ _ => rfl) ⟨?_, ?_, ?_, ?_⟩ fun b hb => .inl ?_
  · rw [e1, e2]; exact R.rO
  · rw [e3, e4]; exact R.rA
  · rw [e5, e6]; exact R.rS
  · rw [e3, e5]; exact R.ne
  · unfold R5.own at hb ⊢
    rw [e3, e5] at hb
    exact hb
end
noncomputable def reg67_0 := rg Try.f67.body [0]
noncomputable def reg67_1 := rg Try.f67.body [1, 0]
noncomputable def reg67_2 := rg Try.f67.body [1, 1, 0, 0]
noncomputable def reg67_3 := rg Try.f67.body [1, 1, 0, 1, 0]
noncomputable def reg67_4 := rg Try.f67.body [1, 1, 1, 0]
theorem z67 : List.range reg67_0.size = [0] ∧ List.range reg67_1.size = [0, 1, 2, 3] ∧ List.range reg67_2.size = [0, 1] ∧ List.range reg67_3.size = [0, 1, 2, 3] ∧ List.range reg67_4.size = [0, 1] := by refine ⟨?_, ?_, ?_, ?_, ?_⟩ <;> kernel_rfl
theorem code67_is : Try.f67.body = some (.seq (.region 0 reg67_0 false) (.seq (.region 1 reg67_1 false) (.seq (.seq (.region 2 reg67_2 false) (.cond (.tmp 10 ) (.region 3 reg67_3 false) (.skip))) (.seq (.region 4 reg67_4 false) (.ret))))) := by kernel_rfl
section
variable {main : Bool} {V : Nat → Option Wait}
theorem rat_neg (a : Int) (m : Nat) (hm0 : 0 < m) (hm : m ≤ 64) (hr : a.tmod m < 0) (w : World) : CallV Try.prog main V 67 #[.int .i64 a, .int .i64 m] w (.int .i64 (stAt m a : Nat)) w := by
  have hmz : ((m : Int) == 0) = false := by simp; omega
  have hmz' : ¬ (m : Int) = 0 := by omega
  have hmz2 : ¬ m = 0 := by omega
  have t1 := Int.lt_tmod_of_pos a (show (0 : Int) < m by omega)
  have t2 := Int.tmod_lt_of_pos a (show (0 : Int) < m by omega)
  rw [stAt_neg hm0 hr]
  generalize hR : a.tmod m = R at *
  have hd : decide (R < 0) = true := by simp; omega
  have hw : IntKind.i64.wrap (R + (m : Int)) = R + m := by rw [IntKind.wrap_i64]; omega
  have hw2 : IntKind.i64.wrap R = R := by rw [IntKind.wrap_i64]; omega
  refine callW_in Try.func67 code67_is fun fr cs => ?_
  simp only [Try.ntmps67, ez, Nat.reduceAdd, Nat.reduceSub]
  repeat (first | refine Walk.cx ?_ | (refine Walk.cReg ?_; simp only [z67]) | (refine Walk.oq ?_; try walk_nrm) | (refine Walk.un ?_; walk_nrm))
  exact Walk.ret1 rfl rfl Try.func67 rfl fun d => ⟨rfl, d, rfl⟩
theorem rat_pos (a : Int) (m : Nat) (hm0 : 0 < m) (hm : m ≤ 64) (hr : 0 ≤ a.tmod m) (w : World) : CallV Try.prog main V 67 #[.int .i64 a, .int .i64 m] w (.int .i64 (stAt m a : Nat)) w := by
  have hmz : ((m : Int) == 0) = false := by simp; omega
  have hmz' : ¬ (m : Int) = 0 := by omega
  have hmz2 : ¬ m = 0 := by omega
  have t1 := Int.lt_tmod_of_pos a (show (0 : Int) < m by omega)
  have t2 := Int.tmod_lt_of_pos a (show (0 : Int) < m by omega)
  rw [stAt_pos hm0 hr]
  generalize hR : a.tmod m = R at *
  have hd : decide (R < 0) = false := by simp; omega
  have hw2 : IntKind.i64.wrap R = R := by rw [IntKind.wrap_i64]; omega
  refine callW_in Try.func67 code67_is fun fr cs => ?_
  simp only [Try.ntmps67, ez, Nat.reduceAdd, Nat.reduceSub]
  repeat (first | refine Walk.cx ?_ | (refine Walk.cReg ?_; simp only [z67]) | (refine Walk.oq ?_; try walk_nrm) | (refine Walk.un ?_; walk_nrm))
  exact Walk.ret1 rfl rfl Try.func67 rfl fun d => ⟨rfl, d, rfl⟩
theorem rat_w (a : Int) (m : Nat) (hm0 : 0 < m) (hm : m ≤ 64) (w : World) : CallV Try.prog main V 67 #[.int .i64 a, .int .i64 m] w (.int .i64 (stAt m a : Nat)) w := by
  by_cases h : a.tmod m < 0
  · exact rat_neg a m hm0 hm h w
  · exact rat_pos a m hm0 hm (by omega) w
end
end
section
def m5S (M cg tb n : Nat) (T : Nat → R5) (b : Nat) : Prop := b = M ∨ b = cg ∨ b = tb ∨ ∃ k, k < n ∧ (T k).own b
structure Got (M cg tb n : Nat) (T T' : Nat → R5) (w w' : World) : Prop where
  chg : Chg (m5S M cg tb n T) w w'
  own : ∀ b, m5S M cg tb n T' b → m5S M cg tb n T b ∨ w.heap.size ≤ b
theorem Got.trans {M cg tb n : Nat} {T T1 T2 : Nat → R5} {w w1 w2 : World} (h1 : Got M cg tb n T T1 w w1) (h2 : Got M cg tb n T1 T2 w1 w2) : Got M cg tb n T T2 w w2 :=
  ⟨h1.chg.trans h2.chg fun b hb h => (h1.own b h).resolve_right (by omega), fun b h => (h2.own b h).elim (h1.own b) fun h => .inr (Nat.le_trans h1.chg.size h)⟩
theorem Got.refl {M cg tb n : Nat} {T : Nat → R5} {w : World} : Got M cg tb n T T w w := ⟨Chg.refl, fun _ h => .inl h⟩
theorem m5S_upd {M cg tb n i : Nat} {T : Nat → R5} {t : R5} {s : Nat} (hi : i < n) (h : ∀ b, t.own b → (T i).own b ∨ s ≤ b) : ∀ b, m5S M cg tb n (upd T i t) b → m5S M cg tb n T b ∨ s ≤ b := fun b hb => by
  rcases hb with hb | hb | hb | ⟨k, hk, hb⟩
  · exact .inl (.inl hb)
  · exact .inl (.inr (.inl hb))
  · exact .inl (.inr (.inr (.inl hb)))
  · by_cases e : k = i
    · subst e
      rw [upd_same] at hb
      exact (h b hb).imp (fun h => .inr (.inr (.inr ⟨k, hk, h⟩))) id
    · rw [upd_ne _ _ e] at hb
      exact .inl (.inr (.inr (.inr ⟨k, hk, hb⟩)))
theorem upd_twice {α : Type} (f : Nat → α) (i : Nat) (x y : α) : upd (upd f i x) i y = upd f i y := by
  funext k
  by_cases h : k = i
  · subst h; rw [upd_same, upd_same]
  · rw [upd_ne _ _ h, upd_ne _ _ h, upd_ne _ _ h]
structure AppR (a0 : Nat) (w1 : World) (a : Ans) (hd : Value) (ans : List Ans) (gb gcap : Nat) (w3 : World) : Prop where
  own : w3.ownsRow a0 43 3 (.slice (some ⟨gb, 0, none⟩) (ans.length + 1) gcap) (ans.length + 1) (ansRow ans ++ [.bool a.1, .int .i64 a.2, .slice none 0 0])
  grown : (ansA w1 a).grownBy w3 hd.ownBlock
  hat : hd.ownBlock = some gb ∨ gb = (ansA w1 a).heap.size
  hlt : gb < w3.heap.size
noncomputable def reg68_0 := rg Try.f68.body [0]
noncomputable def reg68_1 := rg Try.f68.body [1, 0]
theorem size68_1 : reg68_1.size = 19 := by kernel_rfl
noncomputable def reg68_2 := rg Try.f68.body [1, 1, 0]
theorem size68_2 : reg68_2.size = 17 := by kernel_rfl
noncomputable def reg68_3 := rg Try.f68.body [1, 1, 1]
theorem z68 : List.range reg68_0.size = [0] ∧ List.range reg68_1.size = [0, 1, 2, 3, 4, 5, 6, 7, 8, 9, 10, 11, 12, 13, 14, 15, 16, 17, 18] ∧ List.range reg68_2.size = [0, 1, 2, 3, 4, 5, 6, 7, 8, 9, 10, 11, 12, 13, 14, 15, 16] ∧ List.range reg68_3.size = [0, 1, 2, 3, 4, 5, 6, 7] := by refine ⟨?_, ?_, ?_, ?_⟩ <;> kernel_rfl
theorem code68_is : Try.f68.body = some (.seq (.region 0 reg68_0 false) (.seq (.region 1 reg68_1 true) (.seq (.region 2 reg68_2 true) (.region 3 reg68_3 false)))) := by kernel_rfl
section
variable {a0 M cg cc tb tc n m : Nat} {ta : Option Addr} {C : Nat → Int} {T : Nat → R5}
theorem end_w {main : Bool} {i : Nat} (hi : i < n) (a : Ans) (w : World) (I : M5 a0 M cg cc tb tc n m ta C T w) (hn : n ≤ 64) (ha0 : a0 ≤ w.heap.size) (hl : (T i).ans.length ≤ 65536) (hk : (T i).at' ≤ 65536) :
    CallW Try.prog main (fun _ => none) 68 #[.pointer (some ⟨M, 0, none⟩), .int .i64 i, ansVal a] w (fun v w' => v = .tuple #[] ∧ ∃ av, M5 a0 M cg cc tb tc n m ta C (upd T i { T i with av := av, ans := (T i).ans ++ [a], at' := (T i).at' + 1, pc := 0 }) w' ∧ Got M cg tb n T (upd T i { T i with av := av, ans := (T i).ans ++ [a], at' := (T i).at' + 1, pc := 0 }) w w') := by
  intro c cs
  obtain ⟨fsA, huA⟩ := structT 43 (by kernel_rfl)
  obtain ⟨a1, a2⟩ := a
  simp only [ansVal]
  have hi0 : (0 : Int) ≤ i := by omega
  have hi1 : decide ((i : Int) < n) = true := by simp; omega
  have hi3 : decide (i < n) = true := by simp; omega
  have hi4 : (i : Int) < n := by omega
  have hw1 : IntKind.wrap .i64 (((T i).at' : Int) + 1) = ((T i).at' : Int) + 1 := by rw [IntKind.wrap_i64]; omega
  obtain ⟨bb1, bb2, bb3, bb4⟩ := I.base
  obtain ⟨bb5, bb6, bb7⟩ := bb4 (by omega)
  obtain ⟨ll1, ll2, ll3⟩ := I.lt
  have ll3 := ll3 (by omega)
  rw [enter_at _ Try.func68 code68_is]
  simp only [Try.ntmps68, ez, Nat.reduceAdd, Nat.reduceSub]
  repeat (first | refine Walk.cx ?_ | (refine Walk.cReg ?_; simp only [z68]) | (refine Walk.oq ?_; try walk_nrm) | (refine Walk.un ?_; walk_nrm))
  (refine Walk.oa ?_; try walk_nrm)
  have s0 : (w.alloc (.cells #[.bool a1, .int .i64 a2, .slice none 0 0] 43)).heap.size = w.heap.size + 1 := by simp
  have o0 : ∀ x, x < w.heap.size → (w.alloc (.cells #[.bool a1, .int .i64 a2, .slice none 0 0] 43)).heap[x]? = w.heap[x]? := fun x hx => heap_new_lt _ _ hx
  have d0 := heap_alloc_new w (.cells #[.bool a1, .int .i64 a2, .slice none 0 0] 43)
  have I0 := I.same o0
  generalize hT : w.heap.size = S at *
  generalize hw0 : w.alloc (.cells #[.bool a1, .int .i64 a2, .slice none 0 0] 43) = w0 at *
  replace s0 : S + 1 ≤ w0.heap.size ∧ w0.heap.size ≤ S + 1 := by omega
  have R0 := I0.rows i hi
  have c1 : w0.cell? ⟨M, 1, none⟩ = some (.slice (some ⟨tb, 0, none⟩) n tc) := I0.cT (by omega)
  have c2 : w0.cell? ⟨tb, i * 7 + 1, none⟩ = some (T i).av := I0.tcell hi rfl
  have hsz1 : w0.heap.size + 1 ≤ (ansA w0 (a1, a2)).heap.size ∧ (ansA w0 (a1, a2)).heap.size ≤ w0.heap.size + 1 := by simp [ansA]
  have hO1 : ∀ x, x < w0.heap.size → (ansA w0 (a1, a2)).heap[x]? = w0.heap[x]? := fun x hx => heap_new_lt _ _ hx
  have hown' : (ansA w0 (a1, a2)).ownsRow a0 43 3 (T i).av (T i).ans.length (ansRow (T i).ans) := row_same R0.rA fun g hg => hO1 g (R0.rA.lt g hg).2
  have hnews : ∀ (j : Nat) (u : Value), ([.bool a1, .int .i64 a2, .slice none 0 0] : List Value)[j]? = some u → (ansA w0 (a1, a2)).cell? ((⟨w0.heap.size, 0, none⟩ : Addr).add j) = some u := fun j u hu => by
    rw [add_none, Nat.zero_add]
    refine (cell_of (heap_alloc_new _ _) j).trans ?_
    simpa using hu
  have hnM : ∀ g, (T i).av.ownBlock = some g → g ≠ M ∧ g ≠ tb := fun g hg => by
    obtain ⟨e1, e2, e3, _⟩ := I.far i hi g (.inl hg)
    exact ⟨e1, e3⟩
  have hnT : ∀ g, (T i).av.ownBlock = some g → g ≠ S := fun g hg => by have := ((I.rows i hi).rA.lt g hg).2; omega
  have hfar : ∀ (x : Nat) (w2 : World), x < w0.heap.size → (∀ g, (T i).av.ownBlock = some g → g ≠ x) → (ansA w0 (a1, a2)).grownBy w2 (T i).av.ownBlock → w2.heap[x]? = w0.heap[x]? := fun x w2 hx hne hg => (hg.block x (by omega) (fun e => hne x e.symm rfl)).trans (hO1 x hx)
  have zT : ∀ x : World, x.heap[S]? = w0.heap[S]? → ∀ (j : Nat) (v : Value), ([.bool a1, .int .i64 a2, .slice none 0 0] : List Value)[j]? = some v → x.cell? ⟨S, 0 + j, none⟩ = some v := fun x hx j v hv => by
    rw [Nat.zero_add, cell_of (hx.trans d0)]
    simpa using hv
  repeat (first | refine Walk.cx ?_ | (refine Walk.cReg ?_; simp only [z68]) | (refine Walk.oq ?_; try walk_nrm) | (refine Walk.un ?_; walk_nrm))
  refine Walk.drawnT (iA := 14) (iB := 15) (w1 := ansA w0 (a1, a2)) (vA := .slice (some ⟨w0.heap.size, 0, none⟩) 1 1) (Z := fun x => x.cell? ⟨M, 1, none⟩ = some (.slice (some ⟨tb, 0, none⟩) n tc) ∧ x.cell? ⟨tb, i * 7 + 1, none⟩ = some (T i).av ∧ x.heap[S]? = w0.heap[S]?)
    (fun v w2 => ∃ g cap, v = .slice (some ⟨g, 0, none⟩) ((T i).ans.length + 1) cap ∧ AppR a0 w0 (a1, a2) (T i).av (T i).ans g cap w2) (by kernel_rfl) size68_1 (by kernel_rfl) (by kernel_rfl) (by kernel_rfl) (by kernel_rfl) (by decide) (ho_of (by conv => lhs; whnf) (by kernel_rfl)) (ho_of (by conv => lhs; whnf) (by kernel_rfl)) ⟨c1, c2, rfl⟩ ⟨cell_alloc _ _ c1, cell_alloc _ _ c2, hO1 S (by omega)⟩ ?_ ?_
  · rintro v w2 ⟨g, cap, _, hA⟩
    exact ⟨(World.cell?_of_block (a := ⟨M, 1, none⟩) (hfar M w2 (by omega) (fun g hg => (hnM g hg).1) hA.grown)).trans c1, (World.cell?_of_block (a := ⟨tb, i * 7 + 1, none⟩) (hfar tb w2 (by omega) (fun g hg => (hnM g hg).2) hA.grown)).trans c2, hfar S w2 (by omega) hnT hA.grown⟩
  rw [show List.filter (quietQ 14 15) (List.range 18) = [0, 1, 2, 3, 4, 5, 6, 7, 8, 9, 10, 11, 12, 13, 16, 17] from by decide]
  repeat (first | (refine Cm.opqZ (ho_of (by conv => lhs; whnf) (by kernel_rfl)) (by rfl) (fun wz hz dd e he => ?_) ?_; (· (obtain ⟨z1, z2, z3⟩ := hz; simp [go_sem, *] at he; try (subst he; exact evR_read _ _))); apply Exists.intro; apply And.intro; (· (intro wz hz dd K hK; obtain ⟨z1, z2, z3⟩ := hz; go_simp; exact hK))) | (refine Cm.unw (ho_of (by conv => lhs; whnf) (by kernel_rfl)) (by rfl) ?_; walk_nrm))
  refine Cm.loadS 43 (.tmp 5) (ho_of (by conv => lhs; whnf) (by kernel_rfl)) (by rfl) rfl S 0 [.bool a1, .int .i64 a2, .slice none 0 0] (.struct fsA) rfl (fun x hx => zT x hx.2.2) huA rfl (by kernel_rfl) ?_
  walk_nrm
  repeat (first | (refine Cm.opqZ (ho_of (by conv => lhs; whnf) (by kernel_rfl)) (by rfl) (fun wz hz dd e he => ?_) ?_; (· (obtain ⟨z1, z2, z3⟩ := hz; simp [go_sem, *] at he; try (subst he; exact evR_read _ _))); apply Exists.intro; apply And.intro; (· (intro wz hz dd K hK; obtain ⟨z1, z2, z3⟩ := hz; go_simp; exact hK))) | (refine Cm.unw (ho_of (by conv => lhs; whnf) (by kernel_rfl)) (by rfl) ?_; walk_nrm))
  refine Cm.done ⟨?_, ?_, ?_⟩
  · intro x hev rest hr'
    have e1 : x.tmps[19]?.getD undef = .agg #[.bool a1, .int .i64 a2, .slice none 0 0] := by simpa [Act.eval] using hev (.tmp 19) (by simp [Op.operands])
    clear hev
    (refine Walk.oa ?_; try walk_nrm)
    exact hr' _ _ ⟨rfl, _, rfl⟩
  · intro x hev rest hr'
    have e1 : x.eval (.tmp 18) = (T i).av := by simpa [Act.eval] using hev (.tmp 18) (by simp [Op.operands, Call.operands])
    have e2 : x.eval (.tmp 20) = .slice (some ⟨w0.heap.size, 0, none⟩) 1 1 := by simpa [Act.eval] using hev (.tmp 20) (by simp [Op.operands, Call.operands])
    have hiA := Option.some_get (show (Try.prog.info? 43).isSome = true by kernel_rfl)
    refine Walk.append (.tmp 18) (.tmp 20) 41 (ho_of (by conv => lhs; whnf) (by kernel_rfl)) (by rfl) (by decide) rfl a0 43 _ (.agg #[.bool false, .int .i64 0, .slice none 0 0]) 3 40 (by kernel_rfl) hiA.symm (by rfl) (by rfl) (by rfl) (by rfl) (by decide) (T i).av (T i).ans.length (ansRow (T i).ans) e1 hown' ⟨w0.heap.size, 0, none⟩ 1 1 [.bool a1, .int .i64 a2, .slice none 0 0] e2 (by rfl) hnews (by simp [Value.oneCell']) (by decide) (by simp [maxLen]; omega) (by omega) (by omega) (fun g _ => ap0 g) (fun g cap w3 hown hg hat hlt => ?_)
    exact hr' _ _ ⟨_, w3, ⟨g, cap, rfl, hown, hg, hat, hlt⟩, rfl, w3.drawn, rfl⟩
  rintro v w2 ⟨g, cap, rfl, hA⟩ rest hr'
  have hb2 : w2.heap[tb]? = w0.heap[tb]? := hfar tb w2 (by omega) (fun g hg => (hnM g hg).2) hA.grown
  have h12 : w2.cell? ⟨tb, i * 7 + 1, none⟩ = some (T i).av := (World.cell?_of_block (a := ⟨tb, i * 7 + 1, none⟩) hb2).trans c2
  have z12 : w2.frozen? ⟨tb, i * 7 + 1, none⟩ = false := by
    obtain ⟨_, arr, h1, _⟩ := I0.ts (by omega)
    exact frozen_of (hb2.trans h1) _
  have hgs := hA.grown.size
  have hlen : ((T i).ans ++ [(a1, a2)]).length = (T i).ans.length + 1 := by simp
  have hgo : ∀ b, ({ T i with av := .slice (some ⟨g, 0, none⟩) ((T i).ans.length + 1) cap, ans := (T i).ans ++ [(a1, a2)] } : R5).own b → (T i).own b ∨ w0.heap.size ≤ b := fun b hb => by
    rcases hb with hb | hb
    · simp only [Value.ownBlock, Option.some.injEq] at hb
      subst hb
      rcases hA.hat with h | h
      · exact .inl (.inl h)
      · exact .inr (by omega)
    · exact .inl (.inr hb)
  have I3 : M5 a0 M cg cc tb tc n m ta C (upd T i { T i with av := .slice (some ⟨g, 0, none⟩) ((T i).ans.length + 1) cap, ans := (T i).ans ++ [(a1, a2)] }) (w2.setCell ⟨tb, i * 7 + 1, none⟩ (.slice (some ⟨g, 0, none⟩) ((T i).ans.length + 1) cap)) := by
    refine I0.put' hi rfl (by decide) w2 (fun b hb hn => hfar b w2 hb (fun g hg e => hn (.inl (by rw [← e]; exact hg))) hA.grown) ⟨?_, ?_, ?_, fun b hb => ?_⟩ hgo
    · exact R0.rO.same fun b hb hw => hfar b w2 hw (fun g hg e => by have := (R0.rA.lt g hg).1; omega) hA.grown
    · show w2.ownsRow a0 _ 3 _ ((T i).ans ++ [(a1, a2)]).length (ansRow ((T i).ans ++ [(a1, a2)]))
      rw [hlen, ansRow_snoc]
      exact hA.own
    · exact row_same R0.rS fun b hb => hfar b w2 (R0.rS.lt b hb).2 (fun g hg e => R0.ne g hg (by rw [e]; exact hb)) hA.grown
    · simp only [Value.ownBlock, Option.some.injEq] at hb
      subst hb
      rcases hA.hat with h | h
      · exact R0.ne g h
      · exact fun e => by have := (R0.rS.lt g e).2; omega
  have hC3 : Got M cg tb n T (upd T i { T i with av := .slice (some ⟨g, 0, none⟩) ((T i).ans.length + 1) cap, ans := (T i).ans ++ [(a1, a2)] }) w (w2.setCell ⟨tb, i * 7 + 1, none⟩ (.slice (some ⟨g, 0, none⟩) ((T i).ans.length + 1) cap)) := by
    refine ⟨⟨by rw [size_set]; omega, fun x hx hn => ?_⟩, fun b hb => (m5S_upd hi hgo b hb).imp id fun h => by omega⟩
    rw [heap_set_other _ _ _ _ (fun e => hn (.inr (.inr (.inl e)))), hfar x w2 (by omega) (fun g hg e => hn (.inr (.inr (.inr ⟨i, hi, .inl (by rw [← e]; exact hg)⟩)))) hA.grown, o0 x (by omega)]
  (have hfr := fr0 tb (i * 7 + 1); refine Walk.os hfr h12 ?_; clear hfr; try walk_nrm)
  refine hr' _ _ ?_
  generalize w2.setCell ⟨tb, i * 7 + 1, none⟩ (.slice (some ⟨g, 0, none⟩) ((T i).ans.length + 1) cap) = w3 at *
  generalize hav : Value.slice (some ⟨g, 0, none⟩) ((T i).ans.length + 1) cap = av at *
  clear hA hgo h12 z12 hb2 hfar hown' hnews hnM hnT zT hO1 c1 c2 R0 I0 d0 o0
  have c1 : w3.cell? ⟨M, 1, none⟩ = some (.slice (some ⟨tb, 0, none⟩) n tc) := I3.cT (by omega)
  have c3 : w3.cell? ⟨tb, i * 7 + 3, none⟩ = some (.int .i64 (T i).at') := I3.tcell hi (by rw [upd_same]; rfl)
  have z3 := I3.tfrz hi (i * 7 + 3)
  have I4 := I3.put hi (j := 3) (v := .int .i64 (((T i).at' : Int) + 1)) (t := { T i with av := av, ans := (T i).ans ++ [(a1, a2)], at' := (T i).at' + 1 }) (by rw [upd_same]; rfl) (by decide) (by rw [upd_same]; exact ⟨rfl, rfl, rfl, rfl, rfl, rfl⟩)
  rw [upd_twice] at I4
  try walk_nrm
  repeat (first | refine Walk.cx ?_ | (refine Walk.cReg ?_; simp only [z68]) | (refine Walk.oq ?_; try walk_nrm) | (refine Walk.un ?_; walk_nrm))
  (refine Walk.drawnL (by kernel_rfl) size68_2 (by kernel_rfl) (by kernel_rfl) (by kernel_rfl) (by decide) ?_; simp only [List.range, List.range.loop]; repeat (first | (refine Cm.oq ?_) | (refine Cm.unw (ho_of (by conv => lhs; whnf) (by kernel_rfl)) (by rfl) ?_; walk_nrm)))
  refine Cm.done ?_
  intro rest hr
  (have hfr := fr0 tb (i * 7 + 3); refine Walk.os hfr c3 ?_; clear hfr; try walk_nrm)
  refine hr _ _ ?_
  have s4 := size_set w3 ⟨tb, i * 7 + 3, none⟩ (.int .i64 (((T i).at' : Int) + 1))
  have o4 : ∀ x, x ≠ tb → (w3.setCell ⟨tb, i * 7 + 3, none⟩ (.int .i64 (((T i).at' : Int) + 1))).heap[x]? = w3.heap[x]? := fun x hx => heap_set_other _ _ _ _ hx
  generalize w3.setCell ⟨tb, i * 7 + 3, none⟩ (.int .i64 (((T i).at' : Int) + 1)) = w4 at *
  clear c1 c3 z3
  have c1 : w4.cell? ⟨M, 1, none⟩ = some (.slice (some ⟨tb, 0, none⟩) n tc) := I4.cT (by omega)
  have c3 : w4.cell? ⟨tb, i * 7 + 4, none⟩ = some (.int .i64 (T i).pc) := I4.tcell hi (by rw [upd_same]; rfl)
  have z3 := I4.tfrz hi (i * 7 + 4)
  have I5 := I4.put hi (j := 4) (v := .int .i64 0) (t := { T i with av := av, ans := (T i).ans ++ [(a1, a2)], at' := (T i).at' + 1, pc := 0 }) (by rw [upd_same]; rfl) (by decide) (by rw [upd_same]; exact ⟨rfl, rfl, rfl, rfl, rfl, rfl⟩)
  rw [upd_twice] at I5
  try walk_nrm
  repeat (first | refine Walk.cx ?_ | (refine Walk.cReg ?_; simp only [z68]) | (refine Walk.oq ?_; try walk_nrm) | (refine Walk.un ?_; walk_nrm))
  (have hfr := fr0 tb (i * 7 + 4); refine Walk.os hfr c3 ?_; clear hfr; try walk_nrm)
  have s5 := size_set w4 ⟨tb, i * 7 + 4, none⟩ (.int .i64 0)
  have o5 : ∀ x, x ≠ tb → (w4.setCell ⟨tb, i * 7 + 4, none⟩ (.int .i64 0)).heap[x]? = w4.heap[x]? := fun x hx => heap_set_other _ _ _ _ hx
  generalize w4.setCell ⟨tb, i * 7 + 4, none⟩ (.int .i64 0) = w5 at *
  clear c1 c3 z3
  try walk_nrm
  repeat (first | refine Walk.cx ?_ | (refine Walk.cReg ?_; simp only [z68]) | (refine Walk.oq ?_; try walk_nrm) | (refine Walk.un ?_; walk_nrm))
  refine Walk.on0 rfl rfl Try.func68 rfl (.stop fun d => ⟨_, ⟨rfl, av, I5.same fun _ _ => rfl, ⟨⟨?_, fun x hx hn => ?_⟩, fun b hb => ?_⟩⟩, rfl⟩)
  · show w.heap.size ≤ w5.heap.size
    have := hC3.chg.size
    omega
  · show w5.heap[x]? = w.heap[x]?
    exact (o5 x fun e => hn (.inr (.inr (.inl e)))).trans ((o4 x fun e => hn (.inr (.inr (.inl e)))).trans (hC3.chg.same x hx hn))
  · refine hC3.own b ?_
    rcases hb with hb | hb | hb | ⟨k, hk, hb⟩
    · exact .inl hb
    · exact .inr (.inl hb)
    · exact .inr (.inr (.inl hb))
    · refine .inr (.inr (.inr ⟨k, hk, ?_⟩))
      by_cases e : k = i
      · subst e
        rw [upd_same] at hb ⊢
        exact hb
      · rw [upd_ne _ _ e] at hb ⊢
        exact hb
end
end
section
theorem R5.Rows.ovS {t : R5} {a0 : Nat} {w : World} (h : t.Rows a0 w) : ∃ oa oc, t.ov = .slice oa t.ops.length oc := by
  obtain ⟨oa, oc, e, _⟩ := h.rO
  exact ⟨oa, oc, e⟩
theorem R5.Rows.op {t : R5} {a0 : Nat} {w : World} (h : t.Rows a0 w) {k : Nat} {o : OpV} (ho : t.ops[k]? = some o) : ∃ g off oc, t.ov = .slice (some ⟨g, off, none⟩) t.ops.length oc ∧ g < a0 ∧ g < w.heap.size ∧ ∀ (j : Nat) (v : Value), ([.int .i64 o.k, .int .i64 o.a, .int .i64 o.b, .int .i64 o.c] : List Value)[j]? = some v → w.cell? ⟨g, off + k * 4 + j, none⟩ = some v := by
  obtain ⟨oa, oc, e, h⟩ := h.rO
  obtain ⟨b, off, rfl, h1, h2, h3⟩ := h k o ho
  exact ⟨b, off, oc, e, h1, h2, h3⟩
def kindOk (o : OpV) : Prop := 1 ≤ o.k ∧ o.k ≤ 5
noncomputable def reg66_0 := rg Try.f66.body [0]
noncomputable def reg66_1 := rg Try.f66.body [1, 0, 0]
noncomputable def reg66_2 := rg Try.f66.body [1, 0, 1, 0, 0]
noncomputable def reg66_3 := rg Try.f66.body [1, 1, 0]
noncomputable def reg66_4 := rg Try.f66.body [1, 1, 1, 0]
noncomputable def reg66_5 := rg Try.f66.body [1, 1, 1, 1]
theorem z66 : List.range reg66_0.size = [0] ∧ List.range reg66_1.size = [0, 1, 2, 3, 4, 5, 6, 7] ∧ List.range reg66_2.size = [0, 1, 2, 3] ∧ List.range reg66_3.size = [0, 1, 2, 3, 4, 5, 6, 7] ∧ List.range reg66_4.size = [0, 1, 2, 3, 4, 5, 6, 7] ∧ List.range reg66_5.size = [0, 1, 2, 3, 4, 5, 6, 7] := by refine ⟨?_, ?_, ?_, ?_, ?_, ?_⟩ <;> kernel_rfl
theorem code66_is : Try.f66.body = some (.seq (.region 0 reg66_0 false) (.seq (.seq (.region 1 reg66_1 false) (.cond (.tmp 13 ) (.seq (.region 2 reg66_2 false) (.ret)) (.skip))) (.seq (.region 3 reg66_3 false) (.seq (.region 4 reg66_4 false) (.region 5 reg66_5 false))))) := by kernel_rfl
noncomputable def reg48_0 := rg Try.f48.body [0, 0, 0, 0]
theorem size48_0 : reg48_0.size = 29 := by kernel_rfl
noncomputable def reg48_1 := rg Try.f48.body [0, 0, 1, 0]
theorem size48_1 : reg48_1.size = 21 := by kernel_rfl
theorem z48 : List.range reg48_0.size = [0, 1, 2, 3, 4, 5, 6, 7, 8, 9, 10, 11, 12, 13, 14, 15, 16, 17, 18, 19, 20, 21, 22, 23, 24, 25, 26, 27, 28] ∧ List.range reg48_1.size = [0, 1, 2, 3, 4, 5, 6, 7, 8, 9, 10, 11, 12, 13, 14, 15, 16, 17, 18, 19, 20] := by refine ⟨?_, ?_⟩ <;> kernel_rfl
theorem code48_is : Try.f48.body = some (.block 0 (.loop (.seq (.seq (.region 0 reg48_0 true) (.cond (.tmp 32 ) (.skip) (.exit 0))) (.block 1 (.region 1 reg48_1 true))))) := by kernel_rfl
noncomputable def hdSet (M i : Nat) (u : Nat → Value) : Frame :=
  (base 48).at { tmps := #[.pointer (some ⟨M, 0, none⟩), .int .i64 i, u 2, u 3, u 4, u 5, u 6, u 7, u 8, u 9, u 10, u 11, u 12, u 13, u 14, u 15, u 16, u 17, u 18, u 19, u 20, u 21, u 22, u 23, u 24, u 25, u 26, u 27, u 28, u 29, u 30, u 31, u 32, u 33, u 34, u 35, u 36, u 37, u 38, u 39, u 40, u 41, u 42, u 43, u 44, u 45, u 46, u 47, u 48, u 49, u 50, u 51, u 52, u 53], defers := [] } [.code (.seq (.seq (.region 0 reg48_0 true) (.cond (.tmp 32 ) (.skip) (.exit 0))) (.block 1 (.region 1 reg48_1 true))), .inLoop (.seq (.seq (.region 0 reg48_0 true) (.cond (.tmp 32 ) (.skip) (.exit 0))) (.block 1 (.region 1 reg48_1 true))), .inBlock 0]
section
variable {a0 M cg cc tb tc n m : Nat} {ta : Option Addr} {C : Nat → Int} {T : Nat → R5}
def R5.told (t : R5) (a : Ans) (av : Value) : R5 := { t with av := av, ans := t.ans ++ [a], at' := t.at' + 1, pc := 0 }
def R5.first (t : R5) : R5 := { t with pc := 1, sum := 0, sv := .slice none 0 0, seen := [] }
theorem begin_no {main : Bool} {i : Nat} (hi : i < n) (o : OpV) (hk : ¬ kindOk o) (w : World) (I : M5 a0 M cg cc tb tc n m ta C T w) (hn : n ≤ 64) (ha0 : a0 ≤ w.heap.size) (hl : (T i).ans.length ≤ 65536) (hat : (T i).at' ≤ 65536) :
    CallW Try.prog main (fun _ => none) 66 #[.pointer (some ⟨M, 0, none⟩), .int .i64 i, .agg #[.int .i64 o.k, .int .i64 o.a, .int .i64 o.b, .int .i64 o.c]] w (fun v w' => v = .tuple #[] ∧ ∃ av, M5 a0 M cg cc tb tc n m ta C (upd T i ((T i).told (false, 0) av)) w' ∧ Got M cg tb n T (upd T i ((T i).told (false, 0) av)) w w') := by
  intro c cs
  obtain ⟨k, oa, ob, oc⟩ := o
  unfold kindOk at hk
  dsimp only at hk ⊢
  rw [enter_at _ Try.func66 code66_is]
  simp only [Try.ntmps66, ez, Nat.reduceAdd, Nat.reduceSub]
  repeat (first | refine Walk.cx ?_ | (refine Walk.cReg ?_; simp only [z66]) | (refine Walk.oq ?_; try walk_nrm) | (refine Walk.un ?_; walk_nrm))
  (refine Walk.oa ?_; try walk_nrm)
  have s0 : (w.alloc (.cells #[.int .i64 k, .int .i64 oa, .int .i64 ob, .int .i64 oc] 46)).heap.size = w.heap.size + 1 := by simp
  have o0 : ∀ x, x < w.heap.size → (w.alloc (.cells #[.int .i64 k, .int .i64 oa, .int .i64 ob, .int .i64 oc] 46)).heap[x]? = w.heap[x]? := fun x hx => heap_new_lt _ _ hx
  have d0 := (cell_of (heap_alloc_new w (.cells #[.int .i64 k, .int .i64 oa, .int .i64 ob, .int .i64 oc] 46)) 0).trans rfl
  have I0 := I.same o0
  generalize hT : w.heap.size = S at *
  generalize hw0 : w.alloc (.cells #[.int .i64 k, .int .i64 oa, .int .i64 ob, .int .i64 oc] 46) = w0 at *
  have he := end_w (main := main) hi (false, 0) w0 I0 hn (by omega) hl hat
  simp only [ansVal] at he
  have hG : ∀ {T' : Nat → R5} {w' : World}, Got M cg tb n T T' w0 w' → Got M cg tb n T T' w w' := fun {T' w'} h => ⟨⟨by have := h.chg.size; omega, fun b hb hn => (h.chg.same b (by omega) hn).trans (o0 b (by omega))⟩, fun b hb => (h.own b hb).imp id fun h => by omega⟩
  by_cases h1 : k < 1
  · have hb0 : decide (k < 1) = true := by simp; omega
    repeat (first | refine Walk.cx ?_ | (refine Walk.cReg ?_; simp only [z66]) | (refine Walk.oq ?_; try walk_nrm) | (refine Walk.un ?_; walk_nrm))
    refine Walk.callW (Post := fun v w' => v = .tuple #[] ∧ ∃ av, M5 a0 M cg cc tb tc n m ta C (upd T i ((T i).told (false, 0) av)) w' ∧ Got M cg tb n T (upd T i ((T i).told (false, 0) av)) w0 w') ?_ (ho_of (by conv => lhs; whnf) (by kernel_rfl)) (by rfl) (by decide) rfl Try.func68 (by kernel_rfl) (by rfl) ?_
    · walk_nrm
      exact he
    rintro v w1 ⟨rfl, av, I1, g1⟩
    walk_nrm
    repeat (first | refine Walk.cx ?_ | (refine Walk.cReg ?_; simp only [z66]) | (refine Walk.oq ?_; try walk_nrm) | (refine Walk.un ?_; walk_nrm))
    exact Walk.on0 rfl rfl Try.func66 rfl (.stop fun d => ⟨_, ⟨rfl, av, I1.same fun _ _ => rfl, ⟨(hG g1).chg.at d, (hG g1).own⟩⟩, rfl⟩)
  · have hb0 : decide (k < 1) = false := by simp; omega
    have hb5 : decide (5 < k) = true := by simp; omega
    repeat (first | refine Walk.cx ?_ | (refine Walk.cReg ?_; simp only [z66]) | (refine Walk.oq ?_; try walk_nrm) | (refine Walk.un ?_; walk_nrm))
    refine Walk.callW (Post := fun v w' => v = .tuple #[] ∧ ∃ av, M5 a0 M cg cc tb tc n m ta C (upd T i ((T i).told (false, 0) av)) w' ∧ Got M cg tb n T (upd T i ((T i).told (false, 0) av)) w0 w') ?_ (ho_of (by conv => lhs; whnf) (by kernel_rfl)) (by rfl) (by decide) rfl Try.func68 (by kernel_rfl) (by rfl) ?_
    · walk_nrm
      exact he
    rintro v w1 ⟨rfl, av, I1, g1⟩
    walk_nrm
    repeat (first | refine Walk.cx ?_ | (refine Walk.cReg ?_; simp only [z66]) | (refine Walk.oq ?_; try walk_nrm) | (refine Walk.un ?_; walk_nrm))
    exact Walk.on0 rfl rfl Try.func66 rfl (.stop fun d => ⟨_, ⟨rfl, av, I1.same fun _ _ => rfl, ⟨(hG g1).chg.at d, (hG g1).own⟩⟩, rfl⟩)
theorem begin_yes {main : Bool} {i : Nat} (hi : i < n) (o : OpV) (hk : kindOk o) (w : World) (I : M5 a0 M cg cc tb tc n m ta C T w) (hn : n ≤ 64) (ha0 : a0 ≤ w.heap.size) :
    CallW Try.prog main (fun _ => none) 66 #[.pointer (some ⟨M, 0, none⟩), .int .i64 i, .agg #[.int .i64 o.k, .int .i64 o.a, .int .i64 o.b, .int .i64 o.c]] w (fun v w' => v = .tuple #[] ∧ M5 a0 M cg cc tb tc n m ta C (upd T i (T i).first) w' ∧ Got M cg tb n T (upd T i (T i).first) w w') := by
  intro c cs
  obtain ⟨k, oa, ob, oc⟩ := o
  unfold kindOk at hk
  dsimp only at hk ⊢
  have hb0 : decide (k < 1) = false := by simp; omega
  have hb5 : decide (5 < k) = false := by simp; omega
  have hi0 : (0 : Int) ≤ i := by omega
  have hi1 : decide ((i : Int) < n) = true := by simp; omega
  have hi3 : decide (i < n) = true := by simp; omega
  have hi4 : (i : Int) < n := by omega
  rw [enter_at _ Try.func66 code66_is]
  simp only [Try.ntmps66, ez, Nat.reduceAdd, Nat.reduceSub]
  repeat (first | refine Walk.cx ?_ | (refine Walk.cReg ?_; simp only [z66]) | (refine Walk.oq ?_; try walk_nrm) | (refine Walk.un ?_; walk_nrm))
  (refine Walk.oa ?_; try walk_nrm)
  have s0 : (w.alloc (.cells #[.int .i64 k, .int .i64 oa, .int .i64 ob, .int .i64 oc] 46)).heap.size = w.heap.size + 1 := by simp
  have o0 : ∀ x, x < w.heap.size → (w.alloc (.cells #[.int .i64 k, .int .i64 oa, .int .i64 ob, .int .i64 oc] 46)).heap[x]? = w.heap[x]? := fun x hx => heap_new_lt _ _ hx
  have d0 := (cell_of (heap_alloc_new w (.cells #[.int .i64 k, .int .i64 oa, .int .i64 ob, .int .i64 oc] 46)) 0).trans rfl
  have I0 := I.same o0
  generalize hT : w.heap.size = S at *
  generalize hw0 : w.alloc (.cells #[.int .i64 k, .int .i64 oa, .int .i64 ob, .int .i64 oc] 46) = w0 at *
  have c1 : w0.cell? ⟨M, 1, none⟩ = some (.slice (some ⟨tb, 0, none⟩) n tc) := I0.cT (by omega)
  have c3 : w0.cell? ⟨tb, i * 7 + 4, none⟩ = some (.int .i64 (T i).pc) := I0.tcell hi rfl
  have z3 := I0.tfrz hi (i * 7 + 4)
  have I1 := I0.put hi (j := 4) (v := .int .i64 1) (t := { T i with pc := 1 }) rfl (by decide) ⟨rfl, rfl, rfl, rfl, rfl, rfl⟩
  repeat (first | refine Walk.cx ?_ | (refine Walk.cReg ?_; simp only [z66]) | (refine Walk.oq ?_; try walk_nrm) | (refine Walk.un ?_; walk_nrm))
  (have hfr := fr0 tb (i * 7 + 4); refine Walk.os hfr c3 ?_; clear hfr; try walk_nrm)
  have s1 := size_set w0 ⟨tb, i * 7 + 4, none⟩ (.int .i64 1)
  have o1 : ∀ x, x ≠ tb → (w0.setCell ⟨tb, i * 7 + 4, none⟩ (.int .i64 1)).heap[x]? = w0.heap[x]? := fun x hx => heap_set_other _ _ _ _ hx
  generalize w0.setCell ⟨tb, i * 7 + 4, none⟩ (.int .i64 1) = w1 at *
  clear c1 c3 z3 d0
  have c1 : w1.cell? ⟨M, 1, none⟩ = some (.slice (some ⟨tb, 0, none⟩) n tc) := I1.cT (by omega)
  have c3 : w1.cell? ⟨tb, i * 7 + 5, none⟩ = some (.int .i64 (T i).sum) := I1.tcell hi (by rw [upd_same]; rfl)
  have z3 := I1.tfrz hi (i * 7 + 5)
  have I2 := I1.put hi (j := 5) (v := .int .i64 0) (t := { T i with pc := 1, sum := 0 }) (by rw [upd_same]; rfl) (by decide) (by rw [upd_same]; exact ⟨rfl, rfl, rfl, rfl, rfl, rfl⟩)
  rw [upd_twice] at I2
  try walk_nrm
  repeat (first | refine Walk.cx ?_ | (refine Walk.cReg ?_; simp only [z66]) | (refine Walk.oq ?_; try walk_nrm) | (refine Walk.un ?_; walk_nrm))
  (have hfr := fr0 tb (i * 7 + 5); refine Walk.os hfr c3 ?_; clear hfr; try walk_nrm)
  have s2 := size_set w1 ⟨tb, i * 7 + 5, none⟩ (.int .i64 0)
  have o2 : ∀ x, x ≠ tb → (w1.setCell ⟨tb, i * 7 + 5, none⟩ (.int .i64 0)).heap[x]? = w1.heap[x]? := fun x hx => heap_set_other _ _ _ _ hx
  generalize w1.setCell ⟨tb, i * 7 + 5, none⟩ (.int .i64 0) = w2 at *
  clear c1 c3 z3
  have c1 : w2.cell? ⟨M, 1, none⟩ = some (.slice (some ⟨tb, 0, none⟩) n tc) := I2.cT (by omega)
  have c3 : w2.cell? ⟨tb, i * 7 + 6, none⟩ = some (T i).sv := I2.tcell hi (by rw [upd_same]; rfl)
  have z3 := I2.tfrz hi (i * 7 + 6)
  have R2 := I2.rows i hi
  have I3 := I2.put' hi (j := 6) (v := .slice none 0 0) (t := (T i).first) (by rw [upd_same]; rfl) (by decide) w2 (fun _ _ _ => rfl) (by
    rw [upd_same] at R2
    exact ⟨R2.rO, R2.rA, ⟨rfl, .inl ⟨rfl, rfl⟩⟩, fun b hb h => by cases h⟩) (fun b hb => .inl (by
    rw [upd_same]
    rcases hb with hb | hb
    · exact .inl hb
    · cases hb))
  rw [upd_twice] at I3
  try walk_nrm
  repeat (first | refine Walk.cx ?_ | (refine Walk.cReg ?_; simp only [z66]) | (refine Walk.oq ?_; try walk_nrm) | (refine Walk.un ?_; walk_nrm))
  (have hfr := fr0 tb (i * 7 + 6); refine Walk.os hfr c3 ?_; clear hfr; try walk_nrm)
  have s3 := size_set w2 ⟨tb, i * 7 + 6, none⟩ (.slice none 0 0)
  have o3 : ∀ x, x ≠ tb → (w2.setCell ⟨tb, i * 7 + 6, none⟩ (.slice none 0 0)).heap[x]? = w2.heap[x]? := fun x hx => heap_set_other _ _ _ _ hx
  generalize w2.setCell ⟨tb, i * 7 + 6, none⟩ (.slice none 0 0) = w3 at *
  clear c1 c3 z3
  try walk_nrm
  repeat (first | refine Walk.cx ?_ | (refine Walk.cReg ?_; simp only [z66]) | (refine Walk.oq ?_; try walk_nrm) | (refine Walk.un ?_; walk_nrm))
  refine Walk.on0 rfl rfl Try.func66 rfl (.stop fun d => ⟨_, ⟨rfl, I3.same fun _ _ => rfl, ⟨⟨?_, fun x hx hn => ?_⟩, fun b hb => m5S_upd hi (fun b hb => .inl ?_) b hb⟩⟩, rfl⟩)
  · show w.heap.size ≤ w3.heap.size
    omega
  · show w3.heap[x]? = w.heap[x]?
    have hx' : x ≠ tb := fun e => hn (.inr (.inr (.inl e)))
    exact (o3 x hx').trans ((o2 x hx').trans ((o1 x hx').trans (o0 x (by omega))))
  · rcases hb with hb | hb
    · exact .inl hb
    · cases hb
end
end
end Go.Proofs.Ytnnakajldnaldaa
