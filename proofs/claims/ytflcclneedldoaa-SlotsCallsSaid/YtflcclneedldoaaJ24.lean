/- Part 24. -/
import Derived.Test.YtflcclneedldoaaJ23
set_option linter.unusedSimpArgs false
set_option linter.unusedVariables false
set_option maxHeartbeats 8000000
set_option maxRecDepth 100000
namespace Go.Proofs.Ytflcclneedldoaa
open Go.Conc Go.RowKit Go.Relay Try
open Go.ConcN (upd upd_ne upd_same)
section
variable {m : Nat}
theorem enter11 (s : Rg) (th : Int) (o : OpV) (h : eR m o = none) : (Cr m).enter s th o = (s, .inr (dR m o)) /\ ∀ t : R11, t.pc = 1 -> t.q = o.a -> t.seen = [] -> t.live -> St11 m o t (dR m o) := by
 refine ⟨?_, fun t h1 h2 h3 h4 => ?_⟩
 ·show Hq m s th o = _
  unfold Hq
  rw [h]
  rfl
 ·unfold eR at h
  by_cases h0 : m = 0 ∨ o.k < 1 ∨ 5 < o.k
  ·rw [if_pos h0] at h; cases h
  rw [if_neg h0] at h
  have hm : 0 < m := by omega
  unfold dR
  by_cases k4 : o.k = 4
  ·rw [if_pos k4] at h
   by_cases hg : good o.a /\ o.a <= o.b
   ·rw [if_neg (by omega), if_neg (by omega), if_neg (by omega), if_pos k4]
    have := hg.1.2
    exact ⟨⟨hm, h2 ▸ hg.1⟩, k4, h2.symm, h1, hg.1, Int.le_refl _, by omega, rfl⟩
   ·rw [if_neg hg] at h; cases h
  rw [if_neg k4] at h
  by_cases hg : good o.a
  ·rw [if_pos hg] at h
   by_cases h5 : o.k = 5 /\ o.b < 1
   ·rw [if_pos h5] at h; cases h
   by_cases k1 : o.k = 1
   ·rw [if_pos k1]
    exact ⟨⟨hm, h2 ▸ hg⟩, k1, h2.symm, rfl, h1⟩
   by_cases k2 : o.k = 2
   ·rw [if_neg k1, if_pos k2]
    exact ⟨⟨hm, h2 ▸ hg⟩, k2, h2.symm, h1⟩
   by_cases k3 : o.k = 3
   ·rw [if_neg k1, if_neg k2, if_pos k3]
    exact ⟨⟨hm, h2 ▸ hg⟩, k3, h2.symm, h1⟩
   ·rw [if_neg k1, if_neg k2, if_neg k3, if_neg k4]
    have k5 : o.k = 5 := by omega
    exact ⟨⟨hm, h2 ▸ hg⟩, k5, h2.symm, h1, rfl, h4, h3, by show ((0 : Nat) : Int) < _; omega⟩
  ·rw [if_neg hg] at h
   by_cases k3 : o.k = 3
   ·rw [if_pos k3] at h; cases h
   ·rw [if_neg k3] at h; cases h
theorem enter11_no (s : Rg) (th : Int) (o : OpV) (a : Ans) (h : eR m o = some a) : (Cr m).enter s th o = (s, .inl a) := by
 show Hq m s th o = _
 unfold Hq
 rw [h]
 rfl
structure Th11 (m : Nat) (all : List OpV) (left : List OpV) (d : Option RD) (ans : List Ans) (t : R11) : Prop where
 ops : t.ops = all
 ans : t.ans = ans
 pos : (d = none /\ left = [] /\ t.at' = all.length /\ t.pc = 0) ∨ ∃ d' o, d = some d' /\ all[t.at']? = some o /\ left = all.drop (t.at' + 1) /\ St11 m o t d'
theorem settle11 (th : Int) (s : Rg) : ∀ (q : Nat) (t t' : R11) (asw : List Ans), asw.length = q -> (∀ x, x < q -> ∃ o a, t.ops[t.at' + x]? = some o /\ eR m o = some a /\ asw[x]? = some a) -> t'.ops = t.ops -> t'.at' = t.at' + q -> t'.ans = t.ans ++ asw ->
  ((t'.at' = t.ops.length /\ t'.pc = 0) ∨ ∃ o, t.ops[t'.at']? = some o /\ eR m o = none /\ t'.pc = 1 /\ t'.q = o.a /\ t'.seen = [] /\ t'.live) ->
  ∃ z, Bq (Cr m) th s (t.ops.drop t.at') t.ans = (s, z) /\ Th11 m t.ops z.left z.d z.ans t' := by
 intro q
 induction q with
 | zero =>
  intro t t' asw h0 _ h1 h2 h3 h4
  obtain rfl := List.length_eq_zero_iff.1 h0
  have h2 : t'.at' = t.at' := h2
  have h3 : t'.ans = t.ans := by simpa using h3
  rcases h4 with ⟨h5, h6⟩ | ⟨o, h5, h6, h7, h8, h9, h10⟩
  ·have : t.ops.drop t.at' = [] := List.drop_eq_nil_of_le (by omega)
   rw [this]
   exact ⟨_, rfl, h1, h3, .inl ⟨rfl, rfl, h5, h6⟩⟩
  ·obtain ⟨e', hd⟩ := enter11 s th o h6
   rw [h2] at h5
   have hlt := (lEs h5).1
   have ho := (lEs h5).2
   refine ⟨⟨t.ops.drop (t.at' + 1), some (dR m o), t.ans⟩, ?_, h1, h3, .inr ⟨_, o, rfl, by rw [h2]; exact h5, by rw [h2], hd t' h7 h8 h9 h10⟩⟩
   rw [List.drop_eq_getElem_cons hlt, ho]
   exact (Gx (Cr m) th s o (t.ops.drop (t.at' + 1)) t.ans).trans ((congrArg (fun r => Ei (Cr m) th r (t.ops.drop (t.at' + 1)) t.ans) e').trans rfl)
 | succ q ih =>
  intro t t' asw hlen h0 h1 h2 h3 h4
  obtain ⟨o, a, ho, hk, ha⟩ := h0 0 (by omega)
  obtain ⟨asw, rfl⟩ : ∃ l, asw = a :: l := by
   cases asw with
   | nil => cases ha
   | cons b l => exact ⟨l, by simpa using ha⟩
  have ho : t.ops[t.at']? = some o := ho
  have hlt := (lEs ho).1
  have hoe := (lEs ho).2
  have e' := enter11_no (m := m) s th o a hk
  obtain ⟨z, g1, g2⟩ := ih (t.told a t.av t.ownA) t' asw (by simpa using hlen) (fun x hx => by
   obtain ⟨o', a', h5, h6, h7⟩ := h0 (x + 1) (by omega)
   refine ⟨o', a', ?_, h6, h7⟩
   rw [<- h5]
   show t.ops[t.at' + 1 + x]? = t.ops[t.at' + (x + 1)]?
   congr 1
   omega) h1 (by show t'.at' = t.at' + 1 + q; omega) (by
   rw [h3]
   show _ = (t.ans ++ [a]) ++ _
   rw [List.append_assoc]
   rfl) h4
  refine ⟨z, ?_, g2⟩
  rw [List.drop_eq_getElem_cons hlt, hoe]
  exact (Gx (Cr m) th s o (t.ops.drop (t.at' + 1)) t.ans).trans ((congrArg (fun r => Ei (Cr m) th r (t.ops.drop (t.at' + 1)) t.ans) e').trans g1)
end
theorem St11.on {m : Nat} {o : OpV} {t : R11} {d : RD} (h : St11 m o t d) : 0 < t.pc := by
 have h := h.2
 cases d with
 | p1 q v => rw [h.2.2.2]; decide
 | p2 q v => rw [h.2.2.2]; decide
 | p3 q => rw [h.2.2]; decide
 | g1 q => rw [h.2.2]; decide
 | g2 q => rw [h.2.2.1]; decide
 | g3 q v => rw [h.2.2.1]; decide
 | t q => rw [h.2.2]; decide
 | h q l => rw [h.2.2.1]; decide
 | a1 q mo l => rw [h.2.2.1]; decide
 | a2 q mo l => rw [h.2.2.1]; decide
 | a3 q mo l v => rw [h.2.2.1]; decide
theorem upd_id {α : Type} (f : Nat -> α) (i : Nat) : upd f i (f i) = f := by
 funext k
 by_cases h : k = i
 ·subst h; rw [upd_same]
 ·rw [upd_ne _ _ h]
section
variable {a0 M tb tc n m : Nat} {cb : CB} {ta : Option Addr} {T : Nat -> R11} {main : Bool}
theorem settle_af {i : Nat} (hi : i < n) (hn : n <= 64) (hm : m <= 65536) (th : Int) (s : Rg) (o : OpV) (r : Ans ⊕ RD) (t : R11) (hA : Af11 m o r t (T i)) (ho : t.ops[t.at']? = some o) (hln : t.ops.length <= 65536) (hal : t.ans.length <= t.at') (w : World) (ha0 : a0 <= w.heap.size) (I : M11 a0 M cb tb tc n m ta s T w) :
  CallW prog main (fun _ => none) 116 #[.pointer (some ⟨M, 0, none⟩), .int .i64 i] w (fun v w' => v = .tuple #[] /\ ∃ z t', Ei (Cr m) th (s, r) (t.ops.drop (t.at' + 1)) t.ans = (s, z) /\ Th11 m t.ops z.left z.d z.ans t' /\ t'.ans.length <= t'.at' /\ M11 a0 M cb tb tc n m ta s (upd T i t') w' /\ Got M cb m tb n T (upd T i t') w w') := by
 have hlt := (lEs ho).1
 rcases hA.how with ⟨a, rfl, h1, h2, h3⟩ | ⟨d, rfl, h1, h2, h3⟩
 ·have hl1 : (T i).ans.length = t.ans.length + 1 := by rw [h1]; simp
  have hw := settle_w (main := main) hi hn hm w (by rw [hA.ops]; omega) (by rw [hA.ops]; exact hln) (by omega) h3 ha0 I
  intro c cs
  refine (hw c cs).mono ?_
  rintro g w' ⟨v, ⟨rfl, t', S, I2, g2⟩, rfl⟩
  obtain ⟨q, asw, s0, s1, s2, s3, s4⟩ := S.how
  obtain ⟨z, e1, e2⟩ := settle11 th s q (T i) t' asw s0 s1 S.ops s2 s3 s4
  rw [hA.ops, h1, h2] at e1
  rw [hA.ops] at e2
  refine ⟨_, ⟨rfl, z, t', e1, e2, ?_, I2, g2⟩, rfl⟩
  rw [s3, s2]
  simp
  omega
 ·have hw := settle_on (main := main) hi w (by have := h3.on; omega) I
  intro c cs
  refine (hw c cs).mono ?_
  rintro g w' ⟨v, ⟨rfl, d', rfl⟩, rfl⟩
  refine ⟨_, ⟨rfl, ⟨t.ops.drop (t.at' + 1), some d, t.ans⟩, T i, rfl, ⟨hA.ops, h1, .inr ⟨d, o, rfl, by rw [h2]; exact ho, by rw [h2], h3⟩⟩, by rw [h1, h2]; exact hal, ?_, ?_⟩, rfl⟩
  ·rw [upd_id]; exact I.same fun _ _ => rfl
  ·rw [upd_id]; exact ⟨Chg.refl.at d', fun _ h => .inl h⟩
end
def Ee (T : Nat -> R11) (n : Nat) : List Value := (List.range n).flatMap fun i => (T i).cells
theorem Jj (T : Nat -> R11) (n : Nat) : Ee T (n + 1) = Ee T n ++ (T n).cells := by simp [Ee, List.range_succ]
theorem Ej (T : Nat -> R11) (n : Nat) : (Ee T n).length = n * 9 := by
 induction n with
 | zero => rfl
 | succ n ih => rw [Jj, List.length_append, ih]; show n * 9 + 9 = _; omega
theorem thRow_get (T : Nat -> R11) (n i j : Nat) (v : Value) (hi : i < n) (h : (T i).cells[j]? = some v) : (Ee T n)[i * 9 + j]? = some v := by
 have hj : j < 9 := (lEs h).1
 induction n with
 | zero => omega
 | succ n ih =>
  rw [Jj]
  by_cases e : i = n
  ·subst e
   rw [List.getElem?_append_right (by rw [Ej]; omega), Ej, Nat.add_sub_cancel_left]
   exact h
  ·have : (i + 1) * 9 <= n * 9 := Nat.mul_le_mul_right 9 (by omega)
   rw [List.getElem?_append_left (by rw [Ej]; omega)]
   exact ih (by omega)
theorem thRow_inv (T : Nat -> R11) (n q : Nat) (v : Value) (h : (Ee T n)[q]? = some v) : ∃ i j, i < n /\ q = i * 9 + j /\ (T i).cells[j]? = some v := by
 have hq := (lEs h).1
 rw [Ej] at hq
 have hi : q / 9 < n := by omega
 have hj : q % 9 < (T (q / 9)).cells.length := by show q % 9 < 9; omega
 have e : q / 9 * 9 + q % 9 = q := by omega
 have := thRow_get T n (q / 9) (q % 9) _ hi (List.getElem?_eq_getElem hj)
 rw [e, h] at this
 refine ⟨q / 9, q % 9, hi, e.symm, ?_⟩
 rw [List.getElem?_eq_getElem hj]
 exact this.symm
theorem thRow_upd (T : Nat -> R11) (n : Nat) (t : R11) : Ee (upd T n t) n = Ee T n := by
 unfold Ee
 rw [List.flatMap_def, List.flatMap_def]
 congr 1
 refine List.map_congr_left fun i hi => ?_
 rw [upd_ne _ _ (by have := List.mem_range.1 hi; omega)]
section
variable {a0 M tb tc n m : Nat} {cb : CB} {ta : Option Addr} {Sx : Rg} {T : Nat -> R11} {w : World}
theorem M11.row (I : M11 a0 M cb tb tc n m ta Sx T w) (hz : n = 0 -> ta = none /\ tc = 0) : w.ownsRow a0 190 9 (.slice ta n tc) n (Ee T n) := by
 refine ⟨Ej T n, ?_⟩
 by_cases h0 : n = 0
 ·left
  obtain ⟨rfl, rfl⟩ := hz h0
  subst h0
  exact ⟨rfl, rfl⟩
 ·right
  obtain ⟨rfl, arr, h1, h2, h3, h4, h5⟩ := I.ts (by omega)
  refine ⟨tb, tc, arr, rfl, (I.base.2.2.2 (by omega)).1, h1, h3, h4, h2, ?_⟩
  apply List.ext_getElem?
  intro q
  rw [List.getElem?_take]
  by_cases hq : q < n * 9
  ·have hlen : q < (Ee T n).length := by rw [Ej]; exact hq
   obtain ⟨v, hq'⟩ : ∃ v, (Ee T n)[q]? = some v := ⟨_, List.getElem?_eq_getElem hlen⟩
   obtain ⟨i, j, hi, e, hv⟩ := thRow_inv T n q v hq'
   have := h5 i hi j v hv
   rw [if_pos hq, hq', e]
   simpa using this
  ·rw [if_neg hq, List.getElem?_eq_none (by rw [Ej]; omega)]
theorem M11.push (I : M11 a0 M cb tb tc n m ta Sx T w) (hz : n = 0 -> ta = none /\ tc = 0) (t : R11) (hno : ∀ b, ¬ t.own b) (g cap : Nat) (w3 : World) (hown : w3.ownsRow a0 190 9 (.slice (some ⟨g, 0, none⟩) (n + 1) cap) (n + 1) (Ee T n ++ t.cells))
  (hsame : ∀ b, b < w.heap.size -> (Value.slice ta n tc).ownBlock ≠ some b -> w3.heap[b]? = w.heap[b]?) (hat : (Value.slice ta n tc).ownBlock = some g ∨ w.heap.size <= g) (hr : t.Rows a0 w3) :
  M11 a0 M cb g cap (n + 1) m (some ⟨g, 0, none⟩) Sx (upd T n t) (w3.setCell ⟨M, 3, none⟩ (.slice (some ⟨g, 0, none⟩) (n + 1) cap)) := by
 obtain ⟨b1, b2, b3, b4⟩ := I.base
 obtain ⟨l1, l2, l3⟩ := I.lt
 have hob : ∀ b, (Value.slice ta n tc).ownBlock = some b -> 0 < n /\ b = tb := fun b hb => by
  by_cases h0 : n = 0
  ·obtain ⟨rfl, rfl⟩ := hz h0
   cases hb
  ·obtain ⟨rfl, _⟩ := I.ts (by omega)
   simp only [Value.ownBlock, Option.some.injEq] at hb
   exact ⟨by omega, hb.symm⟩
 have hgM : M ≠ g /\ ¬ cI m cb g := by
  rcases hat with h | h
  ·obtain ⟨h0, rfl⟩ := hob g h
   exact (b4 h0).2
  ·exact ⟨by omega, fun hc => by have := l2 g hc; omega⟩
 obtain ⟨_, cap', cur, e, hb, h1, h2, h3, h4, h5⟩ : ∃ g' cap' cur, Value.slice (some ⟨g, 0, none⟩) (n + 1) cap = .slice (some ⟨g', 0, none⟩) (n + 1) cap' /\ a0 <= g' /\ w3.heap[g']? = some (.cells cur 190 (0, 0)) /\ n + 1 <= cap' /\ cap' <= maxLen /\ cur.size = cap' * 9 /\ cur.toList.take ((n + 1) * 9) = Ee T n ++ t.cells := by
  rcases hown.2 with ⟨_, h⟩ | h
  ·omega
  ·exact h
 cases e
 have ho : ∀ b, b ≠ M -> (w3.setCell ⟨M, 3, none⟩ (.slice (some ⟨g, 0, none⟩) (n + 1) cap)).heap[b]? = w3.heap[b]? := fun b hb => Ac _ _ _ _ hb
 have hnM : (Value.slice ta n tc).ownBlock ≠ some M := fun e => by
  obtain ⟨h0, e⟩ := hob M e
  exact (b4 h0).2.1 e
 have hnc : ∀ x, cI m cb x -> (Value.slice ta n tc).ownBlock ≠ some x := fun x hx e => by
  obtain ⟨h0, rfl⟩ := hob x e
  exact (b4 h0).2.2 hx
 have hfarg : ∀ i, i < n -> ∀ b, (T i).own b -> b ≠ g := fun i hi b hb e => by
  rcases hat with h | h
  ·obtain ⟨h0, e2⟩ := hob g h
   exact (I.far i hi b hb).2.2.1 (e.trans e2)
  ·have := ((I.rows i hi).low hb).2
   omega
 refine ⟨?_, Mx I.cs fun x hx => (ho x (I.cNe hx)).trans (hsame x (l2 x hx) (hnc x hx)), fun _ => ⟨rfl, cur, (ho g (Ne.symm hgM.1)).trans h1, h4, h2, h3, fun i hi j v hv => ?_⟩, fun i hi => ?_, fun i hi b hb => ?_, b1, b2, b3, fun _ => ⟨hb, hgM⟩⟩
 ·rw [Ao _ _ ((hsame M l1 hnM).trans I.hd)]
  simp
 ·have hk := thRow_get (upd T n t) (n + 1) i j v hi hv
  rw [Jj, thRow_upd, upd_same, <- h5, List.getElem?_take] at hk
  split at hk
  ·simpa using hk
  ·cases hk
 ·by_cases e : i = n
  ·subst e
   rw [upd_same]
   exact hr.same (fun b hb _ => ho b (by omega)) fun b hb => absurd hb (hno b)
  ·rw [upd_ne _ _ e]
   have R := I.rows i (by omega)
   exact R.same (fun b hb hw => (ho b (by omega)).trans (hsame b hw fun e => by have := hob b e; have := b4 this.1; omega)) fun b hb => (ho b (I.far i (by omega) b hb).1).trans (hsame b (R.low hb).2 fun e => (I.far i (by omega) b hb).2.2.1 (hob b e).2)
 ·by_cases e : i = n
  ·subst e
   rw [upd_same] at hb
   exact absurd hb (hno b)
  ·rw [upd_ne _ _ e] at hb
   obtain ⟨e1, e2, e3, e4⟩ := I.far i (by omega) b hb
   refine ⟨e1, e2, hfarg i (by omega) b hb, fun k hk hki => ?_⟩
   by_cases ek : k = n
   ·subst ek
    rw [upd_same]
    exact hno b
   ·rw [upd_ne _ _ ek]
    exact e4 k (by omega) hki
end
def Ea (l : List Nat) : List Value := l.map fun i => .int .i64 (i : Nat)
theorem ordRow_snoc (l : List Nat) (x : Nat) : Ea (l ++ [x]) = Ea l ++ [.int .i64 (x : Nat)] := by simp [Ea]
theorem rowNil (w : World) (base : Nat) (e : TypeId) (size : Nat) : w.ownsRow base e size (.slice none 0 0) 0 [] := ⟨by simp, .inl ⟨rfl, rfl⟩⟩
def Fl : Obj := .cells #[.slice none 0 0, .slice none 0 0, .slice none 0 0, .bool false] 33
noncomputable def reg59_0 := rk f59.body 0
noncomputable def reg59_1 := rk f59.body 1
noncomputable def reg59_2 := rk f59.body 2
noncomputable def reg59_3 := rk f59.body 3
noncomputable def reg59_4 := rk f59.body 4
noncomputable def reg59_5 := rk f59.body 5
noncomputable def reg59_6 := rk f59.body 6
noncomputable def reg59_7 := rk f59.body 7
noncomputable def reg59_8 := rk f59.body 8
noncomputable def reg59_9 := rk f59.body 9
noncomputable def reg59_11 := rk f59.body 11
noncomputable def reg59_12 := rk f59.body 12
noncomputable def reg59_13 := rk f59.body 13
noncomputable def reg59_14 := rk f59.body 14
noncomputable def reg59_15 := rk f59.body 15
noncomputable def reg59_10 := rk f59.body 10
noncomputable def reg59_16 := rk f59.body 16
noncomputable def reg59_17 := rk f59.body 17
noncomputable def reg59_18 := rk f59.body 18
noncomputable def reg59_20 := rk f59.body 20
noncomputable def reg59_21 := rk f59.body 21
noncomputable def reg59_22 := rk f59.body 22
noncomputable def reg59_23 := rk f59.body 23
noncomputable def reg59_24 := rk f59.body 24
noncomputable def reg59_19 := rk f59.body 19
noncomputable def reg59_25 := rk f59.body 25
noncomputable def reg59_26 := rk f59.body 26
noncomputable def reg59_27 := rk f59.body 27
noncomputable def reg59_29 := rk f59.body 29
noncomputable def reg59_30 := rk f59.body 30
noncomputable def reg59_31 := rk f59.body 31
noncomputable def reg59_32 := rk f59.body 32
noncomputable def reg59_28 := rk f59.body 28
noncomputable def reg59_33 := rk f59.body 33
noncomputable def reg59_34 := rk f59.body 34
noncomputable def reg59_35 := rk f59.body 35
noncomputable def reg59_37 := rk f59.body 37
theorem size59_37 : reg59_37.size = 14 := by kernel_rfl
noncomputable def reg59_36 := rk f59.body 36
noncomputable def reg59_38 := rk f59.body 38
theorem z59 : reg59_0.size = 1 /\ reg59_1.size = 3 /\ reg59_2.size = 2 /\ reg59_3.size = 1 /\ reg59_4.size = 2 /\ reg59_5.size = 1 /\ reg59_6.size = 2 /\ reg59_7.size = 1 /\ reg59_8.size = 1 /\ reg59_9.size = 3 /\ reg59_10.size = 3 /\ reg59_11.size = 5 /\ reg59_12.size = 3 /\ reg59_13.size = 3 /\ reg59_14.size = 13 /\ reg59_15.size = 3 /\ reg59_16.size = 1 /\ reg59_17.size = 1 /\ reg59_18.size = 10 /\ reg59_19.size = 3 /\ reg59_20.size = 5 /\ reg59_21.size = 18 /\ reg59_22.size = 5 /\ reg59_23.size = 3 /\ reg59_24.size = 3 /\ reg59_25.size = 8 /\ reg59_26.size = 1 /\ reg59_27.size = 9 /\ reg59_28.size = 3 /\ reg59_29.size = 9 /\ reg59_30.size = 5 /\ reg59_31.size = 3 /\ reg59_32.size = 3 /\ reg59_33.size = 8 /\ reg59_34.size = 1 /\ reg59_35.size = 3 /\ reg59_36.size = 3 /\ reg59_37.size = 14 /\ reg59_38.size = 2 := by and_intros <;> kernel_rfl
theorem code59_is : f59.body = some (.seq (.region 0 reg59_0 false) (.seq (.region 1 reg59_1 false) (.seq (.seq (.region 2 reg59_2 false) (.cond (.tmp 21 ) (.region 3 reg59_3 false) (.skip))) (.seq (.seq (.region 4 reg59_4 false) (.cond (.tmp 23 ) (.region 5 reg59_5 false) (.skip))) (.seq (.seq (.region 6 reg59_6 false) (.cond (.tmp 25 ) (.region 7 reg59_7 false) (.skip))) (.seq (.seq (.region 8 reg59_8 false) (.block 0 (.loop (.seq (.seq (.region 9 reg59_9 false) (.cond (.tmp 28 ) (.skip) (.exit 0))) (.seq (.block 1 (.seq (.region 11 reg59_11 false) (.seq (.seq (.region 12 reg59_12 false) (.cond (.tmp 37 ) (.region 13 reg59_13 false) (.skip))) (.seq (.region 14 reg59_14 false) (.region 15 reg59_15 false))))) (.region 10 reg59_10 false)))))) (.seq (.region 16 reg59_16 false) (.seq (.seq (.region 17 reg59_17 false) (.block 2 (.loop (.seq (.seq (.region 18 reg59_18 false) (.cond (.tmp 64 ) (.skip) (.exit 2))) (.seq (.block 3 (.seq (.region 20 reg59_20 false) (.seq (.region 21 reg59_21 false) (.cond (.tmp 88 ) (.seq (.region 22 reg59_22 false) (.seq (.region 23 reg59_23 false) (.region 24 reg59_24 false))) (.skip))))) (.region 19 reg59_19 false)))))) (.seq (.block 4 (.loop (.seq (.seq (.region 25 reg59_25 false) (.cond (.tmp 106 ) (.skip) (.exit 4))) (.block 5 (.seq (.region 26 reg59_26 false) (.block 6 (.loop (.seq (.seq (.region 27 reg59_27 false) (.cond (.tmp 115 ) (.skip) (.exit 6))) (.seq (.block 7 (.seq (.region 29 reg59_29 false) (.cond (.tmp 126 ) (.seq (.region 30 reg59_30 false) (.seq (.region 31 reg59_31 false) (.region 32 reg59_32 false))) (.skip)))) (.region 28 reg59_28 false)))))))))) (.seq (.region 33 reg59_33 false) (.seq (.seq (.region 34 reg59_34 false) (.block 8 (.loop (.seq (.seq (.region 35 reg59_35 false) (.cond (.tmp 145 ) (.skip) (.exit 8))) (.seq (.block 9 (.region 37 reg59_37 true)) (.region 36 reg59_36 false)))))) (.seq (.region 38 reg59_38 false) (.ret))))))))))))) := by kernel_rfl
noncomputable def hdRun0 (M : Nat) (tv sv : Value) (mo : Int) (R n i : Nat) (u : Nat -> Value) : Frame :=
 (base 59).at { tmps := #[.pointer (some ⟨M, 0, none⟩), tv, sv, .int .i64 mo, u 4, u 5, u 6, u 7, .pointer (some ⟨R, 0, none⟩), .int .i64 n, .int .i64 i, u 11, u 12, u 13, u 14, u 15, u 16, u 17, u 18, u 19, u 20, u 21, u 22, u 23, u 24, u 25, u 26, u 27, u 28, u 29, u 30, u 31, u 32, u 33, u 34, u 35, u 36, u 37, u 38, u 39, u 40, u 41, u 42, u 43, u 44, u 45, u 46, u 47, u 48, u 49, u 50, u 51, u 52, u 53, u 54, u 55, u 56, u 57, u 58, u 59, u 60, u 61, u 62, u 63, u 64, u 65, u 66, u 67, u 68, u 69, u 70, u 71, u 72, u 73, u 74, u 75, u 76, u 77, u 78, u 79, u 80, u 81, u 82, u 83, u 84, u 85, u 86, u 87, u 88, u 89, u 90, u 91, u 92, u 93, u 94, u 95, u 96, u 97, u 98, u 99, u 100, u 101, u 102, u 103, u 104, u 105, u 106, u 107, u 108, u 109, u 110, u 111, u 112, u 113, u 114, u 115, u 116, u 117, u 118, u 119, u 120, u 121, u 122, u 123, u 124, u 125, u 126, u 127, u 128, u 129, u 130, u 131, u 132, u 133, u 134, u 135, u 136, u 137, u 138, u 139, u 140, u 141, u 142, u 143, u 144, u 145, u 146, u 147, u 148, u 149, u 150, u 151, u 152, u 153, u 154, u 155, u 156, u 157, u 158, u 159, u 160, u 161], defers := [] } [.code (.seq (.seq (.region 9 reg59_9 false) (.cond (.tmp 28 ) (.skip) (.exit 0))) (.seq (.block 1 (.seq (.region 11 reg59_11 false) (.seq (.seq (.region 12 reg59_12 false) (.cond (.tmp 37 ) (.region 13 reg59_13 false) (.skip))) (.seq (.region 14 reg59_14 false) (.region 15 reg59_15 false))))) (.region 10 reg59_10 false))), .inLoop (.seq (.seq (.region 9 reg59_9 false) (.cond (.tmp 28 ) (.skip) (.exit 0))) (.seq (.block 1 (.seq (.region 11 reg59_11 false) (.seq (.seq (.region 12 reg59_12 false) (.cond (.tmp 37 ) (.region 13 reg59_13 false) (.skip))) (.seq (.region 14 reg59_14 false) (.region 15 reg59_15 false))))) (.region 10 reg59_10 false))), .inBlock 0, .code (.seq (.region 16 reg59_16 false) (.seq (.seq (.region 17 reg59_17 false) (.block 2 (.loop (.seq (.seq (.region 18 reg59_18 false) (.cond (.tmp 64 ) (.skip) (.exit 2))) (.seq (.block 3 (.seq (.region 20 reg59_20 false) (.seq (.region 21 reg59_21 false) (.cond (.tmp 88 ) (.seq (.region 22 reg59_22 false) (.seq (.region 23 reg59_23 false) (.region 24 reg59_24 false))) (.skip))))) (.region 19 reg59_19 false)))))) (.seq (.block 4 (.loop (.seq (.seq (.region 25 reg59_25 false) (.cond (.tmp 106 ) (.skip) (.exit 4))) (.block 5 (.seq (.region 26 reg59_26 false) (.block 6 (.loop (.seq (.seq (.region 27 reg59_27 false) (.cond (.tmp 115 ) (.skip) (.exit 6))) (.seq (.block 7 (.seq (.region 29 reg59_29 false) (.cond (.tmp 126 ) (.seq (.region 30 reg59_30 false) (.seq (.region 31 reg59_31 false) (.region 32 reg59_32 false))) (.skip)))) (.region 28 reg59_28 false)))))))))) (.seq (.region 33 reg59_33 false) (.seq (.seq (.region 34 reg59_34 false) (.block 8 (.loop (.seq (.seq (.region 35 reg59_35 false) (.cond (.tmp 145 ) (.skip) (.exit 8))) (.seq (.block 9 (.region 37 reg59_37 true)) (.region 36 reg59_36 false)))))) (.seq (.region 38 reg59_38 false) (.ret)))))))]
noncomputable def hdRun1 (M : Nat) (sv : Value) (mo : Int) (R n : Nat) (ov : Value) (k : Nat) (u : Nat -> Value) : Frame :=
 (base 59).at { tmps := #[.pointer (some ⟨M, 0, none⟩), u 1, sv, .int .i64 mo, u 4, u 5, u 6, u 7, .pointer (some ⟨R, 0, none⟩), .int .i64 n, u 10, u 11, ov, .int .i64 k, u 14, u 15, u 16, u 17, u 18, u 19, u 20, u 21, u 22, u 23, u 24, u 25, u 26, u 27, u 28, u 29, u 30, u 31, u 32, u 33, u 34, u 35, u 36, u 37, u 38, u 39, u 40, u 41, u 42, u 43, u 44, u 45, u 46, u 47, u 48, u 49, u 50, u 51, u 52, u 53, u 54, u 55, u 56, u 57, u 58, u 59, u 60, u 61, u 62, u 63, u 64, u 65, u 66, u 67, u 68, u 69, u 70, u 71, u 72, u 73, u 74, u 75, u 76, u 77, u 78, u 79, u 80, u 81, u 82, u 83, u 84, u 85, u 86, u 87, u 88, u 89, u 90, u 91, u 92, u 93, u 94, u 95, u 96, u 97, u 98, u 99, u 100, u 101, u 102, u 103, u 104, u 105, u 106, u 107, u 108, u 109, u 110, u 111, u 112, u 113, u 114, u 115, u 116, u 117, u 118, u 119, u 120, u 121, u 122, u 123, u 124, u 125, u 126, u 127, u 128, u 129, u 130, u 131, u 132, u 133, u 134, u 135, u 136, u 137, u 138, u 139, u 140, u 141, u 142, u 143, u 144, u 145, u 146, u 147, u 148, u 149, u 150, u 151, u 152, u 153, u 154, u 155, u 156, u 157, u 158, u 159, u 160, u 161], defers := [] } [.code (.seq (.seq (.region 18 reg59_18 false) (.cond (.tmp 64 ) (.skip) (.exit 2))) (.seq (.block 3 (.seq (.region 20 reg59_20 false) (.seq (.region 21 reg59_21 false) (.cond (.tmp 88 ) (.seq (.region 22 reg59_22 false) (.seq (.region 23 reg59_23 false) (.region 24 reg59_24 false))) (.skip))))) (.region 19 reg59_19 false))), .inLoop (.seq (.seq (.region 18 reg59_18 false) (.cond (.tmp 64 ) (.skip) (.exit 2))) (.seq (.block 3 (.seq (.region 20 reg59_20 false) (.seq (.region 21 reg59_21 false) (.cond (.tmp 88 ) (.seq (.region 22 reg59_22 false) (.seq (.region 23 reg59_23 false) (.region 24 reg59_24 false))) (.skip))))) (.region 19 reg59_19 false))), .inBlock 2, .code (.seq (.block 4 (.loop (.seq (.seq (.region 25 reg59_25 false) (.cond (.tmp 106 ) (.skip) (.exit 4))) (.block 5 (.seq (.region 26 reg59_26 false) (.block 6 (.loop (.seq (.seq (.region 27 reg59_27 false) (.cond (.tmp 115 ) (.skip) (.exit 6))) (.seq (.block 7 (.seq (.region 29 reg59_29 false) (.cond (.tmp 126 ) (.seq (.region 30 reg59_30 false) (.seq (.region 31 reg59_31 false) (.region 32 reg59_32 false))) (.skip)))) (.region 28 reg59_28 false)))))))))) (.seq (.region 33 reg59_33 false) (.seq (.seq (.region 34 reg59_34 false) (.block 8 (.loop (.seq (.seq (.region 35 reg59_35 false) (.cond (.tmp 145 ) (.skip) (.exit 8))) (.seq (.block 9 (.region 37 reg59_37 true)) (.region 36 reg59_36 false)))))) (.seq (.region 38 reg59_38 false) (.ret)))))]
noncomputable def hdRun2 (M : Nat) (mo : Int) (R n : Nat) (ov : Value) (u : Nat -> Value) : Frame :=
 (base 59).at { tmps := #[.pointer (some ⟨M, 0, none⟩), u 1, u 2, .int .i64 mo, u 4, u 5, u 6, u 7, .pointer (some ⟨R, 0, none⟩), .int .i64 n, u 10, u 11, ov, u 13, u 14, u 15, u 16, u 17, u 18, u 19, u 20, u 21, u 22, u 23, u 24, u 25, u 26, u 27, u 28, u 29, u 30, u 31, u 32, u 33, u 34, u 35, u 36, u 37, u 38, u 39, u 40, u 41, u 42, u 43, u 44, u 45, u 46, u 47, u 48, u 49, u 50, u 51, u 52, u 53, u 54, u 55, u 56, u 57, u 58, u 59, u 60, u 61, u 62, u 63, u 64, u 65, u 66, u 67, u 68, u 69, u 70, u 71, u 72, u 73, u 74, u 75, u 76, u 77, u 78, u 79, u 80, u 81, u 82, u 83, u 84, u 85, u 86, u 87, u 88, u 89, u 90, u 91, u 92, u 93, u 94, u 95, u 96, u 97, u 98, u 99, u 100, u 101, u 102, u 103, u 104, u 105, u 106, u 107, u 108, u 109, u 110, u 111, u 112, u 113, u 114, u 115, u 116, u 117, u 118, u 119, u 120, u 121, u 122, u 123, u 124, u 125, u 126, u 127, u 128, u 129, u 130, u 131, u 132, u 133, u 134, u 135, u 136, u 137, u 138, u 139, u 140, u 141, u 142, u 143, u 144, u 145, u 146, u 147, u 148, u 149, u 150, u 151, u 152, u 153, u 154, u 155, u 156, u 157, u 158, u 159, u 160, u 161], defers := [] } [.code (.seq (.seq (.region 25 reg59_25 false) (.cond (.tmp 106 ) (.skip) (.exit 4))) (.block 5 (.seq (.region 26 reg59_26 false) (.block 6 (.loop (.seq (.seq (.region 27 reg59_27 false) (.cond (.tmp 115 ) (.skip) (.exit 6))) (.seq (.block 7 (.seq (.region 29 reg59_29 false) (.cond (.tmp 126 ) (.seq (.region 30 reg59_30 false) (.seq (.region 31 reg59_31 false) (.region 32 reg59_32 false))) (.skip)))) (.region 28 reg59_28 false)))))))), .inLoop (.seq (.seq (.region 25 reg59_25 false) (.cond (.tmp 106 ) (.skip) (.exit 4))) (.block 5 (.seq (.region 26 reg59_26 false) (.block 6 (.loop (.seq (.seq (.region 27 reg59_27 false) (.cond (.tmp 115 ) (.skip) (.exit 6))) (.seq (.block 7 (.seq (.region 29 reg59_29 false) (.cond (.tmp 126 ) (.seq (.region 30 reg59_30 false) (.seq (.region 31 reg59_31 false) (.region 32 reg59_32 false))) (.skip)))) (.region 28 reg59_28 false)))))))), .inBlock 4, .code (.seq (.region 33 reg59_33 false) (.seq (.seq (.region 34 reg59_34 false) (.block 8 (.loop (.seq (.seq (.region 35 reg59_35 false) (.cond (.tmp 145 ) (.skip) (.exit 8))) (.seq (.block 9 (.region 37 reg59_37 true)) (.region 36 reg59_36 false)))))) (.seq (.region 38 reg59_38 false) (.ret))))]
noncomputable def hdRun3 (M : Nat) (mo : Int) (R n : Nat) (ov : Value) (i : Nat) (u : Nat -> Value) : Frame :=
 (base 59).at { tmps := #[.pointer (some ⟨M, 0, none⟩), u 1, u 2, .int .i64 mo, u 4, u 5, u 6, u 7, .pointer (some ⟨R, 0, none⟩), .int .i64 n, u 10, u 11, ov, u 13, u 14, .int .i64 i, u 16, u 17, u 18, u 19, u 20, u 21, u 22, u 23, u 24, u 25, u 26, u 27, u 28, u 29, u 30, u 31, u 32, u 33, u 34, u 35, u 36, u 37, u 38, u 39, u 40, u 41, u 42, u 43, u 44, u 45, u 46, u 47, u 48, u 49, u 50, u 51, u 52, u 53, u 54, u 55, u 56, u 57, u 58, u 59, u 60, u 61, u 62, u 63, u 64, u 65, u 66, u 67, u 68, u 69, u 70, u 71, u 72, u 73, u 74, u 75, u 76, u 77, u 78, u 79, u 80, u 81, u 82, u 83, u 84, u 85, u 86, u 87, u 88, u 89, u 90, u 91, u 92, u 93, u 94, u 95, u 96, u 97, u 98, u 99, u 100, u 101, u 102, u 103, u 104, u 105, u 106, u 107, u 108, u 109, u 110, u 111, u 112, u 113, u 114, u 115, u 116, u 117, u 118, u 119, u 120, u 121, u 122, u 123, u 124, u 125, u 126, u 127, u 128, u 129, u 130, u 131, u 132, u 133, u 134, u 135, u 136, u 137, u 138, u 139, u 140, u 141, u 142, u 143, u 144, u 145, u 146, u 147, u 148, u 149, u 150, u 151, u 152, u 153, u 154, u 155, u 156, u 157, u 158, u 159, u 160, u 161], defers := [] } [.code (.seq (.seq (.region 27 reg59_27 false) (.cond (.tmp 115 ) (.skip) (.exit 6))) (.seq (.block 7 (.seq (.region 29 reg59_29 false) (.cond (.tmp 126 ) (.seq (.region 30 reg59_30 false) (.seq (.region 31 reg59_31 false) (.region 32 reg59_32 false))) (.skip)))) (.region 28 reg59_28 false))), .inLoop (.seq (.seq (.region 27 reg59_27 false) (.cond (.tmp 115 ) (.skip) (.exit 6))) (.seq (.block 7 (.seq (.region 29 reg59_29 false) (.cond (.tmp 126 ) (.seq (.region 30 reg59_30 false) (.seq (.region 31 reg59_31 false) (.region 32 reg59_32 false))) (.skip)))) (.region 28 reg59_28 false))), .inBlock 6, .inBlock 5, .inLoop (.seq (.seq (.region 25 reg59_25 false) (.cond (.tmp 106 ) (.skip) (.exit 4))) (.block 5 (.seq (.region 26 reg59_26 false) (.block 6 (.loop (.seq (.seq (.region 27 reg59_27 false) (.cond (.tmp 115 ) (.skip) (.exit 6))) (.seq (.block 7 (.seq (.region 29 reg59_29 false) (.cond (.tmp 126 ) (.seq (.region 30 reg59_30 false) (.seq (.region 31 reg59_31 false) (.region 32 reg59_32 false))) (.skip)))) (.region 28 reg59_28 false)))))))), .inBlock 4, .code (.seq (.region 33 reg59_33 false) (.seq (.seq (.region 34 reg59_34 false) (.block 8 (.loop (.seq (.seq (.region 35 reg59_35 false) (.cond (.tmp 145 ) (.skip) (.exit 8))) (.seq (.block 9 (.region 37 reg59_37 true)) (.region 36 reg59_36 false)))))) (.seq (.region 38 reg59_38 false) (.ret))))]
noncomputable def hdRun4 (M R n Q i : Nat) (u : Nat -> Value) : Frame :=
 (base 59).at { tmps := #[.pointer (some ⟨M, 0, none⟩), u 1, u 2, u 3, u 4, u 5, u 6, u 7, .pointer (some ⟨R, 0, none⟩), .int .i64 n, u 10, u 11, u 12, u 13, u 14, u 15, .pointer (some ⟨Q, 0, none⟩), .int .i64 i, u 18, u 19, u 20, u 21, u 22, u 23, u 24, u 25, u 26, u 27, u 28, u 29, u 30, u 31, u 32, u 33, u 34, u 35, u 36, u 37, u 38, u 39, u 40, u 41, u 42, u 43, u 44, u 45, u 46, u 47, u 48, u 49, u 50, u 51, u 52, u 53, u 54, u 55, u 56, u 57, u 58, u 59, u 60, u 61, u 62, u 63, u 64, u 65, u 66, u 67, u 68, u 69, u 70, u 71, u 72, u 73, u 74, u 75, u 76, u 77, u 78, u 79, u 80, u 81, u 82, u 83, u 84, u 85, u 86, u 87, u 88, u 89, u 90, u 91, u 92, u 93, u 94, u 95, u 96, u 97, u 98, u 99, u 100, u 101, u 102, u 103, u 104, u 105, u 106, u 107, u 108, u 109, u 110, u 111, u 112, u 113, u 114, u 115, u 116, u 117, u 118, u 119, u 120, u 121, u 122, u 123, u 124, u 125, u 126, u 127, u 128, u 129, u 130, u 131, u 132, u 133, u 134, u 135, u 136, u 137, u 138, u 139, u 140, u 141, u 142, u 143, u 144, u 145, u 146, u 147, u 148, u 149, u 150, u 151, u 152, u 153, u 154, u 155, u 156, u 157, u 158, u 159, u 160, u 161], defers := [] } [.code (.seq (.seq (.region 35 reg59_35 false) (.cond (.tmp 145 ) (.skip) (.exit 8))) (.seq (.block 9 (.region 37 reg59_37 true)) (.region 36 reg59_36 false))), .inLoop (.seq (.seq (.region 35 reg59_35 false) (.cond (.tmp 145 ) (.skip) (.exit 8))) (.seq (.block 9 (.region 37 reg59_37 true)) (.region 36 reg59_36 false))), .inBlock 8, .code (.seq (.region 38 reg59_38 false) (.ret))]
section
variable {main : Bool}
theorem run_in_le_neg (M : Nat) (ta : Option Addr) (n0 tc : Nat) (sv : Value) (most : Int) (h0 : n0 <= 64) (h1 : most < 0) (cs : List Frame) (w : World) :
  Walk prog main (DR (fun _ => none)) (fun g w' => (∃ u, g = G (hdRun0 M (.slice ta n0 tc) sv 0 w.heap.size n0 0 u) cs) /\ ∃ d, w' = (w.alloc Fl).at d) (G (Frame.enter prog 59 #[.pointer (some ⟨M, 0, none⟩), .slice ta n0 tc, sv, .int .i64 most] .normal) cs) w := by
 have a1 : decide ((64 : Int) < n0) = false := by simp; omega
 have a2 : decide (64 < n0) = false := by simp; omega
 have b1 : decide (most < 0) = true := by simp; omega
 rw [enter_at _ func59 code59_is]
 simp only [ntmps59, ez, Nat.reduceAdd, Nat.reduceSub]
 refine Aa z59 ?_
 (refine Wa ?_; try walk_nrm)
 have e1 : w.alloc (.cells #[.slice none 0 0, .slice none 0 0, .slice none 0 0, .bool false] 33) = w.alloc Fl := rfl
 try rw [e1]
 clear e1
 generalize hw1 : w.alloc Fl = w1
 generalize w.heap.size = R
 refine Aa z59 ?_
 refine cLp ?_
 refine .stop fun d => ⟨Ak ?_, d, rfl⟩
 simp only [hdRun0]
 rfl
theorem run_in_le_big (M : Nat) (ta : Option Addr) (n0 tc : Nat) (sv : Value) (most : Int) (h0 : n0 <= 64) (h1 : 1048576 < most) (cs : List Frame) (w : World) :
  Walk prog main (DR (fun _ => none)) (fun g w' => (∃ u, g = G (hdRun0 M (.slice ta n0 tc) sv 1048576 w.heap.size n0 0 u) cs) /\ ∃ d, w' = (w.alloc Fl).at d) (G (Frame.enter prog 59 #[.pointer (some ⟨M, 0, none⟩), .slice ta n0 tc, sv, .int .i64 most] .normal) cs) w := by
 have a1 : decide ((64 : Int) < n0) = false := by simp; omega
 have a2 : decide (64 < n0) = false := by simp; omega
 have b1 : decide (most < 0) = false := by simp; omega
 have b2 : decide ((1048576 : Int) < most) = true := by simp; omega
 rw [enter_at _ func59 code59_is]
 simp only [ntmps59, ez, Nat.reduceAdd, Nat.reduceSub]
 refine Aa z59 ?_
 (refine Wa ?_; try walk_nrm)
 have e1 : w.alloc (.cells #[.slice none 0 0, .slice none 0 0, .slice none 0 0, .bool false] 33) = w.alloc Fl := rfl
 try rw [e1]
 clear e1
 generalize hw1 : w.alloc Fl = w1
 generalize w.heap.size = R
 refine Aa z59 ?_
 refine cLp ?_
 refine .stop fun d => ⟨Ak ?_, d, rfl⟩
 simp only [hdRun0]
 rfl
theorem run_in_le_mid (M : Nat) (ta : Option Addr) (n0 tc : Nat) (sv : Value) (most : Int) (h0 : n0 <= 64) (h1 : 0 <= most) (h2 : most <= 1048576) (cs : List Frame) (w : World) :
  Walk prog main (DR (fun _ => none)) (fun g w' => (∃ u, g = G (hdRun0 M (.slice ta n0 tc) sv most w.heap.size n0 0 u) cs) /\ ∃ d, w' = (w.alloc Fl).at d) (G (Frame.enter prog 59 #[.pointer (some ⟨M, 0, none⟩), .slice ta n0 tc, sv, .int .i64 most] .normal) cs) w := by
 have a1 : decide ((64 : Int) < n0) = false := by simp; omega
 have a2 : decide (64 < n0) = false := by simp; omega
 have b1 : decide (most < 0) = false := by simp; omega
 have b2 : decide ((1048576 : Int) < most) = false := by simp; omega
 rw [enter_at _ func59 code59_is]
 simp only [ntmps59, ez, Nat.reduceAdd, Nat.reduceSub]
 refine Aa z59 ?_
 (refine Wa ?_; try walk_nrm)
 have e1 : w.alloc (.cells #[.slice none 0 0, .slice none 0 0, .slice none 0 0, .bool false] 33) = w.alloc Fl := rfl
 try rw [e1]
 clear e1
 generalize hw1 : w.alloc Fl = w1
 generalize w.heap.size = R
 refine Aa z59 ?_
 refine cLp ?_
 refine .stop fun d => ⟨Ak ?_, d, rfl⟩
 simp only [hdRun0]
 rfl
theorem run_in_gt_neg (M : Nat) (ta : Option Addr) (n0 tc : Nat) (sv : Value) (most : Int) (h0 : 64 < n0) (h1 : most < 0) (cs : List Frame) (w : World) :
  Walk prog main (DR (fun _ => none)) (fun g w' => (∃ u, g = G (hdRun0 M (.slice ta n0 tc) sv 0 w.heap.size 64 0 u) cs) /\ ∃ d, w' = (w.alloc Fl).at d) (G (Frame.enter prog 59 #[.pointer (some ⟨M, 0, none⟩), .slice ta n0 tc, sv, .int .i64 most] .normal) cs) w := by
 have a1 : decide ((64 : Int) < n0) = true := by simp; omega
 have a2 : decide (64 < n0) = true := by simp; omega
 have b1 : decide (most < 0) = true := by simp; omega
 rw [enter_at _ func59 code59_is]
 simp only [ntmps59, ez, Nat.reduceAdd, Nat.reduceSub]
 refine Aa z59 ?_
 (refine Wa ?_; try walk_nrm)
 have e1 : w.alloc (.cells #[.slice none 0 0, .slice none 0 0, .slice none 0 0, .bool false] 33) = w.alloc Fl := rfl
 try rw [e1]
 clear e1
 generalize hw1 : w.alloc Fl = w1
 generalize w.heap.size = R
 refine Aa z59 ?_
 refine cLp ?_
 refine .stop fun d => ⟨Ak ?_, d, rfl⟩
 simp only [hdRun0]
 rfl
theorem run_in_gt_big (M : Nat) (ta : Option Addr) (n0 tc : Nat) (sv : Value) (most : Int) (h0 : 64 < n0) (h1 : 1048576 < most) (cs : List Frame) (w : World) :
  Walk prog main (DR (fun _ => none)) (fun g w' => (∃ u, g = G (hdRun0 M (.slice ta n0 tc) sv 1048576 w.heap.size 64 0 u) cs) /\ ∃ d, w' = (w.alloc Fl).at d) (G (Frame.enter prog 59 #[.pointer (some ⟨M, 0, none⟩), .slice ta n0 tc, sv, .int .i64 most] .normal) cs) w := by
 have a1 : decide ((64 : Int) < n0) = true := by simp; omega
 have a2 : decide (64 < n0) = true := by simp; omega
 have b1 : decide (most < 0) = false := by simp; omega
 have b2 : decide ((1048576 : Int) < most) = true := by simp; omega
 rw [enter_at _ func59 code59_is]
 simp only [ntmps59, ez, Nat.reduceAdd, Nat.reduceSub]
 refine Aa z59 ?_
 (refine Wa ?_; try walk_nrm)
 have e1 : w.alloc (.cells #[.slice none 0 0, .slice none 0 0, .slice none 0 0, .bool false] 33) = w.alloc Fl := rfl
 try rw [e1]
 clear e1
 generalize hw1 : w.alloc Fl = w1
 generalize w.heap.size = R
 refine Aa z59 ?_
 refine cLp ?_
 refine .stop fun d => ⟨Ak ?_, d, rfl⟩
 simp only [hdRun0]
 rfl
theorem run_in_gt_mid (M : Nat) (ta : Option Addr) (n0 tc : Nat) (sv : Value) (most : Int) (h0 : 64 < n0) (h1 : 0 <= most) (h2 : most <= 1048576) (cs : List Frame) (w : World) :
  Walk prog main (DR (fun _ => none)) (fun g w' => (∃ u, g = G (hdRun0 M (.slice ta n0 tc) sv most w.heap.size 64 0 u) cs) /\ ∃ d, w' = (w.alloc Fl).at d) (G (Frame.enter prog 59 #[.pointer (some ⟨M, 0, none⟩), .slice ta n0 tc, sv, .int .i64 most] .normal) cs) w := by
 have a1 : decide ((64 : Int) < n0) = true := by simp; omega
 have a2 : decide (64 < n0) = true := by simp; omega
 have b1 : decide (most < 0) = false := by simp; omega
 have b2 : decide ((1048576 : Int) < most) = false := by simp; omega
 rw [enter_at _ func59 code59_is]
 simp only [ntmps59, ez, Nat.reduceAdd, Nat.reduceSub]
 refine Aa z59 ?_
 (refine Wa ?_; try walk_nrm)
 have e1 : w.alloc (.cells #[.slice none 0 0, .slice none 0 0, .slice none 0 0, .bool false] 33) = w.alloc Fl := rfl
 try rw [e1]
 clear e1
 generalize hw1 : w.alloc Fl = w1
 generalize w.heap.size = R
 refine Aa z59 ?_
 refine cLp ?_
 refine .stop fun d => ⟨Ak ?_, d, rfl⟩
 simp only [hdRun0]
 rfl
theorem into_run (M : Nat) (ta : Option Addr) (n0 tc : Nat) (sv : Value) (most : Int) (cs : List Frame) (w : World) :
  Walk prog main (DR (fun _ => none)) (fun g w' => (∃ u, g = G (hdRun0 M (.slice ta n0 tc) sv (min (max most 0) 1048576) w.heap.size (min n0 64) 0 u) cs) /\ ∃ d, w' = (w.alloc Fl).at d) (G (Frame.enter prog 59 #[.pointer (some ⟨M, 0, none⟩), .slice ta n0 tc, sv, .int .i64 most] .normal) cs) w := by
 by_cases h0 : n0 <= 64
 ·rw [show min n0 64 = n0 by omega]
  by_cases h1 : most < 0
  ·rw [show min (max most 0) 1048576 = 0 by omega]; exact run_in_le_neg M ta n0 tc sv most h0 h1 cs w
  ·by_cases h2 : 1048576 < most
   ·rw [show min (max most 0) 1048576 = 1048576 by omega]; exact run_in_le_big M ta n0 tc sv most h0 h2 cs w
   ·rw [show min (max most 0) 1048576 = most by omega]; exact run_in_le_mid M ta n0 tc sv most h0 (by omega) (by omega) cs w
 ·rw [show min n0 64 = 64 by omega]
  by_cases h1 : most < 0
  ·rw [show min (max most 0) 1048576 = 0 by omega]; exact run_in_gt_neg M ta n0 tc sv most (by omega) h1 cs w
  ·by_cases h2 : 1048576 < most
   ·rw [show min (max most 0) 1048576 = 1048576 by omega]; exact run_in_gt_big M ta n0 tc sv most (by omega) h2 cs w
   ·rw [show min (max most 0) 1048576 = most by omega]; exact run_in_gt_mid M ta n0 tc sv most (by omega) (by omega) (by omega) cs w
end
end Go.Proofs.Ytflcclneedldoaa
