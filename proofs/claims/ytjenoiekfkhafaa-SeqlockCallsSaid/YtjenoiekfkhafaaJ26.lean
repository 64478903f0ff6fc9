/- Part 26. -/
import Derived.Test.YtjenoiekfkhafaaJ25
set_option linter.unusedSimpArgs false
set_option linter.unusedVariables false
set_option linter.unusedVariables false
set_option maxHeartbeats 8000000
set_option maxRecDepth 100000
namespace Go.Proofs.Ytjenoiekfkhafaa
open Go.Conc Go.RowKit Go.Relay
open Go.ConcN (upd upd_ne upd_same)
section
section
variable {lb m : Nat}
theorem enter8 (hm0 : 0 < m) (s : Sq) (th : Int) (o : OpV) (hk : Ft o) : ∃ d, By s th o = (s, .inr d) /\ ∀ t : R8, t.pc = 1 -> t.tr = (Bv o.a : Nat) -> t.seen = [] -> t.live -> St8 m o t d := by
 obtain ⟨k, a, b, c⟩ := o
 obtain ⟨h1, h2⟩ := hk
 dsimp only at h1 h2
 have htr := Ow a
 have h : k = 1 ∨ k = 2 ∨ k = 3 ∨ k = 4 ∨ k = 5 := by omega
 rcases h with rfl | rfl | rfl | rfl | rfl
 ·exact ⟨_, rfl, fun t h1 h2 h3 h4 => ⟨rfl, rfl, h1, h2, htr.1, htr.2⟩⟩
 ·exact ⟨_, rfl, fun t h1 h2 h3 h4 => ⟨rfl, rfl, h1, h2, htr.1, htr.2⟩⟩
 ·exact ⟨_, rfl, fun t h1 h2 h3 h4 => ⟨rfl, h1, h2, htr.1, htr.2, h4, h3⟩⟩
 ·exact ⟨_, rfl, fun t h1 h2 h3 h4 => ⟨rfl, hm0, h1, h4, h3, rfl⟩⟩
 ·exact ⟨_, rfl, fun t h1 h2 h3 h4 => ⟨rfl, rfl, h1⟩⟩
theorem enter8_no (s : Sq) (th : Int) (o : OpV) (hk : ¬ Ft o) : By s th o = (s, .inl Fw) := by
 unfold By
 rw [if_neg (fun h => hk ⟨by omega, by omega⟩), if_neg (fun h => hk ⟨by omega, by omega⟩), if_neg (fun h => hk ⟨by omega, by omega⟩), if_neg (fun h => hk ⟨by omega, by omega⟩), if_neg (fun h => hk ⟨by omega, by omega⟩)]
structure Th8 (m : Nat) (all : List OpV) (left : List OpV) (d : Option QD) (ans : List Ans) (t : R8) : Prop where
 ops : t.ops = all
 ans : t.ans = ans
 pos : (d = none /\ left = [] /\ t.at' = all.length /\ t.pc = 0) ∨ ∃ d' o, d = some d' /\ all[t.at']? = some o /\ left = all.drop (t.at' + 1) /\ St8 m o t d'
theorem settle8 (hm0 : 0 < m) (th : Int) (s : Sq) : ∀ (q : Nat) (t t' : R8), (∀ x, x < q -> ∃ o, t.ops[t.at' + x]? = some o /\ ¬ Ft o) -> t'.ops = t.ops -> t'.at' = t.at' + q -> t'.ans = t.ans ++ List.replicate q Fw ->
  ((t'.at' = t.ops.length /\ t'.pc = 0) ∨ ∃ o, t.ops[t'.at']? = some o /\ Ft o /\ t'.pc = 1 /\ t'.tr = (Bv o.a : Nat) /\ t'.seen = [] /\ t'.live) ->
  ∃ z, Bs (Aj lb (m - 1)) th s (t.ops.drop t.at') t.ans = (s, z) /\ Th8 m t.ops z.left z.d z.ans t' := by
 intro q
 induction q with
 | zero =>
  intro t t' _ h1 h2 h3 h4
  have h2 : t'.at' = t.at' := h2
  have h3 : t'.ans = t.ans := by simpa using h3
  rcases h4 with ⟨h5, h6⟩ | ⟨o, h5, h6, h7, h8, h9, h10⟩
  ·have : t.ops.drop t.at' = [] := List.drop_eq_nil_of_le (by omega)
   rw [this]
   exact ⟨_, rfl, h1, h3, .inl ⟨rfl, rfl, h5, h6⟩⟩
  ·obtain ⟨d, e, hd⟩ := enter8 hm0 s th o h6
   rw [h2] at h5
   have hlt := (List.getElem?_eq_some_iff.1 h5).1
   have ho := (List.getElem?_eq_some_iff.1 h5).2
   have e' : (Aj lb (m - 1)).enter s th o = (s, .inr d) := e
   refine ⟨⟨t.ops.drop (t.at' + 1), some d, t.ans⟩, ?_, h1, h3, .inr ⟨d, o, rfl, by rw [h2]; exact h5, by rw [h2], hd t' h7 h8 h9 h10⟩⟩
   rw [List.drop_eq_getElem_cons hlt, ho]
   exact (Gx (Aj lb (m - 1)) th s o (t.ops.drop (t.at' + 1)) t.ans).trans ((congrArg (fun r => Em (Aj lb (m - 1)) th r (t.ops.drop (t.at' + 1)) t.ans) e').trans rfl)
 | succ q ih =>
  intro t t' h0 h1 h2 h3 h4
  obtain ⟨o, ho, hk⟩ := h0 0 (by omega)
  have ho : t.ops[t.at']? = some o := ho
  have hlt := (List.getElem?_eq_some_iff.1 ho).1
  have hoe := (List.getElem?_eq_some_iff.1 ho).2
  have e' : (Aj lb (m - 1)).enter s th o = (s, .inl Fw) := enter8_no s th o hk
  obtain ⟨z, g1, g2⟩ := ih (t.told Fw t.av t.ownA) t' (fun x hx => by
   obtain ⟨o', h5, h6⟩ := h0 (x + 1) (by omega)
   refine ⟨o', ?_, h6⟩
   rw [<- h5]
   show t.ops[t.at' + 1 + x]? = t.ops[t.at' + (x + 1)]?
   congr 1
   omega) h1 (by show t'.at' = t.at' + 1 + q; omega) (by
   rw [h3, List.replicate_succ]
   show _ = (t.ans ++ [Fw]) ++ _
   rw [List.append_assoc]
   rfl) h4
  refine ⟨z, ?_, g2⟩
  rw [List.drop_eq_getElem_cons hlt, hoe]
  exact (Gx (Aj lb (m - 1)) th s o (t.ops.drop (t.at' + 1)) t.ans).trans ((congrArg (fun r => Em (Aj lb (m - 1)) th r (t.ops.drop (t.at' + 1)) t.ans) e').trans g1)
end
end
section
theorem St8.on {m : Nat} {o : OpV} {t : R8} {d : QD} (h : St8 m o t d) : 0 < t.pc := by
 cases d with
 | w1 a tr xs => rw [h.2.2.1]; decide
 | w2 a tr xs v => rw [h.2.2.1]; decide
 | w3 a xs v i => rw [h.2.2.2.1]; omega
 | w4 v => rw [h.2.1]; omega
 | r1 tr => rw [h.2.1]; decide
 | r2 tr v i l => rw [h.2.2.1]; omega
 | r3 tr v l => rw [h.2.1]; omega
 | q i l => rw [h.2.2.1]; omega
 | n1 a => rw [h.2.2]; decide
theorem upd_id {α : Type} (f : Nat -> α) (i : Nat) : upd f i (f i) = f := by
 funext k
 by_cases h : k = i
 ·subst h; rw [upd_same]
 ·rw [upd_ne _ _ h]
section
variable {a0 M cg cc tb tc n m : Nat} {ta : Option Addr} {T : Nat -> R8} {main : Bool} {lb : Nat}
theorem settle_af {i : Nat} (hi : i < n) (hn : n <= 64) (hm0 : 0 < m) (th : Int) (s : Sq) (o : OpV) (r : Ans ⊕ QD) (t : R8) (hA : Af8 m o r t (T i)) (ho : t.ops[t.at']? = some o) (hln : t.ops.length <= 65536) (hal : t.ans.length <= t.at') (w : World) (ha0 : a0 <= w.heap.size) (I : M8 a0 M cg cc tb tc n m ta s T w) :
  CallW Try.prog main (fun _ => none) 52 #[.pointer (some ⟨M, 0, none⟩), .int .i64 i] w (fun v w' => v = .tuple #[] /\ ∃ z t', Em (Aj lb (m - 1)) th (s, r) (t.ops.drop (t.at' + 1)) t.ans = (s, z) /\ Th8 m t.ops z.left z.d z.ans t' /\ t'.ans.length <= t'.at' /\ M8 a0 M cg cc tb tc n m ta s (upd T i t') w' /\ Got M cg tb n T (upd T i t') w w') := by
 have hlt := (List.getElem?_eq_some_iff.1 ho).1
 rcases hA.how with ⟨a, rfl, h1, h2, h3⟩ | ⟨d, rfl, h1, h2, h3⟩
 ·have hl1 : (T i).ans.length = t.ans.length + 1 := by rw [h1]; simp
  have hw := settle_w (main := main) hi hn w (by rw [hA.ops]; omega) (by rw [hA.ops]; exact hln) (by omega) h3 ha0 I
  intro c cs
  refine (hw c cs).mono ?_
  rintro g w' ⟨v, ⟨rfl, t', S, I2, g2⟩, rfl⟩
  obtain ⟨q, s1, s2, s3, s4⟩ := S.how
  obtain ⟨z, e1, e2⟩ := settle8 (lb := lb) hm0 th s q (T i) t' s1 S.ops s2 s3 s4
  rw [hA.ops, h1, h2] at e1
  rw [hA.ops] at e2
  refine ⟨_, ⟨rfl, z, t', e1, e2, ?_, I2, g2⟩, rfl⟩
  rw [s3, s2]
  simp
  omega
 ·have hw := settle_on (main := main) hi w (by have := h3.on; omega) I
  intro c cs
  refine (hw c cs).mono ?_
  rintro g w' ⟨v, ⟨rfl, d', rfl⟩, rfl⟩
  refine ⟨_, ⟨rfl, ⟨t.ops.drop (t.at' + 1), some d, t.ans⟩, T i, rfl, ⟨hA.ops, h1, .inr ⟨d, o, rfl, by rw [h2]; exact ho, by rw [h2], h3⟩⟩, by rw [h1, h2]; exact hal, ?_, ?_⟩, rfl⟩
  ·rw [upd_id]; exact I.same fun _ _ => rfl
  ·rw [upd_id]; exact ⟨Chg.refl.at d', fun _ h => .inl h⟩
end
end
section
def Ej (T : Nat -> R8) (n : Nat) : List Value := (List.range n).flatMap fun i => (T i).cells
theorem Jg (T : Nat -> R8) (n : Nat) : Ej T (n + 1) = Ej T n ++ (T n).cells := by simp [Ej, List.range_succ]
theorem En (T : Nat -> R8) (n : Nat) : (Ej T n).length = n * 8 := by
 induction n with
 | zero => rfl
 | succ n ih => rw [Jg, List.length_append, ih]; show n * 8 + 8 = _; omega
theorem thRow_get (T : Nat -> R8) (n i j : Nat) (v : Value) (hi : i < n) (h : (T i).cells[j]? = some v) : (Ej T n)[i * 8 + j]? = some v := by
 have hj : j < 8 := (List.getElem?_eq_some_iff.1 h).1
 induction n with
 | zero => omega
 | succ n ih =>
  rw [Jg]
  by_cases e : i = n
  ·subst e
   rw [List.getElem?_append_right (by rw [En]; omega), En, Nat.add_sub_cancel_left]
   exact h
  ·have : (i + 1) * 8 <= n * 8 := Nat.mul_le_mul_right 8 (by omega)
   rw [List.getElem?_append_left (by rw [En]; omega)]
   exact ih (by omega)
theorem thRow_inv (T : Nat -> R8) (n q : Nat) (v : Value) (h : (Ej T n)[q]? = some v) : ∃ i j, i < n /\ q = i * 8 + j /\ (T i).cells[j]? = some v := by
 have hq := (List.getElem?_eq_some_iff.1 h).1
 rw [En] at hq
 have hi : q / 8 < n := by omega
 have hj : q % 8 < (T (q / 8)).cells.length := by show q % 8 < 8; omega
 have e : q / 8 * 8 + q % 8 = q := by omega
 have := thRow_get T n (q / 8) (q % 8) _ hi (List.getElem?_eq_getElem hj)
 rw [e, h] at this
 refine ⟨q / 8, q % 8, hi, e.symm, ?_⟩
 rw [List.getElem?_eq_getElem hj]
 exact this.symm
theorem thRow_upd (T : Nat -> R8) (n : Nat) (t : R8) : Ej (upd T n t) n = Ej T n := by
 unfold Ej
 rw [List.flatMap_def, List.flatMap_def]
 congr 1
 refine List.map_congr_left fun i hi => ?_
 rw [upd_ne _ _ (by have := List.mem_range.1 hi; omega)]
section
variable {a0 M cg cc tb tc n m : Nat} {ta : Option Addr} {Sx : Sq} {T : Nat -> R8} {w : World}
theorem M8.row (I : M8 a0 M cg cc tb tc n m ta Sx T w) (hz : n = 0 -> ta = none /\ tc = 0) : w.ownsRow a0 112 8 (.slice ta n tc) n (Ej T n) := by
 refine ⟨En T n, ?_⟩
 by_cases h0 : n = 0
 ·left
  obtain ⟨rfl, rfl⟩ := hz h0
  subst h0
  exact ⟨rfl, rfl⟩
 ·right
  obtain ⟨rfl, arr, h1, h2, h3, h4, h5⟩ := I.ts (by omega)
  refine ⟨tb, tc, arr, rfl, (I.base.2.2.2 (by omega)).1, h1, h3, h4, h2, ?_⟩
  apply List.ext_getElem?
  intro q
  rw [List.getElem?_take]
  by_cases hq : q < n * 8
  ·have hlen : q < (Ej T n).length := by rw [En]; exact hq
   obtain ⟨v, hq'⟩ : ∃ v, (Ej T n)[q]? = some v := ⟨_, List.getElem?_eq_getElem hlen⟩
   obtain ⟨i, j, hi, e, hv⟩ := thRow_inv T n q v hq'
   have := h5 i hi j v hv
   rw [if_pos hq, hq', e]
   simpa using this
  ·rw [if_neg hq, List.getElem?_eq_none (by rw [En]; omega)]
theorem M8.push (I : M8 a0 M cg cc tb tc n m ta Sx T w) (hz : n = 0 -> ta = none /\ tc = 0) (t : R8) (hno : ∀ b, ¬ t.own b) (g cap : Nat) (w3 : World) (hown : w3.ownsRow a0 112 8 (.slice (some ⟨g, 0, none⟩) (n + 1) cap) (n + 1) (Ej T n ++ t.cells))
  (hsame : ∀ b, b < w.heap.size -> (Value.slice ta n tc).ownBlock ≠ some b -> w3.heap[b]? = w.heap[b]?) (hat : (Value.slice ta n tc).ownBlock = some g ∨ w.heap.size <= g) (hr : t.Rows a0 w3) :
  M8 a0 M cg cc g cap (n + 1) m (some ⟨g, 0, none⟩) Sx (upd T n t) (w3.setCell ⟨M, 2, none⟩ (.slice (some ⟨g, 0, none⟩) (n + 1) cap)) := by
 obtain ⟨b1, b2, b3, b4⟩ := I.base
 obtain ⟨l1, l2, l3⟩ := I.lt
 have hob : ∀ b, (Value.slice ta n tc).ownBlock = some b -> 0 < n /\ b = tb := fun b hb => by
  by_cases h0 : n = 0
  ·obtain ⟨rfl, rfl⟩ := hz h0
   cases hb
  ·obtain ⟨rfl, _⟩ := I.ts (by omega)
   simp only [Value.ownBlock, Option.some.injEq] at hb
   exact ⟨by omega, hb.symm⟩
 have hgM : M ≠ g /\ cg ≠ g := by
  rcases hat with h | h
  ·obtain ⟨h0, rfl⟩ := hob g h
   exact (b4 h0).2
  ·exact ⟨by omega, by omega⟩
 obtain ⟨_, cap', cur, e, hb, h1, h2, h3, h4, h5⟩ : ∃ g' cap' cur, Value.slice (some ⟨g, 0, none⟩) (n + 1) cap = .slice (some ⟨g', 0, none⟩) (n + 1) cap' /\ a0 <= g' /\ w3.heap[g']? = some (.cells cur 112 (0, 0)) /\ n + 1 <= cap' /\ cap' <= maxLen /\ cur.size = cap' * 8 /\ cur.toList.take ((n + 1) * 8) = Ej T n ++ t.cells := by
  rcases hown.2 with ⟨_, h⟩ | h
  ·omega
  ·exact h
 cases e
 have ho : ∀ b, b ≠ M -> (w3.setCell ⟨M, 2, none⟩ (.slice (some ⟨g, 0, none⟩) (n + 1) cap)).heap[b]? = w3.heap[b]? := fun b hb => Ac _ _ _ _ hb
 have hnM : (Value.slice ta n tc).ownBlock ≠ some M := fun e => by
  obtain ⟨h0, e⟩ := hob M e
  exact (b4 h0).2.1 e
 have hnc : (Value.slice ta n tc).ownBlock ≠ some cg := fun e => by
  obtain ⟨h0, e⟩ := hob cg e
  exact (b4 h0).2.2 e
 have hfarg : ∀ i, i < n -> ∀ b, (T i).own b -> b ≠ g := fun i hi b hb e => by
  rcases hat with h | h
  ·obtain ⟨h0, e2⟩ := hob g h
   exact (I.far i hi b hb).2.2.1 (e.trans e2)
  ·have := ((I.rows i hi).low hb).2
   omega
 refine ⟨?_, ?_, fun _ => ⟨rfl, cur, (ho g (Ne.symm hgM.1)).trans h1, h4, h2, h3, fun i hi j v hv => ?_⟩, fun i hi => ?_, fun i hi b hb => ?_, b1, b2, b3, fun _ => ⟨hb, hgM⟩⟩
 ·rw [Ak _ _ ((hsame M l1 hnM).trans I.hd)]
  simp
 ·obtain ⟨arr, k1, k2⟩ := I.cs
  exact ⟨arr, (ho cg (Ne.symm b3)).trans ((hsame cg l2 hnc).trans k1), k2⟩
 ·have hk := thRow_get (upd T n t) (n + 1) i j v hi hv
  rw [Jg, thRow_upd, upd_same, <- h5, List.getElem?_take] at hk
  split at hk
  ·simpa using hk
  ·cases hk
 ·by_cases e : i = n
  ·subst e
   rw [upd_same]
   exact hr.same (fun b hb _ => ho b (by omega)) fun b hb => absurd hb (hno b)
  ·rw [upd_ne _ _ e]
   have R := I.rows i (by omega)
   exact R.same (fun b hb hw => (ho b (by omega)).trans (hsame b hw fun e => by have := hob b e; have := b4 this.1; omega)) fun b hb => (ho b (I.far i (by omega) b hb).1).trans (hsame b (R.low hb).2 fun e => (I.far i (by omega) b hb).2.2.1 (hob b e).2)
 ·by_cases e : i = n
  ·subst e
   rw [upd_same] at hb
   exact absurd hb (hno b)
  ·rw [upd_ne _ _ e] at hb
   obtain ⟨e1, e2, e3, e4⟩ := I.far i (by omega) b hb
   refine ⟨e1, e2, hfarg i (by omega) b hb, fun k hk hki => ?_⟩
   by_cases ek : k = n
   ·subst ek
    rw [upd_same]
    exact hno b
   ·rw [upd_ne _ _ ek]
    exact e4 k (by omega) hki
end
end
section
def Eg (l : List Nat) : List Value := l.map fun i => .int .i64 (i : Nat)
theorem ordRow_snoc (l : List Nat) (x : Nat) : Eg (l ++ [x]) = Eg l ++ [.int .i64 (x : Nat)] := by simp [Eg]
theorem rowNil (w : World) (base : Nat) (e : TypeId) (size : Nat) : w.ownsRow base e size (.slice none 0 0) 0 [] := ⟨by simp, .inl ⟨rfl, rfl⟩⟩
def Fq : Obj := .cells #[.slice none 0 0, .slice none 0 0, .slice none 0 0, .bool false] 31
noncomputable def reg37_0 := rk Try.f37.body 0
noncomputable def reg37_1 := rk Try.f37.body 1
noncomputable def reg37_2 := rk Try.f37.body 2
noncomputable def reg37_3 := rk Try.f37.body 3
noncomputable def reg37_4 := rk Try.f37.body 4
noncomputable def reg37_5 := rk Try.f37.body 5
noncomputable def reg37_6 := rk Try.f37.body 6
noncomputable def reg37_7 := rk Try.f37.body 7
noncomputable def reg37_8 := rk Try.f37.body 8
noncomputable def reg37_9 := rk Try.f37.body 9
noncomputable def reg37_11 := rk Try.f37.body 11
noncomputable def reg37_12 := rk Try.f37.body 12
noncomputable def reg37_13 := rk Try.f37.body 13
noncomputable def reg37_14 := rk Try.f37.body 14
noncomputable def reg37_15 := rk Try.f37.body 15
noncomputable def reg37_10 := rk Try.f37.body 10
noncomputable def reg37_16 := rk Try.f37.body 16
noncomputable def reg37_17 := rk Try.f37.body 17
noncomputable def reg37_18 := rk Try.f37.body 18
noncomputable def reg37_20 := rk Try.f37.body 20
noncomputable def reg37_21 := rk Try.f37.body 21
noncomputable def reg37_22 := rk Try.f37.body 22
noncomputable def reg37_23 := rk Try.f37.body 23
noncomputable def reg37_24 := rk Try.f37.body 24
noncomputable def reg37_19 := rk Try.f37.body 19
noncomputable def reg37_25 := rk Try.f37.body 25
noncomputable def reg37_26 := rk Try.f37.body 26
noncomputable def reg37_27 := rk Try.f37.body 27
noncomputable def reg37_29 := rk Try.f37.body 29
noncomputable def reg37_30 := rk Try.f37.body 30
noncomputable def reg37_31 := rk Try.f37.body 31
noncomputable def reg37_32 := rk Try.f37.body 32
noncomputable def reg37_28 := rk Try.f37.body 28
noncomputable def reg37_33 := rk Try.f37.body 33
noncomputable def reg37_34 := rk Try.f37.body 34
noncomputable def reg37_35 := rk Try.f37.body 35
noncomputable def reg37_37 := rk Try.f37.body 37
theorem size37_37 : reg37_37.size = 14 := by kernel_rfl
noncomputable def reg37_36 := rk Try.f37.body 36
noncomputable def reg37_38 := rk Try.f37.body 38
theorem z37 : reg37_0.size = 1 /\ reg37_1.size = 3 /\ reg37_2.size = 2 /\ reg37_3.size = 1 /\ reg37_4.size = 2 /\ reg37_5.size = 1 /\ reg37_6.size = 2 /\ reg37_7.size = 1 /\ reg37_8.size = 1 /\ reg37_9.size = 3 /\ reg37_10.size = 3 /\ reg37_11.size = 5 /\ reg37_12.size = 3 /\ reg37_13.size = 3 /\ reg37_14.size = 13 /\ reg37_15.size = 3 /\ reg37_16.size = 1 /\ reg37_17.size = 1 /\ reg37_18.size = 10 /\ reg37_19.size = 3 /\ reg37_20.size = 5 /\ reg37_21.size = 18 /\ reg37_22.size = 5 /\ reg37_23.size = 3 /\ reg37_24.size = 3 /\ reg37_25.size = 8 /\ reg37_26.size = 1 /\ reg37_27.size = 9 /\ reg37_28.size = 3 /\ reg37_29.size = 9 /\ reg37_30.size = 5 /\ reg37_31.size = 3 /\ reg37_32.size = 3 /\ reg37_33.size = 8 /\ reg37_34.size = 1 /\ reg37_35.size = 3 /\ reg37_36.size = 3 /\ reg37_37.size = 14 /\ reg37_38.size = 2 := by and_intros <;> kernel_rfl
theorem code37_is : Try.f37.body = some (.seq (.region 0 reg37_0 false) (.seq (.region 1 reg37_1 false) (.seq (.seq (.region 2 reg37_2 false) (.cond (.tmp 21 ) (.region 3 reg37_3 false) (.skip))) (.seq (.seq (.region 4 reg37_4 false) (.cond (.tmp 23 ) (.region 5 reg37_5 false) (.skip))) (.seq (.seq (.region 6 reg37_6 false) (.cond (.tmp 25 ) (.region 7 reg37_7 false) (.skip))) (.seq (.seq (.region 8 reg37_8 false) (.block 0 (.loop (.seq (.seq (.region 9 reg37_9 false) (.cond (.tmp 28 ) (.skip) (.exit 0))) (.seq (.block 1 (.seq (.region 11 reg37_11 false) (.seq (.seq (.region 12 reg37_12 false) (.cond (.tmp 37 ) (.region 13 reg37_13 false) (.skip))) (.seq (.region 14 reg37_14 false) (.region 15 reg37_15 false))))) (.region 10 reg37_10 false)))))) (.seq (.region 16 reg37_16 false) (.seq (.seq (.region 17 reg37_17 false) (.block 2 (.loop (.seq (.seq (.region 18 reg37_18 false) (.cond (.tmp 64 ) (.skip) (.exit 2))) (.seq (.block 3 (.seq (.region 20 reg37_20 false) (.seq (.region 21 reg37_21 false) (.cond (.tmp 88 ) (.seq (.region 22 reg37_22 false) (.seq (.region 23 reg37_23 false) (.region 24 reg37_24 false))) (.skip))))) (.region 19 reg37_19 false)))))) (.seq (.block 4 (.loop (.seq (.seq (.region 25 reg37_25 false) (.cond (.tmp 106 ) (.skip) (.exit 4))) (.block 5 (.seq (.region 26 reg37_26 false) (.block 6 (.loop (.seq (.seq (.region 27 reg37_27 false) (.cond (.tmp 115 ) (.skip) (.exit 6))) (.seq (.block 7 (.seq (.region 29 reg37_29 false) (.cond (.tmp 126 ) (.seq (.region 30 reg37_30 false) (.seq (.region 31 reg37_31 false) (.region 32 reg37_32 false))) (.skip)))) (.region 28 reg37_28 false)))))))))) (.seq (.region 33 reg37_33 false) (.seq (.seq (.region 34 reg37_34 false) (.block 8 (.loop (.seq (.seq (.region 35 reg37_35 false) (.cond (.tmp 145 ) (.skip) (.exit 8))) (.seq (.block 9 (.region 37 reg37_37 true)) (.region 36 reg37_36 false)))))) (.seq (.region 38 reg37_38 false) (.ret))))))))))))) := by kernel_rfl
noncomputable def hdRun0 (M : Nat) (tv sv : Value) (mo : Int) (R n i : Nat) (u : Nat -> Value) : Frame :=
 (base 37).at { tmps := #[.pointer (some ⟨M, 0, none⟩), tv, sv, .int .i64 mo, u 4, u 5, u 6, u 7, .pointer (some ⟨R, 0, none⟩), .int .i64 n, .int .i64 i, u 11, u 12, u 13, u 14, u 15, u 16, u 17, u 18, u 19, u 20, u 21, u 22, u 23, u 24, u 25, u 26, u 27, u 28, u 29, u 30, u 31, u 32, u 33, u 34, u 35, u 36, u 37, u 38, u 39, u 40, u 41, u 42, u 43, u 44, u 45, u 46, u 47, u 48, u 49, u 50, u 51, u 52, u 53, u 54, u 55, u 56, u 57, u 58, u 59, u 60, u 61, u 62, u 63, u 64, u 65, u 66, u 67, u 68, u 69, u 70, u 71, u 72, u 73, u 74, u 75, u 76, u 77, u 78, u 79, u 80, u 81, u 82, u 83, u 84, u 85, u 86, u 87, u 88, u 89, u 90, u 91, u 92, u 93, u 94, u 95, u 96, u 97, u 98, u 99, u 100, u 101, u 102, u 103, u 104, u 105, u 106, u 107, u 108, u 109, u 110, u 111, u 112, u 113, u 114, u 115, u 116, u 117, u 118, u 119, u 120, u 121, u 122, u 123, u 124, u 125, u 126, u 127, u 128, u 129, u 130, u 131, u 132, u 133, u 134, u 135, u 136, u 137, u 138, u 139, u 140, u 141, u 142, u 143, u 144, u 145, u 146, u 147, u 148, u 149, u 150, u 151, u 152, u 153, u 154, u 155, u 156, u 157, u 158, u 159, u 160, u 161], defers := [] } [.code (.seq (.seq (.region 9 reg37_9 false) (.cond (.tmp 28 ) (.skip) (.exit 0))) (.seq (.block 1 (.seq (.region 11 reg37_11 false) (.seq (.seq (.region 12 reg37_12 false) (.cond (.tmp 37 ) (.region 13 reg37_13 false) (.skip))) (.seq (.region 14 reg37_14 false) (.region 15 reg37_15 false))))) (.region 10 reg37_10 false))), .inLoop (.seq (.seq (.region 9 reg37_9 false) (.cond (.tmp 28 ) (.skip) (.exit 0))) (.seq (.block 1 (.seq (.region 11 reg37_11 false) (.seq (.seq (.region 12 reg37_12 false) (.cond (.tmp 37 ) (.region 13 reg37_13 false) (.skip))) (.seq (.region 14 reg37_14 false) (.region 15 reg37_15 false))))) (.region 10 reg37_10 false))), .inBlock 0, .code (.seq (.region 16 reg37_16 false) (.seq (.seq (.region 17 reg37_17 false) (.block 2 (.loop (.seq (.seq (.region 18 reg37_18 false) (.cond (.tmp 64 ) (.skip) (.exit 2))) (.seq (.block 3 (.seq (.region 20 reg37_20 false) (.seq (.region 21 reg37_21 false) (.cond (.tmp 88 ) (.seq (.region 22 reg37_22 false) (.seq (.region 23 reg37_23 false) (.region 24 reg37_24 false))) (.skip))))) (.region 19 reg37_19 false)))))) (.seq (.block 4 (.loop (.seq (.seq (.region 25 reg37_25 false) (.cond (.tmp 106 ) (.skip) (.exit 4))) (.block 5 (.seq (.region 26 reg37_26 false) (.block 6 (.loop (.seq (.seq (.region 27 reg37_27 false) (.cond (.tmp 115 ) (.skip) (.exit 6))) (.seq (.block 7 (.seq (.region 29 reg37_29 false) (.cond (.tmp 126 ) (.seq (.region 30 reg37_30 false) (.seq (.region 31 reg37_31 false) (.region 32 reg37_32 false))) (.skip)))) (.region 28 reg37_28 false)))))))))) (.seq (.region 33 reg37_33 false) (.seq (.seq (.region 34 reg37_34 false) (.block 8 (.loop (.seq (.seq (.region 35 reg37_35 false) (.cond (.tmp 145 ) (.skip) (.exit 8))) (.seq (.block 9 (.region 37 reg37_37 true)) (.region 36 reg37_36 false)))))) (.seq (.region 38 reg37_38 false) (.ret)))))))]
noncomputable def hdRun1 (M : Nat) (sv : Value) (mo : Int) (R n : Nat) (ov : Value) (k : Nat) (u : Nat -> Value) : Frame :=
 (base 37).at { tmps := #[.pointer (some ⟨M, 0, none⟩), u 1, sv, .int .i64 mo, u 4, u 5, u 6, u 7, .pointer (some ⟨R, 0, none⟩), .int .i64 n, u 10, u 11, ov, .int .i64 k, u 14, u 15, u 16, u 17, u 18, u 19, u 20, u 21, u 22, u 23, u 24, u 25, u 26, u 27, u 28, u 29, u 30, u 31, u 32, u 33, u 34, u 35, u 36, u 37, u 38, u 39, u 40, u 41, u 42, u 43, u 44, u 45, u 46, u 47, u 48, u 49, u 50, u 51, u 52, u 53, u 54, u 55, u 56, u 57, u 58, u 59, u 60, u 61, u 62, u 63, u 64, u 65, u 66, u 67, u 68, u 69, u 70, u 71, u 72, u 73, u 74, u 75, u 76, u 77, u 78, u 79, u 80, u 81, u 82, u 83, u 84, u 85, u 86, u 87, u 88, u 89, u 90, u 91, u 92, u 93, u 94, u 95, u 96, u 97, u 98, u 99, u 100, u 101, u 102, u 103, u 104, u 105, u 106, u 107, u 108, u 109, u 110, u 111, u 112, u 113, u 114, u 115, u 116, u 117, u 118, u 119, u 120, u 121, u 122, u 123, u 124, u 125, u 126, u 127, u 128, u 129, u 130, u 131, u 132, u 133, u 134, u 135, u 136, u 137, u 138, u 139, u 140, u 141, u 142, u 143, u 144, u 145, u 146, u 147, u 148, u 149, u 150, u 151, u 152, u 153, u 154, u 155, u 156, u 157, u 158, u 159, u 160, u 161], defers := [] } [.code (.seq (.seq (.region 18 reg37_18 false) (.cond (.tmp 64 ) (.skip) (.exit 2))) (.seq (.block 3 (.seq (.region 20 reg37_20 false) (.seq (.region 21 reg37_21 false) (.cond (.tmp 88 ) (.seq (.region 22 reg37_22 false) (.seq (.region 23 reg37_23 false) (.region 24 reg37_24 false))) (.skip))))) (.region 19 reg37_19 false))), .inLoop (.seq (.seq (.region 18 reg37_18 false) (.cond (.tmp 64 ) (.skip) (.exit 2))) (.seq (.block 3 (.seq (.region 20 reg37_20 false) (.seq (.region 21 reg37_21 false) (.cond (.tmp 88 ) (.seq (.region 22 reg37_22 false) (.seq (.region 23 reg37_23 false) (.region 24 reg37_24 false))) (.skip))))) (.region 19 reg37_19 false))), .inBlock 2, .code (.seq (.block 4 (.loop (.seq (.seq (.region 25 reg37_25 false) (.cond (.tmp 106 ) (.skip) (.exit 4))) (.block 5 (.seq (.region 26 reg37_26 false) (.block 6 (.loop (.seq (.seq (.region 27 reg37_27 false) (.cond (.tmp 115 ) (.skip) (.exit 6))) (.seq (.block 7 (.seq (.region 29 reg37_29 false) (.cond (.tmp 126 ) (.seq (.region 30 reg37_30 false) (.seq (.region 31 reg37_31 false) (.region 32 reg37_32 false))) (.skip)))) (.region 28 reg37_28 false)))))))))) (.seq (.region 33 reg37_33 false) (.seq (.seq (.region 34 reg37_34 false) (.block 8 (.loop (.seq (.seq (.region 35 reg37_35 false) (.cond (.tmp 145 ) (.skip) (.exit 8))) (.seq (.block 9 (.region 37 reg37_37 true)) (.region 36 reg37_36 false)))))) (.seq (.region 38 reg37_38 false) (.ret)))))]
noncomputable def hdRun2 (M : Nat) (mo : Int) (R n : Nat) (ov : Value) (u : Nat -> Value) : Frame :=
 (base 37).at { tmps := #[.pointer (some ⟨M, 0, none⟩), u 1, u 2, .int .i64 mo, u 4, u 5, u 6, u 7, .pointer (some ⟨R, 0, none⟩), .int .i64 n, u 10, u 11, ov, u 13, u 14, u 15, u 16, u 17, u 18, u 19, u 20, u 21, u 22, u 23, u 24, u 25, u 26, u 27, u 28, u 29, u 30, u 31, u 32, u 33, u 34, u 35, u 36, u 37, u 38, u 39, u 40, u 41, u 42, u 43, u 44, u 45, u 46, u 47, u 48, u 49, u 50, u 51, u 52, u 53, u 54, u 55, u 56, u 57, u 58, u 59, u 60, u 61, u 62, u 63, u 64, u 65, u 66, u 67, u 68, u 69, u 70, u 71, u 72, u 73, u 74, u 75, u 76, u 77, u 78, u 79, u 80, u 81, u 82, u 83, u 84, u 85, u 86, u 87, u 88, u 89, u 90, u 91, u 92, u 93, u 94, u 95, u 96, u 97, u 98, u 99, u 100, u 101, u 102, u 103, u 104, u 105, u 106, u 107, u 108, u 109, u 110, u 111, u 112, u 113, u 114, u 115, u 116, u 117, u 118, u 119, u 120, u 121, u 122, u 123, u 124, u 125, u 126, u 127, u 128, u 129, u 130, u 131, u 132, u 133, u 134, u 135, u 136, u 137, u 138, u 139, u 140, u 141, u 142, u 143, u 144, u 145, u 146, u 147, u 148, u 149, u 150, u 151, u 152, u 153, u 154, u 155, u 156, u 157, u 158, u 159, u 160, u 161], defers := [] } [.code (.seq (.seq (.region 25 reg37_25 false) (.cond (.tmp 106 ) (.skip) (.exit 4))) (.block 5 (.seq (.region 26 reg37_26 false) (.block 6 (.loop (.seq (.seq (.region 27 reg37_27 false) (.cond (.tmp 115 ) (.skip) (.exit 6))) (.seq (.block 7 (.seq (.region 29 reg37_29 false) (.cond (.tmp 126 ) (.seq (.region 30 reg37_30 false) (.seq (.region 31 reg37_31 false) (.region 32 reg37_32 false))) (.skip)))) (.region 28 reg37_28 false)))))))), .inLoop (.seq (.seq (.region 25 reg37_25 false) (.cond (.tmp 106 ) (.skip) (.exit 4))) (.block 5 (.seq (.region 26 reg37_26 false) (.block 6 (.loop (.seq (.seq (.region 27 reg37_27 false) (.cond (.tmp 115 ) (.skip) (.exit 6))) (.seq (.block 7 (.seq (.region 29 reg37_29 false) (.cond (.tmp 126 ) (.seq (.region 30 reg37_30 false) (.seq (.region 31 reg37_31 false) (.region 32 reg37_32 false))) (.skip)))) (.region 28 reg37_28 false)))))))), .inBlock 4, .code (.seq (.region 33 reg37_33 false) (.seq (.seq (.region 34 reg37_34 false) (.block 8 (.loop (.seq (.seq (.region 35 reg37_35 false) (.cond (.tmp 145 ) (.skip) (.exit 8))) (.seq (.block 9 (.region 37 reg37_37 true)) (.region 36 reg37_36 false)))))) (.seq (.region 38 reg37_38 false) (.ret))))]
noncomputable def hdRun3 (M : Nat) (mo : Int) (R n : Nat) (ov : Value) (i : Nat) (u : Nat -> Value) : Frame :=
 (base 37).at { tmps := #[.pointer (some ⟨M, 0, none⟩), u 1, u 2, .int .i64 mo, u 4, u 5, u 6, u 7, .pointer (some ⟨R, 0, none⟩), .int .i64 n, u 10, u 11, ov, u 13, u 14, .int .i64 i, u 16, u 17, u 18, u 19, u 20, u 21, u 22, u 23, u 24, u 25, u 26, u 27, u 28, u 29, u 30, u 31, u 32, u 33, u 34, u 35, u 36, u 37, u 38, u 39, u 40, u 41, u 42, u 43, u 44, u 45, u 46, u 47, u 48, u 49, u 50, u 51, u 52, u 53, u 54, u 55, u 56, u 57, u 58, u 59, u 60, u 61, u 62, u 63, u 64, u 65, u 66, u 67, u 68, u 69, u 70, u 71, u 72, u 73, u 74, u 75, u 76, u 77, u 78, u 79, u 80, u 81, u 82, u 83, u 84, u 85, u 86, u 87, u 88, u 89, u 90, u 91, u 92, u 93, u 94, u 95, u 96, u 97, u 98, u 99, u 100, u 101, u 102, u 103, u 104, u 105, u 106, u 107, u 108, u 109, u 110, u 111, u 112, u 113, u 114, u 115, u 116, u 117, u 118, u 119, u 120, u 121, u 122, u 123, u 124, u 125, u 126, u 127, u 128, u 129, u 130, u 131, u 132, u 133, u 134, u 135, u 136, u 137, u 138, u 139, u 140, u 141, u 142, u 143, u 144, u 145, u 146, u 147, u 148, u 149, u 150, u 151, u 152, u 153, u 154, u 155, u 156, u 157, u 158, u 159, u 160, u 161], defers := [] } [.code (.seq (.seq (.region 27 reg37_27 false) (.cond (.tmp 115 ) (.skip) (.exit 6))) (.seq (.block 7 (.seq (.region 29 reg37_29 false) (.cond (.tmp 126 ) (.seq (.region 30 reg37_30 false) (.seq (.region 31 reg37_31 false) (.region 32 reg37_32 false))) (.skip)))) (.region 28 reg37_28 false))), .inLoop (.seq (.seq (.region 27 reg37_27 false) (.cond (.tmp 115 ) (.skip) (.exit 6))) (.seq (.block 7 (.seq (.region 29 reg37_29 false) (.cond (.tmp 126 ) (.seq (.region 30 reg37_30 false) (.seq (.region 31 reg37_31 false) (.region 32 reg37_32 false))) (.skip)))) (.region 28 reg37_28 false))), .inBlock 6, .inBlock 5, .inLoop (.seq (.seq (.region 25 reg37_25 false) (.cond (.tmp 106 ) (.skip) (.exit 4))) (.block 5 (.seq (.region 26 reg37_26 false) (.block 6 (.loop (.seq (.seq (.region 27 reg37_27 false) (.cond (.tmp 115 ) (.skip) (.exit 6))) (.seq (.block 7 (.seq (.region 29 reg37_29 false) (.cond (.tmp 126 ) (.seq (.region 30 reg37_30 false) (.seq (.region 31 reg37_31 false) (.region 32 reg37_32 false))) (.skip)))) (.region 28 reg37_28 false)))))))), .inBlock 4, .code (.seq (.region 33 reg37_33 false) (.seq (.seq (.region 34 reg37_34 false) (.block 8 (.loop (.seq (.seq (.region 35 reg37_35 false) (.cond (.tmp 145 ) (.skip) (.exit 8))) (.seq (.block 9 (.region 37 reg37_37 true)) (.region 36 reg37_36 false)))))) (.seq (.region 38 reg37_38 false) (.ret))))]
noncomputable def hdRun4 (M R n Q i : Nat) (u : Nat -> Value) : Frame :=
 (base 37).at { tmps := #[.pointer (some ⟨M, 0, none⟩), u 1, u 2, u 3, u 4, u 5, u 6, u 7, .pointer (some ⟨R, 0, none⟩), .int .i64 n, u 10, u 11, u 12, u 13, u 14, u 15, .pointer (some ⟨Q, 0, none⟩), .int .i64 i, u 18, u 19, u 20, u 21, u 22, u 23, u 24, u 25, u 26, u 27, u 28, u 29, u 30, u 31, u 32, u 33, u 34, u 35, u 36, u 37, u 38, u 39, u 40, u 41, u 42, u 43, u 44, u 45, u 46, u 47, u 48, u 49, u 50, u 51, u 52, u 53, u 54, u 55, u 56, u 57, u 58, u 59, u 60, u 61, u 62, u 63, u 64, u 65, u 66, u 67, u 68, u 69, u 70, u 71, u 72, u 73, u 74, u 75, u 76, u 77, u 78, u 79, u 80, u 81, u 82, u 83, u 84, u 85, u 86, u 87, u 88, u 89, u 90, u 91, u 92, u 93, u 94, u 95, u 96, u 97, u 98, u 99, u 100, u 101, u 102, u 103, u 104, u 105, u 106, u 107, u 108, u 109, u 110, u 111, u 112, u 113, u 114, u 115, u 116, u 117, u 118, u 119, u 120, u 121, u 122, u 123, u 124, u 125, u 126, u 127, u 128, u 129, u 130, u 131, u 132, u 133, u 134, u 135, u 136, u 137, u 138, u 139, u 140, u 141, u 142, u 143, u 144, u 145, u 146, u 147, u 148, u 149, u 150, u 151, u 152, u 153, u 154, u 155, u 156, u 157, u 158, u 159, u 160, u 161], defers := [] } [.code (.seq (.seq (.region 35 reg37_35 false) (.cond (.tmp 145 ) (.skip) (.exit 8))) (.seq (.block 9 (.region 37 reg37_37 true)) (.region 36 reg37_36 false))), .inLoop (.seq (.seq (.region 35 reg37_35 false) (.cond (.tmp 145 ) (.skip) (.exit 8))) (.seq (.block 9 (.region 37 reg37_37 true)) (.region 36 reg37_36 false))), .inBlock 8, .code (.seq (.region 38 reg37_38 false) (.ret))]
section
variable {main : Bool}
theorem run_in_le_neg (M : Nat) (ta : Option Addr) (n0 tc : Nat) (sv : Value) (most : Int) (h0 : n0 <= 64) (h1 : most < 0) (cs : List Frame) (w : World) :
  Walk Try.prog main (DR (fun _ => none)) (fun g w' => (∃ u, g = G (hdRun0 M (.slice ta n0 tc) sv 0 w.heap.size n0 0 u) cs) /\ ∃ d, w' = (w.alloc Fq).at d) (G (Frame.enter Try.prog 37 #[.pointer (some ⟨M, 0, none⟩), .slice ta n0 tc, sv, .int .i64 most] .normal) cs) w := by
 have a1 : decide ((64 : Int) < n0) = false := by simp; omega
 have a2 : decide (64 < n0) = false := by simp; omega
 have b1 : decide (most < 0) = true := by simp; omega
 rw [enter_at _ Try.func37 code37_is]
 simp only [Try.ntmps37, ez, Nat.reduceAdd, Nat.reduceSub]
 refine Aa z37 ?_
 (refine Walk.oa ?_; try walk_nrm)
 have e1 : w.alloc (.cells #[.slice none 0 0, .slice none 0 0, .slice none 0 0, .bool false] 31) = w.alloc Fq := rfl
 try rw [e1]
 clear e1
 generalize hw1 : w.alloc Fq = w1
 generalize w.heap.size = R
 refine Aa z37 ?_
 refine Walk.ctl rfl (fun w => stepG_loop) ?_
 refine .stop fun d => ⟨Am ?_, d, rfl⟩
 simp only [hdRun0]
 rfl
theorem run_in_le_big (M : Nat) (ta : Option Addr) (n0 tc : Nat) (sv : Value) (most : Int) (h0 : n0 <= 64) (h1 : 1048576 < most) (cs : List Frame) (w : World) :
  Walk Try.prog main (DR (fun _ => none)) (fun g w' => (∃ u, g = G (hdRun0 M (.slice ta n0 tc) sv 1048576 w.heap.size n0 0 u) cs) /\ ∃ d, w' = (w.alloc Fq).at d) (G (Frame.enter Try.prog 37 #[.pointer (some ⟨M, 0, none⟩), .slice ta n0 tc, sv, .int .i64 most] .normal) cs) w := by
 have a1 : decide ((64 : Int) < n0) = false := by simp; omega
 have a2 : decide (64 < n0) = false := by simp; omega
 have b1 : decide (most < 0) = false := by simp; omega
 have b2 : decide ((1048576 : Int) < most) = true := by simp; omega
 rw [enter_at _ Try.func37 code37_is]
 simp only [Try.ntmps37, ez, Nat.reduceAdd, Nat.reduceSub]
 refine Aa z37 ?_
 (refine Walk.oa ?_; try walk_nrm)
 have e1 : w.alloc (.cells #[.slice none 0 0, .slice none 0 0, .slice none 0 0, .bool false] 31) = w.alloc Fq := rfl
 try rw [e1]
 clear e1
 generalize hw1 : w.alloc Fq = w1
 generalize w.heap.size = R
 refine Aa z37 ?_
 refine Walk.ctl rfl (fun w => stepG_loop) ?_
 refine .stop fun d => ⟨Am ?_, d, rfl⟩
 simp only [hdRun0]
 rfl
theorem run_in_le_mid (M : Nat) (ta : Option Addr) (n0 tc : Nat) (sv : Value) (most : Int) (h0 : n0 <= 64) (h1 : 0 <= most) (h2 : most <= 1048576) (cs : List Frame) (w : World) :
  Walk Try.prog main (DR (fun _ => none)) (fun g w' => (∃ u, g = G (hdRun0 M (.slice ta n0 tc) sv most w.heap.size n0 0 u) cs) /\ ∃ d, w' = (w.alloc Fq).at d) (G (Frame.enter Try.prog 37 #[.pointer (some ⟨M, 0, none⟩), .slice ta n0 tc, sv, .int .i64 most] .normal) cs) w := by
 have a1 : decide ((64 : Int) < n0) = false := by simp; omega
 have a2 : decide (64 < n0) = false := by simp; omega
 have b1 : decide (most < 0) = false := by simp; omega
 have b2 : decide ((1048576 : Int) < most) = false := by simp; omega
 rw [enter_at _ Try.func37 code37_is]
 simp only [Try.ntmps37, ez, Nat.reduceAdd, Nat.reduceSub]
 refine Aa z37 ?_
 (refine Walk.oa ?_; try walk_nrm)
 have e1 : w.alloc (.cells #[.slice none 0 0, .slice none 0 0, .slice none 0 0, .bool false] 31) = w.alloc Fq := rfl
 try rw [e1]
 clear e1
 generalize hw1 : w.alloc Fq = w1
 generalize w.heap.size = R
 refine Aa z37 ?_
 refine Walk.ctl rfl (fun w => stepG_loop) ?_
 refine .stop fun d => ⟨Am ?_, d, rfl⟩
 simp only [hdRun0]
 rfl
theorem run_in_gt_neg (M : Nat) (ta : Option Addr) (n0 tc : Nat) (sv : Value) (most : Int) (h0 : 64 < n0) (h1 : most < 0) (cs : List Frame) (w : World) :
  Walk Try.prog main (DR (fun _ => none)) (fun g w' => (∃ u, g = G (hdRun0 M (.slice ta n0 tc) sv 0 w.heap.size 64 0 u) cs) /\ ∃ d, w' = (w.alloc Fq).at d) (G (Frame.enter Try.prog 37 #[.pointer (some ⟨M, 0, none⟩), .slice ta n0 tc, sv, .int .i64 most] .normal) cs) w := by
 have a1 : decide ((64 : Int) < n0) = true := by simp; omega
 have a2 : decide (64 < n0) = true := by simp; omega
 have b1 : decide (most < 0) = true := by simp; omega
 rw [enter_at _ Try.func37 code37_is]
 simp only [Try.ntmps37, ez, Nat.reduceAdd, Nat.reduceSub]
 refine Aa z37 ?_
 (refine Walk.oa ?_; try walk_nrm)
 have e1 : w.alloc (.cells #[.slice none 0 0, .slice none 0 0, .slice none 0 0, .bool false] 31) = w.alloc Fq := rfl
 try rw [e1]
 clear e1
 generalize hw1 : w.alloc Fq = w1
 generalize w.heap.size = R
 refine Aa z37 ?_
 refine Walk.ctl rfl (fun w => stepG_loop) ?_
 refine .stop fun d => ⟨Am ?_, d, rfl⟩
 simp only [hdRun0]
 rfl
theorem run_in_gt_big (M : Nat) (ta : Option Addr) (n0 tc : Nat) (sv : Value) (most : Int) (h0 : 64 < n0) (h1 : 1048576 < most) (cs : List Frame) (w : World) :
  Walk Try.prog main (DR (fun _ => none)) (fun g w' => (∃ u, g = G (hdRun0 M (.slice ta n0 tc) sv 1048576 w.heap.size 64 0 u) cs) /\ ∃ d, w' = (w.alloc Fq).at d) (G (Frame.enter Try.prog 37 #[.pointer (some ⟨M, 0, none⟩), .slice ta n0 tc, sv, .int .i64 most] .normal) cs) w := by
 have a1 : decide ((64 : Int) < n0) = true := by simp; omega
 have a2 : decide (64 < n0) = true := by simp; omega
 have b1 : decide (most < 0) = false := by simp; omega
 have b2 : decide ((1048576 : Int) < most) = true := by simp; omega
 rw [enter_at _ Try.func37 code37_is]
 simp only [Try.ntmps37, ez, Nat.reduceAdd, Nat.reduceSub]
 refine Aa z37 ?_
 (refine Walk.oa ?_; try walk_nrm)
 have e1 : w.alloc (.cells #[.slice none 0 0, .slice none 0 0, .slice none 0 0, .bool false] 31) = w.alloc Fq := rfl
 try rw [e1]
 clear e1
 generalize hw1 : w.alloc Fq = w1
 generalize w.heap.size = R
 refine Aa z37 ?_
 refine Walk.ctl rfl (fun w => stepG_loop) ?_
 refine .stop fun d => ⟨Am ?_, d, rfl⟩
 simp only [hdRun0]
 rfl
theorem run_in_gt_mid (M : Nat) (ta : Option Addr) (n0 tc : Nat) (sv : Value) (most : Int) (h0 : 64 < n0) (h1 : 0 <= most) (h2 : most <= 1048576) (cs : List Frame) (w : World) :
  Walk Try.prog main (DR (fun _ => none)) (fun g w' => (∃ u, g = G (hdRun0 M (.slice ta n0 tc) sv most w.heap.size 64 0 u) cs) /\ ∃ d, w' = (w.alloc Fq).at d) (G (Frame.enter Try.prog 37 #[.pointer (some ⟨M, 0, none⟩), .slice ta n0 tc, sv, .int .i64 most] .normal) cs) w := by
 have a1 : decide ((64 : Int) < n0) = true := by simp; omega
 have a2 : decide (64 < n0) = true := by simp; omega
 have b1 : decide (most < 0) = false := by simp; omega
 have b2 : decide ((1048576 : Int) < most) = false := by simp; omega
 rw [enter_at _ Try.func37 code37_is]
 simp only [Try.ntmps37, ez, Nat.reduceAdd, Nat.reduceSub]
 refine Aa z37 ?_
 (refine Walk.oa ?_; try walk_nrm)
 have e1 : w.alloc (.cells #[.slice none 0 0, .slice none 0 0, .slice none 0 0, .bool false] 31) = w.alloc Fq := rfl
 try rw [e1]
 clear e1
 generalize hw1 : w.alloc Fq = w1
 generalize w.heap.size = R
 refine Aa z37 ?_
 refine Walk.ctl rfl (fun w => stepG_loop) ?_
 refine .stop fun d => ⟨Am ?_, d, rfl⟩
 simp only [hdRun0]
 rfl
theorem into_run (M : Nat) (ta : Option Addr) (n0 tc : Nat) (sv : Value) (most : Int) (cs : List Frame) (w : World) :
  Walk Try.prog main (DR (fun _ => none)) (fun g w' => (∃ u, g = G (hdRun0 M (.slice ta n0 tc) sv (min (max most 0) 1048576) w.heap.size (min n0 64) 0 u) cs) /\ ∃ d, w' = (w.alloc Fq).at d) (G (Frame.enter Try.prog 37 #[.pointer (some ⟨M, 0, none⟩), .slice ta n0 tc, sv, .int .i64 most] .normal) cs) w := by
 by_cases h0 : n0 <= 64
 ·rw [show min n0 64 = n0 by omega]
  by_cases h1 : most < 0
  ·rw [show min (max most 0) 1048576 = 0 by omega]; exact run_in_le_neg M ta n0 tc sv most h0 h1 cs w
  ·by_cases h2 : 1048576 < most
   ·rw [show min (max most 0) 1048576 = 1048576 by omega]; exact run_in_le_big M ta n0 tc sv most h0 h2 cs w
   ·rw [show min (max most 0) 1048576 = most by omega]; exact run_in_le_mid M ta n0 tc sv most h0 (by omega) (by omega) cs w
 ·rw [show min n0 64 = 64 by omega]
  by_cases h1 : most < 0
  ·rw [show min (max most 0) 1048576 = 0 by omega]; exact run_in_gt_neg M ta n0 tc sv most (by omega) h1 cs w
  ·by_cases h2 : 1048576 < most
   ·rw [show min (max most 0) 1048576 = 1048576 by omega]; exact run_in_gt_big M ta n0 tc sv most (by omega) h2 cs w
   ·rw [show min (max most 0) 1048576 = most by omega]; exact run_in_gt_mid M ta n0 tc sv most (by omega) (by omega) (by omega) cs w
end
end
end Go.Proofs.Ytjenoiekfkhafaa
