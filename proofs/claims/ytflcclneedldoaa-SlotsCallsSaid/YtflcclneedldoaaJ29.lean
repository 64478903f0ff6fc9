/- Part 29. -/
import Derived.Test.YtflcclneedldoaaJ3
import Derived.Test.YtflcclneedldoaaJ15
import Derived.Test.YtflcclneedldoaaJ16
import Derived.Test.YtflcclneedldoaaJ28
set_option linter.unusedSimpArgs false
set_option linter.unusedVariables false
set_option maxHeartbeats 8000000
set_option maxRecDepth 100000
namespace Go.Proofs.Ytflcclneedldoaa
open Go.Conc Go.RowKit Go.Relay Try
open Go.ConcN (upd upd_ne upd_same)
def Gy {A D X : Type} (act : A -> D -> A × (X ⊕ D)) : Nat -> A × (X ⊕ D) -> Option (A × X)
 | _, (s, .inl a) => some (s, a)
 | 0, (_, .inr _) => none
 | n + 1, (s, .inr d) => Gy act n (act s d)
theorem runN_F {L : La} : ∀ (N : Nat) (p : L.Sg × (Ans ⊕ L.D)), runN L N p = Gy L.act N p
 | 0, (_, .inl _) => rfl
 | 0, (_, .inr _) => rfl
 | _ + 1, (_, .inl _) => rfl
 | n + 1, (s, .inr d) => runN_F n (L.act s d)
theorem runF_mono {A D X : Type} (act : A -> D -> A × (X ⊕ D)) : ∀ (N : Nat) (p : A × (X ⊕ D)) (R : A × X), Gy act N p = some R -> ∀ M, N <= M -> Gy act M p = some R
 | 0, (_, .inl _), _, h, 0, _ => h
 | 0, (_, .inl _), _, h, _ + 1, _ => h
 | 0, (_, .inr _), _, h, _, _ => by cases h
 | _ + 1, (_, .inl _), _, h, 0, _ => h
 | _ + 1, (_, .inl _), _, h, _ + 1, _ => h
 | n + 1, (_, .inr _), _, _, 0, hM => absurd hM (Nat.not_succ_le_zero n)
 | n + 1, (s, .inr d), R, h, M + 1, hM => runF_mono act n (act s d) R h M (Nat.le_of_succ_le_succ hM)
def Gv {A D X : Type} (act : A -> D -> A × (X ⊕ D)) : Nat -> A × (X ⊕ D) -> Nat
 | _, (_, .inl _) => 0
 | 0, (_, .inr _) => 0
 | n + 1, (s, .inr d) => Gv act n (act s d) + 1
theorem stepsF_le {A D X : Type} (act : A -> D -> A × (X ⊕ D)) : ∀ (N : Nat) (p : A × (X ⊕ D)), Gv act N p <= N
 | 0, (_, .inl _) => Nat.le_refl _
 | 0, (_, .inr _) => Nat.le_refl _
 | n + 1, (_, .inl _) => Nat.zero_le _
 | n + 1, (s, .inr d) => Nat.succ_le_succ (stepsF_le act n (act s d))
theorem lonC_F {L : La} : ∀ {N c : Nat} {p : L.Sg × (Ans ⊕ L.D)} {s1 : L.Sg} {a : Ans}, Gy L.act N p = some (s1, a) -> Ic L N c p = some (c + Gv L.act N p, s1, a) := by
 intro N
 induction N with
 | zero =>
  rintro c ⟨s, r⟩ s1 a h
  cases r with
  | inl x => simp [Gy] at h; simp [Ic, Gv, h]
  | inr d => simp [Gy] at h
 | succ N ih =>
  rintro c ⟨s, r⟩ s1 a h
  cases r with
  | inl x => simp [Gy] at h; simp [Ic, Gv, h]
  | inr d =>
   have h1 := ih (c := c + 1) (p := L.act s d) h
   show Ic L N (c + 1) (L.act s d) = some (c + (Gv L.act N (L.act s d) + 1), s1, a)
   rw [h1, show c + 1 + Gv L.act N (L.act s d) = c + (Gv L.act N (L.act s d) + 1) by omega]
section
variable {n : Nat}
theorem ends_h (s : Rg) (l : Int) : ∀ (r : Nat) (q : Int), (l - q).toNat <= r -> ∃ R, Gy (Bd n) (r + 1) (s, .inr (.h q l)) = some R
 | r, q, h => by
  show ∃ R, Gy (Bd n) r (s, if s.st (Bl n q) = Bx n q then (if q < l then .inr (.h (q + 1) l) else .inl ⟨true, l, []⟩) else .inl ⟨true, q - 1, []⟩) = some R
  by_cases h1 : s.st (Bl n q) = Bx n q
  ·rw [if_pos h1]
   by_cases h2 : q < l
   ·rw [if_pos h2]
    obtain ⟨r', rfl⟩ : ∃ r', r = r' + 1 := ⟨r - 1, by omega⟩
    exact ends_h s l r' (q + 1) (by omega)
   ·rw [if_neg h2]
    exact ⟨_, by cases r <;> rfl⟩
  ·rw [if_neg h1]
   exact ⟨_, by cases r <;> rfl⟩
theorem ends_a (s : Rg) (m : Int) : ∀ (r : Nat) (q : Int) (l : List Int), (m - l.length).toNat <= r -> 1 <= r -> ∃ R, Gy (Bd n) (3 * r) (s, .inr (.a1 q m l)) = some R
 | 0, _, _, _, h => absurd h (by decide)
 | r + 1, q, l, h, _ => by
  show ∃ R, Gy (Bd n) (3 * r + 2) (s, if s.st (Bl n q) < Bx n q then .inl (Gg l 6) else if Bx n q < s.st (Bl n q) then .inl (Gg l 10) else .inr (.a2 q m l)) = some R
  by_cases h1 : s.st (Bl n q) < Bx n q
  ·rw [if_pos h1]
   exact ⟨_, rfl⟩
  rw [if_neg h1]
  by_cases h2 : Bx n q < s.st (Bl n q)
  ·rw [if_pos h2]
   exact ⟨_, rfl⟩
  rw [if_neg h2]
  show ∃ R, Gy (Bd n) (3 * r) (s, if s.st (Bl n q) = Bx n q then (if ((l.length : Int) + 1 < m) /\ good (q + 1) then .inr (.a1 (q + 1) m (l ++ [s.va (Bl n q)])) else .inl ⟨true, 0, l ++ [s.va (Bl n q)]⟩) else .inl (Gg l 10)) = some R
  have hin : ∀ (N : Nat) (x : Ans), ∃ R, Gy (Bd n) N (s, .inl x) = some R := fun N x => ⟨(s, x), by cases N <;> rfl⟩
  by_cases h3 : s.st (Bl n q) = Bx n q
  ·rw [if_pos h3]
   by_cases h4 : ((l.length : Int) + 1 < m) /\ good (q + 1)
   ·rw [if_pos h4]
    exact ends_a s m r (q + 1) _ (by simp only [List.length_append, List.length_cons, List.length_nil]; omega) (by have := h4.1; omega)
   ·rw [if_neg h4]
    exact hin _ _
  ·rw [if_neg h3]
   exact hin _ _
theorem ends_all (s : Rg) (o : OpV) : ∃ R, Gy (Bd n) (3 * n + 3) (Bt n s 0 o) = some R := by
 have hin : ∀ (N : Nat) (x : Ans), ∃ R, Gy (Bd n) N (s, .inl x) = some R := fun N x => ⟨(s, x), by cases N <;> rfl⟩
 have up : ∀ {N : Nat} {p : Rg × (Ans ⊕ RD)}, (∃ R, Gy (Bd n) N p = some R) -> N <= 3 * n + 3 -> ∃ R, Gy (Bd n) (3 * n + 3) p = some R := fun {N p} ⟨R, h⟩ hN => ⟨R, runF_mono _ N p R h _ hN⟩
 have eN : 3 * n + 3 = 3 * n + 2 + 1 := rfl
 unfold Bt
 by_cases k1 : o.k = 1
 ·rw [if_pos k1]
  by_cases g : good o.a
  ·rw [if_pos g]
   exact up (N := 3) ⟨_, rfl⟩ (by omega)
  ·rw [if_neg g]; exact hin _ _
 rw [if_neg k1]
 by_cases k2 : o.k = 2
 ·rw [if_pos k2]
  by_cases g : good o.a
  ·rw [if_pos g]
   refine up (N := 3) ?_ (by omega)
   have h := run_get (rb := 0) (sb := 0) (n := n) s o.a
   rw [if_pos g] at h
   exact ⟨_, (runN_F (L := Br 0 0 n) 3 _).symm.trans h⟩
  ·rw [if_neg g]; exact hin _ _
 rw [if_neg k2]
 by_cases k3 : o.k = 3
 ·rw [if_pos k3]
  by_cases g : good o.a
  ·rw [if_pos g]
   exact up (N := 1) ⟨_, rfl⟩ (by omega)
  ·rw [if_neg g]; exact hin _ _
 rw [if_neg k3]
 by_cases k4 : o.k = 4
 ·rw [if_pos k4]
  by_cases e : o.a = -9223372036854775808
  ·rw [if_pos e]; exact hin _ _
  rw [if_neg e]
  by_cases g : good o.a /\ o.a <= o.b
  ·rw [if_pos g]
   exact up (N := n + 1) (ends_h s _ n o.a (by omega)) (by omega)
  ·rw [if_neg g]; exact hin _ _
 rw [if_neg k4]
 by_cases k5 : o.k = 5
 ·rw [if_pos k5]
  by_cases g : good o.a
  ·rw [if_pos g]
   by_cases hb : min o.b n <= 0
   ·rw [if_pos hb]; exact hin _ _
   ·rw [if_neg hb]
    exact up (N := 3 * (n + 1)) (ends_a s _ (n + 1) o.a [] (by simp only [List.length_nil]; omega) (by omega)) (by omega)
  ·rw [if_neg g]; exact hin _ _
 rw [if_neg k5]
 exact hin _ _
noncomputable def rgOne (n : Nat) (s : Rg) (o : OpV) : Rg × Ans := (ends_all (n := n) s o).choose
theorem Nj (s : Rg) (o : OpV) : Gy (Bd n) (3 * n + 3) (Bt n s 0 o) = some (rgOne n s o) := (ends_all (n := n) s o).choose_spec
def Lq (n : Nat) (s : Rg) (o : OpV) : Nat := Gv (Bd n) (3 * n + 3) (Bt n s 0 o)
theorem cntR_le (s : Rg) (o : OpV) : Lq n s o <= 3 * n + 3 := stepsF_le _ _ _
theorem rone_run (rb sb : Nat) (s : Rg) (o : OpV) : runN (Br rb sb n) (3 * n + 3) (Bt n s 0 o) = some (rgOne n s o) := (runN_F (L := Br rb sb n) _ _).trans (Nj s o)
theorem rone_lon (rb sb : Nat) (s : Rg) (o : OpV) (c : Nat) : Ic (Br rb sb n) (3 * n + 3) c (Bt n s 0 o) = some (c + Lq n s o, rgOne n s o) := lonC_F (L := Br rb sb n) (Nj s o)
noncomputable def prR (n : Nat) (s0 : Rg) (l : List OpV) (i : Nat) : Rg × Nat := (l.take i).foldl (fun p o => ((rgOne n p.1 o).1, p.2 + Lq n p.1 o)) (s0, 0)
theorem prR_zero (s0 : Rg) (l : List OpV) : prR n s0 l 0 = (s0, 0) := rfl
theorem Ns (s0 : Rg) (l : List OpV) (i : Nat) (o : OpV) (ho : l[i]? = some o) : prR n s0 l (i + 1) = ((rgOne n (prR n s0 l i).1 o).1, (prR n s0 l i).2 + Lq n (prR n s0 l i).1 o) := by
 obtain ⟨hi, e⟩ := lEs ho
 unfold prR
 rw [List.take_succ_eq_append_getElem hi, List.foldl_append, e]
 rfl
theorem prR_more (s0 : Rg) (l : List OpV) (i : Nat) (ho : l[i]? = none) : prR n s0 l (i + 1) = prR n s0 l i := by
 have hl := List.getElem?_eq_none_iff.1 ho
 unfold prR
 rw [List.take_of_length_le hl, List.take_of_length_le (by omega)]
theorem prR_le (s0 : Rg) (l : List OpV) : ∀ i, (prR n s0 l i).2 <= i * (3 * n + 3)
 | 0 => Nat.zero_le _
 | i + 1 => by
  have ih := prR_le s0 l i
  rw [Nat.add_mul, Nat.one_mul]
  cases ho : l[i]? with
  | none => rw [prR_more s0 l i ho]; omega
  | some o =>
   rw [Ns s0 l i o ho]
   have := cntR_le (n := n) (prR n s0 l i).1 o
   show (prR n s0 l i).2 + Lq n (prR n s0 l i).1 o <= _
   omega
noncomputable def anR (n : Nat) (s0 : Rg) (l : List OpV) (i : Nat) : Ans := match l[i]? with
 | some o => (rgOne n (prR n s0 l i).1 o).2
 | none => Qs
noncomputable def azR (n : Nat) (s0 : Rg) (l : List OpV) (i : Nat) : List Ans := (List.range i).map (anR n s0 l)
theorem azR_succ (s0 : Rg) (l : List OpV) (i : Nat) : azR n s0 l (i + 1) = azR n s0 l i ++ [anR n s0 l i] := by simp [azR, List.range_succ]
theorem azR_len (s0 : Rg) (l : List OpV) (i : Nat) : (azR n s0 l i).length = i := by simp [azR]
theorem azR_get (s0 : Rg) (l : List OpV) (m i : Nat) (hi : i < m) : (azR n s0 l m)[i]? = some (anR n s0 l i) := by simp [azR, hi]
theorem whole_R (hn : 0 < n) (s0 : Rg) (l : List OpV) : ∀ (r i : Nat), i + r = l.length -> Whole (Cr n) (3 * n + 3) (prR n s0 l i).2 (prR n s0 l i).1 (l.drop i) (azR n s0 l i) (prR n s0 l l.length).2 (prR n s0 l l.length).1 (azR n s0 l l.length)
 | 0, i, h => by
  have h : i = l.length := h
  rw [h, List.drop_length]
  exact .nil _ _ _
 | r + 1, i, h => by
  have hi : i < l.length := by omega
  have ho : l[i]? = some l[i] := List.getElem?_eq_getElem hi
  rw [List.drop_eq_getElem_cons hi]
  have ha : anR n s0 l i = (rgOne n (prR n s0 l i).1 l[i]).2 := by unfold anR; rw [ho]
  have h1 : Ic (Cr n) (3 * n + 3) (prR n s0 l i).2 (Hq n (prR n s0 l i).1 0 l[i]) = some ((prR n s0 l i).2 + Lq n (prR n s0 l i).1 l[i], rgOne n (prR n s0 l i).1 l[i]) := by
   have hF := Nj (n := n) (prR n s0 l i).1 l[i]
   unfold Lq
   rw [enter_same hn] at hF ⊢
   exact lonC_F (L := Cr n) hF
  have hp := Ns (n := n) s0 l i _ ho
  have hw := whole_R hn s0 l r (i + 1) (by omega)
  rw [azR_succ, ha] at hw
  rw [hp] at hw
  exact .cons h1 hw
theorem alone_R (hn : 0 < n) (s0 : Rg) (ops : Nat -> List OpV) (most : Int) (hs : Du 1 (Ca (Cr n) s0 ops 1 most []).1 = false) :
  (Ca (Cr n) s0 ops 1 most []).1.s = (prR n s0 (ops 0) (ops 0).length).1 /\ ((Ca (Cr n) s0 ops 1 most []).1.th 0).ans = azR n s0 (ops 0) (ops 0).length /\ (Ca (Cr n) s0 ops 1 most []).2.length = (prR n s0 (ops 0) (ops 0).length).2 :=
 play_alone most (whole_R hn s0 (ops 0) (ops 0).length 0 (by omega)) hs
end
structure LsN (base : Nat) (sl : Value) (ls : List Int) (w : World) : Prop where
 is : ∃ a c, sl = .slice a ls.length c
 row : w.ownsRow base 2 1 sl ls.length (ls.map fun z => .int .i64 z)
theorem LsN.far {base : Nat} {sl : Value} {ls : List Int} {w w' : World} (h : LsN base sl ls w) (hb : ∀ b x, base <= b -> w.heap[b]? = some (.cells x 2) -> w'.heap[b]? = w.heap[b]?) : LsN base sl ls w' :=
 ⟨h.is, h.row.1, h.row.2.imp id fun ⟨g, cap, cur, h1, h2, h3, h4⟩ => ⟨g, cap, cur, h1, h2, (hb g _ h2 h3).trans h3, h4⟩⟩
theorem LsN.low {base base' : Nat} {sl : Value} {ls : List Int} {w : World} (h : LsN base sl ls w) (hb : base' <= base) : LsN base' sl ls w := ⟨h.is, Pr h.row hb⟩
theorem LsN.slice {base : Nat} {sl : Value} {ls : List Int} {w : World} (h : LsN base sl ls w) : ∃ x y z, sl = .slice x y z := by
 obtain ⟨a, c, e⟩ := h.is
 exact ⟨_, _, _, e⟩
structure SoloC (rb sb n p : Nat) (s : Rg) (c : Nat) (w w' : World) : Prop where
 I : RgI rb sb n s w'
 cn : w'.heap[p]? = some (.cells #[.int .i64 (c : Nat)] 38)
 old : ∀ b, b < w.heap.size -> b ≠ rb -> b ≠ sb -> b ≠ p -> w'.heap[b]? = w.heap[b]?
 size : w.heap.size <= w'.heap.size
theorem Iw {n : Nat} (s : Rg) (th : Int) (o : OpV) : Bt n s th o = (s, (Bt n s 0 o).2) := by
 unfold Bt
 repeat' split
 all_goals rfl
theorem Nq {n : Nat} (s s' : Rg) (th : Int) (o : OpV) : (Bt n s th o).2 = (Bt n s' 0 o).2 := by
 unfold Bt
 repeat' split
 all_goals rfl
section
variable {rb sb n : Nat} {main : Bool} {V : Nat -> Option Wait} {s : Rg} {w : World}
def CaR (v : Value) (x : Ans) (w' : World) (P : Nat -> Prop) : Prop := ∃ sl, v = Bo x sl /\ (∃ a c, sl = .slice a x.l.length c) /\ w'.ownsRow 0 2 1 sl x.l.length (x.l.map fun z => .int .i64 z) /\ ∀ b, sl.ownBlock = some b -> P b
theorem CaR.lsN {v : Value} {x : Ans} {w' : World} {P : Nat -> Prop} (h : CaR v x w' P) (base : Nat) (hP : ∀ b, P b -> base <= b) : ∃ sl, v = Bo x sl /\ LsN base sl x.l w' := by
 obtain ⟨sl, rfl, h1, h2, h3⟩ := h
 exact ⟨sl, rfl, h1, Lc h2 fun g hg => hP g (h3 g hg)⟩
theorem lcall_w (hA : ∀ b, Az V b) (I : RgI rb sb n s w) (ok oa ob oc : Int) :
  CallP main V 18 #[.pointer (some ⟨rb, 0, none⟩), .nilIface, .agg #[.int .i64 ok, .int .i64 oa, .int .i64 ob, .int .i64 oc]] w (fun v w' => ∃ sl, v = Bo (rgOne n s ⟨ok, oa, ob, oc⟩).2 sl /\ LsN w.heap.size sl (rgOne n s ⟨ok, oa, ob, oc⟩).2.l w' /\ SolR rb sb n (rgOne n s ⟨ok, oa, ob, oc⟩).1 w w') := by
 refine (Fs (L := Br rb sb n) (Rel := CaR) (3 * n + 3) () s _ (fun _ _ _ _ _ h => h) hA I ((congrArg (runN (Br rb sb n) (3 * n + 3)) (Iw s 0 ⟨ok, oa, ob, oc⟩)).symm.trans (rone_run rb sb s ⟨ok, oa, ob, oc⟩)) (fun K e hw ht => (call_s K e 0 ok oa ob oc ?_).mono fun v e' ⟨a, sl, h1, h2, h3, h4⟩ => ⟨a, ⟨sl, h2, h3⟩, h1⟩)).mono ?_
 ·rw [ht, Iw (K.s e) 0, Nq (K.s e) s 0]
  rfl
 ·rintro v w' ⟨y, h, hL⟩
  obtain ⟨sl, h1, h2⟩ := h.lsN w.heap.size fun b hb => hb.1.1
  exact ⟨sl, h1, h2, SolR.of hL⟩
theorem lcallC_w (hA : ∀ b, Az V b) (I : RgI rb sb n s w) (p : Nat) (hp1 : p ≠ rb) (hp2 : p ≠ sb) (c : Nat) (hc : w.heap[p]? = some (.cells #[.int .i64 (c : Nat)] 38)) (hfew : c <= 9223372036854) (ok oa ob oc : Int) :
  CallP main V 18 #[.pointer (some ⟨rb, 0, none⟩), .iface 36 (.pointer (some ⟨p, 0, none⟩)), .agg #[.int .i64 ok, .int .i64 oa, .int .i64 ob, .int .i64 oc]] w (fun v w' => ∃ sl, v = Bo (rgOne n s ⟨ok, oa, ob, oc⟩).2 sl /\ LsN w.heap.size sl (rgOne n s ⟨ok, oa, ob, oc⟩).2.l w' /\ SoloC rb sb n p (rgOne n s ⟨ok, oa, ob, oc⟩).1 (c + Lq n s ⟨ok, oa, ob, oc⟩) w w') := by
 have hn := I.pos.2
 refine (CallP.cnt (L := Br rb sb n) (p := p) (R := (c + Lq n s ⟨ok, oa, ob, oc⟩, rgOne n s ⟨ok, oa, ob, oc⟩)) (Rel := CaR) (3 * n + 3) c () s _ (fun _ _ _ _ _ h => h) hA I (fun h => h.elim hp1 hp2) hc (by omega) ((congrArg (Ic (Br rb sb n) (3 * n + 3) c) (Iw s 0 ⟨ok, oa, ob, oc⟩)).symm.trans (rone_lon rb sb s ⟨ok, oa, ob, oc⟩ c)) (fun K e hw ht => (call_s K e 0 ok oa ob oc ?_).mono fun v e' ⟨a, sl, h1, h2, h3, h4⟩ => ⟨a, ⟨sl, h2, h3⟩, h1⟩)).mono ?_
 ·rw [ht, Iw (K.s e) 0, Nq (K.s e) s 0]
  rfl
 ·rintro v w' ⟨y, h, hL⟩
  obtain ⟨sl, h1, h2⟩ := h.lsN w.heap.size fun b hb => hb.1.1
  exact ⟨sl, h1, h2, ⟨hL.I, hL.cnt, fun b h1 h2 h3 h4 => hL.old b h1 (fun h => h.elim h2 h3) h4, hL.size⟩⟩
end
theorem Ol {dsts : List Nat} {vals : List Value} {f : Nat -> Bool} {u : Nat -> Value} (F : Facts dsts vals f u) {i : Nat} (hd : dsts[i]? = none) : Facts dsts vals (upd f i true) u := by
 intro j d v hf hj hv
 by_cases e : j = i
 ·rw [e, hd] at hj; cases hj
 ·rw [upd_ne _ _ e] at hf
  exact F j d v hf hj hv
theorem Dk {dsts : List Nat} {vals vals' : List Value} {f : Nat -> Bool} {u : Nat -> Value} (F : Facts dsts vals f u) {i : Nat} {x : Value} (hi : f i = false) (h : vals' = vals.set i x) : Facts dsts vals' f u := fun j d v hf hd hv => F j d v hf hd (by
 have hj : i ≠ j := fun e => by rw [<- e, hi] at hf; cases hf
 rw [h, List.getElem?_set_ne hj] at hv
 exact hv)
def ansB (a : Ans) (sl : Value) : Obj := .cells #[.bool a.ok, .int .i64 a.n, sl] 42
noncomputable def reg3_0 := rk f3.body 0
noncomputable def reg3_1 := rk f3.body 1
noncomputable def reg3_2 := rk f3.body 2
noncomputable def reg3_3 := rk f3.body 3
noncomputable def reg3_4 := rk f3.body 4
noncomputable def reg3_5 := rk f3.body 5
noncomputable def reg3_6 := rk f3.body 6
noncomputable def reg3_7 := rk f3.body 7
noncomputable def reg3_8 := rk f3.body 8
noncomputable def reg3_9 := rk f3.body 9
noncomputable def reg3_10 := rk f3.body 10
noncomputable def reg3_11 := rk f3.body 11
noncomputable def reg3_12 := rk f3.body 12
noncomputable def reg3_14 := rk f3.body 14
theorem size3_14 : reg3_14.size = 18 := by kernel_rfl
noncomputable def reg3_15 := rk f3.body 15
theorem size3_15 : reg3_15.size = 20 := by kernel_rfl
noncomputable def reg3_16 := rk f3.body 16
noncomputable def reg3_17 := rk f3.body 17
noncomputable def reg3_18 := rk f3.body 18
noncomputable def reg3_19 := rk f3.body 19
theorem size3_19 : reg3_19.size = 16 := by kernel_rfl
noncomputable def reg3_20 := rk f3.body 20
noncomputable def reg3_21 := rk f3.body 21
noncomputable def reg3_13 := rk f3.body 13
noncomputable def reg3_22 := rk f3.body 22
theorem size3_22 : reg3_22.size = 36 := by kernel_rfl
theorem z3 : reg3_0.size = 1 /\ reg3_1.size = 2 /\ reg3_2.size = 1 /\ reg3_3.size = 7 /\ reg3_4.size = 7 /\ reg3_5.size = 3 /\ reg3_6.size = 15 /\ reg3_7.size = 7 /\ reg3_8.size = 3 /\ reg3_9.size = 24 /\ reg3_10.size = 3 /\ reg3_11.size = 1 /\ reg3_12.size = 7 /\ reg3_13.size = 3 /\ reg3_14.size = 18 /\ reg3_15.size = 20 /\ reg3_16.size = 1 /\ reg3_17.size = 2 /\ reg3_18.size = 6 /\ reg3_19.size = 16 /\ reg3_20.size = 20 /\ reg3_21.size = 1 /\ reg3_22.size = 36 := by and_intros <;> kernel_rfl
theorem code3_is : f3.body = some (.seq (.region 0 reg3_0 false) (.seq (.seq (.region 1 reg3_1 false) (.cond (.tmp 17 ) (.seq (.region 2 reg3_2 false) (.ret)) (.skip))) (.seq (.region 3 reg3_3 false) (.seq (.region 4 reg3_4 false) (.seq (.seq (.region 5 reg3_5 false) (.cond (.tmp 30 ) (.seq (.region 6 reg3_6 false) (.ret)) (.skip))) (.seq (.region 7 reg3_7 false) (.seq (.region 8 reg3_8 false) (.seq (.seq (.region 9 reg3_9 false) (.cond (.tmp 75 ) (.seq (.region 10 reg3_10 false) (.ret)) (.skip))) (.seq (.seq (.region 11 reg3_11 false) (.block 0 (.loop (.seq (.seq (.region 12 reg3_12 false) (.cond (.tmp 84 ) (.skip) (.exit 0))) (.seq (.block 1 (.seq (.region 14 reg3_14 true) (.seq (.seq (.region 15 reg3_15 true) (.cond (.tmp 120 ) (.seq (.region 16 reg3_16 false) (.ret)) (.skip))) (.seq (.region 17 reg3_17 false) (.seq (.seq (.region 18 reg3_18 false) (.cond (.tmp 126 ) (.region 19 reg3_19 true) (.skip))) (.seq (.region 20 reg3_20 false) (.cond (.tmp 160 ) (.seq (.region 21 reg3_21 false) (.ret)) (.skip)))))))) (.region 13 reg3_13 false)))))) (.seq (.region 22 reg3_22 true) (.ret))))))))))) := by kernel_rfl
noncomputable def tmI (tb toff n0 tc Q kb lb p n i : Nat) (u : Nat -> Value) : Array Value := #[.int .i64 n, .slice (some ⟨tb, toff, none⟩) n0 tc, u 2, u 3, .bool false, .pointer (some ⟨kb, 0, none⟩), u 6, .pointer (some ⟨lb, 0, none⟩), u 8, .pointer (some ⟨Q, 0, none⟩), .pointer (some ⟨p, 0, none⟩), .int .i64 i, u 12, u 13, u 14, u 15, u 16, u 17, u 18, u 19, u 20, u 21, u 22, u 23, u 24, u 25, u 26, u 27, u 28, u 29, u 30, u 31, u 32, u 33, u 34, u 35, u 36, u 37, u 38, u 39, u 40, u 41, u 42, u 43, u 44, u 45, u 46, u 47, u 48, u 49, u 50, u 51, u 52, u 53, u 54, u 55, u 56, u 57, u 58, u 59, u 60, u 61, u 62, u 63, u 64, u 65, u 66, u 67, u 68, u 69, u 70, u 71, u 72, u 73, u 74, u 75, u 76, u 77, u 78, u 79, u 80, u 81, u 82, u 83, u 84, u 85, u 86, u 87, u 88, u 89, u 90, u 91, u 92, u 93, u 94, u 95, u 96, u 97, u 98, u 99, u 100, u 101, u 102, u 103, u 104, u 105, u 106, u 107, u 108, u 109, u 110, u 111, u 112, u 113, u 114, u 115, u 116, u 117, u 118, u 119, u 120, u 121, u 122, u 123, u 124, u 125, u 126, u 127, u 128, u 129, u 130, u 131, u 132, u 133, u 134, u 135, u 136, u 137, u 138, u 139, u 140, u 141, u 142, u 143, u 144, u 145, u 146, u 147, u 148, u 149, u 150, u 151, u 152, u 153, u 154, u 155, u 156, u 157, u 158, u 159, u 160, u 161, u 162, u 163, u 164, u 165, u 166, u 167, u 168, u 169, u 170, u 171, u 172, u 173, u 174, u 175, u 176, u 177, u 178, u 179, u 180, u 181, u 182, u 183, u 184, u 185, u 186, u 187, u 188, u 189, u 190, u 191, u 192, u 193, u 194, u 195]
def dsI : List Nat := [87, 88, 89, 90, 91, 92, 93, 94, 95, 96, 97, 98, 99, 100, 12, 13]
def vsI (tb toff n0 tc kb lb p i : Nat) (o : OpV) (a : Ans) (A B : Nat) (sa sb : Value) : List Value := [.pointer (some ⟨kb, 0, none⟩), .slice (some ⟨tb, toff, none⟩) n0 tc, .int .i64 i, .pointer (some ⟨tb, toff + i * 4, none⟩), Eh o, Bo a sa, .pointer (some ⟨lb, 0, none⟩), .pointer (some ⟨p, 0, none⟩), .iface 36 (.pointer (some ⟨p, 0, none⟩)), .slice (some ⟨tb, toff, none⟩) n0 tc, .int .i64 i, .pointer (some ⟨tb, toff + i * 4, none⟩), Eh o, Bo a sb, .pointer (some ⟨A, 0, none⟩), .pointer (some ⟨B, 0, none⟩)]
def Ez (kb ks lb ls p b : Nat) : Prop := b ≠ kb /\ b ≠ ks /\ b ≠ lb /\ b ≠ ls /\ b ≠ p
structure Five (kb ks lb ls p : Nat) : Prop where
 a : kb ≠ ks /\ kb ≠ lb /\ kb ≠ ls /\ kb ≠ p
 b : ks ≠ lb /\ ks ≠ ls /\ ks ≠ p
 c : lb ≠ ls /\ lb ≠ p /\ ls ≠ p
structure AloQ (kb ks lb ls n p : Nat) (S S' : Rg) (c c' : Nat) (a : Ans) (W : World) (f : Nat -> Bool) (A B : Nat) (sa sb : Value) (w : World) : Prop where
 ik : RgI kb ks n (if f 5 then S' else S) w
 il : RgI lb ls n (if f 13 then S' else S) w
 cn : w.heap[p]? = some (.cells #[.int .i64 ((if f 13 then c' else c : Nat) : Int)] 38)
 la : f 5 = true -> LsN W.heap.size sa a.l w
 lc : f 13 = true -> LsN W.heap.size sb a.l w
 a1 : f 14 = true -> W.heap.size <= A /\ w.heap[A]? = some (if f 16 then ansB a sa else (.cells #[.bool false, .int .i64 0, .slice none 0 0] 42))
 b1 : f 15 = true -> W.heap.size <= B /\ w.heap[B]? = some (if f 17 then ansB a sb else (.cells #[.bool false, .int .i64 0, .slice none 0 0] 42))
 ne : f 14 = true -> f 15 = true -> A ≠ B
 old : ∀ b, b < W.heap.size -> Ez kb ks lb ls p b -> w.heap[b]? = W.heap[b]?
 size : W.heap.size <= w.heap.size
section
variable {kb ks lb ls n p : Nat} {S S' : Rg} {c c' : Nat} {a : Ans} {W : World} {f : Nat -> Bool} {A B : Nat} {sa sb : Value} {w : World}
theorem AloQ.at (h : AloQ kb ks lb ls n p S S' c c' a W f A B sa sb w) (d : Nat) : AloQ kb ks lb ls n p S S' c c' a W f A B sa sb (w.at d) := ⟨h.ik.old rfl rfl, h.il.old rfl rfl, h.cn, fun hf => (h.la hf).far fun _ _ _ _ => rfl, fun hf => (h.lc hf).far fun _ _ _ _ => rfl, h.a1, h.b1, h.ne, h.old, h.size⟩
theorem AloQ.quiet (h : AloQ kb ks lb ls n p S S' c c' a W f A B sa sb w) {i : Nat} (h6 : i ≠ 5 := by decide) (h15 : i ≠ 13 := by decide) (h16 : i ≠ 14 := by decide) (h17 : i ≠ 15 := by decide) (h18 : i ≠ 16 := by decide) (h19 : i ≠ 17 := by decide) : AloQ kb ks lb ls n p S S' c c' a W (upd f i true) A B sa sb w := by
 refine ⟨?_, ?_, ?_, ?_, ?_, ?_, ?_, ?_, h.old, h.size⟩
 ·rw [upd_ne _ _ (Ne.symm h6)]; exact h.ik
 ·rw [upd_ne _ _ (Ne.symm h15)]; exact h.il
 ·rw [upd_ne _ _ (Ne.symm h15)]; exact h.cn
 ·rw [upd_ne _ _ (Ne.symm h6)]; exact h.la
 ·rw [upd_ne _ _ (Ne.symm h15)]; exact h.lc
 ·rw [upd_ne _ _ (Ne.symm h16), upd_ne _ _ (Ne.symm h18)]; exact h.a1
 ·rw [upd_ne _ _ (Ne.symm h17), upd_ne _ _ (Ne.symm h19)]; exact h.b1
 ·rw [upd_ne _ _ (Ne.symm h16), upd_ne _ _ (Ne.symm h17)]; exact h.ne
theorem calls_do {main : Bool} (tb toff n0 tc Q i : Nat) (o : OpV) (hi : i < n0) (hn0 : n0 <= 17592186044416) (W : World)
  (hk : RgI kb ks n S W) (hl : RgI lb ls n S W) (hc : W.heap[p]? = some (.cells #[.int .i64 (c : Nat)] 38)) (hfew : c <= 9223372036854) (t5 : Five kb ks lb ls p) (h1 : Ez kb ks lb ls p tb)
  (o0 : W.cell? ⟨tb, toff + i * 4, none⟩ = some (.int .i64 o.k)) (o1 : W.cell? ⟨tb, toff + i * 4 + 1, none⟩ = some (.int .i64 o.a)) (o2 : W.cell? ⟨tb, toff + i * 4 + 2, none⟩ = some (.int .i64 o.b)) (o3 : W.cell? ⟨tb, toff + i * 4 + 3, none⟩ = some (.int .i64 o.c))
  (kx : List Item) (cs : List Frame) (u0 : Nat -> Value) {Stop : Goroutine -> World -> Prop}
  (hend : ∀ (u : Nat -> Value) (A B : Nat) (sa sb : Value) (w : World), u 12 = .pointer (some ⟨A, 0, none⟩) -> u 13 = .pointer (some ⟨B, 0, none⟩) -> AloQ kb ks lb ls n p S (rgOne n S o).1 c (c + Lq n S o) (rgOne n S o).2 W (fun _ => true) A B sa sb w -> Walk prog main (DR (fun _ => none)) Stop (G ((base 3).at ⟨tmI tb toff n0 tc Q kb lb p n i u, []⟩ (.inRegion reg3_14 [] :: kx)) cs) w) :
  Walk prog main (DR (fun _ => none)) Stop (G ((base 3).at ⟨tmI tb toff n0 tc Q kb lb p n i u0, []⟩ (.code (.region 14 reg3_14 true) :: kx)) cs) W := by
 have hif1 := run_ifaceSteps
 have hif2 := ev_ifaceSteps
 obtain ⟨fsO, huO⟩ := Ci 45 (by kernel_rfl)
 obtain ⟨⟨t1, t2, t3, t4⟩, ⟨t5, t6, t7⟩, t8, t9, t10⟩ := t5
 have hcU := fun w I => lcall_w (main := main) (V := fun _ => none) (rb := kb) (sb := ks) (n := n) (s := S) (w := w) Ov I o.k o.a o.b o.c
 have hcC := fun w I hcn => lcallC_w (main := main) (V := fun _ => none) (rb := lb) (sb := ls) (n := n) (s := S) (w := w) Ov I p (Ne.symm t9) (Ne.symm t10) c hcn hfew o.k o.a o.b o.c
 have hoe : (⟨o.k, o.a, o.b, o.c⟩ : OpV) = o := rfl
 simp only [hoe] at hcU hcC
 clear hoe
 generalize hX : rgOne n S o = X at *
 generalize hY : c + Lq n S o = c' at *
 obtain ⟨S', a⟩ := X
 dsimp only at hend hcU hcC
 clear hX hY
 have l1 : kb < W.heap.size := hk.lt.1
 have l2 : ks < W.heap.size := hk.lt.2
 have l3 : lb < W.heap.size := hl.lt.1
 have l4 : ls < W.heap.size := hl.lt.2
 have l5 : p < W.heap.size := (aEs hc).1
 refine Cv (Inv := fun f ac' w => ∃ u A B sa sb, ac' = ⟨tmI tb toff n0 tc Q kb lb p n i u, []⟩ /\ Facts dsI (vsI tb toff n0 tc kb lb p i o a A B sa sb) f u /\ AloQ kb ks lb ls n p S S' c c' a W f A B sa sb w) (by kernel_rfl) (by kernel_rfl) (fun d => ⟨u0, 0, 0, undef, undef, rfl, Facts.none _ _ _, AloQ.at ⟨hk, hl, hc, fun h => (by cases h), fun h => (by cases h), fun h => (by cases h), fun h => (by cases h), fun h => (by cases h), fun _ _ _ => rfl, Nat.le_refl _⟩ d⟩) ?_ ?_
 ·rintro f j op act w ⟨u, A, B, sa, sb, rfl, F0, Q⟩ hC hfj ho hdeps rest hr
  have hj : j < 18 := by have := (aEs ho).1; rw [size3_14] at this; exact this
  have hcell : ∀ {y : Nat} {v : Value}, W.cell? ⟨tb, y, none⟩ = some v -> w.cell? ⟨tb, y, none⟩ = some v := fun {y v} h => (cBk (a := ⟨tb, y, none⟩) (Q.old tb (Al h) h1)).trans h
  have hC' := hC
  have hQs := Q.size
  simp only [tmI] at hr ⊢
  match j, hj with
  | 0, _ =>
   clear hdeps hC hC' hcU hcC hend
   (refine Wq ?_; try walk_nrm)
   refine hr _ _ ⟨upd u 87 (.pointer (some ⟨kb, 0, none⟩)), A, B, sa, sb, ?_, F0.set, Q.quiet⟩
   simp [tmI, upd]
  | 1, _ =>
   clear hdeps hC hC' hcU hcC hend
   (refine Wq ?_; try walk_nrm)
   refine hr _ _ ⟨upd u 88 (.slice (some ⟨tb, toff, none⟩) n0 tc), A, B, sa, sb, ?_, F0.set, Q.quiet⟩
   simp [tmI, upd]
  | 2, _ =>
   clear hdeps hC hC' hcU hcC hend
   (refine Wq ?_; try walk_nrm)
   refine hr _ _ ⟨upd u 89 (.int .i64 i), A, B, sa, sb, ?_, F0.set, Q.quiet⟩
   simp [tmI, upd]
  | 3, _ =>
   have hd := qD [1, 2] ho hdeps
   have e88 := F0.g hd 1
   have e89 := F0.g hd 2
   have hi0 : (0 : Int) <= i := by omega
   have hi3 : decide (i < n0) = true := by simp; omega
   have hi1 : decide ((i : Int) < n0) = true := by simp; omega
   have hi4 : (i : Int) < n0 := by omega
   clear hdeps hC hC' hcU hcC hend
   simp only [e88, e89]
   (refine Wq ?_; try walk_nrm)
   refine hr _ _ ⟨upd u 90 (.pointer (some ⟨tb, toff + i * 4, none⟩)), A, B, sa, sb, ?_, F0.set, Q.quiet⟩
   simp [tmI, upd, e88, e89]
  | 4, _ =>
   have hd := qD [3] ho hdeps
   have e90 := F0.g hd 3
   have hcs : ∀ (y : Nat) (v : Value), ([.int .i64 o.k, .int .i64 o.a, .int .i64 o.b, .int .i64 o.c] : List Value)[y]? = some v -> w.cell? ⟨tb, toff + i * 4 + y, none⟩ = some v := fun y v hv => by
    match y, hv with
    | 0, hv => cases hv; exact hcell o0
    | 1, hv => cases hv; exact hcell o1
    | 2, hv => cases hv; exact hcell o2
    | 3, hv => cases hv; exact hcell o3
   clear hdeps hC hC' hcU hcC hend
   simp only [e90]
   refine Walk.loadS 45 (.tmp 90) Ah (by rfl) (by decide) rfl tb (toff + i * 4) [.int .i64 o.k, .int .i64 o.a, .int .i64 o.b, .int .i64 o.c] (.struct fsO) rfl hcs huO rfl (by kernel_rfl) ?_
   walk_nrm
   refine hr _ _ ⟨upd u 91 (Eh o), A, B, sa, sb, ?_, F0.set, Q.quiet⟩
   simp [tmI, upd, Eh, e90]
  | 5, _ =>
   have hd := qD [0, 4] ho hdeps
   have e87 := F0.g hd 0
   have e91 := F0.g hd 4
   have ik := Q.ik
   rw [hfj] at ik
   simp only [Bool.false_eq_true, if_false] at ik
   have hcc := hcU w ik
   clear hdeps hC hend hcU hcC
   simp only [e87, e91, Eh]
   refine Cq (Post := fun v w' => ∃ sl, v = Bo a sl /\ LsN w.heap.size sl a.l w' /\ SolR kb ks n S' w w') ?_ Ah (by rfl) (by decide) rfl func18 (by kernel_rfl) (by rfl) ⟨rfl, rfl, _, func3⟩ ?_
   ·walk_nrm
    exact hcc
   rintro v w1 ⟨sl, rfl, hls, hCI, hCo, hCs⟩
   walk_nrm
   have h15 : f 13 = false := by
    cases h : f 13 with
    | false => rfl
    | true => have := hC'.deps (i := 13) (l := [6, 8, 12, 5]) h (by kernel_rfl) 5 (by simp); rw [hfj] at this; cases this
   refine hr _ _ ⟨upd u 92 (Bo a sl), A, B, sl, sb, ?_, Facts.set (Dk F0 hfj rfl), ⟨?_, ?_, ?_, fun h => ?_, fun h => ?_, fun h => ?_, fun h => ?_, fun h h2 => ?_, fun b hb g => ?_, by omega⟩⟩
   ·simp [tmI, upd, Bo, Eh, e87, e91]
   ·rw [upd_same, if_pos rfl]; exact hCI
   ·rw [upd_ne _ _ (by decide)]; exact Q.il.old (hCo lb (by omega) (by omega) (by omega)) (hCo ls (by omega) (by omega) (by omega))
   ·rw [upd_ne _ _ (by decide)]; exact (hCo p (by omega) (by omega) (by omega)).trans Q.cn
   ·exact hls.low hQs
   ·rw [upd_ne _ _ (by decide), h15] at h; cases h
   ·rw [upd_ne _ _ (by decide)] at h
    rw [upd_ne _ _ (by decide)]
    obtain ⟨z1, z2⟩ := Q.a1 h
    have h18 : f 16 = false := by
     cases h : f 16 with
     | false => rfl
     | true => have := hC'.deps (i := 16) (l := [14, 5]) h (by kernel_rfl) 5 (by simp); rw [hfj] at this; cases this
    rw [h18] at z2 ⊢
    exact ⟨z1, (hCo A (aEs z2).1 (by omega) (by omega)).trans z2⟩
   ·rw [upd_ne _ _ (by decide)] at h
    rw [upd_ne _ _ (by decide)]
    obtain ⟨z1, z2⟩ := Q.b1 h
    exact ⟨z1, (hCo B (aEs z2).1 (by omega) (by omega)).trans z2⟩
   ·rw [upd_ne _ _ (by decide)] at h h2
    exact Q.ne h h2
   ·exact (hCo b (by omega) g.1 g.2.1).trans (Q.old b hb g)
  | 6, _ =>
   clear hdeps hC hC' hcU hcC hend
   (refine Wq ?_; try walk_nrm)
   refine hr _ _ ⟨upd u 93 (.pointer (some ⟨lb, 0, none⟩)), A, B, sa, sb, ?_, F0.set, Q.quiet⟩
   simp [tmI, upd]
  | 7, _ =>
   clear hdeps hC hC' hcU hcC hend
   (refine Wq ?_; try walk_nrm)
   refine hr _ _ ⟨upd u 94 (.pointer (some ⟨p, 0, none⟩)), A, B, sa, sb, ?_, F0.set, Q.quiet⟩
   simp [tmI, upd]
  | 8, _ =>
   have hd := qD [7] ho hdeps
   have e94 := F0.g hd 7
   clear hdeps hC hC' hcU hcC hend
   simp only [e94]
   (refine Wq ?_; try walk_nrm)
   refine hr _ _ ⟨upd u 95 (.iface 36 (.pointer (some ⟨p, 0, none⟩))), A, B, sa, sb, ?_, F0.set, Q.quiet⟩
   simp [tmI, upd, e94]
  | 9, _ =>
   clear hdeps hC hC' hcU hcC hend
   (refine Wq ?_; try walk_nrm)
   refine hr _ _ ⟨upd u 96 (.slice (some ⟨tb, toff, none⟩) n0 tc), A, B, sa, sb, ?_, F0.set, Q.quiet⟩
   simp [tmI, upd]
  | 10, _ =>
   clear hdeps hC hC' hcU hcC hend
   (refine Wq ?_; try walk_nrm)
   refine hr _ _ ⟨upd u 97 (.int .i64 i), A, B, sa, sb, ?_, F0.set, Q.quiet⟩
   simp [tmI, upd]
  | 11, _ =>
   have hd := qD [9, 10] ho hdeps
   have e96 := F0.g hd 9
   have e97 := F0.g hd 10
   have hi0 : (0 : Int) <= i := by omega
   have hi3 : decide (i < n0) = true := by simp; omega
   have hi1 : decide ((i : Int) < n0) = true := by simp; omega
   have hi4 : (i : Int) < n0 := by omega
   clear hdeps hC hC' hcU hcC hend
   simp only [e96, e97]
   (refine Wq ?_; try walk_nrm)
   refine hr _ _ ⟨upd u 98 (.pointer (some ⟨tb, toff + i * 4, none⟩)), A, B, sa, sb, ?_, F0.set, Q.quiet⟩
   simp [tmI, upd, e96, e97]
  | 12, _ =>
   have hd := qD [11] ho hdeps
   have e98 := F0.g hd 11
   have hcs : ∀ (y : Nat) (v : Value), ([.int .i64 o.k, .int .i64 o.a, .int .i64 o.b, .int .i64 o.c] : List Value)[y]? = some v -> w.cell? ⟨tb, toff + i * 4 + y, none⟩ = some v := fun y v hv => by
    match y, hv with
    | 0, hv => cases hv; exact hcell o0
    | 1, hv => cases hv; exact hcell o1
    | 2, hv => cases hv; exact hcell o2
    | 3, hv => cases hv; exact hcell o3
   clear hdeps hC hC' hcU hcC hend
   simp only [e98]
   refine Walk.loadS 45 (.tmp 98) Ah (by rfl) (by decide) rfl tb (toff + i * 4) [.int .i64 o.k, .int .i64 o.a, .int .i64 o.b, .int .i64 o.c] (.struct fsO) rfl hcs huO rfl (by kernel_rfl) ?_
   walk_nrm
   refine hr _ _ ⟨upd u 99 (Eh o), A, B, sa, sb, ?_, F0.set, Q.quiet⟩
   simp [tmI, upd, Eh, e98]
  | 13, _ =>
   have hd := qD [6, 8, 12, 5] ho hdeps
   have e93 := F0.g hd 6
   have e95 := F0.g hd 8
   have e99 := F0.g hd 12
   have il := Q.il
   have cn := Q.cn
   rw [hfj] at il cn
   simp only [Bool.false_eq_true, if_false] at il cn
   have hcc := hcC w il cn
   have h6 := hd 5 (by simp)
   clear hdeps hC hend hcU hcC
   simp only [e93, e95, e99, Eh]
   refine Cq (Post := fun v w' => ∃ sl, v = Bo a sl /\ LsN w.heap.size sl a.l w' /\ SoloC lb ls n p S' c' w w') ?_ Ah (by rfl) (by decide) rfl func18 (by kernel_rfl) (by rfl) ⟨rfl, rfl, _, func3⟩ ?_
   ·walk_nrm
    exact hcc
   rintro v w1 ⟨sl, rfl, hls, hCI, hCn, hCo, hCs⟩
   walk_nrm
   refine hr _ _ ⟨upd u 100 (Bo a sl), A, B, sa, sl, ?_, Facts.set (Dk F0 hfj rfl), ⟨?_, ?_, ?_, fun h => ?_, fun h => ?_, fun h => ?_, fun h => ?_, fun h h2 => ?_, fun b hb g => ?_, by omega⟩⟩
   ·simp [tmI, upd, Bo, Eh, e93, e95, e99]
   ·rw [upd_ne _ _ (by decide)]; exact Q.ik.old (hCo kb (by omega) (by omega) (by omega) (by omega)) (hCo ks (by omega) (by omega) (by omega) (by omega))
   ·rw [upd_same, if_pos rfl]; exact hCI
   ·rw [upd_same, if_pos rfl]; exact hCn
   ·exact (Q.la h6).far fun b x hb hx => hCo b (aEs hx).1 (by omega) (by omega) (by omega)
   ·exact hls.low hQs
   ·rw [upd_ne _ _ (by decide)] at h
    rw [upd_ne _ _ (by decide)]
    obtain ⟨z1, z2⟩ := Q.a1 h
    exact ⟨z1, (hCo A (aEs z2).1 (by omega) (by omega) (by omega)).trans z2⟩
   ·rw [upd_ne _ _ (by decide)] at h
    rw [upd_ne _ _ (by decide)]
    obtain ⟨z1, z2⟩ := Q.b1 h
    have h19 : f 17 = false := by
     cases h : f 17 with
     | false => rfl
     | true => have := hC'.deps (i := 17) (l := [15, 13]) h (by kernel_rfl) 13 (by simp); rw [hfj] at this; cases this
    rw [h19] at z2 ⊢
    exact ⟨z1, (hCo B (aEs z2).1 (by omega) (by omega) (by omega)).trans z2⟩
   ·rw [upd_ne _ _ (by decide)] at h h2
    exact Q.ne h h2
   ·exact (hCo b (by omega) g.2.2.1 g.2.2.2.1 g.2.2.2.2).trans (Q.old b hb g)
  | 14, _ =>
   clear hdeps hC hcU hcC hend
   have hN := hAw w (.cells #[.bool false, .int .i64 0, .slice none 0 0] 42)
   have hO : ∀ b, b < w.heap.size -> (w.alloc (.cells #[.bool false, .int .i64 0, .slice none 0 0] 42)).heap[b]? = w.heap[b]? := fun b hb => Ad _ _ hb
   have hZ : (w.alloc (.cells #[.bool false, .int .i64 0, .slice none 0 0] 42)).heap.size = w.heap.size + 1 := by simp
   have hls : ∀ {sl : Value}, LsN W.heap.size sl a.l w -> LsN W.heap.size sl a.l (w.alloc (.cells #[.bool false, .int .i64 0, .slice none 0 0] 42)) := fun h => h.far fun b x hb hx => hO b (aEs hx).1
   have h1x : f 16 = false := by
    cases h : f 16 with
    | false => rfl
    | true =>
     have := hC'.deps (i := 16) (l := [14]) h (by kernel_rfl) 14 (by simp)
     rw [hfj] at this
     cases this
   (refine Wa ?_; try walk_nrm)
   refine hr _ _ ⟨upd u 12 (.pointer (some ⟨w.heap.size, 0, none⟩)), w.heap.size, B, sa, sb, ?_, Facts.set (Dk F0 hfj rfl), ⟨?_, ?_, ?_, fun h => ?_, fun h => ?_, fun h => ?_, fun h => ?_, fun h h2 => ?_, fun b hb g => (hO b (by omega)).trans (Q.old b hb g), by omega⟩⟩
   ·simp [tmI, upd]
   ·rw [upd_ne _ _ (by decide)]; exact Q.ik.old (hO kb (by omega)) (hO ks (by omega))
   ·rw [upd_ne _ _ (by decide)]; exact Q.il.old (hO lb (by omega)) (hO ls (by omega))
   ·rw [upd_ne _ _ (by decide)]; exact (hO p (by omega)).trans Q.cn
   ·rw [upd_ne _ _ (by decide)] at h; exact hls (Q.la h)
   ·rw [upd_ne _ _ (by decide)] at h; exact hls (Q.lc h)
   ·rw [upd_ne _ _ (by decide), h1x]
    exact ⟨hQs, hN⟩
   ·rw [upd_ne _ _ (by decide)] at h
    rw [upd_ne _ _ (by decide)]
    obtain ⟨z1, z2⟩ := Q.b1 h
    exact ⟨z1, (hO _ (aEs z2).1).trans z2⟩
   ·rw [upd_ne _ _ (by decide)] at h2
    have := (aEs (Q.b1 h2).2).1
    omega
  | 15, _ =>
   clear hdeps hC hcU hcC hend
   have hN := hAw w (.cells #[.bool false, .int .i64 0, .slice none 0 0] 42)
   have hO : ∀ b, b < w.heap.size -> (w.alloc (.cells #[.bool false, .int .i64 0, .slice none 0 0] 42)).heap[b]? = w.heap[b]? := fun b hb => Ad _ _ hb
   have hZ : (w.alloc (.cells #[.bool false, .int .i64 0, .slice none 0 0] 42)).heap.size = w.heap.size + 1 := by simp
   have hls : ∀ {sl : Value}, LsN W.heap.size sl a.l w -> LsN W.heap.size sl a.l (w.alloc (.cells #[.bool false, .int .i64 0, .slice none 0 0] 42)) := fun h => h.far fun b x hb hx => hO b (aEs hx).1
   have h1x : f 17 = false := by
    cases h : f 17 with
    | false => rfl
    | true =>
     have := hC'.deps (i := 17) (l := [15]) h (by kernel_rfl) 15 (by simp)
     rw [hfj] at this
     cases this
   (refine Wa ?_; try walk_nrm)
   refine hr _ _ ⟨upd u 13 (.pointer (some ⟨w.heap.size, 0, none⟩)), A, w.heap.size, sa, sb, ?_, Facts.set (Dk F0 hfj rfl), ⟨?_, ?_, ?_, fun h => ?_, fun h => ?_, fun h => ?_, fun h => ?_, fun h h2 => ?_, fun b hb g => (hO b (by omega)).trans (Q.old b hb g), by omega⟩⟩
   ·simp [tmI, upd]
   ·rw [upd_ne _ _ (by decide)]; exact Q.ik.old (hO kb (by omega)) (hO ks (by omega))
   ·rw [upd_ne _ _ (by decide)]; exact Q.il.old (hO lb (by omega)) (hO ls (by omega))
   ·rw [upd_ne _ _ (by decide)]; exact (hO p (by omega)).trans Q.cn
   ·rw [upd_ne _ _ (by decide)] at h; exact hls (Q.la h)
   ·rw [upd_ne _ _ (by decide)] at h; exact hls (Q.lc h)
   ·rw [upd_ne _ _ (by decide)] at h
    rw [upd_ne _ _ (by decide)]
    obtain ⟨z1, z2⟩ := Q.a1 h
    exact ⟨z1, (hO _ (aEs z2).1).trans z2⟩
   ·rw [upd_ne _ _ (by decide), h1x]
    exact ⟨hQs, hN⟩
   ·rw [upd_ne _ _ (by decide)] at h
    have := (aEs (Q.a1 h).2).1
    omega
  | 16, _ =>
   have hd := qD [14, 5] ho hdeps
   have e12 := F0.g hd 14
   have e92 := F0.g hd 5
   have hz := Q.a1 (hd 14 (by simp))
   rw [hfj] at hz
   simp only [Bool.false_eq_true, if_false] at hz
   obtain ⟨z1, z2⟩ := hz
   obtain ⟨sx, sy, sz, rfl⟩ := (Q.la (hd 5 (by simp))).slice
   have hO : ∀ b, b ≠ A -> (w.setRow A #[.bool a.ok, .int .i64 a.n, .slice sx sy sz]).heap[b]? = w.heap[b]? := fun b hb => Ap _ _ hb
   have hN := Ba (cells := #[.bool a.ok, .int .i64 a.n, .slice sx sy sz]) z2
   have hZ : (w.setRow A #[.bool a.ok, .int .i64 a.n, .slice sx sy sz]).heap.size = w.heap.size := Ay _ _ _
   have hls : ∀ {sl : Value}, LsN W.heap.size sl a.l w -> LsN W.heap.size sl a.l (w.setRow A #[.bool a.ok, .int .i64 a.n, .slice sx sy sz]) := fun h => h.far fun b x hb hx => hO b fun e => by
    rw [e, z2] at hx
    simp at hx
   clear hdeps hC hC' hcU hcC hend
   simp only [e12, e92, Bo]
   refine Am 42 (.tmp 12) (.tmp 92) Ah (by rfl) (by decide) rfl A #[.bool a.ok, .int .i64 a.n, .slice sx sy sz] _ 42 rfl rfl z2 (by kernel_rfl) (by rfl) (by simp [Value.oneCell']) (Ov _) ?_
   walk_nrm
   refine hr _ _ ⟨u, A, B, .slice sx sy sz, sb, ?_, Ol F0 rfl, ⟨?_, ?_, ?_, fun h => ?_, fun h => ?_, fun h => ?_, fun h => ?_, fun h h2 => ?_, fun b hb g => (hO b (by omega)).trans (Q.old b hb g), by omega⟩⟩
   ·simp [tmI, e12, e92, Bo]
   ·rw [upd_ne _ _ (by decide)]; exact Q.ik.old (hO kb (by omega)) (hO ks (by omega))
   ·rw [upd_ne _ _ (by decide)]; exact Q.il.old (hO lb (by omega)) (hO ls (by omega))
   ·rw [upd_ne _ _ (by decide)]; exact (hO p (by omega)).trans Q.cn
   ·rw [upd_ne _ _ (by decide)] at h; exact hls (Q.la h)
   ·rw [upd_ne _ _ (by decide)] at h; exact hls (Q.lc h)
   ·rw [upd_same, if_pos rfl]
    exact ⟨z1, hN⟩
   ·rw [upd_ne _ _ (by decide)] at h
    rw [upd_ne _ _ (by decide)]
    obtain ⟨y1, y2⟩ := Q.b1 h
    exact ⟨y1, (hO _ (Ne.symm (Q.ne (hd 14 (by simp)) h))).trans y2⟩
   ·rw [upd_ne _ _ (by decide)] at h h2
    exact Q.ne h h2
  | 17, _ =>
   have hd := qD [15, 13, 16] ho hdeps
   have e13 := F0.g hd 15
   have e100 := F0.g hd 13
   have hz := Q.b1 (hd 15 (by simp))
   rw [hfj] at hz
   simp only [Bool.false_eq_true, if_false] at hz
   obtain ⟨z1, z2⟩ := hz
   obtain ⟨sx, sy, sz, rfl⟩ := (Q.lc (hd 13 (by simp))).slice
   have hO : ∀ b, b ≠ B -> (w.setRow B #[.bool a.ok, .int .i64 a.n, .slice sx sy sz]).heap[b]? = w.heap[b]? := fun b hb => Ap _ _ hb
   have hN := Ba (cells := #[.bool a.ok, .int .i64 a.n, .slice sx sy sz]) z2
   have hZ : (w.setRow B #[.bool a.ok, .int .i64 a.n, .slice sx sy sz]).heap.size = w.heap.size := Ay _ _ _
   have hls : ∀ {sl : Value}, LsN W.heap.size sl a.l w -> LsN W.heap.size sl a.l (w.setRow B #[.bool a.ok, .int .i64 a.n, .slice sx sy sz]) := fun h => h.far fun b x hb hx => hO b fun e => by
    rw [e, z2] at hx
    simp at hx
   have h16 : f 14 = true := hC'.deps (i := 16) (l := [14]) (hd 16 (by simp)) (by kernel_rfl) 14 (by simp)
   clear hdeps hC hC' hcU hcC hend
   simp only [e13, e100, Bo]
   refine Am 42 (.tmp 13) (.tmp 100) Ah (by rfl) (by decide) rfl B #[.bool a.ok, .int .i64 a.n, .slice sx sy sz] _ 42 rfl rfl z2 (by kernel_rfl) (by rfl) (by simp [Value.oneCell']) (Ov _) ?_
   walk_nrm
   refine hr _ _ ⟨u, A, B, sa, .slice sx sy sz, ?_, Ol F0 rfl, ⟨?_, ?_, ?_, fun h => ?_, fun h => ?_, fun h => ?_, fun h => ?_, fun h h2 => ?_, fun b hb g => (hO b (by omega)).trans (Q.old b hb g), by omega⟩⟩
   ·simp [tmI, e13, e100, Bo]
   ·rw [upd_ne _ _ (by decide)]; exact Q.ik.old (hO kb (by omega)) (hO ks (by omega))
   ·rw [upd_ne _ _ (by decide)]; exact Q.il.old (hO lb (by omega)) (hO ls (by omega))
   ·rw [upd_ne _ _ (by decide)]; exact (hO p (by omega)).trans Q.cn
   ·rw [upd_ne _ _ (by decide)] at h; exact hls (Q.la h)
   ·rw [upd_ne _ _ (by decide)] at h; exact hls (Q.lc h)
   ·rw [upd_ne _ _ (by decide)] at h
    rw [upd_ne _ _ (by decide)]
    obtain ⟨y1, y2⟩ := Q.a1 h
    exact ⟨y1, (hO _ (Q.ne h (hd 15 (by simp)))).trans y2⟩
   ·rw [upd_same, if_pos rfl]
    exact ⟨z1, hN⟩
   ·rw [upd_ne _ _ (by decide)] at h h2
    exact Q.ne h h2
 ·rintro f act w ⟨u, A, B, sa, sb, rfl, F0, Q⟩ hall
  have g : ∀ j, j < 18 -> f j = true := fun j hj => hall j (by rw [size3_14]; exact hj)
  refine hend u A B sa sb w (F0 14 12 _ (g 14 (by decide)) rfl rfl) (F0 15 13 _ (g 15 (by decide)) rfl rfl) ?_
  obtain ⟨q1, q2, q3, q4, q5, q6, q7, q8, q9, q10⟩ := Q
  rw [g 5 (by decide)] at q1
  rw [g 13 (by decide)] at q2 q3
  rw [g 16 (by decide)] at q6
  rw [g 17 (by decide)] at q7
  exact ⟨q1, q2, q3, fun _ => q4 (g 5 (by decide)), fun _ => q5 (g 13 (by decide)), fun _ => q6 (g 14 (by decide)), fun _ => q7 (g 15 (by decide)), fun _ _ => q8 (g 14 (by decide)) (g 15 (by decide)), q9, q10⟩
end
section
variable {P : Program}
theorem eqInB (d : Nat) (t : TypeId) (x y : Bool) (w : World) (es : Array Event) (hu : P.underlying t = some .bool) : (Op.equalIn (d + 1) t (.bool x) (.bool y)).run P w = .ok (x == y) w /\ (Op.equalIn (d + 1) t (.bool x) (.bool y)).events P w es = es := by
 constructor <;> simp [Op.equalIn, run_underlying hu]
theorem run_neqB (t : TypeId) (hu : P.underlying t = some .bool) (x y : Bool) (w : World) : (binOp .neq t (.bool x) (.bool y)).run P w = .ok (.bool (x != y)) w := by
 simp only [binOp]
 simp [Op.equal, Op.maxDepth, (eqInB 9999 t x y w #[] hu).1, bne]
theorem ev_neqB (t : TypeId) (hu : P.underlying t = some .bool) (x y : Bool) (w : World) (es : Array Event) : (binOp .neq t (.bool x) (.bool y)).events P w es = es := by
 simp only [binOp]
 simp [Op.equal, Op.maxDepth, (eqInB 9999 t x y w #[] hu).1, (eqInB 9999 t x y w es hu).2]
end
theorem und4B : prog.underlying 4 = some .bool := by kernel_rfl
noncomputable def reg23_0 := rk f23.body 0
noncomputable def reg23_1 := rk f23.body 1
noncomputable def reg23_2 := rk f23.body 2
noncomputable def reg23_3 := rk f23.body 3
noncomputable def reg23_4 := rk f23.body 4
noncomputable def reg23_6 := rk f23.body 6
theorem size23_6 : reg23_6.size = 9 := by kernel_rfl
noncomputable def reg23_7 := rk f23.body 7
noncomputable def reg23_5 := rk f23.body 5
noncomputable def reg23_8 := rk f23.body 8
theorem z23 : reg23_0.size = 1 /\ reg23_1.size = 5 /\ reg23_2.size = 1 /\ reg23_3.size = 1 /\ reg23_4.size = 4 /\ reg23_5.size = 3 /\ reg23_6.size = 9 /\ reg23_7.size = 1 /\ reg23_8.size = 1 := by and_intros <;> kernel_rfl
theorem code23_is : f23.body = some (.seq (.region 0 reg23_0 false) (.seq (.seq (.region 1 reg23_1 false) (.cond (.tmp 10 ) (.seq (.region 2 reg23_2 false) (.ret)) (.skip))) (.seq (.seq (.region 3 reg23_3 false) (.block 0 (.loop (.seq (.seq (.region 4 reg23_4 false) (.cond (.tmp 14 ) (.skip) (.exit 0))) (.seq (.block 1 (.seq (.region 6 reg23_6 true) (.cond (.tmp 25 ) (.seq (.region 7 reg23_7 false) (.ret)) (.skip)))) (.region 5 reg23_5 false)))))) (.seq (.region 8 reg23_8 false) (.ret))))) := by kernel_rfl
noncomputable def hdSame (av bv : Value) (i : Nat) (u : Nat -> Value) : Frame :=
 (base 23).at { tmps := #[av, bv, u 2, u 3, u 4, .int .i64 i, u 6, u 7, u 8, u 9, u 10, u 11, u 12, u 13, u 14, u 15, u 16, u 17, u 18, u 19, u 20, u 21, u 22, u 23, u 24, u 25], defers := [] } [.code (.seq (.seq (.region 4 reg23_4 false) (.cond (.tmp 14 ) (.skip) (.exit 0))) (.seq (.block 1 (.seq (.region 6 reg23_6 true) (.cond (.tmp 25 ) (.seq (.region 7 reg23_7 false) (.ret)) (.skip)))) (.region 5 reg23_5 false))), .inLoop (.seq (.seq (.region 4 reg23_4 false) (.cond (.tmp 14 ) (.skip) (.exit 0))) (.seq (.block 1 (.seq (.region 6 reg23_6 true) (.cond (.tmp 25 ) (.seq (.region 7 reg23_7 false) (.ret)) (.skip)))) (.region 5 reg23_5 false))), .inBlock 0, .code (.seq (.region 8 reg23_8 false) (.ret))]
section
variable {main : Bool} {V : Nat -> Option Wait}
theorem sn_in (a b : Option Addr) (n ca cb : Nat) (cs : List Frame) (w : World) :
  Walk prog main (DR V) (fun g w' => (∃ u, g = G (hdSame (.slice a n ca) (.slice b n cb) 0 u) cs) /\ ∃ d, w' = w.at d) (G (Frame.enter prog 23 #[.slice a n ca, .slice b n cb] .normal) cs) w := by
 rw [enter_at _ func23 code23_is]
 simp only [ntmps23, ez, Nat.reduceAdd, Nat.reduceSub]
 refine Aa z23 ?_
 refine cLp ?_
 refine .stop fun d => ⟨Ak ?_, d, rfl⟩
 simp only [hdSame]
 rfl
theorem sn_out (a b : Option Addr) (n ca cb : Nat) (u : Nat -> Value) (c : Frame) (cs : List Frame) (w : World) :
  Walk prog main (DR V) (fun g w' => g = G (c.finish (.bool true)) cs /\ ∃ d, w' = w.at d) (G (hdSame (.slice a n ca) (.slice b n cb) n u) (c :: cs)) w := by
 unfold hdSame
 refine Aa z23 ?_
 exact Bk rfl rfl func23 rfl (.stop fun d => ⟨rfl, d, rfl⟩)
theorem sn_go (ab ao n ca bb bo cb i : Nat) (x : Int) (u : Nat -> Value) (cs : List Frame) (w : World) (hi : i < n) (hn : n <= 17592186044416) (ha : w.cell? ⟨ab, ao + i, none⟩ = some (.int .i64 x)) (hb : w.cell? ⟨bb, bo + i, none⟩ = some (.int .i64 x)) :
  Walk prog main (DR V) (fun g w' => (∃ u', g = G (hdSame (.slice (some ⟨ab, ao, none⟩) n ca) (.slice (some ⟨bb, bo, none⟩) n cb) (i + 1) u') cs) /\ ∃ d, w' = w.at d) (G (hdSame (.slice (some ⟨ab, ao, none⟩) n ca) (.slice (some ⟨bb, bo, none⟩) n cb) i u) cs) w := by
 have hw1 := wI ((i : Int) + 1)
 conv => arg 5; unfold hdSame
 refine Aa z23 ?_
 (refine Bn (by kernel_rfl) size23_6 (by kernel_rfl) (by kernel_rfl) (by decide) ?_; simp only [List.range, List.range.loop]; repeat (first | (refine cQ ?_) | (refine Be Ah (by rfl) ?_; walk_nrm)))
 refine cDn ?_
 refine Aa z23 ?_
 refine cIL ?_
 refine .stop fun d' => ⟨Ak ?_, d', rfl⟩
 have hc : ((i + 1 : Nat) : Int) = (i : Int) + 1 := by simp
 simp only [hdSame, hc]
 rfl
theorem sn_loop (a b : Option Addr) (l : List Int) (ca cb : Nat) (hn : l.length <= 17592186044416) (c : Frame) (cs : List Frame) (w : World) (ha : NumA a l w) (hb : NumA b l w) : ∀ (r i : Nat) (u : Nat -> Value), i + r = l.length ->
  Walk prog main (DR V) (fun g w' => g = G (c.finish (.bool true)) cs /\ ∃ d, w' = w.at d) (G (hdSame (.slice a l.length ca) (.slice b l.length cb) i u) (c :: cs)) w := by
 intro r
 induction r with
 | zero =>
  intro i u hi
  have hi : i = l.length := hi
  subst hi
  exact sn_out a b l.length ca cb u c cs w
 | succ r ih =>
  intro i u hi
  have hin : i < l.length := by omega
  have hx := List.getElem?_eq_getElem hin
  obtain ⟨ab, ao, rfl, h1⟩ := ha i _ hx
  obtain ⟨bb, bo, rfl, h2⟩ := hb i _ hx
  refine (sn_go ab ao l.length ca bb bo cb i _ u (c :: cs) w hin hn h1 h2).then ?_
  rintro g w' ⟨⟨u', rfl⟩, d, rfl⟩
  exact Walk.back (ih (i + 1) u' (by omega)) d
theorem sn_w (a b : Option Addr) (l : List Int) (ca cb : Nat) (hn : l.length <= 17592186044416) (w : World) (ha : NumA a l w) (hb : NumA b l w) : Aw prog main V 23 #[.slice a l.length ca, .slice b l.length cb] w (.bool true) w := by
 intro fr cs
 refine (sn_in a b l.length ca cb (fr :: cs) w).then ?_
 rintro g w1 ⟨⟨u, rfl⟩, d, rfl⟩
 refine Walk.back ?_ d
 refine (sn_loop a b l ca cb hn fr cs w ha hb l.length 0 u (by omega)).mono ?_
 rintro g w' ⟨rfl, d, rfl⟩
 exact ⟨_, ⟨rfl, d, rfl⟩, rfl⟩
noncomputable def reg19_0 := rk f19.body 0
noncomputable def reg19_1 := rk f19.body 1
noncomputable def reg19_2 := rk f19.body 2
noncomputable def reg19_3 := rk f19.body 3
noncomputable def reg19_4 := rk f19.body 4
noncomputable def reg19_6 := rk f19.body 6
theorem size19_6 : reg19_6.size = 38 := by kernel_rfl
noncomputable def reg19_7 := rk f19.body 7
noncomputable def reg19_5 := rk f19.body 5
noncomputable def reg19_8 := rk f19.body 8
theorem z19 : reg19_0.size = 1 /\ reg19_1.size = 5 /\ reg19_2.size = 1 /\ reg19_3.size = 1 /\ reg19_4.size = 4 /\ reg19_5.size = 3 /\ reg19_6.size = 38 /\ reg19_7.size = 1 /\ reg19_8.size = 1 := by and_intros <;> kernel_rfl
theorem code19_is : f19.body = some (.seq (.region 0 reg19_0 false) (.seq (.seq (.region 1 reg19_1 false) (.cond (.tmp 10 ) (.seq (.region 2 reg19_2 false) (.ret)) (.skip))) (.seq (.seq (.region 3 reg19_3 false) (.block 0 (.loop (.seq (.seq (.region 4 reg19_4 false) (.cond (.tmp 14 ) (.skip) (.exit 0))) (.seq (.block 1 (.seq (.region 6 reg19_6 true) (.cond (.tmp 54 ) (.seq (.region 7 reg19_7 false) (.ret)) (.skip)))) (.region 5 reg19_5 false)))))) (.seq (.region 8 reg19_8 false) (.ret))))) := by kernel_rfl
noncomputable def hdSA (a b : Value) (i : Nat) (u : Nat -> Value) : Frame :=
 (base 19).at { tmps := #[a, b, u 2, u 3, u 4, .int .i64 i, u 6, u 7, u 8, u 9, u 10, u 11, u 12, u 13, u 14, u 15, u 16, u 17, u 18, u 19, u 20, u 21, u 22, u 23, u 24, u 25, u 26, u 27, u 28, u 29, u 30, u 31, u 32, u 33, u 34, u 35, u 36, u 37, u 38, u 39, u 40, u 41, u 42, u 43, u 44, u 45, u 46, u 47, u 48, u 49, u 50, u 51, u 52, u 53, u 54], defers := [] } [.code (.seq (.seq (.region 4 reg19_4 false) (.cond (.tmp 14 ) (.skip) (.exit 0))) (.seq (.block 1 (.seq (.region 6 reg19_6 true) (.cond (.tmp 54 ) (.seq (.region 7 reg19_7 false) (.ret)) (.skip)))) (.region 5 reg19_5 false))), .inLoop (.seq (.seq (.region 4 reg19_4 false) (.cond (.tmp 14 ) (.skip) (.exit 0))) (.seq (.block 1 (.seq (.region 6 reg19_6 true) (.cond (.tmp 54 ) (.seq (.region 7 reg19_7 false) (.ret)) (.skip)))) (.region 5 reg19_5 false))), .inBlock 0, .code (.seq (.region 8 reg19_8 false) (.ret))]
theorem sa_in (a b : Option Addr) (n ca cb : Nat) (cs : List Frame) (w : World) :
  Walk prog main (DR V) (fun g w' => (∃ u, g = G (hdSA (.slice a n ca) (.slice b n cb) 0 u) cs) /\ ∃ d, w' = w.at d) (G (Frame.enter prog 19 #[.slice a n ca, .slice b n cb] .normal) cs) w := by
 rw [enter_at _ func19 code19_is]
 simp only [ntmps19, ez, Nat.reduceAdd, Nat.reduceSub]
 refine Aa z19 ?_
 refine cLp ?_
 refine .stop fun d => ⟨Ak ?_, d, rfl⟩
 simp only [hdSA]
 rfl
theorem sa_out (a b : Option Addr) (n ca cb : Nat) (u : Nat -> Value) (c : Frame) (cs : List Frame) (w : World) :
  Walk prog main (DR V) (fun g w' => g = G (c.finish (.bool true)) cs /\ ∃ d, w' = w.at d) (G (hdSA (.slice a n ca) (.slice b n cb) n u) (c :: cs)) w := by
 unfold hdSA
 refine Aa z19 ?_
 exact Bk rfl rfl func19 rfl (.stop fun d => ⟨rfl, d, rfl⟩)
theorem sa_go (ab ao n ca bb bo cb i : Nat) (y : Bool) (x : Int) (la lb : Option Addr) (lc ld : Nat) (xl : List Int) (hxl : xl.length <= 1048576) (u : Nat -> Value) (cs : List Frame) (w : World) (hi : i < n) (hn : n <= 17592186044416) (a0 : w.cell? ⟨ab, ao + i * 3, none⟩ = some (.bool y)) (a1 : w.cell? ⟨ab, ao + i * 3 + 1, none⟩ = some (.int .i64 x)) (a2 : w.cell? ⟨ab, ao + i * 3 + 2, none⟩ = some (.slice la xl.length lc)) (b0 : w.cell? ⟨bb, bo + i * 3, none⟩ = some (.bool y)) (b1 : w.cell? ⟨bb, bo + i * 3 + 1, none⟩ = some (.int .i64 x)) (b2 : w.cell? ⟨bb, bo + i * 3 + 2, none⟩ = some (.slice lb xl.length ld)) (n1 : NumA la xl w) (n2 : NumA lb xl w) :
  Walk prog main (DR V) (fun g w' => (∃ u', g = G (hdSA (.slice (some ⟨ab, ao, none⟩) n ca) (.slice (some ⟨bb, bo, none⟩) n cb) (i + 1) u') cs) /\ ∃ d, w' = w.at d) (G (hdSA (.slice (some ⟨ab, ao, none⟩) n ca) (.slice (some ⟨bb, bo, none⟩) n cb) i u) cs) w := by
 have hw1 := wI ((i : Int) + 1)
 have qb := run_neqB (P := prog) 4 und4B y y
 have qe := ev_neqB (P := prog) 4 und4B y y
 have qy : (y != y) = false := by cases y <;> rfl
 have hq := sn_w (main := main) (V := V) la lb xl lc ld (by omega) w n1 n2
 clear n1 n2
 generalize xl.length = m at *
 rw [qy] at qb
 conv => arg 5; unfold hdSA
 refine Aa z19 ?_
 (refine Bn (by kernel_rfl) size19_6 (by kernel_rfl) (by kernel_rfl) (by decide) ?_; simp only [List.range, List.range.loop]; repeat (first | (refine cQ ?_) | (refine Be Ah (by rfl) ?_; walk_nrm)))
 refine Cm.callV (x := .bool true) ?_ Ah (by rfl) rfl func23 (by kernel_rfl) (by rfl) ?_
 ·intro w' e
  subst e
  walk_nrm
  exact hq
 walk_nrm
 repeat (first | (refine cQ ?_) | (refine Be Ah (by rfl) ?_; walk_nrm))
 refine cDn ?_
 refine Aa z19 ?_
 refine cIL ?_
 refine .stop fun d' => ⟨Ak ?_, d', rfl⟩
 have hc : ((i + 1 : Nat) : Int) = (i : Int) + 1 := by simp
 simp only [hdSA, hc]
 rfl
theorem sa_loop (a b : Option Addr) (l : List Ans) (ca cb : Nat) (hn : l.length <= 17592186044416) (c : Frame) (cs : List Frame) (w : World) (ha : AnsA a l w) (hb : AnsA b l w) : ∀ (r i : Nat) (u : Nat -> Value), i + r = l.length ->
  Walk prog main (DR V) (fun g w' => g = G (c.finish (.bool true)) cs /\ ∃ d, w' = w.at d) (G (hdSA (.slice a l.length ca) (.slice b l.length cb) i u) (c :: cs)) w := by
 intro r
 induction r with
 | zero =>
  intro i u hi
  have hi : i = l.length := hi
  subst hi
  exact sa_out a b l.length ca cb u c cs w
 | succ r ih =>
  intro i u hi
  have hin : i < l.length := by omega
  have hx := List.getElem?_eq_getElem hin
  generalize l[i] = x at hx
  obtain ⟨ab, ao, la, lc, rfl, h1, h2, h3, h4, h5⟩ := ha i _ hx
  obtain ⟨bb, bo, lb, ld, rfl, k1, k2, k3, k4, _⟩ := hb i _ hx
  refine (sa_go ab ao l.length ca bb bo cb i x.ok x.n la lb lc ld x.l h5 u (c :: cs) w hin hn h1 h2 h3 k1 k2 k3 h4 k4).then ?_
  rintro g w' ⟨⟨u', rfl⟩, d, rfl⟩
  exact Walk.back (ih (i + 1) u' (by omega)) d
theorem sa_w (a b : Option Addr) (l : List Ans) (ca cb : Nat) (hn : l.length <= 17592186044416) (w : World) (ha : AnsA a l w) (hb : AnsA b l w) : Aw prog main V 19 #[.slice a l.length ca, .slice b l.length cb] w (.bool true) w := by
 intro fr cs
 refine (sa_in a b l.length ca cb (fr :: cs) w).then ?_
 rintro g w1 ⟨⟨u, rfl⟩, d, rfl⟩
 refine Walk.back ?_ d
 refine (sa_loop a b l ca cb hn fr cs w ha hb l.length 0 u (by omega)).mono ?_
 rintro g w' ⟨rfl, d, rfl⟩
 exact ⟨_, ⟨rfl, d, rfl⟩, rfl⟩
end
end Go.Proofs.Ytflcclneedldoaa
