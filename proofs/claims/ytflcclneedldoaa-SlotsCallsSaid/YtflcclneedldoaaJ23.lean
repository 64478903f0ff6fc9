/- Part 23. -/
import Derived.Test.YtflcclneedldoaaJ21
import Derived.Test.YtflcclneedldoaaJ22
set_option linter.unusedSimpArgs false
set_option linter.unusedVariables false
set_option maxHeartbeats 8000000
set_option maxRecDepth 100000
namespace Go.Proofs.Ytflcclneedldoaa
open Go.Conc Go.RowKit Go.Relay Try
open Go.ConcN (upd upd_ne upd_same)
section
variable {a0 M tb tc n m : Nat} {cb : CB} {ta : Option Addr} {S : Rg} {T : Nat -> R11}
theorem gd_on {main : Bool} {i : Nat} (hi : i < n) (k oa ob oc : Int) (v : Int) (hlv : (T i).live) (hsl : (T i).seen.length <= 65536) (hwv : (T i).seen.length < m) (hm2 : m <= 65536) (hb : ((T i).seen.length : Int) + 1 ≠ ob) (hme : (T i).seen.length + 1 ≠ m) (hg : good (T i).q) (hg1 : good ((T i).q + 1)) (hl : (T i).ans.length <= 65536) (hat : (T i).at' <= 65536) (w : World) (I : M11 a0 M cb tb tc n m ta S T w) (hn : n <= 64) (ha0 : a0 <= w.heap.size) :
  CallW prog main (fun _ => none) 160 #[.pointer (some ⟨M, 0, none⟩), .int .i64 i, .agg #[.int .i64 k, .int .i64 oa, .int .i64 ob, .int .i64 oc], .int .i64 v, .int .i64 0] w (fun v' w' => v' = .tuple #[] /\ ∃ sv, M11 a0 M cb tb tc n m ta S (upd T i { T i with q := (T i).q + 1, pc := 1, sv := sv, seen := (T i).seen ++ [v] }) w' /\ Got M cb m tb n T (upd T i { T i with q := (T i).q + 1, pc := 1, sv := sv, seen := (T i).seen ++ [v] }) w w') := by
 intro kf cs
 obtain ⟨hi0, hi1, hi3, hi4⟩ := hIx i n
 refine (gd_more hi k oa ob oc v hlv hsl hwv hm2 hb hme hg hl hat w I hn ha0 (kf :: cs)).then ?_
 rintro _ w5 ⟨g, cap, ⟨u, rfl⟩, I5, g5⟩
 have hz5 : a0 <= w5.heap.size := Nat.le_trans ha0 g5.chg.size
 have hlen : ((T i).seen ++ [v]).length = (T i).seen.length + 1 := by simp
 have c1 := I5.cT (by omega)
 have c5 : w5.cell? ⟨tb, i * 9 + 5, none⟩ = some (.int .i64 ((T i).q + 1)) := I5.tcell hi (by rw [upd_same]; rfl)
 have c8 : w5.cell? ⟨tb, i * 9 + 8, none⟩ = some (.slice (some ⟨g, 0, none⟩) ((T i).seen.length + 1) cap) := I5.tcell hi (by rw [upd_same]; rfl)
 generalize w.heap.size = Zs at *
 clear I
 conv => arg 5; unfold hdGe
 refine Aa z160 ?_
 refine qV (x := .bool true) (W := w5) func20 ?_ ?_
 ·walk_nrm
  exact Dg _ hg1 w5
 walk_nrm
 refine Aa z160 ?_
 exact Au rfl rfl func160 rfl (.stop fun d => ⟨_, ⟨rfl, _, I5.same fun _ _ => rfl, ⟨g5.chg.at d, g5.own⟩⟩, rfl⟩)
theorem gd_last {main : Bool} {i : Nat} (hi : i < n) (k oa ob oc : Int) (v : Int) (hlv : (T i).live) (hsl : (T i).seen.length <= 65536) (hwv : (T i).seen.length < m) (hm2 : m <= 65536) (hb : ((T i).seen.length : Int) + 1 ≠ ob) (hme : (T i).seen.length + 1 ≠ m) (hg : good (T i).q) (hg1 : ¬ good ((T i).q + 1)) (hl : (T i).ans.length <= 65536) (hat : (T i).at' <= 65536) (w : World) (I : M11 a0 M cb tb tc n m ta S T w) (hn : n <= 64) (ha0 : a0 <= w.heap.size) :
  CallW prog main (fun _ => none) 160 #[.pointer (some ⟨M, 0, none⟩), .int .i64 i, .agg #[.int .i64 k, .int .i64 oa, .int .i64 ob, .int .i64 oc], .int .i64 v, .int .i64 0] w (fun v' w' => v' = .tuple #[] /\ ∃ sv av oA, M11 a0 M cb tb tc n m ta S (upd T i (({ T i with q := (T i).q + 1, pc := 1, sv := sv, seen := (T i).seen ++ [v] } : R11).take.told ⟨true, 0, (T i).seen ++ [v]⟩ av oA)) w' /\ Got M cb m tb n T (upd T i (({ T i with q := (T i).q + 1, pc := 1, sv := sv, seen := (T i).seen ++ [v] } : R11).take.told ⟨true, 0, (T i).seen ++ [v]⟩ av oA)) w w') := by
 intro kf cs
 obtain ⟨hi0, hi1, hi3, hi4⟩ := hIx i n
 refine (gd_more hi k oa ob oc v hlv hsl hwv hm2 hb hme hg hl hat w I hn ha0 (kf :: cs)).then ?_
 rintro _ w5 ⟨g, cap, ⟨u, rfl⟩, I5, g5⟩
 have hz5 : a0 <= w5.heap.size := Nat.le_trans ha0 g5.chg.size
 have hlen : ((T i).seen ++ [v]).length = (T i).seen.length + 1 := by simp
 have c1 := I5.cT (by omega)
 have c5 : w5.cell? ⟨tb, i * 9 + 5, none⟩ = some (.int .i64 ((T i).q + 1)) := I5.tcell hi (by rw [upd_same]; rfl)
 have c8 : w5.cell? ⟨tb, i * 9 + 8, none⟩ = some (.slice (some ⟨g, 0, none⟩) ((T i).seen.length + 1) cap) := I5.tcell hi (by rw [upd_same]; rfl)
 generalize w.heap.size = Zs at *
 clear I
 conv => arg 5; unfold hdGe
 refine Aa z160 ?_
 have Rt := (I5.rows i hi).taken (by rw [upd_same]; exact hlv) (by rw [upd_same]; show ((T i).seen ++ [v]).length <= _; rw [hlen]; omega)
 have ht := I5.take hi (by rw [upd_same]; exact hlv)
 have gt := Got.take (M := M) (cb := cb) (m := m) (tb := tb) (w := w5) (T := upd T i { T i with q := (T i).q + 1, pc := 1, sv := .slice (some ⟨g, 0, none⟩) ((T i).seen.length + 1) cap, seen := (T i).seen ++ [v] }) hi (by rw [upd_same]; exact hlv)
 rw [upd_same] at Rt ht gt
 rw [An] at ht gt
 have he := Ch (main := main) hi _ ⟨true, 0, (T i).seen ++ [v]⟩ (.slice (some ⟨g, 0, none⟩) ((T i).seen.length + 1) cap) w5 Rt ht hn (by omega) hl hat
 simp only [Bo, hlen] at he
 refine qV (x := .bool false) (W := w5) func20 ?_ ?_
 ·walk_nrm
  exact Fh _ hg1 w5
 walk_nrm
 try walk_nrm
 refine Aa z160 ?_
 refine qW (Post := Told11 a0 M cb tb tc n m ta S (upd T i ({ T i with q := (T i).q + 1, pc := 1, sv := .slice (some ⟨g, 0, none⟩) ((T i).seen.length + 1) cap, seen := (T i).seen ++ [v] } : R11).take) T i (({ T i with q := (T i).q + 1, pc := 1, sv := .slice (some ⟨g, 0, none⟩) ((T i).seen.length + 1) cap, seen := (T i).seen ++ [v] } : R11).take) ⟨true, 0, (T i).seen ++ [v]⟩ w5) func158 ?_ ?_
 ·walk_nrm
  exact he
 intro vv w9 h
 obtain rfl := h.1
 walk_nrm
 refine Aa z160 ?_
 exact Au rfl rfl func160 rfl (.stop fun d => ⟨_, ⟨rfl, _, (h.by (g5.trans gt) d).2⟩, rfl⟩)
end
def dR (m : Nat) (o : OpV) : RD :=
 if o.k = 1 then .p1 o.a o.b else if o.k = 2 then .g1 o.a else if o.k = 3 then .t o.a
 else if o.k = 4 then .h o.a (min o.b (min 4611686018427387903 (o.a + m - 1))) else .a1 o.a (min o.b m) []
def Hq (m : Nat) (s : Rg) (_ : Int) (o : OpV) : Rg × (Ans ⊕ RD) := (s, match eR m o with | some a => .inl a | none => .inr (dR m o))
def Cr (m : Nat) : La where
 Sg := Rg
 D := RD
 Gh := Unit
 le := fun _ _ => True
 refl := fun _ => trivial
 trans := fun _ _ => trivial
 enter := Hq m
 act := Bd m
 sh := fun _ _ => False
 mono := fun _ h => h
 I := fun _ _ _ => True
 stable := fun _ _ => trivial
 lt := fun _ hb => hb.elim
def SvR (m : Nat) (o : OpV) (t : R11) : RD -> Prop
 | .p1 q v => o.k = 1 /\ q = t.q /\ v = o.b /\ t.pc = 1
 | .p2 q v => o.k = 1 /\ q = t.q /\ v = o.b /\ t.pc = 2
 | .p3 q => o.k = 1 /\ q = t.q /\ t.pc = 3
 | .g1 q => o.k = 2 /\ q = t.q /\ t.pc = 1
 | .g2 q => o.k = 2 /\ q = t.q /\ t.pc = 2 /\ t.x = Bx m t.q
 | .g3 q v => o.k = 2 /\ q = t.q /\ t.pc = 3 /\ t.x = Bx m t.q /\ t.v = v
 | .t q => o.k = 3 /\ q = t.q /\ t.pc = 1
 | .h q l => o.k = 4 /\ q = t.q /\ t.pc = 1 /\ good o.a /\ o.a <= q /\ q <= l /\ l = min o.b (min 4611686018427387903 (o.a + m - 1))
 | .a1 q mo l => o.k = 5 /\ q = t.q /\ t.pc = 1 /\ mo = min o.b m /\ t.live /\ t.seen = l /\ (l.length : Int) < mo
 | .a2 q mo l => o.k = 5 /\ q = t.q /\ t.pc = 2 /\ mo = min o.b m /\ t.live /\ t.seen = l /\ (l.length : Int) < mo /\ t.x = Bx m t.q
 | .a3 q mo l v => o.k = 5 /\ q = t.q /\ t.pc = 3 /\ mo = min o.b m /\ t.live /\ t.seen = l /\ (l.length : Int) < mo /\ t.x = Bx m t.q /\ t.v = v
def St11 (m : Nat) (o : OpV) (t : R11) (d : RD) : Prop := (0 < m /\ good t.q) /\ SvR m o t d
structure Af11 (m : Nat) (o : OpV) (r : Ans ⊕ RD) (t t' : R11) : Prop where
 ov : t'.ov = t.ov
 ops : t'.ops = t.ops
 who : t'.who = t.who
 how : (∃ a, r = .inl a /\ t'.ans = t.ans ++ [a] /\ t'.at' = t.at' + 1 /\ t'.pc = 0) ∨ (∃ d, r = .inr d /\ t'.ans = t.ans /\ t'.at' = t.at' /\ St11 m o t' d)
section
variable {a0 M tb tc n m : Nat} {cb : CB} {ta : Option Addr} {T : Nat -> R11} {main : Bool}
def CallQ (main : Bool) (a0 M : Nat) (cb : CB) (tb tc n m : Nat) (ta : Option Addr) (T : Nat -> R11) (Q : Rg -> R11 -> Prop) (i F : Nat) (args : Array Value) (w : World) : Prop :=
 CallW prog main (fun _ => none) F args w (fun v w' => v = .tuple #[] /\ ∃ S' t', Q S' t' /\ M11 a0 M cb tb tc n m ta S' (upd T i t') w' /\ Got M cb m tb n T (upd T i t') w w')
def Step11 (main : Bool) (a0 M : Nat) (cb : CB) (tb tc n m : Nat) (ta : Option Addr) (T : Nat -> R11) (i : Nat) (s : Rg) (d : RD) (o : OpV) (w : World) : Prop :=
 CallW prog main (fun _ => none) 117 #[.pointer (some ⟨M, 0, none⟩), .int .i64 i] w (fun v w' => v = .tuple #[] /\ ∃ t', M11 a0 M cb tb tc n m ta (Bd m s d).1 (upd T i t') w' /\ Got M cb m tb n T (upd T i t') w w' /\ Af11 m o (Bd m s d).2 (T i) t')
structure QAf (m : Nat) (o : OpV) (s : Rg) (d : RD) (t : R11) (S' : Rg) (t' : R11) : Prop where
 st : S' = (Bd m s d).1
 af : Af11 m o (Bd m s d).2 t t'
theorem Step11.of {i : Nat} {s : Rg} {d : RD} {o : OpV} {w : World} (h : CallQ main a0 M cb tb tc n m ta T (QAf m o s d (T i)) i 117 #[.pointer (some ⟨M, 0, none⟩), .int .i64 i] w) : Step11 main a0 M cb tb tc n m ta T i s d o w := by
 intro c cs
 refine (h c cs).mono ?_
 rintro g w' ⟨v, ⟨rfl, S', t', ⟨rfl, hA⟩, I, G⟩, hg⟩
 exact ⟨_, ⟨rfl, t', I, G, hA⟩, hg⟩
theorem CallQ.same {Q : Rg -> R11 -> Prop} {i F : Nat} {args : Array Value} {w : World} {S' : Rg} (hQ : Q S' (T i)) (h : CallW prog main (fun _ => none) F args w (fun v w' => v = .tuple #[] /\ M11 a0 M cb tb tc n m ta S' T w' /\ Got M cb m tb n T T w w')) : CallQ main a0 M cb tb tc n m ta T Q i F args w := by
 intro c cs
 refine (h c cs).mono ?_
 rintro g w' ⟨v, ⟨rfl, I, G⟩, hg⟩
 have e : upd T i (T i) = T := by
  funext k
  by_cases h : k = i
  ·subst h; rw [upd_same]
  ·rw [upd_ne _ _ h]
 exact ⟨_, ⟨rfl, S', T i, hQ, by rw [e]; exact I, by rw [e]; exact G⟩, hg⟩
theorem CallQ.one {Q : Rg -> R11 -> Prop} {i F : Nat} {args : Array Value} {w : World} {S' : Rg} {t' : R11} (hQ : Q S' t') (h : CallW prog main (fun _ => none) F args w (fun v w' => v = .tuple #[] /\ M11 a0 M cb tb tc n m ta S' (upd T i t') w' /\ Got M cb m tb n T (upd T i t') w w')) : CallQ main a0 M cb tb tc n m ta T Q i F args w := by
 intro c cs
 refine (h c cs).mono ?_
 rintro g w' ⟨v, ⟨rfl, I, G⟩, hg⟩
 exact ⟨_, ⟨rfl, S', t', hQ, I, G⟩, hg⟩
theorem CallQ.some {Q : Rg -> R11 -> Prop} {i F : Nat} {args : Array Value} {w : World} {S' : Rg} {P : R11 -> Prop} (hQ : ∀ t', P t' -> Q S' t') (h : CallW prog main (fun _ => none) F args w (fun v w' => v = .tuple #[] /\ ∃ t', P t' /\ M11 a0 M cb tb tc n m ta S' (upd T i t') w' /\ Got M cb m tb n T (upd T i t') w w')) : CallQ main a0 M cb tb tc n m ta T Q i F args w := by
 intro c cs
 refine (h c cs).mono ?_
 rintro g w' ⟨v, ⟨rfl, t', hP, I, G⟩, hg⟩
 exact ⟨_, ⟨rfl, S', t', hQ t' hP, I, G⟩, hg⟩
theorem CallQ.told {Q : Rg -> R11 -> Prop} {i F : Nat} {args : Array Value} {w : World} {S' : Rg} {t1 : R11} {a : Ans} (hQ : ∀ av oA, Q S' (t1.told a av oA)) (h : CallW prog main (fun _ => none) F args w (fun v w' => v = .tuple #[] /\ ∃ av oA, M11 a0 M cb tb tc n m ta S' (upd T i (t1.told a av oA)) w' /\ Got M cb m tb n T (upd T i (t1.told a av oA)) w w')) : CallQ main a0 M cb tb tc n m ta T Q i F args w := by
 intro c cs
 refine (h c cs).mono ?_
 rintro g w' ⟨v, ⟨rfl, av, oA, I, G⟩, hg⟩
 exact ⟨_, ⟨rfl, S', _, hQ av oA, I, G⟩, hg⟩
end
section
variable {a0 M tb tc n m : Nat} {cb : CB} {ta : Option Addr} {T : Nat -> R11} {main : Bool}
theorem M11.fresh {S : Rg} {w : World} (I : M11 a0 M cb tb tc n m ta S T w) (hn : 0 < n) {b : Nat} (hb : w.heap.size <= b) : ¬ Fb M cb m tb n T b := by
 obtain ⟨l1, l2, l3⟩ := I.lt
 rintro (h | h | h | ⟨k, hk, h⟩)
 ·omega
 ·have := l2 b h; omega
 ·have := l3 hn; omega
 ·have := ((I.rows k hk).low h).2; omega
structure PG (a0 M : Nat) (cb : CB) (tb tc n m : Nat) (ta : Option Addr) (T : Nat -> R11) (s : Rg) (i Sb : Nat) (o : OpV) (w : World) (t1 : R11) (w' : World) : Prop where
 I : M11 a0 M cb tb tc n m ta s (upd T i t1) w'
 got : Got M cb m tb n T (upd T i t1) w w'
 op : w'.heap[Sb]? = some (.cells #[.int .i64 o.k, .int .i64 o.a, .int .i64 o.b, .int .i64 o.c] 45)
 lo : w.heap.size = Sb
theorem PG.fresh {s : Rg} {i Sb : Nat} {o : OpV} {w w' : World} {t1 : R11} (hi : i < n) (I0 : M11 a0 M cb tb tc n m ta s T w) (H : PG a0 M cb tb tc n m ta T s i Sb o w t1 w') (h : ∀ b, t1.own b -> (T i).own b) : ¬ Fb M cb m tb n (upd T i t1) Sb := fun hb => by
 have h0 := I0.fresh (by omega) (b := Sb) (by have := H.lo; omega)
 rcases Bu (M := M) (cb := cb) (m := m) (tb := tb) (T := T) (t := t1) (s := Sb + 1) hi (fun b hb => .inl (h b hb)) Sb hb with h | h
 ·exact h0 h
 ·omega
theorem PG.then {s : Rg} {i Sb : Nat} {o : OpV} {w w1 w2 : World} {t1 t2 : R11} (hi : i < n) (I0 : M11 a0 M cb tb tc n m ta s T w) (H : PG a0 M cb tb tc n m ta T s i Sb o w t1 w1) (h : ∀ b, t1.own b -> (T i).own b) (I2 : M11 a0 M cb tb tc n m ta s (upd (upd T i t1) i t2) w2) (g2 : Got M cb m tb n (upd T i t1) (upd (upd T i t1) i t2) w1 w2) : PG a0 M cb tb tc n m ta T s i Sb o w t2 w2 := by
 have hf := H.fresh hi I0 h
 rw [An] at I2 g2
 have hs := (aEs H.op).1
 exact ⟨I2, H.got.trans g2, (g2.chg.same Sb hs hf).trans H.op, H.lo⟩
theorem PG.at {s : Rg} {i Sb : Nat} {o : OpV} {w w1 : World} {t1 : R11} (H : PG a0 M cb tb tc n m ta T s i Sb o w t1 w1) (d : Nat) : PG a0 M cb tb tc n m ta T s i Sb o w t1 (w1.at d) := ⟨H.I.same fun _ _ => rfl, ⟨H.got.chg.at d, H.got.own⟩, H.op, H.lo⟩
def FinR (a0 M : Nat) (cb : CB) (tb tc n m : Nat) (ta : Option Addr) (T : Nat -> R11) (s : Rg) (i : Nat) (o : OpV) (w : World) (d : RD) (w' : World) : Prop :=
 ∃ t', M11 a0 M cb tb tc n m ta (Bd m s d).1 (upd T i t') w' /\ Got M cb m tb n T (upd T i t') w w' /\ Af11 m o (Bd m s d).2 (T i) t'
theorem FinR.at {s : Rg} {i : Nat} {o : OpV} {w w' : World} {d : RD} (H : FinR a0 M cb tb tc n m ta T s i o w d w') (dd : Nat) : FinR a0 M cb tb tc n m ta T s i o w d (w'.at dd) := by
 obtain ⟨t', I, g, A⟩ := H
 exact ⟨t', I.same fun _ _ => rfl, ⟨g.chg.at dd, g.own⟩, A⟩
def tp (t : R11) (p : Nat) : R11 := { t with pc := (p : Int) + 1 }
theorem Cs {i p : Nat} (hi : i < n) (o : OpV) (s : Rg) (d : RD) (w : World) (I : M11 a0 M cb tb tc n m ta s T w) (hm0 : 0 < m) (hm : m <= 65536) (hg : good (T i).q) (hpc : (T i).pc = (p : Int)) (hp : p <= 1000) (ho : (T i).ops[(T i).at']? = some o) (hol : (T i).ops.length <= 65536)
  (h : ∀ (w1 : World) (u : Nat -> Value) (fr : Frame) (cs : List Frame), w.heap.size <= w1.heap.size -> PG a0 M cb tb tc n m ta T s i w.heap.size o w (tp (T i) p) w1 -> Walk prog main (DR (fun _ => none)) (fun g w' => g = G (fr.finish (.tuple #[])) cs /\ FinR a0 M cb tb tc n m ta T s i o w d w') (G (hdSt11 M i w.heap.size (T i).q (Bl m (T i).q) ((T i).q.tdiv m) p o.k u) (fr :: cs)) w1) : Step11 main a0 M cb tb tc n m ta T i s d o w := by
 intro fr cs
 refine (step11_in hi o w I hm0 hm hg hpc hp ho hol (fr :: cs)).then ?_
 rintro _ w1 ⟨⟨u, rfl⟩, X⟩
 refine (h w1 u fr cs X.got.chg.size ⟨X.I, X.got, X.op, rfl⟩).mono ?_
 rintro g w2 ⟨rfl, h⟩
 exact ⟨_, ⟨rfl, h⟩, rfl⟩
theorem Ie {q : Int} (hg : good q) (m : Nat) : IntKind.i64.wrap (2 * q.tdiv m) = Bx m q /\ 0 <= Bx m q /\ Bx m q < 9223372036854775807 := by
 have h1 := Eb hg m
 have h2 := Dq hg m
 rw [h1]
 refine ⟨by rw [IntKind.wrap_i64]; omega, by omega, by omega⟩
theorem Ht (t : R11) (p : Nat) (b : Nat) (h : (tp t p).own b) : t.own b := h
theorem st_p1 {i : Nat} (hi : i < n) (s : Rg) (o : OpV) (q v : Int) (w : World) (I : M11 a0 M cb tb tc n m ta s T w) (hm : m <= 65536) (hn : n <= 64) (ha0 : a0 <= w.heap.size) (ho : (T i).ops[(T i).at']? = some o) (hol : (T i).ops.length <= 65536) (hal : (T i).ans.length <= (T i).at') (hd : St11 m o (T i) (.p1 q v)) : Step11 main a0 M cb tb tc n m ta T i s (.p1 q v) o w := by
 have hlt := (lEs ho).1
 obtain ⟨⟨hm0, hg⟩, hk, rfl, rfl, hpc⟩ := hd
 obtain ⟨hL, hL0, hL1⟩ := Ie hg m
 have hx := Ec hg hm0
 refine Cs hi o s _ w I hm0 hm hg (p := 1) (by rw [hpc]; rfl) (by omega) ho hol (fun w1 u fr cs hs X => ?_)
 have ha1 : a0 <= w1.heap.size := by omega
 rw [hk]
 refine (stp_p1 hi (T i).q ((T i).q.tdiv m) hx (Bx m (T i).q) hL ⟨hL0, hL1⟩ w1 X.I hn ha1 u fr cs).mono ?_
 rintro g w2 ⟨rfl, I2, g2⟩
 exact ⟨rfl, tp (T i) 1, I2, X.got.trans g2, rfl, rfl, rfl, .inr ⟨_, rfl, rfl, rfl, ⟨hm0, hg⟩, hk, rfl, rfl, rfl⟩⟩
theorem st_p2 {i : Nat} (hi : i < n) (s : Rg) (o : OpV) (q v : Int) (w : World) (I : M11 a0 M cb tb tc n m ta s T w) (hm : m <= 65536) (hn : n <= 64) (ha0 : a0 <= w.heap.size) (ho : (T i).ops[(T i).at']? = some o) (hol : (T i).ops.length <= 65536) (hal : (T i).ans.length <= (T i).at') (hd : St11 m o (T i) (.p2 q v)) : Step11 main a0 M cb tb tc n m ta T i s (.p2 q v) o w := by
 have hlt := (lEs ho).1
 obtain ⟨⟨hm0, hg⟩, hk, rfl, rfl, hpc⟩ := hd
 obtain ⟨hL, hL0, hL1⟩ := Ie hg m
 have hx := Ec hg hm0
 refine Cs hi o s _ w I hm0 hm hg (p := 2) (by rw [hpc]; rfl) (by omega) ho hol (fun w1 u fr cs hs X => ?_)
 have ha1 : a0 <= w1.heap.size := by omega
 have hop := X.op
 rw [hk] at hop
 rw [hk]
 refine (stp_p2 hi (T i).q ((T i).q.tdiv m) hx (Bx m (T i).q) hL ⟨hL0, hL1⟩ 1 o.a o.b o.c w1 hop X.I hn ha1 u fr cs).mono ?_
 rintro g w2 ⟨rfl, I2, g2⟩
 exact ⟨rfl, tp (T i) 2, I2, X.got.trans g2, rfl, rfl, rfl, .inr ⟨_, rfl, rfl, rfl, ⟨hm0, hg⟩, hk, rfl, rfl⟩⟩
theorem st_p3 {i : Nat} (hi : i < n) (s : Rg) (o : OpV) (q : Int) (w : World) (I : M11 a0 M cb tb tc n m ta s T w) (hm : m <= 65536) (hn : n <= 64) (ha0 : a0 <= w.heap.size) (ho : (T i).ops[(T i).at']? = some o) (hol : (T i).ops.length <= 65536) (hal : (T i).ans.length <= (T i).at') (hd : St11 m o (T i) (.p3 q)) : Step11 main a0 M cb tb tc n m ta T i s (.p3 q) o w := by
 have hlt := (lEs ho).1
 obtain ⟨⟨hm0, hg⟩, hk, rfl, hpc⟩ := hd
 obtain ⟨hL, hL0, hL1⟩ := Ie hg m
 have hx := Ec hg hm0
 refine Cs hi o s _ w I hm0 hm hg (p := 3) (by rw [hpc]; rfl) (by omega) ho hol (fun w1 u fr cs hs X => ?_)
 have ha1 : a0 <= w1.heap.size := by omega
 rw [hk]
 refine (stp_p3 hi (T i).q ((T i).q.tdiv m) hx (Bx m (T i).q) hL ⟨hL0, hL1⟩ (by rw [upd_same]; show (T i).ans.length <= _; omega) (by rw [upd_same]; show (T i).at' <= _; omega) w1 X.I hn ha1 u fr cs).mono ?_
 rintro g w2 ⟨rfl, av, oA, I2, g2⟩
 rw [upd_same, An] at I2 g2
 exact ⟨rfl, _, I2, X.got.trans g2, rfl, rfl, rfl, .inl ⟨_, rfl, rfl, rfl, rfl⟩⟩
theorem st_t {i : Nat} (hi : i < n) (s : Rg) (o : OpV) (q : Int) (w : World) (I : M11 a0 M cb tb tc n m ta s T w) (hm : m <= 65536) (hn : n <= 64) (ha0 : a0 <= w.heap.size) (ho : (T i).ops[(T i).at']? = some o) (hol : (T i).ops.length <= 65536) (hal : (T i).ans.length <= (T i).at') (hd : St11 m o (T i) (.t q)) : Step11 main a0 M cb tb tc n m ta T i s (.t q) o w := by
 have hlt := (lEs ho).1
 obtain ⟨⟨hm0, hg⟩, hk, rfl, hpc⟩ := hd
 obtain ⟨hL, hL0, hL1⟩ := Ie hg m
 have hx := Ec hg hm0
 refine Cs hi o s _ w I hm0 hm hg (p := 1) (by rw [hpc]; rfl) (by omega) ho hol (fun w1 u fr cs hs X => ?_)
 have ha1 : a0 <= w1.heap.size := by omega
 rw [hk]
 refine (stp_t hi (T i).q ((T i).q.tdiv m) hx 1 (Bx m (T i).q) hL ⟨hL0, hL1⟩ (by rw [upd_same]; show (T i).ans.length <= _; omega) (by rw [upd_same]; show (T i).at' <= _; omega) w1 X.I hn ha1 u fr cs).mono ?_
 rintro g w2 ⟨rfl, av, oA, I2, g2⟩
 rw [upd_same, An] at I2 g2
 exact ⟨rfl, _, I2, X.got.trans g2, rfl, rfl, rfl, .inl ⟨_, rfl, rfl, rfl, rfl⟩⟩
theorem st_h {i : Nat} (hi : i < n) (s : Rg) (o : OpV) (q l : Int) (w : World) (I : M11 a0 M cb tb tc n m ta s T w) (hm : m <= 65536) (hn : n <= 64) (ha0 : a0 <= w.heap.size) (ho : (T i).ops[(T i).at']? = some o) (hol : (T i).ops.length <= 65536) (hal : (T i).ans.length <= (T i).at') (hd : St11 m o (T i) (.h q l)) : Step11 main a0 M cb tb tc n m ta T i s (.h q l) o w := by
 have hlt := (lEs ho).1
 obtain ⟨⟨hm0, hg⟩, hk, rfl, hpc, hoa, hq1, hq2, rfl⟩ := hd
 obtain ⟨hL, hL0, hL1⟩ := Ie hg m
 have hx := Ec hg hm0
 refine Cs hi o s _ w I hm0 hm hg (p := 1) (by rw [hpc]; rfl) (by omega) ho hol (fun w1 u fr cs hs X => ?_)
 have ha1 : a0 <= w1.heap.size := by omega
 have hop := X.op
 have hSb : tb < w.heap.size := I.lt.2.2 (by omega)
 rw [hk] at hop ⊢
 obtain ⟨l, hl⟩ : ∃ l, min o.b (min 4611686018427387903 (o.a + (m : Int) - 1)) = l := ⟨_, rfl⟩
 rw [hl] at hq2
 by_cases hst : s.st (Bl m (T i).q) = Bx m (T i).q
 ·by_cases hql : (T i).q < l
  ·have e : Bd m s (.h (T i).q (min o.b (min 4611686018427387903 (o.a + (m : Int) - 1)))) = (s, .inr (.h ((T i).q + 1) (min o.b (min 4611686018427387903 (o.a + (m : Int) - 1))))) := by
    show (s, _) = _
    rw [if_pos hst, if_pos (by rw [hl]; exact hql)]
   have hg1 : good ((T i).q + 1) := ⟨by have := hg.1; omega, by omega⟩
   refine (stp_h4 hi (T i).q ((T i).q.tdiv m) hx 1 (Bx m (T i).q) hL ⟨hL0, hL1⟩ hg.1 hg.2 hst hm (by rw [upd_same]; show (T i).ans.length <= _; omega) (by rw [upd_same]; show (T i).at' <= _; omega) 4 o.a o.b o.c w1 hop hSb hoa.1 hoa.2 (by omega) hg1 (by omega) X.I hn ha1 u fr cs).mono ?_
   rintro g w2 ⟨rfl, I2, g2⟩
   rw [upd_same, An] at I2 g2
   exact ⟨rfl, _, by rw [e]; exact I2, X.got.trans g2, rfl, rfl, rfl, .inr ⟨.h ((T i).q + 1) (min o.b (min 4611686018427387903 (o.a + (m : Int) - 1))), by rw [e], rfl, rfl, ⟨hm0, hg1⟩, hk, rfl, rfl, hoa, by omega, by rw [hl]; omega, rfl⟩⟩
  ·have e : Bd m s (.h (T i).q (min o.b (min 4611686018427387903 (o.a + (m : Int) - 1)))) = (s, .inl ⟨true, (T i).q, []⟩) := by
    show (s, _) = _
    rw [if_pos hst, if_neg (by rw [hl]; exact hql), hl, show l = (T i).q by omega]
   by_cases hb : (T i).q = o.b
   ·refine (stp_h1 hi (T i).q ((T i).q.tdiv m) hx 1 (Bx m (T i).q) hL ⟨hL0, hL1⟩ hg.1 hg.2 hst hm (by rw [upd_same]; show (T i).ans.length <= _; omega) (by rw [upd_same]; show (T i).at' <= _; omega) 4 o.a o.b o.c w1 hop hSb hoa.1 hoa.2 (by omega) (by omega) X.I hn ha1 u fr cs).mono ?_
    rintro g w2 ⟨rfl, av, oA, I2, g2⟩
    rw [upd_same, An] at I2 g2
    exact ⟨rfl, _, by rw [e]; exact I2, X.got.trans g2, rfl, rfl, rfl, .inl ⟨_, by rw [e], rfl, rfl, rfl⟩⟩
   ·by_cases hg1 : good ((T i).q + 1)
    ·refine (stp_h3 hi (T i).q ((T i).q.tdiv m) hx 1 (Bx m (T i).q) hL ⟨hL0, hL1⟩ hg.1 hg.2 hst hm (by rw [upd_same]; show (T i).ans.length <= _; omega) (by rw [upd_same]; show (T i).at' <= _; omega) 4 o.a o.b o.c w1 hop hSb hoa.1 hoa.2 hb hg1 (by have := hg1.2; omega) X.I hn ha1 u fr cs).mono ?_
     rintro g w2 ⟨rfl, av, oA, I2, g2⟩
     rw [upd_same, An] at I2 g2
     exact ⟨rfl, _, by rw [e]; exact I2, X.got.trans g2, rfl, rfl, rfl, .inl ⟨_, by rw [e], rfl, rfl, rfl⟩⟩
    ·refine (stp_h2 hi (T i).q ((T i).q.tdiv m) hx 1 (Bx m (T i).q) hL ⟨hL0, hL1⟩ hg.1 hg.2 hst hm (by rw [upd_same]; show (T i).ans.length <= _; omega) (by rw [upd_same]; show (T i).at' <= _; omega) 4 o.a o.b o.c w1 hop hSb hoa.1 hoa.2 hb hg1 X.I hn ha1 u fr cs).mono ?_
     rintro g w2 ⟨rfl, av, oA, I2, g2⟩
     rw [upd_same, An] at I2 g2
     exact ⟨rfl, _, by rw [e]; exact I2, X.got.trans g2, rfl, rfl, rfl, .inl ⟨_, by rw [e], rfl, rfl, rfl⟩⟩
 ·have e : Bd m s (.h (T i).q (min o.b (min 4611686018427387903 (o.a + (m : Int) - 1)))) = (s, .inl ⟨true, (T i).q - 1, []⟩) := by
   show (s, _) = _
   rw [if_neg hst]
  refine (stp_h0 hi (T i).q ((T i).q.tdiv m) hx 1 (Bx m (T i).q) hL ⟨hL0, hL1⟩ hg.1 hg.2 hst (by rw [upd_same]; show (T i).ans.length <= _; omega) (by rw [upd_same]; show (T i).at' <= _; omega) 4 o.a o.b o.c w1 hop hSb X.I hn ha1 u fr cs).mono ?_
  rintro g w2 ⟨rfl, av, oA, I2, g2⟩
  rw [upd_same, An] at I2 g2
  exact ⟨rfl, _, by rw [e]; exact I2, X.got.trans g2, rfl, rfl, rfl, .inl ⟨_, by rw [e], rfl, rfl, rfl⟩⟩
end
section
variable {a0 M tb tc n m : Nat} {cb : CB} {ta : Option Addr} {T : Nat -> R11} {main : Bool}
theorem Cw {f : FuncId} {args : Array Value} {w : World} {P P' : Value -> World -> Prop} (h : CallW prog main (fun _ => none) f args w P) (hP : ∀ v w', P v w' -> P' v w') : CallW prog main (fun _ => none) f args w P' := fun c cs => (h c cs).mono fun g w' ⟨v, hv, e⟩ => ⟨v, hP v w' hv, e⟩
structure Keep (t t1 : R11) : Prop where
 ov : t1.ov = t.ov
 ops : t1.ops = t.ops
 who : t1.who = t.who
 ans : t1.ans = t.ans
 at' : t1.at' = t.at'
 own : ∀ b, t1.own b -> t.own b
theorem Km {s : Rg} {i Sb : Nat} {o : OpV} {w w2 : World} {t1 : R11} {d : RD} (hi : i < n) (hn : n <= 64) (I0 : M11 a0 M cb tb tc n m ta s T w) (ha0 : a0 <= w.heap.size) (hl : (T i).ans.length <= 65536) (hat : (T i).at' <= 65536) (H : PG a0 M cb tb tc n m ta T s i Sb o w t1 w2) (K : Keep (T i) t1) (ok : Bool) (N : Int) (h : Bd m s d = (s, .inl ⟨ok, N, []⟩)) :
  CallW prog main (fun _ => none) 158 #[.pointer (some ⟨M, 0, none⟩), .int .i64 i, .agg #[.bool ok, .int .i64 N, .slice none 0 0]] w2 (fun vv w3 => vv = .tuple #[] /\ FinR a0 M cb tb tc n m ta T s i o w d w3 /\ w3.heap[Sb]? = w2.heap[Sb]?) := by
 have he := Oq (main := main) hi ⟨ok, N, []⟩ (.slice none 0 0) w2 (LsAt.nil _ _ _) H.I hn (by have := H.got.chg.size; omega) (by rw [upd_same, K.ans]; exact hl) (by rw [upd_same, K.at']; exact hat)
 simp only [upd_same] at he
 simp only [Bo] at he
 refine Cw he ?_
 rintro v w3 ⟨rfl, av, oA, I3, g3⟩
 have hf := H.fresh hi I0 K.own
 have hs := (aEs H.op).1
 have e := g3.chg.same Sb hs hf
 rw [An] at I3 g3
 refine ⟨rfl, ⟨_, by rw [h]; exact I3, H.got.trans g3, K.ov, K.ops, K.who, .inl ⟨_, by rw [h], ?_, ?_, rfl⟩⟩, e⟩
 ·show t1.ans ++ _ = _
  rw [K.ans]
 ·show t1.at' + 1 = _
  rw [K.at']
theorem Qf {s : Rg} {i Sb : Nat} {o : OpV} {w w2 : World} {t1 : R11} {d d' : RD} (H : PG a0 M cb tb tc n m ta T s i Sb o w t1 w2) (K : Keep (T i) t1) (h : Bd m s d = (s, .inr d')) (hs : St11 m o t1 d') : FinR a0 M cb tb tc n m ta T s i o w d w2 :=
 ⟨t1, by rw [h]; exact H.I, H.got, K.ov, K.ops, K.who, .inr ⟨d', by rw [h], K.ans, K.at', hs⟩⟩
theorem Qg {s : Rg} {i Sb : Nat} {o : OpV} {w w2 : World} {t1 : R11} {d : RD} (hi : i < n) (hn : n <= 64) (hk : o.k = 5) (I0 : M11 a0 M cb tb tc n m ta s T w) (ha0 : a0 <= w.heap.size) (hl : (T i).ans.length <= 65536) (hat : (T i).at' <= 65536) (H : PG a0 M cb tb tc n m ta T s i Sb o w t1 w2) (K : Keep (T i) t1) (hlv : t1.live) (hsl : t1.seen.length <= 65536) (v e : Int) (he0 : e ≠ 0) (h : Bd m s d = (s, .inl (Gg t1.seen e))) :
  CallW prog main (fun _ => none) 160 #[.pointer (some ⟨M, 0, none⟩), .int .i64 i, .agg #[.int .i64 5, .int .i64 o.a, .int .i64 o.b, .int .i64 o.c], .int .i64 v, .int .i64 e] w2 (fun vv w3 => vv = .tuple #[] /\ FinR a0 M cb tb tc n m ta T s i o w d w3) := by
 have ha2 : a0 <= w2.heap.size := by have := H.got.chg.size; omega
 by_cases hs : t1.seen = []
 ·have hg := gd_none (main := main) (T := upd T i t1) hi 5 o.a o.b o.c v e he0 (by rw [upd_same]; exact hlv) (by rw [upd_same]; exact hs) (by rw [upd_same, K.ans]; exact hl) (by rw [upd_same, K.at']; exact hat) w2 H.I hn ha2
  simp only [upd_same, An] at hg
  refine Cw hg ?_
  rintro vv w3 ⟨rfl, av, oA, I3, g3⟩
  rw [show Gg t1.seen e = ⟨false, e, []⟩ from if_pos hs] at h
  refine ⟨rfl, _, by rw [h]; exact I3, H.got.trans g3, K.ov, K.ops, K.who, .inl ⟨_, by rw [h], ?_, ?_, rfl⟩⟩
  ·show t1.ans ++ _ = _
   rw [K.ans]
  ·show t1.at' + 1 = _
   rw [K.at']
 ·have hg := gd_some (main := main) (T := upd T i t1) hi 5 o.a o.b o.c v e he0 (by rw [upd_same]; exact hlv) (by rw [upd_same]; exact List.length_pos_iff.2 hs) (by rw [upd_same]; omega) (by rw [upd_same, K.ans]; exact hl) (by rw [upd_same, K.at']; exact hat) w2 H.I hn ha2
  simp only [upd_same, An] at hg
  refine Cw hg ?_
  rintro vv w3 ⟨rfl, av, oA, I3, g3⟩
  rw [show Gg t1.seen e = ⟨true, 0, t1.seen⟩ from if_neg hs] at h
  refine ⟨rfl, _, by rw [h]; exact I3, H.got.trans g3, K.ov, K.ops, K.who, .inl ⟨_, by rw [h], ?_, ?_, rfl⟩⟩
  ·show t1.ans ++ _ = _
   rw [K.ans]
  ·show t1.at' + 1 = _
   rw [K.at']
theorem fin_got {s : Rg} {i Sb : Nat} {o : OpV} {w w2 : World} {t1 : R11} {mo : Int} {d : RD} (hi : i < n) (hn : n <= 64) (hm0 : 0 < m) (hm : m <= 65536) (hk : o.k = 5) (I0 : M11 a0 M cb tb tc n m ta s T w) (ha0 : a0 <= w.heap.size) (hl : (T i).ans.length <= 65536) (hat : (T i).at' <= 65536) (H : PG a0 M cb tb tc n m ta T s i Sb o w t1 w2) (K : Keep (T i) t1) (hlv : t1.live) (hg0 : good t1.q) (hmo : mo = min o.b m) (hsl : (t1.seen.length : Int) < mo) (v : Int)
  (h : Bd m s d = (s, if ((t1.seen.length : Int) + 1 < mo) /\ good (t1.q + 1) then .inr (.a1 (t1.q + 1) mo (t1.seen ++ [v])) else .inl ⟨true, 0, t1.seen ++ [v]⟩)) :
  CallW prog main (fun _ => none) 160 #[.pointer (some ⟨M, 0, none⟩), .int .i64 i, .agg #[.int .i64 5, .int .i64 o.a, .int .i64 o.b, .int .i64 o.c], .int .i64 v, .int .i64 0] w2 (fun vv w3 => vv = .tuple #[] /\ FinR a0 M cb tb tc n m ta T s i o w d w3) := by
 have ha2 : a0 <= w2.heap.size := by have := H.got.chg.size; omega
 have fin : ∀ {t2 : R11} {w3 : World}, (Bd m s d).2 = .inl ⟨true, 0, t1.seen ++ [v]⟩ -> (∃ t3 av oA, t2 = R11.told t3 ⟨true, 0, t1.seen ++ [v]⟩ av oA /\ t3.ov = t1.ov /\ t3.ops = t1.ops /\ t3.who = t1.who /\ t3.ans = t1.ans /\ t3.at' = t1.at') -> M11 a0 M cb tb tc n m ta s (upd T i t2) w3 -> Got M cb m tb n (upd T i t1) (upd T i t2) w2 w3 -> FinR a0 M cb tb tc n m ta T s i o w d w3 := by
  rintro t2 w3 e ⟨t3, av, oA, rfl, f1, f2, f3, f4, f5⟩ I3 g3
  refine ⟨_, by rw [h]; exact I3, H.got.trans g3, f1.trans K.ov, f2.trans K.ops, f3.trans K.who, .inl ⟨_, e, ?_, ?_, rfl⟩⟩
  ·show t3.ans ++ _ = _
   rw [f4, K.ans]
  ·show t3.at' + 1 = _
   rw [f5, K.at']
 by_cases hb : (t1.seen.length : Int) + 1 = o.b
 ·have hg := gd_ob (main := main) (T := upd T i t1) hi 5 o.a o.b o.c v (by rw [upd_same]; exact hlv) (by rw [upd_same]; omega) (by rw [upd_same]; omega) hm (by rw [upd_same]; exact hb) (by rw [upd_same, K.ans]; exact hl) (by rw [upd_same, K.at']; exact hat) w2 H.I hn ha2
  simp only [upd_same, An] at hg
  refine Cw hg ?_
  rintro vv w3 ⟨rfl, sv, av, oA, I3, g3⟩
  exact ⟨rfl, fin (by rw [h, if_neg (fun h => by omega)]) ⟨({ t1 with sv := sv, seen := t1.seen ++ [v] } : R11).take, av, oA, rfl, rfl, rfl, rfl, rfl, rfl⟩ I3 g3⟩
 by_cases hme : m <= t1.seen.length + 1
 ·have hg := gd_m (main := main) (T := upd T i t1) hi 5 o.a o.b o.c v (by rw [upd_same]; exact hlv) (by rw [upd_same]; omega) (by rw [upd_same]; omega) hm (by rw [upd_same]; exact hb) (by rw [upd_same]; exact hme) (by rw [upd_same, K.ans]; exact hl) (by rw [upd_same, K.at']; exact hat) w2 H.I hn ha2
  simp only [upd_same, An] at hg
  refine Cw hg ?_
  rintro vv w3 ⟨rfl, sv, av, oA, I3, g3⟩
  exact ⟨rfl, fin (by rw [h, if_neg (fun h => by omega)]) ⟨({ t1 with sv := sv, seen := t1.seen ++ [v] } : R11).take, av, oA, rfl, rfl, rfl, rfl, rfl, rfl⟩ I3 g3⟩
 by_cases hg1 : good (t1.q + 1)
 ·have hg := gd_on (main := main) (T := upd T i t1) hi 5 o.a o.b o.c v (by rw [upd_same]; exact hlv) (by rw [upd_same]; omega) (by rw [upd_same]; omega) hm (by rw [upd_same]; exact hb) (by rw [upd_same]; omega) (by rw [upd_same]; exact hg0) (by rw [upd_same]; exact hg1) (by rw [upd_same, K.ans]; exact hl) (by rw [upd_same, K.at']; exact hat) w2 H.I hn ha2
  simp only [upd_same, An] at hg
  refine Cw hg ?_
  rintro vv w3 ⟨rfl, sv, I3, g3⟩
  refine ⟨rfl, _, by rw [h]; exact I3, H.got.trans g3, K.ov, K.ops, K.who, .inr ⟨.a1 (t1.q + 1) mo (t1.seen ++ [v]), by rw [h, if_pos ⟨by omega, hg1⟩], K.ans, K.at', ⟨hm0, hg1⟩, hk, rfl, rfl, hmo, hlv, rfl, ?_⟩⟩
  simp only [List.length_append, List.length_singleton]
  omega
 ·have hg := gd_last (main := main) (T := upd T i t1) hi 5 o.a o.b o.c v (by rw [upd_same]; exact hlv) (by rw [upd_same]; omega) (by rw [upd_same]; omega) hm (by rw [upd_same]; exact hb) (by rw [upd_same]; omega) (by rw [upd_same]; exact hg0) (by rw [upd_same]; exact hg1) (by rw [upd_same, K.ans]; exact hl) (by rw [upd_same, K.at']; exact hat) w2 H.I hn ha2
  simp only [upd_same, An] at hg
  refine Cw hg ?_
  rintro vv w3 ⟨rfl, sv, av, oA, I3, g3⟩
  exact ⟨rfl, fin (by rw [h, if_neg (fun h => hg1 h.2)]) ⟨({ t1 with q := t1.q + 1, pc := 1, sv := sv, seen := t1.seen ++ [v] } : R11).take, av, oA, rfl, rfl, rfl, rfl, rfl, rfl⟩ I3 g3⟩
theorem Im {s : Rg} {i Sb p : Nat} {o : OpV} {w w1 : World} {t1 t2 : R11} {V : Value} {args : Array Value} (hi : i < n) (I0 : M11 a0 M cb tb tc n m ta s T w) (H : PG a0 M cb tb tc n m ta T s i Sb o w t1 w1) (hown : ∀ b, t1.own b -> (T i).own b) (h : CallW prog main (fun _ => none) 159 args w1 (fun v w' => v = V /\ M11 a0 M cb tb tc n m ta s (upd (upd T i t1) i t2) w' /\ Got M cb m tb n (upd T i t1) (upd (upd T i t1) i t2) w1 w')) :
  CallW prog main (fun _ => none) 159 args w1 (fun v w' => v = V /\ PG a0 M cb tb tc n m ta T s i Sb o w t2 w') :=
 Cw h fun v w' ⟨e, I2, g2⟩ => ⟨e, H.then hi I0 hown I2 g2⟩
theorem Mu {s : Rg} {i Sb p : Nat} {o : OpV} {w w1 : World} {t1 : R11} {V : Value} {args : Array Value} (H : PG a0 M cb tb tc n m ta T s i Sb o w t1 w1) (h : Aw prog main (fun _ => none) 159 args w1 V w1) :
  CallW prog main (fun _ => none) 159 args w1 (fun v w' => v = V /\ PG a0 M cb tb tc n m ta T s i Sb o w t1 w') :=
 fun c cs => (h c cs).mono fun g w' ⟨v, ⟨e, d, h⟩, hg⟩ => ⟨v, ⟨e, h ▸ H.at d⟩, hg⟩
theorem st_g1 {i : Nat} (hi : i < n) (s : Rg) (o : OpV) (q : Int) (w : World) (I : M11 a0 M cb tb tc n m ta s T w) (hm : m <= 65536) (hn : n <= 64) (ha0 : a0 <= w.heap.size) (ho : (T i).ops[(T i).at']? = some o) (hol : (T i).ops.length <= 65536) (hal : (T i).ans.length <= (T i).at') (hd : St11 m o (T i) (.g1 q)) : Step11 main a0 M cb tb tc n m ta T i s (.g1 q) o w := by
 have hlt := (lEs ho).1
 obtain ⟨⟨hm0, hg⟩, hk, rfl, hpc⟩ := hd
 refine Cs hi o s _ w I hm0 hm hg (p := 1) (by rw [hpc]; rfl) (by omega) ho hol (fun w1 u fr cs hs X => ?_)
 have ha1 : a0 <= w1.heap.size := by omega
 have hl : (T i).ans.length <= 65536 := by omega
 have hat : (T i).at' <= 65536 := by omega
 have hop : ∀ {t1 : R11} w2, PG a0 M cb tb tc n m ta T s i w.heap.size o w t1 w2 -> w2.heap[w.heap.size]? = some (.cells #[.int .i64 2, .int .i64 o.a, .int .i64 o.b, .int .i64 o.c] 45) := fun w2 h => by have := h.op; rwa [hk] at this
 rw [hk]
 by_cases h1 : s.st (Bl m (T i).q) < Bx m (T i).q
 ·have hact : Bd m s (.g1 (T i).q) = (s, .inl ⟨false, 6, []⟩) := congrArg (Prod.mk s) (if_pos h1)
  exact stp_2e (T i).q ((T i).q.tdiv m) 1 o.a o.b o.c 6 (by decide) w1 (PG a0 M cb tb tc n m ta T s i w.heap.size o w ({ tp (T i) 1 with x := s.st (Bl m (T i).q) })) _ (fun w d h => h.at d) (fun w2 h => hop w2 h) (Im (p := 1) (t2 := ({ tp (T i) 1 with x := s.st (Bl m (T i).q) })) hi I X (Ht (T i) _) (by have h := get_1l (main := main) (T := upd T i (tp (T i) 1)) hi (by rw [upd_same]; exact hg) hm0 hm (by rw [upd_same]; exact h1) w1 X.I hn ha1; (try simp only [upd_same] at h); exact h)) (fun w2 h => Km hi hn I ha0 hl hat h ⟨rfl, rfl, rfl, rfl, rfl, fun b h => h⟩ false 6 hact) u fr cs
 by_cases h2 : Bx m (T i).q < s.st (Bl m (T i).q)
 ·have hact : Bd m s (.g1 (T i).q) = (s, .inl ⟨false, 10, []⟩) := congrArg (Prod.mk s) ((if_neg h1).trans (if_pos h2))
  exact stp_2e (T i).q ((T i).q.tdiv m) 1 o.a o.b o.c 10 (by decide) w1 (PG a0 M cb tb tc n m ta T s i w.heap.size o w ({ tp (T i) 1 with x := s.st (Bl m (T i).q) })) _ (fun w d h => h.at d) (fun w2 h => hop w2 h) (Im (p := 1) (t2 := ({ tp (T i) 1 with x := s.st (Bl m (T i).q) })) hi I X (Ht (T i) _) (by have h := get_1g (main := main) (T := upd T i (tp (T i) 1)) hi (by rw [upd_same]; exact hg) hm0 hm (by rw [upd_same]; exact h2) w1 X.I hn ha1; (try simp only [upd_same] at h); exact h)) (fun w2 h => Km hi hn I ha0 hl hat h ⟨rfl, rfl, rfl, rfl, rfl, fun b h => h⟩ false 10 hact) u fr cs
 ·have hact : Bd m s (.g1 (T i).q) = (s, .inr (.g2 (T i).q)) := congrArg (Prod.mk s) ((if_neg h1).trans (if_neg h2))
  exact stp_2f (T i).q ((T i).q.tdiv m) 1 o.a o.b o.c w1 (PG a0 M cb tb tc n m ta T s i w.heap.size o w ({ tp (T i) 1 with x := s.st (Bl m (T i).q) })) _ (fun w d h => h.at d) (fun w2 h => hop w2 h) (Im (p := 1) (t2 := ({ tp (T i) 1 with x := s.st (Bl m (T i).q) })) hi I X (Ht (T i) _) (by have h := get_1e (main := main) (T := upd T i (tp (T i) 1)) hi (by rw [upd_same]; exact hg) hm0 hm (by rw [upd_same]; show s.st (Bl m (T i).q) <= Bx m (T i).q; omega) (by rw [upd_same]; show Bx m (T i).q <= s.st (Bl m (T i).q); omega) w1 X.I hn ha1; (try simp only [upd_same] at h); exact h)) (fun w2 h => Qf h ⟨rfl, rfl, rfl, rfl, rfl, fun b h => h⟩ hact ⟨⟨hm0, hg⟩, hk, rfl, rfl, (by show s.st (Bl m (T i).q) = Bx m (T i).q; omega)⟩) u fr cs
theorem st_g2 {i : Nat} (hi : i < n) (s : Rg) (o : OpV) (q : Int) (w : World) (I : M11 a0 M cb tb tc n m ta s T w) (hm : m <= 65536) (hn : n <= 64) (ha0 : a0 <= w.heap.size) (ho : (T i).ops[(T i).at']? = some o) (hol : (T i).ops.length <= 65536) (hal : (T i).ans.length <= (T i).at') (hd : St11 m o (T i) (.g2 q)) : Step11 main a0 M cb tb tc n m ta T i s (.g2 q) o w := by
 have hlt := (lEs ho).1
 obtain ⟨⟨hm0, hg⟩, hk, rfl, hpc, hx⟩ := hd
 refine Cs hi o s _ w I hm0 hm hg (p := 2) (by rw [hpc]; rfl) (by omega) ho hol (fun w1 u fr cs hs X => ?_)
 have ha1 : a0 <= w1.heap.size := by omega
 have hl : (T i).ans.length <= 65536 := by omega
 have hat : (T i).at' <= 65536 := by omega
 have hop : ∀ {t1 : R11} w2, PG a0 M cb tb tc n m ta T s i w.heap.size o w t1 w2 -> w2.heap[w.heap.size]? = some (.cells #[.int .i64 2, .int .i64 o.a, .int .i64 o.b, .int .i64 o.c] 45) := fun w2 h => by have := h.op; rwa [hk] at this
 rw [hk]
 have hact : Bd m s (.g2 (T i).q) = (s, .inr (.g3 (T i).q (s.va (Bl m (T i).q)))) := rfl
 exact stp_2f (T i).q ((T i).q.tdiv m) 2 o.a o.b o.c w1 (PG a0 M cb tb tc n m ta T s i w.heap.size o w ({ tp (T i) 2 with v := s.va (Bl m (T i).q) })) _ (fun w d h => h.at d) (fun w2 h => hop w2 h) (Im (p := 1) (t2 := ({ tp (T i) 2 with v := s.va (Bl m (T i).q) })) hi I X (Ht (T i) _) (by have h := get_2 (main := main) (T := upd T i (tp (T i) 2)) hi (by rw [upd_same]; exact hg) hm0 hm  w1 X.I hn ha1; (try simp only [upd_same] at h); exact h)) (fun w2 h => Qf h ⟨rfl, rfl, rfl, rfl, rfl, fun b h => h⟩ hact ⟨⟨hm0, hg⟩, hk, rfl, rfl, hx, rfl⟩) u fr cs
theorem st_g3 {i : Nat} (hi : i < n) (s : Rg) (o : OpV) (q v : Int) (w : World) (I : M11 a0 M cb tb tc n m ta s T w) (hm : m <= 65536) (hn : n <= 64) (ha0 : a0 <= w.heap.size) (ho : (T i).ops[(T i).at']? = some o) (hol : (T i).ops.length <= 65536) (hal : (T i).ans.length <= (T i).at') (hd : St11 m o (T i) (.g3 q v)) : Step11 main a0 M cb tb tc n m ta T i s (.g3 q v) o w := by
 have hlt := (lEs ho).1
 obtain ⟨⟨hm0, hg⟩, hk, rfl, hpc, hx, hv⟩ := hd
 refine Cs hi o s _ w I hm0 hm hg (p := 3) (by rw [hpc]; rfl) (by omega) ho hol (fun w1 u fr cs hs X => ?_)
 have ha1 : a0 <= w1.heap.size := by omega
 have hl : (T i).ans.length <= 65536 := by omega
 have hat : (T i).at' <= 65536 := by omega
 have hop : ∀ {t1 : R11} w2, PG a0 M cb tb tc n m ta T s i w.heap.size o w t1 w2 -> w2.heap[w.heap.size]? = some (.cells #[.int .i64 2, .int .i64 o.a, .int .i64 o.b, .int .i64 o.c] 45) := fun w2 h => by have := h.op; rwa [hk] at this
 rw [hk]
 by_cases h1 : s.st (Bl m (T i).q) = Bx m (T i).q
 ·have hact : Bd m s (.g3 (T i).q v) = (s, .inl ⟨true, v, []⟩) := congrArg (Prod.mk s) (if_pos h1)
  have hgt := (Mu (p := 1) X (by have h := get_3e (main := main) (T := upd T i (tp (T i) 3)) hi (by rw [upd_same]; exact hg) hm0 hm (by rw [upd_same]; exact (h1.trans hx.symm)) w1 X.I hn ha1; (try simp only [upd_same] at h); exact h))
  rw [show (tp (T i) 3).v = v from hv] at hgt
  exact stp_2v (T i).q ((T i).q.tdiv m) 3 o.a o.b o.c v w1 (PG a0 M cb tb tc n m ta T s i w.heap.size o w (tp (T i) 3)) _ (fun w d h => h.at d) (fun w2 h => hop w2 h) hgt (fun w2 h => Km hi hn I ha0 hl hat h ⟨rfl, rfl, rfl, rfl, rfl, fun b h => h⟩ true v hact) u fr cs
 ·have hact : Bd m s (.g3 (T i).q v) = (s, .inl ⟨false, 10, []⟩) := congrArg (Prod.mk s) (if_neg h1)
  exact stp_2e (T i).q ((T i).q.tdiv m) 3 o.a o.b o.c 10 (by decide) w1 (PG a0 M cb tb tc n m ta T s i w.heap.size o w (tp (T i) 3)) _ (fun w d h => h.at d) (fun w2 h => hop w2 h) (Mu (p := 1) X (by have h := get_3n (main := main) (T := upd T i (tp (T i) 3)) hi (by rw [upd_same]; exact hg) hm0 hm (by rw [upd_same]; exact (fun e => h1 (e.trans hx))) w1 X.I hn ha1; (try simp only [upd_same] at h); exact h)) (fun w2 h => Km hi hn I ha0 hl hat h ⟨rfl, rfl, rfl, rfl, rfl, fun b h => h⟩ false 10 hact) u fr cs
theorem st_a1 {i : Nat} (hi : i < n) (s : Rg) (o : OpV) (q mo : Int) (l : List Int) (w : World) (I : M11 a0 M cb tb tc n m ta s T w) (hm : m <= 65536) (hn : n <= 64) (ha0 : a0 <= w.heap.size) (ho : (T i).ops[(T i).at']? = some o) (hol : (T i).ops.length <= 65536) (hal : (T i).ans.length <= (T i).at') (hd : St11 m o (T i) (.a1 q mo l)) : Step11 main a0 M cb tb tc n m ta T i s (.a1 q mo l) o w := by
 have hlt := (lEs ho).1
 obtain ⟨⟨hm0, hg⟩, hk, rfl, hpc, hmo, hlv, hsn, hll⟩ := hd
 refine Cs hi o s _ w I hm0 hm hg (p := 1) (by rw [hpc]; rfl) (by omega) ho hol (fun w1 u fr cs hs X => ?_)
 have ha1 : a0 <= w1.heap.size := by omega
 have hl : (T i).ans.length <= 65536 := by omega
 have hat : (T i).at' <= 65536 := by omega
 have hop : ∀ {t1 : R11} w2, PG a0 M cb tb tc n m ta T s i w.heap.size o w t1 w2 -> w2.heap[w.heap.size]? = some (.cells #[.int .i64 5, .int .i64 o.a, .int .i64 o.b, .int .i64 o.c] 45) := fun w2 h => by have := h.op; rwa [hk] at this
 rw [hk]
 by_cases h1 : s.st (Bl m (T i).q) < Bx m (T i).q
 ·have hact : Bd m s (.a1 (T i).q mo l) = (s, .inl (Gg l 6)) := congrArg (Prod.mk s) (if_pos h1)
  exact Pq (T i).q ((T i).q.tdiv m) 1 o.a o.b o.c 0 6 w1 (PG a0 M cb tb tc n m ta T s i w.heap.size o w ({ tp (T i) 1 with x := s.st (Bl m (T i).q) })) _ (fun w d h => h.at d) (fun w2 h => hop w2 h) (Im (p := 1) (t2 := ({ tp (T i) 1 with x := s.st (Bl m (T i).q) })) hi I X (Ht (T i) _) (by have h := get_1l (main := main) (T := upd T i (tp (T i) 1)) hi (by rw [upd_same]; exact hg) hm0 hm (by rw [upd_same]; exact h1) w1 X.I hn ha1; (try simp only [upd_same] at h); exact h)) (fun w2 h => Qg hi hn hk I ha0 hl hat h ⟨rfl, rfl, rfl, rfl, rfl, fun b h => h⟩ hlv (by show (T i).seen.length <= 65536; rw [hsn]; omega) 0 6 (by decide) (by show Bd m s _ = (s, .inl (Gg (T i).seen 6)); rw [hsn]; exact hact)) u fr cs
 by_cases h2 : Bx m (T i).q < s.st (Bl m (T i).q)
 ·have hact : Bd m s (.a1 (T i).q mo l) = (s, .inl (Gg l 10)) := congrArg (Prod.mk s) ((if_neg h1).trans (if_pos h2))
  exact Pq (T i).q ((T i).q.tdiv m) 1 o.a o.b o.c 0 10 w1 (PG a0 M cb tb tc n m ta T s i w.heap.size o w ({ tp (T i) 1 with x := s.st (Bl m (T i).q) })) _ (fun w d h => h.at d) (fun w2 h => hop w2 h) (Im (p := 1) (t2 := ({ tp (T i) 1 with x := s.st (Bl m (T i).q) })) hi I X (Ht (T i) _) (by have h := get_1g (main := main) (T := upd T i (tp (T i) 1)) hi (by rw [upd_same]; exact hg) hm0 hm (by rw [upd_same]; exact h2) w1 X.I hn ha1; (try simp only [upd_same] at h); exact h)) (fun w2 h => Qg hi hn hk I ha0 hl hat h ⟨rfl, rfl, rfl, rfl, rfl, fun b h => h⟩ hlv (by show (T i).seen.length <= 65536; rw [hsn]; omega) 0 10 (by decide) (by show Bd m s _ = (s, .inl (Gg (T i).seen 10)); rw [hsn]; exact hact)) u fr cs
 ·have hact : Bd m s (.a1 (T i).q mo l) = (s, .inr (.a2 (T i).q mo l)) := congrArg (Prod.mk s) ((if_neg h1).trans (if_neg h2))
  exact stp_5f (T i).q ((T i).q.tdiv m) 1 o.a o.b o.c w1 (PG a0 M cb tb tc n m ta T s i w.heap.size o w ({ tp (T i) 1 with x := s.st (Bl m (T i).q) })) _ (fun w d h => h.at d) (fun w2 h => hop w2 h) (Im (p := 1) (t2 := ({ tp (T i) 1 with x := s.st (Bl m (T i).q) })) hi I X (Ht (T i) _) (by have h := get_1e (main := main) (T := upd T i (tp (T i) 1)) hi (by rw [upd_same]; exact hg) hm0 hm (by rw [upd_same]; show s.st (Bl m (T i).q) <= Bx m (T i).q; omega) (by rw [upd_same]; show Bx m (T i).q <= s.st (Bl m (T i).q); omega) w1 X.I hn ha1; (try simp only [upd_same] at h); exact h)) (fun w2 h => Qf h ⟨rfl, rfl, rfl, rfl, rfl, fun b h => h⟩ hact ⟨⟨hm0, hg⟩, hk, rfl, rfl, hmo, hlv, hsn, hll, (by show s.st (Bl m (T i).q) = Bx m (T i).q; omega)⟩) u fr cs
theorem st_a2 {i : Nat} (hi : i < n) (s : Rg) (o : OpV) (q mo : Int) (l : List Int) (w : World) (I : M11 a0 M cb tb tc n m ta s T w) (hm : m <= 65536) (hn : n <= 64) (ha0 : a0 <= w.heap.size) (ho : (T i).ops[(T i).at']? = some o) (hol : (T i).ops.length <= 65536) (hal : (T i).ans.length <= (T i).at') (hd : St11 m o (T i) (.a2 q mo l)) : Step11 main a0 M cb tb tc n m ta T i s (.a2 q mo l) o w := by
 have hlt := (lEs ho).1
 obtain ⟨⟨hm0, hg⟩, hk, rfl, hpc, hmo, hlv, hsn, hll, hx⟩ := hd
 refine Cs hi o s _ w I hm0 hm hg (p := 2) (by rw [hpc]; rfl) (by omega) ho hol (fun w1 u fr cs hs X => ?_)
 have ha1 : a0 <= w1.heap.size := by omega
 have hl : (T i).ans.length <= 65536 := by omega
 have hat : (T i).at' <= 65536 := by omega
 have hop : ∀ {t1 : R11} w2, PG a0 M cb tb tc n m ta T s i w.heap.size o w t1 w2 -> w2.heap[w.heap.size]? = some (.cells #[.int .i64 5, .int .i64 o.a, .int .i64 o.b, .int .i64 o.c] 45) := fun w2 h => by have := h.op; rwa [hk] at this
 rw [hk]
 have hact : Bd m s (.a2 (T i).q mo l) = (s, .inr (.a3 (T i).q mo l (s.va (Bl m (T i).q)))) := rfl
 exact stp_5f (T i).q ((T i).q.tdiv m) 2 o.a o.b o.c w1 (PG a0 M cb tb tc n m ta T s i w.heap.size o w ({ tp (T i) 2 with v := s.va (Bl m (T i).q) })) _ (fun w d h => h.at d) (fun w2 h => hop w2 h) (Im (p := 1) (t2 := ({ tp (T i) 2 with v := s.va (Bl m (T i).q) })) hi I X (Ht (T i) _) (by have h := get_2 (main := main) (T := upd T i (tp (T i) 2)) hi (by rw [upd_same]; exact hg) hm0 hm  w1 X.I hn ha1; (try simp only [upd_same] at h); exact h)) (fun w2 h => Qf h ⟨rfl, rfl, rfl, rfl, rfl, fun b h => h⟩ hact ⟨⟨hm0, hg⟩, hk, rfl, rfl, hmo, hlv, hsn, hll, hx, rfl⟩) u fr cs
theorem st_a3 {i : Nat} (hi : i < n) (s : Rg) (o : OpV) (q mo : Int) (l : List Int) (v : Int) (w : World) (I : M11 a0 M cb tb tc n m ta s T w) (hm : m <= 65536) (hn : n <= 64) (ha0 : a0 <= w.heap.size) (ho : (T i).ops[(T i).at']? = some o) (hol : (T i).ops.length <= 65536) (hal : (T i).ans.length <= (T i).at') (hd : St11 m o (T i) (.a3 q mo l v)) : Step11 main a0 M cb tb tc n m ta T i s (.a3 q mo l v) o w := by
 have hlt := (lEs ho).1
 obtain ⟨⟨hm0, hg⟩, hk, rfl, hpc, hmo, hlv, hsn, hll, hx, hv⟩ := hd
 refine Cs hi o s _ w I hm0 hm hg (p := 3) (by rw [hpc]; rfl) (by omega) ho hol (fun w1 u fr cs hs X => ?_)
 have ha1 : a0 <= w1.heap.size := by omega
 have hl : (T i).ans.length <= 65536 := by omega
 have hat : (T i).at' <= 65536 := by omega
 have hop : ∀ {t1 : R11} w2, PG a0 M cb tb tc n m ta T s i w.heap.size o w t1 w2 -> w2.heap[w.heap.size]? = some (.cells #[.int .i64 5, .int .i64 o.a, .int .i64 o.b, .int .i64 o.c] 45) := fun w2 h => by have := h.op; rwa [hk] at this
 rw [hk]
 by_cases h1 : s.st (Bl m (T i).q) = Bx m (T i).q
 ·have hact : Bd m s (.a3 (T i).q mo l v) = (s, if ((l.length : Int) + 1 < mo) /\ good ((T i).q + 1) then .inr (.a1 ((T i).q + 1) mo (l ++ [v])) else .inl ⟨true, 0, l ++ [v]⟩) := congrArg (Prod.mk s) (if_pos h1)
  have hgt := (Mu (p := 1) X (by have h := get_3e (main := main) (T := upd T i (tp (T i) 3)) hi (by rw [upd_same]; exact hg) hm0 hm (by rw [upd_same]; exact (h1.trans hx.symm)) w1 X.I hn ha1; (try simp only [upd_same] at h); exact h))
  rw [show (tp (T i) 3).v = v from hv] at hgt
  exact Pq (T i).q ((T i).q.tdiv m) 3 o.a o.b o.c v 0 w1 (PG a0 M cb tb tc n m ta T s i w.heap.size o w (tp (T i) 3)) _ (fun w d h => h.at d) (fun w2 h => hop w2 h) hgt (fun w2 h => fin_got hi hn hm0 hm hk I ha0 hl hat h ⟨rfl, rfl, rfl, rfl, rfl, fun b h => h⟩ hlv hg hmo (by show ((T i).seen.length : Int) < mo; rw [hsn]; exact hll) v (by show Bd m s _ = (s, if (((T i).seen.length : Int) + 1 < mo) /\ good ((T i).q + 1) then .inr (.a1 ((T i).q + 1) mo ((T i).seen ++ [v])) else .inl ⟨true, 0, (T i).seen ++ [v]⟩); rw [hsn]; exact hact)) u fr cs
 ·have hact : Bd m s (.a3 (T i).q mo l v) = (s, .inl (Gg l 10)) := congrArg (Prod.mk s) (if_neg h1)
  exact Pq (T i).q ((T i).q.tdiv m) 3 o.a o.b o.c 0 10 w1 (PG a0 M cb tb tc n m ta T s i w.heap.size o w (tp (T i) 3)) _ (fun w d h => h.at d) (fun w2 h => hop w2 h) (Mu (p := 1) X (by have h := get_3n (main := main) (T := upd T i (tp (T i) 3)) hi (by rw [upd_same]; exact hg) hm0 hm (by rw [upd_same]; exact (fun e => h1 (e.trans hx))) w1 X.I hn ha1; (try simp only [upd_same] at h); exact h)) (fun w2 h => Qg hi hn hk I ha0 hl hat h ⟨rfl, rfl, rfl, rfl, rfl, fun b h => h⟩ hlv (by show (T i).seen.length <= 65536; rw [hsn]; omega) 0 10 (by decide) (by show Bd m s _ = (s, .inl (Gg (T i).seen 10)); rw [hsn]; exact hact)) u fr cs
theorem step11_w {i : Nat} (hi : i < n) (s : Rg) (o : OpV) (d : RD) (w : World) (I : M11 a0 M cb tb tc n m ta s T w) (hm : m <= 65536) (hn : n <= 64) (ha0 : a0 <= w.heap.size) (ho : (T i).ops[(T i).at']? = some o) (hol : (T i).ops.length <= 65536) (hal : (T i).ans.length <= (T i).at') (hd : St11 m o (T i) d) : Step11 main a0 M cb tb tc n m ta T i s d o w := by
 cases d with
 | p1 q v => exact st_p1 hi s o q v w I hm hn ha0 ho hol hal hd
 | p2 q v => exact st_p2 hi s o q v w I hm hn ha0 ho hol hal hd
 | p3 q => exact st_p3 hi s o q w I hm hn ha0 ho hol hal hd
 | g1 q => exact st_g1 hi s o q w I hm hn ha0 ho hol hal hd
 | g2 q => exact st_g2 hi s o q w I hm hn ha0 ho hol hal hd
 | g3 q v => exact st_g3 hi s o q v w I hm hn ha0 ho hol hal hd
 | t q => exact st_t hi s o q w I hm hn ha0 ho hol hal hd
 | h q l => exact st_h hi s o q l w I hm hn ha0 ho hol hal hd
 | a1 q mo l => exact st_a1 hi s o q mo l w I hm hn ha0 ho hol hal hd
 | a2 q mo l => exact st_a2 hi s o q mo l w I hm hn ha0 ho hol hal hd
 | a3 q mo l v => exact st_a3 hi s o q mo l v w I hm hn ha0 ho hol hal hd
end
end Go.Proofs.Ytflcclneedldoaa
