/- Part 23. -/
import Derived.Test.YtcdcnmphjhfbpaaJ21
import Derived.Test.YtcdcnmphjhfbpaaJ22
set_option linter.unusedSimpArgs false
set_option linter.unusedVariables false
set_option linter.unusedVariables false
set_option maxHeartbeats 8000000
set_option maxRecDepth 100000
namespace Go.Proofs.Ytcdcnmphjhfbpaa
open Go.Conc Go.RowKit Go.Relay
open Go.ConcN (upd upd_ne upd_same)
section
def dR (m : Nat) (o : OpV) : RD :=
 if o.k = 1 then .p1 o.a o.b else if o.k = 2 then .g1 o.a else if o.k = 3 then .t o.a
 else if o.k = 4 then .h o.a (min o.b (min 4611686018427387903 (o.a + m - 1))) else .a1 o.a (min o.b m) []
def Ed (m : Nat) (s : Rg) (_ : Int) (o : OpV) : Rg × (Ans ⊕ RD) := (s, match eR m o with | some a => .inl a | none => .inr (dR m o))
def Bp (m : Nat) : La where
 Sg := Rg
 D := RD
 Gh := Unit
 le := fun _ _ => True
 refl := fun _ => trivial
 trans := fun _ _ => trivial
 enter := Ed m
 act := Bh m
 sh := fun _ _ => False
 mono := fun _ h => h
 I := fun _ _ _ => True
 stable := fun _ _ => trivial
 lt := fun _ hb => hb.elim
def SvR (m : Nat) (o : OpV) (t : R11) : RD -> Prop
 | .p1 q v => o.k = 1 /\ q = t.q /\ v = o.b /\ t.pc = 1
 | .p2 q v => o.k = 1 /\ q = t.q /\ v = o.b /\ t.pc = 2
 | .p3 q => o.k = 1 /\ q = t.q /\ t.pc = 3
 | .g1 q => o.k = 2 /\ q = t.q /\ t.pc = 1
 | .g2 q => o.k = 2 /\ q = t.q /\ t.pc = 2 /\ t.x = Ce m t.q
 | .g3 q v => o.k = 2 /\ q = t.q /\ t.pc = 3 /\ t.x = Ce m t.q /\ t.v = v
 | .t q => o.k = 3 /\ q = t.q /\ t.pc = 1
 | .h q l => o.k = 4 /\ q = t.q /\ t.pc = 1 /\ good o.a /\ o.a <= q /\ q <= l /\ l = min o.b (min 4611686018427387903 (o.a + m - 1))
 | .a1 q mo l => o.k = 5 /\ q = t.q /\ t.pc = 1 /\ mo = min o.b m /\ t.live /\ t.seen = l /\ (l.length : Int) < mo
 | .a2 q mo l => o.k = 5 /\ q = t.q /\ t.pc = 2 /\ mo = min o.b m /\ t.live /\ t.seen = l /\ (l.length : Int) < mo /\ t.x = Ce m t.q
 | .a3 q mo l v => o.k = 5 /\ q = t.q /\ t.pc = 3 /\ mo = min o.b m /\ t.live /\ t.seen = l /\ (l.length : Int) < mo /\ t.x = Ce m t.q /\ t.v = v
def St11 (m : Nat) (o : OpV) (t : R11) (d : RD) : Prop := (0 < m /\ good t.q) /\ SvR m o t d
structure Af11 (m : Nat) (o : OpV) (r : Ans ⊕ RD) (t t' : R11) : Prop where
 ov : t'.ov = t.ov
 ops : t'.ops = t.ops
 who : t'.who = t.who
 how : (∃ a, r = .inl a /\ t'.ans = t.ans ++ [a] /\ t'.at' = t.at' + 1 /\ t'.pc = 0) ∨ (∃ d, r = .inr d /\ t'.ans = t.ans /\ t'.at' = t.at' /\ St11 m o t' d)
section
variable {a0 M tb tc n m : Nat} {cb : CB} {ta : Option Addr} {T : Nat -> R11} {main : Bool}
def CallQ (main : Bool) (a0 M : Nat) (cb : CB) (tb tc n m : Nat) (ta : Option Addr) (T : Nat -> R11) (Q : Rg -> R11 -> Prop) (i F : Nat) (args : Array Value) (w : World) : Prop :=
 CallW Try.prog main (fun _ => none) F args w (fun v w' => v = .tuple #[] /\ ∃ S' t', Q S' t' /\ M11 a0 M cb tb tc n m ta S' (upd T i t') w' /\ Got M cb m tb n T (upd T i t') w w')
def El (main : Bool) (a0 M : Nat) (cb : CB) (tb tc n m : Nat) (ta : Option Addr) (T : Nat -> R11) (i : Nat) (s : Rg) (d : RD) (o : OpV) (w : World) : Prop :=
 CallW Try.prog main (fun _ => none) 117 #[.pointer (some ⟨M, 0, none⟩), .int .i64 i] w (fun v w' => v = .tuple #[] /\ ∃ t', M11 a0 M cb tb tc n m ta (Bh m s d).1 (upd T i t') w' /\ Got M cb m tb n T (upd T i t') w w' /\ Af11 m o (Bh m s d).2 (T i) t')
structure QAf (m : Nat) (o : OpV) (s : Rg) (d : RD) (t : R11) (S' : Rg) (t' : R11) : Prop where
 st : S' = (Bh m s d).1
 af : Af11 m o (Bh m s d).2 t t'
end
end
section
section
variable {a0 M tb tc n m : Nat} {cb : CB} {ta : Option Addr} {T : Nat -> R11} {main : Bool}
theorem M11.fresh {S : Rg} {w : World} (I : M11 a0 M cb tb tc n m ta S T w) (hn : 0 < n) {b : Nat} (hb : w.heap.size <= b) : ¬ Ev M cb m tb n T b := by
 obtain ⟨l1, l2, l3⟩ := I.lt
 rintro (h | h | h | ⟨k, hk, h⟩)
 ·omega
 ·have := l2 b h; omega
 ·have := l3 hn; omega
 ·have := ((I.rows k hk).low h).2; omega
structure PG (a0 M : Nat) (cb : CB) (tb tc n m : Nat) (ta : Option Addr) (T : Nat -> R11) (s : Rg) (i Sb : Nat) (o : OpV) (w : World) (t1 : R11) (w' : World) : Prop where
 I : M11 a0 M cb tb tc n m ta s (upd T i t1) w'
 got : Got M cb m tb n T (upd T i t1) w w'
 op : w'.heap[Sb]? = some (.cells #[.int .i64 o.k, .int .i64 o.a, .int .i64 o.b, .int .i64 o.c] 49)
 lo : w.heap.size = Sb
theorem PG.fresh {s : Rg} {i Sb : Nat} {o : OpV} {w w' : World} {t1 : R11} (hi : i < n) (I0 : M11 a0 M cb tb tc n m ta s T w) (H : PG a0 M cb tb tc n m ta T s i Sb o w t1 w') (h : ∀ b, t1.own b -> (T i).own b) : ¬ Ev M cb m tb n (upd T i t1) Sb := fun hb => by
 have h0 := I0.fresh (by omega) (b := Sb) (by have := H.lo; omega)
 rcases Au (M := M) (cb := cb) (m := m) (tb := tb) (T := T) (t := t1) (s := Sb + 1) hi (fun b hb => .inl (h b hb)) Sb hb with h | h
 ·exact h0 h
 ·omega
theorem PG.then {s : Rg} {i Sb : Nat} {o : OpV} {w w1 w2 : World} {t1 t2 : R11} (hi : i < n) (I0 : M11 a0 M cb tb tc n m ta s T w) (H : PG a0 M cb tb tc n m ta T s i Sb o w t1 w1) (h : ∀ b, t1.own b -> (T i).own b) (I2 : M11 a0 M cb tb tc n m ta s (upd (upd T i t1) i t2) w2) (g2 : Got M cb m tb n (upd T i t1) (upd (upd T i t1) i t2) w1 w2) : PG a0 M cb tb tc n m ta T s i Sb o w t2 w2 := by
 have hf := H.fresh hi I0 h
 rw [Ag] at I2 g2
 have hs := (Array.getElem?_eq_some_iff.1 H.op).1
 exact ⟨I2, H.got.trans g2, (g2.chg.same Sb hs hf).trans H.op, H.lo⟩
theorem PG.at {s : Rg} {i Sb : Nat} {o : OpV} {w w1 : World} {t1 : R11} (H : PG a0 M cb tb tc n m ta T s i Sb o w t1 w1) (d : Nat) : PG a0 M cb tb tc n m ta T s i Sb o w t1 (w1.at d) := ⟨H.I.same fun _ _ => rfl, ⟨H.got.chg.at d, H.got.own⟩, H.op, H.lo⟩
def FinR (a0 M : Nat) (cb : CB) (tb tc n m : Nat) (ta : Option Addr) (T : Nat -> R11) (s : Rg) (i : Nat) (o : OpV) (w : World) (d : RD) (w' : World) : Prop :=
 ∃ t', M11 a0 M cb tb tc n m ta (Bh m s d).1 (upd T i t') w' /\ Got M cb m tb n T (upd T i t') w w' /\ Af11 m o (Bh m s d).2 (T i) t'
theorem FinR.at {s : Rg} {i : Nat} {o : OpV} {w w' : World} {d : RD} (H : FinR a0 M cb tb tc n m ta T s i o w d w') (dd : Nat) : FinR a0 M cb tb tc n m ta T s i o w d (w'.at dd) := by
 obtain ⟨t', I, g, A⟩ := H
 exact ⟨t', I.same fun _ _ => rfl, ⟨g.chg.at dd, g.own⟩, A⟩
def tp (t : R11) (p : Nat) : R11 := { t with pc := (p : Int) + 1 }
theorem Cp {i p : Nat} (hi : i < n) (o : OpV) (s : Rg) (d : RD) (w : World) (I : M11 a0 M cb tb tc n m ta s T w) (hm0 : 0 < m) (hm : m <= 65536) (hg : good (T i).q) (hpc : (T i).pc = (p : Int)) (hp : p <= 1000) (ho : (T i).ops[(T i).at']? = some o) (hol : (T i).ops.length <= 65536)
  (h : ∀ (w1 : World) (u : Nat -> Value) (fr : Frame) (cs : List Frame), w.heap.size <= w1.heap.size -> PG a0 M cb tb tc n m ta T s i w.heap.size o w (tp (T i) p) w1 -> Walk Try.prog main (DR (fun _ => none)) (fun g w' => g = G (fr.finish (.tuple #[])) cs /\ FinR a0 M cb tb tc n m ta T s i o w d w') (G (hdSt11 M i w.heap.size (T i).q (Bq m (T i).q) ((T i).q.tdiv m) p o.k u) (fr :: cs)) w1) : El main a0 M cb tb tc n m ta T i s d o w := by
 intro fr cs
 refine (step11_in hi o w I hm0 hm hg hpc hp ho hol (fr :: cs)).then ?_
 rintro _ w1 ⟨⟨u, rfl⟩, X⟩
 refine (h w1 u fr cs X.got.chg.size ⟨X.I, X.got, X.op, rfl⟩).mono ?_
 rintro g w2 ⟨rfl, h⟩
 exact ⟨_, ⟨rfl, h⟩, rfl⟩
theorem Hq {q : Int} (hg : good q) (m : Nat) : IntKind.i64.wrap (2 * q.tdiv m) = Ce m q /\ 0 <= Ce m q /\ Ce m q < 9223372036854775807 := by
 have h1 := Es hg m
 have h2 := Dw hg m
 rw [h1]
 refine ⟨by rw [IntKind.wrap_i64]; omega, by omega, by omega⟩
theorem Hh (t : R11) (p : Nat) (b : Nat) (h : (tp t p).own b) : t.own b := h
theorem st_p1 {i : Nat} (hi : i < n) (s : Rg) (o : OpV) (q v : Int) (w : World) (I : M11 a0 M cb tb tc n m ta s T w) (hm : m <= 65536) (hn : n <= 64) (ha0 : a0 <= w.heap.size) (ho : (T i).ops[(T i).at']? = some o) (hol : (T i).ops.length <= 65536) (hal : (T i).ans.length <= (T i).at') (hd : St11 m o (T i) (.p1 q v)) : El main a0 M cb tb tc n m ta T i s (.p1 q v) o w := by
 have hlt := (List.getElem?_eq_some_iff.1 ho).1
 obtain ⟨⟨hm0, hg⟩, hk, rfl, rfl, hpc⟩ := hd
 obtain ⟨hL, hL0, hL1⟩ := Hq hg m
 have hx := Eh hg hm0
 refine Cp hi o s _ w I hm0 hm hg (p := 1) (by rw [hpc]; rfl) (by omega) ho hol (fun w1 u fr cs hs X => ?_)
 have ha1 : a0 <= w1.heap.size := by omega
 rw [hk]
 refine (stp_p1 hi (T i).q ((T i).q.tdiv m) hx (Ce m (T i).q) hL ⟨hL0, hL1⟩ w1 X.I hn ha1 u fr cs).mono ?_
 rintro g w2 ⟨rfl, I2, g2⟩
 exact ⟨rfl, tp (T i) 1, I2, X.got.trans g2, rfl, rfl, rfl, .inr ⟨_, rfl, rfl, rfl, ⟨hm0, hg⟩, hk, rfl, rfl, rfl⟩⟩
theorem st_p2 {i : Nat} (hi : i < n) (s : Rg) (o : OpV) (q v : Int) (w : World) (I : M11 a0 M cb tb tc n m ta s T w) (hm : m <= 65536) (hn : n <= 64) (ha0 : a0 <= w.heap.size) (ho : (T i).ops[(T i).at']? = some o) (hol : (T i).ops.length <= 65536) (hal : (T i).ans.length <= (T i).at') (hd : St11 m o (T i) (.p2 q v)) : El main a0 M cb tb tc n m ta T i s (.p2 q v) o w := by
 have hlt := (List.getElem?_eq_some_iff.1 ho).1
 obtain ⟨⟨hm0, hg⟩, hk, rfl, rfl, hpc⟩ := hd
 obtain ⟨hL, hL0, hL1⟩ := Hq hg m
 have hx := Eh hg hm0
 refine Cp hi o s _ w I hm0 hm hg (p := 2) (by rw [hpc]; rfl) (by omega) ho hol (fun w1 u fr cs hs X => ?_)
 have ha1 : a0 <= w1.heap.size := by omega
 have hop := X.op
 rw [hk] at hop
 rw [hk]
 refine (stp_p2 hi (T i).q ((T i).q.tdiv m) hx (Ce m (T i).q) hL ⟨hL0, hL1⟩ 1 o.a o.b o.c w1 hop X.I hn ha1 u fr cs).mono ?_
 rintro g w2 ⟨rfl, I2, g2⟩
 exact ⟨rfl, tp (T i) 2, I2, X.got.trans g2, rfl, rfl, rfl, .inr ⟨_, rfl, rfl, rfl, ⟨hm0, hg⟩, hk, rfl, rfl⟩⟩
theorem st_p3 {i : Nat} (hi : i < n) (s : Rg) (o : OpV) (q : Int) (w : World) (I : M11 a0 M cb tb tc n m ta s T w) (hm : m <= 65536) (hn : n <= 64) (ha0 : a0 <= w.heap.size) (ho : (T i).ops[(T i).at']? = some o) (hol : (T i).ops.length <= 65536) (hal : (T i).ans.length <= (T i).at') (hd : St11 m o (T i) (.p3 q)) : El main a0 M cb tb tc n m ta T i s (.p3 q) o w := by
 have hlt := (List.getElem?_eq_some_iff.1 ho).1
 obtain ⟨⟨hm0, hg⟩, hk, rfl, hpc⟩ := hd
 obtain ⟨hL, hL0, hL1⟩ := Hq hg m
 have hx := Eh hg hm0
 refine Cp hi o s _ w I hm0 hm hg (p := 3) (by rw [hpc]; rfl) (by omega) ho hol (fun w1 u fr cs hs X => ?_)
 have ha1 : a0 <= w1.heap.size := by omega
 rw [hk]
 refine (stp_p3 hi (T i).q ((T i).q.tdiv m) hx (Ce m (T i).q) hL ⟨hL0, hL1⟩ (by rw [upd_same]; show (T i).ans.length <= _; omega) (by rw [upd_same]; show (T i).at' <= _; omega) w1 X.I hn ha1 u fr cs).mono ?_
 rintro g w2 ⟨rfl, av, oA, I2, g2⟩
 rw [upd_same, Ag] at I2 g2
 exact ⟨rfl, _, I2, X.got.trans g2, rfl, rfl, rfl, .inl ⟨_, rfl, rfl, rfl, rfl⟩⟩
theorem st_t {i : Nat} (hi : i < n) (s : Rg) (o : OpV) (q : Int) (w : World) (I : M11 a0 M cb tb tc n m ta s T w) (hm : m <= 65536) (hn : n <= 64) (ha0 : a0 <= w.heap.size) (ho : (T i).ops[(T i).at']? = some o) (hol : (T i).ops.length <= 65536) (hal : (T i).ans.length <= (T i).at') (hd : St11 m o (T i) (.t q)) : El main a0 M cb tb tc n m ta T i s (.t q) o w := by
 have hlt := (List.getElem?_eq_some_iff.1 ho).1
 obtain ⟨⟨hm0, hg⟩, hk, rfl, hpc⟩ := hd
 obtain ⟨hL, hL0, hL1⟩ := Hq hg m
 have hx := Eh hg hm0
 refine Cp hi o s _ w I hm0 hm hg (p := 1) (by rw [hpc]; rfl) (by omega) ho hol (fun w1 u fr cs hs X => ?_)
 have ha1 : a0 <= w1.heap.size := by omega
 rw [hk]
 refine (stp_t hi (T i).q ((T i).q.tdiv m) hx 1 (Ce m (T i).q) hL ⟨hL0, hL1⟩ (by rw [upd_same]; show (T i).ans.length <= _; omega) (by rw [upd_same]; show (T i).at' <= _; omega) w1 X.I hn ha1 u fr cs).mono ?_
 rintro g w2 ⟨rfl, av, oA, I2, g2⟩
 rw [upd_same, Ag] at I2 g2
 exact ⟨rfl, _, I2, X.got.trans g2, rfl, rfl, rfl, .inl ⟨_, rfl, rfl, rfl, rfl⟩⟩
theorem st_h {i : Nat} (hi : i < n) (s : Rg) (o : OpV) (q l : Int) (w : World) (I : M11 a0 M cb tb tc n m ta s T w) (hm : m <= 65536) (hn : n <= 64) (ha0 : a0 <= w.heap.size) (ho : (T i).ops[(T i).at']? = some o) (hol : (T i).ops.length <= 65536) (hal : (T i).ans.length <= (T i).at') (hd : St11 m o (T i) (.h q l)) : El main a0 M cb tb tc n m ta T i s (.h q l) o w := by
 have hlt := (List.getElem?_eq_some_iff.1 ho).1
 obtain ⟨⟨hm0, hg⟩, hk, rfl, hpc, hoa, hq1, hq2, rfl⟩ := hd
 obtain ⟨hL, hL0, hL1⟩ := Hq hg m
 have hx := Eh hg hm0
 refine Cp hi o s _ w I hm0 hm hg (p := 1) (by rw [hpc]; rfl) (by omega) ho hol (fun w1 u fr cs hs X => ?_)
 have ha1 : a0 <= w1.heap.size := by omega
 have hop := X.op
 have hSb : tb < w.heap.size := I.lt.2.2 (by omega)
 rw [hk] at hop ⊢
 obtain ⟨l, hl⟩ : ∃ l, min o.b (min 4611686018427387903 (o.a + (m : Int) - 1)) = l := ⟨_, rfl⟩
 rw [hl] at hq2
 by_cases hst : s.st (Bq m (T i).q) = Ce m (T i).q
 ·by_cases hql : (T i).q < l
  ·have e : Bh m s (.h (T i).q (min o.b (min 4611686018427387903 (o.a + (m : Int) - 1)))) = (s, .inr (.h ((T i).q + 1) (min o.b (min 4611686018427387903 (o.a + (m : Int) - 1))))) := by
    show (s, _) = _
    rw [if_pos hst, if_pos (by rw [hl]; exact hql)]
   have hg1 : good ((T i).q + 1) := ⟨by have := hg.1; omega, by omega⟩
   refine (stp_h4 hi (T i).q ((T i).q.tdiv m) hx 1 (Ce m (T i).q) hL ⟨hL0, hL1⟩ hg.1 hg.2 hst hm (by rw [upd_same]; show (T i).ans.length <= _; omega) (by rw [upd_same]; show (T i).at' <= _; omega) 4 o.a o.b o.c w1 hop hSb hoa.1 hoa.2 (by omega) hg1 (by omega) X.I hn ha1 u fr cs).mono ?_
   rintro g w2 ⟨rfl, I2, g2⟩
   rw [upd_same, Ag] at I2 g2
   exact ⟨rfl, _, by rw [e]; exact I2, X.got.trans g2, rfl, rfl, rfl, .inr ⟨.h ((T i).q + 1) (min o.b (min 4611686018427387903 (o.a + (m : Int) - 1))), by rw [e], rfl, rfl, ⟨hm0, hg1⟩, hk, rfl, rfl, hoa, by omega, by rw [hl]; omega, rfl⟩⟩
  ·have e : Bh m s (.h (T i).q (min o.b (min 4611686018427387903 (o.a + (m : Int) - 1)))) = (s, .inl ⟨true, (T i).q, []⟩) := by
    show (s, _) = _
    rw [if_pos hst, if_neg (by rw [hl]; exact hql), hl, show l = (T i).q by omega]
   by_cases hb : (T i).q = o.b
   ·refine (stp_h1 hi (T i).q ((T i).q.tdiv m) hx 1 (Ce m (T i).q) hL ⟨hL0, hL1⟩ hg.1 hg.2 hst hm (by rw [upd_same]; show (T i).ans.length <= _; omega) (by rw [upd_same]; show (T i).at' <= _; omega) 4 o.a o.b o.c w1 hop hSb hoa.1 hoa.2 (by omega) (by omega) X.I hn ha1 u fr cs).mono ?_
    rintro g w2 ⟨rfl, av, oA, I2, g2⟩
    rw [upd_same, Ag] at I2 g2
    exact ⟨rfl, _, by rw [e]; exact I2, X.got.trans g2, rfl, rfl, rfl, .inl ⟨_, by rw [e], rfl, rfl, rfl⟩⟩
   ·by_cases hg1 : good ((T i).q + 1)
    ·refine (stp_h3 hi (T i).q ((T i).q.tdiv m) hx 1 (Ce m (T i).q) hL ⟨hL0, hL1⟩ hg.1 hg.2 hst hm (by rw [upd_same]; show (T i).ans.length <= _; omega) (by rw [upd_same]; show (T i).at' <= _; omega) 4 o.a o.b o.c w1 hop hSb hoa.1 hoa.2 hb hg1 (by have := hg1.2; omega) X.I hn ha1 u fr cs).mono ?_
     rintro g w2 ⟨rfl, av, oA, I2, g2⟩
     rw [upd_same, Ag] at I2 g2
     exact ⟨rfl, _, by rw [e]; exact I2, X.got.trans g2, rfl, rfl, rfl, .inl ⟨_, by rw [e], rfl, rfl, rfl⟩⟩
    ·refine (stp_h2 hi (T i).q ((T i).q.tdiv m) hx 1 (Ce m (T i).q) hL ⟨hL0, hL1⟩ hg.1 hg.2 hst hm (by rw [upd_same]; show (T i).ans.length <= _; omega) (by rw [upd_same]; show (T i).at' <= _; omega) 4 o.a o.b o.c w1 hop hSb hoa.1 hoa.2 hb hg1 X.I hn ha1 u fr cs).mono ?_
     rintro g w2 ⟨rfl, av, oA, I2, g2⟩
     rw [upd_same, Ag] at I2 g2
     exact ⟨rfl, _, by rw [e]; exact I2, X.got.trans g2, rfl, rfl, rfl, .inl ⟨_, by rw [e], rfl, rfl, rfl⟩⟩
 ·have e : Bh m s (.h (T i).q (min o.b (min 4611686018427387903 (o.a + (m : Int) - 1)))) = (s, .inl ⟨true, (T i).q - 1, []⟩) := by
   show (s, _) = _
   rw [if_neg hst]
  refine (stp_h0 hi (T i).q ((T i).q.tdiv m) hx 1 (Ce m (T i).q) hL ⟨hL0, hL1⟩ hg.1 hg.2 hst (by rw [upd_same]; show (T i).ans.length <= _; omega) (by rw [upd_same]; show (T i).at' <= _; omega) 4 o.a o.b o.c w1 hop hSb X.I hn ha1 u fr cs).mono ?_
  rintro g w2 ⟨rfl, av, oA, I2, g2⟩
  rw [upd_same, Ag] at I2 g2
  exact ⟨rfl, _, by rw [e]; exact I2, X.got.trans g2, rfl, rfl, rfl, .inl ⟨_, by rw [e], rfl, rfl, rfl⟩⟩
end
end
section
section
variable {a0 M tb tc n m : Nat} {cb : CB} {ta : Option Addr} {T : Nat -> R11} {main : Bool}
theorem Cr {f : FuncId} {args : Array Value} {w : World} {P P' : Value -> World -> Prop} (h : CallW Try.prog main (fun _ => none) f args w P) (hP : ∀ v w', P v w' -> P' v w') : CallW Try.prog main (fun _ => none) f args w P' := fun c cs => (h c cs).mono fun g w' ⟨v, hv, e⟩ => ⟨v, hP v w' hv, e⟩
structure Keep (t t1 : R11) : Prop where
 ov : t1.ov = t.ov
 ops : t1.ops = t.ops
 who : t1.who = t.who
 ans : t1.ans = t.ans
 at' : t1.at' = t.at'
 own : ∀ b, t1.own b -> t.own b
theorem Jg {s : Rg} {i Sb : Nat} {o : OpV} {w w2 : World} {t1 : R11} {d : RD} (hi : i < n) (hn : n <= 64) (I0 : M11 a0 M cb tb tc n m ta s T w) (ha0 : a0 <= w.heap.size) (hl : (T i).ans.length <= 65536) (hat : (T i).at' <= 65536) (H : PG a0 M cb tb tc n m ta T s i Sb o w t1 w2) (K : Keep (T i) t1) (ok : Bool) (N : Int) (h : Bh m s d = (s, .inl ⟨ok, N, []⟩)) :
  CallW Try.prog main (fun _ => none) 149 #[.pointer (some ⟨M, 0, none⟩), .int .i64 i, .agg #[.bool ok, .int .i64 N, .slice none 0 0]] w2 (fun vv w3 => vv = .tuple #[] /\ FinR a0 M cb tb tc n m ta T s i o w d w3 /\ w3.heap[Sb]? = w2.heap[Sb]?) := by
 have he := Dk (main := main) hi ⟨ok, N, []⟩ (.slice none 0 0) w2 (LsAt.nil _ _ _) H.I hn (by have := H.got.chg.size; omega) (by rw [upd_same, K.ans]; exact hl) (by rw [upd_same, K.at']; exact hat)
 simp only [upd_same] at he
 simp only [Cu] at he
 refine Cr he ?_
 rintro v w3 ⟨rfl, av, oA, I3, g3⟩
 have hf := H.fresh hi I0 K.own
 have hs := (Array.getElem?_eq_some_iff.1 H.op).1
 have e := g3.chg.same Sb hs hf
 rw [Ag] at I3 g3
 refine ⟨rfl, ⟨_, by rw [h]; exact I3, H.got.trans g3, K.ov, K.ops, K.who, .inl ⟨_, by rw [h], ?_, ?_, rfl⟩⟩, e⟩
 ·show t1.ans ++ _ = _
  rw [K.ans]
 ·show t1.at' + 1 = _
  rw [K.at']
theorem Nv {s : Rg} {i Sb : Nat} {o : OpV} {w w2 : World} {t1 : R11} {d d' : RD} (H : PG a0 M cb tb tc n m ta T s i Sb o w t1 w2) (K : Keep (T i) t1) (h : Bh m s d = (s, .inr d')) (hs : St11 m o t1 d') : FinR a0 M cb tb tc n m ta T s i o w d w2 :=
 ⟨t1, by rw [h]; exact H.I, H.got, K.ov, K.ops, K.who, .inr ⟨d', by rw [h], K.ans, K.at', hs⟩⟩
theorem Nw {s : Rg} {i Sb : Nat} {o : OpV} {w w2 : World} {t1 : R11} {d : RD} (hi : i < n) (hn : n <= 64) (hk : o.k = 5) (I0 : M11 a0 M cb tb tc n m ta s T w) (ha0 : a0 <= w.heap.size) (hl : (T i).ans.length <= 65536) (hat : (T i).at' <= 65536) (H : PG a0 M cb tb tc n m ta T s i Sb o w t1 w2) (K : Keep (T i) t1) (hlv : t1.live) (hsl : t1.seen.length <= 65536) (v e : Int) (he0 : e ≠ 0) (h : Bh m s d = (s, .inl (Hf t1.seen e))) :
  CallW Try.prog main (fun _ => none) 151 #[.pointer (some ⟨M, 0, none⟩), .int .i64 i, .agg #[.int .i64 5, .int .i64 o.a, .int .i64 o.b, .int .i64 o.c], .int .i64 v, .int .i64 e] w2 (fun vv w3 => vv = .tuple #[] /\ FinR a0 M cb tb tc n m ta T s i o w d w3) := by
 have ha2 : a0 <= w2.heap.size := by have := H.got.chg.size; omega
 by_cases hs : t1.seen = []
 ·have hg := gd_none (main := main) (T := upd T i t1) hi 5 o.a o.b o.c v e he0 (by rw [upd_same]; exact hlv) (by rw [upd_same]; exact hs) (by rw [upd_same, K.ans]; exact hl) (by rw [upd_same, K.at']; exact hat) w2 H.I hn ha2
  simp only [upd_same, Ag] at hg
  refine Cr hg ?_
  rintro vv w3 ⟨rfl, av, oA, I3, g3⟩
  rw [show Hf t1.seen e = ⟨false, e, []⟩ from if_pos hs] at h
  refine ⟨rfl, _, by rw [h]; exact I3, H.got.trans g3, K.ov, K.ops, K.who, .inl ⟨_, by rw [h], ?_, ?_, rfl⟩⟩
  ·show t1.ans ++ _ = _
   rw [K.ans]
  ·show t1.at' + 1 = _
   rw [K.at']
 ·have hg := gd_some (main := main) (T := upd T i t1) hi 5 o.a o.b o.c v e he0 (by rw [upd_same]; exact hlv) (by rw [upd_same]; exact List.length_pos_iff.2 hs) (by rw [upd_same]; omega) (by rw [upd_same, K.ans]; exact hl) (by rw [upd_same, K.at']; exact hat) w2 H.I hn ha2
  simp only [upd_same, Ag] at hg
  refine Cr hg ?_
  rintro vv w3 ⟨rfl, av, oA, I3, g3⟩
  rw [show Hf t1.seen e = ⟨true, 0, t1.seen⟩ from if_neg hs] at h
  refine ⟨rfl, _, by rw [h]; exact I3, H.got.trans g3, K.ov, K.ops, K.who, .inl ⟨_, by rw [h], ?_, ?_, rfl⟩⟩
  ·show t1.ans ++ _ = _
   rw [K.ans]
  ·show t1.at' + 1 = _
   rw [K.at']
theorem fin_got {s : Rg} {i Sb : Nat} {o : OpV} {w w2 : World} {t1 : R11} {mo : Int} {d : RD} (hi : i < n) (hn : n <= 64) (hm0 : 0 < m) (hm : m <= 65536) (hk : o.k = 5) (I0 : M11 a0 M cb tb tc n m ta s T w) (ha0 : a0 <= w.heap.size) (hl : (T i).ans.length <= 65536) (hat : (T i).at' <= 65536) (H : PG a0 M cb tb tc n m ta T s i Sb o w t1 w2) (K : Keep (T i) t1) (hlv : t1.live) (hg0 : good t1.q) (hmo : mo = min o.b m) (hsl : (t1.seen.length : Int) < mo) (v : Int)
  (h : Bh m s d = (s, if ((t1.seen.length : Int) + 1 < mo) /\ good (t1.q + 1) then .inr (.a1 (t1.q + 1) mo (t1.seen ++ [v])) else .inl ⟨true, 0, t1.seen ++ [v]⟩)) :
  CallW Try.prog main (fun _ => none) 151 #[.pointer (some ⟨M, 0, none⟩), .int .i64 i, .agg #[.int .i64 5, .int .i64 o.a, .int .i64 o.b, .int .i64 o.c], .int .i64 v, .int .i64 0] w2 (fun vv w3 => vv = .tuple #[] /\ FinR a0 M cb tb tc n m ta T s i o w d w3) := by
 have ha2 : a0 <= w2.heap.size := by have := H.got.chg.size; omega
 have fin : ∀ {t2 : R11} {w3 : World}, (Bh m s d).2 = .inl ⟨true, 0, t1.seen ++ [v]⟩ -> (∃ t3 av oA, t2 = R11.told t3 ⟨true, 0, t1.seen ++ [v]⟩ av oA /\ t3.ov = t1.ov /\ t3.ops = t1.ops /\ t3.who = t1.who /\ t3.ans = t1.ans /\ t3.at' = t1.at') -> M11 a0 M cb tb tc n m ta s (upd T i t2) w3 -> Got M cb m tb n (upd T i t1) (upd T i t2) w2 w3 -> FinR a0 M cb tb tc n m ta T s i o w d w3 := by
  rintro t2 w3 e ⟨t3, av, oA, rfl, f1, f2, f3, f4, f5⟩ I3 g3
  refine ⟨_, by rw [h]; exact I3, H.got.trans g3, f1.trans K.ov, f2.trans K.ops, f3.trans K.who, .inl ⟨_, e, ?_, ?_, rfl⟩⟩
  ·show t3.ans ++ _ = _
   rw [f4, K.ans]
  ·show t3.at' + 1 = _
   rw [f5, K.at']
 by_cases hb : (t1.seen.length : Int) + 1 = o.b
 ·have hg := gd_ob (main := main) (T := upd T i t1) hi 5 o.a o.b o.c v (by rw [upd_same]; exact hlv) (by rw [upd_same]; omega) (by rw [upd_same]; omega) hm (by rw [upd_same]; exact hb) (by rw [upd_same, K.ans]; exact hl) (by rw [upd_same, K.at']; exact hat) w2 H.I hn ha2
  simp only [upd_same, Ag] at hg
  refine Cr hg ?_
  rintro vv w3 ⟨rfl, sv, av, oA, I3, g3⟩
  exact ⟨rfl, fin (by rw [h, if_neg (fun h => by omega)]) ⟨({ t1 with sv := sv, seen := t1.seen ++ [v] } : R11).take, av, oA, rfl, rfl, rfl, rfl, rfl, rfl⟩ I3 g3⟩
 by_cases hme : m <= t1.seen.length + 1
 ·have hg := gd_m (main := main) (T := upd T i t1) hi 5 o.a o.b o.c v (by rw [upd_same]; exact hlv) (by rw [upd_same]; omega) (by rw [upd_same]; omega) hm (by rw [upd_same]; exact hb) (by rw [upd_same]; exact hme) (by rw [upd_same, K.ans]; exact hl) (by rw [upd_same, K.at']; exact hat) w2 H.I hn ha2
  simp only [upd_same, Ag] at hg
  refine Cr hg ?_
  rintro vv w3 ⟨rfl, sv, av, oA, I3, g3⟩
  exact ⟨rfl, fin (by rw [h, if_neg (fun h => by omega)]) ⟨({ t1 with sv := sv, seen := t1.seen ++ [v] } : R11).take, av, oA, rfl, rfl, rfl, rfl, rfl, rfl⟩ I3 g3⟩
 by_cases hg1 : good (t1.q + 1)
 ·have hg := gd_on (main := main) (T := upd T i t1) hi 5 o.a o.b o.c v (by rw [upd_same]; exact hlv) (by rw [upd_same]; omega) (by rw [upd_same]; omega) hm (by rw [upd_same]; exact hb) (by rw [upd_same]; omega) (by rw [upd_same]; exact hg0) (by rw [upd_same]; exact hg1) (by rw [upd_same, K.ans]; exact hl) (by rw [upd_same, K.at']; exact hat) w2 H.I hn ha2
  simp only [upd_same, Ag] at hg
  refine Cr hg ?_
  rintro vv w3 ⟨rfl, sv, I3, g3⟩
  refine ⟨rfl, _, by rw [h]; exact I3, H.got.trans g3, K.ov, K.ops, K.who, .inr ⟨.a1 (t1.q + 1) mo (t1.seen ++ [v]), by rw [h, if_pos ⟨by omega, hg1⟩], K.ans, K.at', ⟨hm0, hg1⟩, hk, rfl, rfl, hmo, hlv, rfl, ?_⟩⟩
  simp only [List.length_append, List.length_singleton]
  omega
 ·have hg := gd_last (main := main) (T := upd T i t1) hi 5 o.a o.b o.c v (by rw [upd_same]; exact hlv) (by rw [upd_same]; omega) (by rw [upd_same]; omega) hm (by rw [upd_same]; exact hb) (by rw [upd_same]; omega) (by rw [upd_same]; exact hg0) (by rw [upd_same]; exact hg1) (by rw [upd_same, K.ans]; exact hl) (by rw [upd_same, K.at']; exact hat) w2 H.I hn ha2
  simp only [upd_same, Ag] at hg
  refine Cr hg ?_
  rintro vv w3 ⟨rfl, sv, av, oA, I3, g3⟩
  exact ⟨rfl, fin (by rw [h, if_neg (fun h => hg1 h.2)]) ⟨({ t1 with q := t1.q + 1, pc := 1, sv := sv, seen := t1.seen ++ [v] } : R11).take, av, oA, rfl, rfl, rfl, rfl, rfl, rfl⟩ I3 g3⟩
theorem Ht {s : Rg} {i Sb p : Nat} {o : OpV} {w w1 : World} {t1 t2 : R11} {V : Value} {args : Array Value} (hi : i < n) (I0 : M11 a0 M cb tb tc n m ta s T w) (H : PG a0 M cb tb tc n m ta T s i Sb o w t1 w1) (hown : ∀ b, t1.own b -> (T i).own b) (h : CallW Try.prog main (fun _ => none) 150 args w1 (fun v w' => v = V /\ M11 a0 M cb tb tc n m ta s (upd (upd T i t1) i t2) w' /\ Got M cb m tb n (upd T i t1) (upd (upd T i t1) i t2) w1 w')) :
  CallW Try.prog main (fun _ => none) 150 args w1 (fun v w' => v = V /\ PG a0 M cb tb tc n m ta T s i Sb o w t2 w') :=
 Cr h fun v w' ⟨e, I2, g2⟩ => ⟨e, H.then hi I0 hown I2 g2⟩
theorem Lf {s : Rg} {i Sb p : Nat} {o : OpV} {w w1 : World} {t1 : R11} {V : Value} {args : Array Value} (H : PG a0 M cb tb tc n m ta T s i Sb o w t1 w1) (h : As Try.prog main (fun _ => none) 150 args w1 V w1) :
  CallW Try.prog main (fun _ => none) 150 args w1 (fun v w' => v = V /\ PG a0 M cb tb tc n m ta T s i Sb o w t1 w') :=
 fun c cs => (h c cs).mono fun g w' ⟨v, ⟨e, d, h⟩, hg⟩ => ⟨v, ⟨e, h ▸ H.at d⟩, hg⟩
theorem st_g1 {i : Nat} (hi : i < n) (s : Rg) (o : OpV) (q : Int) (w : World) (I : M11 a0 M cb tb tc n m ta s T w) (hm : m <= 65536) (hn : n <= 64) (ha0 : a0 <= w.heap.size) (ho : (T i).ops[(T i).at']? = some o) (hol : (T i).ops.length <= 65536) (hal : (T i).ans.length <= (T i).at') (hd : St11 m o (T i) (.g1 q)) : El main a0 M cb tb tc n m ta T i s (.g1 q) o w := by
 have hlt := (List.getElem?_eq_some_iff.1 ho).1
 obtain ⟨⟨hm0, hg⟩, hk, rfl, hpc⟩ := hd
 refine Cp hi o s _ w I hm0 hm hg (p := 1) (by rw [hpc]; rfl) (by omega) ho hol (fun w1 u fr cs hs X => ?_)
 have ha1 : a0 <= w1.heap.size := by omega
 have hl : (T i).ans.length <= 65536 := by omega
 have hat : (T i).at' <= 65536 := by omega
 have hop : ∀ {t1 : R11} w2, PG a0 M cb tb tc n m ta T s i w.heap.size o w t1 w2 -> w2.heap[w.heap.size]? = some (.cells #[.int .i64 2, .int .i64 o.a, .int .i64 o.b, .int .i64 o.c] 49) := fun w2 h => by have := h.op; rwa [hk] at this
 rw [hk]
 by_cases h1 : s.st (Bq m (T i).q) < Ce m (T i).q
 ·have hact : Bh m s (.g1 (T i).q) = (s, .inl ⟨false, 6, []⟩) := congrArg (Prod.mk s) (if_pos h1)
  exact stp_2e (T i).q ((T i).q.tdiv m) 1 o.a o.b o.c 6 (by decide) w1 (PG a0 M cb tb tc n m ta T s i w.heap.size o w ({ tp (T i) 1 with x := s.st (Bq m (T i).q) })) _ (fun w d h => h.at d) (fun w2 h => hop w2 h) (Ht (p := 1) (t2 := ({ tp (T i) 1 with x := s.st (Bq m (T i).q) })) hi I X (Hh (T i) _) (by have h := get_1l (main := main) (T := upd T i (tp (T i) 1)) hi (by rw [upd_same]; exact hg) hm0 hm (by rw [upd_same]; exact h1) w1 X.I hn ha1; (try simp only [upd_same] at h); exact h)) (fun w2 h => Jg hi hn I ha0 hl hat h ⟨rfl, rfl, rfl, rfl, rfl, fun b h => h⟩ false 6 hact) u fr cs
 by_cases h2 : Ce m (T i).q < s.st (Bq m (T i).q)
 ·have hact : Bh m s (.g1 (T i).q) = (s, .inl ⟨false, 10, []⟩) := congrArg (Prod.mk s) ((if_neg h1).trans (if_pos h2))
  exact stp_2e (T i).q ((T i).q.tdiv m) 1 o.a o.b o.c 10 (by decide) w1 (PG a0 M cb tb tc n m ta T s i w.heap.size o w ({ tp (T i) 1 with x := s.st (Bq m (T i).q) })) _ (fun w d h => h.at d) (fun w2 h => hop w2 h) (Ht (p := 1) (t2 := ({ tp (T i) 1 with x := s.st (Bq m (T i).q) })) hi I X (Hh (T i) _) (by have h := get_1g (main := main) (T := upd T i (tp (T i) 1)) hi (by rw [upd_same]; exact hg) hm0 hm (by rw [upd_same]; exact h2) w1 X.I hn ha1; (try simp only [upd_same] at h); exact h)) (fun w2 h => Jg hi hn I ha0 hl hat h ⟨rfl, rfl, rfl, rfl, rfl, fun b h => h⟩ false 10 hact) u fr cs
 ·have hact : Bh m s (.g1 (T i).q) = (s, .inr (.g2 (T i).q)) := congrArg (Prod.mk s) ((if_neg h1).trans (if_neg h2))
  exact stp_2f (T i).q ((T i).q.tdiv m) 1 o.a o.b o.c w1 (PG a0 M cb tb tc n m ta T s i w.heap.size o w ({ tp (T i) 1 with x := s.st (Bq m (T i).q) })) _ (fun w d h => h.at d) (fun w2 h => hop w2 h) (Ht (p := 1) (t2 := ({ tp (T i) 1 with x := s.st (Bq m (T i).q) })) hi I X (Hh (T i) _) (by have h := get_1e (main := main) (T := upd T i (tp (T i) 1)) hi (by rw [upd_same]; exact hg) hm0 hm (by rw [upd_same]; show s.st (Bq m (T i).q) <= Ce m (T i).q; omega) (by rw [upd_same]; show Ce m (T i).q <= s.st (Bq m (T i).q); omega) w1 X.I hn ha1; (try simp only [upd_same] at h); exact h)) (fun w2 h => Nv h ⟨rfl, rfl, rfl, rfl, rfl, fun b h => h⟩ hact ⟨⟨hm0, hg⟩, hk, rfl, rfl, (by show s.st (Bq m (T i).q) = Ce m (T i).q; omega)⟩) u fr cs
theorem st_g2 {i : Nat} (hi : i < n) (s : Rg) (o : OpV) (q : Int) (w : World) (I : M11 a0 M cb tb tc n m ta s T w) (hm : m <= 65536) (hn : n <= 64) (ha0 : a0 <= w.heap.size) (ho : (T i).ops[(T i).at']? = some o) (hol : (T i).ops.length <= 65536) (hal : (T i).ans.length <= (T i).at') (hd : St11 m o (T i) (.g2 q)) : El main a0 M cb tb tc n m ta T i s (.g2 q) o w := by
 have hlt := (List.getElem?_eq_some_iff.1 ho).1
 obtain ⟨⟨hm0, hg⟩, hk, rfl, hpc, hx⟩ := hd
 refine Cp hi o s _ w I hm0 hm hg (p := 2) (by rw [hpc]; rfl) (by omega) ho hol (fun w1 u fr cs hs X => ?_)
 have ha1 : a0 <= w1.heap.size := by omega
 have hl : (T i).ans.length <= 65536 := by omega
 have hat : (T i).at' <= 65536 := by omega
 have hop : ∀ {t1 : R11} w2, PG a0 M cb tb tc n m ta T s i w.heap.size o w t1 w2 -> w2.heap[w.heap.size]? = some (.cells #[.int .i64 2, .int .i64 o.a, .int .i64 o.b, .int .i64 o.c] 49) := fun w2 h => by have := h.op; rwa [hk] at this
 rw [hk]
 have hact : Bh m s (.g2 (T i).q) = (s, .inr (.g3 (T i).q (s.va (Bq m (T i).q)))) := rfl
 exact stp_2f (T i).q ((T i).q.tdiv m) 2 o.a o.b o.c w1 (PG a0 M cb tb tc n m ta T s i w.heap.size o w ({ tp (T i) 2 with v := s.va (Bq m (T i).q) })) _ (fun w d h => h.at d) (fun w2 h => hop w2 h) (Ht (p := 1) (t2 := ({ tp (T i) 2 with v := s.va (Bq m (T i).q) })) hi I X (Hh (T i) _) (by have h := get_2 (main := main) (T := upd T i (tp (T i) 2)) hi (by rw [upd_same]; exact hg) hm0 hm  w1 X.I hn ha1; (try simp only [upd_same] at h); exact h)) (fun w2 h => Nv h ⟨rfl, rfl, rfl, rfl, rfl, fun b h => h⟩ hact ⟨⟨hm0, hg⟩, hk, rfl, rfl, hx, rfl⟩) u fr cs
theorem st_g3 {i : Nat} (hi : i < n) (s : Rg) (o : OpV) (q v : Int) (w : World) (I : M11 a0 M cb tb tc n m ta s T w) (hm : m <= 65536) (hn : n <= 64) (ha0 : a0 <= w.heap.size) (ho : (T i).ops[(T i).at']? = some o) (hol : (T i).ops.length <= 65536) (hal : (T i).ans.length <= (T i).at') (hd : St11 m o (T i) (.g3 q v)) : El main a0 M cb tb tc n m ta T i s (.g3 q v) o w := by
 have hlt := (List.getElem?_eq_some_iff.1 ho).1
 obtain ⟨⟨hm0, hg⟩, hk, rfl, hpc, hx, hv⟩ := hd
 refine Cp hi o s _ w I hm0 hm hg (p := 3) (by rw [hpc]; rfl) (by omega) ho hol (fun w1 u fr cs hs X => ?_)
 have ha1 : a0 <= w1.heap.size := by omega
 have hl : (T i).ans.length <= 65536 := by omega
 have hat : (T i).at' <= 65536 := by omega
 have hop : ∀ {t1 : R11} w2, PG a0 M cb tb tc n m ta T s i w.heap.size o w t1 w2 -> w2.heap[w.heap.size]? = some (.cells #[.int .i64 2, .int .i64 o.a, .int .i64 o.b, .int .i64 o.c] 49) := fun w2 h => by have := h.op; rwa [hk] at this
 rw [hk]
 by_cases h1 : s.st (Bq m (T i).q) = Ce m (T i).q
 ·have hact : Bh m s (.g3 (T i).q v) = (s, .inl ⟨true, v, []⟩) := congrArg (Prod.mk s) (if_pos h1)
  have hgt := (Lf (p := 1) X (by have h := get_3e (main := main) (T := upd T i (tp (T i) 3)) hi (by rw [upd_same]; exact hg) hm0 hm (by rw [upd_same]; exact (h1.trans hx.symm)) w1 X.I hn ha1; (try simp only [upd_same] at h); exact h))
  rw [show (tp (T i) 3).v = v from hv] at hgt
  exact stp_2v (T i).q ((T i).q.tdiv m) 3 o.a o.b o.c v w1 (PG a0 M cb tb tc n m ta T s i w.heap.size o w (tp (T i) 3)) _ (fun w d h => h.at d) (fun w2 h => hop w2 h) hgt (fun w2 h => Jg hi hn I ha0 hl hat h ⟨rfl, rfl, rfl, rfl, rfl, fun b h => h⟩ true v hact) u fr cs
 ·have hact : Bh m s (.g3 (T i).q v) = (s, .inl ⟨false, 10, []⟩) := congrArg (Prod.mk s) (if_neg h1)
  exact stp_2e (T i).q ((T i).q.tdiv m) 3 o.a o.b o.c 10 (by decide) w1 (PG a0 M cb tb tc n m ta T s i w.heap.size o w (tp (T i) 3)) _ (fun w d h => h.at d) (fun w2 h => hop w2 h) (Lf (p := 1) X (by have h := get_3n (main := main) (T := upd T i (tp (T i) 3)) hi (by rw [upd_same]; exact hg) hm0 hm (by rw [upd_same]; exact (fun e => h1 (e.trans hx))) w1 X.I hn ha1; (try simp only [upd_same] at h); exact h)) (fun w2 h => Jg hi hn I ha0 hl hat h ⟨rfl, rfl, rfl, rfl, rfl, fun b h => h⟩ false 10 hact) u fr cs
theorem st_a1 {i : Nat} (hi : i < n) (s : Rg) (o : OpV) (q mo : Int) (l : List Int) (w : World) (I : M11 a0 M cb tb tc n m ta s T w) (hm : m <= 65536) (hn : n <= 64) (ha0 : a0 <= w.heap.size) (ho : (T i).ops[(T i).at']? = some o) (hol : (T i).ops.length <= 65536) (hal : (T i).ans.length <= (T i).at') (hd : St11 m o (T i) (.a1 q mo l)) : El main a0 M cb tb tc n m ta T i s (.a1 q mo l) o w := by
 have hlt := (List.getElem?_eq_some_iff.1 ho).1
 obtain ⟨⟨hm0, hg⟩, hk, rfl, hpc, hmo, hlv, hsn, hll⟩ := hd
 refine Cp hi o s _ w I hm0 hm hg (p := 1) (by rw [hpc]; rfl) (by omega) ho hol (fun w1 u fr cs hs X => ?_)
 have ha1 : a0 <= w1.heap.size := by omega
 have hl : (T i).ans.length <= 65536 := by omega
 have hat : (T i).at' <= 65536 := by omega
 have hop : ∀ {t1 : R11} w2, PG a0 M cb tb tc n m ta T s i w.heap.size o w t1 w2 -> w2.heap[w.heap.size]? = some (.cells #[.int .i64 5, .int .i64 o.a, .int .i64 o.b, .int .i64 o.c] 49) := fun w2 h => by have := h.op; rwa [hk] at this
 rw [hk]
 by_cases h1 : s.st (Bq m (T i).q) < Ce m (T i).q
 ·have hact : Bh m s (.a1 (T i).q mo l) = (s, .inl (Hf l 6)) := congrArg (Prod.mk s) (if_pos h1)
  exact Nm (T i).q ((T i).q.tdiv m) 1 o.a o.b o.c 0 6 w1 (PG a0 M cb tb tc n m ta T s i w.heap.size o w ({ tp (T i) 1 with x := s.st (Bq m (T i).q) })) _ (fun w d h => h.at d) (fun w2 h => hop w2 h) (Ht (p := 1) (t2 := ({ tp (T i) 1 with x := s.st (Bq m (T i).q) })) hi I X (Hh (T i) _) (by have h := get_1l (main := main) (T := upd T i (tp (T i) 1)) hi (by rw [upd_same]; exact hg) hm0 hm (by rw [upd_same]; exact h1) w1 X.I hn ha1; (try simp only [upd_same] at h); exact h)) (fun w2 h => Nw hi hn hk I ha0 hl hat h ⟨rfl, rfl, rfl, rfl, rfl, fun b h => h⟩ hlv (by show (T i).seen.length <= 65536; rw [hsn]; omega) 0 6 (by decide) (by show Bh m s _ = (s, .inl (Hf (T i).seen 6)); rw [hsn]; exact hact)) u fr cs
 by_cases h2 : Ce m (T i).q < s.st (Bq m (T i).q)
 ·have hact : Bh m s (.a1 (T i).q mo l) = (s, .inl (Hf l 10)) := congrArg (Prod.mk s) ((if_neg h1).trans (if_pos h2))
  exact Nm (T i).q ((T i).q.tdiv m) 1 o.a o.b o.c 0 10 w1 (PG a0 M cb tb tc n m ta T s i w.heap.size o w ({ tp (T i) 1 with x := s.st (Bq m (T i).q) })) _ (fun w d h => h.at d) (fun w2 h => hop w2 h) (Ht (p := 1) (t2 := ({ tp (T i) 1 with x := s.st (Bq m (T i).q) })) hi I X (Hh (T i) _) (by have h := get_1g (main := main) (T := upd T i (tp (T i) 1)) hi (by rw [upd_same]; exact hg) hm0 hm (by rw [upd_same]; exact h2) w1 X.I hn ha1; (try simp only [upd_same] at h); exact h)) (fun w2 h => Nw hi hn hk I ha0 hl hat h ⟨rfl, rfl, rfl, rfl, rfl, fun b h => h⟩ hlv (by show (T i).seen.length <= 65536; rw [hsn]; omega) 0 10 (by decide) (by show Bh m s _ = (s, .inl (Hf (T i).seen 10)); rw [hsn]; exact hact)) u fr cs
 ·have hact : Bh m s (.a1 (T i).q mo l) = (s, .inr (.a2 (T i).q mo l)) := congrArg (Prod.mk s) ((if_neg h1).trans (if_neg h2))
  exact stp_5f (T i).q ((T i).q.tdiv m) 1 o.a o.b o.c w1 (PG a0 M cb tb tc n m ta T s i w.heap.size o w ({ tp (T i) 1 with x := s.st (Bq m (T i).q) })) _ (fun w d h => h.at d) (fun w2 h => hop w2 h) (Ht (p := 1) (t2 := ({ tp (T i) 1 with x := s.st (Bq m (T i).q) })) hi I X (Hh (T i) _) (by have h := get_1e (main := main) (T := upd T i (tp (T i) 1)) hi (by rw [upd_same]; exact hg) hm0 hm (by rw [upd_same]; show s.st (Bq m (T i).q) <= Ce m (T i).q; omega) (by rw [upd_same]; show Ce m (T i).q <= s.st (Bq m (T i).q); omega) w1 X.I hn ha1; (try simp only [upd_same] at h); exact h)) (fun w2 h => Nv h ⟨rfl, rfl, rfl, rfl, rfl, fun b h => h⟩ hact ⟨⟨hm0, hg⟩, hk, rfl, rfl, hmo, hlv, hsn, hll, (by show s.st (Bq m (T i).q) = Ce m (T i).q; omega)⟩) u fr cs
theorem st_a2 {i : Nat} (hi : i < n) (s : Rg) (o : OpV) (q mo : Int) (l : List Int) (w : World) (I : M11 a0 M cb tb tc n m ta s T w) (hm : m <= 65536) (hn : n <= 64) (ha0 : a0 <= w.heap.size) (ho : (T i).ops[(T i).at']? = some o) (hol : (T i).ops.length <= 65536) (hal : (T i).ans.length <= (T i).at') (hd : St11 m o (T i) (.a2 q mo l)) : El main a0 M cb tb tc n m ta T i s (.a2 q mo l) o w := by
 have hlt := (List.getElem?_eq_some_iff.1 ho).1
 obtain ⟨⟨hm0, hg⟩, hk, rfl, hpc, hmo, hlv, hsn, hll, hx⟩ := hd
 refine Cp hi o s _ w I hm0 hm hg (p := 2) (by rw [hpc]; rfl) (by omega) ho hol (fun w1 u fr cs hs X => ?_)
 have ha1 : a0 <= w1.heap.size := by omega
 have hl : (T i).ans.length <= 65536 := by omega
 have hat : (T i).at' <= 65536 := by omega
 have hop : ∀ {t1 : R11} w2, PG a0 M cb tb tc n m ta T s i w.heap.size o w t1 w2 -> w2.heap[w.heap.size]? = some (.cells #[.int .i64 5, .int .i64 o.a, .int .i64 o.b, .int .i64 o.c] 49) := fun w2 h => by have := h.op; rwa [hk] at this
 rw [hk]
 have hact : Bh m s (.a2 (T i).q mo l) = (s, .inr (.a3 (T i).q mo l (s.va (Bq m (T i).q)))) := rfl
 exact stp_5f (T i).q ((T i).q.tdiv m) 2 o.a o.b o.c w1 (PG a0 M cb tb tc n m ta T s i w.heap.size o w ({ tp (T i) 2 with v := s.va (Bq m (T i).q) })) _ (fun w d h => h.at d) (fun w2 h => hop w2 h) (Ht (p := 1) (t2 := ({ tp (T i) 2 with v := s.va (Bq m (T i).q) })) hi I X (Hh (T i) _) (by have h := get_2 (main := main) (T := upd T i (tp (T i) 2)) hi (by rw [upd_same]; exact hg) hm0 hm  w1 X.I hn ha1; (try simp only [upd_same] at h); exact h)) (fun w2 h => Nv h ⟨rfl, rfl, rfl, rfl, rfl, fun b h => h⟩ hact ⟨⟨hm0, hg⟩, hk, rfl, rfl, hmo, hlv, hsn, hll, hx, rfl⟩) u fr cs
theorem st_a3 {i : Nat} (hi : i < n) (s : Rg) (o : OpV) (q mo : Int) (l : List Int) (v : Int) (w : World) (I : M11 a0 M cb tb tc n m ta s T w) (hm : m <= 65536) (hn : n <= 64) (ha0 : a0 <= w.heap.size) (ho : (T i).ops[(T i).at']? = some o) (hol : (T i).ops.length <= 65536) (hal : (T i).ans.length <= (T i).at') (hd : St11 m o (T i) (.a3 q mo l v)) : El main a0 M cb tb tc n m ta T i s (.a3 q mo l v) o w := by
 have hlt := (List.getElem?_eq_some_iff.1 ho).1
 obtain ⟨⟨hm0, hg⟩, hk, rfl, hpc, hmo, hlv, hsn, hll, hx, hv⟩ := hd
 refine Cp hi o s _ w I hm0 hm hg (p := 3) (by rw [hpc]; rfl) (by omega) ho hol (fun w1 u fr cs hs X => ?_)
 have ha1 : a0 <= w1.heap.size := by omega
 have hl : (T i).ans.length <= 65536 := by omega
 have hat : (T i).at' <= 65536 := by omega
 have hop : ∀ {t1 : R11} w2, PG a0 M cb tb tc n m ta T s i w.heap.size o w t1 w2 -> w2.heap[w.heap.size]? = some (.cells #[.int .i64 5, .int .i64 o.a, .int .i64 o.b, .int .i64 o.c] 49) := fun w2 h => by have := h.op; rwa [hk] at this
 rw [hk]
 by_cases h1 : s.st (Bq m (T i).q) = Ce m (T i).q
 ·have hact : Bh m s (.a3 (T i).q mo l v) = (s, if ((l.length : Int) + 1 < mo) /\ good ((T i).q + 1) then .inr (.a1 ((T i).q + 1) mo (l ++ [v])) else .inl ⟨true, 0, l ++ [v]⟩) := congrArg (Prod.mk s) (if_pos h1)
  have hgt := (Lf (p := 1) X (by have h := get_3e (main := main) (T := upd T i (tp (T i) 3)) hi (by rw [upd_same]; exact hg) hm0 hm (by rw [upd_same]; exact (h1.trans hx.symm)) w1 X.I hn ha1; (try simp only [upd_same] at h); exact h))
  rw [show (tp (T i) 3).v = v from hv] at hgt
  exact Nm (T i).q ((T i).q.tdiv m) 3 o.a o.b o.c v 0 w1 (PG a0 M cb tb tc n m ta T s i w.heap.size o w (tp (T i) 3)) _ (fun w d h => h.at d) (fun w2 h => hop w2 h) hgt (fun w2 h => fin_got hi hn hm0 hm hk I ha0 hl hat h ⟨rfl, rfl, rfl, rfl, rfl, fun b h => h⟩ hlv hg hmo (by show ((T i).seen.length : Int) < mo; rw [hsn]; exact hll) v (by show Bh m s _ = (s, if (((T i).seen.length : Int) + 1 < mo) /\ good ((T i).q + 1) then .inr (.a1 ((T i).q + 1) mo ((T i).seen ++ [v])) else .inl ⟨true, 0, (T i).seen ++ [v]⟩); rw [hsn]; exact hact)) u fr cs
 ·have hact : Bh m s (.a3 (T i).q mo l v) = (s, .inl (Hf l 10)) := congrArg (Prod.mk s) (if_neg h1)
  exact Nm (T i).q ((T i).q.tdiv m) 3 o.a o.b o.c 0 10 w1 (PG a0 M cb tb tc n m ta T s i w.heap.size o w (tp (T i) 3)) _ (fun w d h => h.at d) (fun w2 h => hop w2 h) (Lf (p := 1) X (by have h := get_3n (main := main) (T := upd T i (tp (T i) 3)) hi (by rw [upd_same]; exact hg) hm0 hm (by rw [upd_same]; exact (fun e => h1 (e.trans hx))) w1 X.I hn ha1; (try simp only [upd_same] at h); exact h)) (fun w2 h => Nw hi hn hk I ha0 hl hat h ⟨rfl, rfl, rfl, rfl, rfl, fun b h => h⟩ hlv (by show (T i).seen.length <= 65536; rw [hsn]; omega) 0 10 (by decide) (by show Bh m s _ = (s, .inl (Hf (T i).seen 10)); rw [hsn]; exact hact)) u fr cs
theorem step11_w {i : Nat} (hi : i < n) (s : Rg) (o : OpV) (d : RD) (w : World) (I : M11 a0 M cb tb tc n m ta s T w) (hm : m <= 65536) (hn : n <= 64) (ha0 : a0 <= w.heap.size) (ho : (T i).ops[(T i).at']? = some o) (hol : (T i).ops.length <= 65536) (hal : (T i).ans.length <= (T i).at') (hd : St11 m o (T i) d) : El main a0 M cb tb tc n m ta T i s d o w := by
 cases d with
 | p1 q v => exact st_p1 hi s o q v w I hm hn ha0 ho hol hal hd
 | p2 q v => exact st_p2 hi s o q v w I hm hn ha0 ho hol hal hd
 | p3 q => exact st_p3 hi s o q w I hm hn ha0 ho hol hal hd
 | g1 q => exact st_g1 hi s o q w I hm hn ha0 ho hol hal hd
 | g2 q => exact st_g2 hi s o q w I hm hn ha0 ho hol hal hd
 | g3 q v => exact st_g3 hi s o q v w I hm hn ha0 ho hol hal hd
 | t q => exact st_t hi s o q w I hm hn ha0 ho hol hal hd
 | h q l => exact st_h hi s o q l w I hm hn ha0 ho hol hal hd
 | a1 q mo l => exact st_a1 hi s o q mo l w I hm hn ha0 ho hol hal hd
 | a2 q mo l => exact st_a2 hi s o q mo l w I hm hn ha0 ho hol hal hd
 | a3 q mo l v => exact st_a3 hi s o q mo l v w I hm hn ha0 ho hol hal hd
end
end
section
section
variable {m : Nat}
theorem enter11 (s : Rg) (th : Int) (o : OpV) (h : eR m o = none) : (Bp m).enter s th o = (s, .inr (dR m o)) /\ ∀ t : R11, t.pc = 1 -> t.q = o.a -> t.seen = [] -> t.live -> St11 m o t (dR m o) := by
 refine ⟨?_, fun t h1 h2 h3 h4 => ?_⟩
 ·show Ed m s th o = _
  unfold Ed
  rw [h]
  rfl
 ·unfold eR at h
  by_cases h0 : m = 0 ∨ o.k < 1 ∨ 5 < o.k
  ·rw [if_pos h0] at h; cases h
  rw [if_neg h0] at h
  have hm : 0 < m := by omega
  unfold dR
  by_cases k4 : o.k = 4
  ·rw [if_pos k4] at h
   by_cases hg : good o.a /\ o.a <= o.b
   ·rw [if_neg (by omega), if_neg (by omega), if_neg (by omega), if_pos k4]
    have := hg.1.2
    exact ⟨⟨hm, h2 ▸ hg.1⟩, k4, h2.symm, h1, hg.1, Int.le_refl _, by omega, rfl⟩
   ·rw [if_neg hg] at h; cases h
  rw [if_neg k4] at h
  by_cases hg : good o.a
  ·rw [if_pos hg] at h
   by_cases h5 : o.k = 5 /\ o.b < 1
   ·rw [if_pos h5] at h; cases h
   by_cases k1 : o.k = 1
   ·rw [if_pos k1]
    exact ⟨⟨hm, h2 ▸ hg⟩, k1, h2.symm, rfl, h1⟩
   by_cases k2 : o.k = 2
   ·rw [if_neg k1, if_pos k2]
    exact ⟨⟨hm, h2 ▸ hg⟩, k2, h2.symm, h1⟩
   by_cases k3 : o.k = 3
   ·rw [if_neg k1, if_neg k2, if_pos k3]
    exact ⟨⟨hm, h2 ▸ hg⟩, k3, h2.symm, h1⟩
   ·rw [if_neg k1, if_neg k2, if_neg k3, if_neg k4]
    have k5 : o.k = 5 := by omega
    exact ⟨⟨hm, h2 ▸ hg⟩, k5, h2.symm, h1, rfl, h4, h3, by show ((0 : Nat) : Int) < _; omega⟩
  ·rw [if_neg hg] at h
   by_cases k3 : o.k = 3
   ·rw [if_pos k3] at h; cases h
   ·rw [if_neg k3] at h; cases h
theorem enter11_no (s : Rg) (th : Int) (o : OpV) (a : Ans) (h : eR m o = some a) : (Bp m).enter s th o = (s, .inl a) := by
 show Ed m s th o = _
 unfold Ed
 rw [h]
 rfl
structure Th11 (m : Nat) (all : List OpV) (left : List OpV) (d : Option RD) (ans : List Ans) (t : R11) : Prop where
 ops : t.ops = all
 ans : t.ans = ans
 pos : (d = none /\ left = [] /\ t.at' = all.length /\ t.pc = 0) ∨ ∃ d' o, d = some d' /\ all[t.at']? = some o /\ left = all.drop (t.at' + 1) /\ St11 m o t d'
theorem settle11 (th : Int) (s : Rg) : ∀ (q : Nat) (t t' : R11) (asw : List Ans), asw.length = q -> (∀ x, x < q -> ∃ o a, t.ops[t.at' + x]? = some o /\ eR m o = some a /\ asw[x]? = some a) -> t'.ops = t.ops -> t'.at' = t.at' + q -> t'.ans = t.ans ++ asw ->
  ((t'.at' = t.ops.length /\ t'.pc = 0) ∨ ∃ o, t.ops[t'.at']? = some o /\ eR m o = none /\ t'.pc = 1 /\ t'.q = o.a /\ t'.seen = [] /\ t'.live) ->
  ∃ z, Bc (Bp m) th s (t.ops.drop t.at') t.ans = (s, z) /\ Th11 m t.ops z.left z.d z.ans t' := by
 intro q
 induction q with
 | zero =>
  intro t t' asw h0 _ h1 h2 h3 h4
  obtain rfl := List.length_eq_zero_iff.1 h0
  have h2 : t'.at' = t.at' := h2
  have h3 : t'.ans = t.ans := by simpa using h3
  rcases h4 with ⟨h5, h6⟩ | ⟨o, h5, h6, h7, h8, h9, h10⟩
  ·have : t.ops.drop t.at' = [] := List.drop_eq_nil_of_le (by omega)
   rw [this]
   exact ⟨_, rfl, h1, h3, .inl ⟨rfl, rfl, h5, h6⟩⟩
  ·obtain ⟨e', hd⟩ := enter11 s th o h6
   rw [h2] at h5
   have hlt := (List.getElem?_eq_some_iff.1 h5).1
   have ho := (List.getElem?_eq_some_iff.1 h5).2
   refine ⟨⟨t.ops.drop (t.at' + 1), some (dR m o), t.ans⟩, ?_, h1, h3, .inr ⟨_, o, rfl, by rw [h2]; exact h5, by rw [h2], hd t' h7 h8 h9 h10⟩⟩
   rw [List.drop_eq_getElem_cons hlt, ho]
   exact (Iy (Bp m) th s o (t.ops.drop (t.at' + 1)) t.ans).trans ((congrArg (fun r => Ch (Bp m) th r (t.ops.drop (t.at' + 1)) t.ans) e').trans rfl)
 | succ q ih =>
  intro t t' asw hlen h0 h1 h2 h3 h4
  obtain ⟨o, a, ho, hk, ha⟩ := h0 0 (by omega)
  obtain ⟨asw, rfl⟩ : ∃ l, asw = a :: l := by
   cases asw with
   | nil => cases ha
   | cons b l => exact ⟨l, by simpa using ha⟩
  have ho : t.ops[t.at']? = some o := ho
  have hlt := (List.getElem?_eq_some_iff.1 ho).1
  have hoe := (List.getElem?_eq_some_iff.1 ho).2
  have e' := enter11_no (m := m) s th o a hk
  obtain ⟨z, g1, g2⟩ := ih (t.told a t.av t.ownA) t' asw (by simpa using hlen) (fun x hx => by
   obtain ⟨o', a', h5, h6, h7⟩ := h0 (x + 1) (by omega)
   refine ⟨o', a', ?_, h6, h7⟩
   rw [<- h5]
   show t.ops[t.at' + 1 + x]? = t.ops[t.at' + (x + 1)]?
   congr 1
   omega) h1 (by show t'.at' = t.at' + 1 + q; omega) (by
   rw [h3]
   show _ = (t.ans ++ [a]) ++ _
   rw [List.append_assoc]
   rfl) h4
  refine ⟨z, ?_, g2⟩
  rw [List.drop_eq_getElem_cons hlt, hoe]
  exact (Iy (Bp m) th s o (t.ops.drop (t.at' + 1)) t.ans).trans ((congrArg (fun r => Ch (Bp m) th r (t.ops.drop (t.at' + 1)) t.ans) e').trans g1)
end
end
end Go.Proofs.Ytcdcnmphjhfbpaa
