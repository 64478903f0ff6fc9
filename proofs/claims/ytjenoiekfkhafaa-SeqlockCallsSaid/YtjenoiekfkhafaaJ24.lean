/- Part 24. -/
import Derived.Test.YtjenoiekfkhafaaJ23
set_option linter.unusedSimpArgs false
set_option linter.unusedVariables false
set_option linter.unusedVariables false
set_option maxHeartbeats 8000000
set_option maxRecDepth 100000
namespace Go.Proofs.Ytjenoiekfkhafaa
open Go.Conc Go.RowKit Go.Relay
open Go.ConcN (upd upd_ne upd_same)
section
section
variable {a0 M cg cc tb tc n m : Nat} {ta : Option Addr} {S : Sq} {T : Nat -> R8}
theorem write_3w {main : Bool} {i : Nat} (hi : i < n) (o : OpV) (hk : o.k ≠ 2) (p j : Nat) (hp : 3 <= p) (hj : j < m) (hp2 : p <= j + 3) (hp3 : j + 3 <= p) (hm : m <= 64) (w : World) (I : M8 a0 M cg cc tb tc n m ta S T w) (hn : n <= 64) (ha0 : a0 <= w.heap.size) :
  CallW Try.prog main (fun _ => none) 71 #[.pointer (some ⟨M, 0, none⟩), .int .i64 i, .agg #[.int .i64 o.k, .int .i64 o.a, .int .i64 o.b, .int .i64 o.c], .int .i64 p] w (fun v w' => v = .tuple #[] /\ M8 a0 M cg cc tb tc n m ta (Dj S j (Ar o j)) T w' /\ Got M cg tb n T T w w') := by
 intro c cs
 obtain ⟨k, oa, ob, oc⟩ := o
 dsimp only
 have hi0 : (0 : Int) <= i := by omega
 have hi1 : decide ((i : Int) < n) = true := by simp; omega
 have hi3 : decide (i < n) = true := by simp; omega
 have hi4 : (i : Int) < n := by omega
 have ll1 := I.lt.1
 have ll3 := I.lt.2.2 (by omega)
 have lb := I.base
 rw [enter_at _ Try.func71 code71_is]
 simp only [Try.ntmps71, ez, Nat.reduceAdd, Nat.reduceSub]
 refine Aa z71 ?_
 (refine Walk.oa ?_; try walk_nrm)
 have s0 : (w.alloc (.cells #[.int .i64 k, .int .i64 oa, .int .i64 ob, .int .i64 oc] 47)).heap.size = w.heap.size + 1 := by simp
 have o0 : ∀ x, x < w.heap.size -> (w.alloc (.cells #[.int .i64 k, .int .i64 oa, .int .i64 ob, .int .i64 oc] 47)).heap[x]? = w.heap[x]? := fun x hx => Ab _ _ hx
 have d0 := heap_alloc_new w (.cells #[.int .i64 k, .int .i64 oa, .int .i64 ob, .int .i64 oc] 47)
 have I0 := I.same o0
 generalize hT : w.heap.size = Zs at *
 generalize hw0 : w.alloc (.cells #[.int .i64 k, .int .i64 oa, .int .i64 ob, .int .i64 oc] 47) = w0 at *
 have g0 : Got M cg tb n T T w w0 := ⟨⟨by omega, fun b hb hn => o0 b (by omega)⟩, fun _ h => .inl h⟩
 have cW : w0.cell? ⟨M, 1, none⟩ = some (.slice (some ⟨cg, 0, none⟩) m cc) := I0.cC
 have q1 : ((p : Int) == 1) = false := by simp; omega
 have q2 : ((p : Int) == 2) = false := by simp; omega
 have q3 : IntKind.i64.wrap ((m : Int) + 2) = (m : Int) + 2 := by rw [IntKind.wrap_i64]; omega
 have q4 : decide ((p : Int) <= (m : Int) + 2) = true := by simp; omega
 have q5 : decide ((m : Int) + 2 < (p : Int)) = false := by simp; omega
 have q6 : ¬ p = 1 := by omega
 have q7 : ¬ p = 2 := by omega
 have q8 : IntKind.i64.wrap ((p : Int) - 3) = (j : Int) := by rw [IntKind.wrap_i64]; omega
 have q9 : IntKind.i64.wrap (j : Int) = (j : Int) := by rw [IntKind.wrap_i64]; omega
 have j0 : (0 : Int) <= j := by omega
 have j1 : decide ((j : Int) < m) = true := by simp; omega
 have j3 : decide (j < m) = true := by simp; omega
 have j4 : (j : Int) < m := by omega
 clear hp hp2 hp3
 refine Aa z71 ?_
 clear cW
 have e0 := (Ad d0 0).trans rfl
 have e2 := (Ad d0 2).trans rfl
 have e3 := (Ad d0 3).trans rfl
 have c1 : w0.cell? ⟨M, 1, none⟩ = some (.slice (some ⟨cg, 0, none⟩) m cc) := I0.cC
 have c2 : w0.cell? ⟨cg, j, none⟩ = some (.int .i64 (S.w j)) := I0.ccell hj
 have z2 := I0.cfrz j
 have hk1 : (k == 2) = false := by simpa using hk
 have hk2 : ¬ k = 2 := hk
 have hv : Ar ⟨k, oa, ob, oc⟩ j = IntKind.i64.wrap (ob + IntKind.i64.wrap ((j : Int) * oc)) := rfl
 rw [hv]
 clear hv hk
 have I1 := I0.putC hj (IntKind.i64.wrap (ob + IntKind.i64.wrap ((j : Int) * oc)))
 generalize hx : IntKind.i64.wrap (ob + IntKind.i64.wrap ((j : Int) * oc)) = x1 at *
 try walk_nrm
 refine Aa z71 ?_
 (have hfr := Jr cg j; refine Walk.os hfr c2 ?_; clear hfr; try walk_nrm)
 have s1 := Ai w0 ⟨cg, j, none⟩ (.int .i64 x1)
 have o1 : ∀ x, x ≠ cg -> (w0.setCell ⟨cg, j, none⟩ (.int .i64 x1)).heap[x]? = w0.heap[x]? := fun x hx => Ac _ _ _ _ hx
 generalize w0.setCell ⟨cg, j, none⟩ (.int .i64 x1) = w1 at *
 clear c1 c2 z2 e0 e2 e3
 have g1 : Got M cg tb n T T w w1 := g0.trans ⟨⟨by omega, fun x hx hn => o1 x fun e => hn (.inr (.inl e))⟩, fun b hb => .inl hb⟩
 try walk_nrm
 refine Aa z71 ?_
 exact Av rfl rfl Try.func71 rfl (.stop fun d => ⟨_, ⟨rfl, I1.same fun _ _ => rfl, ⟨g1.chg.at d, g1.own⟩⟩, rfl⟩)
theorem write_3a {main : Bool} {i : Nat} (hi : i < n) (o : OpV) (hk : o.k = 2) (p j : Nat) (hp : 3 <= p) (hj : j < m) (hp2 : p <= j + 3) (hp3 : j + 3 <= p) (hm : m <= 64) (w : World) (I : M8 a0 M cg cc tb tc n m ta S T w) (hn : n <= 64) (ha0 : a0 <= w.heap.size) :
  CallW Try.prog main (fun _ => none) 71 #[.pointer (some ⟨M, 0, none⟩), .int .i64 i, .agg #[.int .i64 o.k, .int .i64 o.a, .int .i64 o.b, .int .i64 o.c], .int .i64 p] w (fun v w' => v = .tuple #[] /\ M8 a0 M cg cc tb tc n m ta (Dj S j (IntKind.i64.wrap (Ar o j + S.w j))) T w' /\ Got M cg tb n T T w w') := by
 intro c cs
 obtain ⟨k, oa, ob, oc⟩ := o
 dsimp only
 have hi0 : (0 : Int) <= i := by omega
 have hi1 : decide ((i : Int) < n) = true := by simp; omega
 have hi3 : decide (i < n) = true := by simp; omega
 have hi4 : (i : Int) < n := by omega
 have ll1 := I.lt.1
 have ll3 := I.lt.2.2 (by omega)
 have lb := I.base
 rw [enter_at _ Try.func71 code71_is]
 simp only [Try.ntmps71, ez, Nat.reduceAdd, Nat.reduceSub]
 refine Aa z71 ?_
 (refine Walk.oa ?_; try walk_nrm)
 have s0 : (w.alloc (.cells #[.int .i64 k, .int .i64 oa, .int .i64 ob, .int .i64 oc] 47)).heap.size = w.heap.size + 1 := by simp
 have o0 : ∀ x, x < w.heap.size -> (w.alloc (.cells #[.int .i64 k, .int .i64 oa, .int .i64 ob, .int .i64 oc] 47)).heap[x]? = w.heap[x]? := fun x hx => Ab _ _ hx
 have d0 := heap_alloc_new w (.cells #[.int .i64 k, .int .i64 oa, .int .i64 ob, .int .i64 oc] 47)
 have I0 := I.same o0
 generalize hT : w.heap.size = Zs at *
 generalize hw0 : w.alloc (.cells #[.int .i64 k, .int .i64 oa, .int .i64 ob, .int .i64 oc] 47) = w0 at *
 have g0 : Got M cg tb n T T w w0 := ⟨⟨by omega, fun b hb hn => o0 b (by omega)⟩, fun _ h => .inl h⟩
 have cW : w0.cell? ⟨M, 1, none⟩ = some (.slice (some ⟨cg, 0, none⟩) m cc) := I0.cC
 have q1 : ((p : Int) == 1) = false := by simp; omega
 have q2 : ((p : Int) == 2) = false := by simp; omega
 have q3 : IntKind.i64.wrap ((m : Int) + 2) = (m : Int) + 2 := by rw [IntKind.wrap_i64]; omega
 have q4 : decide ((p : Int) <= (m : Int) + 2) = true := by simp; omega
 have q5 : decide ((m : Int) + 2 < (p : Int)) = false := by simp; omega
 have q6 : ¬ p = 1 := by omega
 have q7 : ¬ p = 2 := by omega
 have q8 : IntKind.i64.wrap ((p : Int) - 3) = (j : Int) := by rw [IntKind.wrap_i64]; omega
 have q9 : IntKind.i64.wrap (j : Int) = (j : Int) := by rw [IntKind.wrap_i64]; omega
 have j0 : (0 : Int) <= j := by omega
 have j1 : decide ((j : Int) < m) = true := by simp; omega
 have j3 : decide (j < m) = true := by simp; omega
 have j4 : (j : Int) < m := by omega
 clear hp hp2 hp3
 refine Aa z71 ?_
 clear cW
 have e0 := (Ad d0 0).trans rfl
 have e2 := (Ad d0 2).trans rfl
 have e3 := (Ad d0 3).trans rfl
 have c1 : w0.cell? ⟨M, 1, none⟩ = some (.slice (some ⟨cg, 0, none⟩) m cc) := I0.cC
 have c2 : w0.cell? ⟨cg, j, none⟩ = some (.int .i64 (S.w j)) := I0.ccell hj
 have z2 := I0.cfrz j
 obtain rfl : k = 2 := hk
 have hv : Ar ⟨2, oa, ob, oc⟩ j = IntKind.i64.wrap (ob + IntKind.i64.wrap ((j : Int) * oc)) := rfl
 rw [hv]
 clear hv
 have I1 := I0.putC hj (IntKind.i64.wrap (IntKind.i64.wrap (ob + IntKind.i64.wrap ((j : Int) * oc)) + S.w j))
 generalize hx : IntKind.i64.wrap (IntKind.i64.wrap (ob + IntKind.i64.wrap ((j : Int) * oc)) + S.w j) = x1 at *
 try walk_nrm
 refine Aa z71 ?_
 (have hfr := Jr cg j; refine Walk.os hfr c2 ?_; clear hfr; try walk_nrm)
 have s1 := Ai w0 ⟨cg, j, none⟩ (.int .i64 x1)
 have o1 : ∀ x, x ≠ cg -> (w0.setCell ⟨cg, j, none⟩ (.int .i64 x1)).heap[x]? = w0.heap[x]? := fun x hx => Ac _ _ _ _ hx
 generalize w0.setCell ⟨cg, j, none⟩ (.int .i64 x1) = w1 at *
 clear c1 c2 z2 e0 e2 e3
 have g1 : Got M cg tb n T T w w1 := g0.trans ⟨⟨by omega, fun x hx hn => o1 x fun e => hn (.inr (.inl e))⟩, fun b hb => .inl hb⟩
 try walk_nrm
 refine Aa z71 ?_
 exact Av rfl rfl Try.func71 rfl (.stop fun d => ⟨_, ⟨rfl, I1.same fun _ _ => rfl, ⟨g1.chg.at d, g1.own⟩⟩, rfl⟩)
end
end
section
def R8.take (t : R8) : R8 := { t with live := False, ownA := fun b => t.ownA b ∨ t.sv.ownBlock = some b }
theorem Mo {t : R8} (hl : t.live) (b : Nat) : t.take.own b ↔ t.own b := by
 unfold R8.take R8.own
 constructor
 ·rintro ((h | h) | ⟨h, _⟩)
  ·exact .inl h
  ·exact .inr ⟨hl, h⟩
  ·exact h.elim
 ·rintro (h | ⟨_, h⟩)
  ·exact .inl (.inl h)
  ·exact .inl (.inr h)
theorem R8.Rows.take {t : R8} {a0 : Nat} {w : World} (h : t.Rows a0 w) (hl : t.live) : t.take.Rows a0 w :=
 ⟨h.rO, h.rA.imp fun b hb => .inl hb, fun h => h.elim, fun h => h.elim, fun b hb => h.low ((Mo hl b).1 (.inl hb))⟩
theorem R8.Rows.taken {t : R8} {a0 : Nat} {w : World} (h : t.Rows a0 w) (hl : t.live) (hn : t.seen.length <= 1048576) : LsAt a0 t.take.ownA t.sv t.seen w := by
 have hr := h.rS hl
 have hf : ∃ a c, t.sv = .slice a t.seen.length c := by
  rcases hr.2 with ⟨e, h0⟩ | ⟨g, cap, cur, e, _⟩
  ·exact ⟨none, 0, by rw [e, h0]⟩
  ·exact ⟨_, _, e⟩
 obtain ⟨a, c, e⟩ := hf
 exact ⟨a, c, e, hn, fun _ => ⟨hr, fun b hb => .inr hb⟩⟩
theorem M8.take {a0 M cg cc tb tc n m : Nat} {ta : Option Addr} {S : Sq} {T : Nat -> R8} {w : World} (I : M8 a0 M cg cc tb tc n m ta S T w) {i : Nat} (hi : i < n) (hl : (T i).live) : M8 a0 M cg cc tb tc n m ta S (upd T i (T i).take) w := by
 have hown : ∀ k b, (upd T i (T i).take k).own b ↔ (T k).own b := fun k b => by
  by_cases e : k = i
  ·subst e; rw [upd_same]; exact Mo hl b
  ·rw [upd_ne _ _ e]
 refine ⟨I.hd, I.cs, fun hn => ?_, fun k hk => ?_, fun k hk b hb => ?_, I.base⟩
 ·obtain ⟨e, arr, h1, h2, h3, h4, h5⟩ := I.ts hn
  refine ⟨e, arr, h1, h2, h3, h4, fun k hk j v hv => h5 k hk j v ?_⟩
  by_cases e : k = i
  ·subst e; rw [upd_same] at hv; exact hv
  ·rw [upd_ne _ _ e] at hv; exact hv
 ·by_cases e : k = i
  ·subst e; rw [upd_same]; exact (I.rows k hk).take hl
  ·rw [upd_ne _ _ e]; exact I.rows k hk
 ·obtain ⟨e1, e2, e3, e4⟩ := I.far k hk b ((hown k b).1 hb)
  exact ⟨e1, e2, e3, fun q hq hqk h => e4 q hq hqk ((hown q b).1 h)⟩
theorem Got.take {M cg tb n : Nat} {T : Nat -> R8} {w : World} {i : Nat} (hi : i < n) (hl : (T i).live) : Got M cg tb n T (upd T i (T i).take) w w :=
 ⟨Chg.refl, fun b hb => De (s := w.heap.size) hi (fun b hb => .inl ((Mo hl b).1 hb)) b hb⟩
noncomputable def reg72_0 := rk Try.f72.body 0
noncomputable def reg72_2 := rk Try.f72.body 2
noncomputable def reg72_3 := rk Try.f72.body 3
theorem size72_3 : reg72_3.size = 12 := by kernel_rfl
noncomputable def reg72_4 := rk Try.f72.body 4
noncomputable def reg72_5 := rk Try.f72.body 5
noncomputable def reg72_6 := rk Try.f72.body 6
noncomputable def reg72_7 := rk Try.f72.body 7
theorem size72_7 : reg72_7.size = 26 := by kernel_rfl
noncomputable def reg72_8 := rk Try.f72.body 8
theorem size72_8 : reg72_8.size = 14 := by kernel_rfl
noncomputable def reg72_9 := rk Try.f72.body 9
noncomputable def reg72_1 := rk Try.f72.body 1
theorem z72 : reg72_0.size = 6 /\ reg72_1.size = 3 /\ reg72_2.size = 3 /\ reg72_3.size = 12 /\ reg72_4.size = 6 /\ reg72_5.size = 3 /\ reg72_6.size = 5 /\ reg72_7.size = 26 /\ reg72_8.size = 14 /\ reg72_9.size = 12 := by and_intros <;> kernel_rfl
theorem code72_is : Try.f72.body = some (.seq (.region 0 reg72_0 false) (.block 0 (.seq (.region 2 reg72_2 false) (.cond (.tmp 15 ) (.seq (.region 3 reg72_3 true) (.seq (.region 4 reg72_4 false) (.cond (.tmp 34 ) (.region 5 reg72_5 false) (.skip)))) (.seq (.region 6 reg72_6 false) (.cond (.tmp 38 ) (.region 7 reg72_7 true) (.seq (.region 8 reg72_8 true) (.cond (.tmp 68 ) (.region 9 reg72_9 false) (.region 1 reg72_1 false))))))))) := by kernel_rfl
section
variable {a0 M cg cc tb tc n m : Nat} {ta : Option Addr} {S : Sq} {T : Nat -> R8}
theorem read_1e {main : Bool} {i : Nat} (hi : i < n) (hev : ¬ Ba S.v) (w0 : World) (I0 : M8 a0 M cg cc tb tc n m ta S T w0) (hn : n <= 64) (ha0 : a0 <= w0.heap.size) :
  CallW Try.prog main (fun _ => none) 72 #[.pointer (some ⟨M, 0, none⟩), .int .i64 i, .int .i64 1] w0 (fun v w' => v = .tuple #[] /\ M8 a0 M cg cc tb tc n m ta S (upd T i { T i with vn := S.v }) w' /\ Got M cg tb n T (upd T i { T i with vn := S.v }) w0 w') := by
 intro c cs
 have hi0 : (0 : Int) <= i := by omega
 have hi1 : decide ((i : Int) < n) = true := by simp; omega
 have hi3 : decide (i < n) = true := by simp; omega
 have hi4 : (i : Int) < n := by omega
 have ll1 := I0.lt.1
 have ll3 := I0.lt.2.2 (by omega)
 have lb := I0.base
 have cW : w0.cell? ⟨M, 1, none⟩ = some (.slice (some ⟨cg, 0, none⟩) m cc) := I0.cC
 rw [enter_at _ Try.func72 code72_is]
 simp only [Try.ntmps72, ez, Nat.reduceAdd, Nat.reduceSub]
 refine Aa z72 ?_
 clear cW
 have c1 : w0.cell? ⟨M, 2, none⟩ = some (.slice (some ⟨tb, 0, none⟩) n tc) := I0.cT (by omega)
 have c2 : w0.cell? ⟨M, 0, none⟩ = some (.int .i64 S.v) := I0.cV
 have c3 : w0.cell? ⟨tb, i * 8 + 6, none⟩ = some (.int .i64 (T i).vn) := I0.tcell hi rfl
 have z3 := I0.tfrz hi (i * 8 + 6)
 have I1 := I0.put hi (j := 6) (v := .int .i64 S.v) (t := { T i with vn := S.v }) rfl (by decide) ⟨rfl, rfl, rfl, rfl, rfl, rfl, rfl, rfl⟩
 try walk_nrm
 refine Aa z72 ?_
 (refine Ci (by kernel_rfl) size72_3 (by kernel_rfl) (by kernel_rfl) (by kernel_rfl) (by decide) ?_; simp only [List.range, List.range.loop]; repeat (first | (refine Cm.oq ?_) | (refine Bm Ao (by rfl) ?_; walk_nrm)))
 refine Cm.done ?_
 intro rest hr
 (have hfr := Jr tb (i * 8 + 6); refine Walk.os hfr c3 ?_; clear hfr; try walk_nrm)
 refine hr _ _ ?_
 have s1 := Ai w0 ⟨tb, i * 8 + 6, none⟩ (.int .i64 S.v)
 have o1 : ∀ x, x ≠ tb -> (w0.setCell ⟨tb, i * 8 + 6, none⟩ (.int .i64 S.v)).heap[x]? = w0.heap[x]? := fun x hx => Ac _ _ _ _ hx
 generalize w0.setCell ⟨tb, i * 8 + 6, none⟩ (.int .i64 S.v) = w1 at *
 clear c1 c2 c3 z3
 have c2 : w1.cell? ⟨M, 0, none⟩ = some (.int .i64 S.v) := I1.cV
 have g1 : Got M cg tb n T (upd T i { T i with vn := S.v }) w0 w1 := ⟨⟨by omega, fun x hx hn => o1 x fun e => hn (.inr (.inr (.inl e)))⟩, fun b hb => De (t := { T i with vn := S.v }) hi (fun b hb => .inl hb) b hb⟩
 try walk_nrm
 refine Aa z72 ?_
 have hb1 : (S.v.tmod 2 == 0) = true := by unfold Ba at hev; simpa using hev
 have hb2 : (S.v.tmod 2 != 0) = false := by unfold Ba at hev; simpa using hev
 try simp only [hb1, hb2]
 refine Aa z72 ?_
 exact Av rfl rfl Try.func72 rfl (.stop fun d => ⟨_, ⟨rfl, I1.same fun _ _ => rfl, ⟨g1.chg.at d, g1.own⟩⟩, rfl⟩)
theorem read_1o {main : Bool} {i : Nat} (hi : i < n) (hev : Ba S.v) (tr : Nat) (h1 : 1 <= tr) (h2 : tr <= 1024) (htr : (T i).tr = (tr : Int)) (hl : (T i).ans.length <= 65536) (hat : (T i).at' <= 65536) (w0 : World) (I0 : M8 a0 M cg cc tb tc n m ta S T w0) (hn : n <= 64) (ha0 : a0 <= w0.heap.size) :
  CallW Try.prog main (fun _ => none) 72 #[.pointer (some ⟨M, 0, none⟩), .int .i64 i, .int .i64 1] w0 (fun v w' => v = .tuple #[] /\ ∃ t', Ij { T i with vn := S.v } tr t' /\ M8 a0 M cg cc tb tc n m ta S (upd T i t') w' /\ Got M cg tb n T (upd T i t') w0 w') := by
 intro c cs
 have hi0 : (0 : Int) <= i := by omega
 have hi1 : decide ((i : Int) < n) = true := by simp; omega
 have hi3 : decide (i < n) = true := by simp; omega
 have hi4 : (i : Int) < n := by omega
 have ll1 := I0.lt.1
 have ll3 := I0.lt.2.2 (by omega)
 have lb := I0.base
 have cW : w0.cell? ⟨M, 1, none⟩ = some (.slice (some ⟨cg, 0, none⟩) m cc) := I0.cC
 rw [enter_at _ Try.func72 code72_is]
 simp only [Try.ntmps72, ez, Nat.reduceAdd, Nat.reduceSub]
 refine Aa z72 ?_
 clear cW
 have c1 : w0.cell? ⟨M, 2, none⟩ = some (.slice (some ⟨tb, 0, none⟩) n tc) := I0.cT (by omega)
 have c2 : w0.cell? ⟨M, 0, none⟩ = some (.int .i64 S.v) := I0.cV
 have c3 : w0.cell? ⟨tb, i * 8 + 6, none⟩ = some (.int .i64 (T i).vn) := I0.tcell hi rfl
 have z3 := I0.tfrz hi (i * 8 + 6)
 have I1 := I0.put hi (j := 6) (v := .int .i64 S.v) (t := { T i with vn := S.v }) rfl (by decide) ⟨rfl, rfl, rfl, rfl, rfl, rfl, rfl, rfl⟩
 try walk_nrm
 refine Aa z72 ?_
 (refine Ci (by kernel_rfl) size72_3 (by kernel_rfl) (by kernel_rfl) (by kernel_rfl) (by decide) ?_; simp only [List.range, List.range.loop]; repeat (first | (refine Cm.oq ?_) | (refine Bm Ao (by rfl) ?_; walk_nrm)))
 refine Cm.done ?_
 intro rest hr
 (have hfr := Jr tb (i * 8 + 6); refine Walk.os hfr c3 ?_; clear hfr; try walk_nrm)
 refine hr _ _ ?_
 have s1 := Ai w0 ⟨tb, i * 8 + 6, none⟩ (.int .i64 S.v)
 have o1 : ∀ x, x ≠ tb -> (w0.setCell ⟨tb, i * 8 + 6, none⟩ (.int .i64 S.v)).heap[x]? = w0.heap[x]? := fun x hx => Ac _ _ _ _ hx
 generalize w0.setCell ⟨tb, i * 8 + 6, none⟩ (.int .i64 S.v) = w1 at *
 clear c1 c2 c3 z3
 have c2 : w1.cell? ⟨M, 0, none⟩ = some (.int .i64 S.v) := I1.cV
 have g1 : Got M cg tb n T (upd T i { T i with vn := S.v }) w0 w1 := ⟨⟨by omega, fun x hx hn => o1 x fun e => hn (.inr (.inr (.inl e)))⟩, fun b hb => De (t := { T i with vn := S.v }) hi (fun b hb => .inl hb) b hb⟩
 try walk_nrm
 refine Aa z72 ?_
 have hb1 : (S.v.tmod 2 == 0) = false := by unfold Ba at hev; simpa using hev
 have hb2 : (S.v.tmod 2 != 0) = true := by unfold Ba at hev; simpa using hev
 have hf := Kl (main := main) hi tr h1 h2 (by rw [upd_same]; exact htr) (by rw [upd_same]; exact hl) (by rw [upd_same]; exact hat) w1 I1 hn (by omega)
 simp only [upd_same, Bc] at hf
 clear htr
 try simp only [hb1, hb2]
 refine Aa z72 ?_
 refine Ah (Post := fun v w' => v = .tuple #[] /\ ∃ t', Ij { T i with vn := S.v } tr t' /\ M8 a0 M cg cc tb tc n m ta S (upd T i t') w' /\ Got M cg tb n (upd T i { T i with vn := S.v }) (upd T i t') w1 w') ?_ Ao (by rfl) (by decide) rfl Try.func89 (by kernel_rfl) (by rfl) ?_
 ·walk_nrm
  exact hf
 rintro v w2 ⟨rfl, t', hF, I2, g2⟩
 walk_nrm
 refine Aa z72 ?_
 exact Av rfl rfl Try.func72 rfl (.stop fun d => ⟨_, ⟨rfl, t', hF, I2.same fun _ _ => rfl, ⟨(g1.trans g2).chg.at d, (g1.trans g2).own⟩⟩, rfl⟩)
theorem read_3n {main : Bool} {i : Nat} (hi : i < n) (p : Nat) (hp : m + 2 <= p) (hp2 : p <= 1000) (hm : m <= 64) (hv : S.v ≠ (T i).vn) (tr : Nat) (h1 : 1 <= tr) (h2 : tr <= 1024) (htr : (T i).tr = (tr : Int)) (hl : (T i).ans.length <= 65536) (hat : (T i).at' <= 65536) (w0 : World) (I0 : M8 a0 M cg cc tb tc n m ta S T w0) (hn : n <= 64) (ha0 : a0 <= w0.heap.size) :
  CallW Try.prog main (fun _ => none) 72 #[.pointer (some ⟨M, 0, none⟩), .int .i64 i, .int .i64 p] w0 (fun v w' => v = .tuple #[] /\ ∃ t', Ij (T i) tr t' /\ M8 a0 M cg cc tb tc n m ta S (upd T i t') w' /\ Got M cg tb n T (upd T i t') w0 w') := by
 have q1 : ((p : Int) == 1) = false := by simp; omega
 have q3 : IntKind.i64.wrap ((m : Int) + 1) = (m : Int) + 1 := by rw [IntKind.wrap_i64]; omega
 have q4 : decide ((p : Int) <= (m : Int) + 1) = false := by simp; omega
 have q5 : decide ((m : Int) + 1 < (p : Int)) = true := by simp; omega
 have q6 : ¬ p = 1 := by omega
 intro c cs
 have hi0 : (0 : Int) <= i := by omega
 have hi1 : decide ((i : Int) < n) = true := by simp; omega
 have hi3 : decide (i < n) = true := by simp; omega
 have hi4 : (i : Int) < n := by omega
 have ll1 := I0.lt.1
 have ll3 := I0.lt.2.2 (by omega)
 have lb := I0.base
 have cW : w0.cell? ⟨M, 1, none⟩ = some (.slice (some ⟨cg, 0, none⟩) m cc) := I0.cC
 rw [enter_at _ Try.func72 code72_is]
 simp only [Try.ntmps72, ez, Nat.reduceAdd, Nat.reduceSub]
 refine Aa z72 ?_
 clear cW
 have c1 : w0.cell? ⟨M, 2, none⟩ = some (.slice (some ⟨tb, 0, none⟩) n tc) := I0.cT (by omega)
 have c2 : w0.cell? ⟨M, 0, none⟩ = some (.int .i64 S.v) := I0.cV
 have c3 : w0.cell? ⟨tb, i * 8 + 6, none⟩ = some (.int .i64 (T i).vn) := I0.tcell hi rfl
 have hf := Kl (main := main) hi tr h1 h2 htr hl hat w0 I0 hn (by omega)
 have hne : (S.v == (T i).vn) = false := by simpa using hv
 clear htr
 try walk_nrm
 refine Aa z72 ?_
 (refine Bx (by kernel_rfl) size72_8 (by kernel_rfl) (by kernel_rfl) (by decide) ?_; simp only [List.range, List.range.loop]; repeat (first | (refine Cm.oq ?_) | (refine Bm Ao (by rfl) ?_; walk_nrm)))
 refine Cm.done ?_
 try simp only [hne]
 refine Aa z72 ?_
 refine Ah (Post := fun v w' => v = .tuple #[] /\ ∃ t', Ij (T i) tr t' /\ M8 a0 M cg cc tb tc n m ta S (upd T i t') w' /\ Got M cg tb n T (upd T i t') w0 w') ?_ Ao (by rfl) (by decide) rfl Try.func89 (by kernel_rfl) (by rfl) ?_
 ·walk_nrm
  exact hf
 rintro v w2 ⟨rfl, t', hF, I2, g2⟩
 walk_nrm
 refine Aa z72 ?_
 exact Av rfl rfl Try.func72 rfl (.stop fun d => ⟨_, ⟨rfl, t', hF, I2.same fun _ _ => rfl, ⟨(g2).chg.at d, (g2).own⟩⟩, rfl⟩)
theorem read_3e {main : Bool} {i : Nat} (hi : i < n) (p : Nat) (hp : m + 2 <= p) (hp2 : p <= 1000) (hm : m <= 64) (hv : (T i).vn = S.v) (hlv : (T i).live) (hsl : (T i).seen.length <= 1048576) (hl : (T i).ans.length <= 65536) (hat : (T i).at' <= 65536) (w0 : World) (I0 : M8 a0 M cg cc tb tc n m ta S T w0) (hn : n <= 64) (ha0 : a0 <= w0.heap.size) :
  CallW Try.prog main (fun _ => none) 72 #[.pointer (some ⟨M, 0, none⟩), .int .i64 i, .int .i64 p] w0 (fun v w' => v = .tuple #[] /\ ∃ av oA, M8 a0 M cg cc tb tc n m ta S (upd T i ((T i).take.told ⟨true, 0, (T i).seen⟩ av oA)) w' /\ Got M cg tb n T (upd T i ((T i).take.told ⟨true, 0, (T i).seen⟩ av oA)) w0 w') := by
 have q1 : ((p : Int) == 1) = false := by simp; omega
 have q3 : IntKind.i64.wrap ((m : Int) + 1) = (m : Int) + 1 := by rw [IntKind.wrap_i64]; omega
 have q4 : decide ((p : Int) <= (m : Int) + 1) = false := by simp; omega
 have q5 : decide ((m : Int) + 1 < (p : Int)) = true := by simp; omega
 have q6 : ¬ p = 1 := by omega
 intro c cs
 have hi0 : (0 : Int) <= i := by omega
 have hi1 : decide ((i : Int) < n) = true := by simp; omega
 have hi3 : decide (i < n) = true := by simp; omega
 have hi4 : (i : Int) < n := by omega
 have ll1 := I0.lt.1
 have ll3 := I0.lt.2.2 (by omega)
 have lb := I0.base
 have cW : w0.cell? ⟨M, 1, none⟩ = some (.slice (some ⟨cg, 0, none⟩) m cc) := I0.cC
 rw [enter_at _ Try.func72 code72_is]
 simp only [Try.ntmps72, ez, Nat.reduceAdd, Nat.reduceSub]
 refine Aa z72 ?_
 clear cW
 have c1 : w0.cell? ⟨M, 2, none⟩ = some (.slice (some ⟨tb, 0, none⟩) n tc) := I0.cT (by omega)
 have c2 : w0.cell? ⟨M, 0, none⟩ = some (.int .i64 S.v) := I0.cV
 have c3 : w0.cell? ⟨tb, i * 8 + 6, none⟩ = some (.int .i64 (T i).vn) := I0.tcell hi rfl
 have c4 : w0.cell? ⟨tb, i * 8 + 7, none⟩ = some (T i).sv := I0.tcell hi rfl
 have Rt := (I0.rows i hi).taken hlv hsl
 have he := Om (main := main) hi ⟨true, 0, (T i).seen⟩ (T i).sv w0 (by rw [upd_same]; exact Rt) (I0.take hi hlv) hn (by omega) (by rw [upd_same]; exact hl) (by rw [upd_same]; exact hat)
 simp only [upd_same, Bc] at he
 simp only [Bw] at he
 have gt := Got.take (M := M) (cg := cg) (tb := tb) (w := w0) hi hlv
 obtain ⟨sa, sc, hsv, _⟩ := Rt
 rw [hsv] at c4 he
 rw [hv] at c3
 have hne : (S.v == S.v) = true := by simp
 clear hv hsv
 try walk_nrm
 refine Aa z72 ?_
 (refine Bx (by kernel_rfl) size72_8 (by kernel_rfl) (by kernel_rfl) (by decide) ?_; simp only [List.range, List.range.loop]; repeat (first | (refine Cm.oq ?_) | (refine Bm Ao (by rfl) ?_; walk_nrm)))
 refine Cm.done ?_
 try simp only [hne]
 refine Aa z72 ?_
 refine Ah (Post := fun v w' => v = .tuple #[] /\ ∃ av oA, M8 a0 M cg cc tb tc n m ta S (upd T i ((T i).take.told ⟨true, 0, (T i).seen⟩ av oA)) w' /\ Got M cg tb n (upd T i (T i).take) (upd T i ((T i).take.told ⟨true, 0, (T i).seen⟩ av oA)) w0 w') ?_ Ao (by rfl) (by decide) rfl Try.func73 (by kernel_rfl) (by rfl) ?_
 ·walk_nrm
  exact he
 rintro v w2 ⟨rfl, av, oA, I2, g2⟩
 walk_nrm
 refine Aa z72 ?_
 exact Av rfl rfl Try.func72 rfl (.stop fun d => ⟨_, ⟨rfl, av, oA, I2.same fun _ _ => rfl, ⟨(gt.trans g2).chg.at d, (gt.trans g2).own⟩⟩, rfl⟩)
end
end
section
def Ja (x : Int) : Obj := .cells #[.int .i64 x] 2
structure AppI (a0 : Nat) (w1 : World) (x : Int) (hd : Value) (l : List Int) (gb gcap : Nat) (w3 : World) : Prop where
 own : w3.ownsRow a0 2 1 (.slice (some ⟨gb, 0, none⟩) (l.length + 1) gcap) (l.length + 1) (Bp l ++ [.int .i64 x])
 grown : (w1.alloc (Ja x)).grownBy w3 hd.ownBlock
 hat : hd.ownBlock = some gb ∨ gb = (w1.alloc (Ja x)).heap.size
 hlt : gb < w3.heap.size
section
variable {a0 M cg cc tb tc n m : Nat} {ta : Option Addr} {S : Sq} {T : Nat -> R8}
theorem read_2 {main : Bool} {i : Nat} (hi : i < n) (p j : Nat) (hp : 2 <= p) (hj : j < m) (hp2 : p <= j + 2) (hp3 : j + 2 <= p) (hm : m <= 64) (hlv : (T i).live) (hl : (T i).seen.length <= 65536) (w0 : World) (I0 : M8 a0 M cg cc tb tc n m ta S T w0) (hn : n <= 64) (ha0 : a0 <= w0.heap.size) :
  CallW Try.prog main (fun _ => none) 72 #[.pointer (some ⟨M, 0, none⟩), .int .i64 i, .int .i64 p] w0 (fun v w' => v = .tuple #[] /\ ∃ sv, M8 a0 M cg cc tb tc n m ta S (upd T i { T i with sv := sv, seen := (T i).seen ++ [S.w j] }) w' /\ Got M cg tb n T (upd T i { T i with sv := sv, seen := (T i).seen ++ [S.w j] }) w0 w') := by
 have q1 : ((p : Int) == 1) = false := by simp; omega
 have q3 : IntKind.i64.wrap ((m : Int) + 1) = (m : Int) + 1 := by rw [IntKind.wrap_i64]; omega
 have q4 : decide ((p : Int) <= (m : Int) + 1) = true := by simp; omega
 have q5 : decide ((m : Int) + 1 < (p : Int)) = false := by simp; omega
 have q6 : ¬ p = 1 := by omega
 have q8 : IntKind.i64.wrap ((p : Int) - 2) = (j : Int) := by rw [IntKind.wrap_i64]; omega
 have j0 : (0 : Int) <= j := by omega
 have j1 : decide ((j : Int) < m) = true := by simp; omega
 have j3 : decide (j < m) = true := by simp; omega
 have j4 : (j : Int) < m := by omega
 clear hp hp2 hp3
 intro c cs
 have hi0 : (0 : Int) <= i := by omega
 have hi1 : decide ((i : Int) < n) = true := by simp; omega
 have hi3 : decide (i < n) = true := by simp; omega
 have hi4 : (i : Int) < n := by omega
 have cW : w0.cell? ⟨M, 1, none⟩ = some (.slice (some ⟨cg, 0, none⟩) m cc) := I0.cC
 rw [enter_at _ Try.func72 code72_is]
 simp only [Try.ntmps72, ez, Nat.reduceAdd, Nat.reduceSub]
 refine Aa z72 ?_
 clear cW
 obtain ⟨bb1, bb2, bb3, bb4⟩ := I0.base
 obtain ⟨bb5, bb6, bb7⟩ := bb4 (by omega)
 obtain ⟨ll1, ll2, ll3⟩ := I0.lt
 have ll3 := ll3 (by omega)
 have R0 := I0.rows i hi
 have c1 : w0.cell? ⟨M, 2, none⟩ = some (.slice (some ⟨tb, 0, none⟩) n tc) := I0.cT (by omega)
 have c2 : w0.cell? ⟨tb, i * 8 + 7, none⟩ = some (T i).sv := I0.tcell hi rfl
 have c3 : w0.cell? ⟨M, 1, none⟩ = some (.slice (some ⟨cg, 0, none⟩) m cc) := I0.cC
 have c4 := I0.ccell hj
 obtain ⟨carr, hc1, hc2⟩ := I0.cs
 generalize hx : S.w j = x at *
 have hsz1 : w0.heap.size + 1 <= (w0.alloc (Ja x)).heap.size /\ (w0.alloc (Ja x)).heap.size <= w0.heap.size + 1 := by simp
 have hO1 : ∀ y, y < w0.heap.size -> (w0.alloc (Ja x)).heap[y]? = w0.heap[y]? := fun y hy => Ab _ _ hy
 have hown' : (w0.alloc (Ja x)).ownsRow a0 2 1 (T i).sv (T i).seen.length (Bp (T i).seen) := Aw (R0.rS hlv) fun g hg => hO1 g ((R0.rS hlv).lt g hg).2
 have hnews : ∀ (j : Nat) (u : Value), ([.int .i64 x] : List Value)[j]? = some u -> (w0.alloc (Ja x)).cell? ((⟨w0.heap.size, 0, none⟩ : Addr).add j) = some u := fun j u hu => by
  rw [Bj, Nat.zero_add]
  refine (Ad (heap_alloc_new _ _) j).trans ?_
  simpa using hu
 have hnM : ∀ g, (T i).sv.ownBlock = some g -> g ≠ M /\ g ≠ cg /\ g ≠ tb := fun g hg => by
  obtain ⟨e1, e2, e3, _⟩ := I0.far i hi g (.inr ⟨hlv, hg⟩)
  exact ⟨e1, e2, e3⟩
 have hfar : ∀ (y : Nat) (w2 : World), y < w0.heap.size -> (∀ g, (T i).sv.ownBlock = some g -> g ≠ y) -> (w0.alloc (Ja x)).grownBy w2 (T i).sv.ownBlock -> w2.heap[y]? = w0.heap[y]? := fun y w2 hy hne hg => (hg.block y (by omega) (fun e => hne y e.symm rfl)).trans (hO1 y hy)
 refine Aa z72 ?_
 refine Fe (iA := 21) (iB := 22) (w1 := w0.alloc (Ja x)) (vA := .slice (some ⟨w0.heap.size, 0, none⟩) 1 1) (Z := fun y => y.cell? ⟨M, 2, none⟩ = some (.slice (some ⟨tb, 0, none⟩) n tc) /\ y.cell? ⟨tb, i * 8 + 7, none⟩ = some (T i).sv /\ y.cell? ⟨M, 1, none⟩ = some (.slice (some ⟨cg, 0, none⟩) m cc) /\ y.cell? ⟨cg, j, none⟩ = some (.int .i64 x))
  (fun v w2 => ∃ g cap, v = .slice (some ⟨g, 0, none⟩) ((T i).seen.length + 1) cap /\ AppI a0 w0 x (T i).sv (T i).seen g cap w2) (by kernel_rfl) size72_7 (by kernel_rfl) (by kernel_rfl) (by kernel_rfl) (by kernel_rfl) (by decide) Ao Ao ⟨c1, c2, c3, c4⟩ ⟨Ag _ _ c1, Ag _ _ c2, Ag _ _ c3, Ag _ _ c4⟩ ?_ ?_
 ·rintro v w2 ⟨g, cap, _, hA⟩
  exact ⟨(World.cell?_of_block (a := ⟨M, 2, none⟩) (hfar M w2 (by omega) (fun g hg => (hnM g hg).1) hA.grown)).trans c1, (World.cell?_of_block (a := ⟨tb, i * 8 + 7, none⟩) (hfar tb w2 (by omega) (fun g hg => (hnM g hg).2.2) hA.grown)).trans c2, (World.cell?_of_block (a := ⟨M, 1, none⟩) (hfar M w2 (by omega) (fun g hg => (hnM g hg).1) hA.grown)).trans c3, (World.cell?_of_block (a := ⟨cg, j, none⟩) (hfar cg w2 (by omega) (fun g hg => (hnM g hg).2.1) hA.grown)).trans c4⟩
 rw [show List.filter (Cg 21 22) (List.range 25) = [0, 1, 2, 3, 4, 5, 6, 7, 8, 9, 10, 11, 12, 13, 14, 15, 16, 17, 18, 19, 20, 23, 24] from by decide]
 repeat (first | (refine Ix Ao (by rfl) (fun wz hz dd e he => ?_) ?_; (· (obtain ⟨z1, z2, z3, z4⟩ := hz; simp [go_sem, *] at he; try (subst he; exact Cc _ _))); apply Exists.intro; apply And.intro; (· (intro wz hz dd K hK; obtain ⟨z1, z2, z3, z4⟩ := hz; go_simp; exact hK))) | (refine Bm Ao (by rfl) ?_; walk_nrm))
 refine Cm.done ⟨?_, ?_, ?_⟩
 ·intro y hev rest hr'
  have e0 : y.eval (.tmp 63) = .int .i64 x := (hev (.tmp 63) (by simp [Op.operands])).trans rfl
  have e1 : y.tmps[63]?.getD undef = .int .i64 x := by
   rw [<- Array.getD_eq_getD_getElem?]
   exact e0
  clear e0 hev
  (refine Walk.oa ?_; try walk_nrm)
  exact hr' _ _ ⟨rfl, _, rfl⟩
 ·intro y hev rest hr'
  have e1 : y.eval (.tmp 55) = (T i).sv := (hev (.tmp 55) (by simp [Op.operands, Call.operands])).trans rfl
  have e2 : y.eval (.tmp 64) = .slice (some ⟨w0.heap.size, 0, none⟩) 1 1 := (hev (.tmp 64) (by simp [Op.operands, Call.operands])).trans rfl
  have hiA := Option.some_get (show (Try.prog.info? 2).isSome = true by kernel_rfl)
  refine Walk.append (.tmp 55) (.tmp 64) 22 Ao (by rfl) (by decide) rfl a0 2 _ (.int .i64 0) 1 8 (by kernel_rfl) hiA.symm (by rfl) (by rfl) (by rfl) (by rfl) (by decide) (T i).sv (T i).seen.length (Bp (T i).seen) e1 hown' ⟨w0.heap.size, 0, none⟩ 1 1 [.int .i64 x] e2 (by rfl) hnews (by simp [Value.oneCell']) (by decide) (by simp [maxLen]; omega) (by omega) (by omega) (fun g _ => Oi g) (fun g cap w3 hown hg hat hlt => ?_)
  exact hr' _ _ ⟨_, w3, ⟨g, cap, rfl, hown, hg, hat, hlt⟩, rfl, w3.drawn, rfl⟩
 rintro v w2 ⟨g, cap, rfl, hA⟩ rest hr'
 have hb2 : w2.heap[tb]? = w0.heap[tb]? := hfar tb w2 (by omega) (fun g hg => (hnM g hg).2.2) hA.grown
 have h12 : w2.cell? ⟨tb, i * 8 + 7, none⟩ = some (T i).sv := (World.cell?_of_block (a := ⟨tb, i * 8 + 7, none⟩) hb2).trans c2
 have z12 : w2.frozen? ⟨tb, i * 8 + 7, none⟩ = false := by
  obtain ⟨_, arr, h1, _⟩ := I0.ts (by omega)
  exact An (hb2.trans h1) _
 have hgs := hA.grown.size
 have hlen : ((T i).seen ++ [x]).length = (T i).seen.length + 1 := by simp
 have hgo : ∀ b, ({ T i with sv := .slice (some ⟨g, 0, none⟩) ((T i).seen.length + 1) cap, seen := (T i).seen ++ [x] } : R8).own b -> (T i).own b ∨ w0.heap.size <= b := fun b hb => by
  rcases hb with hb | ⟨_, hb⟩
  ·exact .inl (.inl hb)
  ·simp only [Value.ownBlock, Option.some.injEq] at hb
   subst hb
   rcases hA.hat with h | h
   ·exact .inl (.inr ⟨hlv, h⟩)
   ·exact .inr (by omega)
 have I3 : M8 a0 M cg cc tb tc n m ta S (upd T i { T i with sv := .slice (some ⟨g, 0, none⟩) ((T i).seen.length + 1) cap, seen := (T i).seen ++ [x] }) (w2.setCell ⟨tb, i * 8 + 7, none⟩ (.slice (some ⟨g, 0, none⟩) ((T i).seen.length + 1) cap)) := by
  refine I0.put' hi rfl (by decide) w2 (fun b hb hn => hfar b w2 hb (fun g hg e => hn (.inr ⟨hlv, by rw [<- e]; exact hg⟩)) hA.grown) ⟨?_, ?_, fun _ => ?_, fun _ b hb hob => ?_, fun b hob => ?_⟩ hgo
  ·exact R0.rO.same fun b hb hw => hfar b w2 hw (fun g hg e => by have := ((R0.rS hlv).lt g hg).1; omega) hA.grown
  ·exact R0.rA.same fun b hb => hfar b w2 (R0.lo b hb).2 (fun g hg e => R0.ne hlv g hg (by rw [e]; exact hb)) hA.grown
  ·show w2.ownsRow a0 _ 1 _ ((T i).seen ++ [x]).length (Bp ((T i).seen ++ [x]))
   rw [hlen, Ia]
   exact hA.own
  ·have hlt := (R0.lo b hob).2
   simp only [Value.ownBlock, Option.some.injEq] at hb
   subst hb
   rcases hA.hat with h | h
   ·exact R0.ne hlv _ h hob
   ·omega
  ·have := R0.lo b hob
   exact ⟨this.1, by omega⟩
 have hC3 : Got M cg tb n T (upd T i { T i with sv := .slice (some ⟨g, 0, none⟩) ((T i).seen.length + 1) cap, seen := (T i).seen ++ [x] }) w0 (w2.setCell ⟨tb, i * 8 + 7, none⟩ (.slice (some ⟨g, 0, none⟩) ((T i).seen.length + 1) cap)) := by
  refine ⟨⟨by rw [Ai]; omega, fun y hy hn => ?_⟩, fun b hb => De hi hgo b hb⟩
  rw [Ac _ _ _ _ (fun e => hn (.inr (.inr (.inl e)))), hfar y w2 (by omega) (fun g hg e => hn (.inr (.inr (.inr ⟨i, hi, .inr ⟨hlv, by rw [<- e]; exact hg⟩⟩)))) hA.grown]
 (have hfr := Jr tb (i * 8 + 7); refine Walk.os hfr h12 ?_; clear hfr; try walk_nrm)
 refine hr' _ _ ?_
 generalize w2.setCell ⟨tb, i * 8 + 7, none⟩ (.slice (some ⟨g, 0, none⟩) ((T i).seen.length + 1) cap) = w3 at *
 generalize hav : Value.slice (some ⟨g, 0, none⟩) ((T i).seen.length + 1) cap = sv at *
 clear hA hgo h12 z12 hb2 hfar hown' hnews hnM hO1 c1 c2 c3 c4 R0 I0 hc1 hc2
 try walk_nrm
 refine Aa z72 ?_
 exact Av rfl rfl Try.func72 rfl (.stop fun d => ⟨_, ⟨rfl, sv, I3.same fun _ _ => rfl, ⟨hC3.chg.at d, hC3.own⟩⟩, rfl⟩)
end
end
section
noncomputable def reg53_0 := rk Try.f53.body 0
theorem size53_0 : reg53_0.size = 20 := by kernel_rfl
noncomputable def reg53_1 := rk Try.f53.body 1
noncomputable def reg53_2 := rk Try.f53.body 2
noncomputable def reg53_3 := rk Try.f53.body 3
noncomputable def reg53_4 := rk Try.f53.body 4
noncomputable def reg53_5 := rk Try.f53.body 5
noncomputable def reg53_6 := rk Try.f53.body 6
noncomputable def reg53_7 := rk Try.f53.body 7
noncomputable def reg53_8 := rk Try.f53.body 8
noncomputable def reg53_9 := rk Try.f53.body 9
noncomputable def reg53_10 := rk Try.f53.body 10
noncomputable def reg53_11 := rk Try.f53.body 11
theorem size53_11 : reg53_11.size = 26 := by kernel_rfl
noncomputable def reg53_12 := rk Try.f53.body 12
noncomputable def reg53_13 := rk Try.f53.body 13
noncomputable def reg53_14 := rk Try.f53.body 14
noncomputable def reg53_15 := rk Try.f53.body 15
theorem size53_15 : reg53_15.size = 15 := by kernel_rfl
theorem z53 : reg53_0.size = 20 /\ reg53_1.size = 9 /\ reg53_2.size = 6 /\ reg53_3.size = 10 /\ reg53_4.size = 2 /\ reg53_5.size = 2 /\ reg53_6.size = 2 /\ reg53_7.size = 5 /\ reg53_8.size = 2 /\ reg53_9.size = 4 /\ reg53_10.size = 2 /\ reg53_11.size = 26 /\ reg53_12.size = 3 /\ reg53_13.size = 12 /\ reg53_14.size = 2 /\ reg53_15.size = 15 := by and_intros <;> kernel_rfl
theorem code53_is : Try.f53.body = some (.seq (.region 0 reg53_0 true) (.seq (.region 1 reg53_1 false) (.seq (.region 2 reg53_2 false) (.seq (.region 3 reg53_3 false) (.seq (.region 4 reg53_4 false) (.block 0 (.seq (.seq (.region 5 reg53_5 false) (.cond (.tmp 49 ) (.skip) (.region 6 reg53_6 false))) (.cond (.tmp 49 ) (.region 7 reg53_7 false) (.seq (.region 8 reg53_8 false) (.cond (.tmp 57 ) (.region 9 reg53_9 false) (.seq (.region 10 reg53_10 false) (.cond (.tmp 63 ) (.seq (.region 11 reg53_11 true) (.seq (.region 12 reg53_12 false) (.cond (.tmp 92 ) (.region 13 reg53_13 false) (.skip)))) (.seq (.region 14 reg53_14 false) (.cond (.tmp 105 ) (.region 15 reg53_15 true) (.skip))))))))))))))) := by kernel_rfl
noncomputable def hdSt8 (M i S p m : Nat) (kd : Int) (u : Nat -> Value) : Frame :=
 (base 53).at { tmps := #[.pointer (some ⟨M, 0, none⟩), .int .i64 i, u 2, u 3, .pointer (some ⟨S, 0, none⟩), .int .i64 p, .int .i64 m, u 7, u 8, u 9, u 10, u 11, u 12, u 13, u 14, u 15, u 16, u 17, u 18, u 19, u 20, u 21, u 22, u 23, u 24, u 25, u 26, u 27, u 28, u 29, u 30, u 31, u 32, u 33, u 34, u 35, u 36, u 37, u 38, u 39, u 40, u 41, u 42, u 43, u 44, u 45, u 46, u 47, .int .i64 kd, .bool (kd == 1), u 50, u 51, u 52, u 53, u 54, u 55, u 56, u 57, u 58, u 59, u 60, u 61, u 62, u 63, u 64, u 65, u 66, u 67, u 68, u 69, u 70, u 71, u 72, u 73, u 74, u 75, u 76, u 77, u 78, u 79, u 80, u 81, u 82, u 83, u 84, u 85, u 86, u 87, u 88, u 89, u 90, u 91, u 92, u 93, u 94, u 95, u 96, u 97, u 98, u 99, u 100, u 101, u 102, u 103, u 104, u 105, u 106, u 107, u 108, u 109, u 110, u 111, u 112, u 113, u 114, u 115, u 116, u 117, u 118, u 119, u 120, u 121], defers := [] } [.code (.cond (.tmp 49 ) (.skip) (.region 6 reg53_6 false)), .code (.cond (.tmp 49 ) (.region 7 reg53_7 false) (.seq (.region 8 reg53_8 false) (.cond (.tmp 57 ) (.region 9 reg53_9 false) (.seq (.region 10 reg53_10 false) (.cond (.tmp 63 ) (.seq (.region 11 reg53_11 true) (.seq (.region 12 reg53_12 false) (.cond (.tmp 92 ) (.region 13 reg53_13 false) (.skip)))) (.seq (.region 14 reg53_14 false) (.cond (.tmp 105 ) (.region 15 reg53_15 true) (.skip)))))))), .inBlock 0]
def zOp : Obj := .cells #[.int .i64 0, .int .i64 0, .int .i64 0, .int .i64 0] 47
section
variable {a0 M cg cc tb tc n m : Nat} {ta : Option Addr} {Sx : Sq} {T : Nat -> R8} {main : Bool}
structure StepI8 (a0 M cg cc tb tc n m : Nat) (ta : Option Addr) (Sx : Sq) (T : Nat -> R8) (i p S : Nat) (o : OpV) (w w' : World) : Prop where
 I : M8 a0 M cg cc tb tc n m ta Sx (upd T i { T i with pc := (p : Int) + 1 }) w'
 got : Got M cg tb n T (upd T i { T i with pc := (p : Int) + 1 }) w w'
 op : w'.heap[S]? = some (.cells #[.int .i64 o.k, .int .i64 o.a, .int .i64 o.b, .int .i64 o.c] 47)
 lo : w.heap.size = S
theorem Hr {i p : Nat} (hi : i < n) (o : OpV) (w : World) (I : M8 a0 M cg cc tb tc n m ta Sx T w) (hm : m <= 64) (hpc : (T i).pc = (p : Int)) (hk : p <= 1000) (ho : (T i).ops[(T i).at']? = some o) (hat : (T i).ops.length <= 65536) (cs : List Frame) :
  Walk Try.prog main (DR (fun _ => none)) (fun g w' => (∃ u, g = G (hdSt8 M i w.heap.size p m o.k u) cs) /\ StepI8 a0 M cg cc tb tc n m ta Sx T i p w.heap.size o w w') (G (Frame.enter Try.prog 53 #[.pointer (some ⟨M, 0, none⟩), .int .i64 i] .normal) cs) w := by
 have hi0 : (0 : Int) <= i := by omega
 have hi1 : decide ((i : Int) < n) = true := by simp; omega
 have hi3 : decide (i < n) = true := by simp; omega
 have hi4 : (i : Int) < n := by omega
 have hlt := (List.getElem?_eq_some_iff.1 ho).1
 have hw3 : IntKind.i64.wrap ((p : Int) + 1) = (p : Int) + 1 := by rw [IntKind.wrap_i64]; omega
 obtain ⟨fsO, huO⟩ := Cf 47 (by kernel_rfl)
 obtain ⟨g, off, oc, hov, _, hgl, hop⟩ := (I.rows i hi).op ho
 have c0 : w.cell? ⟨M, 2, none⟩ = some (.slice (some ⟨tb, 0, none⟩) n tc) := I.cT (by omega)
 have c1 : w.cell? ⟨tb, i * 8 + 3, none⟩ = some (.int .i64 (T i).at') := I.tcell hi rfl
 have c2 : w.cell? ⟨tb, i * 8, none⟩ = some (T i).ov := I.tcell hi (j := 0) rfl
 rw [hov] at c2
 have hO1 : ∀ x, x < w.heap.size -> (w.alloc zOp).heap[x]? = w.heap[x]? := fun x hx => Ab _ _ hx
 have I0 := I.same hO1
 have s0 : (w.alloc zOp).heap.size = w.heap.size + 1 := by simp
 have e0 := Ag _ zOp c0
 have e1 := Ag _ zOp c1
 have e2 := Ag _ zOp c2
 have hop' : ∀ (j : Nat) (v : Value), ([.int .i64 o.k, .int .i64 o.a, .int .i64 o.b, .int .i64 o.c] : List Value)[j]? = some v -> (w.alloc zOp).cell? ⟨g, off + (T i).at' * 4 + j, none⟩ = some v := fun j v hv => Ag _ zOp (hop j v hv)
 generalize hln : (T i).ops.length = ln at *
 generalize hatk : (T i).at' = q at *
 have hk0 : (0 : Int) <= q := by omega
 have hk1 : decide ((q : Int) < ln) = true := by simp; omega
 have hk3 : decide (q < ln) = true := by simp; omega
 have hk4 : (q : Int) < ln := by omega
 rw [enter_at _ Try.func53 code53_is]
 simp only [Try.ntmps53, ez, Nat.reduceAdd, Nat.reduceSub]
 refine Aa z53 ?_
 refine Walk.drawnB (w1 := w.alloc (zOp)) (vm := .pointer (some ⟨w.heap.size, 0, none⟩)) (by kernel_rfl) size53_0 (by kernel_rfl) (by kernel_rfl) (by kernel_rfl) (by decide) Ao ?_ ?_
 ·intro x rest hr
  (refine Walk.oa ?_; try walk_nrm)
  exact hr _ _ ⟨rfl, _, rfl⟩
 simp only [List.range, List.range.loop]
 repeat (first | (refine Cm.opqB Ao (by rfl) (fun dd e he => ?_) (fun dd e he => ?_) ?_; (· (simp [go_sem, *] at he; try (subst he; exact Cc _ _))); (· (simp [go_sem, *] at he; try (subst he; exact Cc _ _))); apply Exists.intro; apply And.intro; (· (intro dd K hK; go_simp; exact hK)); apply And.intro; (· (intro dd K hK; go_simp; exact hK))) | (refine Bm Ao (by rfl) ?_; walk_nrm))
 refine Cm.loadS 47 (.tmp 23) Ao (by rfl) rfl g (off + q * 4) [.int .i64 o.k, .int .i64 o.a, .int .i64 o.b, .int .i64 o.c] (.struct fsO) rfl (fun x hx => by rcases hx with rfl | rfl; exact hop; exact hop') huO rfl (by kernel_rfl) ?_
 clear c0 c1 c2 e0 e1 e2 hop hop'
 walk_nrm
 refine Cm.done ?_
 intro rest hr
 have d0 := heap_alloc_new w zOp
 generalize hS : w.heap.size = S at *
 generalize w.alloc zOp = w0 at *
 unfold zOp at d0
 refine Ap 47 (.tmp 4) (.tmp 24) Ao (by rfl) (by decide) rfl S #[.int .i64 o.k, .int .i64 o.a, .int .i64 o.b, .int .i64 o.c] _ 47 rfl rfl d0 (by kernel_rfl) (by rfl) (by simp [Value.oneCell']) (Oi _) ?_
 have d1 := setRow_self (cells := #[.int .i64 o.k, .int .i64 o.a, .int .i64 o.b, .int .i64 o.c]) d0
 have o1 : ∀ x, x < S -> (w0.setRow S #[.int .i64 o.k, .int .i64 o.a, .int .i64 o.b, .int .i64 o.c]).heap[x]? = w.heap[x]? := fun x hx => (Aq _ _ (by omega)).trans (hO1 x hx)
 have s1 := Az w0 S #[.int .i64 o.k, .int .i64 o.a, .int .i64 o.b, .int .i64 o.c]
 refine hr _ _ ?_
 generalize w0.setRow S #[.int .i64 o.k, .int .i64 o.a, .int .i64 o.b, .int .i64 o.c] = w1 at *
 have I1 : M8 a0 M cg cc tb tc n m ta Sx T w1 := I.same fun x hx => o1 x (by omega)
 clear I0 d0 hO1
 have c0 : w1.cell? ⟨M, 2, none⟩ = some (.slice (some ⟨tb, 0, none⟩) n tc) := I1.cT (by omega)
 have c1 : w1.cell? ⟨M, 1, none⟩ = some (.slice (some ⟨cg, 0, none⟩) m cc) := I1.cC
 have c2 : w1.cell? ⟨tb, i * 8 + 4, none⟩ = some (.int .i64 (T i).pc) := I1.tcell hi rfl
 have z2 := I1.tfrz hi (i * 8 + 4)
 rw [hpc] at c2
 have I2 := I1.put hi (j := 4) (v := .int .i64 ((p : Int) + 1)) (t := { T i with pc := (p : Int) + 1 }) rfl (by decide) ⟨rfl, rfl, rfl, rfl, rfl, rfl, rfl, rfl⟩
 try walk_nrm
 refine Aa z53 ?_
 (have hfr := Jr tb (i * 8 + 4); refine Walk.os hfr c2 ?_; clear hfr; try walk_nrm)
 have d2 : (w1.setCell ⟨tb, i * 8 + 4, none⟩ (.int .i64 ((p : Int) + 1))).heap[S]? = some (.cells #[.int .i64 o.k, .int .i64 o.a, .int .i64 o.b, .int .i64 o.c] 47) := (Ac _ _ _ _ (by have := I.lt.2.2 (by omega); show S ≠ tb; omega)).trans d1
 have s2 := Ai w1 ⟨tb, i * 8 + 4, none⟩ (.int .i64 ((p : Int) + 1))
 have o2 : ∀ x, x ≠ tb -> (w1.setCell ⟨tb, i * 8 + 4, none⟩ (.int .i64 ((p : Int) + 1))).heap[x]? = w1.heap[x]? := fun x hx => Ac _ _ _ _ hx
 generalize w1.setCell ⟨tb, i * 8 + 4, none⟩ (.int .i64 ((p : Int) + 1)) = w2 at *
 clear c0 c1 c2 z2
 have c0 := (Ad d2 0).trans rfl
 try walk_nrm
 refine Aa z53 ?_
 refine .stop fun d => ⟨Am ?_, I2.same fun _ _ => rfl, ⟨⟨?_, fun x hx hn => ?_⟩, fun b hb => De hi (t := { T i with pc := (p : Int) + 1 }) (fun b hb => .inl hb) b hb⟩, d2, hS⟩
 ·simp only [hdSt8]
  rfl
 ·show w.heap.size <= w2.heap.size
  omega
 ·show w2.heap[x]? = w.heap[x]?
  exact (o2 x fun e => hn (.inr (.inr (.inl e)))).trans (o1 x (by omega))
end
end
end Go.Proofs.Ytjenoiekfkhafaa
