/- Part 21. -/
import Derived.Test.YtcdcnmphjhfbpaaJ20
set_option linter.unusedSimpArgs false
set_option linter.unusedVariables false
set_option linter.unusedVariables false
set_option maxHeartbeats 8000000
set_option maxRecDepth 100000
namespace Go.Proofs.Ytcdcnmphjhfbpaa
open Go.Conc Go.RowKit Go.Relay
open Go.ConcN (upd upd_ne upd_same)
section
section
variable {a0 M tb tc n m : Nat} {cb : CB} {ta : Option Addr} {Sx : Rg} {T : Nat -> R11} {main : Bool}
theorem stp_h1 {i Sb x : Nat} (hi : i < n) (q lp : Int) (hx : x < m) (p : Nat) (L : Int) (hL : IntKind.i64.wrap (2 * lp) = L) (hLb : 0 <= L /\ L < 9223372036854775807) (hq0 : 0 <= q) (hq1 : q < 4611686018427387904) (h : Sx.st x = L) (hm2 : m <= 65536) (hl : (T i).ans.length <= 65536) (hat : (T i).at' <= 65536) (k oa ob oc : Int) (w0 : World) (hop : w0.heap[Sb]? = some (.cells #[.int .i64 k, .int .i64 oa, .int .i64 ob, .int .i64 oc] 49)) (hSb : tb < Sb) (hoa0 : 0 <= oa) (hoa1 : oa < 4611686018427387904) (hb : q <= ob) (hb2 : ob <= q) (I0 : M11 a0 M cb tb tc n m ta Sx T w0) (hn : n <= 64) (ha0 : a0 <= w0.heap.size) (u : Nat -> Value) (fr : Frame) (cs : List Frame) :
  Walk Try.prog main (DR (fun _ => none)) (fun g w' => g = G (fr.finish (.tuple #[])) cs /\ ∃ av oA, M11 a0 M cb tb tc n m ta Sx (upd T i (({ T i with pc := 1, q := q + 1 }).told ⟨true, q, []⟩ av oA)) w' /\ Got M cb m tb n T (upd T i (({ T i with pc := 1, q := q + 1 }).told ⟨true, q, []⟩ av oA)) w0 w') (G (hdSt11 M i Sb q x lp p 4 u) (fr :: cs)) w0 := by
 have ham : IntKind.wrap .i64 (oa + m) = oa + m := by rw [IntKind.wrap_i64]; omega
 replace h : Sx.st x <= L /\ L <= Sx.st x := by omega
 have hi0 : (0 : Int) <= i := by omega
 have hi1 : decide ((i : Int) < n) = true := by simp; omega
 have hi3 : decide (i < n) = true := by simp; omega
 have hi4 : (i : Int) < n := by omega
 have hx0 : (0 : Int) <= x := by omega
 have hx1 : decide ((x : Int) < m) = true := by simp; omega
 have hx3 : decide (x < m) = true := by simp; omega
 have hx4 : (x : Int) < m := by omega
 have hm0 : 0 < m := by omega
 have ll3 := I0.lt.2.2 (by omega)
 have c1 : w0.cell? ⟨M, 3, none⟩ = some (.slice (some ⟨tb, 0, none⟩) n tc) := I0.cT (by omega)
 have c4 : w0.cell? ⟨tb, i * 9 + 4, none⟩ = some (.int .i64 (T i).pc) := I0.tcell hi rfl
 have z4 := I0.tfrz hi (i * 9 + 4)
 have I1 := I0.put hi (j := 4) (v := .int .i64 1) (t := { T i with pc := 1 }) rfl (by decide) ⟨rfl, rfl, rfl, rfl, rfl, rfl, rfl, rfl⟩
 have o1 : ∀ y, y ≠ tb -> (w0.setCell ⟨tb, i * 9 + 4, none⟩ (.int .i64 1)).heap[y]? = w0.heap[y]? := fun y hy => Ab _ _ _ _ hy
 have g1 : Got M cb m tb n T (upd T i { T i with pc := 1 }) w0 (w0.setCell ⟨tb, i * 9 + 4, none⟩ (.int .i64 1)) := ⟨⟨by rw [Af]; exact Nat.le_refl _, fun y hy hn => o1 y fun e => hn (.inr (.inr (.inl e)))⟩, fun b hb => Au (t := { T i with pc := 1 }) hi (fun b hb => .inl hb) b hb⟩
 have s1 := Af w0 ⟨tb, i * 9 + 4, none⟩ (.int .i64 1)
 have hop1 := (o1 Sb (by omega)).trans hop
 conv => arg 5; unfold hdSt11
 refine Aa z117 ?_
 (have hfr := Dq tb (i * 9 + 4); refine Walk.os hfr c4 ?_; clear hfr; try walk_nrm)
 generalize w0.setCell ⟨tb, i * 9 + 4, none⟩ (.int .i64 1) = w1 at *
 clear c1 c4 z4 o1
 have c2 := I1.cS hm0
 have c3 := I1.scell hx
 generalize hst : Sx.st x = st at *
 have kn : (st != L) = false := by simp; omega
 clear h
 have hq2 : IntKind.wrap .i64 (q + 1) = q + 1 := by rw [IntKind.wrap_i64]; omega
 try walk_nrm
 refine Aa z117 ?_
 clear c2 c3
 have c1 : w1.cell? ⟨M, 3, none⟩ = some (.slice (some ⟨tb, 0, none⟩) n tc) := I1.cT (by omega)
 have c5 : w1.cell? ⟨tb, i * 9 + 5, none⟩ = some (.int .i64 (T i).q) := I1.tcell hi (by rw [upd_same]; rfl)
 have z5 := I1.tfrz hi (i * 9 + 5)
 have I2 := I1.put hi (j := 5) (v := .int .i64 (q + 1)) (t := { T i with pc := 1, q := q + 1 }) (by rw [upd_same]; rfl) (by decide) (by rw [upd_same]; exact ⟨rfl, rfl, rfl, rfl, rfl, rfl, rfl, rfl⟩)
 rw [Ag] at I2
 have o2 : ∀ y, y ≠ tb -> (w1.setCell ⟨tb, i * 9 + 5, none⟩ (.int .i64 (q + 1))).heap[y]? = w1.heap[y]? := fun y hy => Ab _ _ _ _ hy
 have g2 : Got M cb m tb n (upd T i { T i with pc := 1 }) (upd T i { T i with pc := 1, q := q + 1 }) w1 (w1.setCell ⟨tb, i * 9 + 5, none⟩ (.int .i64 (q + 1))) := ⟨⟨by rw [Af]; exact Nat.le_refl _, fun y hy hn => o2 y fun e => hn (.inr (.inr (.inl e)))⟩, fun b hb => by
  have := Au (M := M) (cb := cb) (m := m) (tb := tb) (T := upd T i { T i with pc := 1 }) (t := { T i with pc := 1, q := q + 1 }) (s := w1.heap.size) hi (fun b hb => .inl (by rw [upd_same]; exact hb)) b
  rw [Ag] at this
  exact this hb⟩
 have s2 := Af w1 ⟨tb, i * 9 + 5, none⟩ (.int .i64 (q + 1))
 have hop2 := (o2 Sb (by omega)).trans hop1
 refine Aa z117 ?_
 (have hfr := Dq tb (i * 9 + 5); refine Walk.os hfr c5 ?_; clear hfr; try walk_nrm)
 generalize w1.setCell ⟨tb, i * 9 + 5, none⟩ (.int .i64 (q + 1)) = w2 at *
 clear c1 c5 z5 o2 hop hop1 I1
 have b1 := (Ac hop2 1).trans rfl
 have b2 := (Ac hop2 2).trans rfl
 have cz := I2.cZ
 have kb : (q == ob) = true := by simp; omega
 try walk_nrm
 refine Aa z117 ?_
 (refine Ba (by kernel_rfl) size117_31 (by kernel_rfl) (by kernel_rfl) (by decide) ?_; simp only [List.range, List.range.loop]; repeat (first | (refine Cm.oq ?_) | (refine Al Aj (by rfl) ?_; walk_nrm)))
 refine Cm.done ?_
 have he := Dk (main := main) hi ⟨true, q, []⟩ (.slice none 0 0) w2 (LsAt.nil _ _ _) I2 hn (by omega) (by rw [upd_same]; exact hl) (by rw [upd_same]; exact hat)
 simp only [upd_same, Ag] at he
 simp only [Cu] at he
 clear I2
 try walk_nrm
 refine Aa z117 ?_
 refine Ah (Post := fun vv w' => vv = .tuple #[] /\ ∃ av oA, M11 a0 M cb tb tc n m ta Sx (upd T i (({ T i with pc := 1, q := q + 1 }).told ⟨true, q, []⟩ av oA)) w' /\ Got M cb m tb n (upd T i { T i with pc := 1, q := q + 1 }) (upd T i (({ T i with pc := 1, q := q + 1 }).told ⟨true, q, []⟩ av oA)) w2 w') ?_ Aj (by rfl) (by decide) rfl Try.func149 (by kernel_rfl) (by rfl) ?_
 ·walk_nrm
  exact he
 rintro vv w9 ⟨rfl, av, oA, I9, g9⟩
 walk_nrm
 refine Aa z117 ?_
 exact Ar rfl rfl Try.func117 rfl (.stop fun d => ⟨rfl, av, oA, I9.same fun _ _ => rfl, ⟨((g1.trans g2).trans g9).chg.at d, ((g1.trans g2).trans g9).own⟩⟩)
theorem stp_h2 {i Sb x : Nat} (hi : i < n) (q lp : Int) (hx : x < m) (p : Nat) (L : Int) (hL : IntKind.i64.wrap (2 * lp) = L) (hLb : 0 <= L /\ L < 9223372036854775807) (hq0 : 0 <= q) (hq1 : q < 4611686018427387904) (h : Sx.st x = L) (hm2 : m <= 65536) (hl : (T i).ans.length <= 65536) (hat : (T i).at' <= 65536) (k oa ob oc : Int) (w0 : World) (hop : w0.heap[Sb]? = some (.cells #[.int .i64 k, .int .i64 oa, .int .i64 ob, .int .i64 oc] 49)) (hSb : tb < Sb) (hoa0 : 0 <= oa) (hoa1 : oa < 4611686018427387904) (hb : q ≠ ob) (hg1 : ¬ good (q + 1)) (I0 : M11 a0 M cb tb tc n m ta Sx T w0) (hn : n <= 64) (ha0 : a0 <= w0.heap.size) (u : Nat -> Value) (fr : Frame) (cs : List Frame) :
  Walk Try.prog main (DR (fun _ => none)) (fun g w' => g = G (fr.finish (.tuple #[])) cs /\ ∃ av oA, M11 a0 M cb tb tc n m ta Sx (upd T i (({ T i with pc := 1, q := q + 1 }).told ⟨true, q, []⟩ av oA)) w' /\ Got M cb m tb n T (upd T i (({ T i with pc := 1, q := q + 1 }).told ⟨true, q, []⟩ av oA)) w0 w') (G (hdSt11 M i Sb q x lp p 4 u) (fr :: cs)) w0 := by
 have ham : IntKind.wrap .i64 (oa + m) = oa + m := by rw [IntKind.wrap_i64]; omega
 replace h : Sx.st x <= L /\ L <= Sx.st x := by omega
 have hi0 : (0 : Int) <= i := by omega
 have hi1 : decide ((i : Int) < n) = true := by simp; omega
 have hi3 : decide (i < n) = true := by simp; omega
 have hi4 : (i : Int) < n := by omega
 have hx0 : (0 : Int) <= x := by omega
 have hx1 : decide ((x : Int) < m) = true := by simp; omega
 have hx3 : decide (x < m) = true := by simp; omega
 have hx4 : (x : Int) < m := by omega
 have hm0 : 0 < m := by omega
 have ll3 := I0.lt.2.2 (by omega)
 have c1 : w0.cell? ⟨M, 3, none⟩ = some (.slice (some ⟨tb, 0, none⟩) n tc) := I0.cT (by omega)
 have c4 : w0.cell? ⟨tb, i * 9 + 4, none⟩ = some (.int .i64 (T i).pc) := I0.tcell hi rfl
 have z4 := I0.tfrz hi (i * 9 + 4)
 have I1 := I0.put hi (j := 4) (v := .int .i64 1) (t := { T i with pc := 1 }) rfl (by decide) ⟨rfl, rfl, rfl, rfl, rfl, rfl, rfl, rfl⟩
 have o1 : ∀ y, y ≠ tb -> (w0.setCell ⟨tb, i * 9 + 4, none⟩ (.int .i64 1)).heap[y]? = w0.heap[y]? := fun y hy => Ab _ _ _ _ hy
 have g1 : Got M cb m tb n T (upd T i { T i with pc := 1 }) w0 (w0.setCell ⟨tb, i * 9 + 4, none⟩ (.int .i64 1)) := ⟨⟨by rw [Af]; exact Nat.le_refl _, fun y hy hn => o1 y fun e => hn (.inr (.inr (.inl e)))⟩, fun b hb => Au (t := { T i with pc := 1 }) hi (fun b hb => .inl hb) b hb⟩
 have s1 := Af w0 ⟨tb, i * 9 + 4, none⟩ (.int .i64 1)
 have hop1 := (o1 Sb (by omega)).trans hop
 conv => arg 5; unfold hdSt11
 refine Aa z117 ?_
 (have hfr := Dq tb (i * 9 + 4); refine Walk.os hfr c4 ?_; clear hfr; try walk_nrm)
 generalize w0.setCell ⟨tb, i * 9 + 4, none⟩ (.int .i64 1) = w1 at *
 clear c1 c4 z4 o1
 have c2 := I1.cS hm0
 have c3 := I1.scell hx
 generalize hst : Sx.st x = st at *
 have kn : (st != L) = false := by simp; omega
 clear h
 have hq2 : IntKind.wrap .i64 (q + 1) = q + 1 := by rw [IntKind.wrap_i64]; omega
 try walk_nrm
 refine Aa z117 ?_
 clear c2 c3
 have c1 : w1.cell? ⟨M, 3, none⟩ = some (.slice (some ⟨tb, 0, none⟩) n tc) := I1.cT (by omega)
 have c5 : w1.cell? ⟨tb, i * 9 + 5, none⟩ = some (.int .i64 (T i).q) := I1.tcell hi (by rw [upd_same]; rfl)
 have z5 := I1.tfrz hi (i * 9 + 5)
 have I2 := I1.put hi (j := 5) (v := .int .i64 (q + 1)) (t := { T i with pc := 1, q := q + 1 }) (by rw [upd_same]; rfl) (by decide) (by rw [upd_same]; exact ⟨rfl, rfl, rfl, rfl, rfl, rfl, rfl, rfl⟩)
 rw [Ag] at I2
 have o2 : ∀ y, y ≠ tb -> (w1.setCell ⟨tb, i * 9 + 5, none⟩ (.int .i64 (q + 1))).heap[y]? = w1.heap[y]? := fun y hy => Ab _ _ _ _ hy
 have g2 : Got M cb m tb n (upd T i { T i with pc := 1 }) (upd T i { T i with pc := 1, q := q + 1 }) w1 (w1.setCell ⟨tb, i * 9 + 5, none⟩ (.int .i64 (q + 1))) := ⟨⟨by rw [Af]; exact Nat.le_refl _, fun y hy hn => o2 y fun e => hn (.inr (.inr (.inl e)))⟩, fun b hb => by
  have := Au (M := M) (cb := cb) (m := m) (tb := tb) (T := upd T i { T i with pc := 1 }) (t := { T i with pc := 1, q := q + 1 }) (s := w1.heap.size) hi (fun b hb => .inl (by rw [upd_same]; exact hb)) b
  rw [Ag] at this
  exact this hb⟩
 have s2 := Af w1 ⟨tb, i * 9 + 5, none⟩ (.int .i64 (q + 1))
 have hop2 := (o2 Sb (by omega)).trans hop1
 refine Aa z117 ?_
 (have hfr := Dq tb (i * 9 + 5); refine Walk.os hfr c5 ?_; clear hfr; try walk_nrm)
 generalize w1.setCell ⟨tb, i * 9 + 5, none⟩ (.int .i64 (q + 1)) = w2 at *
 clear c1 c5 z5 o2 hop hop1 I1
 have b1 := (Ac hop2 1).trans rfl
 have b2 := (Ac hop2 2).trans rfl
 have cz := I2.cZ
 have kb : (q == ob) = false := by simpa using hb
 clear hb
 try walk_nrm
 refine Aa z117 ?_
 (refine Ba (by kernel_rfl) size117_31 (by kernel_rfl) (by kernel_rfl) (by decide) ?_; simp only [List.range, List.range.loop]; repeat (first | (refine Cm.oq ?_) | (refine Al Aj (by rfl) ?_; walk_nrm)))
 refine Cm.callV (x := .bool false) ?_ Aj (by rfl) rfl Try.func22 (by kernel_rfl) (by rfl) ?_
 ·intro w' e
  subst e
  walk_nrm
  exact Ey _ hg1 _
 walk_nrm
 repeat (first | (refine Cm.oq ?_) | (refine Al Aj (by rfl) ?_; walk_nrm))
 refine Cm.done ?_
 have he := Dk (main := main) hi ⟨true, q, []⟩ (.slice none 0 0) w2 (LsAt.nil _ _ _) I2 hn (by omega) (by rw [upd_same]; exact hl) (by rw [upd_same]; exact hat)
 simp only [upd_same, Ag] at he
 simp only [Cu] at he
 clear I2
 try walk_nrm
 refine Aa z117 ?_
 refine Ah (Post := fun vv w' => vv = .tuple #[] /\ ∃ av oA, M11 a0 M cb tb tc n m ta Sx (upd T i (({ T i with pc := 1, q := q + 1 }).told ⟨true, q, []⟩ av oA)) w' /\ Got M cb m tb n (upd T i { T i with pc := 1, q := q + 1 }) (upd T i (({ T i with pc := 1, q := q + 1 }).told ⟨true, q, []⟩ av oA)) w2 w') ?_ Aj (by rfl) (by decide) rfl Try.func149 (by kernel_rfl) (by rfl) ?_
 ·walk_nrm
  exact he
 rintro vv w9 ⟨rfl, av, oA, I9, g9⟩
 walk_nrm
 refine Aa z117 ?_
 exact Ar rfl rfl Try.func117 rfl (.stop fun d => ⟨rfl, av, oA, I9.same fun _ _ => rfl, ⟨((g1.trans g2).trans g9).chg.at d, ((g1.trans g2).trans g9).own⟩⟩)
theorem stp_h3 {i Sb x : Nat} (hi : i < n) (q lp : Int) (hx : x < m) (p : Nat) (L : Int) (hL : IntKind.i64.wrap (2 * lp) = L) (hLb : 0 <= L /\ L < 9223372036854775807) (hq0 : 0 <= q) (hq1 : q < 4611686018427387904) (h : Sx.st x = L) (hm2 : m <= 65536) (hl : (T i).ans.length <= 65536) (hat : (T i).at' <= 65536) (k oa ob oc : Int) (w0 : World) (hop : w0.heap[Sb]? = some (.cells #[.int .i64 k, .int .i64 oa, .int .i64 ob, .int .i64 oc] 49)) (hSb : tb < Sb) (hoa0 : 0 <= oa) (hoa1 : oa < 4611686018427387904) (hb : q ≠ ob) (hg1 : good (q + 1)) (hl1 : oa + m <= q + 1) (I0 : M11 a0 M cb tb tc n m ta Sx T w0) (hn : n <= 64) (ha0 : a0 <= w0.heap.size) (u : Nat -> Value) (fr : Frame) (cs : List Frame) :
  Walk Try.prog main (DR (fun _ => none)) (fun g w' => g = G (fr.finish (.tuple #[])) cs /\ ∃ av oA, M11 a0 M cb tb tc n m ta Sx (upd T i (({ T i with pc := 1, q := q + 1 }).told ⟨true, q, []⟩ av oA)) w' /\ Got M cb m tb n T (upd T i (({ T i with pc := 1, q := q + 1 }).told ⟨true, q, []⟩ av oA)) w0 w') (G (hdSt11 M i Sb q x lp p 4 u) (fr :: cs)) w0 := by
 have ham : IntKind.wrap .i64 (oa + m) = oa + m := by rw [IntKind.wrap_i64]; omega
 replace h : Sx.st x <= L /\ L <= Sx.st x := by omega
 have hi0 : (0 : Int) <= i := by omega
 have hi1 : decide ((i : Int) < n) = true := by simp; omega
 have hi3 : decide (i < n) = true := by simp; omega
 have hi4 : (i : Int) < n := by omega
 have hx0 : (0 : Int) <= x := by omega
 have hx1 : decide ((x : Int) < m) = true := by simp; omega
 have hx3 : decide (x < m) = true := by simp; omega
 have hx4 : (x : Int) < m := by omega
 have hm0 : 0 < m := by omega
 have ll3 := I0.lt.2.2 (by omega)
 have c1 : w0.cell? ⟨M, 3, none⟩ = some (.slice (some ⟨tb, 0, none⟩) n tc) := I0.cT (by omega)
 have c4 : w0.cell? ⟨tb, i * 9 + 4, none⟩ = some (.int .i64 (T i).pc) := I0.tcell hi rfl
 have z4 := I0.tfrz hi (i * 9 + 4)
 have I1 := I0.put hi (j := 4) (v := .int .i64 1) (t := { T i with pc := 1 }) rfl (by decide) ⟨rfl, rfl, rfl, rfl, rfl, rfl, rfl, rfl⟩
 have o1 : ∀ y, y ≠ tb -> (w0.setCell ⟨tb, i * 9 + 4, none⟩ (.int .i64 1)).heap[y]? = w0.heap[y]? := fun y hy => Ab _ _ _ _ hy
 have g1 : Got M cb m tb n T (upd T i { T i with pc := 1 }) w0 (w0.setCell ⟨tb, i * 9 + 4, none⟩ (.int .i64 1)) := ⟨⟨by rw [Af]; exact Nat.le_refl _, fun y hy hn => o1 y fun e => hn (.inr (.inr (.inl e)))⟩, fun b hb => Au (t := { T i with pc := 1 }) hi (fun b hb => .inl hb) b hb⟩
 have s1 := Af w0 ⟨tb, i * 9 + 4, none⟩ (.int .i64 1)
 have hop1 := (o1 Sb (by omega)).trans hop
 conv => arg 5; unfold hdSt11
 refine Aa z117 ?_
 (have hfr := Dq tb (i * 9 + 4); refine Walk.os hfr c4 ?_; clear hfr; try walk_nrm)
 generalize w0.setCell ⟨tb, i * 9 + 4, none⟩ (.int .i64 1) = w1 at *
 clear c1 c4 z4 o1
 have c2 := I1.cS hm0
 have c3 := I1.scell hx
 generalize hst : Sx.st x = st at *
 have kn : (st != L) = false := by simp; omega
 clear h
 have hq2 : IntKind.wrap .i64 (q + 1) = q + 1 := by rw [IntKind.wrap_i64]; omega
 try walk_nrm
 refine Aa z117 ?_
 clear c2 c3
 have c1 : w1.cell? ⟨M, 3, none⟩ = some (.slice (some ⟨tb, 0, none⟩) n tc) := I1.cT (by omega)
 have c5 : w1.cell? ⟨tb, i * 9 + 5, none⟩ = some (.int .i64 (T i).q) := I1.tcell hi (by rw [upd_same]; rfl)
 have z5 := I1.tfrz hi (i * 9 + 5)
 have I2 := I1.put hi (j := 5) (v := .int .i64 (q + 1)) (t := { T i with pc := 1, q := q + 1 }) (by rw [upd_same]; rfl) (by decide) (by rw [upd_same]; exact ⟨rfl, rfl, rfl, rfl, rfl, rfl, rfl, rfl⟩)
 rw [Ag] at I2
 have o2 : ∀ y, y ≠ tb -> (w1.setCell ⟨tb, i * 9 + 5, none⟩ (.int .i64 (q + 1))).heap[y]? = w1.heap[y]? := fun y hy => Ab _ _ _ _ hy
 have g2 : Got M cb m tb n (upd T i { T i with pc := 1 }) (upd T i { T i with pc := 1, q := q + 1 }) w1 (w1.setCell ⟨tb, i * 9 + 5, none⟩ (.int .i64 (q + 1))) := ⟨⟨by rw [Af]; exact Nat.le_refl _, fun y hy hn => o2 y fun e => hn (.inr (.inr (.inl e)))⟩, fun b hb => by
  have := Au (M := M) (cb := cb) (m := m) (tb := tb) (T := upd T i { T i with pc := 1 }) (t := { T i with pc := 1, q := q + 1 }) (s := w1.heap.size) hi (fun b hb => .inl (by rw [upd_same]; exact hb)) b
  rw [Ag] at this
  exact this hb⟩
 have s2 := Af w1 ⟨tb, i * 9 + 5, none⟩ (.int .i64 (q + 1))
 have hop2 := (o2 Sb (by omega)).trans hop1
 refine Aa z117 ?_
 (have hfr := Dq tb (i * 9 + 5); refine Walk.os hfr c5 ?_; clear hfr; try walk_nrm)
 generalize w1.setCell ⟨tb, i * 9 + 5, none⟩ (.int .i64 (q + 1)) = w2 at *
 clear c1 c5 z5 o2 hop hop1 I1
 have b1 := (Ac hop2 1).trans rfl
 have b2 := (Ac hop2 2).trans rfl
 have cz := I2.cZ
 have kb : (q == ob) = false := by simpa using hb
 have kc : decide (oa + (m : Int) <= q + 1) = true := decide_eq_true hl1
 clear hb
 try walk_nrm
 refine Aa z117 ?_
 (refine Ba (by kernel_rfl) size117_31 (by kernel_rfl) (by kernel_rfl) (by decide) ?_; simp only [List.range, List.range.loop]; repeat (first | (refine Cm.oq ?_) | (refine Al Aj (by rfl) ?_; walk_nrm)))
 refine Cm.callV (x := .bool true) ?_ Aj (by rfl) rfl Try.func22 (by kernel_rfl) (by rfl) ?_
 ·intro w' e
  subst e
  walk_nrm
  exact Cz _ hg1 _
 walk_nrm
 repeat (first | (refine Cm.oq ?_) | (refine Al Aj (by rfl) ?_; walk_nrm))
 refine Cm.done ?_
 have he := Dk (main := main) hi ⟨true, q, []⟩ (.slice none 0 0) w2 (LsAt.nil _ _ _) I2 hn (by omega) (by rw [upd_same]; exact hl) (by rw [upd_same]; exact hat)
 simp only [upd_same, Ag] at he
 simp only [Cu] at he
 clear I2
 try walk_nrm
 refine Aa z117 ?_
 refine Ah (Post := fun vv w' => vv = .tuple #[] /\ ∃ av oA, M11 a0 M cb tb tc n m ta Sx (upd T i (({ T i with pc := 1, q := q + 1 }).told ⟨true, q, []⟩ av oA)) w' /\ Got M cb m tb n (upd T i { T i with pc := 1, q := q + 1 }) (upd T i (({ T i with pc := 1, q := q + 1 }).told ⟨true, q, []⟩ av oA)) w2 w') ?_ Aj (by rfl) (by decide) rfl Try.func149 (by kernel_rfl) (by rfl) ?_
 ·walk_nrm
  exact he
 rintro vv w9 ⟨rfl, av, oA, I9, g9⟩
 walk_nrm
 refine Aa z117 ?_
 exact Ar rfl rfl Try.func117 rfl (.stop fun d => ⟨rfl, av, oA, I9.same fun _ _ => rfl, ⟨((g1.trans g2).trans g9).chg.at d, ((g1.trans g2).trans g9).own⟩⟩)
theorem stp_h4 {i Sb x : Nat} (hi : i < n) (q lp : Int) (hx : x < m) (p : Nat) (L : Int) (hL : IntKind.i64.wrap (2 * lp) = L) (hLb : 0 <= L /\ L < 9223372036854775807) (hq0 : 0 <= q) (hq1 : q < 4611686018427387904) (h : Sx.st x = L) (hm2 : m <= 65536) (hl : (T i).ans.length <= 65536) (hat : (T i).at' <= 65536) (k oa ob oc : Int) (w0 : World) (hop : w0.heap[Sb]? = some (.cells #[.int .i64 k, .int .i64 oa, .int .i64 ob, .int .i64 oc] 49)) (hSb : tb < Sb) (hoa0 : 0 <= oa) (hoa1 : oa < 4611686018427387904) (hb : q ≠ ob) (hg1 : good (q + 1)) (hl1 : ¬ oa + m <= q + 1) (I0 : M11 a0 M cb tb tc n m ta Sx T w0) (hn : n <= 64) (ha0 : a0 <= w0.heap.size) (u : Nat -> Value) (fr : Frame) (cs : List Frame) :
  Walk Try.prog main (DR (fun _ => none)) (fun g w' => g = G (fr.finish (.tuple #[])) cs /\ M11 a0 M cb tb tc n m ta Sx (upd T i { T i with pc := 1, q := q + 1 }) w' /\ Got M cb m tb n T (upd T i { T i with pc := 1, q := q + 1 }) w0 w') (G (hdSt11 M i Sb q x lp p 4 u) (fr :: cs)) w0 := by
 have ham : IntKind.wrap .i64 (oa + m) = oa + m := by rw [IntKind.wrap_i64]; omega
 replace h : Sx.st x <= L /\ L <= Sx.st x := by omega
 have hi0 : (0 : Int) <= i := by omega
 have hi1 : decide ((i : Int) < n) = true := by simp; omega
 have hi3 : decide (i < n) = true := by simp; omega
 have hi4 : (i : Int) < n := by omega
 have hx0 : (0 : Int) <= x := by omega
 have hx1 : decide ((x : Int) < m) = true := by simp; omega
 have hx3 : decide (x < m) = true := by simp; omega
 have hx4 : (x : Int) < m := by omega
 have hm0 : 0 < m := by omega
 have ll3 := I0.lt.2.2 (by omega)
 have c1 : w0.cell? ⟨M, 3, none⟩ = some (.slice (some ⟨tb, 0, none⟩) n tc) := I0.cT (by omega)
 have c4 : w0.cell? ⟨tb, i * 9 + 4, none⟩ = some (.int .i64 (T i).pc) := I0.tcell hi rfl
 have z4 := I0.tfrz hi (i * 9 + 4)
 have I1 := I0.put hi (j := 4) (v := .int .i64 1) (t := { T i with pc := 1 }) rfl (by decide) ⟨rfl, rfl, rfl, rfl, rfl, rfl, rfl, rfl⟩
 have o1 : ∀ y, y ≠ tb -> (w0.setCell ⟨tb, i * 9 + 4, none⟩ (.int .i64 1)).heap[y]? = w0.heap[y]? := fun y hy => Ab _ _ _ _ hy
 have g1 : Got M cb m tb n T (upd T i { T i with pc := 1 }) w0 (w0.setCell ⟨tb, i * 9 + 4, none⟩ (.int .i64 1)) := ⟨⟨by rw [Af]; exact Nat.le_refl _, fun y hy hn => o1 y fun e => hn (.inr (.inr (.inl e)))⟩, fun b hb => Au (t := { T i with pc := 1 }) hi (fun b hb => .inl hb) b hb⟩
 have s1 := Af w0 ⟨tb, i * 9 + 4, none⟩ (.int .i64 1)
 have hop1 := (o1 Sb (by omega)).trans hop
 conv => arg 5; unfold hdSt11
 refine Aa z117 ?_
 (have hfr := Dq tb (i * 9 + 4); refine Walk.os hfr c4 ?_; clear hfr; try walk_nrm)
 generalize w0.setCell ⟨tb, i * 9 + 4, none⟩ (.int .i64 1) = w1 at *
 clear c1 c4 z4 o1
 have c2 := I1.cS hm0
 have c3 := I1.scell hx
 generalize hst : Sx.st x = st at *
 have kn : (st != L) = false := by simp; omega
 clear h
 have hq2 : IntKind.wrap .i64 (q + 1) = q + 1 := by rw [IntKind.wrap_i64]; omega
 try walk_nrm
 refine Aa z117 ?_
 clear c2 c3
 have c1 : w1.cell? ⟨M, 3, none⟩ = some (.slice (some ⟨tb, 0, none⟩) n tc) := I1.cT (by omega)
 have c5 : w1.cell? ⟨tb, i * 9 + 5, none⟩ = some (.int .i64 (T i).q) := I1.tcell hi (by rw [upd_same]; rfl)
 have z5 := I1.tfrz hi (i * 9 + 5)
 have I2 := I1.put hi (j := 5) (v := .int .i64 (q + 1)) (t := { T i with pc := 1, q := q + 1 }) (by rw [upd_same]; rfl) (by decide) (by rw [upd_same]; exact ⟨rfl, rfl, rfl, rfl, rfl, rfl, rfl, rfl⟩)
 rw [Ag] at I2
 have o2 : ∀ y, y ≠ tb -> (w1.setCell ⟨tb, i * 9 + 5, none⟩ (.int .i64 (q + 1))).heap[y]? = w1.heap[y]? := fun y hy => Ab _ _ _ _ hy
 have g2 : Got M cb m tb n (upd T i { T i with pc := 1 }) (upd T i { T i with pc := 1, q := q + 1 }) w1 (w1.setCell ⟨tb, i * 9 + 5, none⟩ (.int .i64 (q + 1))) := ⟨⟨by rw [Af]; exact Nat.le_refl _, fun y hy hn => o2 y fun e => hn (.inr (.inr (.inl e)))⟩, fun b hb => by
  have := Au (M := M) (cb := cb) (m := m) (tb := tb) (T := upd T i { T i with pc := 1 }) (t := { T i with pc := 1, q := q + 1 }) (s := w1.heap.size) hi (fun b hb => .inl (by rw [upd_same]; exact hb)) b
  rw [Ag] at this
  exact this hb⟩
 have s2 := Af w1 ⟨tb, i * 9 + 5, none⟩ (.int .i64 (q + 1))
 have hop2 := (o2 Sb (by omega)).trans hop1
 refine Aa z117 ?_
 (have hfr := Dq tb (i * 9 + 5); refine Walk.os hfr c5 ?_; clear hfr; try walk_nrm)
 generalize w1.setCell ⟨tb, i * 9 + 5, none⟩ (.int .i64 (q + 1)) = w2 at *
 clear c1 c5 z5 o2 hop hop1 I1
 have b1 := (Ac hop2 1).trans rfl
 have b2 := (Ac hop2 2).trans rfl
 have cz := I2.cZ
 have kb : (q == ob) = false := by simpa using hb
 have kc : decide (oa + (m : Int) <= q + 1) = false := decide_eq_false hl1
 clear hb
 try walk_nrm
 refine Aa z117 ?_
 (refine Ba (by kernel_rfl) size117_31 (by kernel_rfl) (by kernel_rfl) (by decide) ?_; simp only [List.range, List.range.loop]; repeat (first | (refine Cm.oq ?_) | (refine Al Aj (by rfl) ?_; walk_nrm)))
 refine Cm.callV (x := .bool true) ?_ Aj (by rfl) rfl Try.func22 (by kernel_rfl) (by rfl) ?_
 ·intro w' e
  subst e
  walk_nrm
  exact Cz _ hg1 _
 walk_nrm
 repeat (first | (refine Cm.oq ?_) | (refine Al Aj (by rfl) ?_; walk_nrm))
 refine Cm.done ?_
 refine Aa z117 ?_
 exact Ar rfl rfl Try.func117 rfl (.stop fun d => ⟨rfl, I2.same fun _ _ => rfl, ⟨(g1.trans g2).chg.at d, (g1.trans g2).own⟩⟩)
end
end
section
section
variable {a0 M tb tc n m : Nat} {cb : CB} {ta : Option Addr} {Sx : Rg} {T : Nat -> R11} {main : Bool}
theorem stp_2f {i Sb x : Nat} (q lp : Int) (p : Nat) (oa ob oc : Int) (w0 : World) (P Q : World -> Prop) (hQ : ∀ w d, Q w -> Q (w.at d)) (hP : ∀ w, P w -> w.heap[Sb]? = some (.cells #[.int .i64 2, .int .i64 oa, .int .i64 ob, .int .i64 oc] 49))
  (hget : CallW Try.prog main (fun _ => none) 150 #[.pointer (some ⟨M, 0, none⟩), .int .i64 i, .int .i64 p] w0 (fun vv w1 => vv = .tuple #[.int .i64 0, .int .i64 0, .bool false] /\ P w1)) (hPQ : ∀ w, P w -> Q w) (u : Nat -> Value) (fr : Frame) (cs : List Frame) :
  Walk Try.prog main (DR (fun _ => none)) (fun g w' => g = G (fr.finish (.tuple #[])) cs /\ Q w') (G (hdSt11 M i Sb q x lp p 2 u) (fr :: cs)) w0 := by
 obtain ⟨fsO, huO⟩ := Co 49 (by kernel_rfl)
 conv => arg 5; unfold hdSt11
 refine Aa z117 ?_
 refine Ah (Post := fun vv w1 => vv = .tuple #[.int .i64 0, .int .i64 0, .bool false] /\ P w1) ?_ Aj (by rfl) (by decide) rfl Try.func150 (by kernel_rfl) (by rfl) ?_
 ·walk_nrm
  exact hget
 rintro vv w1 ⟨rfl, hp⟩
 have hop := hP w1 hp
 have b0 := (Ac hop 0).trans rfl
 clear hget
 walk_nrm
 refine Aa z117 ?_
 exact Ar rfl rfl Try.func117 rfl (.stop fun d => ⟨rfl, hQ _ d (hPQ w1 hp)⟩)
theorem stp_2e {i Sb x : Nat} (q lp : Int) (p : Nat) (oa ob oc e : Int) (he0 : e ≠ 0) (w0 : World) (P Q : World -> Prop) (hQ : ∀ w d, Q w -> Q (w.at d)) (hP : ∀ w, P w -> w.heap[Sb]? = some (.cells #[.int .i64 2, .int .i64 oa, .int .i64 ob, .int .i64 oc] 49))
  (hget : CallW Try.prog main (fun _ => none) 150 #[.pointer (some ⟨M, 0, none⟩), .int .i64 i, .int .i64 p] w0 (fun vv w1 => vv = .tuple #[.int .i64 0, .int .i64 e, .bool true] /\ P w1)) (he : ∀ w1, P w1 -> CallW Try.prog main (fun _ => none) 149 #[.pointer (some ⟨M, 0, none⟩), .int .i64 i, .agg #[.bool false, .int .i64 e, .slice none 0 0]] w1 (fun vv w2 => vv = .tuple #[] /\ Q w2 /\ w2.heap[Sb]? = w1.heap[Sb]?)) (u : Nat -> Value) (fr : Frame) (cs : List Frame) :
  Walk Try.prog main (DR (fun _ => none)) (fun g w' => g = G (fr.finish (.tuple #[])) cs /\ Q w') (G (hdSt11 M i Sb q x lp p 2 u) (fr :: cs)) w0 := by
 obtain ⟨fsO, huO⟩ := Co 49 (by kernel_rfl)
 have k1 : (e == 0) = false := by simpa using he0
 have k2 : (e != 0) = true := by simpa using he0
 conv => arg 5; unfold hdSt11
 refine Aa z117 ?_
 refine Ah (Post := fun vv w1 => vv = .tuple #[.int .i64 0, .int .i64 e, .bool true] /\ P w1) ?_ Aj (by rfl) (by decide) rfl Try.func150 (by kernel_rfl) (by rfl) ?_
 ·walk_nrm
  exact hget
 rintro vv w1 ⟨rfl, hp⟩
 have hop := hP w1 hp
 have b0 := (Ac hop 0).trans rfl
 clear hget
 walk_nrm
 refine Aa z117 ?_
 refine Ah (Post := fun vv w' => vv = .tuple #[] /\ Q w' /\ w'.heap[Sb]? = w1.heap[Sb]?) ?_ Aj (by rfl) (by decide) rfl Try.func149 (by kernel_rfl) (by rfl) ?_
 ·walk_nrm
  exact he w1 hp
 rintro vv w2 ⟨rfl, hq, hs⟩
 have b0' := (Ac (hs.trans hop) 0).trans rfl
 clear b0
 walk_nrm
 refine Aa z117 ?_
 exact Ar rfl rfl Try.func117 rfl (.stop fun d => ⟨rfl, hQ _ d hq⟩)
theorem stp_2v {i Sb x : Nat} (q lp : Int) (p : Nat) (oa ob oc v : Int) (w0 : World) (P Q : World -> Prop) (hQ : ∀ w d, Q w -> Q (w.at d)) (hP : ∀ w, P w -> w.heap[Sb]? = some (.cells #[.int .i64 2, .int .i64 oa, .int .i64 ob, .int .i64 oc] 49))
  (hget : CallW Try.prog main (fun _ => none) 150 #[.pointer (some ⟨M, 0, none⟩), .int .i64 i, .int .i64 p] w0 (fun vv w1 => vv = .tuple #[.int .i64 v, .int .i64 0, .bool true] /\ P w1)) (he : ∀ w1, P w1 -> CallW Try.prog main (fun _ => none) 149 #[.pointer (some ⟨M, 0, none⟩), .int .i64 i, .agg #[.bool true, .int .i64 v, .slice none 0 0]] w1 (fun vv w2 => vv = .tuple #[] /\ Q w2 /\ w2.heap[Sb]? = w1.heap[Sb]?)) (u : Nat -> Value) (fr : Frame) (cs : List Frame) :
  Walk Try.prog main (DR (fun _ => none)) (fun g w' => g = G (fr.finish (.tuple #[])) cs /\ Q w') (G (hdSt11 M i Sb q x lp p 2 u) (fr :: cs)) w0 := by
 obtain ⟨fsO, huO⟩ := Co 49 (by kernel_rfl)
 conv => arg 5; unfold hdSt11
 refine Aa z117 ?_
 refine Ah (Post := fun vv w1 => vv = .tuple #[.int .i64 v, .int .i64 0, .bool true] /\ P w1) ?_ Aj (by rfl) (by decide) rfl Try.func150 (by kernel_rfl) (by rfl) ?_
 ·walk_nrm
  exact hget
 rintro vv w1 ⟨rfl, hp⟩
 have hop := hP w1 hp
 have b0 := (Ac hop 0).trans rfl
 clear hget
 walk_nrm
 refine Aa z117 ?_
 refine Ah (Post := fun vv w' => vv = .tuple #[] /\ Q w' /\ w'.heap[Sb]? = w1.heap[Sb]?) ?_ Aj (by rfl) (by decide) rfl Try.func149 (by kernel_rfl) (by rfl) ?_
 ·walk_nrm
  exact he w1 hp
 rintro vv w2 ⟨rfl, hq, hs⟩
 have b0' := (Ac (hs.trans hop) 0).trans rfl
 clear b0
 walk_nrm
 refine Aa z117 ?_
 exact Ar rfl rfl Try.func117 rfl (.stop fun d => ⟨rfl, hQ _ d hq⟩)
theorem stp_5f {i Sb x : Nat} (q lp : Int) (p : Nat) (oa ob oc : Int) (w0 : World) (P Q : World -> Prop) (hQ : ∀ w d, Q w -> Q (w.at d)) (hP : ∀ w, P w -> w.heap[Sb]? = some (.cells #[.int .i64 5, .int .i64 oa, .int .i64 ob, .int .i64 oc] 49))
  (hget : CallW Try.prog main (fun _ => none) 150 #[.pointer (some ⟨M, 0, none⟩), .int .i64 i, .int .i64 p] w0 (fun vv w1 => vv = .tuple #[.int .i64 0, .int .i64 0, .bool false] /\ P w1)) (hPQ : ∀ w, P w -> Q w) (u : Nat -> Value) (fr : Frame) (cs : List Frame) :
  Walk Try.prog main (DR (fun _ => none)) (fun g w' => g = G (fr.finish (.tuple #[])) cs /\ Q w') (G (hdSt11 M i Sb q x lp p 5 u) (fr :: cs)) w0 := by
 obtain ⟨fsO, huO⟩ := Co 49 (by kernel_rfl)
 conv => arg 5; unfold hdSt11
 refine Aa z117 ?_
 refine Ah (Post := fun vv w1 => vv = .tuple #[.int .i64 0, .int .i64 0, .bool false] /\ P w1) ?_ Aj (by rfl) (by decide) rfl Try.func150 (by kernel_rfl) (by rfl) ?_
 ·walk_nrm
  exact hget
 rintro vv w1 ⟨rfl, hp⟩
 have hop := hP w1 hp
 have b0 := (Ac hop 0).trans rfl
 clear hget
 walk_nrm
 refine Aa z117 ?_
 exact Ar rfl rfl Try.func117 rfl (.stop fun d => ⟨rfl, hQ _ d (hPQ w1 hp)⟩)
theorem Nm {i Sb x : Nat} (q lp : Int) (p : Nat) (oa ob oc v e : Int) (w0 : World) (P Q : World -> Prop) (hQ : ∀ w d, Q w -> Q (w.at d)) (hP : ∀ w, P w -> w.heap[Sb]? = some (.cells #[.int .i64 5, .int .i64 oa, .int .i64 ob, .int .i64 oc] 49))
  (hget : CallW Try.prog main (fun _ => none) 150 #[.pointer (some ⟨M, 0, none⟩), .int .i64 i, .int .i64 p] w0 (fun vv w1 => vv = .tuple #[.int .i64 v, .int .i64 e, .bool true] /\ P w1)) (hga : ∀ w1, P w1 -> CallW Try.prog main (fun _ => none) 151 #[.pointer (some ⟨M, 0, none⟩), .int .i64 i, .agg #[.int .i64 5, .int .i64 oa, .int .i64 ob, .int .i64 oc], .int .i64 v, .int .i64 e] w1 (fun vv w2 => vv = .tuple #[] /\ Q w2)) (u : Nat -> Value) (fr : Frame) (cs : List Frame) :
  Walk Try.prog main (DR (fun _ => none)) (fun g w' => g = G (fr.finish (.tuple #[])) cs /\ Q w') (G (hdSt11 M i Sb q x lp p 5 u) (fr :: cs)) w0 := by
 obtain ⟨fsO, huO⟩ := Co 49 (by kernel_rfl)
 conv => arg 5; unfold hdSt11
 refine Aa z117 ?_
 refine Ah (Post := fun vv w1 => vv = .tuple #[.int .i64 v, .int .i64 e, .bool true] /\ P w1) ?_ Aj (by rfl) (by decide) rfl Try.func150 (by kernel_rfl) (by rfl) ?_
 ·walk_nrm
  exact hget
 rintro vv w1 ⟨rfl, hp⟩
 have hop := hP w1 hp
 have b0 := (Ac hop 0).trans rfl
 clear hget
 walk_nrm
 have hcs : ∀ (j : Nat) (u : Value), ([.int .i64 5, .int .i64 oa, .int .i64 ob, .int .i64 oc] : List Value)[j]? = some u -> w1.cell? ⟨Sb, 0 + j, none⟩ = some u := fun j u hu => by
  rw [Nat.zero_add]
  exact (Ac hop j).trans (by simpa using hu)
 refine Aa z117 ?_
 refine Walk.loadS 49 (.tmp 4) Aj (by rfl) (by decide) rfl Sb 0 [.int .i64 5, .int .i64 oa, .int .i64 ob, .int .i64 oc] (.struct fsO) rfl hcs huO rfl (by kernel_rfl) ?_
 walk_nrm
 refine Aa z117 ?_
 refine Ah (Post := fun vv w' => vv = .tuple #[] /\ Q w') ?_ Aj (by rfl) (by decide) rfl Try.func151 (by kernel_rfl) (by rfl) ?_
 ·walk_nrm
  exact hga w1 hp
 rintro vv w2 ⟨rfl, hq⟩
 walk_nrm
 refine Aa z117 ?_
 exact Ar rfl rfl Try.func117 rfl (.stop fun d => ⟨rfl, hQ _ d hq⟩)
end
end
end Go.Proofs.Ytcdcnmphjhfbpaa
