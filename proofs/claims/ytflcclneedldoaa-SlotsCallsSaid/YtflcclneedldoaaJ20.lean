/- Part 20. -/
import Derived.Test.YtflcclneedldoaaJ16
import Derived.Test.YtflcclneedldoaaJ19
set_option linter.unusedSimpArgs false
set_option linter.unusedVariables false
set_option maxHeartbeats 8000000
set_option maxRecDepth 100000
namespace Go.Proofs.Ytflcclneedldoaa
open Go.Conc Go.RowKit Go.Relay Try
open Go.ConcN (upd upd_ne upd_same)
section
variable {a0 M tb tc n m : Nat} {cb : CB} {ta : Option Addr} {S : Rg} {T : Nat -> R11}
theorem bg_4y {main : Bool} {i : Nat} (hi : i < n) (oa ob oc : Int) (hm0 : 0 < m) (hgo : good oa) (hb : ¬ ob < oa) (w : World) (I : M11 a0 M cb tb tc n m ta S T w) (hn : n <= 64) (hm : m <= 65536) (ha0 : a0 <= w.heap.size) :
  CallW prog main (fun _ => none) 157 #[.pointer (some ⟨M, 0, none⟩), .int .i64 i, .agg #[.int .i64 4, .int .i64 oa, .int .i64 ob, .int .i64 oc]] w (fun v w' => v = .tuple #[] /\ M11 a0 M cb tb tc n m ta S (upd T i ((T i).first oa)) w' /\ Got M cb m tb n T (upd T i ((T i).first oa)) w w') := by
 have m1 : ((m : Int) == 0) = false := by simp; omega
 have m2 : ¬ m = 0 := by omega
 have hgd := Dg (main := main) (V := fun _ => none) oa hgo
 have k2 : decide (ob < oa) = false := decide_eq_false hb
 intro kf cs
 obtain ⟨hi0, hi1, hi3, hi4⟩ := hIx i n
 refine (Hm hi 4 oa ob oc w I hn ha0 (kf :: cs)).then ?_
 rintro _ w2 ⟨⟨u, rfl⟩, I2, g2, d2⟩
 have hz2 := g2.chg.size
 have b0 := (Ab d2 0).trans rfl
 have b1 := (Ab d2 1).trans rfl
 have b2 := (Ab d2 2).trans rfl
 have c0 : w2.cell? ⟨M, 0, none⟩ = some (.int .i64 m) := I2.cZ
 generalize w.heap.size = Zs at *
 clear d2 I
 conv => arg 5; unfold hdBg
 refine Aa z157 ?_
 refine qV (x := .bool true) (W := w2) func20 ?_ ?_
 ·walk_nrm
  exact hgd w2
 walk_nrm
 refine Aa z157 ?_
 have c1 := I2.cT (by omega)
 have c3 : w2.cell? ⟨tb, i * 9 + 4, none⟩ = some (.int .i64 (T i).pc) := I2.tcell hi (by rw [upd_same]; rfl)
 have z3 := I2.tfrz hi (i * 9 + 4)
 have I3 := I2.put hi (j := 4) (v := .int .i64 1) (t := (T i).first oa)
 rw [An] at I3
 try walk_nrm
 refine Aa z157 ?_
 (have hfr := Ju tb (i * 9 + 4); refine Ws hfr c3 ?_; clear hfr; try walk_nrm)
 have s3 := Ai w2 ⟨tb, i * 9 + 4, none⟩ (.int .i64 1)
 have o3 : ∀ x, x ≠ tb -> (w2.setCell ⟨tb, i * 9 + 4, none⟩ (.int .i64 1)).heap[x]? = w2.heap[x]? := fun x hx => Ac _ _ _ _ hx
 generalize w2.setCell ⟨tb, i * 9 + 4, none⟩ (.int .i64 1) = w3 at *
 clear c1 c3 z3
 have g3 : Got M cb m tb n (upd T i ((T i).clr oa)) (upd T i ((T i).first oa)) w2 w3 := ⟨⟨by omega, fun x hx hn => o3 x fun e => hn (.inr (.inr (.inl e)))⟩, fun b hb => by
  have := Bu (M := M) (cb := cb) (m := m) (tb := tb) (T := upd T i ((T i).clr oa)) (t := (T i).first oa) (s := w2.heap.size) hi (fun b hb => .inl (by rw [upd_same]; exact hb)) b
  rw [An] at this
  exact this hb⟩
 try walk_nrm
 refine Aa z157 ?_
 exact Au rfl rfl func157 rfl (.stop fun d => ⟨_, ⟨rfl, I3.same fun _ _ => rfl, ⟨(g2.trans g3).chg.at d, (g2.trans g3).own⟩⟩, rfl⟩)
theorem bg_3n {main : Bool} {i : Nat} (hi : i < n) (oa ob oc : Int) (hm0 : 0 < m) (hgo : ¬ good oa) (w : World) (I : M11 a0 M cb tb tc n m ta S T w) (hn : n <= 64) (hm : m <= 65536) (ha0 : a0 <= w.heap.size) (hl : (T i).ans.length <= 65536) (hat : (T i).at' <= 65536) :
  CallW prog main (fun _ => none) 157 #[.pointer (some ⟨M, 0, none⟩), .int .i64 i, .agg #[.int .i64 3, .int .i64 oa, .int .i64 ob, .int .i64 oc]] w (Told11 a0 M cb tb tc n m ta S T T i ((T i).clr oa) ⟨false, 0, []⟩ w) := by
 have m1 : ((m : Int) == 0) = false := by simp; omega
 have m2 : ¬ m = 0 := by omega
 have hgd := Fh (main := main) (V := fun _ => none) oa hgo
 intro kf cs
 obtain ⟨hi0, hi1, hi3, hi4⟩ := hIx i n
 refine (Hm hi 3 oa ob oc w I hn ha0 (kf :: cs)).then ?_
 rintro _ w2 ⟨⟨u, rfl⟩, I2, g2, d2⟩
 have hz2 := g2.chg.size
 have b0 := (Ab d2 0).trans rfl
 have b1 := (Ab d2 1).trans rfl
 have b2 := (Ab d2 2).trans rfl
 have c0 : w2.cell? ⟨M, 0, none⟩ = some (.int .i64 m) := I2.cZ
 generalize w.heap.size = Zs at *
 clear d2 I
 conv => arg 5; unfold hdBg
 refine Aa z157 ?_
 refine qV (x := .bool false) (W := w2) func20 ?_ ?_
 ·walk_nrm
  exact hgd w2
 walk_nrm
 refine Aa z157 ?_
 refine qW (Post := Told11 a0 M cb tb tc n m ta S (upd T i ((T i).clr oa)) T i ((T i).clr oa) ⟨false, 0, []⟩ w2) func158 ?_ ?_
 ·walk_nrm
  exact Ch hi _ ⟨false, 0, []⟩ _ w2 (LsAt.nil _ _ _) I2 hn (by omega) hl hat
 intro v w4 h
 obtain rfl := h.1
 walk_nrm
 refine Aa z157 ?_
 exact Au rfl rfl func157 rfl (.stop fun d => ⟨_, h.by g2 d, rfl⟩)
theorem bg_n {main : Bool} {i : Nat} (hi : i < n) (k oa ob oc : Int) (hm0 : 0 < m) (hk1 : 1 <= k) (hk2 : k <= 5) (hk3 : k ≠ 3) (hk4 : k ≠ 4) (hgo : ¬ good oa) (w : World) (I : M11 a0 M cb tb tc n m ta S T w) (hn : n <= 64) (hm : m <= 65536) (ha0 : a0 <= w.heap.size) (hl : (T i).ans.length <= 65536) (hat : (T i).at' <= 65536) :
  CallW prog main (fun _ => none) 157 #[.pointer (some ⟨M, 0, none⟩), .int .i64 i, .agg #[.int .i64 k, .int .i64 oa, .int .i64 ob, .int .i64 oc]] w (Told11 a0 M cb tb tc n m ta S T T i ((T i).clr oa) ⟨false, 1, []⟩ w) := by
 have m1 : ((m : Int) == 0) = false := by simp; omega
 have m2 : ¬ m = 0 := by omega
 have kk0 : decide (k < 1) = false := by simp; omega
 have kk1 : decide (5 < k) = false := by simp; omega
 have kf4 : (k == 4) = false := by simp; omega
 have kf3 : (k == 3) = false := by simp; omega
 have hgd := Fh (main := main) (V := fun _ => none) oa hgo
 intro kf cs
 obtain ⟨hi0, hi1, hi3, hi4⟩ := hIx i n
 refine (Hm hi k oa ob oc w I hn ha0 (kf :: cs)).then ?_
 rintro _ w2 ⟨⟨u, rfl⟩, I2, g2, d2⟩
 have hz2 := g2.chg.size
 have b0 := (Ab d2 0).trans rfl
 have b1 := (Ab d2 1).trans rfl
 have b2 := (Ab d2 2).trans rfl
 have c0 : w2.cell? ⟨M, 0, none⟩ = some (.int .i64 m) := I2.cZ
 generalize w.heap.size = Zs at *
 clear d2 I
 conv => arg 5; unfold hdBg
 refine Aa z157 ?_
 refine qV (x := .bool false) (W := w2) func20 ?_ ?_
 ·walk_nrm
  exact hgd w2
 walk_nrm
 refine Aa z157 ?_
 refine qV (x := .bool false) (W := w2) func20 ?_ ?_
 ·walk_nrm
  exact hgd w2
 walk_nrm
 refine Aa z157 ?_
 refine qW (Post := Told11 a0 M cb tb tc n m ta S (upd T i ((T i).clr oa)) T i ((T i).clr oa) ⟨false, 1, []⟩ w2) func158 ?_ ?_
 ·walk_nrm
  exact Ch hi _ ⟨false, 1, []⟩ _ w2 (LsAt.nil _ _ _) I2 hn (by omega) hl hat
 intro v w4 h
 obtain rfl := h.1
 walk_nrm
 refine Aa z157 ?_
 exact Au rfl rfl func157 rfl (.stop fun d => ⟨_, h.by g2 d, rfl⟩)
theorem bg_5n {main : Bool} {i : Nat} (hi : i < n) (oa ob oc : Int) (hm0 : 0 < m) (hgo : good oa) (hb : ob < 1) (w : World) (I : M11 a0 M cb tb tc n m ta S T w) (hn : n <= 64) (hm : m <= 65536) (ha0 : a0 <= w.heap.size) (hl : (T i).ans.length <= 65536) (hat : (T i).at' <= 65536) :
  CallW prog main (fun _ => none) 157 #[.pointer (some ⟨M, 0, none⟩), .int .i64 i, .agg #[.int .i64 5, .int .i64 oa, .int .i64 ob, .int .i64 oc]] w (Told11 a0 M cb tb tc n m ta S T T i ((T i).clr oa) ⟨true, 0, []⟩ w) := by
 have m1 : ((m : Int) == 0) = false := by simp; omega
 have m2 : ¬ m = 0 := by omega
 have hgd := Dg (main := main) (V := fun _ => none) oa hgo
 have k2 : decide (ob < 1) = true := decide_eq_true hb
 intro kf cs
 obtain ⟨hi0, hi1, hi3, hi4⟩ := hIx i n
 refine (Hm hi 5 oa ob oc w I hn ha0 (kf :: cs)).then ?_
 rintro _ w2 ⟨⟨u, rfl⟩, I2, g2, d2⟩
 have hz2 := g2.chg.size
 have b0 := (Ab d2 0).trans rfl
 have b1 := (Ab d2 1).trans rfl
 have b2 := (Ab d2 2).trans rfl
 have c0 : w2.cell? ⟨M, 0, none⟩ = some (.int .i64 m) := I2.cZ
 generalize w.heap.size = Zs at *
 clear d2 I
 conv => arg 5; unfold hdBg
 refine Aa z157 ?_
 refine qV (x := .bool true) (W := w2) func20 ?_ ?_
 ·walk_nrm
  exact hgd w2
 walk_nrm
 refine Aa z157 ?_
 refine qV (x := .bool true) (W := w2) func20 ?_ ?_
 ·walk_nrm
  exact hgd w2
 walk_nrm
 refine Aa z157 ?_
 refine qW (Post := Told11 a0 M cb tb tc n m ta S (upd T i ((T i).clr oa)) T i ((T i).clr oa) ⟨true, 0, []⟩ w2) func158 ?_ ?_
 ·walk_nrm
  exact Ch hi _ ⟨true, 0, []⟩ _ w2 (LsAt.nil _ _ _) I2 hn (by omega) hl hat
 intro v w4 h
 obtain rfl := h.1
 walk_nrm
 refine Aa z157 ?_
 exact Au rfl rfl func157 rfl (.stop fun d => ⟨_, h.by g2 d, rfl⟩)
theorem bg_5y {main : Bool} {i : Nat} (hi : i < n) (oa ob oc : Int) (hm0 : 0 < m) (hgo : good oa) (hb : ¬ ob < 1) (w : World) (I : M11 a0 M cb tb tc n m ta S T w) (hn : n <= 64) (hm : m <= 65536) (ha0 : a0 <= w.heap.size) :
  CallW prog main (fun _ => none) 157 #[.pointer (some ⟨M, 0, none⟩), .int .i64 i, .agg #[.int .i64 5, .int .i64 oa, .int .i64 ob, .int .i64 oc]] w (fun v w' => v = .tuple #[] /\ M11 a0 M cb tb tc n m ta S (upd T i ((T i).first oa)) w' /\ Got M cb m tb n T (upd T i ((T i).first oa)) w w') := by
 have m1 : ((m : Int) == 0) = false := by simp; omega
 have m2 : ¬ m = 0 := by omega
 have hgd := Dg (main := main) (V := fun _ => none) oa hgo
 have k2 : decide (ob < 1) = false := decide_eq_false hb
 intro kf cs
 obtain ⟨hi0, hi1, hi3, hi4⟩ := hIx i n
 refine (Hm hi 5 oa ob oc w I hn ha0 (kf :: cs)).then ?_
 rintro _ w2 ⟨⟨u, rfl⟩, I2, g2, d2⟩
 have hz2 := g2.chg.size
 have b0 := (Ab d2 0).trans rfl
 have b1 := (Ab d2 1).trans rfl
 have b2 := (Ab d2 2).trans rfl
 have c0 : w2.cell? ⟨M, 0, none⟩ = some (.int .i64 m) := I2.cZ
 generalize w.heap.size = Zs at *
 clear d2 I
 conv => arg 5; unfold hdBg
 refine Aa z157 ?_
 refine qV (x := .bool true) (W := w2) func20 ?_ ?_
 ·walk_nrm
  exact hgd w2
 walk_nrm
 refine Aa z157 ?_
 refine qV (x := .bool true) (W := w2) func20 ?_ ?_
 ·walk_nrm
  exact hgd w2
 walk_nrm
 refine Aa z157 ?_
 have c1 := I2.cT (by omega)
 have c3 : w2.cell? ⟨tb, i * 9 + 4, none⟩ = some (.int .i64 (T i).pc) := I2.tcell hi (by rw [upd_same]; rfl)
 have z3 := I2.tfrz hi (i * 9 + 4)
 have I3 := I2.put hi (j := 4) (v := .int .i64 1) (t := (T i).first oa)
 rw [An] at I3
 try walk_nrm
 refine Aa z157 ?_
 (have hfr := Ju tb (i * 9 + 4); refine Ws hfr c3 ?_; clear hfr; try walk_nrm)
 have s3 := Ai w2 ⟨tb, i * 9 + 4, none⟩ (.int .i64 1)
 have o3 : ∀ x, x ≠ tb -> (w2.setCell ⟨tb, i * 9 + 4, none⟩ (.int .i64 1)).heap[x]? = w2.heap[x]? := fun x hx => Ac _ _ _ _ hx
 generalize w2.setCell ⟨tb, i * 9 + 4, none⟩ (.int .i64 1) = w3 at *
 clear c1 c3 z3
 have g3 : Got M cb m tb n (upd T i ((T i).clr oa)) (upd T i ((T i).first oa)) w2 w3 := ⟨⟨by omega, fun x hx hn => o3 x fun e => hn (.inr (.inr (.inl e)))⟩, fun b hb => by
  have := Bu (M := M) (cb := cb) (m := m) (tb := tb) (T := upd T i ((T i).clr oa)) (t := (T i).first oa) (s := w2.heap.size) hi (fun b hb => .inl (by rw [upd_same]; exact hb)) b
  rw [An] at this
  exact this hb⟩
 try walk_nrm
 refine Aa z157 ?_
 exact Au rfl rfl func157 rfl (.stop fun d => ⟨_, ⟨rfl, I3.same fun _ _ => rfl, ⟨(g2.trans g3).chg.at d, (g2.trans g3).own⟩⟩, rfl⟩)
theorem bg_y {main : Bool} {i : Nat} (hi : i < n) (k oa ob oc : Int) (hm0 : 0 < m) (hk1 : 1 <= k) (hk2 : k <= 3) (hgo : good oa) (w : World) (I : M11 a0 M cb tb tc n m ta S T w) (hn : n <= 64) (hm : m <= 65536) (ha0 : a0 <= w.heap.size) :
  CallW prog main (fun _ => none) 157 #[.pointer (some ⟨M, 0, none⟩), .int .i64 i, .agg #[.int .i64 k, .int .i64 oa, .int .i64 ob, .int .i64 oc]] w (fun v w' => v = .tuple #[] /\ M11 a0 M cb tb tc n m ta S (upd T i ((T i).first oa)) w' /\ Got M cb m tb n T (upd T i ((T i).first oa)) w w') := by
 have m1 : ((m : Int) == 0) = false := by simp; omega
 have m2 : ¬ m = 0 := by omega
 have kk0 : decide (k < 1) = false := by simp; omega
 have kk1 : decide (5 < k) = false := by simp; omega
 have kf4 : (k == 4) = false := by simp; omega
 have kf5 : (k == 5) = false := by simp; omega
 have hgd := Dg (main := main) (V := fun _ => none) oa hgo
 intro kf cs
 obtain ⟨hi0, hi1, hi3, hi4⟩ := hIx i n
 refine (Hm hi k oa ob oc w I hn ha0 (kf :: cs)).then ?_
 rintro _ w2 ⟨⟨u, rfl⟩, I2, g2, d2⟩
 have hz2 := g2.chg.size
 have b0 := (Ab d2 0).trans rfl
 have b1 := (Ab d2 1).trans rfl
 have b2 := (Ab d2 2).trans rfl
 have c0 : w2.cell? ⟨M, 0, none⟩ = some (.int .i64 m) := I2.cZ
 generalize w.heap.size = Zs at *
 clear d2 I
 conv => arg 5; unfold hdBg
 refine Aa z157 ?_
 refine qV (x := .bool true) (W := w2) func20 ?_ ?_
 ·walk_nrm
  exact hgd w2
 walk_nrm
 refine Aa z157 ?_
 refine qV (x := .bool true) (W := w2) func20 ?_ ?_
 ·walk_nrm
  exact hgd w2
 walk_nrm
 refine Aa z157 ?_
 have c1 := I2.cT (by omega)
 have c3 : w2.cell? ⟨tb, i * 9 + 4, none⟩ = some (.int .i64 (T i).pc) := I2.tcell hi (by rw [upd_same]; rfl)
 have z3 := I2.tfrz hi (i * 9 + 4)
 have I3 := I2.put hi (j := 4) (v := .int .i64 1) (t := (T i).first oa)
 rw [An] at I3
 try walk_nrm
 refine Aa z157 ?_
 (have hfr := Ju tb (i * 9 + 4); refine Ws hfr c3 ?_; clear hfr; try walk_nrm)
 have s3 := Ai w2 ⟨tb, i * 9 + 4, none⟩ (.int .i64 1)
 have o3 : ∀ x, x ≠ tb -> (w2.setCell ⟨tb, i * 9 + 4, none⟩ (.int .i64 1)).heap[x]? = w2.heap[x]? := fun x hx => Ac _ _ _ _ hx
 generalize w2.setCell ⟨tb, i * 9 + 4, none⟩ (.int .i64 1) = w3 at *
 clear c1 c3 z3
 have g3 : Got M cb m tb n (upd T i ((T i).clr oa)) (upd T i ((T i).first oa)) w2 w3 := ⟨⟨by omega, fun x hx hn => o3 x fun e => hn (.inr (.inr (.inl e)))⟩, fun b hb => by
  have := Bu (M := M) (cb := cb) (m := m) (tb := tb) (T := upd T i ((T i).clr oa)) (t := (T i).first oa) (s := w2.heap.size) hi (fun b hb => .inl (by rw [upd_same]; exact hb)) b
  rw [An] at this
  exact this hb⟩
 try walk_nrm
 refine Aa z157 ?_
 exact Au rfl rfl func157 rfl (.stop fun d => ⟨_, ⟨rfl, I3.same fun _ _ => rfl, ⟨(g2.trans g3).chg.at d, (g2.trans g3).own⟩⟩, rfl⟩)
end
section
variable {a0 M tb tc n m : Nat} {cb : CB} {ta : Option Addr} {S : Rg} {T : Nat -> R11}
theorem begin_no {main : Bool} {i : Nat} (hi : i < n) (o : OpV) (a : Ans) (hk : eR m o = some a) (hlo : -9223372036854775808 <= o.a) (w : World) (I : M11 a0 M cb tb tc n m ta S T w) (hn : n <= 64) (hm : m <= 65536) (ha0 : a0 <= w.heap.size) (hl : (T i).ans.length <= 65536) (hat : (T i).at' <= 65536) :
  CallW prog main (fun _ => none) 157 #[.pointer (some ⟨M, 0, none⟩), .int .i64 i, .agg #[.int .i64 o.k, .int .i64 o.a, .int .i64 o.b, .int .i64 o.c]] w (fun v w' => v = .tuple #[] /\ ∃ av oA, M11 a0 M cb tb tc n m ta S (upd T i (((T i).clr o.a).told a av oA)) w' /\ Got M cb m tb n T (upd T i (((T i).clr o.a).told a av oA)) w w') := by
 obtain ⟨k, oa, ob, oc⟩ := o
 unfold eR at hk
 dsimp only at hk hlo ⊢
 by_cases h0 : m = 0
 ·rw [if_pos (.inl h0)] at hk
  obtain rfl := Option.some.inj hk
  exact bg_z hi k oa ob oc (by omega) w I hn hm ha0 hl hat
 by_cases h1 : k < 1
 ·rw [if_pos (.inr (.inl h1))] at hk
  obtain rfl := Option.some.inj hk
  exact bg_lo hi k oa ob oc (by omega) h1 w I hn hm ha0 hl hat
 by_cases h2 : 5 < k
 ·rw [if_pos (.inr (.inr h2))] at hk
  obtain rfl := Option.some.inj hk
  exact bg_hi hi k oa ob oc (by omega) h2 w I hn hm ha0 hl hat
 rw [if_neg (by omega)] at hk
 by_cases h4 : k = 4
 ·subst h4
  rw [if_pos rfl] at hk
  by_cases hg : good oa
  ·by_cases hb : ob < oa
   ·rw [if_neg (by omega), if_neg (by have := hg.1; omega)] at hk
    obtain rfl := Option.some.inj hk
    exact bg_4b hi oa ob oc (by omega) hg hb w I hn hm ha0 hl hat
   ·rw [if_pos ⟨hg, by omega⟩] at hk
    cases hk
  ·rw [if_neg (fun h => hg h.1)] at hk
   by_cases hmi : oa = -9223372036854775808
   ·rw [if_pos hmi] at hk
    obtain rfl := Option.some.inj hk
    exact bg_4m hi oa ob oc (by omega) hmi w I hn hm ha0 hl hat
   ·rw [if_neg hmi] at hk
    obtain rfl := Option.some.inj hk
    exact bg_4n hi oa ob oc (by omega) (by omega) hg w I hn hm ha0 hl hat
 rw [if_neg h4] at hk
 by_cases hg : good oa
 ·rw [if_pos hg] at hk
  by_cases h5 : k = 5 /\ ob < 1
  ·rw [if_pos h5] at hk
   obtain rfl := Option.some.inj hk
   obtain ⟨rfl, hb⟩ := h5
   exact bg_5n hi oa ob oc (by omega) hg hb w I hn hm ha0 hl hat
  ·rw [if_neg h5] at hk
   cases hk
 ·rw [if_neg hg] at hk
  by_cases h3 : k = 3
  ·subst h3
   rw [if_pos rfl] at hk
   obtain rfl := Option.some.inj hk
   exact bg_3n hi oa ob oc (by omega) hg w I hn hm ha0 hl hat
  ·rw [if_neg h3] at hk
   obtain rfl := Option.some.inj hk
   exact bg_n hi k oa ob oc (by omega) (by omega) (by omega) h3 h4 hg w I hn hm ha0 hl hat
theorem begin_yes {main : Bool} {i : Nat} (hi : i < n) (o : OpV) (hk : eR m o = none) (w : World) (I : M11 a0 M cb tb tc n m ta S T w) (hn : n <= 64) (hm : m <= 65536) (ha0 : a0 <= w.heap.size) :
  CallW prog main (fun _ => none) 157 #[.pointer (some ⟨M, 0, none⟩), .int .i64 i, .agg #[.int .i64 o.k, .int .i64 o.a, .int .i64 o.b, .int .i64 o.c]] w (fun v w' => v = .tuple #[] /\ M11 a0 M cb tb tc n m ta S (upd T i ((T i).first o.a)) w' /\ Got M cb m tb n T (upd T i ((T i).first o.a)) w w') := by
 obtain ⟨k, oa, ob, oc⟩ := o
 unfold eR at hk
 dsimp only at hk ⊢
 by_cases h0 : m = 0 ∨ k < 1 ∨ 5 < k
 ·rw [if_pos h0] at hk
  cases hk
 rw [if_neg h0] at hk
 by_cases h4 : k = 4
 ·subst h4
  rw [if_pos rfl] at hk
  by_cases hg : good oa /\ oa <= ob
  ·exact bg_4y hi oa ob oc (by omega) hg.1 (by omega) w I hn hm ha0
  ·rw [if_neg hg] at hk
   cases hk
 rw [if_neg h4] at hk
 by_cases hg : good oa
 ·rw [if_pos hg] at hk
  by_cases h5 : k = 5 /\ ob < 1
  ·rw [if_pos h5] at hk
   cases hk
  ·by_cases h55 : k = 5
   ·subst h55
    exact bg_5y hi oa ob oc (by omega) hg (fun h => h5 ⟨rfl, h⟩) w I hn hm ha0
   ·exact bg_y hi k oa ob oc (by omega) (by omega) (by omega) hg w I hn hm ha0
 ·rw [if_neg hg] at hk
  by_cases h3 : k = 3
  ·rw [if_pos h3] at hk; cases hk
  ·rw [if_neg h3] at hk; cases hk
end
noncomputable def reg116_0 := rk f116.body 0
theorem size116_0 : reg116_0.size = 29 := by kernel_rfl
noncomputable def reg116_1 := rk f116.body 1
theorem size116_1 : reg116_1.size = 21 := by kernel_rfl
theorem z116 : reg116_0.size = 29 /\ reg116_1.size = 21 := by and_intros <;> kernel_rfl
theorem code116_is : f116.body = some (.block 0 (.loop (.seq (.seq (.region 0 reg116_0 true) (.cond (.tmp 32 ) (.skip) (.exit 0))) (.block 1 (.region 1 reg116_1 true))))) := by kernel_rfl
noncomputable def hdSet (M i : Nat) (u : Nat -> Value) : Frame :=
 (base 116).at { tmps := #[.pointer (some ⟨M, 0, none⟩), .int .i64 i, u 2, u 3, u 4, u 5, u 6, u 7, u 8, u 9, u 10, u 11, u 12, u 13, u 14, u 15, u 16, u 17, u 18, u 19, u 20, u 21, u 22, u 23, u 24, u 25, u 26, u 27, u 28, u 29, u 30, u 31, u 32, u 33, u 34, u 35, u 36, u 37, u 38, u 39, u 40, u 41, u 42, u 43, u 44, u 45, u 46, u 47, u 48, u 49, u 50, u 51, u 52, u 53], defers := [] } [.code (.seq (.seq (.region 0 reg116_0 true) (.cond (.tmp 32 ) (.skip) (.exit 0))) (.block 1 (.region 1 reg116_1 true))), .inLoop (.seq (.seq (.region 0 reg116_0 true) (.cond (.tmp 32 ) (.skip) (.exit 0))) (.block 1 (.region 1 reg116_1 true))), .inBlock 0]
section
variable {a0 M tb tc n m : Nat} {cb : CB} {ta : Option Addr} {S : Rg} {T : Nat -> R11} {main : Bool}
theorem set_in (i : Nat) (cs : List Frame) (w : World) :
  Walk prog main (DR (fun _ => none)) (fun g w' => (∃ u, g = G (hdSet M i u) cs) /\ ∃ d, w' = w.at d) (G (Frame.enter prog 116 #[.pointer (some ⟨M, 0, none⟩), .int .i64 i] .normal) cs) w := by
 rw [enter_at _ func116 code116_is]
 simp only [ntmps116, ez, Nat.reduceAdd, Nat.reduceSub]
 refine Aa z116 ?_
 refine cLp ?_
 refine .stop fun d => ⟨Ak ?_, d, rfl⟩
 simp only [hdSet]
 rfl
theorem set_on {i : Nat} (hi : i < n) (w : World) (I : M11 a0 M cb tb tc n m ta S T w) (hpc : (T i).pc ≠ 0) (u : Nat -> Value) (fr : Frame) (cs : List Frame) :
  Walk prog main (DR (fun _ => none)) (fun g w' => g = G (fr.finish (.tuple #[])) cs /\ ∃ d, w' = w.at d) (G (hdSet M i u) (fr :: cs)) w := by
 obtain ⟨hi0, hi1, hi3, hi4⟩ := hIx i n
 have hb0 : ((T i).pc == 0) = false := by simp [hpc]
 have c1 := I.cT (by omega)
 have c3 : w.cell? ⟨tb, i * 9 + 4, none⟩ = some (.int .i64 (T i).pc) := I.tcell hi rfl
 generalize (T i).pc = pc at *
 conv => arg 5; unfold hdSet
 refine Aa z116 ?_
 (refine Bn (by kernel_rfl) size116_0 (by kernel_rfl) (by kernel_rfl) (by decide) ?_; simp only [List.range, List.range.loop]; repeat (first | (refine cQ ?_) | (refine Be Ah (by rfl) ?_; walk_nrm)))
 refine cDn ?_
 refine Aa z116 ?_
 exact Au rfl rfl func116 rfl (.stop fun d => ⟨rfl, d, rfl⟩)
theorem set_end {i : Nat} (hi : i < n) (w : World) (I : M11 a0 M cb tb tc n m ta S T w) (hpc : (T i).pc = 0) (hat : (T i).at' = (T i).ops.length) (u : Nat -> Value) (fr : Frame) (cs : List Frame) :
  Walk prog main (DR (fun _ => none)) (fun g w' => g = G (fr.finish (.tuple #[])) cs /\ ∃ d, w' = w.at d) (G (hdSet M i u) (fr :: cs)) w := by
 obtain ⟨hi0, hi1, hi3, hi4⟩ := hIx i n
 obtain ⟨oa, oc, hov⟩ := (I.rows i hi).ovS
 have c1 := I.cT (by omega)
 have c3 : w.cell? ⟨tb, i * 9 + 4, none⟩ = some (.int .i64 (T i).pc) := I.tcell hi rfl
 have c4 : w.cell? ⟨tb, i * 9 + 3, none⟩ = some (.int .i64 (T i).at') := I.tcell hi rfl
 have c5 : w.cell? ⟨tb, i * 9, none⟩ = some (T i).ov := I.tcell hi (j := 0) rfl
 rw [hpc] at c3
 rw [hat] at c4
 rw [hov] at c5
 generalize (T i).ops.length = ln at *
 have hb1 : decide ((ln : Int) < ln) = false := by simp
 have hb2 : decide (ln < ln) = false := by simp
 clear hov hat hpc
 conv => arg 5; unfold hdSet
 refine Aa z116 ?_
 (refine Bn (by kernel_rfl) size116_0 (by kernel_rfl) (by kernel_rfl) (by decide) ?_; simp only [List.range, List.range.loop]; repeat (first | (refine cQ ?_) | (refine Be Ah (by rfl) ?_; walk_nrm)))
 refine cDn ?_
 refine Aa z116 ?_
 exact Au rfl rfl func116 rfl (.stop fun d => ⟨rfl, d, rfl⟩)
theorem set_go {i : Nat} (hi : i < n) (o : OpV) (w : World) (I : M11 a0 M cb tb tc n m ta S T w) (hpc : (T i).pc = 0) (ho : (T i).ops[(T i).at']? = some o) (P : World -> Prop) (hP : ∀ w d, P w -> P (w.at d))
  (hbg : CallW prog main (fun _ => none) 157 #[.pointer (some ⟨M, 0, none⟩), .int .i64 i, .agg #[.int .i64 o.k, .int .i64 o.a, .int .i64 o.b, .int .i64 o.c]] w (fun v w' => v = .tuple #[] /\ P w')) (u : Nat -> Value) (cs : List Frame) :
  Walk prog main (DR (fun _ => none)) (fun g w' => (∃ u, g = G (hdSet M i u) cs) /\ P w') (G (hdSet M i u) cs) w := by
 obtain ⟨hi0, hi1, hi3, hi4⟩ := hIx i n
 have hlt := (lEs ho).1
 obtain ⟨fsO, huO⟩ := Ci 45 (by kernel_rfl)
 obtain ⟨g, off, oc, hov, _, _, hop⟩ := (I.rows i hi).op ho
 have c1 := I.cT (by omega)
 have c3 : w.cell? ⟨tb, i * 9 + 4, none⟩ = some (.int .i64 (T i).pc) := I.tcell hi rfl
 have c4 : w.cell? ⟨tb, i * 9 + 3, none⟩ = some (.int .i64 (T i).at') := I.tcell hi rfl
 have c5 : w.cell? ⟨tb, i * 9, none⟩ = some (T i).ov := I.tcell hi (j := 0) rfl
 rw [hpc] at c3
 rw [hov] at c5
 generalize (T i).ops.length = ln at *
 generalize (T i).at' = k at *
 obtain ⟨hk0, hk1, hk3, hk4⟩ := hIx k ln
 clear hov hpc I ho
 conv => arg 5; unfold hdSet
 refine Aa z116 ?_
 (refine Bn (by kernel_rfl) size116_0 (by kernel_rfl) (by kernel_rfl) (by decide) ?_; simp only [List.range, List.range.loop]; repeat (first | (refine cQ ?_) | (refine Be Ah (by rfl) ?_; walk_nrm)))
 refine cDn ?_
 refine Aa z116 ?_
 (refine Bw (by kernel_rfl) size116_1 (by kernel_rfl) (by kernel_rfl) (by kernel_rfl) (by decide) ?_; simp only [List.range, List.range.loop]; repeat (first | (refine cQ ?_) | (refine Be Ah (by rfl) ?_; walk_nrm)))
 refine Cm.loadS 45 (.tmp 51) Ah (by rfl) rfl g (off + k * 4) [.int .i64 o.k, .int .i64 o.a, .int .i64 o.b, .int .i64 o.c] (.struct fsO) rfl (fun x hx => hx ▸ hop) huO rfl (by kernel_rfl) ?_
 walk_nrm
 refine cDn ?_
 intro rest hr0
 refine qW (Post := fun v w' => v = .tuple #[] /\ P w') func157 ?_ ?_
 ·walk_nrm
  exact hbg
 rintro v w1 ⟨rfl, hP1⟩
 refine hr0 _ _ ?_
 try walk_nrm
 refine Aa z116 ?_
 refine cIL ?_
 refine .stop fun d => ⟨Ak ?_, hP w1 d hP1⟩
 simp only [hdSet]
 rfl
structure Set11 (m : Nat) (t t' : R11) : Prop where
 ov : t'.ov = t.ov
 ops : t'.ops = t.ops
 who : t'.who = t.who
 how : ∃ q asw, asw.length = q /\ (∀ x, x < q -> ∃ o a, t.ops[t.at' + x]? = some o /\ eR m o = some a /\ asw[x]? = some a) /\ t'.at' = t.at' + q /\ t'.ans = t.ans ++ asw /\
  ((t'.at' = t.ops.length /\ t'.pc = 0) ∨ ∃ o, t.ops[t'.at']? = some o /\ eR m o = none /\ t'.pc = 1 /\ t'.q = o.a /\ t'.seen = [] /\ t'.live)
theorem settle_loop {i : Nat} (hi : i < n) (hn : n <= 64) (hm : m <= 65536) (fr : Frame) (cs : List Frame) : ∀ (r : Nat) (T : Nat -> R11) (w : World) (u : Nat -> Value), (T i).at' + r = (T i).ops.length -> (T i).ops.length <= 65536 -> (T i).ans.length <= (T i).at' -> (T i).pc = 0 -> a0 <= w.heap.size -> M11 a0 M cb tb tc n m ta S T w ->
  Walk prog main (DR (fun _ => none)) (fun g w' => g = G (fr.finish (.tuple #[])) cs /\ ∃ t', Set11 m (T i) t' /\ M11 a0 M cb tb tc n m ta S (upd T i t') w' /\ Got M cb m tb n T (upd T i t') w w') (G (hdSet M i u) (fr :: cs)) w := by
 intro r
 induction r with
 | zero =>
  intro T w u hr hln hal hpc ha0 I
  refine (set_end hi w I hpc hr u fr cs).mono ?_
  rintro g w' ⟨rfl, d, rfl⟩
  have e : upd T i (T i) = T := by
   funext k
   by_cases h : k = i
   ·subst h; rw [upd_same]
   ·rw [upd_ne _ _ h]
  refine ⟨rfl, T i, ⟨rfl, rfl, rfl, 0, [], rfl, fun x hx => absurd hx (Nat.not_lt_zero x), rfl, by simp, .inl ⟨hr, hpc⟩⟩, ?_, ?_⟩
  ·rw [e]; exact I.same fun _ _ => rfl
  ·rw [e]; exact ⟨Chg.refl.at d, fun _ h => .inl h⟩
 | succ r ih =>
  intro T w u hr hln hal hpc ha0 I
  obtain ⟨o, ho⟩ : ∃ o, (T i).ops[(T i).at']? = some o := ⟨_, List.getElem?_eq_getElem (by omega)⟩
  cases hk : eR m o with
  | none =>
   refine (set_go hi o w I hpc ho (fun w' => M11 a0 M cb tb tc n m ta S (upd T i ((T i).first o.a)) w' /\ Got M cb m tb n T (upd T i ((T i).first o.a)) w w') (fun w' d h => ⟨h.1.same fun _ _ => rfl, ⟨h.2.chg.at d, h.2.own⟩⟩) (begin_yes hi o hk w I hn hm ha0) u (fr :: cs)).then ?_
   rintro _ w1 ⟨⟨u1, rfl⟩, I1, g1⟩
   refine (set_on hi w1 I1 (by rw [upd_same]; show (1 : Int) ≠ 0; decide) u1 fr cs).mono ?_
   rintro g w' ⟨rfl, d, rfl⟩
   exact ⟨rfl, (T i).first o.a, ⟨rfl, rfl, rfl, 0, [], rfl, fun x hx => absurd hx (Nat.not_lt_zero x), rfl, by simp [R11.first], .inr ⟨o, ho, hk, rfl, rfl, rfl, trivial⟩⟩, I1.same fun _ _ => rfl, ⟨g1.chg.at d, g1.own⟩⟩
  | some a =>
   refine (set_go hi o w I hpc ho (fun w' => ∃ av oA, M11 a0 M cb tb tc n m ta S (upd T i (((T i).clr o.a).told a av oA)) w' /\ Got M cb m tb n T (upd T i (((T i).clr o.a).told a av oA)) w w') (fun w' d h => h.imp fun av h => h.imp fun oA h => ⟨h.1.same fun _ _ => rfl, ⟨h.2.chg.at d, h.2.own⟩⟩) (begin_no hi o a hk ((I.rows i hi).low64 ho) w I hn hm ha0 (by omega) (by omega)) u (fr :: cs)).then ?_
   rintro _ w1 ⟨⟨u1, rfl⟩, av, oA, I1, g1⟩
   have hz := g1.chg.size
   refine (ih (upd T i (((T i).clr o.a).told a av oA)) w1 u1 (by rw [upd_same]; show (T i).at' + 1 + r = _; show _ = (T i).ops.length; omega) (by rw [upd_same]; exact hln) (by rw [upd_same]; show ((T i).ans ++ [a]).length <= (T i).at' + 1; simp; omega) (by rw [upd_same]; rfl) (by omega) I1).mono ?_
   rintro g w' ⟨rfl, t', Z5, I2, g2⟩
   rw [upd_same] at Z5
   rw [An] at I2 g2
   obtain ⟨q, asw, s0, s1, s2, s3, s4⟩ := Z5.how
   refine ⟨rfl, t', ⟨Z5.ov, Z5.ops, Z5.who, q + 1, a :: asw, by simp [s0], fun x hx => ?_, ?_, ?_, s4⟩, I2, g1.trans g2⟩
   ·cases x with
    | zero => exact ⟨o, a, ho, hk, rfl⟩
    | succ x =>
     obtain ⟨o', a', h1, h2, h3⟩ := s1 x (by omega)
     refine ⟨o', a', ?_, h2, h3⟩
     rw [<- h1]
     show (T i).ops[(T i).at' + (x + 1)]? = (T i).ops[(T i).at' + 1 + x]?
     congr 1
     omega
   ·rw [s2]
    show (T i).at' + 1 + q = _
    omega
   ·rw [s3]
    show (T i).ans ++ [a] ++ _ = _
    rw [List.append_assoc]
    rfl
theorem settle_w {i : Nat} (hi : i < n) (hn : n <= 64) (hm : m <= 65536) (w : World) (hr : (T i).at' <= (T i).ops.length) (hln : (T i).ops.length <= 65536) (hal : (T i).ans.length <= (T i).at') (hpc : (T i).pc = 0) (ha0 : a0 <= w.heap.size) (I : M11 a0 M cb tb tc n m ta S T w) :
  CallW prog main (fun _ => none) 116 #[.pointer (some ⟨M, 0, none⟩), .int .i64 i] w (fun v w' => v = .tuple #[] /\ ∃ t', Set11 m (T i) t' /\ M11 a0 M cb tb tc n m ta S (upd T i t') w' /\ Got M cb m tb n T (upd T i t') w w') := by
 intro c cs
 refine (set_in i (c :: cs) w).then ?_
 rintro _ _ ⟨⟨u, rfl⟩, d, rfl⟩
 refine Walk.back ?_ d
 refine (settle_loop hi hn hm c cs ((T i).ops.length - (T i).at') T w u (by omega) hln hal hpc ha0 I).mono ?_
 rintro g w' ⟨rfl, h⟩
 exact ⟨_, ⟨rfl, h⟩, rfl⟩
theorem settle_on {i : Nat} (hi : i < n) (w : World) (hpc : (T i).pc ≠ 0) (I : M11 a0 M cb tb tc n m ta S T w) :
  Aw prog main (fun _ => none) 116 #[.pointer (some ⟨M, 0, none⟩), .int .i64 i] w (.tuple #[]) w := by
 intro c cs
 refine (set_in i (c :: cs) w).then ?_
 rintro _ _ ⟨⟨u, rfl⟩, d, rfl⟩
 refine Walk.back ?_ d
 refine (set_on hi w I hpc u c cs).mono ?_
 rintro g w' ⟨rfl, d, rfl⟩
 exact ⟨_, ⟨rfl, d, rfl⟩, rfl⟩
end
noncomputable def reg159_0 := rk f159.body 0
noncomputable def reg159_1 := rk f159.body 1
theorem size159_1 : reg159_1.size = 22 := by kernel_rfl
noncomputable def reg159_2 := rk f159.body 2
noncomputable def reg159_3 := rk f159.body 3
noncomputable def reg159_4 := rk f159.body 4
theorem size159_4 : reg159_4.size = 15 := by kernel_rfl
noncomputable def reg159_5 := rk f159.body 5
noncomputable def reg159_6 := rk f159.body 6
noncomputable def reg159_7 := rk f159.body 7
noncomputable def reg159_8 := rk f159.body 8
noncomputable def reg159_9 := rk f159.body 9
noncomputable def reg159_10 := rk f159.body 10
noncomputable def reg159_11 := rk f159.body 11
theorem size159_11 : reg159_11.size = 15 := by kernel_rfl
noncomputable def reg159_12 := rk f159.body 12
noncomputable def reg159_13 := rk f159.body 13
theorem size159_13 : reg159_13.size = 16 := by kernel_rfl
noncomputable def reg159_14 := rk f159.body 14
noncomputable def reg159_15 := rk f159.body 15
theorem z159 : reg159_0.size = 3 /\ reg159_1.size = 22 /\ reg159_2.size = 1 /\ reg159_3.size = 2 /\ reg159_4.size = 15 /\ reg159_5.size = 10 /\ reg159_6.size = 3 /\ reg159_7.size = 10 /\ reg159_8.size = 3 /\ reg159_9.size = 3 /\ reg159_10.size = 2 /\ reg159_11.size = 15 /\ reg159_12.size = 3 /\ reg159_13.size = 16 /\ reg159_14.size = 11 /\ reg159_15.size = 3 := by and_intros <;> kernel_rfl
theorem code159_is : f159.body = some (.seq (.region 0 reg159_0 false) (.seq (.region 1 reg159_1 true) (.seq (.seq (.region 2 reg159_2 false) (.block 0 (.seq (.region 3 reg159_3 false) (.cond (.tmp 32 ) (.seq (.region 4 reg159_4 true) (.seq (.seq (.region 5 reg159_5 false) (.cond (.tmp 57 ) (.seq (.region 6 reg159_6 false) (.ret)) (.skip))) (.seq (.seq (.region 7 reg159_7 false) (.cond (.tmp 67 ) (.seq (.region 8 reg159_8 false) (.ret)) (.skip))) (.seq (.region 9 reg159_9 false) (.ret))))) (.seq (.region 10 reg159_10 false) (.cond (.tmp 68 ) (.seq (.region 11 reg159_11 true) (.seq (.region 12 reg159_12 false) (.ret))) (.skip))))))) (.seq (.seq (.region 13 reg159_13 true) (.cond (.tmp 99 ) (.seq (.region 14 reg159_14 false) (.ret)) (.skip))) (.seq (.region 15 reg159_15 false) (.ret)))))) := by kernel_rfl
noncomputable def hdGt (M i pc x : Nat) (lp : Int) (u : Nat -> Value) : Frame :=
 (base 159).at { tmps := #[.pointer (some ⟨M, 0, none⟩), .int .i64 i, .int .i64 pc, u 3, u 4, u 5, .int .i64 0, .int .i64 0, .bool false, .int .i64 x, .int .i64 lp, u 11, u 12, u 13, u 14, u 15, u 16, u 17, u 18, u 19, u 20, u 21, u 22, u 23, u 24, u 25, u 26, u 27, u 28, u 29, u 30, u 31, u 32, u 33, u 34, u 35, u 36, u 37, u 38, u 39, u 40, u 41, u 42, u 43, u 44, u 45, u 46, u 47, u 48, u 49, u 50, u 51, u 52, u 53, u 54, u 55, u 56, u 57, u 58, u 59, u 60, u 61, u 62, u 63, u 64, u 65, u 66, u 67, u 68, u 69, u 70, u 71, u 72, u 73, u 74, u 75, u 76, u 77, u 78, u 79, u 80, u 81, u 82, u 83, u 84, u 85, u 86, u 87, u 88, u 89, u 90, u 91, u 92, u 93, u 94, u 95, u 96, u 97, u 98, u 99, u 100, u 101, u 102, u 103, u 104, u 105, u 106, u 107], defers := [] } [.code (.seq (.seq (.region 2 reg159_2 false) (.block 0 (.seq (.region 3 reg159_3 false) (.cond (.tmp 32 ) (.seq (.region 4 reg159_4 true) (.seq (.seq (.region 5 reg159_5 false) (.cond (.tmp 57 ) (.seq (.region 6 reg159_6 false) (.ret)) (.skip))) (.seq (.seq (.region 7 reg159_7 false) (.cond (.tmp 67 ) (.seq (.region 8 reg159_8 false) (.ret)) (.skip))) (.seq (.region 9 reg159_9 false) (.ret))))) (.seq (.region 10 reg159_10 false) (.cond (.tmp 68 ) (.seq (.region 11 reg159_11 true) (.seq (.region 12 reg159_12 false) (.ret))) (.skip))))))) (.seq (.seq (.region 13 reg159_13 true) (.cond (.tmp 99 ) (.seq (.region 14 reg159_14 false) (.ret)) (.skip))) (.seq (.region 15 reg159_15 false) (.ret))))]
section
variable {a0 M tb tc n m : Nat} {cb : CB} {ta : Option Addr} {S : Rg} {T : Nat -> R11}
theorem Lp {main : Bool} {i : Nat} (hi : i < n) (hg : good (T i).q) (hm : 0 < m) (hm2 : m <= 65536) (pc : Nat) (w0 : World) (I0 : M11 a0 M cb tb tc n m ta S T w0) (cs : List Frame) :
  Walk prog main (DR (fun _ => none)) (fun g w' => (∃ u, g = G (hdGt M i pc (Bl m (T i).q) ((T i).q.tdiv m) u) cs) /\ ∃ d, w' = w0.at d) (G (Frame.enter prog 159 #[.pointer (some ⟨M, 0, none⟩), .int .i64 i, .int .i64 pc] .normal) cs) w0 := by
 obtain ⟨hi0, hi1, hi3, hi4⟩ := hIx i n
 have ll3 := I0.lt.2.2 (by omega)
 have hsl := Ka (main := main) (V := fun _ => none) (T i).q hg hm hm2 w0 I0
 have hla := Qa (main := main) (V := fun _ => none) (T i).q hg hm hm2 w0 I0
 have hxm := Ec hg hm
 have hL := Eb hg m
 have hlb := Dq hg m
 have hw : IntKind.wrap .i64 (2 * (T i).q.tdiv m) = Bx m (T i).q := by rw [IntKind.wrap_i64, hL]; omega
 have cs1 := I0.scell hxm
 have cv1 := I0.vcell hxm
 have c1 := I0.cT (by omega)
 have c3 : w0.cell? ⟨tb, i * 9 + 5, none⟩ = some (.int .i64 (T i).q) := I0.tcell hi rfl
 generalize hX : Bl m (T i).q = x at *
 generalize hK : S.st x = st at *
 generalize hU : S.va x = va at *
 generalize hlp : (T i).q.tdiv m = lp at *
 generalize hLL : Bx m (T i).q = L at *
 obtain ⟨hx0, hx1, hx3, hx4⟩ := hIx x m
 clear hL
 generalize hqq : (T i).q = q at *
 rw [enter_at _ func159 code159_is]
 simp only [ntmps159, ez, Nat.reduceAdd, Nat.reduceSub]
 refine Aa z159 ?_
 (refine Bn (by kernel_rfl) size159_1 (by kernel_rfl) (by kernel_rfl) (by decide) ?_; simp only [List.range, List.range.loop]; repeat (first | (refine cQ ?_) | (refine Be Ah (by rfl) ?_; walk_nrm)))
 refine Cm.callV (x := .int .i64 (x : Nat)) ?_ Ah (by rfl) rfl func115 (by kernel_rfl) (by rfl) ?_
 ·intro w' e
  subst e
  walk_nrm
  exact hsl
 walk_nrm
 repeat (first | (refine cQ ?_) | (refine Be Ah (by rfl) ?_; walk_nrm))
 refine Cm.callV (x := .int .i64 lp) ?_ Ah (by rfl) rfl func114 (by kernel_rfl) (by rfl) ?_
 ·intro w' e
  subst e
  walk_nrm
  exact hla
 walk_nrm
 repeat (first | (refine cQ ?_) | (refine Be Ah (by rfl) ?_; walk_nrm))
 refine cDn ?_
 refine Walk.c rfl ?_
 refine .stop fun d => ⟨Ak ?_, d, rfl⟩
 simp only [hdGt]
 rfl
theorem get_1l {main : Bool} {i : Nat} (hi : i < n) (hg : good (T i).q) (hm : 0 < m) (hm2 : m <= 65536) (h : S.st (Bl m (T i).q) < Bx m (T i).q) (w0 : World) (I0 : M11 a0 M cb tb tc n m ta S T w0) (hn : n <= 64) (ha0 : a0 <= w0.heap.size) :
  CallW prog main (fun _ => none) 159 #[.pointer (some ⟨M, 0, none⟩), .int .i64 i, .int .i64 1] w0 (fun v w' => v = .tuple #[.int .i64 0, .int .i64 6, .bool true] /\ M11 a0 M cb tb tc n m ta S (upd T i { T i with x := S.st (Bl m (T i).q) }) w' /\ Got M cb m tb n T (upd T i { T i with x := S.st (Bl m (T i).q) }) w0 w') := by
 intro kf cs
 obtain ⟨hi0, hi1, hi3, hi4⟩ := hIx i n
 have ll3 := I0.lt.2.2 (by omega)
 have hxm := Ec hg hm
 have hL := Eb hg m
 have hlb := Dq hg m
 have hw : IntKind.wrap .i64 (2 * (T i).q.tdiv m) = Bx m (T i).q := by rw [IntKind.wrap_i64, hL]; omega
 have cs1 := I0.scell hxm
 have cv1 := I0.vcell hxm
 refine (Lp hi hg hm hm2 1 w0 I0 (kf :: cs)).then ?_
 rintro _ _ ⟨⟨u, rfl⟩, d, rfl⟩
 refine Walk.back ?_ d
 generalize hX : Bl m (T i).q = x at *
 generalize hK : S.st x = st at *
 generalize hU : S.va x = va at *
 generalize hlp : (T i).q.tdiv m = lp at *
 generalize hLL : Bx m (T i).q = L at *
 obtain ⟨hx0, hx1, hx3, hx4⟩ := hIx x m
 clear hL
 generalize hqq : (T i).q = q at *
 conv => arg 5; unfold hdGt
 have c1 := I0.cT (by omega)
 have c2 := I0.cS hm
 have c3 : w0.cell? ⟨tb, i * 9 + 6, none⟩ = some (.int .i64 (T i).x) := I0.tcell hi rfl
 have z3 := I0.tfrz hi (i * 9 + 6)
 have I1 := I0.put hi (j := 6) (v := .int .i64 st) (t := { T i with x := st })
 try walk_nrm
 refine Aa z159 ?_
 (refine Bw (by kernel_rfl) size159_4 (by kernel_rfl) (by kernel_rfl) (by kernel_rfl) (by decide) ?_; simp only [List.range, List.range.loop]; repeat (first | (refine cQ ?_) | (refine Be Ah (by rfl) ?_; walk_nrm)))
 refine cDn ?_
 intro rest hr
 (have hfr := Ju tb (i * 9 + 6); refine Ws hfr c3 ?_; clear hfr; try walk_nrm)
 refine hr _ _ ?_
 have s1 := Ai w0 ⟨tb, i * 9 + 6, none⟩ (.int .i64 st)
 have o1 : ∀ y, y ≠ tb -> (w0.setCell ⟨tb, i * 9 + 6, none⟩ (.int .i64 st)).heap[y]? = w0.heap[y]? := fun y hy => Ac _ _ _ _ hy
 have g1 : Got M cb m tb n T (upd T i { T i with x := st }) w0 (w0.setCell ⟨tb, i * 9 + 6, none⟩ (.int .i64 st)) := ⟨⟨by omega, fun y hy hn => o1 y fun e => hn (.inr (.inr (.inl e)))⟩, fun b hb => Bu (t := { T i with x := st }) hi (fun b hb => .inl hb) b hb⟩
 generalize w0.setCell ⟨tb, i * 9 + 6, none⟩ (.int .i64 st) = w1 at *
 clear c1 c2 c3 z3 o1 cs1 cv1
 have k1 : decide (st < L) = true := decide_eq_true h
 have c2 := I1.cS hm
 have cs1 := I1.scell hxm
 rw [hK] at cs1
 try walk_nrm
 refine Aa z159 ?_
 exact Gt rfl rfl func159 rfl (.stop fun d => ⟨_, ⟨rfl, I1.same fun _ _ => rfl, ⟨g1.chg.at d, g1.own⟩⟩, rfl⟩)
theorem get_1g {main : Bool} {i : Nat} (hi : i < n) (hg : good (T i).q) (hm : 0 < m) (hm2 : m <= 65536) (h : Bx m (T i).q < S.st (Bl m (T i).q)) (w0 : World) (I0 : M11 a0 M cb tb tc n m ta S T w0) (hn : n <= 64) (ha0 : a0 <= w0.heap.size) :
  CallW prog main (fun _ => none) 159 #[.pointer (some ⟨M, 0, none⟩), .int .i64 i, .int .i64 1] w0 (fun v w' => v = .tuple #[.int .i64 0, .int .i64 10, .bool true] /\ M11 a0 M cb tb tc n m ta S (upd T i { T i with x := S.st (Bl m (T i).q) }) w' /\ Got M cb m tb n T (upd T i { T i with x := S.st (Bl m (T i).q) }) w0 w') := by
 intro kf cs
 obtain ⟨hi0, hi1, hi3, hi4⟩ := hIx i n
 have ll3 := I0.lt.2.2 (by omega)
 have hxm := Ec hg hm
 have hL := Eb hg m
 have hlb := Dq hg m
 have hw : IntKind.wrap .i64 (2 * (T i).q.tdiv m) = Bx m (T i).q := by rw [IntKind.wrap_i64, hL]; omega
 have cs1 := I0.scell hxm
 have cv1 := I0.vcell hxm
 refine (Lp hi hg hm hm2 1 w0 I0 (kf :: cs)).then ?_
 rintro _ _ ⟨⟨u, rfl⟩, d, rfl⟩
 refine Walk.back ?_ d
 generalize hX : Bl m (T i).q = x at *
 generalize hK : S.st x = st at *
 generalize hU : S.va x = va at *
 generalize hlp : (T i).q.tdiv m = lp at *
 generalize hLL : Bx m (T i).q = L at *
 obtain ⟨hx0, hx1, hx3, hx4⟩ := hIx x m
 clear hL
 generalize hqq : (T i).q = q at *
 conv => arg 5; unfold hdGt
 have c1 := I0.cT (by omega)
 have c2 := I0.cS hm
 have c3 : w0.cell? ⟨tb, i * 9 + 6, none⟩ = some (.int .i64 (T i).x) := I0.tcell hi rfl
 have z3 := I0.tfrz hi (i * 9 + 6)
 have I1 := I0.put hi (j := 6) (v := .int .i64 st) (t := { T i with x := st })
 try walk_nrm
 refine Aa z159 ?_
 (refine Bw (by kernel_rfl) size159_4 (by kernel_rfl) (by kernel_rfl) (by kernel_rfl) (by decide) ?_; simp only [List.range, List.range.loop]; repeat (first | (refine cQ ?_) | (refine Be Ah (by rfl) ?_; walk_nrm)))
 refine cDn ?_
 intro rest hr
 (have hfr := Ju tb (i * 9 + 6); refine Ws hfr c3 ?_; clear hfr; try walk_nrm)
 refine hr _ _ ?_
 have s1 := Ai w0 ⟨tb, i * 9 + 6, none⟩ (.int .i64 st)
 have o1 : ∀ y, y ≠ tb -> (w0.setCell ⟨tb, i * 9 + 6, none⟩ (.int .i64 st)).heap[y]? = w0.heap[y]? := fun y hy => Ac _ _ _ _ hy
 have g1 : Got M cb m tb n T (upd T i { T i with x := st }) w0 (w0.setCell ⟨tb, i * 9 + 6, none⟩ (.int .i64 st)) := ⟨⟨by omega, fun y hy hn => o1 y fun e => hn (.inr (.inr (.inl e)))⟩, fun b hb => Bu (t := { T i with x := st }) hi (fun b hb => .inl hb) b hb⟩
 generalize w0.setCell ⟨tb, i * 9 + 6, none⟩ (.int .i64 st) = w1 at *
 clear c1 c2 c3 z3 o1 cs1 cv1
 have k1 : decide (st < L) = false := by simp; omega
 have k2 : decide (L < st) = true := decide_eq_true h
 have c2 := I1.cS hm
 have cs1 := I1.scell hxm
 rw [hK] at cs1
 try walk_nrm
 refine Aa z159 ?_
 exact Gt rfl rfl func159 rfl (.stop fun d => ⟨_, ⟨rfl, I1.same fun _ _ => rfl, ⟨g1.chg.at d, g1.own⟩⟩, rfl⟩)
theorem get_1e {main : Bool} {i : Nat} (hi : i < n) (hg : good (T i).q) (hm : 0 < m) (hm2 : m <= 65536) (h1 : S.st (Bl m (T i).q) <= Bx m (T i).q) (h2 : Bx m (T i).q <= S.st (Bl m (T i).q)) (w0 : World) (I0 : M11 a0 M cb tb tc n m ta S T w0) (hn : n <= 64) (ha0 : a0 <= w0.heap.size) :
  CallW prog main (fun _ => none) 159 #[.pointer (some ⟨M, 0, none⟩), .int .i64 i, .int .i64 1] w0 (fun v w' => v = .tuple #[.int .i64 0, .int .i64 0, .bool false] /\ M11 a0 M cb tb tc n m ta S (upd T i { T i with x := S.st (Bl m (T i).q) }) w' /\ Got M cb m tb n T (upd T i { T i with x := S.st (Bl m (T i).q) }) w0 w') := by
 intro kf cs
 obtain ⟨hi0, hi1, hi3, hi4⟩ := hIx i n
 have ll3 := I0.lt.2.2 (by omega)
 have hxm := Ec hg hm
 have hL := Eb hg m
 have hlb := Dq hg m
 have hw : IntKind.wrap .i64 (2 * (T i).q.tdiv m) = Bx m (T i).q := by rw [IntKind.wrap_i64, hL]; omega
 have cs1 := I0.scell hxm
 have cv1 := I0.vcell hxm
 refine (Lp hi hg hm hm2 1 w0 I0 (kf :: cs)).then ?_
 rintro _ _ ⟨⟨u, rfl⟩, d, rfl⟩
 refine Walk.back ?_ d
 generalize hX : Bl m (T i).q = x at *
 generalize hK : S.st x = st at *
 generalize hU : S.va x = va at *
 generalize hlp : (T i).q.tdiv m = lp at *
 generalize hLL : Bx m (T i).q = L at *
 obtain ⟨hx0, hx1, hx3, hx4⟩ := hIx x m
 clear hL
 generalize hqq : (T i).q = q at *
 conv => arg 5; unfold hdGt
 have c1 := I0.cT (by omega)
 have c2 := I0.cS hm
 have c3 : w0.cell? ⟨tb, i * 9 + 6, none⟩ = some (.int .i64 (T i).x) := I0.tcell hi rfl
 have z3 := I0.tfrz hi (i * 9 + 6)
 have I1 := I0.put hi (j := 6) (v := .int .i64 st) (t := { T i with x := st })
 try walk_nrm
 refine Aa z159 ?_
 (refine Bw (by kernel_rfl) size159_4 (by kernel_rfl) (by kernel_rfl) (by kernel_rfl) (by decide) ?_; simp only [List.range, List.range.loop]; repeat (first | (refine cQ ?_) | (refine Be Ah (by rfl) ?_; walk_nrm)))
 refine cDn ?_
 intro rest hr
 (have hfr := Ju tb (i * 9 + 6); refine Ws hfr c3 ?_; clear hfr; try walk_nrm)
 refine hr _ _ ?_
 have s1 := Ai w0 ⟨tb, i * 9 + 6, none⟩ (.int .i64 st)
 have o1 : ∀ y, y ≠ tb -> (w0.setCell ⟨tb, i * 9 + 6, none⟩ (.int .i64 st)).heap[y]? = w0.heap[y]? := fun y hy => Ac _ _ _ _ hy
 have g1 : Got M cb m tb n T (upd T i { T i with x := st }) w0 (w0.setCell ⟨tb, i * 9 + 6, none⟩ (.int .i64 st)) := ⟨⟨by omega, fun y hy hn => o1 y fun e => hn (.inr (.inr (.inl e)))⟩, fun b hb => Bu (t := { T i with x := st }) hi (fun b hb => .inl hb) b hb⟩
 generalize w0.setCell ⟨tb, i * 9 + 6, none⟩ (.int .i64 st) = w1 at *
 clear c1 c2 c3 z3 o1 cs1 cv1
 have k1 : decide (st < L) = false := by simp; omega
 have k2 : decide (L < st) = false := by simp; omega
 have c2 := I1.cS hm
 have cs1 := I1.scell hxm
 rw [hK] at cs1
 try walk_nrm
 refine Aa z159 ?_
 exact Gt rfl rfl func159 rfl (.stop fun d => ⟨_, ⟨rfl, I1.same fun _ _ => rfl, ⟨g1.chg.at d, g1.own⟩⟩, rfl⟩)
theorem get_2 {main : Bool} {i : Nat} (hi : i < n) (hg : good (T i).q) (hm : 0 < m) (hm2 : m <= 65536)  (w0 : World) (I0 : M11 a0 M cb tb tc n m ta S T w0) (hn : n <= 64) (ha0 : a0 <= w0.heap.size) :
  CallW prog main (fun _ => none) 159 #[.pointer (some ⟨M, 0, none⟩), .int .i64 i, .int .i64 2] w0 (fun v w' => v = .tuple #[.int .i64 0, .int .i64 0, .bool false] /\ M11 a0 M cb tb tc n m ta S (upd T i { T i with v := S.va (Bl m (T i).q) }) w' /\ Got M cb m tb n T (upd T i { T i with v := S.va (Bl m (T i).q) }) w0 w') := by
 intro kf cs
 obtain ⟨hi0, hi1, hi3, hi4⟩ := hIx i n
 have ll3 := I0.lt.2.2 (by omega)
 have hxm := Ec hg hm
 have hL := Eb hg m
 have hlb := Dq hg m
 have hw : IntKind.wrap .i64 (2 * (T i).q.tdiv m) = Bx m (T i).q := by rw [IntKind.wrap_i64, hL]; omega
 have cs1 := I0.scell hxm
 have cv1 := I0.vcell hxm
 refine (Lp hi hg hm hm2 2 w0 I0 (kf :: cs)).then ?_
 rintro _ _ ⟨⟨u, rfl⟩, d, rfl⟩
 refine Walk.back ?_ d
 generalize hX : Bl m (T i).q = x at *
 generalize hK : S.st x = st at *
 generalize hU : S.va x = va at *
 generalize hlp : (T i).q.tdiv m = lp at *
 generalize hLL : Bx m (T i).q = L at *
 obtain ⟨hx0, hx1, hx3, hx4⟩ := hIx x m
 clear hL
 generalize hqq : (T i).q = q at *
 conv => arg 5; unfold hdGt
 have c1 := I0.cT (by omega)
 have c2 := I0.cV hm
 have c3 : w0.cell? ⟨tb, i * 9 + 7, none⟩ = some (.int .i64 (T i).v) := I0.tcell hi rfl
 have z3 := I0.tfrz hi (i * 9 + 7)
 have I1 := I0.put hi (j := 7) (v := .int .i64 va) (t := { T i with v := va })
 try walk_nrm
 refine Aa z159 ?_
 (refine Bw (by kernel_rfl) size159_11 (by kernel_rfl) (by kernel_rfl) (by kernel_rfl) (by decide) ?_; simp only [List.range, List.range.loop]; repeat (first | (refine cQ ?_) | (refine Be Ah (by rfl) ?_; walk_nrm)))
 refine cDn ?_
 intro rest hr
 (have hfr := Ju tb (i * 9 + 7); refine Ws hfr c3 ?_; clear hfr; try walk_nrm)
 refine hr _ _ ?_
 have s1 := Ai w0 ⟨tb, i * 9 + 7, none⟩ (.int .i64 va)
 have o1 : ∀ y, y ≠ tb -> (w0.setCell ⟨tb, i * 9 + 7, none⟩ (.int .i64 va)).heap[y]? = w0.heap[y]? := fun y hy => Ac _ _ _ _ hy
 have g1 : Got M cb m tb n T (upd T i { T i with v := va }) w0 (w0.setCell ⟨tb, i * 9 + 7, none⟩ (.int .i64 va)) := ⟨⟨by omega, fun y hy hn => o1 y fun e => hn (.inr (.inr (.inl e)))⟩, fun b hb => Bu (t := { T i with v := va }) hi (fun b hb => .inl hb) b hb⟩
 generalize w0.setCell ⟨tb, i * 9 + 7, none⟩ (.int .i64 va) = w1 at *
 clear c1 c2 c3 z3 o1 cs1 cv1
 try walk_nrm
 refine Aa z159 ?_
 exact Gt rfl rfl func159 rfl (.stop fun d => ⟨_, ⟨rfl, I1.same fun _ _ => rfl, ⟨g1.chg.at d, g1.own⟩⟩, rfl⟩)
theorem get_3e {main : Bool} {i : Nat} (hi : i < n) (hg : good (T i).q) (hm : 0 < m) (hm2 : m <= 65536) (h : S.st (Bl m (T i).q) = (T i).x) (w0 : World) (I0 : M11 a0 M cb tb tc n m ta S T w0) (hn : n <= 64) (ha0 : a0 <= w0.heap.size) :
  Aw prog main (fun _ => none) 159 #[.pointer (some ⟨M, 0, none⟩), .int .i64 i, .int .i64 3] w0 (.tuple #[.int .i64 (T i).v, .int .i64 0, .bool true]) w0 := by
 intro kf cs
 obtain ⟨hi0, hi1, hi3, hi4⟩ := hIx i n
 have ll3 := I0.lt.2.2 (by omega)
 have hxm := Ec hg hm
 have hL := Eb hg m
 have hlb := Dq hg m
 have hw : IntKind.wrap .i64 (2 * (T i).q.tdiv m) = Bx m (T i).q := by rw [IntKind.wrap_i64, hL]; omega
 have cs1 := I0.scell hxm
 have cv1 := I0.vcell hxm
 refine (Lp hi hg hm hm2 3 w0 I0 (kf :: cs)).then ?_
 rintro _ _ ⟨⟨u, rfl⟩, d, rfl⟩
 refine Walk.back ?_ d
 generalize hX : Bl m (T i).q = x at *
 generalize hK : S.st x = st at *
 generalize hU : S.va x = va at *
 generalize hlp : (T i).q.tdiv m = lp at *
 generalize hLL : Bx m (T i).q = L at *
 obtain ⟨hx0, hx1, hx3, hx4⟩ := hIx x m
 clear hL
 generalize hqq : (T i).q = q at *
 conv => arg 5; unfold hdGt
 have c1 := I0.cT (by omega)
 have c2 := I0.cS hm
 have c6 : w0.cell? ⟨tb, i * 9 + 6, none⟩ = some (.int .i64 (T i).x) := I0.tcell hi rfl
 have c7 : w0.cell? ⟨tb, i * 9 + 7, none⟩ = some (.int .i64 (T i).v) := I0.tcell hi rfl
 rw [<- h] at c6
 have k1 : (st == st) = true := by simp
 clear h
 clear I0 cv1
 try walk_nrm
 refine Aa z159 ?_
 (refine Bn (by kernel_rfl) size159_13 (by kernel_rfl) (by kernel_rfl) (by decide) ?_; simp only [List.range, List.range.loop]; repeat (first | (refine cQ ?_) | (refine Be Ah (by rfl) ?_; walk_nrm)))
 refine cDn ?_
 try simp only [k1]
 refine Aa z159 ?_
 exact Gt rfl rfl func159 rfl (.stop fun d => ⟨_, ⟨rfl, d, rfl⟩, rfl⟩)
theorem get_3n {main : Bool} {i : Nat} (hi : i < n) (hg : good (T i).q) (hm : 0 < m) (hm2 : m <= 65536) (h : S.st (Bl m (T i).q) ≠ (T i).x) (w0 : World) (I0 : M11 a0 M cb tb tc n m ta S T w0) (hn : n <= 64) (ha0 : a0 <= w0.heap.size) :
  Aw prog main (fun _ => none) 159 #[.pointer (some ⟨M, 0, none⟩), .int .i64 i, .int .i64 3] w0 (.tuple #[.int .i64 0, .int .i64 10, .bool true]) w0 := by
 intro kf cs
 obtain ⟨hi0, hi1, hi3, hi4⟩ := hIx i n
 have ll3 := I0.lt.2.2 (by omega)
 have hxm := Ec hg hm
 have hL := Eb hg m
 have hlb := Dq hg m
 have hw : IntKind.wrap .i64 (2 * (T i).q.tdiv m) = Bx m (T i).q := by rw [IntKind.wrap_i64, hL]; omega
 have cs1 := I0.scell hxm
 have cv1 := I0.vcell hxm
 refine (Lp hi hg hm hm2 3 w0 I0 (kf :: cs)).then ?_
 rintro _ _ ⟨⟨u, rfl⟩, d, rfl⟩
 refine Walk.back ?_ d
 generalize hX : Bl m (T i).q = x at *
 generalize hK : S.st x = st at *
 generalize hU : S.va x = va at *
 generalize hlp : (T i).q.tdiv m = lp at *
 generalize hLL : Bx m (T i).q = L at *
 obtain ⟨hx0, hx1, hx3, hx4⟩ := hIx x m
 clear hL
 generalize hqq : (T i).q = q at *
 conv => arg 5; unfold hdGt
 have c1 := I0.cT (by omega)
 have c2 := I0.cS hm
 have c6 : w0.cell? ⟨tb, i * 9 + 6, none⟩ = some (.int .i64 (T i).x) := I0.tcell hi rfl
 have c7 : w0.cell? ⟨tb, i * 9 + 7, none⟩ = some (.int .i64 (T i).v) := I0.tcell hi rfl
 generalize (T i).x = xx at *
 have k1 : (st == xx) = false := by simpa using h
 clear h
 clear I0 cv1
 try walk_nrm
 refine Aa z159 ?_
 (refine Bn (by kernel_rfl) size159_13 (by kernel_rfl) (by kernel_rfl) (by decide) ?_; simp only [List.range, List.range.loop]; repeat (first | (refine cQ ?_) | (refine Be Ah (by rfl) ?_; walk_nrm)))
 refine cDn ?_
 try simp only [k1]
 refine Aa z159 ?_
 exact Gt rfl rfl func159 rfl (.stop fun d => ⟨_, ⟨rfl, d, rfl⟩, rfl⟩)
end
end Go.Proofs.Ytflcclneedldoaa
