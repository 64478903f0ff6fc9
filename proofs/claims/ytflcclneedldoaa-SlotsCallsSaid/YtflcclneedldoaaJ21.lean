/- Part 21. -/
import Derived.Test.YtflcclneedldoaaJ19
import Derived.Test.YtflcclneedldoaaJ20
set_option linter.unusedSimpArgs false
set_option linter.unusedVariables false
set_option maxHeartbeats 8000000
set_option maxRecDepth 100000
namespace Go.Proofs.Ytflcclneedldoaa
open Go.Conc Go.RowKit Go.Relay Try
open Go.ConcN (upd upd_ne upd_same)
noncomputable def reg117_0 := rk f117.body 0
theorem size117_0 : reg117_0.size = 20 := by kernel_rfl
noncomputable def reg117_1 := rk f117.body 1
noncomputable def reg117_2 := rk f117.body 2
noncomputable def reg117_3 := rk f117.body 3
noncomputable def reg117_4 := rk f117.body 4
noncomputable def reg117_5 := rk f117.body 5
noncomputable def reg117_6 := rk f117.body 6
noncomputable def reg117_7 := rk f117.body 7
noncomputable def reg117_8 := rk f117.body 8
noncomputable def reg117_9 := rk f117.body 9
noncomputable def reg117_10 := rk f117.body 10
noncomputable def reg117_11 := rk f117.body 11
theorem size117_11 : reg117_11.size = 9 := by kernel_rfl
noncomputable def reg117_12 := rk f117.body 12
noncomputable def reg117_13 := rk f117.body 13
noncomputable def reg117_14 := rk f117.body 14
noncomputable def reg117_15 := rk f117.body 15
noncomputable def reg117_16 := rk f117.body 16
noncomputable def reg117_17 := rk f117.body 17
noncomputable def reg117_18 := rk f117.body 18
noncomputable def reg117_19 := rk f117.body 19
noncomputable def reg117_20 := rk f117.body 20
noncomputable def reg117_21 := rk f117.body 21
noncomputable def reg117_22 := rk f117.body 22
noncomputable def reg117_23 := rk f117.body 23
noncomputable def reg117_24 := rk f117.body 24
noncomputable def reg117_25 := rk f117.body 25
noncomputable def reg117_26 := rk f117.body 26
noncomputable def reg117_27 := rk f117.body 27
noncomputable def reg117_28 := rk f117.body 28
noncomputable def reg117_29 := rk f117.body 29
noncomputable def reg117_30 := rk f117.body 30
noncomputable def reg117_31 := rk f117.body 31
theorem size117_31 : reg117_31.size = 22 := by kernel_rfl
noncomputable def reg117_32 := rk f117.body 32
theorem z117 : reg117_0.size = 20 /\ reg117_1.size = 9 /\ reg117_2.size = 8 /\ reg117_3.size = 9 /\ reg117_4.size = 10 /\ reg117_5.size = 2 /\ reg117_6.size = 2 /\ reg117_7.size = 1 /\ reg117_8.size = 2 /\ reg117_9.size = 10 /\ reg117_10.size = 2 /\ reg117_11.size = 9 /\ reg117_12.size = 2 /\ reg117_13.size = 9 /\ reg117_14.size = 4 /\ reg117_15.size = 2 /\ reg117_16.size = 2 /\ reg117_17.size = 11 /\ reg117_18.size = 10 /\ reg117_19.size = 5 /\ reg117_20.size = 10 /\ reg117_21.size = 5 /\ reg117_22.size = 6 /\ reg117_23.size = 6 /\ reg117_24.size = 2 /\ reg117_25.size = 14 /\ reg117_26.size = 2 /\ reg117_27.size = 8 /\ reg117_28.size = 10 /\ reg117_29.size = 6 /\ reg117_30.size = 10 /\ reg117_31.size = 22 /\ reg117_32.size = 5 := by and_intros <;> kernel_rfl
theorem code117_is : f117.body = some (.seq (.region 0 reg117_0 true) (.seq (.region 1 reg117_1 false) (.seq (.region 2 reg117_2 false) (.seq (.region 3 reg117_3 false) (.seq (.region 4 reg117_4 false) (.seq (.region 5 reg117_5 false) (.block 0 (.seq (.region 6 reg117_6 false) (.cond (.tmp 63 ) (.seq (.region 7 reg117_7 false) (.block 1 (.seq (.region 8 reg117_8 false) (.cond (.tmp 66 ) (.region 9 reg117_9 false) (.seq (.region 10 reg117_10 false) (.cond (.tmp 77 ) (.region 11 reg117_11 true) (.seq (.region 12 reg117_12 false) (.cond (.tmp 87 ) (.seq (.region 13 reg117_13 false) (.region 14 reg117_14 false)) (.skip))))))))) (.seq (.seq (.region 15 reg117_15 false) (.cond (.tmp 101 ) (.skip) (.region 16 reg117_16 false))) (.cond (.tmp 101 ) (.seq (.region 17 reg117_17 false) (.seq (.seq (.region 18 reg117_18 false) (.cond (.tmp 121 ) (.region 19 reg117_19 false) (.skip))) (.seq (.seq (.region 20 reg117_20 false) (.cond (.tmp 136 ) (.region 21 reg117_21 false) (.skip))) (.seq (.region 22 reg117_22 false) (.cond (.tmp 147 ) (.region 23 reg117_23 false) (.skip)))))) (.seq (.region 24 reg117_24 false) (.cond (.tmp 154 ) (.region 25 reg117_25 false) (.seq (.region 26 reg117_26 false) (.cond (.tmp 170 ) (.seq (.region 27 reg117_27 false) (.seq (.seq (.region 28 reg117_28 false) (.cond (.tmp 188 ) (.seq (.region 29 reg117_29 false) (.ret)) (.skip))) (.seq (.region 30 reg117_30 false) (.seq (.region 31 reg117_31 true) (.cond (.tmp 225 ) (.region 32 reg117_32 false) (.skip)))))) (.skip)))))))))))))))) := by kernel_rfl
noncomputable def hdSt11 (M i S : Nat) (q : Int) (x : Nat) (lp : Int) (p : Nat) (kd : Int) (u : Nat -> Value) : Frame :=
 (base 117).at { tmps := #[.pointer (some ⟨M, 0, none⟩), .int .i64 i, u 2, u 3, .pointer (some ⟨S, 0, none⟩), .int .i64 q, .int .i64 x, .int .i64 lp, .int .i64 p, u 9, u 10, u 11, u 12, u 13, u 14, u 15, u 16, u 17, u 18, u 19, u 20, u 21, u 22, u 23, u 24, u 25, u 26, u 27, u 28, u 29, u 30, u 31, u 32, u 33, u 34, u 35, u 36, u 37, u 38, u 39, u 40, u 41, u 42, u 43, u 44, u 45, u 46, u 47, u 48, u 49, u 50, u 51, u 52, u 53, u 54, u 55, u 56, u 57, u 58, u 59, u 60, u 61, .int .i64 kd, .bool (kd == 1), u 64, u 65, u 66, u 67, u 68, u 69, u 70, u 71, u 72, u 73, u 74, u 75, u 76, u 77, u 78, u 79, u 80, u 81, u 82, u 83, u 84, u 85, u 86, u 87, u 88, u 89, u 90, u 91, u 92, u 93, u 94, u 95, u 96, u 97, u 98, u 99, u 100, u 101, u 102, u 103, u 104, u 105, u 106, u 107, u 108, u 109, u 110, u 111, u 112, u 113, u 114, u 115, u 116, u 117, u 118, u 119, u 120, u 121, u 122, u 123, u 124, u 125, u 126, u 127, u 128, u 129, u 130, u 131, u 132, u 133, u 134, u 135, u 136, u 137, u 138, u 139, u 140, u 141, u 142, u 143, u 144, u 145, u 146, u 147, u 148, u 149, u 150, u 151, u 152, u 153, u 154, u 155, u 156, u 157, u 158, u 159, u 160, u 161, u 162, u 163, u 164, u 165, u 166, u 167, u 168, u 169, u 170, u 171, u 172, u 173, u 174, u 175, u 176, u 177, u 178, u 179, u 180, u 181, u 182, u 183, u 184, u 185, u 186, u 187, u 188, u 189, u 190, u 191, u 192, u 193, u 194, u 195, u 196, u 197, u 198, u 199, u 200, u 201, u 202, u 203, u 204, u 205, u 206, u 207, u 208, u 209, u 210, u 211, u 212, u 213, u 214, u 215, u 216, u 217, u 218, u 219, u 220, u 221, u 222, u 223, u 224, u 225, u 226, u 227, u 228, u 229, u 230], defers := [] } [.code (.cond (.tmp 63 ) (.seq (.region 7 reg117_7 false) (.block 1 (.seq (.region 8 reg117_8 false) (.cond (.tmp 66 ) (.region 9 reg117_9 false) (.seq (.region 10 reg117_10 false) (.cond (.tmp 77 ) (.region 11 reg117_11 true) (.seq (.region 12 reg117_12 false) (.cond (.tmp 87 ) (.seq (.region 13 reg117_13 false) (.region 14 reg117_14 false)) (.skip))))))))) (.seq (.seq (.region 15 reg117_15 false) (.cond (.tmp 101 ) (.skip) (.region 16 reg117_16 false))) (.cond (.tmp 101 ) (.seq (.region 17 reg117_17 false) (.seq (.seq (.region 18 reg117_18 false) (.cond (.tmp 121 ) (.region 19 reg117_19 false) (.skip))) (.seq (.seq (.region 20 reg117_20 false) (.cond (.tmp 136 ) (.region 21 reg117_21 false) (.skip))) (.seq (.region 22 reg117_22 false) (.cond (.tmp 147 ) (.region 23 reg117_23 false) (.skip)))))) (.seq (.region 24 reg117_24 false) (.cond (.tmp 154 ) (.region 25 reg117_25 false) (.seq (.region 26 reg117_26 false) (.cond (.tmp 170 ) (.seq (.region 27 reg117_27 false) (.seq (.seq (.region 28 reg117_28 false) (.cond (.tmp 188 ) (.seq (.region 29 reg117_29 false) (.ret)) (.skip))) (.seq (.region 30 reg117_30 false) (.seq (.region 31 reg117_31 true) (.cond (.tmp 225 ) (.region 32 reg117_32 false) (.skip)))))) (.skip)))))))), .inBlock 0]
def zOp : Obj := .cells #[.int .i64 0, .int .i64 0, .int .i64 0, .int .i64 0] 45
section
variable {a0 M tb tc n m : Nat} {cb : CB} {ta : Option Addr} {Sx : Rg} {T : Nat -> R11} {main : Bool}
structure StepI11 (a0 M : Nat) (cb : CB) (tb tc n m : Nat) (ta : Option Addr) (Sx : Rg) (T : Nat -> R11) (i p S : Nat) (o : OpV) (w w' : World) : Prop where
 I : M11 a0 M cb tb tc n m ta Sx (upd T i { T i with pc := (p : Int) + 1 }) w'
 got : Got M cb m tb n T (upd T i { T i with pc := (p : Int) + 1 }) w w'
 op : w'.heap[S]? = some (.cells #[.int .i64 o.k, .int .i64 o.a, .int .i64 o.b, .int .i64 o.c] 45)
 lo : w.heap.size = S
theorem step11_in {i p : Nat} (hi : i < n) (o : OpV) (w : World) (I : M11 a0 M cb tb tc n m ta Sx T w) (hm0 : 0 < m) (hm : m <= 65536) (hg : good (T i).q) (hpc : (T i).pc = (p : Int)) (hk : p <= 1000) (ho : (T i).ops[(T i).at']? = some o) (hat : (T i).ops.length <= 65536) (cs : List Frame) :
  Walk prog main (DR (fun _ => none)) (fun g w' => (∃ u, g = G (hdSt11 M i w.heap.size (T i).q (Bl m (T i).q) ((T i).q.tdiv m) p o.k u) cs) /\ StepI11 a0 M cb tb tc n m ta Sx T i p w.heap.size o w w') (G (Frame.enter prog 117 #[.pointer (some ⟨M, 0, none⟩), .int .i64 i] .normal) cs) w := by
 obtain ⟨hi0, hi1, hi3, hi4⟩ := hIx i n
 have hlt := (lEs ho).1
 have hw3 := wI ((p : Int) + 1)
 obtain ⟨fsO, huO⟩ := Ci 45 (by kernel_rfl)
 obtain ⟨g, off, oc, hov, _, hgl, hop⟩ := (I.rows i hi).op ho
 have c0 := I.cT (by omega)
 have c1 : w.cell? ⟨tb, i * 9 + 3, none⟩ = some (.int .i64 (T i).at') := I.tcell hi rfl
 have c2 : w.cell? ⟨tb, i * 9, none⟩ = some (T i).ov := I.tcell hi (j := 0) rfl
 rw [hov] at c2
 have hO1 : ∀ x, x < w.heap.size -> (w.alloc zOp).heap[x]? = w.heap[x]? := fun x hx => Ad _ _ hx
 have I0 := I.same hO1
 have s0 : (w.alloc zOp).heap.size = w.heap.size + 1 := by simp
 have e0 := Aj _ zOp c0
 have e1 := Aj _ zOp c1
 have e2 := Aj _ zOp c2
 have hop' : ∀ (j : Nat) (v : Value), ([.int .i64 o.k, .int .i64 o.a, .int .i64 o.b, .int .i64 o.c] : List Value)[j]? = some v -> (w.alloc zOp).cell? ⟨g, off + (T i).at' * 4 + j, none⟩ = some v := fun j v hv => Aj _ zOp (hop j v hv)
 generalize hln : (T i).ops.length = ln at *
 generalize hatk : (T i).at' = q at *
 obtain ⟨hk0, hk1, hk3, hk4⟩ := hIx q ln
 rw [enter_at _ func117 code117_is]
 simp only [ntmps117, ez, Nat.reduceAdd, Nat.reduceSub]
 refine Aa z117 ?_
 refine Walk.drawnB (w1 := w.alloc (zOp)) (vm := .pointer (some ⟨w.heap.size, 0, none⟩)) (by kernel_rfl) size117_0 (by kernel_rfl) (by kernel_rfl) (by kernel_rfl) (by decide) Ah ?_ ?_
 ·intro x rest hr
  (refine Wa ?_; try walk_nrm)
  exact hr _ _ ⟨rfl, _, rfl⟩
 simp only [List.range, List.range.loop]
 repeat (first | (refine Cm.opqB Ah (by rfl) (fun dd e he => ?_) (fun dd e he => ?_) ?_; (· (simp [go_sem, *] at he; try (subst he; exact Da _ _))); (· (simp [go_sem, *] at he; try (subst he; exact Da _ _))); apply Exists.intro; apply And.intro; (· (intro dd K hK; go_simp; exact hK)); apply And.intro; (· (intro dd K hK; go_simp; exact hK))) | (refine Be Ah (by rfl) ?_; walk_nrm))
 refine Cm.loadS 45 (.tmp 28) Ah (by rfl) rfl g (off + q * 4) [.int .i64 o.k, .int .i64 o.a, .int .i64 o.b, .int .i64 o.c] (.struct fsO) rfl (fun x hx => by rcases hx with rfl | rfl; exact hop; exact hop') huO rfl (by kernel_rfl) ?_
 clear c0 c1 c2 e0 e1 e2 hop hop'
 walk_nrm
 refine cDn ?_
 intro rest hr
 have d0 := hAw w zOp
 generalize hS : w.heap.size = S at *
 generalize w.alloc zOp = w0 at *
 unfold zOp at d0
 refine Am 45 (.tmp 4) (.tmp 29) Ah (by rfl) (by decide) rfl S #[.int .i64 o.k, .int .i64 o.a, .int .i64 o.b, .int .i64 o.c] _ 45 rfl rfl d0 (by kernel_rfl) (by rfl) (by simp [Value.oneCell']) (Ov _) ?_
 have d1 := Ba (cells := #[.int .i64 o.k, .int .i64 o.a, .int .i64 o.b, .int .i64 o.c]) d0
 have o1 : ∀ x, x < S -> (w0.setRow S #[.int .i64 o.k, .int .i64 o.a, .int .i64 o.b, .int .i64 o.c]).heap[x]? = w.heap[x]? := fun x hx => (Ap _ _ (by omega)).trans (hO1 x hx)
 have s1 := Ay w0 S #[.int .i64 o.k, .int .i64 o.a, .int .i64 o.b, .int .i64 o.c]
 refine hr _ _ ?_
 generalize w0.setRow S #[.int .i64 o.k, .int .i64 o.a, .int .i64 o.b, .int .i64 o.c] = w1 at *
 have I1 : M11 a0 M cb tb tc n m ta Sx T w1 := I.same fun x hx => o1 x (by omega)
 clear I0 d0 hO1
 have c0 := I1.cT (by omega)
 have c5 : w1.cell? ⟨tb, i * 9 + 5, none⟩ = some (.int .i64 (T i).q) := I1.tcell hi rfl
 have hsl := Ka (main := main) (V := fun _ => none) (T i).q hg hm0 hm w1 I1
 have hla := Qa (main := main) (V := fun _ => none) (T i).q hg hm0 hm w1 I1
 have c2 : w1.cell? ⟨tb, i * 9 + 4, none⟩ = some (.int .i64 (T i).pc) := I1.tcell hi rfl
 have z2 := I1.tfrz hi (i * 9 + 4)
 rw [hpc] at c2
 have I2 := I1.put hi (j := 4) (v := .int .i64 ((p : Int) + 1)) (t := { T i with pc := (p : Int) + 1 })
 obtain ⟨x, hX⟩ : ∃ x, Bl m (T i).q = x := ⟨_, rfl⟩
 obtain ⟨lp, hLp⟩ : ∃ lp, (T i).q.tdiv m = lp := ⟨_, rfl⟩
 rw [hX] at hsl ⊢
 rw [hLp] at hla ⊢
 clear hX hLp
 try walk_nrm
 refine Aa z117 ?_
 refine qV (x := .int .i64 (x : Nat)) (W := w1) func115 ?_ ?_
 ·walk_nrm
  exact hsl
 walk_nrm
 refine Aa z117 ?_
 refine qV (x := .int .i64 lp) (W := w1) func114 ?_ ?_
 ·walk_nrm
  exact hla
 clear hsl hla
 walk_nrm
 refine Aa z117 ?_
 (have hfr := Ju tb (i * 9 + 4); refine Ws hfr c2 ?_; clear hfr; try walk_nrm)
 have d2 : (w1.setCell ⟨tb, i * 9 + 4, none⟩ (.int .i64 ((p : Int) + 1))).heap[S]? = some (.cells #[.int .i64 o.k, .int .i64 o.a, .int .i64 o.b, .int .i64 o.c] 45) := (Ac _ _ _ _ (by have := I.lt.2.2 (by omega); show S ≠ tb; omega)).trans d1
 have s2 := Ai w1 ⟨tb, i * 9 + 4, none⟩ (.int .i64 ((p : Int) + 1))
 have o2 : ∀ x, x ≠ tb -> (w1.setCell ⟨tb, i * 9 + 4, none⟩ (.int .i64 ((p : Int) + 1))).heap[x]? = w1.heap[x]? := fun x hx => Ac _ _ _ _ hx
 generalize w1.setCell ⟨tb, i * 9 + 4, none⟩ (.int .i64 ((p : Int) + 1)) = w2 at *
 clear c0 c2 c5 z2
 have c0 := (Ab d2 0).trans rfl
 try walk_nrm
 refine Aa z117 ?_
 refine .stop fun d => ⟨Ak ?_, I2.same fun _ _ => rfl, ⟨⟨?_, fun x hx hn => ?_⟩, fun b hb => Bu hi (t := { T i with pc := (p : Int) + 1 }) (fun b hb => .inl hb) b hb⟩, d2, hS⟩
 ·simp only [hdSt11]
  rfl
 ·show w.heap.size <= w2.heap.size
  omega
 ·show w2.heap[x]? = w.heap[x]?
  exact (o2 x fun e => hn (.inr (.inr (.inl e)))).trans (o1 x (by omega))
end
def R11.take (t : R11) : R11 := { t with live := False, ownA := fun b => t.ownA b ∨ t.sv.ownBlock = some b }
theorem Nh {t : R11} (hl : t.live) (b : Nat) : t.take.own b ↔ t.own b := by
 unfold R11.take R11.own
 constructor
 ·rintro ((h | h) | ⟨h, _⟩)
  ·exact .inl h
  ·exact .inr ⟨hl, h⟩
  ·exact h.elim
 ·rintro (h | ⟨_, h⟩)
  ·exact .inl (.inl h)
  ·exact .inl (.inr h)
theorem R11.Rows.take {t : R11} {a0 : Nat} {w : World} (h : t.Rows a0 w) (hl : t.live) : t.take.Rows a0 w :=
 ⟨h.rO, h.rA.imp fun b hb => .inl hb, fun h => h.elim, fun h => h.elim, fun b hb => h.low ((Nh hl b).1 (.inl hb))⟩
theorem R11.Rows.taken {t : R11} {a0 : Nat} {w : World} (h : t.Rows a0 w) (hl : t.live) (hn : t.seen.length <= 1048576) : LsAt a0 t.take.ownA t.sv t.seen w := by
 have hr := h.rS hl
 have hf : ∃ a c, t.sv = .slice a t.seen.length c := by
  rcases hr.2 with ⟨e, h0⟩ | ⟨g, cap, cur, e, _⟩
  ·exact ⟨none, 0, by rw [e, h0]⟩
  ·exact ⟨_, _, e⟩
 obtain ⟨a, c, e⟩ := hf
 exact ⟨a, c, e, hn, fun _ => ⟨hr, fun b hb => .inr hb⟩⟩
theorem M11.take {a0 M tb tc n m : Nat} {cb : CB} {ta : Option Addr} {S : Rg} {T : Nat -> R11} {w : World} (I : M11 a0 M cb tb tc n m ta S T w) {i : Nat} (hi : i < n) (hl : (T i).live) : M11 a0 M cb tb tc n m ta S (upd T i (T i).take) w := by
 have hown : ∀ k b, (upd T i (T i).take k).own b ↔ (T k).own b := fun k b => by
  by_cases e : k = i
  ·subst e; rw [upd_same]; exact Nh hl b
  ·rw [upd_ne _ _ e]
 refine ⟨I.hd, I.cs, fun hn => ?_, fun k hk => ?_, fun k hk b hb => ?_, I.base⟩
 ·obtain ⟨e, arr, h1, h2, h3, h4, h5⟩ := I.ts hn
  refine ⟨e, arr, h1, h2, h3, h4, fun k hk j v hv => h5 k hk j v ?_⟩
  by_cases e : k = i
  ·subst e; rw [upd_same] at hv; exact hv
  ·rw [upd_ne _ _ e] at hv; exact hv
 ·by_cases e : k = i
  ·subst e; rw [upd_same]; exact (I.rows k hk).take hl
  ·rw [upd_ne _ _ e]; exact I.rows k hk
 ·obtain ⟨e1, e2, e3, e4⟩ := I.far k hk b ((hown k b).1 hb)
  exact ⟨e1, e2, e3, fun q hq hqk h => e4 q hq hqk ((hown q b).1 h)⟩
theorem Got.take {M m tb n : Nat} {cb : CB} {T : Nat -> R11} {w : World} {i : Nat} (hi : i < n) (hl : (T i).live) : Got M cb m tb n T (upd T i (T i).take) w w :=
 ⟨Chg.refl, fun b hb => Bu (s := w.heap.size) hi (fun b hb => .inl ((Nh hl b).1 hb)) b hb⟩
def Qc (x : Int) : Obj := .cells #[.int .i64 x] 2
structure AppI (a0 : Nat) (w1 : World) (x : Int) (hd : Value) (l : List Int) (gb gcap : Nat) (w3 : World) : Prop where
 own : w3.ownsRow a0 2 1 (.slice (some ⟨gb, 0, none⟩) (l.length + 1) gcap) (l.length + 1) (Bg l ++ [.int .i64 x])
 grown : (w1.alloc (Qc x)).grownBy w3 hd.ownBlock
 hat : hd.ownBlock = some gb ∨ gb = (w1.alloc (Qc x)).heap.size
 hlt : gb < w3.heap.size
noncomputable def reg160_0 := rk f160.body 0
noncomputable def reg160_1 := rk f160.body 1
noncomputable def reg160_2 := rk f160.body 2
noncomputable def reg160_3 := rk f160.body 3
noncomputable def reg160_4 := rk f160.body 4
theorem size160_4 : reg160_4.size = 19 := by kernel_rfl
noncomputable def reg160_5 := rk f160.body 5
noncomputable def reg160_6 := rk f160.body 6
noncomputable def reg160_7 := rk f160.body 7
noncomputable def reg160_8 := rk f160.body 8
theorem size160_8 : reg160_8.size = 17 := by kernel_rfl
noncomputable def reg160_9 := rk f160.body 9
noncomputable def reg160_10 := rk f160.body 10
noncomputable def reg160_11 := rk f160.body 11
theorem z160 : reg160_0.size = 1 /\ reg160_1.size = 14 /\ reg160_2.size = 5 /\ reg160_3.size = 2 /\ reg160_4.size = 19 /\ reg160_5.size = 10 /\ reg160_6.size = 16 /\ reg160_7.size = 12 /\ reg160_8.size = 17 /\ reg160_9.size = 8 /\ reg160_10.size = 10 /\ reg160_11.size = 12 := by and_intros <;> kernel_rfl
theorem code160_is : f160.body = some (.seq (.region 0 reg160_0 false) (.seq (.seq (.region 1 reg160_1 false) (.cond (.tmp 24 ) (.seq (.region 2 reg160_2 false) (.ret)) (.skip))) (.seq (.seq (.region 3 reg160_3 false) (.cond (.tmp 31 ) (.region 4 reg160_4 true) (.skip))) (.seq (.region 5 reg160_5 false) (.seq (.seq (.region 6 reg160_6 false) (.cond (.tmp 74 ) (.seq (.region 7 reg160_7 false) (.ret)) (.skip))) (.seq (.region 8 reg160_8 true) (.seq (.region 9 reg160_9 false) (.seq (.region 10 reg160_10 false) (.cond (.tmp 119 ) (.region 11 reg160_11 false) (.skip)))))))))) := by kernel_rfl
section
variable {a0 M tb tc n m : Nat} {cb : CB} {ta : Option Addr} {Sx : Rg} {T : Nat -> R11} {main : Bool}
theorem Got.put {i : Nat} {w0 : World} {b q : Nat} {v : Value} (hb : cI m cb b) : Got M cb m tb n T T w0 (w0.setCell ⟨b, q, none⟩ v) :=
 ⟨⟨by rw [Ai]; exact Nat.le_refl _, fun y hy hn => Ac _ _ _ _ (fun e => hn (.inr (.inl (e ▸ hb))))⟩, fun _ h => .inl h⟩
theorem stp_p1 {i Sb x : Nat} (hi : i < n) (q lp : Int) (hx : x < m) (L : Int) (hL : IntKind.i64.wrap (2 * lp) = L) (hLb : 0 <= L /\ L < 9223372036854775807)  (w0 : World) (I0 : M11 a0 M cb tb tc n m ta Sx T w0) (hn : n <= 64) (ha0 : a0 <= w0.heap.size) (u : Nat -> Value) (fr : Frame) (cs : List Frame) :
  Walk prog main (DR (fun _ => none)) (fun g w' => g = G (fr.finish (.tuple #[])) cs /\ M11 a0 M cb tb tc n m ta (Cj Sx x (L - 1)) T w' /\ Got M cb m tb n T T w0 w') (G (hdSt11 M i Sb q x lp 1 1 u) (fr :: cs)) w0 := by
 obtain ⟨hi0, hi1, hi3, hi4⟩ := hIx i n
 obtain ⟨hx0, hx1, hx3, hx4⟩ := hIx x m
 have hm0 : 0 < m := by omega
 have hL1 : IntKind.wrap .i64 (L - 1) = L - 1 := by rw [IntKind.wrap_i64]; omega
 have c2 := I0.cS hm0
 have c3 := I0.scell hx
 have z3 := I0.sfrz hm0 x
 have I1 := I0.putS hx (L - 1)
 have g1 : Got M cb m tb n T T w0 (w0.setCell ⟨cb.sg, x, none⟩ (.int .i64 (L - 1))) := Got.put (i := i) ⟨hm0, .inl rfl⟩
 have s1 := Ai w0 ⟨cb.sg, x, none⟩ (.int .i64 (L - 1))
 conv => arg 5; unfold hdSt11
 refine Aa z117 ?_
 (have hfr := Ju cb.sg x; refine Ws hfr c3 ?_; clear hfr; try walk_nrm)
 generalize w0.setCell ⟨cb.sg, x, none⟩ (.int .i64 (L - 1)) = w1 at *
 clear c2 c3 z3
 try walk_nrm
 refine Aa z117 ?_
 exact Au rfl rfl func117 rfl (.stop fun d => ⟨rfl, I1.same fun _ _ => rfl, ⟨g1.chg.at d, g1.own⟩⟩)
theorem stp_p2 {i Sb x : Nat} (hi : i < n) (q lp : Int) (hx : x < m) (L : Int) (hL : IntKind.i64.wrap (2 * lp) = L) (hLb : 0 <= L /\ L < 9223372036854775807) (k oa ob oc : Int) (w0 : World) (hop : w0.heap[Sb]? = some (.cells #[.int .i64 k, .int .i64 oa, .int .i64 ob, .int .i64 oc] 45)) (I0 : M11 a0 M cb tb tc n m ta Sx T w0) (hn : n <= 64) (ha0 : a0 <= w0.heap.size) (u : Nat -> Value) (fr : Frame) (cs : List Frame) :
  Walk prog main (DR (fun _ => none)) (fun g w' => g = G (fr.finish (.tuple #[])) cs /\ M11 a0 M cb tb tc n m ta (Fa Sx x ob) T w' /\ Got M cb m tb n T T w0 w') (G (hdSt11 M i Sb q x lp 2 1 u) (fr :: cs)) w0 := by
 obtain ⟨hi0, hi1, hi3, hi4⟩ := hIx i n
 obtain ⟨hx0, hx1, hx3, hx4⟩ := hIx x m
 have hm0 : 0 < m := by omega
 have b2 := (Ab hop 2).trans rfl
 have c2 := I0.cV hm0
 have c3 := I0.vcell hx
 have z3 := I0.vfrz hm0 x
 have I1 := I0.putV hx (ob)
 have g1 : Got M cb m tb n T T w0 (w0.setCell ⟨cb.vg, x, none⟩ (.int .i64 (ob))) := Got.put (i := i) ⟨hm0, .inr rfl⟩
 have s1 := Ai w0 ⟨cb.vg, x, none⟩ (.int .i64 (ob))
 conv => arg 5; unfold hdSt11
 refine Aa z117 ?_
 (refine Bw (by kernel_rfl) size117_11 (by kernel_rfl) (by kernel_rfl) (by kernel_rfl) (by decide) ?_; simp only [List.range, List.range.loop]; repeat (first | (refine cQ ?_) | (refine Be Ah (by rfl) ?_; walk_nrm)))
 refine cDn ?_
 intro rest hr
 (have hfr := Ju cb.vg x; refine Ws hfr c3 ?_; clear hfr; try walk_nrm)
 refine hr _ _ ?_
 generalize w0.setCell ⟨cb.vg, x, none⟩ (.int .i64 (ob)) = w1 at *
 clear c2 c3 z3
 try walk_nrm
 refine Aa z117 ?_
 exact Au rfl rfl func117 rfl (.stop fun d => ⟨rfl, I1.same fun _ _ => rfl, ⟨g1.chg.at d, g1.own⟩⟩)
theorem stp_p3 {i Sb x : Nat} (hi : i < n) (q lp : Int) (hx : x < m) (L : Int) (hL : IntKind.i64.wrap (2 * lp) = L) (hLb : 0 <= L /\ L < 9223372036854775807) (hl : (T i).ans.length <= 65536) (hat : (T i).at' <= 65536) (w0 : World) (I0 : M11 a0 M cb tb tc n m ta Sx T w0) (hn : n <= 64) (ha0 : a0 <= w0.heap.size) (u : Nat -> Value) (fr : Frame) (cs : List Frame) :
  Walk prog main (DR (fun _ => none)) (fun g w' => g = G (fr.finish (.tuple #[])) cs /\ ∃ av oA, M11 a0 M cb tb tc n m ta (Cj Sx x L) (upd T i ((T i).told ⟨true, 0, []⟩ av oA)) w' /\ Got M cb m tb n T (upd T i ((T i).told ⟨true, 0, []⟩ av oA)) w0 w') (G (hdSt11 M i Sb q x lp 3 1 u) (fr :: cs)) w0 := by
 obtain ⟨hi0, hi1, hi3, hi4⟩ := hIx i n
 obtain ⟨hx0, hx1, hx3, hx4⟩ := hIx x m
 have hm0 : 0 < m := by omega
 have c2 := I0.cS hm0
 have c3 := I0.scell hx
 have z3 := I0.sfrz hm0 x
 have I1 := I0.putS hx (L)
 have g1 : Got M cb m tb n T T w0 (w0.setCell ⟨cb.sg, x, none⟩ (.int .i64 (L))) := Got.put (i := i) ⟨hm0, .inl rfl⟩
 have s1 := Ai w0 ⟨cb.sg, x, none⟩ (.int .i64 (L))
 conv => arg 5; unfold hdSt11
 refine Aa z117 ?_
 (have hfr := Ju cb.sg x; refine Ws hfr c3 ?_; clear hfr; try walk_nrm)
 generalize w0.setCell ⟨cb.sg, x, none⟩ (.int .i64 (L)) = w1 at *
 clear c2 c3 z3
 have he := Oq (main := main) hi ⟨true, 0, []⟩ (.slice none 0 0) w1 (LsAt.nil _ _ _) I1 hn (by omega) hl hat
 try simp only [upd_same, An] at he
 simp only [Bo] at he
 clear I1
 try walk_nrm
 refine Aa z117 ?_
 refine qW (Post := Told11 a0 M cb tb tc n m ta (Cj Sx x L) T T i (T i) ⟨true, 0, []⟩ w1) func158 ?_ ?_
 ·walk_nrm
  exact he
 intro vv w9 h9
 obtain rfl := h9.1
 walk_nrm
 refine Aa z117 ?_
 exact Au rfl rfl func117 rfl (.stop fun d => ⟨rfl, (h9.by g1 d).2⟩)
theorem stp_t {i Sb x : Nat} (hi : i < n) (q lp : Int) (hx : x < m) (p : Nat) (L : Int) (hL : IntKind.i64.wrap (2 * lp) = L) (hLb : 0 <= L /\ L < 9223372036854775807) (hl : (T i).ans.length <= 65536) (hat : (T i).at' <= 65536) (w0 : World) (I0 : M11 a0 M cb tb tc n m ta Sx T w0) (hn : n <= 64) (ha0 : a0 <= w0.heap.size) (u : Nat -> Value) (fr : Frame) (cs : List Frame) :
  Walk prog main (DR (fun _ => none)) (fun g w' => g = G (fr.finish (.tuple #[])) cs /\ ∃ av oA, M11 a0 M cb tb tc n m ta Sx (upd T i ((T i).told ⟨Sx.st x == L, 0, []⟩ av oA)) w' /\ Got M cb m tb n T (upd T i ((T i).told ⟨Sx.st x == L, 0, []⟩ av oA)) w0 w') (G (hdSt11 M i Sb q x lp p 3 u) (fr :: cs)) w0 := by
 obtain ⟨hi0, hi1, hi3, hi4⟩ := hIx i n
 obtain ⟨hx0, hx1, hx3, hx4⟩ := hIx x m
 have hm0 : 0 < m := by omega
 have c2 := I0.cS hm0
 have c3 := I0.scell hx
 have he := Oq (main := main) hi ⟨Sx.st x == L, 0, []⟩ (.slice none 0 0) w0 (LsAt.nil _ _ _) I0 hn (by omega) hl hat
 try simp only [upd_same, An] at he
 simp only [Bo] at he
 generalize Sx.st x = st at *
 conv => arg 5; unfold hdSt11
 try walk_nrm
 refine Aa z117 ?_
 refine qW (Post := Told11 a0 M cb tb tc n m ta Sx T T i (T i) ⟨st == L, 0, []⟩ w0) func158 ?_ ?_
 ·walk_nrm
  exact he
 intro vv w9 h9
 obtain rfl := h9.1
 walk_nrm
 refine Aa z117 ?_
 exact Au rfl rfl func117 rfl (.stop fun d => ⟨rfl, (h9.by Got.refl d).2⟩)
theorem stp_h0 {i Sb x : Nat} (hi : i < n) (q lp : Int) (hx : x < m) (p : Nat) (L : Int) (hL : IntKind.i64.wrap (2 * lp) = L) (hLb : 0 <= L /\ L < 9223372036854775807) (hq0 : 0 <= q) (hq1 : q < 4611686018427387904) (h : Sx.st x ≠ L) (hl : (T i).ans.length <= 65536) (hat : (T i).at' <= 65536) (k oa ob oc : Int) (w0 : World) (hop : w0.heap[Sb]? = some (.cells #[.int .i64 k, .int .i64 oa, .int .i64 ob, .int .i64 oc] 45)) (hSb : tb < Sb) (I0 : M11 a0 M cb tb tc n m ta Sx T w0) (hn : n <= 64) (ha0 : a0 <= w0.heap.size) (u : Nat -> Value) (fr : Frame) (cs : List Frame) :
  Walk prog main (DR (fun _ => none)) (fun g w' => g = G (fr.finish (.tuple #[])) cs /\ ∃ av oA, M11 a0 M cb tb tc n m ta Sx (upd T i (({ T i with pc := 1 }).told ⟨true, q - 1, []⟩ av oA)) w' /\ Got M cb m tb n T (upd T i (({ T i with pc := 1 }).told ⟨true, q - 1, []⟩ av oA)) w0 w') (G (hdSt11 M i Sb q x lp p 4 u) (fr :: cs)) w0 := by
 obtain ⟨hi0, hi1, hi3, hi4⟩ := hIx i n
 obtain ⟨hx0, hx1, hx3, hx4⟩ := hIx x m
 have hm0 : 0 < m := by omega
 have ll3 := I0.lt.2.2 (by omega)
 have c1 := I0.cT (by omega)
 have c4 : w0.cell? ⟨tb, i * 9 + 4, none⟩ = some (.int .i64 (T i).pc) := I0.tcell hi rfl
 have z4 := I0.tfrz hi (i * 9 + 4)
 have I1 := I0.put hi (j := 4) (v := .int .i64 1) (t := { T i with pc := 1 })
 have o1 : ∀ y, y ≠ tb -> (w0.setCell ⟨tb, i * 9 + 4, none⟩ (.int .i64 1)).heap[y]? = w0.heap[y]? := fun y hy => Ac _ _ _ _ hy
 have g1 : Got M cb m tb n T (upd T i { T i with pc := 1 }) w0 (w0.setCell ⟨tb, i * 9 + 4, none⟩ (.int .i64 1)) := ⟨⟨by rw [Ai]; exact Nat.le_refl _, fun y hy hn => o1 y fun e => hn (.inr (.inr (.inl e)))⟩, fun b hb => Bu (t := { T i with pc := 1 }) hi (fun b hb => .inl hb) b hb⟩
 have s1 := Ai w0 ⟨tb, i * 9 + 4, none⟩ (.int .i64 1)
 have hop1 := (o1 Sb (by omega)).trans hop
 conv => arg 5; unfold hdSt11
 refine Aa z117 ?_
 (have hfr := Ju tb (i * 9 + 4); refine Ws hfr c4 ?_; clear hfr; try walk_nrm)
 generalize w0.setCell ⟨tb, i * 9 + 4, none⟩ (.int .i64 1) = w1 at *
 clear c1 c4 z4 o1
 have c2 := I1.cS hm0
 have c3 := I1.scell hx
 generalize hst : Sx.st x = st at *
 have kn : (st != L) = true := by simpa using h
 have hq2 : IntKind.wrap .i64 (q - 1) = q - 1 := by rw [IntKind.wrap_i64]; omega
 have he := Oq (main := main) hi ⟨true, q - 1, []⟩ (.slice none 0 0) w1 (LsAt.nil _ _ _) I1 hn (by omega) (by rw [upd_same]; exact hl) (by rw [upd_same]; exact hat)
 simp only [upd_same, An] at he
 simp only [Bo] at he
 clear I1
 try walk_nrm
 refine Aa z117 ?_
 refine qW (Post := Told11 a0 M cb tb tc n m ta Sx (upd T i { T i with pc := 1 }) T i ({ T i with pc := 1 }) ⟨true, q - 1, []⟩ w1) func158 ?_ ?_
 ·walk_nrm
  exact he
 intro vv w9 h9
 obtain rfl := h9.1
 walk_nrm
 refine Aa z117 ?_
 exact Au rfl rfl func117 rfl (.stop fun d => ⟨rfl, (h9.by g1 d).2⟩)
end
noncomputable def hdH4 (M i Sb : Nat) (q : Int) (u : Nat -> Value) : Frame :=
 (base 117).at { tmps := #[.pointer (some ⟨M, 0, none⟩), .int .i64 i, u 2, u 3, .pointer (some ⟨Sb, 0, none⟩), .int .i64 q, u 6, u 7, u 8, u 9, u 10, u 11, u 12, u 13, u 14, u 15, u 16, u 17, u 18, u 19, u 20, u 21, u 22, u 23, u 24, u 25, u 26, u 27, u 28, u 29, u 30, u 31, u 32, u 33, u 34, u 35, u 36, u 37, u 38, u 39, u 40, u 41, u 42, u 43, u 44, u 45, u 46, u 47, u 48, u 49, u 50, u 51, u 52, u 53, u 54, u 55, u 56, u 57, u 58, u 59, u 60, u 61, u 62, u 63, u 64, u 65, u 66, u 67, u 68, u 69, u 70, u 71, u 72, u 73, u 74, u 75, u 76, u 77, u 78, u 79, u 80, u 81, u 82, u 83, u 84, u 85, u 86, u 87, u 88, u 89, u 90, u 91, u 92, u 93, u 94, u 95, u 96, u 97, u 98, u 99, u 100, u 101, u 102, u 103, u 104, u 105, u 106, u 107, u 108, u 109, u 110, u 111, u 112, u 113, u 114, u 115, u 116, u 117, u 118, u 119, u 120, u 121, u 122, u 123, u 124, u 125, u 126, u 127, u 128, u 129, u 130, u 131, u 132, u 133, u 134, u 135, u 136, u 137, u 138, u 139, u 140, u 141, u 142, u 143, u 144, u 145, u 146, u 147, u 148, u 149, u 150, u 151, u 152, u 153, u 154, u 155, u 156, u 157, u 158, u 159, u 160, u 161, u 162, u 163, u 164, u 165, u 166, u 167, u 168, u 169, u 170, u 171, u 172, u 173, u 174, u 175, u 176, u 177, u 178, u 179, u 180, u 181, u 182, u 183, u 184, u 185, u 186, u 187, u 188, u 189, u 190, u 191, u 192, u 193, u 194, u 195, u 196, u 197, u 198, u 199, u 200, u 201, u 202, u 203, u 204, u 205, u 206, u 207, u 208, u 209, u 210, u 211, u 212, u 213, u 214, u 215, u 216, u 217, u 218, u 219, u 220, u 221, u 222, u 223, u 224, u 225, u 226, u 227, u 228, u 229, u 230], defers := [] } [.code (.seq (.region 31 reg117_31 true) (.cond (.tmp 225 ) (.region 32 reg117_32 false) (.skip))), .inBlock 0]
section
variable {a0 M tb tc n m : Nat} {cb : CB} {ta : Option Addr} {Sx : Rg} {T : Nat -> R11} {main : Bool}
theorem Mn {i Sb x : Nat} (hi : i < n) (q lp : Int) (hx : x < m) (p : Nat) (L : Int) (hL : IntKind.i64.wrap (2 * lp) = L) (hLb : 0 <= L /\ L < 9223372036854775807) (hq0 : 0 <= q) (hq1 : q < 4611686018427387904) (h : Sx.st x = L) (k oa ob oc : Int) (w0 : World) (hop : w0.heap[Sb]? = some (.cells #[.int .i64 k, .int .i64 oa, .int .i64 ob, .int .i64 oc] 45)) (hSb : tb < Sb) (I0 : M11 a0 M cb tb tc n m ta Sx T w0) (u : Nat -> Value) (cs : List Frame) :
  Walk prog main (DR (fun _ => none)) (fun g w' => (∃ u, g = G (hdH4 M i Sb q u) cs) /\ M11 a0 M cb tb tc n m ta Sx (upd T i { T i with pc := 1, q := q + 1 }) w' /\ Got M cb m tb n T (upd T i { T i with pc := 1, q := q + 1 }) w0 w' /\ w'.heap[Sb]? = some (.cells #[.int .i64 k, .int .i64 oa, .int .i64 ob, .int .i64 oc] 45)) (G (hdSt11 M i Sb q x lp p 4 u) cs) w0 := by
 replace h : Sx.st x <= L /\ L <= Sx.st x := by omega
 obtain ⟨hi0, hi1, hi3, hi4⟩ := hIx i n
 obtain ⟨hx0, hx1, hx3, hx4⟩ := hIx x m
 have hm0 : 0 < m := by omega
 have ll3 := I0.lt.2.2 (by omega)
 have c1 := I0.cT (by omega)
 have c4 : w0.cell? ⟨tb, i * 9 + 4, none⟩ = some (.int .i64 (T i).pc) := I0.tcell hi rfl
 have z4 := I0.tfrz hi (i * 9 + 4)
 have I1 := I0.put hi (j := 4) (v := .int .i64 1) (t := { T i with pc := 1 })
 have o1 : ∀ y, y ≠ tb -> (w0.setCell ⟨tb, i * 9 + 4, none⟩ (.int .i64 1)).heap[y]? = w0.heap[y]? := fun y hy => Ac _ _ _ _ hy
 have g1 : Got M cb m tb n T (upd T i { T i with pc := 1 }) w0 (w0.setCell ⟨tb, i * 9 + 4, none⟩ (.int .i64 1)) := ⟨⟨by rw [Ai]; exact Nat.le_refl _, fun y hy hn => o1 y fun e => hn (.inr (.inr (.inl e)))⟩, fun b hb => Bu (t := { T i with pc := 1 }) hi (fun b hb => .inl hb) b hb⟩
 have s1 := Ai w0 ⟨tb, i * 9 + 4, none⟩ (.int .i64 1)
 have hop1 := (o1 Sb (by omega)).trans hop
 conv => arg 5; unfold hdSt11
 refine Aa z117 ?_
 (have hfr := Ju tb (i * 9 + 4); refine Ws hfr c4 ?_; clear hfr; try walk_nrm)
 generalize w0.setCell ⟨tb, i * 9 + 4, none⟩ (.int .i64 1) = w1 at *
 clear c1 c4 z4 o1
 have c2 := I1.cS hm0
 have c3 := I1.scell hx
 generalize hst : Sx.st x = st at *
 have kn : (st != L) = false := by simp; omega
 clear h
 have hq2 : IntKind.wrap .i64 (q + 1) = q + 1 := by rw [IntKind.wrap_i64]; omega
 try walk_nrm
 refine Aa z117 ?_
 clear c2 c3
 have c1 := I1.cT (by omega)
 have c5 : w1.cell? ⟨tb, i * 9 + 5, none⟩ = some (.int .i64 (T i).q) := I1.tcell hi (by rw [upd_same]; rfl)
 have z5 := I1.tfrz hi (i * 9 + 5)
 have I2 := I1.put hi (j := 5) (v := .int .i64 (q + 1)) (t := { T i with pc := 1, q := q + 1 })
 rw [An] at I2
 have o2 : ∀ y, y ≠ tb -> (w1.setCell ⟨tb, i * 9 + 5, none⟩ (.int .i64 (q + 1))).heap[y]? = w1.heap[y]? := fun y hy => Ac _ _ _ _ hy
 have g2 : Got M cb m tb n (upd T i { T i with pc := 1 }) (upd T i { T i with pc := 1, q := q + 1 }) w1 (w1.setCell ⟨tb, i * 9 + 5, none⟩ (.int .i64 (q + 1))) := ⟨⟨by rw [Ai]; exact Nat.le_refl _, fun y hy hn => o2 y fun e => hn (.inr (.inr (.inl e)))⟩, fun b hb => by
  have := Bu (M := M) (cb := cb) (m := m) (tb := tb) (T := upd T i { T i with pc := 1 }) (t := { T i with pc := 1, q := q + 1 }) (s := w1.heap.size) hi (fun b hb => .inl (by rw [upd_same]; exact hb)) b
  rw [An] at this
  exact this hb⟩
 have s2 := Ai w1 ⟨tb, i * 9 + 5, none⟩ (.int .i64 (q + 1))
 have hop2 := (o2 Sb (by omega)).trans hop1
 refine Aa z117 ?_
 (have hfr := Ju tb (i * 9 + 5); refine Ws hfr c5 ?_; clear hfr; try walk_nrm)
 generalize w1.setCell ⟨tb, i * 9 + 5, none⟩ (.int .i64 (q + 1)) = w2 at *
 clear c1 c5 z5 o2 hop hop1 I1
 refine Walk.c rfl ?_
 refine .stop fun d => ⟨Ak ?_, I2.same fun _ _ => rfl, ⟨(g1.trans g2).chg.at d, (g1.trans g2).own⟩, hop2⟩
 simp only [hdH4]
 rfl
theorem stp_h1 {i Sb x : Nat} (hi : i < n) (q lp : Int) (hx : x < m) (p : Nat) (L : Int) (hL : IntKind.i64.wrap (2 * lp) = L) (hLb : 0 <= L /\ L < 9223372036854775807) (hq0 : 0 <= q) (hq1 : q < 4611686018427387904) (h : Sx.st x = L) (hm2 : m <= 65536) (hl : (T i).ans.length <= 65536) (hat : (T i).at' <= 65536) (k oa ob oc : Int) (w0 : World) (hop : w0.heap[Sb]? = some (.cells #[.int .i64 k, .int .i64 oa, .int .i64 ob, .int .i64 oc] 45)) (hSb : tb < Sb) (hoa0 : 0 <= oa) (hoa1 : oa < 4611686018427387904) (hb : q <= ob) (hb2 : ob <= q) (I0 : M11 a0 M cb tb tc n m ta Sx T w0) (hn : n <= 64) (ha0 : a0 <= w0.heap.size) (u : Nat -> Value) (fr : Frame) (cs : List Frame) :
  Walk prog main (DR (fun _ => none)) (fun g w' => g = G (fr.finish (.tuple #[])) cs /\ ∃ av oA, M11 a0 M cb tb tc n m ta Sx (upd T i (({ T i with pc := 1, q := q + 1 }).told ⟨true, q, []⟩ av oA)) w' /\ Got M cb m tb n T (upd T i (({ T i with pc := 1, q := q + 1 }).told ⟨true, q, []⟩ av oA)) w0 w') (G (hdSt11 M i Sb q x lp p 4 u) (fr :: cs)) w0 := by
 have ham : IntKind.wrap .i64 (oa + m) = oa + m := by rw [IntKind.wrap_i64]; omega
 have hq2 : IntKind.wrap .i64 (q + 1) = q + 1 := by rw [IntKind.wrap_i64]; omega
 refine (Mn hi q lp hx p L hL hLb hq0 hq1 h k oa ob oc w0 hop hSb I0 u (fr :: cs)).then ?_
 rintro _ w2 ⟨⟨u2, rfl⟩, I2, g2, hop2⟩
 have hz2 := g2.chg.size
 have b1 := (Ab hop2 1).trans rfl
 have b2 := (Ab hop2 2).trans rfl
 have cz := I2.cZ
 clear hop hop2 I0 h
 conv => arg 5; unfold hdH4
 have kb : (q == ob) = true := by simp; omega
 try walk_nrm
 refine Aa z117 ?_
 (refine Bn (by kernel_rfl) size117_31 (by kernel_rfl) (by kernel_rfl) (by decide) ?_; simp only [List.range, List.range.loop]; repeat (first | (refine cQ ?_) | (refine Be Ah (by rfl) ?_; walk_nrm)))
 refine cDn ?_
 have he := Ch (main := main) hi { T i with pc := 1, q := q + 1 } ⟨true, q, []⟩ (.slice none 0 0) w2 (LsAt.nil _ _ _) I2 hn (by omega) hl hat
 simp only [Bo] at he
 clear I2
 try walk_nrm
 refine Aa z117 ?_
 refine qW (Post := Told11 a0 M cb tb tc n m ta Sx (upd T i { T i with pc := 1, q := q + 1 }) T i ({ T i with pc := 1, q := q + 1 }) ⟨true, q, []⟩ w2) func158 ?_ ?_
 ·walk_nrm
  exact he
 intro vv w9 h9
 obtain rfl := h9.1
 walk_nrm
 refine Aa z117 ?_
 exact Au rfl rfl func117 rfl (.stop fun d => ⟨rfl, (h9.by g2 d).2⟩)
theorem stp_h2 {i Sb x : Nat} (hi : i < n) (q lp : Int) (hx : x < m) (p : Nat) (L : Int) (hL : IntKind.i64.wrap (2 * lp) = L) (hLb : 0 <= L /\ L < 9223372036854775807) (hq0 : 0 <= q) (hq1 : q < 4611686018427387904) (h : Sx.st x = L) (hm2 : m <= 65536) (hl : (T i).ans.length <= 65536) (hat : (T i).at' <= 65536) (k oa ob oc : Int) (w0 : World) (hop : w0.heap[Sb]? = some (.cells #[.int .i64 k, .int .i64 oa, .int .i64 ob, .int .i64 oc] 45)) (hSb : tb < Sb) (hoa0 : 0 <= oa) (hoa1 : oa < 4611686018427387904) (hb : q ≠ ob) (hg1 : ¬ good (q + 1)) (I0 : M11 a0 M cb tb tc n m ta Sx T w0) (hn : n <= 64) (ha0 : a0 <= w0.heap.size) (u : Nat -> Value) (fr : Frame) (cs : List Frame) :
  Walk prog main (DR (fun _ => none)) (fun g w' => g = G (fr.finish (.tuple #[])) cs /\ ∃ av oA, M11 a0 M cb tb tc n m ta Sx (upd T i (({ T i with pc := 1, q := q + 1 }).told ⟨true, q, []⟩ av oA)) w' /\ Got M cb m tb n T (upd T i (({ T i with pc := 1, q := q + 1 }).told ⟨true, q, []⟩ av oA)) w0 w') (G (hdSt11 M i Sb q x lp p 4 u) (fr :: cs)) w0 := by
 have ham : IntKind.wrap .i64 (oa + m) = oa + m := by rw [IntKind.wrap_i64]; omega
 have hq2 : IntKind.wrap .i64 (q + 1) = q + 1 := by rw [IntKind.wrap_i64]; omega
 refine (Mn hi q lp hx p L hL hLb hq0 hq1 h k oa ob oc w0 hop hSb I0 u (fr :: cs)).then ?_
 rintro _ w2 ⟨⟨u2, rfl⟩, I2, g2, hop2⟩
 have hz2 := g2.chg.size
 have b1 := (Ab hop2 1).trans rfl
 have b2 := (Ab hop2 2).trans rfl
 have cz := I2.cZ
 clear hop hop2 I0 h
 conv => arg 5; unfold hdH4
 have kb : (q == ob) = false := by simpa using hb
 clear hb
 try walk_nrm
 refine Aa z117 ?_
 (refine Bn (by kernel_rfl) size117_31 (by kernel_rfl) (by kernel_rfl) (by decide) ?_; simp only [List.range, List.range.loop]; repeat (first | (refine cQ ?_) | (refine Be Ah (by rfl) ?_; walk_nrm)))
 refine Cm.callV (x := .bool false) ?_ Ah (by rfl) rfl func20 (by kernel_rfl) (by rfl) ?_
 ·intro w' e
  subst e
  walk_nrm
  exact Fh _ hg1 _
 walk_nrm
 repeat (first | (refine cQ ?_) | (refine Be Ah (by rfl) ?_; walk_nrm))
 refine cDn ?_
 have he := Ch (main := main) hi { T i with pc := 1, q := q + 1 } ⟨true, q, []⟩ (.slice none 0 0) w2 (LsAt.nil _ _ _) I2 hn (by omega) hl hat
 simp only [Bo] at he
 clear I2
 try walk_nrm
 refine Aa z117 ?_
 refine qW (Post := Told11 a0 M cb tb tc n m ta Sx (upd T i { T i with pc := 1, q := q + 1 }) T i ({ T i with pc := 1, q := q + 1 }) ⟨true, q, []⟩ w2) func158 ?_ ?_
 ·walk_nrm
  exact he
 intro vv w9 h9
 obtain rfl := h9.1
 walk_nrm
 refine Aa z117 ?_
 exact Au rfl rfl func117 rfl (.stop fun d => ⟨rfl, (h9.by g2 d).2⟩)
theorem stp_h3 {i Sb x : Nat} (hi : i < n) (q lp : Int) (hx : x < m) (p : Nat) (L : Int) (hL : IntKind.i64.wrap (2 * lp) = L) (hLb : 0 <= L /\ L < 9223372036854775807) (hq0 : 0 <= q) (hq1 : q < 4611686018427387904) (h : Sx.st x = L) (hm2 : m <= 65536) (hl : (T i).ans.length <= 65536) (hat : (T i).at' <= 65536) (k oa ob oc : Int) (w0 : World) (hop : w0.heap[Sb]? = some (.cells #[.int .i64 k, .int .i64 oa, .int .i64 ob, .int .i64 oc] 45)) (hSb : tb < Sb) (hoa0 : 0 <= oa) (hoa1 : oa < 4611686018427387904) (hb : q ≠ ob) (hg1 : good (q + 1)) (hl1 : oa + m <= q + 1) (I0 : M11 a0 M cb tb tc n m ta Sx T w0) (hn : n <= 64) (ha0 : a0 <= w0.heap.size) (u : Nat -> Value) (fr : Frame) (cs : List Frame) :
  Walk prog main (DR (fun _ => none)) (fun g w' => g = G (fr.finish (.tuple #[])) cs /\ ∃ av oA, M11 a0 M cb tb tc n m ta Sx (upd T i (({ T i with pc := 1, q := q + 1 }).told ⟨true, q, []⟩ av oA)) w' /\ Got M cb m tb n T (upd T i (({ T i with pc := 1, q := q + 1 }).told ⟨true, q, []⟩ av oA)) w0 w') (G (hdSt11 M i Sb q x lp p 4 u) (fr :: cs)) w0 := by
 have ham : IntKind.wrap .i64 (oa + m) = oa + m := by rw [IntKind.wrap_i64]; omega
 have hq2 : IntKind.wrap .i64 (q + 1) = q + 1 := by rw [IntKind.wrap_i64]; omega
 refine (Mn hi q lp hx p L hL hLb hq0 hq1 h k oa ob oc w0 hop hSb I0 u (fr :: cs)).then ?_
 rintro _ w2 ⟨⟨u2, rfl⟩, I2, g2, hop2⟩
 have hz2 := g2.chg.size
 have b1 := (Ab hop2 1).trans rfl
 have b2 := (Ab hop2 2).trans rfl
 have cz := I2.cZ
 clear hop hop2 I0 h
 conv => arg 5; unfold hdH4
 have kb : (q == ob) = false := by simpa using hb
 have kc : decide (oa + (m : Int) <= q + 1) = true := decide_eq_true hl1
 clear hb
 try walk_nrm
 refine Aa z117 ?_
 (refine Bn (by kernel_rfl) size117_31 (by kernel_rfl) (by kernel_rfl) (by decide) ?_; simp only [List.range, List.range.loop]; repeat (first | (refine cQ ?_) | (refine Be Ah (by rfl) ?_; walk_nrm)))
 refine Cm.callV (x := .bool true) ?_ Ah (by rfl) rfl func20 (by kernel_rfl) (by rfl) ?_
 ·intro w' e
  subst e
  walk_nrm
  exact Dg _ hg1 _
 walk_nrm
 repeat (first | (refine cQ ?_) | (refine Be Ah (by rfl) ?_; walk_nrm))
 refine cDn ?_
 have he := Ch (main := main) hi { T i with pc := 1, q := q + 1 } ⟨true, q, []⟩ (.slice none 0 0) w2 (LsAt.nil _ _ _) I2 hn (by omega) hl hat
 simp only [Bo] at he
 clear I2
 try walk_nrm
 refine Aa z117 ?_
 refine qW (Post := Told11 a0 M cb tb tc n m ta Sx (upd T i { T i with pc := 1, q := q + 1 }) T i ({ T i with pc := 1, q := q + 1 }) ⟨true, q, []⟩ w2) func158 ?_ ?_
 ·walk_nrm
  exact he
 intro vv w9 h9
 obtain rfl := h9.1
 walk_nrm
 refine Aa z117 ?_
 exact Au rfl rfl func117 rfl (.stop fun d => ⟨rfl, (h9.by g2 d).2⟩)
theorem stp_h4 {i Sb x : Nat} (hi : i < n) (q lp : Int) (hx : x < m) (p : Nat) (L : Int) (hL : IntKind.i64.wrap (2 * lp) = L) (hLb : 0 <= L /\ L < 9223372036854775807) (hq0 : 0 <= q) (hq1 : q < 4611686018427387904) (h : Sx.st x = L) (hm2 : m <= 65536) (hl : (T i).ans.length <= 65536) (hat : (T i).at' <= 65536) (k oa ob oc : Int) (w0 : World) (hop : w0.heap[Sb]? = some (.cells #[.int .i64 k, .int .i64 oa, .int .i64 ob, .int .i64 oc] 45)) (hSb : tb < Sb) (hoa0 : 0 <= oa) (hoa1 : oa < 4611686018427387904) (hb : q ≠ ob) (hg1 : good (q + 1)) (hl1 : ¬ oa + m <= q + 1) (I0 : M11 a0 M cb tb tc n m ta Sx T w0) (hn : n <= 64) (ha0 : a0 <= w0.heap.size) (u : Nat -> Value) (fr : Frame) (cs : List Frame) :
  Walk prog main (DR (fun _ => none)) (fun g w' => g = G (fr.finish (.tuple #[])) cs /\ M11 a0 M cb tb tc n m ta Sx (upd T i { T i with pc := 1, q := q + 1 }) w' /\ Got M cb m tb n T (upd T i { T i with pc := 1, q := q + 1 }) w0 w') (G (hdSt11 M i Sb q x lp p 4 u) (fr :: cs)) w0 := by
 have ham : IntKind.wrap .i64 (oa + m) = oa + m := by rw [IntKind.wrap_i64]; omega
 have hq2 : IntKind.wrap .i64 (q + 1) = q + 1 := by rw [IntKind.wrap_i64]; omega
 refine (Mn hi q lp hx p L hL hLb hq0 hq1 h k oa ob oc w0 hop hSb I0 u (fr :: cs)).then ?_
 rintro _ w2 ⟨⟨u2, rfl⟩, I2, g2, hop2⟩
 have hz2 := g2.chg.size
 have b1 := (Ab hop2 1).trans rfl
 have b2 := (Ab hop2 2).trans rfl
 have cz := I2.cZ
 clear hop hop2 I0 h
 conv => arg 5; unfold hdH4
 have kb : (q == ob) = false := by simpa using hb
 have kc : decide (oa + (m : Int) <= q + 1) = false := decide_eq_false hl1
 clear hb
 try walk_nrm
 refine Aa z117 ?_
 (refine Bn (by kernel_rfl) size117_31 (by kernel_rfl) (by kernel_rfl) (by decide) ?_; simp only [List.range, List.range.loop]; repeat (first | (refine cQ ?_) | (refine Be Ah (by rfl) ?_; walk_nrm)))
 refine Cm.callV (x := .bool true) ?_ Ah (by rfl) rfl func20 (by kernel_rfl) (by rfl) ?_
 ·intro w' e
  subst e
  walk_nrm
  exact Dg _ hg1 _
 walk_nrm
 repeat (first | (refine cQ ?_) | (refine Be Ah (by rfl) ?_; walk_nrm))
 refine cDn ?_
 refine Aa z117 ?_
 exact Au rfl rfl func117 rfl (.stop fun d => ⟨rfl, I2.same fun _ _ => rfl, ⟨g2.chg.at d, g2.own⟩⟩)
end
end Go.Proofs.Ytflcclneedldoaa
