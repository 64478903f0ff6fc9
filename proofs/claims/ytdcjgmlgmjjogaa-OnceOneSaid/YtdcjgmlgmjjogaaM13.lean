/- Part 13. -/
import Derived.Test.YtdcjgmlgmjjogaaM2
import Derived.Test.YtdcjgmlgmjjogaaM12
set_option linter.unusedSimpArgs false
set_option linter.unusedVariables false
set_option maxHeartbeats 8000000
set_option maxRecDepth 100000
namespace Go.Proofs.Ytdcjgmlgmjjogaa
open Go.Conc Go.RowKit Go.Relay
open Go.ConcN (upd upd_ne upd_same)
section
def fewO (n : Nat) (o : OpV) : OpV := ⟨1 + (IntKind.u64.wrap o.k).tmod 4, (IntKind.u64.wrap o.a).tmod n, o.b, (IntKind.u64.wrap o.c).tmod 5⟩
theorem u64_range (x : Int) : 0 ≤ IntKind.u64.wrap x ∧ IntKind.u64.wrap x < 18446744073709551616 := by rw [IntKind.wrap_u64]; omega
theorem fewO_fine {n : Nat} (hn : 0 < n) (o : OpV) : fineZ n (fewO n o) := by
  obtain ⟨h1, _⟩ := u64_range o.k
  obtain ⟨h2, _⟩ := u64_range o.a
  unfold fewO fineZ
  dsimp only
  have a1 := Int.tmod_lt_of_pos (IntKind.u64.wrap o.k) (show (0 : Int) < 4 by decide)
  have a2 := Int.tmod_lt_of_pos (IntKind.u64.wrap o.a) (show (0 : Int) < (n : Int) by omega)
  have b1 := Int.tmod_nonneg 4 h1
  have b2 := Int.tmod_nonneg n h2
  exact ⟨by omega, b2, a2⟩
theorem cvU1 (k : Int) (w : World) (es : Array Event) : (convert 3 118 (.int .i64 k)).run Try.prog w = .ok (.int .u64 (IntKind.u64.wrap k)) w ∧ (convert 3 118 (.int .i64 k)).events Try.prog w es = es := by
  have h := run_convert_int (P := Try.prog) (w := w) 3 118 .i64 k (by kernel_rfl) (by kernel_rfl)
  rw [show Try.prog.intKind 118 = .u64 from by kernel_rfl] at h
  exact ⟨h, events_convert_int 3 118 .i64 k (by kernel_rfl) (by kernel_rfl) es⟩
theorem cvU2 (k : Int) (w : World) (es : Array Event) : (convert 118 3 (.int .u64 k)).run Try.prog w = .ok (.int .i64 (IntKind.i64.wrap k)) w ∧ (convert 118 3 (.int .u64 k)).events Try.prog w es = es := by
  have h := run_convert_int (P := Try.prog) (w := w) 118 3 .u64 k (by kernel_rfl) (by kernel_rfl)
  rw [show Try.prog.intKind 3 = .i64 from by kernel_rfl] at h
  exact ⟨h, events_convert_int 118 3 .u64 k (by kernel_rfl) (by kernel_rfl) es⟩
theorem cvU3 (k : Int) (w : World) (es : Array Event) : (convert 2 119 (.int .i64 k)).run Try.prog w = .ok (.int .u64 (IntKind.u64.wrap k)) w ∧ (convert 2 119 (.int .i64 k)).events Try.prog w es = es := by
  have h := run_convert_int (P := Try.prog) (w := w) 2 119 .i64 k (by kernel_rfl) (by kernel_rfl)
  rw [show Try.prog.intKind 119 = .u64 from by kernel_rfl] at h
  exact ⟨h, events_convert_int 2 119 .i64 k (by kernel_rfl) (by kernel_rfl) es⟩
theorem cvU4 (k : Int) (w : World) (es : Array Event) : (convert 3 119 (.int .i64 k)).run Try.prog w = .ok (.int .u64 (IntKind.u64.wrap k)) w ∧ (convert 3 119 (.int .i64 k)).events Try.prog w es = es := by
  have h := run_convert_int (P := Try.prog) (w := w) 3 119 .i64 k (by kernel_rfl) (by kernel_rfl)
  rw [show Try.prog.intKind 119 = .u64 from by kernel_rfl] at h
  exact ⟨h, events_convert_int 3 119 .i64 k (by kernel_rfl) (by kernel_rfl) es⟩
theorem cvU5 (k : Int) (w : World) (es : Array Event) : (convert 119 2 (.int .u64 k)).run Try.prog w = .ok (.int .i64 (IntKind.i64.wrap k)) w ∧ (convert 119 2 (.int .u64 k)).events Try.prog w es = es := by
  have h := run_convert_int (P := Try.prog) (w := w) 119 2 .u64 k (by kernel_rfl) (by kernel_rfl)
  rw [show Try.prog.intKind 2 = .i64 from by kernel_rfl] at h
  exact ⟨h, events_convert_int 119 2 .u64 k (by kernel_rfl) (by kernel_rfl) es⟩
noncomputable def reg17_0 : Array Oper := match Try.f17.body with | some (.seq (.region _ ops _) _) => ops | _ => #[]
theorem size17_0 : reg17_0.size = 1 := by kernel_rfl
noncomputable def reg17_1 : Array Oper := match Try.f17.body with | some (.seq _ (.seq (.region _ ops _) _)) => ops | _ => #[]
theorem size17_1 : reg17_1.size = 1 := by kernel_rfl
noncomputable def reg17_2 : Array Oper := match Try.f17.body with | some (.seq _ (.seq _ (.seq (.seq (.region _ ops _) _) _))) => ops | _ => #[]
theorem size17_2 : reg17_2.size = 7 := by kernel_rfl
noncomputable def reg17_3 : Array Oper := match Try.f17.body with | some (.seq _ (.seq _ (.seq (.seq _ (.block _ (.loop (.seq (.region _ ops _) _)))) _))) => ops | _ => #[]
theorem size17_3 : reg17_3.size = 1 := by kernel_rfl
noncomputable def reg17_4 : Array Oper := match Try.f17.body with | some (.seq _ (.seq _ (.seq (.seq _ (.block _ (.loop (.seq _ (.seq _ (.seq (.block _ (.seq (.region _ ops _) _)) _)))))) _))) => ops | _ => #[]
theorem size17_4 : reg17_4.size = 3 := by kernel_rfl
noncomputable def reg17_5 : Array Oper := match Try.f17.body with | some (.seq _ (.seq _ (.seq (.seq _ (.block _ (.loop (.seq _ (.seq _ (.seq (.block _ (.seq _ (.seq (.region _ ops _) _))) _)))))) _))) => ops | _ => #[]
theorem size17_5 : reg17_5.size = 1 := by kernel_rfl
noncomputable def reg17_6 : Array Oper := match Try.f17.body with | some (.seq _ (.seq _ (.seq (.seq _ (.block _ (.loop (.seq _ (.seq _ (.seq (.block _ (.seq _ (.seq _ (.seq (.seq (.region _ ops _) _) _)))) _)))))) _))) => ops | _ => #[]
theorem size17_6 : reg17_6.size = 7 := by kernel_rfl
noncomputable def reg17_7 : Array Oper := match Try.f17.body with | some (.seq _ (.seq _ (.seq (.seq _ (.block _ (.loop (.seq _ (.seq _ (.seq (.block _ (.seq _ (.seq _ (.seq (.seq _ (.block _ (.loop (.seq (.region _ ops _) _)))) _)))) _)))))) _))) => ops | _ => #[]
theorem size17_7 : reg17_7.size = 1 := by kernel_rfl
noncomputable def reg17_8 : Array Oper := match Try.f17.body with | some (.seq _ (.seq _ (.seq (.seq _ (.block _ (.loop (.seq _ (.seq _ (.seq (.block _ (.seq _ (.seq _ (.seq (.seq _ (.block _ (.loop (.seq _ (.seq _ (.seq (.block _ (.seq (.region _ ops _) _)) _)))))) _)))) _)))))) _))) => ops | _ => #[]
theorem size17_8 : reg17_8.size = 4 := by kernel_rfl
noncomputable def reg17_9 : Array Oper := match Try.f17.body with | some (.seq _ (.seq _ (.seq (.seq _ (.block _ (.loop (.seq _ (.seq _ (.seq (.block _ (.seq _ (.seq _ (.seq (.seq _ (.block _ (.loop (.seq _ (.seq _ (.seq (.block _ (.seq _ (.seq (.region _ ops _) _))) _)))))) _)))) _)))))) _))) => ops | _ => #[]
theorem size17_9 : reg17_9.size = 8 := by kernel_rfl
noncomputable def reg17_10 : Array Oper := match Try.f17.body with | some (.seq _ (.seq _ (.seq (.seq _ (.block _ (.loop (.seq _ (.seq _ (.seq (.block _ (.seq _ (.seq _ (.seq (.seq _ (.block _ (.loop (.seq _ (.seq _ (.seq (.block _ (.seq _ (.seq _ (.seq (.region _ ops _) _)))) _)))))) _)))) _)))))) _))) => ops | _ => #[]
theorem size17_10 : reg17_10.size = 9 := by kernel_rfl
noncomputable def reg17_11 : Array Oper := match Try.f17.body with | some (.seq _ (.seq _ (.seq (.seq _ (.block _ (.loop (.seq _ (.seq _ (.seq (.block _ (.seq _ (.seq _ (.seq (.seq _ (.block _ (.loop (.seq _ (.seq _ (.seq (.block _ (.seq _ (.seq _ (.seq _ (.seq (.region _ ops _) _))))) _)))))) _)))) _)))))) _))) => ops | _ => #[]
theorem size17_11 : reg17_11.size = 7 := by kernel_rfl
noncomputable def reg17_12 : Array Oper := match Try.f17.body with | some (.seq _ (.seq _ (.seq (.seq _ (.block _ (.loop (.seq _ (.seq _ (.seq (.block _ (.seq _ (.seq _ (.seq (.seq _ (.block _ (.loop (.seq _ (.seq _ (.seq (.block _ (.seq _ (.seq _ (.seq _ (.seq _ (.region _ ops _)))))) _)))))) _)))) _)))))) _))) => ops | _ => #[]
theorem size17_12 : reg17_12.size = 5 := by kernel_rfl
noncomputable def reg17_13 : Array Oper := match Try.f17.body with | some (.seq _ (.seq _ (.seq (.seq _ (.block _ (.loop (.seq _ (.seq _ (.seq (.block _ (.seq _ (.seq _ (.seq (.seq _ (.block _ (.loop (.seq _ (.seq _ (.seq _ (.region _ ops _))))))) _)))) _)))))) _))) => ops | _ => #[]
theorem size17_13 : reg17_13.size = 2 := by kernel_rfl
noncomputable def reg17_14 : Array Oper := match Try.f17.body with | some (.seq _ (.seq _ (.seq (.seq _ (.block _ (.loop (.seq _ (.seq _ (.seq (.block _ (.seq _ (.seq _ (.seq _ (.region _ ops _))))) _)))))) _))) => ops | _ => #[]
theorem size17_14 : reg17_14.size = 5 := by kernel_rfl
noncomputable def reg17_15 : Array Oper := match Try.f17.body with | some (.seq _ (.seq _ (.seq (.seq _ (.block _ (.loop (.seq _ (.seq _ (.seq _ (.region _ ops _))))))) _))) => ops | _ => #[]
theorem size17_15 : reg17_15.size = 2 := by kernel_rfl
noncomputable def reg17_16 : Array Oper := match Try.f17.body with | some (.seq _ (.seq _ (.seq _ (.seq (.region _ ops _) _)))) => ops | _ => #[]
theorem size17_16 : reg17_16.size = 2 := by kernel_rfl
theorem code17_is : Try.f17.body = some (.seq (.region 0 reg17_0 false) (.seq (.region 1 reg17_1 false) (.seq (.seq (.region 2 reg17_2 false) (.block 0 (.loop (.seq (.region 3 reg17_3 false) (.seq (.cond (.tmp 18 ) (.skip) (.exit 0)) (.seq (.block 1 (.seq (.region 4 reg17_4 false) (.seq (.region 5 reg17_5 false) (.seq (.seq (.region 6 reg17_6 false) (.block 2 (.loop (.seq (.region 7 reg17_7 false) (.seq (.cond (.tmp 28 ) (.skip) (.exit 2)) (.seq (.block 3 (.seq (.region 8 reg17_8 false) (.seq (.region 9 reg17_9 false) (.seq (.region 10 reg17_10 false) (.seq (.region 11 reg17_11 false) (.region 12 reg17_12 false)))))) (.region 13 reg17_13 false))))))) (.region 14 reg17_14 false))))) (.region 15 reg17_15 false))))))) (.seq (.region 16 reg17_16 false) (.ret))))) := by kernel_rfl
noncomputable def hdFo (tv : Value) (n : Nat) (ov xv : Value) (n4 i : Nat) (u : Nat → Value) : Frame :=
  (base 17).at { tmps := #[.int .i64 n, tv, u 2, u 3, .slice none 0 0, ov, u 6, u 7, u 8, u 9, u 10, u 11, u 12, u 13, u 14, xv, .int .i64 n4, .int .i64 i, u 18, u 19, u 20, u 21, u 22, u 23, u 24, u 25, u 26, u 27, u 28, u 29, u 30, u 31, u 32, u 33, u 34, u 35, u 36, u 37, u 38, u 39, u 40, u 41, u 42, u 43, u 44, u 45, u 46, u 47, u 48, u 49, u 50, u 51, u 52, u 53, u 54, u 55, u 56, u 57, u 58, u 59, u 60, u 61, u 62], defers := [] } [.code (.seq (.region 3 reg17_3 false) (.seq (.cond (.tmp 18 ) (.skip) (.exit 0)) (.seq (.block 1 (.seq (.region 4 reg17_4 false) (.seq (.region 5 reg17_5 false) (.seq (.seq (.region 6 reg17_6 false) (.block 2 (.loop (.seq (.region 7 reg17_7 false) (.seq (.cond (.tmp 28 ) (.skip) (.exit 2)) (.seq (.block 3 (.seq (.region 8 reg17_8 false) (.seq (.region 9 reg17_9 false) (.seq (.region 10 reg17_10 false) (.seq (.region 11 reg17_11 false) (.region 12 reg17_12 false)))))) (.region 13 reg17_13 false))))))) (.region 14 reg17_14 false))))) (.region 15 reg17_15 false)))), .inLoop (.seq (.region 3 reg17_3 false) (.seq (.cond (.tmp 18 ) (.skip) (.exit 0)) (.seq (.block 1 (.seq (.region 4 reg17_4 false) (.seq (.region 5 reg17_5 false) (.seq (.seq (.region 6 reg17_6 false) (.block 2 (.loop (.seq (.region 7 reg17_7 false) (.seq (.cond (.tmp 28 ) (.skip) (.exit 2)) (.seq (.block 3 (.seq (.region 8 reg17_8 false) (.seq (.region 9 reg17_9 false) (.seq (.region 10 reg17_10 false) (.seq (.region 11 reg17_11 false) (.region 12 reg17_12 false)))))) (.region 13 reg17_13 false))))))) (.region 14 reg17_14 false))))) (.region 15 reg17_15 false)))), .inBlock 0, .code (.seq (.region 16 reg17_16 false) (.ret))]
noncomputable def hdFi (tv : Value) (n : Nat) (ov xv : Value) (n4 i : Nat) (wv yv : Value) (n6 j : Nat) (u : Nat → Value) : Frame :=
  (base 17).at { tmps := #[.int .i64 n, tv, u 2, u 3, .slice none 0 0, ov, u 6, u 7, wv, u 9, u 10, u 11, u 12, u 13, u 14, xv, .int .i64 n4, .int .i64 i, u 18, u 19, u 20, u 21, u 22, u 23, u 24, yv, .int .i64 n6, .int .i64 j, u 28, u 29, u 30, u 31, u 32, u 33, u 34, u 35, u 36, u 37, u 38, u 39, u 40, u 41, u 42, u 43, u 44, u 45, u 46, u 47, u 48, u 49, u 50, u 51, u 52, u 53, u 54, u 55, u 56, u 57, u 58, u 59, u 60, u 61, u 62], defers := [] } [.code (.seq (.region 7 reg17_7 false) (.seq (.cond (.tmp 28 ) (.skip) (.exit 2)) (.seq (.block 3 (.seq (.region 8 reg17_8 false) (.seq (.region 9 reg17_9 false) (.seq (.region 10 reg17_10 false) (.seq (.region 11 reg17_11 false) (.region 12 reg17_12 false)))))) (.region 13 reg17_13 false)))), .inLoop (.seq (.region 7 reg17_7 false) (.seq (.cond (.tmp 28 ) (.skip) (.exit 2)) (.seq (.block 3 (.seq (.region 8 reg17_8 false) (.seq (.region 9 reg17_9 false) (.seq (.region 10 reg17_10 false) (.seq (.region 11 reg17_11 false) (.region 12 reg17_12 false)))))) (.region 13 reg17_13 false)))), .inBlock 2, .code (.region 14 reg17_14 false), .inBlock 1, .code (.region 15 reg17_15 false), .inLoop (.seq (.region 3 reg17_3 false) (.seq (.cond (.tmp 18 ) (.skip) (.exit 0)) (.seq (.block 1 (.seq (.region 4 reg17_4 false) (.seq (.region 5 reg17_5 false) (.seq (.seq (.region 6 reg17_6 false) (.block 2 (.loop (.seq (.region 7 reg17_7 false) (.seq (.cond (.tmp 28 ) (.skip) (.exit 2)) (.seq (.block 3 (.seq (.region 8 reg17_8 false) (.seq (.region 9 reg17_9 false) (.seq (.region 10 reg17_10 false) (.seq (.region 11 reg17_11 false) (.region 12 reg17_12 false)))))) (.region 13 reg17_13 false))))))) (.region 14 reg17_14 false))))) (.region 15 reg17_15 false)))), .inBlock 0, .code (.seq (.region 16 reg17_16 false) (.ret))]
section
variable {main : Bool}
theorem few_round (tv : Value) (n : Nat) (ov xv : Value) (n4 i : Nat) (ob oo n6 yc j : Nat) (pre : List OpV) (o : OpV) (oa : Option Addr) (oc : Nat) (hpj : pre.length = j) (hj : j < n6) (hn6 : n6 ≤ 6) (hn : 0 < n) (hnn : n ≤ 64) (u : Nat → Value) (cs : List Frame) (W w : World) (H : OwI W w pre oa oc)
    (o0 : W.cell? ⟨ob, oo + j * 4, none⟩ = some (.int .i64 o.k)) (o1 : W.cell? ⟨ob, oo + j * 4 + 1, none⟩ = some (.int .i64 o.a)) (o2 : W.cell? ⟨ob, oo + j * 4 + 2, none⟩ = some (.int .i64 o.b)) (o3 : W.cell? ⟨ob, oo + j * 4 + 3, none⟩ = some (.int .i64 o.c)) :
    Walk Try.prog main (DR (fun _ => none)) (fun g w' => ∃ oa oc, (∃ u, g = G (hdFi tv n ov xv n4 i (.slice oa (j + 1) oc) (.slice (some ⟨ob, oo, none⟩) n6 yc) n6 (j + 1) u) cs) ∧ OwI W w' (pre ++ [fewO n o]) oa oc) (G (hdFi tv n ov xv n4 i (.slice oa j oc) (.slice (some ⟨ob, oo, none⟩) n6 yc) n6 j u) cs) w := by
  obtain ⟨fsO, huO⟩ := structT 34 (by kernel_rfl)
  have hiO := Option.some_get (show (Try.prog.info? 34).isSome = true by kernel_rfl)
  have hi0 : (0 : Int) ≤ j := by omega
  have hi1 : decide ((j : Int) < n6) = true := by simp; omega
  have hi3 : decide (j < n6) = true := by simp; omega
  have hi4 : (j : Int) < n6 := by omega
  have hw1 : IntKind.wrap .i64 ((j : Int) + 1) = (j : Int) + 1 := by rw [IntKind.wrap_i64]; omega
  have hcell : ∀ {y : Nat} {v : Value}, W.cell? ⟨ob, y, none⟩ = some v → w.cell? ⟨ob, y, none⟩ = some v := fun {y v} h => (World.cell?_of_block (a := ⟨ob, y, none⟩) (H.old ob (cell_lt' h))).trans h
  have hcs : ∀ (y : Nat) (v : Value), ([.int .i64 o.k, .int .i64 o.a, .int .i64 o.b, .int .i64 o.c] : List Value)[y]? = some v → w.cell? ⟨ob, oo + j * 4 + y, none⟩ = some v := fun y v hv => by
    match y, hv with
    | 0, hv => cases hv; exact hcell o0
    | 1, hv => cases hv; exact hcell o1
    | 2, hv => cases hv; exact hcell o2
    | 3, hv => cases hv; exact hcell o3
  clear o0 o1 o2 o3 hcell
  have hHs := H.size
  have hrow0 := H.row
  have hold0 := H.old
  rw [hpj] at hrow0
  obtain ⟨r1, r1'⟩ := u64_range o.k
  obtain ⟨r2, r2'⟩ := u64_range o.a
  obtain ⟨r3, r3'⟩ := u64_range o.c
  have hro : opRow pre ++ [.int .i64 (1 + (IntKind.u64.wrap o.k).tmod 4), .int .i64 ((IntKind.u64.wrap o.a).tmod n), .int .i64 o.b, .int .i64 ((IntKind.u64.wrap o.c).tmod 5)] = opRow (pre ++ [fewO n o]) := by simp [opRow, fewO]
  have hlen : (pre ++ [fewO n o]).length = j + 1 := by simp [hpj]
  generalize hPre : pre ++ [fewO n o] = pre' at *
  have v1 := fun w => (cvU1 o.k w #[]).1
  have v2 := fun w es => (cvU1 o.k w es).2
  have v3 := fun w => (cvU3 o.a w #[]).1
  have v4 := fun w es => (cvU3 o.a w es).2
  have v5 := fun w => (cvU3 o.c w #[]).1
  have v6 := fun w es => (cvU3 o.c w es).2
  have v7 := fun w => (cvU4 (n : Int) w #[]).1
  have v8 := fun w es => (cvU4 (n : Int) w es).2
  have hwn : IntKind.u64.wrap (n : Int) = (n : Int) := by rw [IntKind.wrap_u64]; omega
  rw [hwn] at v7
  obtain ⟨ko, ka, kb, kc⟩ := o
  dsimp only at *
  generalize hU1 : IntKind.u64.wrap ko = U1 at *
  generalize hU2 : IntKind.u64.wrap ka = U2 at *
  generalize hU3 : IntKind.u64.wrap kc = U3 at *
  have a1 := Int.tmod_lt_of_pos U1 (show (0 : Int) < 4 by decide)
  have a2 := Int.tmod_lt_of_pos U2 (show (0 : Int) < (n : Int) by omega)
  have a3 := Int.tmod_lt_of_pos U3 (show (0 : Int) < 5 by decide)
  have b1 := Int.tmod_nonneg 4 r1
  have b2 := Int.tmod_nonneg n r2
  have b3 := Int.tmod_nonneg 5 r3
  have m1 : IntKind.u64.wrap (U1.tmod 4) = U1.tmod 4 := by rw [IntKind.wrap_u64]; omega
  have m2 : IntKind.u64.wrap (U2.tmod n) = U2.tmod n := by rw [IntKind.wrap_u64]; omega
  have m3 : IntKind.u64.wrap (U3.tmod 5) = U3.tmod 5 := by rw [IntKind.wrap_u64]; omega
  have x1 := fun w => (cvU2 (U1.tmod 4) w #[]).1
  have x2 := fun w es => (cvU2 (U1.tmod 4) w es).2
  have x3 := fun w => (cvU5 (U2.tmod n) w #[]).1
  have x4 := fun w es => (cvU5 (U2.tmod n) w es).2
  have x5 := fun w => (cvU5 (U3.tmod 5) w #[]).1
  have x6 := fun w es => (cvU5 (U3.tmod 5) w es).2
  have e1 : IntKind.i64.wrap (U1.tmod 4) = U1.tmod 4 := by rw [IntKind.wrap_i64]; omega
  have e2 : IntKind.i64.wrap (U2.tmod n) = U2.tmod n := by rw [IntKind.wrap_i64]; omega
  have e3 : IntKind.i64.wrap (U3.tmod 5) = U3.tmod 5 := by rw [IntKind.wrap_i64]; omega
  have e4 : IntKind.i64.wrap (1 + U1.tmod 4) = 1 + U1.tmod 4 := by rw [IntKind.wrap_i64]; omega
  rw [e1] at x1
  rw [e2] at x3
  rw [e3] at x5
  have hnz : ((n : Int) == 0) = false := by simp; omega
  have hnz' : ¬ (n : Int) = 0 := by omega
  have hnz2 : ¬ n = 0 := by omega
  generalize hR1 : U1.tmod 4 = R1 at *
  generalize hR2 : U2.tmod n = R2 at *
  generalize hR3 : U3.tmod 5 = R3 at *
  clear r1 r1' r2 r2' r3 r3' a1 a2 a3 b1 b2 b3
  unfold hdFi
  repeat (first | refine Walk.c rfl ?_ | refine Walk.cRet ?_ | refine Walk.cEnd ?_ | (refine Walk.cReg ?_; simp only [size17_0, size17_1, size17_2, size17_3, size17_4, size17_5, size17_6, size17_7, size17_8, size17_9, size17_10, size17_11, size17_12, size17_13, size17_14, size17_15, size17_16, List.range, List.range.loop]) | (refine Walk.oq ?_; try walk_nrm) | (refine Walk.un ?_; walk_nrm))
  refine Walk.loadS 34 (.tmp 29) (ho_of (by conv => lhs; whnf) (by kernel_rfl)) (by rfl) (by decide) rfl ob (oo + j * 4) [.int .i64 ko, .int .i64 ka, .int .i64 kb, .int .i64 kc] (.struct fsO) rfl hcs huO rfl (by kernel_rfl) ?_
  walk_nrm
  clear hcs
  (refine Walk.oa ?_; try walk_nrm)
  have d1 := heap_alloc_new w (.cells #[.int .i64 0, .int .i64 0, .int .i64 0, .int .i64 0] 34)
  have p1 : ∀ b, b < w.heap.size → (w.alloc (.cells #[.int .i64 0, .int .i64 0, .int .i64 0, .int .i64 0] 34)).heap[b]? = w.heap[b]? := fun b hb => heap_new_lt _ _ hb
  have s1 : (w.alloc (.cells #[.int .i64 0, .int .i64 0, .int .i64 0, .int .i64 0] 34)).heap.size = w.heap.size + 1 := by simp
  generalize hQ : w.heap.size = Q at *
  generalize w.alloc (.cells #[.int .i64 0, .int .i64 0, .int .i64 0, .int .i64 0] 34) = w1 at *
  repeat (first | (refine Walk.oq ?_; try walk_nrm) | (refine Walk.un ?_; walk_nrm))
  refine Walk.storeS 34 (.tmp 10) (.tmp 30) (ho_of (by conv => lhs; whnf) (by kernel_rfl)) (by rfl) (by decide) rfl Q #[.int .i64 ko, .int .i64 ka, .int .i64 kb, .int .i64 kc] _ 34 rfl rfl d1 (by kernel_rfl) (by rfl) (by simp [Value.oneCell']) (ap0 _) ?_
  have d2 := setRow_self (cells := #[.int .i64 ko, .int .i64 ka, .int .i64 kb, .int .i64 kc]) d1
  have p2 : ∀ b, b < Q → (w1.setRow Q #[.int .i64 ko, .int .i64 ka, .int .i64 kb, .int .i64 kc]).heap[b]? = w.heap[b]? := fun b hb => (setRow_other _ _ (by omega)).trans (p1 b hb)
  have s2 := (setRow_size w1 Q #[.int .i64 ko, .int .i64 ka, .int .i64 kb, .int .i64 kc]).trans s1
  clear d1 p1 s1
  generalize w1.setRow Q #[.int .i64 ko, .int .i64 ka, .int .i64 kb, .int .i64 kc] = w2 at *
  have n2 : w2.cell? ⟨Q, 0, none⟩ = some (.int .i64 ko) := (cell_of d2 0).trans rfl
  have y2 := frozen_of d2 0
  try walk_nrm
  repeat (first | refine Walk.c rfl ?_ | refine Walk.cRet ?_ | refine Walk.cEnd ?_ | (refine Walk.cReg ?_; simp only [size17_0, size17_1, size17_2, size17_3, size17_4, size17_5, size17_6, size17_7, size17_8, size17_9, size17_10, size17_11, size17_12, size17_13, size17_14, size17_15, size17_16, List.range, List.range.loop]) | (refine Walk.oq ?_; try walk_nrm) | (refine Walk.un ?_; walk_nrm))
  (have hfr := fr0 Q 0; refine Walk.os hfr n2 ?_; clear hfr; try walk_nrm)
  have d3 : (w2.setCell ⟨Q, 0, none⟩ (.int .i64 (1 + R1))).heap[Q]? = some (.cells #[.int .i64 (1 + R1), .int .i64 ka, .int .i64 kb, .int .i64 kc] 34) := by
    rw [heap_set_self _ _ d2]
    simp
  have p3 : ∀ b, b < Q → (w2.setCell ⟨Q, 0, none⟩ (.int .i64 (1 + R1))).heap[b]? = w.heap[b]? := fun b hb => (heap_set_other _ _ _ _ (by show b ≠ Q; omega)).trans (p2 b hb)
  have s3 : (w2.setCell ⟨Q, 0, none⟩ (.int .i64 (1 + R1))).heap.size = Q + 1 := (size_set _ _ _).trans s2
  clear d2 p2 s2 n2 y2
  generalize w2.setCell ⟨Q, 0, none⟩ (.int .i64 (1 + R1)) = w3 at *
  have n3 : w3.cell? ⟨Q, 1, none⟩ = some (.int .i64 ka) := (cell_of d3 1).trans rfl
  have y3 := frozen_of d3 1
  try walk_nrm
  repeat (first | refine Walk.c rfl ?_ | refine Walk.cRet ?_ | refine Walk.cEnd ?_ | (refine Walk.cReg ?_; simp only [size17_0, size17_1, size17_2, size17_3, size17_4, size17_5, size17_6, size17_7, size17_8, size17_9, size17_10, size17_11, size17_12, size17_13, size17_14, size17_15, size17_16, List.range, List.range.loop]) | (refine Walk.oq ?_; try walk_nrm) | (refine Walk.un ?_; walk_nrm))
  (have hfr := fr0 Q 1; refine Walk.os hfr n3 ?_; clear hfr; try walk_nrm)
  have d4 : (w3.setCell ⟨Q, 1, none⟩ (.int .i64 R2)).heap[Q]? = some (.cells #[.int .i64 (1 + R1), .int .i64 R2, .int .i64 kb, .int .i64 kc] 34) := by
    rw [heap_set_self _ _ d3]
    simp
  have p4 : ∀ b, b < Q → (w3.setCell ⟨Q, 1, none⟩ (.int .i64 R2)).heap[b]? = w.heap[b]? := fun b hb => (heap_set_other _ _ _ _ (by show b ≠ Q; omega)).trans (p3 b hb)
  have s4 : (w3.setCell ⟨Q, 1, none⟩ (.int .i64 R2)).heap.size = Q + 1 := (size_set _ _ _).trans s3
  clear d3 p3 s3 n3 y3
  generalize w3.setCell ⟨Q, 1, none⟩ (.int .i64 R2) = w4 at *
  have n4 : w4.cell? ⟨Q, 3, none⟩ = some (.int .i64 kc) := (cell_of d4 3).trans rfl
  have y4 := frozen_of d4 3
  try walk_nrm
  repeat (first | refine Walk.c rfl ?_ | refine Walk.cRet ?_ | refine Walk.cEnd ?_ | (refine Walk.cReg ?_; simp only [size17_0, size17_1, size17_2, size17_3, size17_4, size17_5, size17_6, size17_7, size17_8, size17_9, size17_10, size17_11, size17_12, size17_13, size17_14, size17_15, size17_16, List.range, List.range.loop]) | (refine Walk.oq ?_; try walk_nrm) | (refine Walk.un ?_; walk_nrm))
  (have hfr := fr0 Q 3; refine Walk.os hfr n4 ?_; clear hfr; try walk_nrm)
  have d5 : (w4.setCell ⟨Q, 3, none⟩ (.int .i64 R3)).heap[Q]? = some (.cells #[.int .i64 (1 + R1), .int .i64 R2, .int .i64 kb, .int .i64 R3] 34) := by
    rw [heap_set_self _ _ d4]
    simp
  have p5 : ∀ b, b < Q → (w4.setCell ⟨Q, 3, none⟩ (.int .i64 R3)).heap[b]? = w.heap[b]? := fun b hb => (heap_set_other _ _ _ _ (by show b ≠ Q; omega)).trans (p4 b hb)
  have s5 : (w4.setCell ⟨Q, 3, none⟩ (.int .i64 R3)).heap.size = Q + 1 := (size_set _ _ _).trans s4
  clear d4 p4 s4 n4 y4
  generalize w4.setCell ⟨Q, 3, none⟩ (.int .i64 R3) = w5 at *
  repeat (first | refine Walk.c rfl ?_ | refine Walk.cRet ?_ | refine Walk.cEnd ?_ | (refine Walk.cReg ?_; simp only [size17_0, size17_1, size17_2, size17_3, size17_4, size17_5, size17_6, size17_7, size17_8, size17_9, size17_10, size17_11, size17_12, size17_13, size17_14, size17_15, size17_16, List.range, List.range.loop]) | (refine Walk.oq ?_; try walk_nrm) | (refine Walk.un ?_; walk_nrm))
  refine Walk.loadS 34 (.tmp 10) (ho_of (by conv => lhs; whnf) (by kernel_rfl)) (by rfl) (by decide) rfl Q 0 [.int .i64 (1 + R1), .int .i64 R2, .int .i64 kb, .int .i64 R3] (.struct fsO) rfl (fun y v hv => ?_) huO rfl (by kernel_rfl) ?_
  · rw [Nat.zero_add, cell_of d5]
    simpa using hv
  walk_nrm
  (refine Walk.oa ?_; try walk_nrm)
  have d6 := heap_alloc_new w5 (.cells #[.int .i64 (1 + R1), .int .i64 R2, .int .i64 kb, .int .i64 R3] 34)
  have p6 : ∀ b, b < Q → (w5.alloc (.cells #[.int .i64 (1 + R1), .int .i64 R2, .int .i64 kb, .int .i64 R3] 34)).heap[b]? = w.heap[b]? := fun b hb => (heap_new_lt _ _ (by omega)).trans (p5 b hb)
  have s6 : (w5.alloc (.cells #[.int .i64 (1 + R1), .int .i64 R2, .int .i64 kb, .int .i64 R3] 34)).heap.size = Q + 2 := by simp [s5]
  have hrow6 : (w5.alloc (.cells #[.int .i64 (1 + R1), .int .i64 R2, .int .i64 kb, .int .i64 R3] 34)).ownsRow W.heap.size 34 4 (.slice oa j oc) j (opRow pre) := row_same hrow0 fun b hb => p6 b (by have := (hrow0.lt b hb).2; omega)
  rw [s5] at d6
  try simp only [s5]
  generalize w5.alloc (.cells #[.int .i64 (1 + R1), .int .i64 R2, .int .i64 kb, .int .i64 R3] 34) = w6 at *
  clear d5 p5 s5
  repeat (first | (refine Walk.oq ?_; try walk_nrm) | (refine Walk.un ?_; walk_nrm))
  refine Walk.append (.tmp 52) (.tmp 54) 32 (ho_of (by conv => lhs; whnf) (by kernel_rfl)) (by rfl) (by decide) rfl W.heap.size 34 _ (.agg #[.int .i64 0, .int .i64 0, .int .i64 0, .int .i64 0]) 4 32 (by kernel_rfl) hiO.symm (by rfl) (by rfl) (by rfl) (by rfl) (by decide) (.slice oa j oc) j (opRow pre) rfl hrow6 ⟨Q + 1, 0, none⟩ 1 1 [.int .i64 (1 + R1), .int .i64 R2, .int .i64 kb, .int .i64 R3] rfl (by rfl) (fun y v hv => ?_) (by intro v hv; simp only [List.mem_cons, List.not_mem_nil, or_false] at hv; rcases hv with rfl | rfl | rfl | rfl <;> rfl) (by decide) (by simp [maxLen]; omega) (by omega) (by omega) (fun b _ => ap0 b) (fun g gcap w7 hown hgr hat hlt => ?_)
  · rw [add_none, Nat.zero_add]
    refine (cell_of d6 y).trans ?_
    simpa using hv
  have s7 := hgr.size
  have hne : ∀ b, b < W.heap.size → w7.heap[b]? = w6.heap[b]? := fun b hb => hgr.block b (by omega) fun he => by have := (hrow6.lt b he.symm).1; omega
  rw [hro] at hown
  walk_nrm
  repeat (first | refine Walk.c rfl ?_ | refine Walk.cRet ?_ | refine Walk.cEnd ?_ | (refine Walk.cReg ?_; simp only [size17_0, size17_1, size17_2, size17_3, size17_4, size17_5, size17_6, size17_7, size17_8, size17_9, size17_10, size17_11, size17_12, size17_13, size17_14, size17_15, size17_16, List.range, List.range.loop]) | (refine Walk.oq ?_; try walk_nrm) | (refine Walk.un ?_; walk_nrm))
  refine Walk.ctl rfl (fun w => stepG_inLoop) ?_
  refine .stop fun d => ⟨some ⟨g, 0, none⟩, gcap, at_slots ?_, ⟨by rw [hlen]; exact hown, fun b hb => (hne b hb).trans ((p6 b (by omega)).trans (hold0 b hb)), ?_⟩⟩
  · have hc : ((j + 1 : Nat) : Int) = (j : Int) + 1 := by simp
    simp only [hdFi, hc]
    rfl
  · show W.heap.size ≤ w7.heap.size
    omega
theorem few_ops (tv : Value) (n : Nat) (ov xv : Value) (n4 i : Nat) (ya : Option Addr) (ob oo n6 yc : Nat) (ops : List OpV) (hlen : ops.length = n6) (hn6 : n6 ≤ 6) (hya : 0 < n6 → ya = some ⟨ob, oo, none⟩) (hn : 0 < n) (hnn : n ≤ 64) (cs : List Frame) (W : World)
    (hop : ∀ (j : Nat) (o : OpV), ops[j]? = some o → W.cell? ⟨ob, oo + j * 4, none⟩ = some (.int .i64 o.k) ∧ W.cell? ⟨ob, oo + j * 4 + 1, none⟩ = some (.int .i64 o.a) ∧ W.cell? ⟨ob, oo + j * 4 + 2, none⟩ = some (.int .i64 o.b) ∧ W.cell? ⟨ob, oo + j * 4 + 3, none⟩ = some (.int .i64 o.c)) :
    ∀ (r j : Nat) (oa : Option Addr) (oc : Nat) (u : Nat → Value) (w : World), j + r = n6 → OwI W w ((ops.take j).map (fewO n)) oa oc →
    Walk Try.prog main (DR (fun _ => none)) (fun g w' => ∃ oa oc, (∃ u, g = G (hdFi tv n ov xv n4 i (.slice oa n6 oc) (.slice ya n6 yc) n6 n6 u) cs) ∧ OwI W w' (ops.map (fewO n)) oa oc) (G (hdFi tv n ov xv n4 i (.slice oa j oc) (.slice ya n6 yc) n6 j u) cs) w := by
  intro r
  induction r with
  | zero =>
    intro j oa oc u w hj H
    obtain rfl : j = n6 := hj
    rw [List.take_of_length_le (by omega)] at H
    exact .stop fun d => ⟨oa, oc, ⟨u, rfl⟩, H.row, H.old, H.size⟩
  | succ r ih =>
    intro j oa oc u w hj H
    have hjo : j < ops.length := by omega
    have hget : ops[j]? = some ops[j] := List.getElem?_eq_getElem hjo
    obtain ⟨k0, k1, k2, k3⟩ := hop j _ hget
    obtain rfl := hya (by omega)
    refine (few_round tv n ov xv n4 i ob oo n6 yc j _ (ops[j]) oa oc (by simp; omega) (by omega) hn6 hn hnn u cs W w H k0 k1 k2 k3).then ?_
    rintro _ w1 ⟨oa1, oc1, ⟨u1, rfl⟩, H1⟩
    have ht : (ops.take j).map (fewO n) ++ [fewO n ops[j]] = (ops.take (j + 1)).map (fewO n) := by
      rw [List.take_succ_eq_append_getElem hjo, List.map_append]
      rfl
    rw [ht] at H1
    exact ih (j + 1) oa1 oc1 u1 w1 (by omega) H1
end
end
end Go.Proofs.Ytdcjgmlgmjjogaa
