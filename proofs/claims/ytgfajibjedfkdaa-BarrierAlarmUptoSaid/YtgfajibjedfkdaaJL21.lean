/- Part 21. -/
import Derived.Test.YtgfajibjedfkdaaJL20
set_option linter.unusedSimpArgs false
set_option linter.unusedVariables false
set_option maxHeartbeats 8000000
set_option maxRecDepth 100000
namespace Go.Proofs.Ytgfajibjedfkdaa
open Go.Conc Go.RowKit Go.Relay
open Go.ConcN (upd upd_ne upd_same)
section
def CallP (main : Bool) (V : Nat → Option Wait) (f : FuncId) (args : Array Value) (w : World) (Post : Value → World → Prop) : Prop :=
  ∀ (c : Frame) (cs : List Frame), Plain c → Walk Try.prog main (DR V) (fun g w' => ∃ v, Post v w' ∧ g = G (c.finish v) cs) (G (Frame.enter Try.prog f args .normal) (c :: cs)) w
section
variable {main : Bool} {V : Nat → Option Wait} {Stop : Goroutine → World → Prop} {w : World} {b : Frame} {a : Act} {k : List Item} {cs : List Frame} {ops : Array Oper} {i : Nat} {rest : List Nat} {o : Oper}
theorem CallP.mono {f : FuncId} {args : Array Value} {Post Post' : Value → World → Prop} (h : CallP main V f args w Post) (hP : ∀ v w', Post v w' → Post' v w') : CallP main V f args w Post' :=
  fun c cs hp => (h c cs hp).mono fun g w' ⟨v, hv, e⟩ => ⟨v, hP v w' hv, e⟩
theorem CallP.lone {L : La} {f : FuncId} {args : Array Value} {Rel : Value → Ans → World → (Nat → Prop) → Prop} {R : L.Sg × Ans} (N : Nat) (y0 : L.Gh) (s : L.Sg) (r0 : Ans ⊕ L.D) (hat : ∀ v x w' P d, Rel v x w' P → Rel v x (w'.at d) P) (hA : ∀ b, Apart V b) (hI : L.I y0 s w) (hrun : runN L N (s, r0) = some R)
    (hc : ∀ (K : Lg L .nilIface) (e : K.E), K.w e = w → K.tgt e = (K.s e, r0) → SCall K.toLb f args e (fun v e' => ∃ x, Rel v x (K.w e') (K.mine e') ∧ K.tgt e' = (K.s e', .inl x))) :
    CallP main V f args w (fun v w' => ∃ y, Rel v R.2 w' (fun b => (w.heap.size ≤ b ∧ b < w'.heap.size) ∧ ¬ L.sh y b) ∧ Lone L y0 w R w' y) := by
  intro c cs hp
  have key := hc (nilL (V := V) hA main (fun g w' => ∃ v, (∃ y, Rel v R.2 w' (fun b => (w.heap.size ≤ b ∧ b < w'.heap.size) ∧ ¬ L.sh y b) ∧ Lone L y0 w R w' y) ∧ g = G (c.finish v) cs) cs y0 w R) { w := w, y := y0, s := s, tgt := (s, r0), fuel := N, le := L.refl _, inv := hI, size := Nat.le_refl _, old := fun _ _ _ => rfl, pub := fun _ h _ => h, run := hrun } rfl rfl c [] hp (fun _ h => by cases h) ?_
  · exact key
  · rintro v e' ⟨x, hr, ht⟩
    have hrn := e'.run
    have ht : e'.tgt = (e'.s, .inl x) := ht
    rw [ht, runN_inl] at hrn
    have hR := Option.some.inj hrn
    have r1 : R.1 = e'.s := (congrArg Prod.fst hR).symm
    have r2 : R.2 = x := (congrArg Prod.snd hR).symm
    refine .stop fun d => ⟨v, ⟨e'.y, ?_, ⟨e'.le, ?_, e'.size, fun b h1 h2 => e'.old b h1 h2, e'.pub⟩⟩, rfl⟩
    · rw [r2]
      exact hat _ _ _ _ d hr
    · rw [r1]; exact L.stable e'.inv fun _ _ => rfl
end
end
structure Closing (f : FuncId) (t : Tmp) (v : Value) (g : Goroutine) : Prop where
  all : ∃ fr, g = G fr [] ∧ fr.mode = .returning ∧ fr.kind = .normal ∧ fr.defers = [] ∧ fr.fn = f ∧ fr.tmps.getD t undef = v
section
noncomputable def reg4_0 : Array Oper := match Try.f4.body with | some (.seq (.region _ ops _) _) => ops | _ => #[]
theorem size4_0 : reg4_0.size = 1 := by kernel_rfl
noncomputable def reg4_1 : Array Oper := match Try.f4.body with | some (.seq _ (.seq (.seq (.region _ ops _) _) _)) => ops | _ => #[]
theorem size4_1 : reg4_1.size = 2 := by kernel_rfl
noncomputable def reg4_2 : Array Oper := match Try.f4.body with | some (.seq _ (.seq (.seq _ (.cond _ (.seq (.region _ ops _) _) _)) _)) => ops | _ => #[]
theorem size4_2 : reg4_2.size = 1 := by kernel_rfl
noncomputable def reg4_3 : Array Oper := match Try.f4.body with | some (.seq _ (.seq _ (.seq (.region _ ops _) _))) => ops | _ => #[]
theorem size4_3 : reg4_3.size = 3 := by kernel_rfl
noncomputable def reg4_4 : Array Oper := match Try.f4.body with | some (.seq _ (.seq _ (.seq _ (.seq (.seq (.region _ ops _) _) _)))) => ops | _ => #[]
theorem size4_4 : reg4_4.size = 3 := by kernel_rfl
noncomputable def reg4_5 : Array Oper := match Try.f4.body with | some (.seq _ (.seq _ (.seq _ (.seq (.seq _ (.block _ (.loop (.seq (.region _ ops _) _)))) _)))) => ops | _ => #[]
theorem size4_5 : reg4_5.size = 1 := by kernel_rfl
noncomputable def reg4_6 : Array Oper := match Try.f4.body with | some (.seq _ (.seq _ (.seq _ (.seq (.seq _ (.block _ (.loop (.seq _ (.seq _ (.seq (.block _ (.seq (.region _ ops _) _)) _)))))) _)))) => ops | _ => #[]
theorem size4_6 : reg4_6.size = 3 := by kernel_rfl
noncomputable def reg4_7 : Array Oper := match Try.f4.body with | some (.seq _ (.seq _ (.seq _ (.seq (.seq _ (.block _ (.loop (.seq _ (.seq _ (.seq (.block _ (.seq _ (.region _ ops _))) _)))))) _)))) => ops | _ => #[]
theorem size4_7 : reg4_7.size = 12 := by kernel_rfl
noncomputable def reg4_8 : Array Oper := match Try.f4.body with | some (.seq _ (.seq _ (.seq _ (.seq (.seq _ (.block _ (.loop (.seq _ (.seq _ (.seq _ (.region _ ops _))))))) _)))) => ops | _ => #[]
theorem size4_8 : reg4_8.size = 2 := by kernel_rfl
noncomputable def reg4_9 : Array Oper := match Try.f4.body with | some (.seq _ (.seq _ (.seq _ (.seq _ (.seq (.region _ ops _) _))))) => ops | _ => #[]
theorem size4_9 : reg4_9.size = 7 := by kernel_rfl
noncomputable def reg4_10 : Array Oper := match Try.f4.body with | some (.seq _ (.seq _ (.seq _ (.seq _ (.seq _ (.seq (.region _ ops _) _)))))) => ops | _ => #[]
theorem size4_10 : reg4_10.size = 5 := by kernel_rfl
noncomputable def reg4_11 : Array Oper := match Try.f4.body with | some (.seq _ (.seq _ (.seq _ (.seq _ (.seq _ (.seq _ (.seq (.seq (.region _ ops _) _) _))))))) => ops | _ => #[]
theorem size4_11 : reg4_11.size = 31 := by kernel_rfl
noncomputable def reg4_12 : Array Oper := match Try.f4.body with | some (.seq _ (.seq _ (.seq _ (.seq _ (.seq _ (.seq _ (.seq (.seq _ (.cond _ (.seq (.region _ ops _) _) _)) _))))))) => ops | _ => #[]
theorem size4_12 : reg4_12.size = 1 := by kernel_rfl
noncomputable def reg4_13 : Array Oper := match Try.f4.body with | some (.seq _ (.seq _ (.seq _ (.seq _ (.seq _ (.seq _ (.seq _ (.seq (.region _ ops _) _)))))))) => ops | _ => #[]
theorem size4_13 : reg4_13.size = 11 := by kernel_rfl
noncomputable def reg4_14 : Array Oper := match Try.f4.body with | some (.seq _ (.seq _ (.seq _ (.seq _ (.seq _ (.seq _ (.seq _ (.seq _ (.seq (.seq (.region _ ops _) _) _))))))))) => ops | _ => #[]
theorem size4_14 : reg4_14.size = 20 := by kernel_rfl
noncomputable def reg4_15 : Array Oper := match Try.f4.body with | some (.seq _ (.seq _ (.seq _ (.seq _ (.seq _ (.seq _ (.seq _ (.seq _ (.seq (.seq _ (.cond _ (.seq (.region _ ops _) _) _)) _))))))))) => ops | _ => #[]
theorem size4_15 : reg4_15.size = 1 := by kernel_rfl
noncomputable def reg4_16 : Array Oper := match Try.f4.body with | some (.seq _ (.seq _ (.seq _ (.seq _ (.seq _ (.seq _ (.seq _ (.seq _ (.seq _ (.seq (.seq (.region _ ops _) _) _)))))))))) => ops | _ => #[]
theorem size4_16 : reg4_16.size = 17 := by kernel_rfl
noncomputable def reg4_17 : Array Oper := match Try.f4.body with | some (.seq _ (.seq _ (.seq _ (.seq _ (.seq _ (.seq _ (.seq _ (.seq _ (.seq _ (.seq (.seq _ (.cond _ (.seq (.region _ ops _) _) _)) _)))))))))) => ops | _ => #[]
theorem size4_17 : reg4_17.size = 1 := by kernel_rfl
noncomputable def reg4_18 : Array Oper := match Try.f4.body with | some (.seq _ (.seq _ (.seq _ (.seq _ (.seq _ (.seq _ (.seq _ (.seq _ (.seq _ (.seq _ (.seq (.region _ ops _) _))))))))))) => ops | _ => #[]
theorem size4_18 : reg4_18.size = 8 := by kernel_rfl
noncomputable def reg4_19 : Array Oper := match Try.f4.body with | some (.seq _ (.seq _ (.seq _ (.seq _ (.seq _ (.seq _ (.seq _ (.seq _ (.seq _ (.seq _ (.seq _ (.seq (.region _ ops _) _)))))))))))) => ops | _ => #[]
theorem size4_19 : reg4_19.size = 3 := by kernel_rfl
theorem code4_is : Try.f4.body = some (.seq (.region 0 reg4_0 false) (.seq (.seq (.region 1 reg4_1 false) (.cond (.tmp 16 ) (.seq (.region 2 reg4_2 false) (.ret)) (.skip))) (.seq (.region 3 reg4_3 false) (.seq (.seq (.region 4 reg4_4 false) (.block 0 (.loop (.seq (.region 5 reg4_5 false) (.seq (.cond (.tmp 22 ) (.skip) (.exit 0)) (.seq (.block 1 (.seq (.region 6 reg4_6 false) (.region 7 reg4_7 false))) (.region 8 reg4_8 false))))))) (.seq (.region 9 reg4_9 false) (.seq (.region 10 reg4_10 false) (.seq (.seq (.region 11 reg4_11 false) (.cond (.tmp 76 ) (.seq (.region 12 reg4_12 false) (.ret)) (.skip))) (.seq (.region 13 reg4_13 false) (.seq (.seq (.region 14 reg4_14 false) (.cond (.tmp 105 ) (.seq (.region 15 reg4_15 false) (.ret)) (.skip))) (.seq (.seq (.region 16 reg4_16 false) (.cond (.tmp 122 ) (.seq (.region 17 reg4_17 false) (.ret)) (.skip))) (.seq (.region 18 reg4_18 false) (.seq (.region 19 reg4_19 false) (.ret))))))))))))) := by kernel_rfl
noncomputable def hdAl (R : Nat) (nv : Value) (tries way : Int) (L i : Nat) (u : Nat → Value) : Frame :=
  (base 4).at { tmps := #[u 0, .int .i64 tries, .int .u8 way, u 3, u 4, u 5, u 6, .pointer (some ⟨R, 0, none⟩), u 8, u 9, u 10, u 11, u 12, u 13, u 14, u 15, u 16, u 17, u 18, nv, .int .i64 L, .int .i64 i, u 22, u 23, u 24, u 25, u 26, u 27, u 28, u 29, u 30, u 31, u 32, u 33, u 34, u 35, u 36, u 37, u 38, u 39, u 40, u 41, u 42, u 43, u 44, u 45, u 46, u 47, u 48, u 49, u 50, u 51, u 52, u 53, u 54, u 55, u 56, u 57, u 58, u 59, u 60, u 61, u 62, u 63, u 64, u 65, u 66, u 67, u 68, u 69, u 70, u 71, u 72, u 73, u 74, u 75, u 76, u 77, u 78, u 79, u 80, u 81, u 82, u 83, u 84, u 85, u 86, u 87, u 88, u 89, u 90, u 91, u 92, u 93, u 94, u 95, u 96, u 97, u 98, u 99, u 100, u 101, u 102, u 103, u 104, u 105, u 106, u 107, u 108, u 109, u 110, u 111, u 112, u 113, u 114, u 115, u 116, u 117, u 118, u 119, u 120, u 121, u 122, u 123, u 124, u 125, u 126, u 127, u 128, u 129, u 130, u 131], defers := [] } [.code (.seq (.region 5 reg4_5 false) (.seq (.cond (.tmp 22 ) (.skip) (.exit 0)) (.seq (.block 1 (.seq (.region 6 reg4_6 false) (.region 7 reg4_7 false))) (.region 8 reg4_8 false)))), .inLoop (.seq (.region 5 reg4_5 false) (.seq (.cond (.tmp 22 ) (.skip) (.exit 0)) (.seq (.block 1 (.seq (.region 6 reg4_6 false) (.region 7 reg4_7 false))) (.region 8 reg4_8 false)))), .inBlock 0, .code (.seq (.region 9 reg4_9 false) (.seq (.region 10 reg4_10 false) (.seq (.seq (.region 11 reg4_11 false) (.cond (.tmp 76 ) (.seq (.region 12 reg4_12 false) (.ret)) (.skip))) (.seq (.region 13 reg4_13 false) (.seq (.seq (.region 14 reg4_14 false) (.cond (.tmp 105 ) (.seq (.region 15 reg4_15 false) (.ret)) (.skip))) (.seq (.seq (.region 16 reg4_16 false) (.cond (.tmp 122 ) (.seq (.region 17 reg4_17 false) (.ret)) (.skip))) (.seq (.region 18 reg4_18 false) (.seq (.region 19 reg4_19 false) (.ret)))))))))]
theorem cvU8 (k : Int) (w : World) (es : Array Event) : (convert 5 2 (.int .u8 k)).run Try.prog w = .ok (.int .i64 (IntKind.i64.wrap k)) w ∧ (convert 5 2 (.int .u8 k)).events Try.prog w es = es := by
  have h := run_convert_int (P := Try.prog) (w := w) 5 2 .u8 k (by kernel_rfl) (by kernel_rfl)
  have h2 := events_convert_int (P := Try.prog) (w := w) 5 2 .u8 k (by kernel_rfl) (by kernel_rfl) es
  exact ⟨h, h2⟩
theorem huI64 : Try.prog.underlying 28 = some (.slice 2) := by kernel_rfl
theorem tiI64 : ∃ ti, Try.prog.info? 2 = some ti ∧ ti.size = 1 ∧ ti.zero = some (.int .i64 0) ∧ ti.bytes = 8 := by
  obtain ⟨ti, h⟩ := Option.isSome_iff_exists.1 (show (Try.prog.info? 2).isSome = true by kernel_rfl)
  have h2 : (Try.prog.info? 2).map (·.size) = some 1 := by kernel_rfl
  have h3 : (Try.prog.info? 2).map (·.zero) = some (some (.int .i64 0)) := by kernel_rfl
  have h4 : (Try.prog.info? 2).map (·.bytes) = some 8 := by kernel_rfl
  rw [h] at h2 h3 h4
  exact ⟨ti, h, Option.some.inj h2, Option.some.inj h3, Option.some.inj h4⟩
structure GrI (W0 : World) (R : Nat) (l : List Int) (v : Value) (w : World) : Prop where
  src : w.heap[R]? = some (.cells #[v, .int .i64 0] 30)
  row : w.ownsRow (R + 1) 2 1 v l.length (l.map fun z => .int .i64 z)
  old : ∀ b, b < R → w.heap[b]? = W0.heap[b]?
  lt : R < w.heap.size
theorem GrI.at {W0 : World} {R : Nat} {l : List Int} {v : Value} {w : World} (h : GrI W0 R l v w) (d : Nat) : GrI W0 R l v (w.at d) := ⟨h.src, row_same h.row fun _ _ => rfl, h.old, h.lt⟩
theorem GrI.shape {W0 : World} {R : Nat} {l : List Int} {v : Value} {w : World} (h : GrI W0 R l v w) : ∃ a c, v = .slice a l.length c := by
  rcases h.row.2 with ⟨e, e0⟩ | ⟨g, cap, cur, e, _⟩
  · exact ⟨none, 0, by rw [e, e0]⟩
  · exact ⟨_, _, e⟩
theorem GrI.num {W0 : World} {R : Nat} {l : List Int} {v : Value} {w : World} (h : GrI W0 R l v w) (hl : l ≠ []) : ∃ (b : Nat) (arr : Array Value) (c : Nat), v = .slice (some ⟨b, 0, none⟩) l.length c ∧ R < b ∧ w.heap[b]? = some (.cells arr 2) ∧ ∀ (j : Nat) (z : Int), l[j]? = some z → arr[j]? = some (.int .i64 z) := by
  rcases h.row.2 with ⟨e, e0⟩ | ⟨g, cap, cur, e, hb, hg, hle, hmx, hsz, ht⟩
  · exact absurd (List.eq_nil_of_length_eq_zero e0) hl
  · refine ⟨g, cur, cap, e, hb, hg, fun j z hj => ?_⟩
    have hlt := (List.getElem?_eq_some_iff.1 hj).1
    have h2 : (cur.toList.take (l.length * 1))[j]? = some (.int .i64 z) := by
      rw [ht, List.getElem?_map, hj]
      rfl
    rw [List.getElem?_take, if_pos (by omega)] at h2
    simpa using h2
section
variable {main : Bool} {V : Nat → Option Wait}
theorem al_go (hA : ∀ b, Apart V b) (R nb no L nc i : Nat) (tries way x : Int) (hx0 : 0 ≤ x) (hx1 : x < 256) (hi : i < L) (hL : L ≤ 1048576) (W0 : World) (l : List Int) (hl : l.length = i) (v : Value) (w : World) (I : GrI W0 R l v w) (hc : w.cell? ⟨nb, no + i, none⟩ = some (.int .u8 x)) (u : Nat → Value) (cs : List Frame) :
    Walk Try.prog main (DR V) (fun g w' => (∃ u, g = G (hdAl R (.slice (some ⟨nb, no, none⟩) L nc) tries way L (i + 1) u) cs) ∧ ∃ v', GrI W0 R (l ++ [x]) v' w') (G (hdAl R (.slice (some ⟨nb, no, none⟩) L nc) tries way L i u) cs) w := by
  have hi1 : decide ((i : Int) < L) = true := by simp; omega
  have hi3 : decide (i < L) = true := by simp; omega
  have hi4 : (i : Int) < L := by omega
  have hi0 : (0 : Int) ≤ i := by omega
  have hw1 : IntKind.wrap .i64 ((i : Int) + 1) = (i : Int) + 1 := by rw [IntKind.wrap_i64]; omega
  have hwx : IntKind.wrap .i64 x = x := by rw [IntKind.wrap_i64]; omega
  have hcc : ((i + 1 : Nat) : Int) = (i : Int) + 1 := by simp
  have hcv := fun w => (cvU8 x w #[]).1
  have hcv2 := fun w es => (cvU8 x w es).2
  rw [hwx] at hcv
  obtain ⟨ti, hti, htz, htv, htb⟩ := tiI64
  obtain ⟨a, c, rfl⟩ := I.shape
  have x0 : w.cell? ⟨R, 0, none⟩ = some (.slice a l.length c) := (cell_of I.src 0).trans rfl
  rw [hl] at x0
  have hRl := I.lt
  have hrow := I.row
  rw [hl] at hrow
  conv => arg 5; unfold hdAl
  repeat (first | refine Walk.c rfl ?_ | refine Walk.cRet ?_ | refine Walk.cEnd ?_ | (refine Walk.cReg ?_; simp only [size4_0, size4_1, size4_2, size4_3, size4_4, size4_5, size4_6, size4_7, size4_8, size4_9, size4_10, size4_11, size4_12, size4_13, size4_14, size4_15, size4_16, size4_17, size4_18, size4_19, List.range, List.range.loop]) | (refine Walk.oq ?_; try walk_nrm) | (refine Walk.un ?_; walk_nrm))
  (refine Walk.oa ?_; try walk_nrm)
  have s1 : (w.alloc (.cells #[.int .i64 x] 2)).heap.size = w.heap.size + 1 := by simp
  have o1 : ∀ b, b < w.heap.size → (w.alloc (.cells #[.int .i64 x] 2)).heap[b]? = w.heap[b]? := fun b hb => heap_new_lt _ _ hb
  have d1 := heap_alloc_new w (.cells #[.int .i64 x] 2)
  have hrow1 := row_same (w' := w.alloc (.cells #[.int .i64 x] 2)) hrow fun b hb => o1 b (hrow.lt b hb).2
  have src1 := (o1 R hRl).trans I.src
  have old1 : ∀ b, b < R → (w.alloc (.cells #[.int .i64 x] 2)).heap[b]? = W0.heap[b]? := fun b hb => (o1 b (by omega)).trans (I.old b hb)
  have y0 : (w.alloc (.cells #[.int .i64 x] 2)).cell? ⟨w.heap.size, 0, none⟩ = some (.int .i64 x) := (cell_of d1 0).trans rfl
  obtain ⟨N, hN⟩ : ∃ N, w.heap.size = N := ⟨_, rfl⟩
  rw [hN] at s1 d1 y0 hRl ⊢
  generalize w.alloc (.cells #[.int .i64 x] 2) = w1 at *
  clear hrow I o1 x0 hc hcv hcv2 hwx
  repeat (first | (refine Walk.oq ?_; try walk_nrm) | (refine Walk.un ?_; walk_nrm))
  refine Walk.append (.tmp 29) (.tmp 32) 28 (ho_of (by conv => lhs; whnf) (by kernel_rfl)) (by rfl) (by decide) rfl (R + 1) 2 ti (.int .i64 0) 1 8 huI64 hti htv htz htb (by rfl) (by decide) (.slice a i c) i (l.map fun z => .int .i64 z) rfl hrow1 ⟨N, 0, none⟩ 1 1 [.int .i64 x] rfl (by simp) (fun j z hz => ?_) (fun z hz => ?_) (by omega) (by simp only [maxLen]; omega) (by omega) (by omega) (fun g hg => hA g) (fun g cap w2 hown hgr hat hlt => ?_)
  · cases j with
    | zero =>
      cases hz
      exact y0
    | succ j => simp at hz
  · simp at hz
    rw [hz]
    rfl
  have hgb : ∀ b, b < R + 1 → w2.heap[b]? = w1.heap[b]? := fun b hb => hgr.block b (by omega) fun e => by
    have := (hrow1.lt b e.symm).1
    omega
  have src2 := (hgb R (by omega)).trans src1
  have c2 : w2.cell? ⟨R, 0, none⟩ = some (.slice a l.length c) := (cell_of src2 0).trans rfl
  have z2 : w2.frozen? ⟨R, 0, none⟩ = false := frozen_of src2 0
  have hg1 : R + 1 ≤ g := (hown.lt g rfl).1
  have hG : GrI W0 R (l ++ [x]) (.slice (some ⟨g, 0, none⟩) (i + 1) cap) (w2.setCell ⟨R, 0, none⟩ (.slice (some ⟨g, 0, none⟩) (i + 1) cap)) := by
    refine ⟨?_, ?_, fun b hb => ?_, ?_⟩
    · rw [heap_set_self _ _ src2]
      simp
    · rw [show (l ++ [x]).length = i + 1 by simp [hl], List.map_append]
      exact row_same hown fun b hb => heap_set_other _ _ _ _ (fun e : b = R => by
        have := (hown.lt b hb).1
        omega)
    · exact (heap_set_other _ _ _ _ (fun e : b = R => by omega)).trans ((hgb b (by omega)).trans (old1 b hb))
    · rw [size_set]
      have := hgr.size
      omega
  clear hown hgr hat hlt hgb src2 src1 old1 hrow1 y0 d1 s1 hRl hg1
  walk_nrm
  repeat (first | (refine Walk.oq ?_; try walk_nrm) | (refine Walk.un ?_; walk_nrm))
  (have hfr := (hA R).1 ⟨R, 0, none⟩ rfl; refine Walk.os hfr c2 ?_; clear hfr; try walk_nrm)
  generalize w2.setCell ⟨R, 0, none⟩ (.slice (some ⟨g, 0, none⟩) (i + 1) cap) = w3 at *
  clear c2 z2
  repeat (first | refine Walk.c rfl ?_ | refine Walk.cRet ?_ | refine Walk.cEnd ?_ | (refine Walk.cReg ?_; simp only [size4_0, size4_1, size4_2, size4_3, size4_4, size4_5, size4_6, size4_7, size4_8, size4_9, size4_10, size4_11, size4_12, size4_13, size4_14, size4_15, size4_16, size4_17, size4_18, size4_19, List.range, List.range.loop]) | (refine Walk.oq ?_; try walk_nrm) | (refine Walk.un ?_; walk_nrm))
  refine Walk.ctl rfl (fun w => stepG_inLoop) ?_
  refine .stop fun d => ⟨at_slots ?_, _, hG.at d⟩
  simp only [hdAl, hcc]
  rfl
end
end
end Go.Proofs.Ytgfajibjedfkdaa
