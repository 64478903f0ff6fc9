/- Part 5. -/
import Derived.Test.YtnnakajldnaldaaZ3
import Derived.Test.YtnnakajldnaldaaZ4
set_option linter.unusedSimpArgs false
set_option linter.unusedVariables false
set_option maxHeartbeats 8000000
set_option maxRecDepth 100000
namespace Go.Proofs.Ytnnakajldnaldaa
open Go.Conc Go.RowKit Go.Relay
open Go.ConcN (upd upd_ne upd_same)
section
noncomputable def reg10_0 : Array Oper := match Try.f10.body with | some (.seq (.region _ ops _) _) => ops | _ => #[]
theorem size10_0 : reg10_0.size = 1 := by kernel_rfl
noncomputable def reg10_1 : Array Oper := match Try.f10.body with | some (.seq _ (.seq (.seq (.region _ ops _) _) _)) => ops | _ => #[]
theorem size10_1 : reg10_1.size = 2 := by kernel_rfl
noncomputable def reg10_2 : Array Oper := match Try.f10.body with | some (.seq _ (.seq (.seq _ (.cond _ (.seq (.region _ ops _) _) _)) _)) => ops | _ => #[]
theorem size10_2 : reg10_2.size = 1 := by kernel_rfl
noncomputable def reg10_3 : Array Oper := match Try.f10.body with | some (.seq _ (.seq _ (.seq (.region _ ops _) _))) => ops | _ => #[]
theorem size10_3 : reg10_3.size = 1 := by kernel_rfl
noncomputable def reg10_4 : Array Oper := match Try.f10.body with | some (.seq _ (.seq _ (.seq _ (.seq (.region _ ops _) _)))) => ops | _ => #[]
theorem size10_4 : reg10_4.size = 5 := by kernel_rfl
noncomputable def reg10_5 : Array Oper := match Try.f10.body with | some (.seq _ (.seq _ (.seq _ (.seq _ (.seq (.seq (.region _ ops _) _) _))))) => ops | _ => #[]
theorem size10_5 : reg10_5.size = 1 := by kernel_rfl
noncomputable def reg10_6 : Array Oper := match Try.f10.body with | some (.seq _ (.seq _ (.seq _ (.seq _ (.seq (.seq _ (.block _ (.loop (.seq (.seq (.region _ ops _) _) _)))) _))))) => ops | _ => #[]
theorem size10_6 : reg10_6.size = 4 := by kernel_rfl
noncomputable def reg10_8 : Array Oper := match Try.f10.body with | some (.seq _ (.seq _ (.seq _ (.seq _ (.seq (.seq _ (.block _ (.loop (.seq _ (.seq (.block _ (.seq (.region _ ops _) _)) _))))) _))))) => ops | _ => #[]
theorem size10_8 : reg10_8.size = 6 := by kernel_rfl
noncomputable def reg10_9 : Array Oper := match Try.f10.body with | some (.seq _ (.seq _ (.seq _ (.seq _ (.seq (.seq _ (.block _ (.loop (.seq _ (.seq (.block _ (.seq _ (.seq (.region _ ops _) _))) _))))) _))))) => ops | _ => #[]
theorem size10_9 : reg10_9.size = 7 := by kernel_rfl
noncomputable def reg10_10 : Array Oper := match Try.f10.body with | some (.seq _ (.seq _ (.seq _ (.seq _ (.seq (.seq _ (.block _ (.loop (.seq _ (.seq (.block _ (.seq _ (.seq _ (.seq (.seq (.region _ ops _) _) _)))) _))))) _))))) => ops | _ => #[]
theorem size10_10 : reg10_10.size = 36 := by kernel_rfl
noncomputable def reg10_11 : Array Oper := match Try.f10.body with | some (.seq _ (.seq _ (.seq _ (.seq _ (.seq (.seq _ (.block _ (.loop (.seq _ (.seq (.block _ (.seq _ (.seq _ (.seq (.seq _ (.cond _ (.seq (.region _ ops _) _) _)) _)))) _))))) _))))) => ops | _ => #[]
theorem size10_11 : reg10_11.size = 1 := by kernel_rfl
noncomputable def reg10_12 : Array Oper := match Try.f10.body with | some (.seq _ (.seq _ (.seq _ (.seq _ (.seq (.seq _ (.block _ (.loop (.seq _ (.seq (.block _ (.seq _ (.seq _ (.seq _ (.seq (.region _ ops _) _))))) _))))) _))))) => ops | _ => #[]
theorem size10_12 : reg10_12.size = 16 := by kernel_rfl
noncomputable def reg10_13 : Array Oper := match Try.f10.body with | some (.seq _ (.seq _ (.seq _ (.seq _ (.seq (.seq _ (.block _ (.loop (.seq _ (.seq (.block _ (.seq _ (.seq _ (.seq _ (.seq _ (.seq (.region _ ops _) _)))))) _))))) _))))) => ops | _ => #[]
theorem size10_13 : reg10_13.size = 19 := by kernel_rfl
noncomputable def reg10_14 : Array Oper := match Try.f10.body with | some (.seq _ (.seq _ (.seq _ (.seq _ (.seq (.seq _ (.block _ (.loop (.seq _ (.seq (.block _ (.seq _ (.seq _ (.seq _ (.seq _ (.seq _ (.cond _ (.seq (.region _ ops _) _) _))))))) _))))) _))))) => ops | _ => #[]
theorem size10_14 : reg10_14.size = 1 := by kernel_rfl
noncomputable def reg10_7 : Array Oper := match Try.f10.body with | some (.seq _ (.seq _ (.seq _ (.seq _ (.seq (.seq _ (.block _ (.loop (.seq _ (.seq _ (.region _ ops _)))))) _))))) => ops | _ => #[]
theorem size10_7 : reg10_7.size = 3 := by kernel_rfl
noncomputable def reg10_15 : Array Oper := match Try.f10.body with | some (.seq _ (.seq _ (.seq _ (.seq _ (.seq _ (.seq (.region _ ops _) _)))))) => ops | _ => #[]
theorem size10_15 : reg10_15.size = 1 := by kernel_rfl
theorem code10_is : Try.f10.body = some (.seq (.region 0 reg10_0 false) (.seq (.seq (.region 1 reg10_1 false) (.cond (.tmp 12 ) (.seq (.region 2 reg10_2 false) (.ret)) (.skip))) (.seq (.region 3 reg10_3 false) (.seq (.region 4 reg10_4 false) (.seq (.seq (.region 5 reg10_5 false) (.block 0 (.loop (.seq (.seq (.region 6 reg10_6 false) (.cond (.tmp 19 ) (.skip) (.exit 0))) (.seq (.block 1 (.seq (.region 8 reg10_8 false) (.seq (.region 9 reg10_9 false) (.seq (.seq (.region 10 reg10_10 false) (.cond (.tmp 68 ) (.seq (.region 11 reg10_11 false) (.ret)) (.skip))) (.seq (.region 12 reg10_12 true) (.seq (.region 13 reg10_13 false) (.cond (.tmp 99 ) (.seq (.region 14 reg10_14 false) (.ret)) (.skip)))))))) (.region 7 reg10_7 false)))))) (.seq (.region 15 reg10_15 false) (.ret))))))) := by kernel_rfl
noncomputable def tmN (tb toff n0 tc kb lb i : Nat) (u : Nat → Value) : Array Value := #[.slice (some ⟨tb, toff, none⟩) n0 tc, u 1, .bool false, .pointer none, .pointer (some ⟨kb, 0, none⟩), .pointer (some ⟨lb, 0, none⟩), .int .i64 i, u 7, u 8, u 9, u 10, u 11, u 12, u 13, u 14, u 15, u 16, u 17, u 18, u 19, u 20, u 21, u 22, u 23, u 24, u 25, u 26, u 27, u 28, u 29, u 30, u 31, u 32, u 33, u 34, u 35, u 36, u 37, u 38, u 39, u 40, u 41, u 42, u 43, u 44, u 45, u 46, u 47, u 48, u 49, u 50, u 51, u 52, u 53, u 54, u 55, u 56, u 57, u 58, u 59, u 60, u 61, u 62, u 63, u 64, u 65, u 66, u 67, u 68, u 69, u 70, u 71, u 72, u 73, u 74, u 75, u 76, u 77, u 78, u 79, u 80, u 81, u 82, u 83, u 84, u 85, u 86, u 87, u 88, u 89, u 90, u 91, u 92, u 93, u 94, u 95, u 96, u 97, u 98, u 99]
def dsN : List Nat := [69, 70, 71, 72, 73, 74, 75, 76, 77, 78, 79, 80, 9, 10]
def vsN (tb toff n0 tc kb lb i : Nat) (o : OpV) (a : Ans) (A B : Nat) : List Value := [.pointer (some ⟨kb, 0, none⟩), .slice (some ⟨tb, toff, none⟩) n0 tc, .int .i64 i, .pointer (some ⟨tb, toff + i * 4, none⟩), opVal o, ansVal a, .pointer (some ⟨lb, 0, none⟩), .slice (some ⟨tb, toff, none⟩) n0 tc, .int .i64 i, .pointer (some ⟨tb, toff + i * 4, none⟩), opVal o, ansVal a, .pointer (some ⟨A, 0, none⟩), .pointer (some ⟨B, 0, none⟩)]
structure TwoN (kb kr lb lr m : Nat) : Prop where
  kl : kb ≠ lb
  r1 : 1 < m → kr ≠ lb ∧ kr ≠ lr ∧ kb ≠ lr
def OffN (kb kr lb lr m b : Nat) : Prop := ¬ (b = kb ∨ (1 < m ∧ b = kr)) ∧ ¬ (b = lb ∨ (1 < m ∧ b = lr))
structure AloN (kb kr : Nat) (kra : Option Addr) (krc : Nat) (lb lr : Nat) (lra : Option Addr) (lrc m : Nat) (S S' : Sp) (a : Ans) (W : World) (f : Nat → Bool) (A B : Nat) (w : World) : Prop where
  ik : SpI kb kr m kra krc (if f 5 then S' else S) w
  il : SpI lb lr m lra lrc (if f 11 then S' else S) w
  a1 : f 12 = true → W.heap.size ≤ A ∧ w.heap[A]? = some (if f 14 then (.cells #[.bool a.1, .int .i64 a.2, .slice none 0 0] 43) else (.cells #[.bool false, .int .i64 0, .slice none 0 0] 43))
  b1 : f 13 = true → W.heap.size ≤ B ∧ w.heap[B]? = some (if f 15 then (.cells #[.bool a.1, .int .i64 a.2, .slice none 0 0] 43) else (.cells #[.bool false, .int .i64 0, .slice none 0 0] 43))
  ne : f 12 = true → f 13 = true → A ≠ B
  old : ∀ b, b < W.heap.size → OffN kb kr lb lr m b → w.heap[b]? = W.heap[b]?
  size : W.heap.size ≤ w.heap.size
section
variable {kb kr : Nat} {kra : Option Addr} {krc lb lr : Nat} {lra : Option Addr} {lrc m : Nat} {S S' : Sp} {a : Ans} {W : World} {f : Nat → Bool} {A B : Nat} {w : World}
theorem AloN.at (h : AloN kb kr kra krc lb lr lra lrc m S S' a W f A B w) (d : Nat) : AloN kb kr kra krc lb lr lra lrc m S S' a W f A B (w.at d) := ⟨h.ik.old fun _ _ => rfl, h.il.old fun _ _ => rfl, h.a1, h.b1, h.ne, h.old, h.size⟩
theorem AloN.quiet (h : AloN kb kr kra krc lb lr lra lrc m S S' a W f A B w) {i : Nat} (h5 : i ≠ 5) (h11 : i ≠ 11) (h12 : i ≠ 12) (h13 : i ≠ 13) (h14 : i ≠ 14) (h15 : i ≠ 15) : AloN kb kr kra krc lb lr lra lrc m S S' a W (upd f i true) A B w := by
  refine ⟨?_, ?_, ?_, ?_, ?_, h.old, h.size⟩
  · rw [upd_ne _ _ (Ne.symm h5)]; exact h.ik
  · rw [upd_ne _ _ (Ne.symm h11)]; exact h.il
  · rw [upd_ne _ _ (Ne.symm h12), upd_ne _ _ (Ne.symm h14)]; exact h.a1
  · rw [upd_ne _ _ (Ne.symm h13), upd_ne _ _ (Ne.symm h15)]; exact h.b1
  · rw [upd_ne _ _ (Ne.symm h12), upd_ne _ _ (Ne.symm h13)]; exact h.ne
theorem none_do {main : Bool} (tb toff n0 tc i : Nat) (o : OpV) (hi : i < n0) (hn0 : n0 ≤ 17592186044416) (W : World) (hm0 : 0 < m)
    (hk : SpI kb kr m kra krc S W) (hl : SpI lb lr m lra lrc S W) (T : TwoN kb kr lb lr m) (ht : OffN kb kr lb lr m tb)
    (o0 : W.cell? ⟨tb, toff + i * 4, none⟩ = some (.int .i64 o.k)) (o1 : W.cell? ⟨tb, toff + i * 4 + 1, none⟩ = some (.int .i64 o.a)) (o2 : W.cell? ⟨tb, toff + i * 4 + 2, none⟩ = some (.int .i64 o.b)) (o3 : W.cell? ⟨tb, toff + i * 4 + 3, none⟩ = some (.int .i64 o.c))
    (k : List Item) (cs : List Frame) (u0 : Nat → Value) {Stop : Goroutine → World → Prop}
    (hend : ∀ (u : Nat → Value) (A B : Nat) (w : World), u 9 = .pointer (some ⟨A, 0, none⟩) → u 10 = .pointer (some ⟨B, 0, none⟩) → AloN kb kr kra krc lb lr lra lrc m S (oneS m S o).1 (oneS m S o).2.1 W (fun _ => true) A B w → Walk Try.prog main (DR (fun _ => none)) Stop (G ((base 10).at ⟨tmN tb toff n0 tc kb lb i u, []⟩ (.inRegion reg10_12 [] :: k)) cs) w) :
    Walk Try.prog main (DR (fun _ => none)) Stop (G ((base 10).at ⟨tmN tb toff n0 tc kb lb i u0, []⟩ (.code (.region 12 reg10_12 true) :: k)) cs) W := by
  obtain ⟨fsO, huO⟩ := structT 46 (by kernel_rfl)
  have hm64 := hk.pos.2
  have hrunK : runN (spLa kb kr m kra krc) (m + m + 2) ((spLa kb kr m kra krc).enter S o) = some ((oneS m S o).1, (oneS m S o).2.1) := lonC_runN (oneS_is (cb := kb) (rb := kr) (rc := krc) (ra := kra) hm0 S o 0)
  have hrunL : runN (spLa lb lr m lra lrc) (m + m + 2) ((spLa lb lr m lra lrc).enter S o) = some ((oneS m S o).1, (oneS m S o).2.1) := lonC_runN (oneS_is (cb := lb) (rb := lr) (rc := lrc) (ra := lra) hm0 S o 0)
  have hrunK' : runN (spLa kb kr m kra krc) (m + m + 2) (S, (spEnter m S o).2) = some ((oneS m S o).1, (oneS m S o).2.1) := (congrArg (runN (spLa kb kr m kra krc) (m + m + 2)) (spEnter_any m S S o).symm).trans hrunK
  have hrunL' : runN (spLa lb lr m lra lrc) (m + m + 2) (S, (spEnter m S o).2) = some ((oneS m S o).1, (oneS m S o).2.1) := (congrArg (runN (spLa lb lr m lra lrc) (m + m + 2)) (spEnter_any m S S o).symm).trans hrunL
  clear hrunK hrunL
  generalize hX : oneS m S o = X at *
  obtain ⟨S', a, st⟩ := X
  dsimp only at hend hrunK' hrunL'
  clear hX
  obtain ⟨t1, t4⟩ := T
  have l1 : kb < W.heap.size := hk.lt
  have l2 : 1 < m → kr < W.heap.size := fun h => hk.ltr h
  have l3 : lb < W.heap.size := hl.lt
  have l4 : 1 < m → lr < W.heap.size := fun h => hl.ltr h
  refine Walk.drawnJ (Inv := fun f ac' w => ∃ u A B, ac' = ⟨tmN tb toff n0 tc kb lb i u, []⟩ ∧ Facts dsN (vsN tb toff n0 tc kb lb i o a A B) f u ∧ AloN kb kr kra krc lb lr lra lrc m S S' a W f A B w) (by kernel_rfl) (by kernel_rfl) (fun d => ⟨u0, 0, 0, rfl, Facts.none _ _ _, AloN.at ⟨hk, hl, fun h => (by cases h), fun h => (by cases h), fun h => (by cases h), fun _ _ _ => rfl, Nat.le_refl _⟩ d⟩) ?_ ?_
  · rintro f j op act w ⟨u, A, B, rfl, F0, Q⟩ hC hfj ho hdeps rest hr
    have hj : j < 16 := by have := (Array.getElem?_eq_some_iff.1 ho).1; rw [size10_12] at this; exact this
    have hcell : ∀ {y : Nat} {v : Value}, W.cell? ⟨tb, y, none⟩ = some v → w.cell? ⟨tb, y, none⟩ = some v := fun {y v} h => (World.cell?_of_block (a := ⟨tb, y, none⟩) (Q.old tb (cell_lt' h) ht)).trans h
    have hC' := hC
    have hQs := Q.size
    match j, hj with
    | 0, _ =>
      clear hdeps hC hC' hrunK' hrunL' hend
      simp only [tmN] at hr ⊢
      (refine Walk.oq ?_; try walk_nrm)
      refine hr _ _ ⟨upd u 69 (.pointer (some ⟨kb, 0, none⟩)), A, B, ?_, F0.set (by decide) rfl rfl, Q.quiet (by decide) (by decide) (by decide) (by decide) (by decide) (by decide)⟩
      simp [tmN, upd]
    | 1, _ =>
      clear hdeps hC hC' hrunK' hrunL' hend
      simp only [tmN] at hr ⊢
      (refine Walk.oq ?_; try walk_nrm)
      refine hr _ _ ⟨upd u 70 (.slice (some ⟨tb, toff, none⟩) n0 tc), A, B, ?_, F0.set (by decide) rfl rfl, Q.quiet (by decide) (by decide) (by decide) (by decide) (by decide) (by decide)⟩
      simp [tmN, upd]
    | 2, _ =>
      clear hdeps hC hC' hrunK' hrunL' hend
      simp only [tmN] at hr ⊢
      (refine Walk.oq ?_; try walk_nrm)
      refine hr _ _ ⟨upd u 71 (.int .i64 i), A, B, ?_, F0.set (by decide) rfl rfl, Q.quiet (by decide) (by decide) (by decide) (by decide) (by decide) (by decide)⟩
      simp [tmN, upd]
    | 3, _ =>
      have hd := deps_of (l := [1, 2]) (by kernel_rfl) ho hdeps
      have e70 := F0 1 70 _ (hd 1 (by simp)) rfl rfl
      have e71 := F0 2 71 _ (hd 2 (by simp)) rfl rfl
      have hi0 : (0 : Int) ≤ i := by omega
      have hi3 : decide (i < n0) = true := by simp; omega
      have hi1 : decide ((i : Int) < n0) = true := by simp; omega
      have hi4 : (i : Int) < n0 := by omega
      clear hdeps hC hC' hrunK' hrunL' hend
      simp only [tmN] at hr ⊢
      simp only [e70, e71]
      (refine Walk.oq ?_; try walk_nrm)
      refine hr _ _ ⟨upd u 72 (.pointer (some ⟨tb, toff + i * 4, none⟩)), A, B, ?_, F0.set (by decide) rfl rfl, Q.quiet (by decide) (by decide) (by decide) (by decide) (by decide) (by decide)⟩
      simp [tmN, upd, e70, e71]
    | 4, _ =>
      have hd := deps_of (l := [3]) (by kernel_rfl) ho hdeps
      have e72 := F0 3 72 _ (hd 3 (by simp)) rfl rfl
      have hcs : ∀ (y : Nat) (v : Value), ([.int .i64 o.k, .int .i64 o.a, .int .i64 o.b, .int .i64 o.c] : List Value)[y]? = some v → w.cell? ⟨tb, toff + i * 4 + y, none⟩ = some v := fun y v hv => by
        match y, hv with
        | 0, hv => cases hv; exact hcell o0
        | 1, hv => cases hv; exact hcell o1
        | 2, hv => cases hv; exact hcell o2
        | 3, hv => cases hv; exact hcell o3
      clear hdeps hC hC' hrunK' hrunL' hend
      simp only [tmN] at hr ⊢
      simp only [e72]
      refine Walk.loadS 46 (.tmp 72) (ho_of (by conv => lhs; whnf) (by kernel_rfl)) (by rfl) (by decide) rfl tb (toff + i * 4) [.int .i64 o.k, .int .i64 o.a, .int .i64 o.b, .int .i64 o.c] (.struct fsO) rfl hcs huO rfl (by kernel_rfl) ?_
      walk_nrm
      refine hr _ _ ⟨upd u 73 (opVal o), A, B, ?_, F0.set (by decide) rfl rfl, Q.quiet (by decide) (by decide) (by decide) (by decide) (by decide) (by decide)⟩
      simp [tmN, upd, opVal, e72]
    | 5, _ =>
      have hd := deps_of (l := [0, 4]) (by kernel_rfl) ho hdeps
      have e69 := F0 0 69 _ (hd 0 (by simp)) rfl rfl
      have e73 := F0 4 73 _ (hd 4 (by simp)) rfl rfl
      have ik := Q.ik
      rw [hfj] at ik
      simp only [Bool.false_eq_true, if_false] at ik
      clear hdeps hC hend
      simp only [tmN] at hr ⊢
      simp only [e69, e73, opVal]
      refine Walk.callLone (L := spLa kb kr m kra krc) (R := (S', a)) (Rel := fun v x => v = ansVal x) (m + m + 2) S (spEnter m S o).2 ap0 ik hrunK' ?_ (ho_of (by conv => lhs; whnf) (by kernel_rfl)) (by rfl) (by decide) rfl Try.func18 (by kernel_rfl) (by rfl) ⟨rfl, rfl, _, Try.func10⟩ ?_
      · intro K e he
        walk_nrm
        exact call_v K S o e he
      rintro v w1 rfl hCn
      have hCo := hCn.old
      have hCs := hCn.size
      have hsh : ∀ b, (spLa kb kr m kra krc).sh b ↔ (b = kb ∨ (1 < m ∧ b = kr)) := fun b => Iff.rfl
      simp only [hsh] at hCo
      walk_nrm
      refine hr _ _ ⟨upd u 74 (ansVal a), A, B, ?_, F0.set (by decide) rfl rfl, ⟨?_, ?_, fun h => ?_, fun h => ?_, fun h h2 => ?_, fun b hb hOf => ?_, by omega⟩⟩
      · simp [tmN, upd, ansVal, opVal, e69, e73]
      · rw [upd_same, if_pos rfl]; exact hCn.I
      · rw [upd_ne _ _ (by decide)]
        exact Q.il.old fun b hb => hCo b (by rcases hb with rfl | ⟨hm1, rfl⟩; omega; have := l4 hm1; omega) (by
          rcases hb with rfl | ⟨hm1, rfl⟩
          · rintro (h | ⟨hm1, h⟩)
            · omega
            · have := t4 hm1; omega
          · have := t4 hm1
            rintro (h | ⟨_, h⟩) <;> omega)
      · rw [upd_ne _ _ (by decide)] at h
        rw [upd_ne _ _ (by decide)]
        obtain ⟨z1, z2⟩ := Q.a1 h
        refine ⟨z1, (hCo A (Array.getElem?_eq_some_iff.1 z2).1 ?_).trans z2⟩
        rintro (h | ⟨hm1, h⟩)
        · omega
        · have := l2 hm1; omega
      · rw [upd_ne _ _ (by decide)] at h
        rw [upd_ne _ _ (by decide)]
        obtain ⟨z1, z2⟩ := Q.b1 h
        refine ⟨z1, (hCo B (Array.getElem?_eq_some_iff.1 z2).1 ?_).trans z2⟩
        rintro (h | ⟨hm1, h⟩)
        · omega
        · have := l2 hm1; omega
      · rw [upd_ne _ _ (by decide)] at h h2
        exact Q.ne h h2
      · exact (hCo b (by omega) hOf.1).trans (Q.old b hb hOf)
    | 6, _ =>
      clear hdeps hC hC' hrunK' hrunL' hend
      simp only [tmN] at hr ⊢
      (refine Walk.oq ?_; try walk_nrm)
      refine hr _ _ ⟨upd u 75 (.pointer (some ⟨lb, 0, none⟩)), A, B, ?_, F0.set (by decide) rfl rfl, Q.quiet (by decide) (by decide) (by decide) (by decide) (by decide) (by decide)⟩
      simp [tmN, upd]
    | 7, _ =>
      clear hdeps hC hC' hrunK' hrunL' hend
      simp only [tmN] at hr ⊢
      (refine Walk.oq ?_; try walk_nrm)
      refine hr _ _ ⟨upd u 76 (.slice (some ⟨tb, toff, none⟩) n0 tc), A, B, ?_, F0.set (by decide) rfl rfl, Q.quiet (by decide) (by decide) (by decide) (by decide) (by decide) (by decide)⟩
      simp [tmN, upd]
    | 8, _ =>
      clear hdeps hC hC' hrunK' hrunL' hend
      simp only [tmN] at hr ⊢
      (refine Walk.oq ?_; try walk_nrm)
      refine hr _ _ ⟨upd u 77 (.int .i64 i), A, B, ?_, F0.set (by decide) rfl rfl, Q.quiet (by decide) (by decide) (by decide) (by decide) (by decide) (by decide)⟩
      simp [tmN, upd]
    | 9, _ =>
      have hd := deps_of (l := [7, 8]) (by kernel_rfl) ho hdeps
      have e76 := F0 7 76 _ (hd 7 (by simp)) rfl rfl
      have e77 := F0 8 77 _ (hd 8 (by simp)) rfl rfl
      have hi0 : (0 : Int) ≤ i := by omega
      have hi3 : decide (i < n0) = true := by simp; omega
      have hi1 : decide ((i : Int) < n0) = true := by simp; omega
      have hi4 : (i : Int) < n0 := by omega
      clear hdeps hC hC' hrunK' hrunL' hend
      simp only [tmN] at hr ⊢
      simp only [e76, e77]
      (refine Walk.oq ?_; try walk_nrm)
      refine hr _ _ ⟨upd u 78 (.pointer (some ⟨tb, toff + i * 4, none⟩)), A, B, ?_, F0.set (by decide) rfl rfl, Q.quiet (by decide) (by decide) (by decide) (by decide) (by decide) (by decide)⟩
      simp [tmN, upd, e76, e77]
    | 10, _ =>
      have hd := deps_of (l := [9]) (by kernel_rfl) ho hdeps
      have e78 := F0 9 78 _ (hd 9 (by simp)) rfl rfl
      have hcs : ∀ (y : Nat) (v : Value), ([.int .i64 o.k, .int .i64 o.a, .int .i64 o.b, .int .i64 o.c] : List Value)[y]? = some v → w.cell? ⟨tb, toff + i * 4 + y, none⟩ = some v := fun y v hv => by
        match y, hv with
        | 0, hv => cases hv; exact hcell o0
        | 1, hv => cases hv; exact hcell o1
        | 2, hv => cases hv; exact hcell o2
        | 3, hv => cases hv; exact hcell o3
      clear hdeps hC hC' hrunK' hrunL' hend
      simp only [tmN] at hr ⊢
      simp only [e78]
      refine Walk.loadS 46 (.tmp 78) (ho_of (by conv => lhs; whnf) (by kernel_rfl)) (by rfl) (by decide) rfl tb (toff + i * 4) [.int .i64 o.k, .int .i64 o.a, .int .i64 o.b, .int .i64 o.c] (.struct fsO) rfl hcs huO rfl (by kernel_rfl) ?_
      walk_nrm
      refine hr _ _ ⟨upd u 79 (opVal o), A, B, ?_, F0.set (by decide) rfl rfl, Q.quiet (by decide) (by decide) (by decide) (by decide) (by decide) (by decide)⟩
      simp [tmN, upd, opVal, e78]
    | 11, _ =>
      have hd := deps_of (l := [6, 10, 5]) (by kernel_rfl) ho hdeps
      have e75 := F0 6 75 _ (hd 6 (by simp)) rfl rfl
      have e79 := F0 10 79 _ (hd 10 (by simp)) rfl rfl
      have ik := Q.il
      rw [hfj] at ik
      simp only [Bool.false_eq_true, if_false] at ik
      clear hdeps hC hend
      simp only [tmN] at hr ⊢
      simp only [e75, e79, opVal]
      refine Walk.callLone (L := spLa lb lr m lra lrc) (R := (S', a)) (Rel := fun v x => v = ansVal x) (m + m + 2) S (spEnter m S o).2 ap0 ik hrunL' ?_ (ho_of (by conv => lhs; whnf) (by kernel_rfl)) (by rfl) (by decide) rfl Try.func18 (by kernel_rfl) (by rfl) ⟨rfl, rfl, _, Try.func10⟩ ?_
      · intro K e he
        walk_nrm
        exact call_v K S o e he
      rintro v w1 rfl hCn
      have hCo := hCn.old
      have hCs := hCn.size
      have hsh : ∀ b, (spLa lb lr m lra lrc).sh b ↔ (b = lb ∨ (1 < m ∧ b = lr)) := fun b => Iff.rfl
      simp only [hsh] at hCo
      walk_nrm
      refine hr _ _ ⟨upd u 80 (ansVal a), A, B, ?_, F0.set (by decide) rfl rfl, ⟨?_, ?_, fun h => ?_, fun h => ?_, fun h h2 => ?_, fun b hb hOf => ?_, by omega⟩⟩
      · simp [tmN, upd, ansVal, opVal, e75, e79]
      · rw [upd_ne _ _ (by decide)]
        exact Q.ik.old fun b hb => hCo b (by rcases hb with rfl | ⟨hm1, rfl⟩; omega; have := l2 hm1; omega) (by
          rcases hb with rfl | ⟨hm1, rfl⟩
          · rintro (h | ⟨hm1, h⟩)
            · omega
            · have := t4 hm1; omega
          · have := t4 hm1
            rintro (h | ⟨_, h⟩) <;> omega)
      · rw [upd_same, if_pos rfl]; exact hCn.I
      · rw [upd_ne _ _ (by decide)] at h
        rw [upd_ne _ _ (by decide)]
        obtain ⟨z1, z2⟩ := Q.a1 h
        refine ⟨z1, (hCo A (Array.getElem?_eq_some_iff.1 z2).1 ?_).trans z2⟩
        rintro (h | ⟨hm1, h⟩)
        · omega
        · have := l4 hm1; omega
      · rw [upd_ne _ _ (by decide)] at h
        rw [upd_ne _ _ (by decide)]
        obtain ⟨z1, z2⟩ := Q.b1 h
        refine ⟨z1, (hCo B (Array.getElem?_eq_some_iff.1 z2).1 ?_).trans z2⟩
        rintro (h | ⟨hm1, h⟩)
        · omega
        · have := l4 hm1; omega
      · rw [upd_ne _ _ (by decide)] at h h2
        exact Q.ne h h2
      · exact (hCo b (by omega) hOf.2).trans (Q.old b hb hOf)
    | 12, _ =>
      clear hdeps hC hrunK' hrunL' hend
      have hN := heap_alloc_new w (.cells #[.bool false, .int .i64 0, .slice none 0 0] 43)
      have hO : ∀ b, b < w.heap.size → (w.alloc (.cells #[.bool false, .int .i64 0, .slice none 0 0] 43)).heap[b]? = w.heap[b]? := fun b hb => heap_new_lt _ _ hb
      have hZ : (w.alloc (.cells #[.bool false, .int .i64 0, .slice none 0 0] 43)).heap.size = w.heap.size + 1 := by simp
      have h1x : f 14 = false := by
        cases h : f 14 with
        | false => rfl
        | true =>
          have := hC'.deps (i := 14) (l := [12]) h (by kernel_rfl) 12 (by simp)
          rw [hfj] at this
          cases this
      simp only [tmN] at hr ⊢
      (refine Walk.oa ?_; try walk_nrm)
      refine hr _ _ ⟨upd u 9 (.pointer (some ⟨w.heap.size, 0, none⟩)), w.heap.size, B, ?_, Facts.set (facts_vals F0 fun j v hf hv => ?_) (by decide) rfl rfl, ⟨?_, ?_, fun h => ?_, fun h => ?_, fun h h2 => ?_, fun b hb hOf => (hO b (by omega)).trans (Q.old b hb hOf), by omega⟩⟩
      · simp [tmN, upd]
      · exact match j, hf, hv with
          | 0, _, hv => hv
          | 1, _, hv => hv
          | 2, _, hv => hv
          | 3, _, hv => hv
          | 4, _, hv => hv
          | 5, _, hv => hv
          | 6, _, hv => hv
          | 7, _, hv => hv
          | 8, _, hv => hv
          | 9, _, hv => hv
          | 10, _, hv => hv
          | 11, _, hv => hv
          | 12, hf, hv => by rw [hfj] at hf; cases hf
          | 13, _, hv => hv
          | j + 14, _, hv => hv
      · rw [upd_ne _ _ (by decide)]; exact Q.ik.old fun b hb => hO b (by rcases hb with rfl | ⟨hm1, rfl⟩; omega; have := l2 hm1; omega)
      · rw [upd_ne _ _ (by decide)]; exact Q.il.old fun b hb => hO b (by rcases hb with rfl | ⟨hm1, rfl⟩; omega; have := l4 hm1; omega)
      · rw [upd_ne _ _ (by decide), h1x]
        exact ⟨hQs, hN⟩
      · rw [upd_ne _ _ (by decide)] at h
        rw [upd_ne _ _ (by decide)]
        obtain ⟨z1, z2⟩ := Q.b1 h
        exact ⟨z1, (hO _ (Array.getElem?_eq_some_iff.1 z2).1).trans z2⟩
      · rw [upd_ne _ _ (by decide)] at h2
        have := (Array.getElem?_eq_some_iff.1 (Q.b1 h2).2).1
        omega
    | 13, _ =>
      clear hdeps hC hrunK' hrunL' hend
      have hN := heap_alloc_new w (.cells #[.bool false, .int .i64 0, .slice none 0 0] 43)
      have hO : ∀ b, b < w.heap.size → (w.alloc (.cells #[.bool false, .int .i64 0, .slice none 0 0] 43)).heap[b]? = w.heap[b]? := fun b hb => heap_new_lt _ _ hb
      have hZ : (w.alloc (.cells #[.bool false, .int .i64 0, .slice none 0 0] 43)).heap.size = w.heap.size + 1 := by simp
      have h1x : f 15 = false := by
        cases h : f 15 with
        | false => rfl
        | true =>
          have := hC'.deps (i := 15) (l := [13]) h (by kernel_rfl) 13 (by simp)
          rw [hfj] at this
          cases this
      simp only [tmN] at hr ⊢
      (refine Walk.oa ?_; try walk_nrm)
      refine hr _ _ ⟨upd u 10 (.pointer (some ⟨w.heap.size, 0, none⟩)), A, w.heap.size, ?_, Facts.set (facts_vals F0 fun j v hf hv => ?_) (by decide) rfl rfl, ⟨?_, ?_, fun h => ?_, fun h => ?_, fun h h2 => ?_, fun b hb hOf => (hO b (by omega)).trans (Q.old b hb hOf), by omega⟩⟩
      · simp [tmN, upd]
      · exact match j, hf, hv with
          | 0, _, hv => hv
          | 1, _, hv => hv
          | 2, _, hv => hv
          | 3, _, hv => hv
          | 4, _, hv => hv
          | 5, _, hv => hv
          | 6, _, hv => hv
          | 7, _, hv => hv
          | 8, _, hv => hv
          | 9, _, hv => hv
          | 10, _, hv => hv
          | 11, _, hv => hv
          | 12, _, hv => hv
          | 13, hf, hv => by rw [hfj] at hf; cases hf
          | j + 14, _, hv => hv
      · rw [upd_ne _ _ (by decide)]; exact Q.ik.old fun b hb => hO b (by rcases hb with rfl | ⟨hm1, rfl⟩; omega; have := l2 hm1; omega)
      · rw [upd_ne _ _ (by decide)]; exact Q.il.old fun b hb => hO b (by rcases hb with rfl | ⟨hm1, rfl⟩; omega; have := l4 hm1; omega)
      · rw [upd_ne _ _ (by decide)] at h
        rw [upd_ne _ _ (by decide)]
        obtain ⟨z1, z2⟩ := Q.a1 h
        exact ⟨z1, (hO _ (Array.getElem?_eq_some_iff.1 z2).1).trans z2⟩
      · rw [upd_ne _ _ (by decide), h1x]
        exact ⟨hQs, hN⟩
      · rw [upd_ne _ _ (by decide)] at h
        have := (Array.getElem?_eq_some_iff.1 (Q.a1 h).2).1
        omega
    | 14, _ =>
      have hd := deps_of (l := [12, 5, 11]) (by kernel_rfl) ho hdeps
      have e9 := F0 12 9 _ (hd 12 (by simp)) rfl rfl
      have e74 := F0 5 74 _ (hd 5 (by simp)) rfl rfl
      have hz := Q.a1 (hd 12 (by simp))
      rw [hfj] at hz
      simp only [Bool.false_eq_true, if_false] at hz
      obtain ⟨z1, z2⟩ := hz
      have hO : ∀ b, b ≠ A → (w.setRow A #[.bool a.1, .int .i64 a.2, .slice none 0 0]).heap[b]? = w.heap[b]? := fun b hb => setRow_other _ _ hb
      have hN := setRow_self (cells := #[.bool a.1, .int .i64 a.2, .slice none 0 0]) z2
      have hZ : (w.setRow A #[.bool a.1, .int .i64 a.2, .slice none 0 0]).heap.size = w.heap.size := setRow_size _ _ _
      clear hdeps hC hC' hrunK' hrunL' hend
      simp only [tmN] at hr ⊢
      simp only [e9, e74, ansVal]
      refine Walk.storeS 43 (.tmp 9) (.tmp 74) (ho_of (by conv => lhs; whnf) (by kernel_rfl)) (by rfl) (by decide) rfl A #[.bool a.1, .int .i64 a.2, .slice none 0 0] _ 43 rfl rfl z2 (by kernel_rfl) (by rfl) (by simp [Value.oneCell']) (ap0 _) ?_
      walk_nrm
      refine hr _ _ ⟨u, A, B, ?_, facts_more F0 rfl, ⟨?_, ?_, fun h => ?_, fun h => ?_, fun h h2 => ?_, fun b hb hOf => (hO b (by omega)).trans (Q.old b hb hOf), by omega⟩⟩
      · simp [tmN, e9, e74, ansVal]
      · rw [upd_ne _ _ (by decide)]; exact Q.ik.old fun b hb => hO b (by rcases hb with rfl | ⟨hm1, rfl⟩; omega; have := l2 hm1; omega)
      · rw [upd_ne _ _ (by decide)]; exact Q.il.old fun b hb => hO b (by rcases hb with rfl | ⟨hm1, rfl⟩; omega; have := l4 hm1; omega)
      · rw [upd_same, if_pos rfl]
        exact ⟨z1, hN⟩
      · rw [upd_ne _ _ (by decide)] at h
        rw [upd_ne _ _ (by decide)]
        obtain ⟨y1, y2⟩ := Q.b1 h
        exact ⟨y1, (hO _ (Ne.symm (Q.ne (hd 12 (by simp)) h))).trans y2⟩
      · rw [upd_ne _ _ (by decide)] at h h2
        exact Q.ne h h2
    | 15, _ =>
      have hd := deps_of (l := [13, 11, 14]) (by kernel_rfl) ho hdeps
      have e10 := F0 13 10 _ (hd 13 (by simp)) rfl rfl
      have e80 := F0 11 80 _ (hd 11 (by simp)) rfl rfl
      have hz := Q.b1 (hd 13 (by simp))
      rw [hfj] at hz
      simp only [Bool.false_eq_true, if_false] at hz
      obtain ⟨z1, z2⟩ := hz
      have hO : ∀ b, b ≠ B → (w.setRow B #[.bool a.1, .int .i64 a.2, .slice none 0 0]).heap[b]? = w.heap[b]? := fun b hb => setRow_other _ _ hb
      have hN := setRow_self (cells := #[.bool a.1, .int .i64 a.2, .slice none 0 0]) z2
      have hZ : (w.setRow B #[.bool a.1, .int .i64 a.2, .slice none 0 0]).heap.size = w.heap.size := setRow_size _ _ _
      have h14 : f 12 = true := hC'.deps (i := 14) (l := [12]) (hd 14 (by simp)) (by kernel_rfl) 12 (by simp)
      clear hdeps hC hC' hrunK' hrunL' hend
      simp only [tmN] at hr ⊢
      simp only [e10, e80, ansVal]
      refine Walk.storeS 43 (.tmp 10) (.tmp 80) (ho_of (by conv => lhs; whnf) (by kernel_rfl)) (by rfl) (by decide) rfl B #[.bool a.1, .int .i64 a.2, .slice none 0 0] _ 43 rfl rfl z2 (by kernel_rfl) (by rfl) (by simp [Value.oneCell']) (ap0 _) ?_
      walk_nrm
      refine hr _ _ ⟨u, A, B, ?_, facts_more F0 rfl, ⟨?_, ?_, fun h => ?_, fun h => ?_, fun h h2 => ?_, fun b hb hOf => (hO b (by omega)).trans (Q.old b hb hOf), by omega⟩⟩
      · simp [tmN, e10, e80, ansVal]
      · rw [upd_ne _ _ (by decide)]; exact Q.ik.old fun b hb => hO b (by rcases hb with rfl | ⟨hm1, rfl⟩; omega; have := l2 hm1; omega)
      · rw [upd_ne _ _ (by decide)]; exact Q.il.old fun b hb => hO b (by rcases hb with rfl | ⟨hm1, rfl⟩; omega; have := l4 hm1; omega)
      · rw [upd_ne _ _ (by decide)] at h
        rw [upd_ne _ _ (by decide)]
        obtain ⟨y1, y2⟩ := Q.a1 h
        exact ⟨y1, (hO _ (Q.ne h (hd 13 (by simp)))).trans y2⟩
      · rw [upd_same, if_pos rfl]
        exact ⟨z1, hN⟩
      · rw [upd_ne _ _ (by decide)] at h h2
        exact Q.ne h h2
  · rintro f act w ⟨u, A, B, rfl, F0, Q⟩ hall
    refine hend u A B w (F0 12 9 _ (hall 12 (by rw [size10_12]; decide)) rfl rfl) (F0 13 10 _ (hall 13 (by rw [size10_12]; decide)) rfl rfl) ?_
    have g : ∀ j, j < 16 → f j = true := fun j hj => hall j (by rw [size10_12]; exact hj)
    obtain ⟨q1, q2, q4, q5, q6, q7, q8⟩ := Q
    rw [g 5 (by decide)] at q1
    rw [g 11 (by decide)] at q2
    rw [g 14 (by decide)] at q4
    rw [g 15 (by decide)] at q5
    exact ⟨q1, q2, fun _ => q4 (g 12 (by decide)), fun _ => q5 (g 13 (by decide)), fun _ _ => q6 (g 12 (by decide)) (g 13 (by decide)), q7, q8⟩
end
end
end Go.Proofs.Ytnnakajldnaldaa
