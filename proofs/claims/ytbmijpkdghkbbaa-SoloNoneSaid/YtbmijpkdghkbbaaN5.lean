/- Part 5. -/
import Derived.Test.YtbmijpkdghkbbaaN1
import Derived.Test.YtbmijpkdghkbbaaN2
import Derived.Test.YtbmijpkdghkbbaaN4
set_option linter.unusedSimpArgs false
set_option linter.unusedVariables false
set_option maxHeartbeats 8000000
set_option maxRecDepth 100000
namespace Go.Proofs.Ytbmijpkdghkbbaa
open Go.Conc Go.RowKit Go.Relay
open Go.ConcN (upd upd_ne upd_same)
structure Closing (f : FuncId) (t : Tmp) (v : Value) (g : Goroutine) : Prop where
  all : ∃ fr, g = G fr [] ∧ fr.mode = .returning ∧ fr.kind = .normal ∧ fr.defers = [] ∧ fr.fn = f ∧ fr.tmps.getD t undef = v
section
noncomputable def reg13_0 : Array Oper := match Try.f13.body with | some (.seq (.region _ ops _) _) => ops | _ => #[]
theorem size13_0 : reg13_0.size = 1 := by kernel_rfl
noncomputable def reg13_1 : Array Oper := match Try.f13.body with | some (.seq _ (.seq (.seq (.region _ ops _) _) _)) => ops | _ => #[]
theorem size13_1 : reg13_1.size = 2 := by kernel_rfl
noncomputable def reg13_2 : Array Oper := match Try.f13.body with | some (.seq _ (.seq (.seq _ (.cond _ (.seq (.region _ ops _) _) _)) _)) => ops | _ => #[]
theorem size13_2 : reg13_2.size = 1 := by kernel_rfl
noncomputable def reg13_3 : Array Oper := match Try.f13.body with | some (.seq _ (.seq _ (.seq (.region _ ops _) _))) => ops | _ => #[]
theorem size13_3 : reg13_3.size = 8 := by kernel_rfl
noncomputable def reg13_4 : Array Oper := match Try.f13.body with | some (.seq _ (.seq _ (.seq _ (.seq (.region _ ops _) _)))) => ops | _ => #[]
theorem size13_4 : reg13_4.size = 1 := by kernel_rfl
noncomputable def reg13_5 : Array Oper := match Try.f13.body with | some (.seq _ (.seq _ (.seq _ (.seq _ (.seq (.seq (.region _ ops _) _) _))))) => ops | _ => #[]
theorem size13_5 : reg13_5.size = 10 := by kernel_rfl
noncomputable def reg13_6 : Array Oper := match Try.f13.body with | some (.seq _ (.seq _ (.seq _ (.seq _ (.seq (.seq _ (.cond _ (.region _ ops _) _)) _))))) => ops | _ => #[]
theorem size13_6 : reg13_6.size = 1 := by kernel_rfl
noncomputable def reg13_7 : Array Oper := match Try.f13.body with | some (.seq _ (.seq _ (.seq _ (.seq _ (.seq _ (.seq (.seq (.region _ ops _) _) _)))))) => ops | _ => #[]
theorem size13_7 : reg13_7.size = 10 := by kernel_rfl
noncomputable def reg13_8 : Array Oper := match Try.f13.body with | some (.seq _ (.seq _ (.seq _ (.seq _ (.seq _ (.seq (.seq _ (.cond _ (.seq (.region _ ops _) _) _)) _)))))) => ops | _ => #[]
theorem size13_8 : reg13_8.size = 1 := by kernel_rfl
noncomputable def reg13_9 : Array Oper := match Try.f13.body with | some (.seq _ (.seq _ (.seq _ (.seq _ (.seq _ (.seq _ (.seq (.region _ ops _) _))))))) => ops | _ => #[]
theorem size13_9 : reg13_9.size = 3 := by kernel_rfl
noncomputable def reg13_10 : Array Oper := match Try.f13.body with | some (.seq _ (.seq _ (.seq _ (.seq _ (.seq _ (.seq _ (.seq _ (.seq (.region _ ops _) _)))))))) => ops | _ => #[]
theorem size13_10 : reg13_10.size = 1 := by kernel_rfl
noncomputable def reg13_11 : Array Oper := match Try.f13.body with | some (.seq _ (.seq _ (.seq _ (.seq _ (.seq _ (.seq _ (.seq _ (.seq _ (.seq (.seq (.region _ ops _) _) _))))))))) => ops | _ => #[]
theorem size13_11 : reg13_11.size = 6 := by kernel_rfl
noncomputable def reg13_12 : Array Oper := match Try.f13.body with | some (.seq _ (.seq _ (.seq _ (.seq _ (.seq _ (.seq _ (.seq _ (.seq _ (.seq (.seq _ (.block _ (.loop (.seq (.region _ ops _) _)))) _))))))))) => ops | _ => #[]
theorem size13_12 : reg13_12.size = 1 := by kernel_rfl
noncomputable def reg13_13 : Array Oper := match Try.f13.body with | some (.seq _ (.seq _ (.seq _ (.seq _ (.seq _ (.seq _ (.seq _ (.seq _ (.seq (.seq _ (.block _ (.loop (.seq _ (.seq _ (.seq (.block _ (.seq (.region _ ops _) _)) _)))))) _))))))))) => ops | _ => #[]
theorem size13_13 : reg13_13.size = 3 := by kernel_rfl
noncomputable def reg13_14 : Array Oper := match Try.f13.body with | some (.seq _ (.seq _ (.seq _ (.seq _ (.seq _ (.seq _ (.seq _ (.seq _ (.seq (.seq _ (.block _ (.loop (.seq _ (.seq _ (.seq (.block _ (.seq _ (.seq (.region _ ops _) _))) _)))))) _))))))))) => ops | _ => #[]
theorem size13_14 : reg13_14.size = 10 := by kernel_rfl
noncomputable def reg13_15 : Array Oper := match Try.f13.body with | some (.seq _ (.seq _ (.seq _ (.seq _ (.seq _ (.seq _ (.seq _ (.seq _ (.seq (.seq _ (.block _ (.loop (.seq _ (.seq _ (.seq (.block _ (.seq _ (.seq _ (.seq (.region _ ops _) _)))) _)))))) _))))))))) => ops | _ => #[]
theorem size13_15 : reg13_15.size = 12 := by kernel_rfl
noncomputable def reg13_16 : Array Oper := match Try.f13.body with | some (.seq _ (.seq _ (.seq _ (.seq _ (.seq _ (.seq _ (.seq _ (.seq _ (.seq (.seq _ (.block _ (.loop (.seq _ (.seq _ (.seq (.block _ (.seq _ (.seq _ (.seq _ (.seq (.region _ ops _) _))))) _)))))) _))))))))) => ops | _ => #[]
theorem size13_16 : reg13_16.size = 10 := by kernel_rfl
noncomputable def reg13_17 : Array Oper := match Try.f13.body with | some (.seq _ (.seq _ (.seq _ (.seq _ (.seq _ (.seq _ (.seq _ (.seq _ (.seq (.seq _ (.block _ (.loop (.seq _ (.seq _ (.seq (.block _ (.seq _ (.seq _ (.seq _ (.seq _ (.seq (.region _ ops _) _)))))) _)))))) _))))))))) => ops | _ => #[]
theorem size13_17 : reg13_17.size = 11 := by kernel_rfl
noncomputable def reg13_18 : Array Oper := match Try.f13.body with | some (.seq _ (.seq _ (.seq _ (.seq _ (.seq _ (.seq _ (.seq _ (.seq _ (.seq (.seq _ (.block _ (.loop (.seq _ (.seq _ (.seq (.block _ (.seq _ (.seq _ (.seq _ (.seq _ (.seq _ (.seq (.seq (.region _ ops _) _) _))))))) _)))))) _))))))))) => ops | _ => #[]
theorem size13_18 : reg13_18.size = 25 := by kernel_rfl
noncomputable def reg13_19 : Array Oper := match Try.f13.body with | some (.seq _ (.seq _ (.seq _ (.seq _ (.seq _ (.seq _ (.seq _ (.seq _ (.seq (.seq _ (.block _ (.loop (.seq _ (.seq _ (.seq (.block _ (.seq _ (.seq _ (.seq _ (.seq _ (.seq _ (.seq (.seq _ (.cond _ (.seq (.region _ ops _) _) _)) _))))))) _)))))) _))))))))) => ops | _ => #[]
theorem size13_19 : reg13_19.size = 1 := by kernel_rfl
noncomputable def reg13_20 : Array Oper := match Try.f13.body with | some (.seq _ (.seq _ (.seq _ (.seq _ (.seq _ (.seq _ (.seq _ (.seq _ (.seq (.seq _ (.block _ (.loop (.seq _ (.seq _ (.seq (.block _ (.seq _ (.seq _ (.seq _ (.seq _ (.seq _ (.seq _ (.seq (.region _ ops _) _)))))))) _)))))) _))))))))) => ops | _ => #[]
theorem size13_20 : reg13_20.size = 18 := by kernel_rfl
noncomputable def reg13_21 : Array Oper := match Try.f13.body with | some (.seq _ (.seq _ (.seq _ (.seq _ (.seq _ (.seq _ (.seq _ (.seq _ (.seq (.seq _ (.block _ (.loop (.seq _ (.seq _ (.seq (.block _ (.seq _ (.seq _ (.seq _ (.seq _ (.seq _ (.seq _ (.seq _ (.block _ (.loop (.seq (.region _ ops _) _))))))))))) _)))))) _))))))))) => ops | _ => #[]
theorem size13_21 : reg13_21.size = 1 := by kernel_rfl
noncomputable def reg13_22 : Array Oper := match Try.f13.body with | some (.seq _ (.seq _ (.seq _ (.seq _ (.seq _ (.seq _ (.seq _ (.seq _ (.seq (.seq _ (.block _ (.loop (.seq _ (.seq _ (.seq (.block _ (.seq _ (.seq _ (.seq _ (.seq _ (.seq _ (.seq _ (.seq _ (.block _ (.loop (.seq _ (.seq _ (.seq (.block _ (.seq (.region _ ops _) _)) _))))))))))))) _)))))) _))))))))) => ops | _ => #[]
theorem size13_22 : reg13_22.size = 3 := by kernel_rfl
noncomputable def reg13_23 : Array Oper := match Try.f13.body with | some (.seq _ (.seq _ (.seq _ (.seq _ (.seq _ (.seq _ (.seq _ (.seq _ (.seq (.seq _ (.block _ (.loop (.seq _ (.seq _ (.seq (.block _ (.seq _ (.seq _ (.seq _ (.seq _ (.seq _ (.seq _ (.seq _ (.block _ (.loop (.seq _ (.seq _ (.seq (.block _ (.seq _ (.seq (.region _ ops _) _))) _))))))))))))) _)))))) _))))))))) => ops | _ => #[]
theorem size13_23 : reg13_23.size = 2 := by kernel_rfl
noncomputable def reg13_24 : Array Oper := match Try.f13.body with | some (.seq _ (.seq _ (.seq _ (.seq _ (.seq _ (.seq _ (.seq _ (.seq _ (.seq (.seq _ (.block _ (.loop (.seq _ (.seq _ (.seq (.block _ (.seq _ (.seq _ (.seq _ (.seq _ (.seq _ (.seq _ (.seq _ (.block _ (.loop (.seq _ (.seq _ (.seq (.block _ (.seq _ (.seq _ (.cond _ (.seq (.region _ ops _) _) _)))) _))))))))))))) _)))))) _))))))))) => ops | _ => #[]
theorem size13_24 : reg13_24.size = 1 := by kernel_rfl
noncomputable def reg13_25 : Array Oper := match Try.f13.body with | some (.seq _ (.seq _ (.seq _ (.seq _ (.seq _ (.seq _ (.seq _ (.seq _ (.seq (.seq _ (.block _ (.loop (.seq _ (.seq _ (.seq (.block _ (.seq _ (.seq _ (.seq _ (.seq _ (.seq _ (.seq _ (.seq _ (.block _ (.loop (.seq _ (.seq _ (.seq _ (.region _ ops _)))))))))))))) _)))))) _))))))))) => ops | _ => #[]
theorem size13_25 : reg13_25.size = 2 := by kernel_rfl
noncomputable def reg13_26 : Array Oper := match Try.f13.body with | some (.seq _ (.seq _ (.seq _ (.seq _ (.seq _ (.seq _ (.seq _ (.seq _ (.seq (.seq _ (.block _ (.loop (.seq _ (.seq _ (.seq _ (.region _ ops _))))))) _))))))))) => ops | _ => #[]
theorem size13_26 : reg13_26.size = 2 := by kernel_rfl
noncomputable def reg13_27 : Array Oper := match Try.f13.body with | some (.seq _ (.seq _ (.seq _ (.seq _ (.seq _ (.seq _ (.seq _ (.seq _ (.seq _ (.seq (.region _ ops _) _)))))))))) => ops | _ => #[]
theorem size13_27 : reg13_27.size = 6 := by kernel_rfl
theorem code13_is : Try.f13.body = some (.seq (.region 0 reg13_0 false) (.seq (.seq (.region 1 reg13_1 false) (.cond (.tmp 27 ) (.seq (.region 2 reg13_2 false) (.ret)) (.skip))) (.seq (.region 3 reg13_3 false) (.seq (.region 4 reg13_4 false) (.seq (.seq (.region 5 reg13_5 false) (.cond (.tmp 43 ) (.region 6 reg13_6 false) (.skip))) (.seq (.seq (.region 7 reg13_7 false) (.cond (.tmp 53 ) (.seq (.region 8 reg13_8 false) (.ret)) (.skip))) (.seq (.region 9 reg13_9 false) (.seq (.region 10 reg13_10 false) (.seq (.seq (.region 11 reg13_11 false) (.block 0 (.loop (.seq (.region 12 reg13_12 false) (.seq (.cond (.tmp 62 ) (.skip) (.exit 0)) (.seq (.block 1 (.seq (.region 13 reg13_13 false) (.seq (.region 14 reg13_14 false) (.seq (.region 15 reg13_15 false) (.seq (.region 16 reg13_16 false) (.seq (.region 17 reg13_17 false) (.seq (.seq (.region 18 reg13_18 false) (.cond (.tmp 124 ) (.seq (.region 19 reg13_19 false) (.ret)) (.skip))) (.seq (.region 20 reg13_20 false) (.block 2 (.loop (.seq (.region 21 reg13_21 false) (.seq (.cond (.tmp 143 ) (.skip) (.exit 2)) (.seq (.block 3 (.seq (.region 22 reg13_22 false) (.seq (.region 23 reg13_23 false) (.cond (.tmp 147 ) (.seq (.region 24 reg13_24 false) (.ret)) (.skip))))) (.region 25 reg13_25 false)))))))))))))) (.region 26 reg13_26 false))))))) (.seq (.region 27 reg13_27 false) (.ret))))))))))) := by kernel_rfl
noncomputable def hdSo (q n : Int) (lb P i : Nat) (u : Nat → Value) : Frame :=
  (base 13).at { tmps := #[u 0, u 1, .int .i64 q, .int .i64 n, u 4, u 5, u 6, u 7, .bool false, u 9, u 10, u 11, .pointer (some ⟨P, 0, none⟩), u 13, u 14, u 15, u 16, u 17, u 18, u 19, u 20, u 21, u 22, u 23, u 24, u 25, u 26, u 27, u 28, u 29, u 30, u 31, u 32, u 33, u 34, u 35, u 36, u 37, u 38, u 39, u 40, u 41, u 42, u 43, u 44, u 45, u 46, u 47, u 48, u 49, u 50, u 51, u 52, u 53, u 54, u 55, u 56, u 57, u 58, .slice (some ⟨lb, 0, none⟩) 2 2, .int .i64 2, .int .i64 i, u 62, u 63, u 64, u 65, u 66, u 67, u 68, u 69, u 70, u 71, u 72, u 73, u 74, u 75, u 76, u 77, u 78, u 79, u 80, u 81, u 82, u 83, u 84, u 85, u 86, u 87, u 88, u 89, u 90, u 91, u 92, u 93, u 94, u 95, u 96, u 97, u 98, u 99, u 100, u 101, u 102, u 103, u 104, u 105, u 106, u 107, u 108, u 109, u 110, u 111, u 112, u 113, u 114, u 115, u 116, u 117, u 118, u 119, u 120, u 121, u 122, u 123, u 124, u 125, u 126, u 127, u 128, u 129, u 130, u 131, u 132, u 133, u 134, u 135, u 136, u 137, u 138, u 139, u 140, u 141, u 142, u 143, u 144, u 145, u 146, u 147, u 148, u 149, u 150, u 151, u 152, u 153, u 154], defers := [] } [.code (.seq (.region 12 reg13_12 false) (.seq (.cond (.tmp 62 ) (.skip) (.exit 0)) (.seq (.block 1 (.seq (.region 13 reg13_13 false) (.seq (.region 14 reg13_14 false) (.seq (.region 15 reg13_15 false) (.seq (.region 16 reg13_16 false) (.seq (.region 17 reg13_17 false) (.seq (.seq (.region 18 reg13_18 false) (.cond (.tmp 124 ) (.seq (.region 19 reg13_19 false) (.ret)) (.skip))) (.seq (.region 20 reg13_20 false) (.block 2 (.loop (.seq (.region 21 reg13_21 false) (.seq (.cond (.tmp 143 ) (.skip) (.exit 2)) (.seq (.block 3 (.seq (.region 22 reg13_22 false) (.seq (.region 23 reg13_23 false) (.cond (.tmp 147 ) (.seq (.region 24 reg13_24 false) (.ret)) (.skip))))) (.region 25 reg13_25 false)))))))))))))) (.region 26 reg13_26 false)))), .inLoop (.seq (.region 12 reg13_12 false) (.seq (.cond (.tmp 62 ) (.skip) (.exit 0)) (.seq (.block 1 (.seq (.region 13 reg13_13 false) (.seq (.region 14 reg13_14 false) (.seq (.region 15 reg13_15 false) (.seq (.region 16 reg13_16 false) (.seq (.region 17 reg13_17 false) (.seq (.seq (.region 18 reg13_18 false) (.cond (.tmp 124 ) (.seq (.region 19 reg13_19 false) (.ret)) (.skip))) (.seq (.region 20 reg13_20 false) (.block 2 (.loop (.seq (.region 21 reg13_21 false) (.seq (.cond (.tmp 143 ) (.skip) (.exit 2)) (.seq (.block 3 (.seq (.region 22 reg13_22 false) (.seq (.region 23 reg13_23 false) (.cond (.tmp 147 ) (.seq (.region 24 reg13_24 false) (.ret)) (.skip))))) (.region 25 reg13_25 false)))))))))))))) (.region 26 reg13_26 false)))), .inBlock 0, .code (.seq (.region 27 reg13_27 false) (.ret))]
noncomputable def hdSi (q n : Int) (rv : Value) (lb P B i k : Nat) (u : Nat → Value) : Frame :=
  (base 13).at { tmps := #[u 0, u 1, .int .i64 q, .int .i64 n, u 4, u 5, u 6, u 7, .bool false, u 9, u 10, u 11, .pointer (some ⟨P, 0, none⟩), u 13, u 14, rv, u 16, u 17, u 18, u 19, u 20, u 21, u 22, u 23, u 24, u 25, u 26, u 27, u 28, u 29, u 30, u 31, u 32, u 33, u 34, u 35, u 36, u 37, u 38, u 39, u 40, u 41, u 42, u 43, u 44, u 45, u 46, u 47, u 48, u 49, u 50, u 51, u 52, u 53, u 54, u 55, u 56, u 57, u 58, .slice (some ⟨lb, 0, none⟩) 2 2, .int .i64 2, .int .i64 i, u 62, u 63, u 64, u 65, u 66, u 67, u 68, u 69, u 70, u 71, u 72, u 73, u 74, u 75, u 76, u 77, u 78, u 79, u 80, u 81, u 82, u 83, u 84, u 85, u 86, u 87, u 88, u 89, u 90, u 91, u 92, u 93, u 94, u 95, u 96, u 97, u 98, u 99, u 100, u 101, u 102, u 103, u 104, u 105, u 106, u 107, u 108, u 109, u 110, u 111, u 112, u 113, u 114, u 115, u 116, u 117, u 118, u 119, u 120, u 121, u 122, u 123, u 124, u 125, u 126, u 127, u 128, u 129, u 130, u 131, u 132, u 133, u 134, u 135, u 136, u 137, u 138, u 139, .slice (some ⟨B, 0, none⟩) 6 6, .int .i64 6, .int .i64 k, u 143, u 144, u 145, u 146, u 147, u 148, u 149, u 150, u 151, u 152, u 153, u 154], defers := [] } [.code (.seq (.region 21 reg13_21 false) (.seq (.cond (.tmp 143 ) (.skip) (.exit 2)) (.seq (.block 3 (.seq (.region 22 reg13_22 false) (.seq (.region 23 reg13_23 false) (.cond (.tmp 147 ) (.seq (.region 24 reg13_24 false) (.ret)) (.skip))))) (.region 25 reg13_25 false)))), .inLoop (.seq (.region 21 reg13_21 false) (.seq (.cond (.tmp 143 ) (.skip) (.exit 2)) (.seq (.block 3 (.seq (.region 22 reg13_22 false) (.seq (.region 23 reg13_23 false) (.cond (.tmp 147 ) (.seq (.region 24 reg13_24 false) (.ret)) (.skip))))) (.region 25 reg13_25 false)))), .inBlock 2, .inBlock 1, .code (.region 26 reg13_26 false), .inLoop (.seq (.region 12 reg13_12 false) (.seq (.cond (.tmp 62 ) (.skip) (.exit 0)) (.seq (.block 1 (.seq (.region 13 reg13_13 false) (.seq (.region 14 reg13_14 false) (.seq (.region 15 reg13_15 false) (.seq (.region 16 reg13_16 false) (.seq (.region 17 reg13_17 false) (.seq (.seq (.region 18 reg13_18 false) (.cond (.tmp 124 ) (.seq (.region 19 reg13_19 false) (.ret)) (.skip))) (.seq (.region 20 reg13_20 false) (.block 2 (.loop (.seq (.region 21 reg13_21 false) (.seq (.cond (.tmp 143 ) (.skip) (.exit 2)) (.seq (.block 3 (.seq (.region 22 reg13_22 false) (.seq (.region 23 reg13_23 false) (.cond (.tmp 147 ) (.seq (.region 24 reg13_24 false) (.ret)) (.skip))))) (.region 25 reg13_25 false)))))))))))))) (.region 26 reg13_26 false)))), .inBlock 0, .code (.seq (.region 27 reg13_27 false) (.ret))]
def sNo (zb i : Nat) : Value := if i = 0 then .pointer none else .pointer (some ⟨zb, 0, none⟩)
def ones : Obj := .cells #[.int .i64 1, .int .i64 1, .int .i64 1, .int .i64 1, .int .i64 1, .int .i64 1] 36
structure NoX (zb lb P : Nat) (W w : World) : Prop where
  z : w.heap[zb]? = some zSo
  l : w.heap[lb]? = some (.cells #[.pointer none, .pointer (some ⟨zb, 0, none⟩)] 92)
  c : w.heap[P]? = some (.cells #[.int .i64 0] 106)
  old : ∀ b, b < W.heap.size → w.heap[b]? = W.heap[b]?
  size : W.heap.size ≤ w.heap.size
section
variable {zb lb P : Nat}
theorem NoX.next {W w w' : World} (h : NoX zb lb P W w) (k : w.heap.size ≤ w'.heap.size) (ho : ∀ b, b < w.heap.size → w'.heap[b]? = w.heap[b]?) : NoX zb lb P W w' :=
  ⟨(ho _ (Array.getElem?_eq_some_iff.1 h.z).1).trans h.z, (ho _ (Array.getElem?_eq_some_iff.1 h.l).1).trans h.l, (ho _ (Array.getElem?_eq_some_iff.1 h.c).1).trans h.c, fun b hb => (ho b (Nat.lt_of_lt_of_le hb h.size)).trans (h.old b hb), Nat.le_trans h.size k⟩
theorem NoX.at {W w : World} (h : NoX zb lb P W w) (d : Nat) : NoX zb lb P W (w.at d) := ⟨h.z, h.l, h.c, h.old, h.size⟩
theorem NoX.nor {W w : World} (h : NoX zb lb P W w) (i : Nat) : NoS (sNo zb i) w := by
  unfold sNo
  by_cases e : i = 0
  · rw [if_pos e]; exact .inl rfl
  · rw [if_neg e]; exact .inr ⟨zb, rfl, h.z⟩
theorem NoX.item {W w : World} (h : NoX zb lb P W w) {i : Nat} (hi : i < 2) : w.cell? ⟨lb, i, none⟩ = some (sNo zb i) := by
  refine (cell_of h.l i).trans ?_
  match i, hi with
  | 0, _ => rfl
  | 1, _ => rfl
theorem so_in (q n : Int) (i : Nat) (hi : i < 2) (W w : World) (I : NoX zb lb P W w) (cs : List Frame) (u : Nat → Value) :
    Walk Try.prog true (DR (fun _ => none)) (fun g w' => ∃ B, (∃ u, g = G (hdSi q n (sNo zb i) lb P B i 0 u) cs) ∧ NoX zb lb P W w' ∧ w'.heap[B]? = some ones) (G (hdSo q n lb P i u) cs) w := by
  have hif1 := run_ifaceSteps
  have hif2 := ev_ifaceSteps
  have hi0 : (0 : Int) ≤ i := by omega
  have hi1 : decide ((i : Int) < 2) = true := by simp; omega
  have hi3 : decide (i < 2) = true := by simp; omega
  have hi4 : (i : Int) < 2 := by omega
  have c1 := I.item hi
  have R := I.nor i
  have sv := Value.iface 104 (.pointer (some ⟨P, 0, none⟩))
  have k1 := claim_z (main := true) (V := fun _ => none) (sNo zb i) (.iface 104 (.pointer (some ⟨P, 0, none⟩))) w R n
  generalize sNo zb i = rv at *
  conv => arg 5; unfold hdSo
  repeat (first | refine Walk.c rfl ?_ | refine Walk.cRet ?_ | refine Walk.cEnd ?_ | (refine Walk.cReg ?_; simp only [size13_0, size13_1, size13_2, size13_3, size13_4, size13_5, size13_6, size13_7, size13_8, size13_9, size13_10, size13_11, size13_12, size13_13, size13_14, size13_15, size13_16, size13_17, size13_18, size13_19, size13_20, size13_21, size13_22, size13_23, size13_24, size13_25, size13_26, size13_27, List.range, List.range.loop]) | (refine Walk.oq ?_; try walk_nrm) | (refine Walk.un ?_; walk_nrm))
  refine Walk.callV (x := .tuple #[.int .i64 0, .int .i64 1]) (W := w) ?_ (ho_of (by conv => lhs; whnf) (by kernel_rfl)) (by rfl) (by decide) rfl Try.func53 (by kernel_rfl) (by rfl) ?_
  · walk_nrm
    exact k1
  walk_nrm
  repeat (first | refine Walk.c rfl ?_ | refine Walk.cRet ?_ | refine Walk.cEnd ?_ | (refine Walk.cReg ?_; simp only [size13_0, size13_1, size13_2, size13_3, size13_4, size13_5, size13_6, size13_7, size13_8, size13_9, size13_10, size13_11, size13_12, size13_13, size13_14, size13_15, size13_16, size13_17, size13_18, size13_19, size13_20, size13_21, size13_22, size13_23, size13_24, size13_25, size13_26, size13_27, List.range, List.range.loop]) | (refine Walk.oq ?_; try walk_nrm) | (refine Walk.un ?_; walk_nrm))
  (refine Walk.oa ?_; try walk_nrm)
  have s2 : (w.alloc (.cells #[.int .i64 q, .int .i64 q] 2)).heap.size = w.heap.size + 1 := by simp
  have o2 : ∀ b, b < w.heap.size → (w.alloc (.cells #[.int .i64 q, .int .i64 q] 2)).heap[b]? = w.heap[b]? := fun b hb => heap_new_lt _ _ hb
  generalize w.alloc (.cells #[.int .i64 q, .int .i64 q] 2) = w2 at *
  have I2 := I.next (w' := w2) (by omega) o2
  have R2 := R.old o2
  have k2 := write_z (main := true) (V := fun _ => none) rv (.iface 104 (.pointer (some ⟨P, 0, none⟩))) w2 R2 (some ⟨w.heap.size, 0, none⟩) 2 2
  have k3 := read_z (main := true) (V := fun _ => none) rv (.iface 104 (.pointer (some ⟨P, 0, none⟩))) w2 R2 n
  have k4 := batch_z (main := true) (V := fun _ => none) rv (.iface 104 (.pointer (some ⟨P, 0, none⟩))) w2 R2 n n
  have k5 := osize_z (main := true) (V := fun _ => none) rv w2 R2
  have k6 := ord_z (main := true) (V := fun _ => none) rv w2 R2
  have k7 := oput_z (main := true) (V := fun _ => none) rv (.iface 104 (.pointer (some ⟨P, 0, none⟩))) w2 R2 q q
  have k8 := opub_z (main := true) (V := fun _ => none) rv (.iface 104 (.pointer (some ⟨P, 0, none⟩))) w2 R2 q
  clear c1 k1 I R R2 o2
  repeat (first | refine Walk.c rfl ?_ | refine Walk.cRet ?_ | refine Walk.cEnd ?_ | (refine Walk.cReg ?_; simp only [size13_0, size13_1, size13_2, size13_3, size13_4, size13_5, size13_6, size13_7, size13_8, size13_9, size13_10, size13_11, size13_12, size13_13, size13_14, size13_15, size13_16, size13_17, size13_18, size13_19, size13_20, size13_21, size13_22, size13_23, size13_24, size13_25, size13_26, size13_27, List.range, List.range.loop]) | (refine Walk.oq ?_; try walk_nrm) | (refine Walk.un ?_; walk_nrm))
  refine Walk.callV (x := .tuple #[.int .i64 0, .int .i64 1]) (W := w2) ?_ (ho_of (by conv => lhs; whnf) (by kernel_rfl)) (by rfl) (by decide) rfl Try.func48 (by kernel_rfl) (by rfl) ?_
  · walk_nrm
    exact k2
  walk_nrm
  repeat (first | refine Walk.c rfl ?_ | refine Walk.cRet ?_ | refine Walk.cEnd ?_ | (refine Walk.cReg ?_; simp only [size13_0, size13_1, size13_2, size13_3, size13_4, size13_5, size13_6, size13_7, size13_8, size13_9, size13_10, size13_11, size13_12, size13_13, size13_14, size13_15, size13_16, size13_17, size13_18, size13_19, size13_20, size13_21, size13_22, size13_23, size13_24, size13_25, size13_26, size13_27, List.range, List.range.loop]) | (refine Walk.oq ?_; try walk_nrm) | (refine Walk.un ?_; walk_nrm))
  refine Walk.callV (x := .tuple #[.int .i64 0, .int .i64 1]) (W := w2) ?_ (ho_of (by conv => lhs; whnf) (by kernel_rfl)) (by rfl) (by decide) rfl Try.func54 (by kernel_rfl) (by rfl) ?_
  · walk_nrm
    exact k3
  walk_nrm
  repeat (first | refine Walk.c rfl ?_ | refine Walk.cRet ?_ | refine Walk.cEnd ?_ | (refine Walk.cReg ?_; simp only [size13_0, size13_1, size13_2, size13_3, size13_4, size13_5, size13_6, size13_7, size13_8, size13_9, size13_10, size13_11, size13_12, size13_13, size13_14, size13_15, size13_16, size13_17, size13_18, size13_19, size13_20, size13_21, size13_22, size13_23, size13_24, size13_25, size13_26, size13_27, List.range, List.range.loop]) | (refine Walk.oq ?_; try walk_nrm) | (refine Walk.un ?_; walk_nrm))
  refine Walk.callV (x := .tuple #[.slice none 0 0, .int .i64 1]) (W := w2) ?_ (ho_of (by conv => lhs; whnf) (by kernel_rfl)) (by rfl) (by decide) rfl Try.func49 (by kernel_rfl) (by rfl) ?_
  · walk_nrm
    exact k4
  walk_nrm
  repeat (first | refine Walk.c rfl ?_ | refine Walk.cRet ?_ | refine Walk.cEnd ?_ | (refine Walk.cReg ?_; simp only [size13_0, size13_1, size13_2, size13_3, size13_4, size13_5, size13_6, size13_7, size13_8, size13_9, size13_10, size13_11, size13_12, size13_13, size13_14, size13_15, size13_16, size13_17, size13_18, size13_19, size13_20, size13_21, size13_22, size13_23, size13_24, size13_25, size13_26, size13_27, List.range, List.range.loop]) | (refine Walk.oq ?_; try walk_nrm) | (refine Walk.un ?_; walk_nrm))
  clear k2 k3 k4
  refine Walk.callV (x := .int .i64 0) (W := w2) ?_ (ho_of (by conv => lhs; whnf) (by kernel_rfl)) (by rfl) (by decide) rfl Try.func46 (by kernel_rfl) (by rfl) ?_
  · walk_nrm
    exact k5
  walk_nrm
  repeat (first | refine Walk.c rfl ?_ | refine Walk.cRet ?_ | refine Walk.cEnd ?_ | (refine Walk.cReg ?_; simp only [size13_0, size13_1, size13_2, size13_3, size13_4, size13_5, size13_6, size13_7, size13_8, size13_9, size13_10, size13_11, size13_12, size13_13, size13_14, size13_15, size13_16, size13_17, size13_18, size13_19, size13_20, size13_21, size13_22, size13_23, size13_24, size13_25, size13_26, size13_27, List.range, List.range.loop]) | (refine Walk.oq ?_; try walk_nrm) | (refine Walk.un ?_; walk_nrm))
  refine Walk.callV (x := .int .i64 0) (W := w2) ?_ (ho_of (by conv => lhs; whnf) (by kernel_rfl)) (by rfl) (by decide) rfl Try.func47 (by kernel_rfl) (by rfl) ?_
  · walk_nrm
    exact k6
  walk_nrm
  repeat (first | refine Walk.c rfl ?_ | refine Walk.cRet ?_ | refine Walk.cEnd ?_ | (refine Walk.cReg ?_; simp only [size13_0, size13_1, size13_2, size13_3, size13_4, size13_5, size13_6, size13_7, size13_8, size13_9, size13_10, size13_11, size13_12, size13_13, size13_14, size13_15, size13_16, size13_17, size13_18, size13_19, size13_20, size13_21, size13_22, size13_23, size13_24, size13_25, size13_26, size13_27, List.range, List.range.loop]) | (refine Walk.oq ?_; try walk_nrm) | (refine Walk.un ?_; walk_nrm))
  clear k5 k6
  refine Walk.callV (x := .int .i64 1) (W := w2) ?_ (ho_of (by conv => lhs; whnf) (by kernel_rfl)) (by rfl) (by decide) rfl Try.func55 (by kernel_rfl) (by rfl) ?_
  · walk_nrm
    exact k7
  walk_nrm
  repeat (first | refine Walk.c rfl ?_ | refine Walk.cRet ?_ | refine Walk.cEnd ?_ | (refine Walk.cReg ?_; simp only [size13_0, size13_1, size13_2, size13_3, size13_4, size13_5, size13_6, size13_7, size13_8, size13_9, size13_10, size13_11, size13_12, size13_13, size13_14, size13_15, size13_16, size13_17, size13_18, size13_19, size13_20, size13_21, size13_22, size13_23, size13_24, size13_25, size13_26, size13_27, List.range, List.range.loop]) | (refine Walk.oq ?_; try walk_nrm) | (refine Walk.un ?_; walk_nrm))
  refine Walk.callV (x := .int .i64 1) (W := w2) ?_ (ho_of (by conv => lhs; whnf) (by kernel_rfl)) (by rfl) (by decide) rfl Try.func56 (by kernel_rfl) (by rfl) ?_
  · walk_nrm
    exact k8
  walk_nrm
  repeat (first | refine Walk.c rfl ?_ | refine Walk.cRet ?_ | refine Walk.cEnd ?_ | (refine Walk.cReg ?_; simp only [size13_0, size13_1, size13_2, size13_3, size13_4, size13_5, size13_6, size13_7, size13_8, size13_9, size13_10, size13_11, size13_12, size13_13, size13_14, size13_15, size13_16, size13_17, size13_18, size13_19, size13_20, size13_21, size13_22, size13_23, size13_24, size13_25, size13_26, size13_27, List.range, List.range.loop]) | (refine Walk.oq ?_; try walk_nrm) | (refine Walk.un ?_; walk_nrm))
  clear k7 k8
  (refine Walk.oa ?_; try walk_nrm)
  have s3 : (w2.alloc ones).heap.size = w2.heap.size + 1 := by simp
  have o3 : ∀ b, b < w2.heap.size → (w2.alloc ones).heap[b]? = w2.heap[b]? := fun b hb => heap_new_lt _ _ hb
  have d3 := heap_alloc_new w2 ones
  have e3 : w2.alloc (.cells #[.int .i64 1, .int .i64 1, .int .i64 1, .int .i64 1, .int .i64 1, .int .i64 1] 36) = w2.alloc ones := rfl
  try rw [e3]
  clear e3
  generalize w2.alloc ones = w3 at *
  have I3 := I2.next (w' := w3) (by omega) o3
  clear I2 o3
  repeat (first | refine Walk.c rfl ?_ | refine Walk.cRet ?_ | refine Walk.cEnd ?_ | (refine Walk.cReg ?_; simp only [size13_0, size13_1, size13_2, size13_3, size13_4, size13_5, size13_6, size13_7, size13_8, size13_9, size13_10, size13_11, size13_12, size13_13, size13_14, size13_15, size13_16, size13_17, size13_18, size13_19, size13_20, size13_21, size13_22, size13_23, size13_24, size13_25, size13_26, size13_27, List.range, List.range.loop]) | (refine Walk.oq ?_; try walk_nrm) | (refine Walk.un ?_; walk_nrm))
  refine Walk.ctl rfl (fun w => stepG_loop) ?_
  refine .stop fun d => ⟨w2.heap.size, at_slots ?_, I3.at d, d3⟩
  try rw [s2]
  simp only [hdSi]
  rfl
theorem so_round (q n : Int) (rv : Value) (B i k : Nat) (hk : k < 6) (w : World) (hB : w.heap[B]? = some ones) (cs : List Frame) (u : Nat → Value) :
    Walk Try.prog true (DR (fun _ => none)) (fun g w' => (∃ u, g = G (hdSi q n rv lb P B i (k + 1) u) cs) ∧ ∃ d, w' = w.at d) (G (hdSi q n rv lb P B i k u) cs) w := by
  have hi0 : (0 : Int) ≤ k := by omega
  have hi1 : decide ((k : Int) < 6) = true := by simp; omega
  have hi3 : decide (k < 6) = true := by simp; omega
  have hi4 : (k : Int) < 6 := by omega
  have hw1 : IntKind.wrap .i64 ((k : Int) + 1) = (k : Int) + 1 := by rw [IntKind.wrap_i64]; omega
  have hcc : ((k + 1 : Nat) : Int) = (k : Int) + 1 := by simp
  have c1 : w.cell? ⟨B, k, none⟩ = some (.int .i64 1) := by
    refine (cell_of hB k).trans ?_
    match k, hk with
    | 0, _ => rfl
    | 1, _ => rfl
    | 2, _ => rfl
    | 3, _ => rfl
    | 4, _ => rfl
    | 5, _ => rfl
  clear hB
  conv => arg 5; unfold hdSi
  repeat (first | refine Walk.c rfl ?_ | refine Walk.cRet ?_ | refine Walk.cEnd ?_ | (refine Walk.cReg ?_; simp only [size13_0, size13_1, size13_2, size13_3, size13_4, size13_5, size13_6, size13_7, size13_8, size13_9, size13_10, size13_11, size13_12, size13_13, size13_14, size13_15, size13_16, size13_17, size13_18, size13_19, size13_20, size13_21, size13_22, size13_23, size13_24, size13_25, size13_26, size13_27, List.range, List.range.loop]) | (refine Walk.oq ?_; try walk_nrm) | (refine Walk.un ?_; walk_nrm))
  refine Walk.ctl rfl (fun w => stepG_inLoop) ?_
  refine .stop fun d => ⟨at_slots ?_, d, rfl⟩
  simp only [hdSi, hcc]
  rfl
theorem so_next (q n : Int) (rv : Value) (B i : Nat) (hi : i < 2) (w : World) (cs : List Frame) (u : Nat → Value) :
    Walk Try.prog true (DR (fun _ => none)) (fun g w' => (∃ u, g = G (hdSo q n lb P (i + 1) u) cs) ∧ ∃ d, w' = w.at d) (G (hdSi q n rv lb P B i 6 u) cs) w := by
  have hw1 : IntKind.wrap .i64 ((i : Int) + 1) = (i : Int) + 1 := by rw [IntKind.wrap_i64]; omega
  have hcc : ((i + 1 : Nat) : Int) = (i : Int) + 1 := by simp
  conv => arg 5; unfold hdSi
  repeat (first | refine Walk.c rfl ?_ | refine Walk.cRet ?_ | refine Walk.cEnd ?_ | (refine Walk.cReg ?_; simp only [size13_0, size13_1, size13_2, size13_3, size13_4, size13_5, size13_6, size13_7, size13_8, size13_9, size13_10, size13_11, size13_12, size13_13, size13_14, size13_15, size13_16, size13_17, size13_18, size13_19, size13_20, size13_21, size13_22, size13_23, size13_24, size13_25, size13_26, size13_27, List.range, List.range.loop]) | (refine Walk.oq ?_; try walk_nrm) | (refine Walk.un ?_; walk_nrm))
  refine Walk.ctl rfl (fun w => stepG_inLoop) ?_
  refine .stop fun d => ⟨at_slots ?_, d, rfl⟩
  simp only [hdSo, hcc]
  rfl
theorem so_end (q n : Int) (w : World) (hc : w.heap[P]? = some (.cells #[.int .i64 0] 106)) (u : Nat → Value) :
    Walk Try.prog true (DR (fun _ => none)) (fun g w' => Closing 13 8 (.bool true) g ∧ ∃ d, w' = w.at d) (G (hdSo q n lb P 2 u) []) w := by
  have c1 : w.cell? ⟨P, 0, none⟩ = some (.int .i64 0) := (cell_of hc 0).trans rfl
  clear hc
  conv => arg 5; unfold hdSo
  repeat (first | refine Walk.c rfl ?_ | refine Walk.cRet ?_ | refine Walk.cEnd ?_ | (refine Walk.cReg ?_; simp only [size13_0, size13_1, size13_2, size13_3, size13_4, size13_5, size13_6, size13_7, size13_8, size13_9, size13_10, size13_11, size13_12, size13_13, size13_14, size13_15, size13_16, size13_17, size13_18, size13_19, size13_20, size13_21, size13_22, size13_23, size13_24, size13_25, size13_26, size13_27, List.range, List.range.loop]) | (refine Walk.oq ?_; try walk_nrm) | (refine Walk.un ?_; walk_nrm))
  exact .stop fun d => ⟨⟨_, rfl, rfl, rfl, rfl, rfl, rfl⟩, d, rfl⟩
theorem so_inner (q n : Int) (rv : Value) (B i : Nat) (hi : i < 2) (cs : List Frame) (W : World) :
    ∀ (r k : Nat) (w : World) (u : Nat → Value), k + r = 6 → NoX zb lb P W w → w.heap[B]? = some ones →
    Walk Try.prog true (DR (fun _ => none)) (fun g w' => (∃ u, g = G (hdSo q n lb P (i + 1) u) cs) ∧ NoX zb lb P W w') (G (hdSi q n rv lb P B i k u) cs) w := by
  intro r
  induction r with
  | zero =>
    intro k w u hk I hB
    have hk : k = 6 := hk
    subst hk
    refine (so_next q n rv B i hi w cs u).mono ?_
    rintro g w' ⟨hu, d, rfl⟩
    exact ⟨hu, I.at d⟩
  | succ r ih =>
    intro k w u hk I hB
    refine (so_round q n rv B i k (by omega) w hB cs u).then ?_
    rintro _ _ ⟨⟨u2, rfl⟩, d, rfl⟩
    exact ih (k + 1) (w.at d) u2 (by omega) (I.at d) hB
theorem so_outer (q n : Int) (W : World) :
    ∀ (r i : Nat) (w : World) (u : Nat → Value), i + r = 2 → NoX zb lb P W w →
    Walk Try.prog true (DR (fun _ => none)) (fun g w' => Closing 13 8 (.bool true) g ∧ ∀ b, b < W.heap.size → w'.heap[b]? = W.heap[b]?) (G (hdSo q n lb P i u) []) w := by
  intro r
  induction r with
  | zero =>
    intro i w u hi I
    have hi : i = 2 := hi
    subst hi
    refine (so_end q n w I.c u).mono ?_
    rintro g w' ⟨hC, d, rfl⟩
    exact ⟨hC, I.old⟩
  | succ r ih =>
    intro i w u hi I
    refine (so_in q n i (by omega) W w I [] u).then ?_
    rintro _ w2 ⟨B, ⟨u2, rfl⟩, I2, hB⟩
    refine (so_inner q n (sNo zb i) B i (by omega) [] W 6 0 w2 u2 rfl I2 hB).then ?_
    rintro _ w3 ⟨⟨u3, rfl⟩, I3⟩
    exact ih (i + 1) w3 u3 (by omega) I3
end
end
section
noncomputable def reg52_0 : Array Oper := match Try.f52.body with | some (.seq (.region _ ops _) _) => ops | _ => #[]
theorem size52_0 : reg52_0.size = 1 := by kernel_rfl
noncomputable def reg52_1 : Array Oper := match Try.f52.body with | some (.seq _ (.seq (.seq (.region _ ops _) _) _)) => ops | _ => #[]
theorem size52_1 : reg52_1.size = 1 := by kernel_rfl
noncomputable def reg52_2 : Array Oper := match Try.f52.body with | some (.seq _ (.seq (.seq _ (.block _ (.loop (.seq (.seq (.region _ ops _) _) _)))) _)) => ops | _ => #[]
theorem size52_2 : reg52_2.size = 2 := by kernel_rfl
noncomputable def reg52_4 : Array Oper := match Try.f52.body with | some (.seq _ (.seq (.seq _ (.block _ (.loop (.seq _ (.seq (.block _ (.seq (.region _ ops _) _)) _))))) _)) => ops | _ => #[]
theorem size52_4 : reg52_4.size = 3 := by kernel_rfl
noncomputable def reg52_5 : Array Oper := match Try.f52.body with | some (.seq _ (.seq (.seq _ (.block _ (.loop (.seq _ (.seq (.block _ (.seq _ (.cond _ (.seq (.region _ ops _) _) _))) _))))) _)) => ops | _ => #[]
theorem size52_5 : reg52_5.size = 1 := by kernel_rfl
noncomputable def reg52_3 : Array Oper := match Try.f52.body with | some (.seq _ (.seq (.seq _ (.block _ (.loop (.seq _ (.seq _ (.region _ ops _)))))) _)) => ops | _ => #[]
theorem size52_3 : reg52_3.size = 3 := by kernel_rfl
noncomputable def reg52_6 : Array Oper := match Try.f52.body with | some (.seq _ (.seq _ (.seq (.region _ ops _) _))) => ops | _ => #[]
theorem size52_6 : reg52_6.size = 1 := by kernel_rfl
theorem code52_is : Try.f52.body = some (.seq (.region 0 reg52_0 false) (.seq (.seq (.region 1 reg52_1 false) (.block 0 (.loop (.seq (.seq (.region 2 reg52_2 false) (.cond (.tmp 5 ) (.skip) (.exit 0))) (.seq (.block 1 (.seq (.region 4 reg52_4 false) (.cond (.tmp 10 ) (.seq (.region 5 reg52_5 false) (.ret)) (.skip)))) (.region 3 reg52_3 false)))))) (.seq (.region 6 reg52_6 false) (.ret)))) := by kernel_rfl
noncomputable def hdPw (sz x : Int) (u : Nat → Value) : Frame :=
  (base 52).at { tmps := #[.int .i64 sz, u 1, .bool false, .int .i64 x, u 4, u 5, u 6, u 7, u 8, u 9, u 10], defers := [] } [.code (.seq (.seq (.region 2 reg52_2 false) (.cond (.tmp 5 ) (.skip) (.exit 0))) (.seq (.block 1 (.seq (.region 4 reg52_4 false) (.cond (.tmp 10 ) (.seq (.region 5 reg52_5 false) (.ret)) (.skip)))) (.region 3 reg52_3 false))), .inLoop (.seq (.seq (.region 2 reg52_2 false) (.cond (.tmp 5 ) (.skip) (.exit 0))) (.seq (.block 1 (.seq (.region 4 reg52_4 false) (.cond (.tmp 10 ) (.seq (.region 5 reg52_5 false) (.ret)) (.skip)))) (.region 3 reg52_3 false))), .inBlock 0, .code (.seq (.region 6 reg52_6 false) (.ret))]
def powB (sz : Int) : Bool := (List.range 17).any fun j => sz == (2 : Int) ^ j
section
variable {main : Bool} {V : Nat → Option Wait}
theorem pow_round (sz x : Int) (h0 : 0 < x) (h1 : x ≤ 65536) (h2 : x ≠ sz) (u : Nat → Value) (cs : List Frame) (w : World) :
    Walk Try.prog main (DR V) (fun g w' => (∃ u, g = G (hdPw sz (2 * x) u) cs) ∧ ∃ d, w' = w.at d) (G (hdPw sz x u) cs) w := by
  have g1 : decide (x ≤ 65536) = true := decide_eq_true h1
  have g2 : (x == sz) = false := by simp [h2]
  have hw : IntKind.wrap .i64 (2 * x) = 2 * x := by rw [IntKind.wrap_i64]; omega
  clear h2
  conv => arg 5; unfold hdPw
  repeat (first | refine Walk.c rfl ?_ | refine Walk.cRet ?_ | refine Walk.cEnd ?_ | (refine Walk.cReg ?_; simp only [size52_0, size52_1, size52_2, size52_4, size52_5, size52_3, size52_6, List.range, List.range.loop]) | (refine Walk.oq ?_; try walk_nrm) | (refine Walk.un ?_; walk_nrm))
  refine Walk.ctl rfl (fun w => stepG_inLoop) ?_
  refine .stop fun d => ⟨at_slots ?_, d, rfl⟩
  simp only [hdPw]
  rfl
theorem pow_hit (sz : Int) (h1 : sz ≤ 65536) (u : Nat → Value) (c : Frame) (cs : List Frame) (w : World) :
    Walk Try.prog main (DR V) (fun g w' => g = G (c.finish (.bool true)) cs ∧ ∃ d, w' = w.at d) (G (hdPw sz sz u) (c :: cs)) w := by
  have g1 : decide (sz ≤ 65536) = true := decide_eq_true h1
  have g2 : (sz == sz) = true := by simp
  conv => arg 5; unfold hdPw
  repeat (first | refine Walk.c rfl ?_ | refine Walk.cRet ?_ | refine Walk.cEnd ?_ | (refine Walk.cReg ?_; simp only [size52_0, size52_1, size52_2, size52_4, size52_5, size52_3, size52_6, List.range, List.range.loop]) | (refine Walk.oq ?_; try walk_nrm) | (refine Walk.un ?_; walk_nrm))
  exact Walk.on1 rfl rfl Try.func52 rfl (.stop fun d => ⟨rfl, d, rfl⟩)
theorem pow_end (sz x : Int) (h1 : ¬ x ≤ 65536) (u : Nat → Value) (c : Frame) (cs : List Frame) (w : World) :
    Walk Try.prog main (DR V) (fun g w' => g = G (c.finish (.bool false)) cs ∧ ∃ d, w' = w.at d) (G (hdPw sz x u) (c :: cs)) w := by
  have g1 : decide (x ≤ 65536) = false := decide_eq_false h1
  conv => arg 5; unfold hdPw
  repeat (first | refine Walk.c rfl ?_ | refine Walk.cRet ?_ | refine Walk.cEnd ?_ | (refine Walk.cReg ?_; simp only [size52_0, size52_1, size52_2, size52_4, size52_5, size52_3, size52_6, List.range, List.range.loop]) | (refine Walk.oq ?_; try walk_nrm) | (refine Walk.un ?_; walk_nrm))
  exact Walk.on1 rfl rfl Try.func52 rfl (.stop fun d => ⟨rfl, d, rfl⟩)
theorem pow_pos (k : Nat) : 0 < (2 : Int) ^ k := Int.pow_pos (by decide)
theorem pow_up {j k : Nat} (h : j ≤ k) : (2 : Int) ^ j ≤ (2 : Int) ^ k := by
  obtain ⟨d, rfl⟩ := Nat.exists_eq_add_of_le h
  induction d with
  | zero => exact Int.le_refl _
  | succ d ih =>
    have h1 := ih (by omega)
    have h2 := pow_pos (j + d)
    rw [show j + (d + 1) = (j + d) + 1 from rfl, Int.pow_succ]
    omega
theorem pow_loop (sz : Int) (c : Frame) (cs : List Frame) : ∀ (r k : Nat) (u : Nat → Value) (w : World), k + r = 17 → (∀ j, j < k → sz ≠ (2 : Int) ^ j) → Walk Try.prog main (DR V) (fun g w' => g = G (c.finish (.bool (powB sz))) cs ∧ ∃ d, w' = w.at d) (G (hdPw sz ((2 : Int) ^ k) u) (c :: cs)) w := by
  intro r
  induction r with
  | zero =>
    intro k u w hk hno
    have hk : k = 17 := hk
    subst hk
    have hf : powB sz = false := by
      unfold powB
      rw [List.any_eq_false]
      intro j hj
      simp only [beq_iff_eq]
      exact hno j (List.mem_range.1 hj)
    rw [hf]
    exact pow_end sz _ (by decide) u c cs w
  | succ r ih =>
    intro k u w hk hno
    have hle : (2 : Int) ^ k ≤ 65536 := Int.le_trans (pow_up (show k ≤ 16 by omega)) (by decide)
    by_cases he : (2 : Int) ^ k = sz
    · have ht : powB sz = true := List.any_eq_true.2 ⟨k, List.mem_range.2 (by omega), by simp [he]⟩
      rw [ht]
      rw [he] at hle ⊢
      exact pow_hit sz hle u c cs w
    · refine (pow_round sz _ (pow_pos k) hle he u (c :: cs) w).then ?_
      rintro _ _ ⟨⟨u2, rfl⟩, d, rfl⟩
      have h2 := ih (k + 1) u2 (w.at d) (by omega) fun j hj => by
        by_cases e : j = k
        · subst e; exact Ne.symm he
        · exact hno j (by omega)
      rw [Int.pow_succ, Int.mul_comm] at h2
      exact h2.mono fun g w' ⟨h3, d', h4⟩ => ⟨h3, d', h4⟩
theorem pow_w (sz : Int) (w : World) : CallV Try.prog main V 52 #[.int .i64 sz] w (.bool (powB sz)) w := by
  intro c cs
  have key := fun u => (pow_loop (main := main) (V := V) sz c cs 17 0 u w (by decide) (fun j hj => by omega)).mono (Stop' := fun g w' => ∃ v, (v = .bool (powB sz) ∧ ∃ d, w' = w.at d) ∧ g = G (c.finish v) cs) fun g w' ⟨h1, h2⟩ => ⟨_, ⟨rfl, h2⟩, h1⟩
  rw [enter_at _ Try.func52 code52_is]
  simp only [Try.ntmps52, List.size_toArray, List.length_cons, List.length_nil, Nat.reduceAdd, Nat.reduceSub, Array.replicate_succ, Array.replicate_zero, List.push_toArray, List.append_toArray, List.nil_append, List.cons_append]
  repeat (first | refine Walk.c rfl ?_ | refine Walk.cRet ?_ | refine Walk.cEnd ?_ | (refine Walk.cReg ?_; simp only [size52_0, size52_1, size52_2, size52_4, size52_5, size52_3, size52_6, List.range, List.range.loop]) | (refine Walk.oq ?_; try walk_nrm) | (refine Walk.un ?_; walk_nrm))
  refine Walk.ctl rfl (fun w => stepG_loop) ?_
  refine slots_walk (F := fun u => G (hdPw sz 1 u) (c :: cs)) key ?_
  simp only [hdPw]
  rfl
end
end
theorem and_i64_nat (a b : Nat) (ha : a < 9223372036854775808) (hb : b < 9223372036854775808) : bits .and .i64 (a : Int) (b : Int) = ((a &&& b : Nat) : Int) := by
  have h0 : a &&& b < 9223372036854775808 := Nat.lt_of_le_of_lt Nat.and_le_left ha
  have e : (BitVec.ofInt 64 (a : Int) &&& BitVec.ofInt 64 (b : Int)).toNat = a &&& b := by
    rw [BitVec.toNat_and, BitVec.ofInt_natCast, BitVec.ofInt_natCast, BitVec.toNat_ofNat, BitVec.toNat_ofNat, Nat.mod_eq_of_lt (by omega), Nat.mod_eq_of_lt (by omega)]
  unfold bits
  show IntKind.i64.wrap ((BitVec.ofInt 64 (a : Int) &&& BitVec.ofInt 64 (b : Int)).toNat : Int) = _
  rw [e, IntKind.wrap_i64]
  omega
theorem powB_ok (sz : Int) : powB sz = decide (okS sz) := by
  by_cases hk : okS sz
  · rw [decide_eq_true hk]
    obtain ⟨h1, h2, h3⟩ := hk
    obtain ⟨n, rfl⟩ : ∃ n : Nat, sz = n := ⟨sz.toNat, by omega⟩
    have e : (n : Int) - 1 = ((n - 1 : Nat) : Int) := by omega
    rw [e, and_i64_nat n (n - 1) (by omega) (by omega)] at h3
    have h4 : n &&& (n - 1) = 0 := by omega
    obtain ⟨k, hk⟩ := (Nat.and_sub_one_eq_zero_iff_isPowerOfTwo (by omega : n ≠ 0)).1 h4
    have hk16 : k < 17 := by
      refine Classical.byContradiction fun h => ?_
      have h5 : 2 ^ 17 ≤ 2 ^ k := Nat.pow_le_pow_right (by decide) (by omega)
      rw [← hk] at h5
      have : (2 : Nat) ^ 17 = 131072 := by decide
      omega
    refine List.any_eq_true.2 ⟨k, List.mem_range.2 hk16, ?_⟩
    rw [hk]
    simp
  · rw [decide_eq_false hk]
    unfold powB
    rw [List.any_eq_false]
    intro j hj
    have hj := List.mem_range.1 hj
    simp only [beq_iff_eq]
    rintro rfl
    refine hk ⟨by have := pow_pos j; omega, Int.le_trans (pow_up (show j ≤ 16 by omega)) (by decide), ?_⟩
    have e1 : (2 : Int) ^ j = ((2 ^ j : Nat) : Int) := by simp
    have hp : 0 < 2 ^ j := Nat.pow_pos (by decide)
    have hle : 2 ^ j ≤ 2 ^ 16 := Nat.pow_le_pow_right (by decide) (by omega)
    have h16 : (2 : Nat) ^ 16 = 65536 := by decide
    have e2 : (2 : Int) ^ j - 1 = ((2 ^ j - 1 : Nat) : Int) := by omega
    rw [e2, e1, and_i64_nat _ _ (by omega) (by omega)]
    have h4 : 2 ^ j &&& (2 ^ j - 1) = 0 := (Nat.and_sub_one_eq_zero_iff_isPowerOfTwo (by omega)).2 ⟨j, rfl⟩
    rw [h4]
    rfl
section
section
variable {P : Program}
theorem eqInB (d : Nat) (t : TypeId) (x y : Bool) (w : World) (es : Array Event) (hu : P.underlying t = some .bool) : (Op.equalIn (d + 1) t (.bool x) (.bool y)).run P w = .ok (x == y) w ∧ (Op.equalIn (d + 1) t (.bool x) (.bool y)).events P w es = es := by
  constructor <;> simp [Op.equalIn, run_underlying hu]
theorem run_neqB (t : TypeId) (hu : P.underlying t = some .bool) (x y : Bool) (w : World) : (binOp .neq t (.bool x) (.bool y)).run P w = .ok (.bool (x != y)) w := by
  simp only [binOp]
  simp [Op.equal, Op.maxDepth, (eqInB 9999 t x y w #[] hu).1, bne]
theorem ev_neqB (t : TypeId) (hu : P.underlying t = some .bool) (x y : Bool) (w : World) (es : Array Event) : (binOp .neq t (.bool x) (.bool y)).events P w es = es := by
  simp only [binOp]
  simp [Op.equal, Op.maxDepth, (eqInB 9999 t x y w #[] hu).1, (eqInB 9999 t x y w es hu).2]
end
end
theorem sn_a (sz rd q n : Int) (hS : okS sz) (h1 : 0 ≤ rd) (h2 : rd ≤ 64) (w : World) :
    Walk Try.prog true (DR (fun _ => none)) (fun g w' => ∃ zb lb P, (∃ u, g = G (hdSo q n lb P 0 u) []) ∧ NoX zb lb P w w') (G (Frame.enter Try.prog 13 #[.int .i64 sz, .int .i64 rd, .int .i64 q, .int .i64 n] .normal) []) w := by
  have hA : ∀ b, Apart (fun _ => none) b := fun b => ⟨fun _ _ _ _ h => (by cases h), fun _ _ h => (by cases h)⟩
  have hb1 := fun x y w => run_neqB (P := Try.prog) 4 (by kernel_rfl) x y w
  have hb2 := fun x y w es => ev_neqB (P := Try.prog) 4 (by kernel_rfl) x y w es
  have hwr := writes_w (main := true) (V := fun _ => none) w hA
  have g1 : decide (0 ≤ rd) = true := decide_eq_true h1
  have g2 : decide (rd ≤ 64) = true := decide_eq_true h2
  have hpb : powB sz = true := by rw [powB_ok]; exact decide_eq_true hS
  rw [enter_at _ Try.func13 code13_is]
  simp only [Try.ntmps13, List.size_toArray, List.length_cons, List.length_nil, Nat.reduceAdd, Nat.reduceSub, Array.replicate_succ, Array.replicate_zero, List.push_toArray, List.append_toArray, List.nil_append, List.cons_append]
  repeat (first | refine Walk.c rfl ?_ | refine Walk.cRet ?_ | refine Walk.cEnd ?_ | (refine Walk.cReg ?_; simp only [size13_0, size13_1, size13_2, size13_3, size13_4, size13_5, size13_6, size13_7, size13_8, size13_9, size13_10, size13_11, size13_12, size13_13, size13_14, size13_15, size13_16, size13_17, size13_18, size13_19, size13_20, size13_21, size13_22, size13_23, size13_24, size13_25, size13_26, size13_27, List.range, List.range.loop]) | (refine Walk.oq ?_; try walk_nrm) | (refine Walk.un ?_; walk_nrm))
  refine Walk.callW (Post := fun v w' => v = .bool true ∧ (∀ b, b < w.heap.size → w'.heap[b]? = w.heap[b]?) ∧ w.heap.size ≤ w'.heap.size) ?_ (ho_of (by conv => lhs; whnf) (by kernel_rfl)) (by rfl) (by decide) rfl Try.func39 (by kernel_rfl) (by rfl) ?_
  · walk_nrm
    exact hwr
  rintro _ w1 ⟨rfl, o1, z1⟩
  clear hwr
  walk_nrm
  repeat (first | refine Walk.c rfl ?_ | refine Walk.cRet ?_ | refine Walk.cEnd ?_ | (refine Walk.cReg ?_; simp only [size13_0, size13_1, size13_2, size13_3, size13_4, size13_5, size13_6, size13_7, size13_8, size13_9, size13_10, size13_11, size13_12, size13_13, size13_14, size13_15, size13_16, size13_17, size13_18, size13_19, size13_20, size13_21, size13_22, size13_23, size13_24, size13_25, size13_26, size13_27, List.range, List.range.loop]) | (refine Walk.oq ?_; try walk_nrm) | (refine Walk.un ?_; walk_nrm))
  have hnw : CallW Try.prog true (fun _ => none) 45 #[.int .i64 sz, .int .i64 rd] w1 (fun v w' => ∃ ob : Nat, v = .tuple #[.pointer (some ⟨ob, 0, none⟩), .int .i64 0] ∧ (∀ b, b < w1.heap.size → w'.heap[b]? = w1.heap[b]?) ∧ w1.heap.size ≤ w'.heap.size) := by
    exact fun fr cs => (son_w sz rd hS h1 h2 w1 hA fr cs).mono fun g w' ⟨v, ⟨ob, qb, e, E, _, _⟩, hg⟩ => ⟨v, ⟨ob, e, E.old, E.size⟩, hg⟩
  refine Walk.callW (Post := fun v w' => ∃ ob : Nat, v = .tuple #[.pointer (some ⟨ob, 0, none⟩), .int .i64 0] ∧ (∀ b, b < w1.heap.size → w'.heap[b]? = w1.heap[b]?) ∧ w1.heap.size ≤ w'.heap.size) ?_ (ho_of (by conv => lhs; whnf) (by kernel_rfl)) (by rfl) (by decide) rfl Try.func45 (by kernel_rfl) (by rfl) ?_
  · walk_nrm
    exact hnw
  rintro _ w2 ⟨ob, rfl, o2, z2⟩
  clear hnw
  have hp := pow_w (main := true) (V := fun _ => none) sz w2
  rw [hpb] at hp
  clear hpb
  have hq1 := fun w => run_eql_ptr (P := Try.prog) 92 undSolo (some ⟨ob, 0, none⟩) w
  have hq2 := fun w es => ev_eql_ptr (P := Try.prog) 92 undSolo (some ⟨ob, 0, none⟩) w es
  simp only [Option.isNone_some] at hq1
  walk_nrm
  repeat (first | refine Walk.c rfl ?_ | refine Walk.cRet ?_ | refine Walk.cEnd ?_ | (refine Walk.cReg ?_; simp only [size13_0, size13_1, size13_2, size13_3, size13_4, size13_5, size13_6, size13_7, size13_8, size13_9, size13_10, size13_11, size13_12, size13_13, size13_14, size13_15, size13_16, size13_17, size13_18, size13_19, size13_20, size13_21, size13_22, size13_23, size13_24, size13_25, size13_26, size13_27, List.range, List.range.loop]) | (refine Walk.oq ?_; try walk_nrm) | (refine Walk.un ?_; walk_nrm))
  refine Walk.callV (x := .bool true) (W := w2) ?_ (ho_of (by conv => lhs; whnf) (by kernel_rfl)) (by rfl) (by decide) rfl Try.func52 (by kernel_rfl) (by rfl) ?_
  · walk_nrm
    exact hp
  clear hp
  walk_nrm
  repeat (first | refine Walk.c rfl ?_ | refine Walk.cRet ?_ | refine Walk.cEnd ?_ | (refine Walk.cReg ?_; simp only [size13_0, size13_1, size13_2, size13_3, size13_4, size13_5, size13_6, size13_7, size13_8, size13_9, size13_10, size13_11, size13_12, size13_13, size13_14, size13_15, size13_16, size13_17, size13_18, size13_19, size13_20, size13_21, size13_22, size13_23, size13_24, size13_25, size13_26, size13_27, List.range, List.range.loop]) | (refine Walk.oq ?_; try walk_nrm) | (refine Walk.un ?_; walk_nrm))
  (refine Walk.oa ?_; try walk_nrm)
  have s3 : (w2.alloc (.cells #[.int .i64 0] 106)).heap.size = w2.heap.size + 1 := by simp
  have o3 : ∀ b, b < w2.heap.size → (w2.alloc (.cells #[.int .i64 0] 106)).heap[b]? = w2.heap[b]? := fun b hb => heap_new_lt _ _ hb
  have d3 := heap_alloc_new w2 (.cells #[.int .i64 0] 106)
  generalize hT : w2.heap.size = T at *
  generalize w2.alloc (.cells #[.int .i64 0] 106) = w3 at *
  repeat (first | refine Walk.c rfl ?_ | refine Walk.cRet ?_ | refine Walk.cEnd ?_ | (refine Walk.cReg ?_; simp only [size13_0, size13_1, size13_2, size13_3, size13_4, size13_5, size13_6, size13_7, size13_8, size13_9, size13_10, size13_11, size13_12, size13_13, size13_14, size13_15, size13_16, size13_17, size13_18, size13_19, size13_20, size13_21, size13_22, size13_23, size13_24, size13_25, size13_26, size13_27, List.range, List.range.loop]) | (refine Walk.oq ?_; try walk_nrm) | (refine Walk.un ?_; walk_nrm))
  (refine Walk.oa ?_; try walk_nrm)
  have s4 : (w3.alloc zSo).heap.size = w3.heap.size + 1 := by simp
  have o4 : ∀ b, b < w3.heap.size → (w3.alloc zSo).heap[b]? = w3.heap[b]? := fun b hb => heap_new_lt _ _ hb
  have d4 := heap_alloc_new w3 zSo
  have e4 : w3.alloc (.cells #[.pointer none, .int .i64 0, .slice none 0 0, .int .i64 0, .int .i64 0, .int .i64 0] 118) = w3.alloc zSo := rfl
  try rw [e4]
  clear e4
  rw [s3] at s4 o4 d4
  generalize w3.alloc zSo = w4 at *
  repeat (first | (refine Walk.oq ?_; try walk_nrm) | (refine Walk.un ?_; walk_nrm))
  (refine Walk.oa ?_; try walk_nrm)
  have s5 : (w4.alloc (.cells #[.pointer none, .pointer (some ⟨T + 1, 0, none⟩)] 92)).heap.size = w4.heap.size + 1 := by simp
  have o5 : ∀ b, b < w4.heap.size → (w4.alloc (.cells #[.pointer none, .pointer (some ⟨T + 1, 0, none⟩)] 92)).heap[b]? = w4.heap[b]? := fun b hb => heap_new_lt _ _ hb
  have d5 := heap_alloc_new w4 (.cells #[.pointer none, .pointer (some ⟨T + 1, 0, none⟩)] 92)
  rw [s4] at s5 o5 d5
  generalize w4.alloc (.cells #[.pointer none, .pointer (some ⟨T + 1, 0, none⟩)] 92) = w5 at *
  have N5 : NoX (T + 1) (T + 1 + 1) T w w5 := ⟨(o5 _ (by omega)).trans d4, d5, (o5 _ (by omega)).trans ((o4 _ (by omega)).trans d3), fun b hb => by rw [o5 b (by omega), o4 b (by omega), o3 b (by omega), o2 b (by omega), o1 b hb], by omega⟩
  clear o1 o2 o3 o4 o5 d3 d4 d5
  repeat (first | refine Walk.c rfl ?_ | refine Walk.cRet ?_ | refine Walk.cEnd ?_ | (refine Walk.cReg ?_; simp only [size13_0, size13_1, size13_2, size13_3, size13_4, size13_5, size13_6, size13_7, size13_8, size13_9, size13_10, size13_11, size13_12, size13_13, size13_14, size13_15, size13_16, size13_17, size13_18, size13_19, size13_20, size13_21, size13_22, size13_23, size13_24, size13_25, size13_26, size13_27, List.range, List.range.loop]) | (refine Walk.oq ?_; try walk_nrm) | (refine Walk.un ?_; walk_nrm))
  refine Walk.ctl rfl (fun w => stepG_loop) ?_
  refine .stop fun d => ⟨T + 1, T + 1 + 1, T, at_slots ?_, N5.at d⟩
  simp only [hdSo]
  rfl
theorem sn_b (sz rd q n : Int) (hS : ¬ okS sz) (w : World) :
    Walk Try.prog true (DR (fun _ => none)) (fun g w' => ∃ zb lb P, (∃ u, g = G (hdSo q n lb P 0 u) []) ∧ NoX zb lb P w w') (G (Frame.enter Try.prog 13 #[.int .i64 sz, .int .i64 rd, .int .i64 q, .int .i64 n] .normal) []) w := by
  have hA : ∀ b, Apart (fun _ => none) b := fun b => ⟨fun _ _ _ _ h => (by cases h), fun _ _ h => (by cases h)⟩
  have hb1 := fun x y w => run_neqB (P := Try.prog) 4 (by kernel_rfl) x y w
  have hb2 := fun x y w es => ev_neqB (P := Try.prog) 4 (by kernel_rfl) x y w es
  have hwr := writes_w (main := true) (V := fun _ => none) w hA
  have hno : ¬ (okS sz ∧ 0 ≤ rd ∧ rd ≤ 64) := fun h => hS h.1
  have hpb : powB sz = false := by rw [powB_ok]; exact decide_eq_false hS
  rw [enter_at _ Try.func13 code13_is]
  simp only [Try.ntmps13, List.size_toArray, List.length_cons, List.length_nil, Nat.reduceAdd, Nat.reduceSub, Array.replicate_succ, Array.replicate_zero, List.push_toArray, List.append_toArray, List.nil_append, List.cons_append]
  repeat (first | refine Walk.c rfl ?_ | refine Walk.cRet ?_ | refine Walk.cEnd ?_ | (refine Walk.cReg ?_; simp only [size13_0, size13_1, size13_2, size13_3, size13_4, size13_5, size13_6, size13_7, size13_8, size13_9, size13_10, size13_11, size13_12, size13_13, size13_14, size13_15, size13_16, size13_17, size13_18, size13_19, size13_20, size13_21, size13_22, size13_23, size13_24, size13_25, size13_26, size13_27, List.range, List.range.loop]) | (refine Walk.oq ?_; try walk_nrm) | (refine Walk.un ?_; walk_nrm))
  refine Walk.callW (Post := fun v w' => v = .bool true ∧ (∀ b, b < w.heap.size → w'.heap[b]? = w.heap[b]?) ∧ w.heap.size ≤ w'.heap.size) ?_ (ho_of (by conv => lhs; whnf) (by kernel_rfl)) (by rfl) (by decide) rfl Try.func39 (by kernel_rfl) (by rfl) ?_
  · walk_nrm
    exact hwr
  rintro _ w1 ⟨rfl, o1, z1⟩
  clear hwr
  walk_nrm
  repeat (first | refine Walk.c rfl ?_ | refine Walk.cRet ?_ | refine Walk.cEnd ?_ | (refine Walk.cReg ?_; simp only [size13_0, size13_1, size13_2, size13_3, size13_4, size13_5, size13_6, size13_7, size13_8, size13_9, size13_10, size13_11, size13_12, size13_13, size13_14, size13_15, size13_16, size13_17, size13_18, size13_19, size13_20, size13_21, size13_22, size13_23, size13_24, size13_25, size13_26, size13_27, List.range, List.range.loop]) | (refine Walk.oq ?_; try walk_nrm) | (refine Walk.un ?_; walk_nrm))
  have hnw : CallW Try.prog true (fun _ => none) 45 #[.int .i64 sz, .int .i64 rd] w1 (fun v w' => ∃ ob : Nat, v = .tuple #[.pointer none, .int .i64 1] ∧ (∀ b, b < w1.heap.size → w'.heap[b]? = w1.heap[b]?) ∧ w1.heap.size ≤ w'.heap.size) := by
    exact fun fr cs => (son_no sz rd hno w1 fr cs).mono fun g w' ⟨v, ⟨e, d, h⟩, hg⟩ => ⟨v, ⟨0, e, by rw [h]; exact fun _ _ => rfl, by rw [h]; exact Nat.le_refl _⟩, hg⟩
  refine Walk.callW (Post := fun v w' => ∃ ob : Nat, v = .tuple #[.pointer none, .int .i64 1] ∧ (∀ b, b < w1.heap.size → w'.heap[b]? = w1.heap[b]?) ∧ w1.heap.size ≤ w'.heap.size) ?_ (ho_of (by conv => lhs; whnf) (by kernel_rfl)) (by rfl) (by decide) rfl Try.func45 (by kernel_rfl) (by rfl) ?_
  · walk_nrm
    exact hnw
  rintro _ w2 ⟨ob, rfl, o2, z2⟩
  clear hnw
  have hp := pow_w (main := true) (V := fun _ => none) sz w2
  rw [hpb] at hp
  clear hpb
  have hq1 := fun w => run_eql_ptr (P := Try.prog) 92 undSolo (none) w
  have hq2 := fun w es => ev_eql_ptr (P := Try.prog) 92 undSolo (none) w es
  simp only [Option.isNone_none] at hq1
  walk_nrm
  repeat (first | refine Walk.c rfl ?_ | refine Walk.cRet ?_ | refine Walk.cEnd ?_ | (refine Walk.cReg ?_; simp only [size13_0, size13_1, size13_2, size13_3, size13_4, size13_5, size13_6, size13_7, size13_8, size13_9, size13_10, size13_11, size13_12, size13_13, size13_14, size13_15, size13_16, size13_17, size13_18, size13_19, size13_20, size13_21, size13_22, size13_23, size13_24, size13_25, size13_26, size13_27, List.range, List.range.loop]) | (refine Walk.oq ?_; try walk_nrm) | (refine Walk.un ?_; walk_nrm))
  refine Walk.callV (x := .bool false) (W := w2) ?_ (ho_of (by conv => lhs; whnf) (by kernel_rfl)) (by rfl) (by decide) rfl Try.func52 (by kernel_rfl) (by rfl) ?_
  · walk_nrm
    exact hp
  clear hp
  walk_nrm
  repeat (first | refine Walk.c rfl ?_ | refine Walk.cRet ?_ | refine Walk.cEnd ?_ | (refine Walk.cReg ?_; simp only [size13_0, size13_1, size13_2, size13_3, size13_4, size13_5, size13_6, size13_7, size13_8, size13_9, size13_10, size13_11, size13_12, size13_13, size13_14, size13_15, size13_16, size13_17, size13_18, size13_19, size13_20, size13_21, size13_22, size13_23, size13_24, size13_25, size13_26, size13_27, List.range, List.range.loop]) | (refine Walk.oq ?_; try walk_nrm) | (refine Walk.un ?_; walk_nrm))
  (refine Walk.oa ?_; try walk_nrm)
  have s3 : (w2.alloc (.cells #[.int .i64 0] 106)).heap.size = w2.heap.size + 1 := by simp
  have o3 : ∀ b, b < w2.heap.size → (w2.alloc (.cells #[.int .i64 0] 106)).heap[b]? = w2.heap[b]? := fun b hb => heap_new_lt _ _ hb
  have d3 := heap_alloc_new w2 (.cells #[.int .i64 0] 106)
  generalize hT : w2.heap.size = T at *
  generalize w2.alloc (.cells #[.int .i64 0] 106) = w3 at *
  repeat (first | refine Walk.c rfl ?_ | refine Walk.cRet ?_ | refine Walk.cEnd ?_ | (refine Walk.cReg ?_; simp only [size13_0, size13_1, size13_2, size13_3, size13_4, size13_5, size13_6, size13_7, size13_8, size13_9, size13_10, size13_11, size13_12, size13_13, size13_14, size13_15, size13_16, size13_17, size13_18, size13_19, size13_20, size13_21, size13_22, size13_23, size13_24, size13_25, size13_26, size13_27, List.range, List.range.loop]) | (refine Walk.oq ?_; try walk_nrm) | (refine Walk.un ?_; walk_nrm))
  (refine Walk.oa ?_; try walk_nrm)
  have s4 : (w3.alloc zSo).heap.size = w3.heap.size + 1 := by simp
  have o4 : ∀ b, b < w3.heap.size → (w3.alloc zSo).heap[b]? = w3.heap[b]? := fun b hb => heap_new_lt _ _ hb
  have d4 := heap_alloc_new w3 zSo
  have e4 : w3.alloc (.cells #[.pointer none, .int .i64 0, .slice none 0 0, .int .i64 0, .int .i64 0, .int .i64 0] 118) = w3.alloc zSo := rfl
  try rw [e4]
  clear e4
  rw [s3] at s4 o4 d4
  generalize w3.alloc zSo = w4 at *
  repeat (first | (refine Walk.oq ?_; try walk_nrm) | (refine Walk.un ?_; walk_nrm))
  (refine Walk.oa ?_; try walk_nrm)
  have s5 : (w4.alloc (.cells #[.pointer none, .pointer (some ⟨T + 1, 0, none⟩)] 92)).heap.size = w4.heap.size + 1 := by simp
  have o5 : ∀ b, b < w4.heap.size → (w4.alloc (.cells #[.pointer none, .pointer (some ⟨T + 1, 0, none⟩)] 92)).heap[b]? = w4.heap[b]? := fun b hb => heap_new_lt _ _ hb
  have d5 := heap_alloc_new w4 (.cells #[.pointer none, .pointer (some ⟨T + 1, 0, none⟩)] 92)
  rw [s4] at s5 o5 d5
  generalize w4.alloc (.cells #[.pointer none, .pointer (some ⟨T + 1, 0, none⟩)] 92) = w5 at *
  have N5 : NoX (T + 1) (T + 1 + 1) T w w5 := ⟨(o5 _ (by omega)).trans d4, d5, (o5 _ (by omega)).trans ((o4 _ (by omega)).trans d3), fun b hb => by rw [o5 b (by omega), o4 b (by omega), o3 b (by omega), o2 b (by omega), o1 b hb], by omega⟩
  clear o1 o2 o3 o4 o5 d3 d4 d5
  repeat (first | refine Walk.c rfl ?_ | refine Walk.cRet ?_ | refine Walk.cEnd ?_ | (refine Walk.cReg ?_; simp only [size13_0, size13_1, size13_2, size13_3, size13_4, size13_5, size13_6, size13_7, size13_8, size13_9, size13_10, size13_11, size13_12, size13_13, size13_14, size13_15, size13_16, size13_17, size13_18, size13_19, size13_20, size13_21, size13_22, size13_23, size13_24, size13_25, size13_26, size13_27, List.range, List.range.loop]) | (refine Walk.oq ?_; try walk_nrm) | (refine Walk.un ?_; walk_nrm))
  refine Walk.ctl rfl (fun w => stepG_loop) ?_
  refine .stop fun d => ⟨T + 1, T + 1 + 1, T, at_slots ?_, N5.at d⟩
  simp only [hdSo]
  rfl
theorem sn_c (sz rd q n : Int) (hS : okS sz) (h1 : ¬ 0 ≤ rd) (w : World) :
    Walk Try.prog true (DR (fun _ => none)) (fun g w' => ∃ zb lb P, (∃ u, g = G (hdSo q n lb P 0 u) []) ∧ NoX zb lb P w w') (G (Frame.enter Try.prog 13 #[.int .i64 sz, .int .i64 rd, .int .i64 q, .int .i64 n] .normal) []) w := by
  have hA : ∀ b, Apart (fun _ => none) b := fun b => ⟨fun _ _ _ _ h => (by cases h), fun _ _ h => (by cases h)⟩
  have hb1 := fun x y w => run_neqB (P := Try.prog) 4 (by kernel_rfl) x y w
  have hb2 := fun x y w es => ev_neqB (P := Try.prog) 4 (by kernel_rfl) x y w es
  have hwr := writes_w (main := true) (V := fun _ => none) w hA
  have hno : ¬ (okS sz ∧ 0 ≤ rd ∧ rd ≤ 64) := fun h => h1 h.2.1
  have g1 : decide (0 ≤ rd) = false := decide_eq_false h1
  have hpb : powB sz = true := by rw [powB_ok]; exact decide_eq_true hS
  rw [enter_at _ Try.func13 code13_is]
  simp only [Try.ntmps13, List.size_toArray, List.length_cons, List.length_nil, Nat.reduceAdd, Nat.reduceSub, Array.replicate_succ, Array.replicate_zero, List.push_toArray, List.append_toArray, List.nil_append, List.cons_append]
  repeat (first | refine Walk.c rfl ?_ | refine Walk.cRet ?_ | refine Walk.cEnd ?_ | (refine Walk.cReg ?_; simp only [size13_0, size13_1, size13_2, size13_3, size13_4, size13_5, size13_6, size13_7, size13_8, size13_9, size13_10, size13_11, size13_12, size13_13, size13_14, size13_15, size13_16, size13_17, size13_18, size13_19, size13_20, size13_21, size13_22, size13_23, size13_24, size13_25, size13_26, size13_27, List.range, List.range.loop]) | (refine Walk.oq ?_; try walk_nrm) | (refine Walk.un ?_; walk_nrm))
  refine Walk.callW (Post := fun v w' => v = .bool true ∧ (∀ b, b < w.heap.size → w'.heap[b]? = w.heap[b]?) ∧ w.heap.size ≤ w'.heap.size) ?_ (ho_of (by conv => lhs; whnf) (by kernel_rfl)) (by rfl) (by decide) rfl Try.func39 (by kernel_rfl) (by rfl) ?_
  · walk_nrm
    exact hwr
  rintro _ w1 ⟨rfl, o1, z1⟩
  clear hwr
  walk_nrm
  repeat (first | refine Walk.c rfl ?_ | refine Walk.cRet ?_ | refine Walk.cEnd ?_ | (refine Walk.cReg ?_; simp only [size13_0, size13_1, size13_2, size13_3, size13_4, size13_5, size13_6, size13_7, size13_8, size13_9, size13_10, size13_11, size13_12, size13_13, size13_14, size13_15, size13_16, size13_17, size13_18, size13_19, size13_20, size13_21, size13_22, size13_23, size13_24, size13_25, size13_26, size13_27, List.range, List.range.loop]) | (refine Walk.oq ?_; try walk_nrm) | (refine Walk.un ?_; walk_nrm))
  have hnw : CallW Try.prog true (fun _ => none) 45 #[.int .i64 sz, .int .i64 rd] w1 (fun v w' => ∃ ob : Nat, v = .tuple #[.pointer none, .int .i64 1] ∧ (∀ b, b < w1.heap.size → w'.heap[b]? = w1.heap[b]?) ∧ w1.heap.size ≤ w'.heap.size) := by
    exact fun fr cs => (son_no sz rd hno w1 fr cs).mono fun g w' ⟨v, ⟨e, d, h⟩, hg⟩ => ⟨v, ⟨0, e, by rw [h]; exact fun _ _ => rfl, by rw [h]; exact Nat.le_refl _⟩, hg⟩
  refine Walk.callW (Post := fun v w' => ∃ ob : Nat, v = .tuple #[.pointer none, .int .i64 1] ∧ (∀ b, b < w1.heap.size → w'.heap[b]? = w1.heap[b]?) ∧ w1.heap.size ≤ w'.heap.size) ?_ (ho_of (by conv => lhs; whnf) (by kernel_rfl)) (by rfl) (by decide) rfl Try.func45 (by kernel_rfl) (by rfl) ?_
  · walk_nrm
    exact hnw
  rintro _ w2 ⟨ob, rfl, o2, z2⟩
  clear hnw
  have hp := pow_w (main := true) (V := fun _ => none) sz w2
  rw [hpb] at hp
  clear hpb
  have hq1 := fun w => run_eql_ptr (P := Try.prog) 92 undSolo (none) w
  have hq2 := fun w es => ev_eql_ptr (P := Try.prog) 92 undSolo (none) w es
  simp only [Option.isNone_none] at hq1
  walk_nrm
  repeat (first | refine Walk.c rfl ?_ | refine Walk.cRet ?_ | refine Walk.cEnd ?_ | (refine Walk.cReg ?_; simp only [size13_0, size13_1, size13_2, size13_3, size13_4, size13_5, size13_6, size13_7, size13_8, size13_9, size13_10, size13_11, size13_12, size13_13, size13_14, size13_15, size13_16, size13_17, size13_18, size13_19, size13_20, size13_21, size13_22, size13_23, size13_24, size13_25, size13_26, size13_27, List.range, List.range.loop]) | (refine Walk.oq ?_; try walk_nrm) | (refine Walk.un ?_; walk_nrm))
  refine Walk.callV (x := .bool true) (W := w2) ?_ (ho_of (by conv => lhs; whnf) (by kernel_rfl)) (by rfl) (by decide) rfl Try.func52 (by kernel_rfl) (by rfl) ?_
  · walk_nrm
    exact hp
  clear hp
  walk_nrm
  repeat (first | refine Walk.c rfl ?_ | refine Walk.cRet ?_ | refine Walk.cEnd ?_ | (refine Walk.cReg ?_; simp only [size13_0, size13_1, size13_2, size13_3, size13_4, size13_5, size13_6, size13_7, size13_8, size13_9, size13_10, size13_11, size13_12, size13_13, size13_14, size13_15, size13_16, size13_17, size13_18, size13_19, size13_20, size13_21, size13_22, size13_23, size13_24, size13_25, size13_26, size13_27, List.range, List.range.loop]) | (refine Walk.oq ?_; try walk_nrm) | (refine Walk.un ?_; walk_nrm))
  (refine Walk.oa ?_; try walk_nrm)
  have s3 : (w2.alloc (.cells #[.int .i64 0] 106)).heap.size = w2.heap.size + 1 := by simp
  have o3 : ∀ b, b < w2.heap.size → (w2.alloc (.cells #[.int .i64 0] 106)).heap[b]? = w2.heap[b]? := fun b hb => heap_new_lt _ _ hb
  have d3 := heap_alloc_new w2 (.cells #[.int .i64 0] 106)
  generalize hT : w2.heap.size = T at *
  generalize w2.alloc (.cells #[.int .i64 0] 106) = w3 at *
  repeat (first | refine Walk.c rfl ?_ | refine Walk.cRet ?_ | refine Walk.cEnd ?_ | (refine Walk.cReg ?_; simp only [size13_0, size13_1, size13_2, size13_3, size13_4, size13_5, size13_6, size13_7, size13_8, size13_9, size13_10, size13_11, size13_12, size13_13, size13_14, size13_15, size13_16, size13_17, size13_18, size13_19, size13_20, size13_21, size13_22, size13_23, size13_24, size13_25, size13_26, size13_27, List.range, List.range.loop]) | (refine Walk.oq ?_; try walk_nrm) | (refine Walk.un ?_; walk_nrm))
  (refine Walk.oa ?_; try walk_nrm)
  have s4 : (w3.alloc zSo).heap.size = w3.heap.size + 1 := by simp
  have o4 : ∀ b, b < w3.heap.size → (w3.alloc zSo).heap[b]? = w3.heap[b]? := fun b hb => heap_new_lt _ _ hb
  have d4 := heap_alloc_new w3 zSo
  have e4 : w3.alloc (.cells #[.pointer none, .int .i64 0, .slice none 0 0, .int .i64 0, .int .i64 0, .int .i64 0] 118) = w3.alloc zSo := rfl
  try rw [e4]
  clear e4
  rw [s3] at s4 o4 d4
  generalize w3.alloc zSo = w4 at *
  repeat (first | (refine Walk.oq ?_; try walk_nrm) | (refine Walk.un ?_; walk_nrm))
  (refine Walk.oa ?_; try walk_nrm)
  have s5 : (w4.alloc (.cells #[.pointer none, .pointer (some ⟨T + 1, 0, none⟩)] 92)).heap.size = w4.heap.size + 1 := by simp
  have o5 : ∀ b, b < w4.heap.size → (w4.alloc (.cells #[.pointer none, .pointer (some ⟨T + 1, 0, none⟩)] 92)).heap[b]? = w4.heap[b]? := fun b hb => heap_new_lt _ _ hb
  have d5 := heap_alloc_new w4 (.cells #[.pointer none, .pointer (some ⟨T + 1, 0, none⟩)] 92)
  rw [s4] at s5 o5 d5
  generalize w4.alloc (.cells #[.pointer none, .pointer (some ⟨T + 1, 0, none⟩)] 92) = w5 at *
  have N5 : NoX (T + 1) (T + 1 + 1) T w w5 := ⟨(o5 _ (by omega)).trans d4, d5, (o5 _ (by omega)).trans ((o4 _ (by omega)).trans d3), fun b hb => by rw [o5 b (by omega), o4 b (by omega), o3 b (by omega), o2 b (by omega), o1 b hb], by omega⟩
  clear o1 o2 o3 o4 o5 d3 d4 d5
  repeat (first | refine Walk.c rfl ?_ | refine Walk.cRet ?_ | refine Walk.cEnd ?_ | (refine Walk.cReg ?_; simp only [size13_0, size13_1, size13_2, size13_3, size13_4, size13_5, size13_6, size13_7, size13_8, size13_9, size13_10, size13_11, size13_12, size13_13, size13_14, size13_15, size13_16, size13_17, size13_18, size13_19, size13_20, size13_21, size13_22, size13_23, size13_24, size13_25, size13_26, size13_27, List.range, List.range.loop]) | (refine Walk.oq ?_; try walk_nrm) | (refine Walk.un ?_; walk_nrm))
  refine Walk.ctl rfl (fun w => stepG_loop) ?_
  refine .stop fun d => ⟨T + 1, T + 1 + 1, T, at_slots ?_, N5.at d⟩
  simp only [hdSo]
  rfl
theorem sn_d (sz rd q n : Int) (hS : okS sz) (h1 : 0 ≤ rd) (h2 : ¬ rd ≤ 64) (w : World) :
    Walk Try.prog true (DR (fun _ => none)) (fun g w' => ∃ zb lb P, (∃ u, g = G (hdSo q n lb P 0 u) []) ∧ NoX zb lb P w w') (G (Frame.enter Try.prog 13 #[.int .i64 sz, .int .i64 rd, .int .i64 q, .int .i64 n] .normal) []) w := by
  have hA : ∀ b, Apart (fun _ => none) b := fun b => ⟨fun _ _ _ _ h => (by cases h), fun _ _ h => (by cases h)⟩
  have hb1 := fun x y w => run_neqB (P := Try.prog) 4 (by kernel_rfl) x y w
  have hb2 := fun x y w es => ev_neqB (P := Try.prog) 4 (by kernel_rfl) x y w es
  have hwr := writes_w (main := true) (V := fun _ => none) w hA
  have hno : ¬ (okS sz ∧ 0 ≤ rd ∧ rd ≤ 64) := fun h => h2 h.2.2
  have g1 : decide (0 ≤ rd) = true := decide_eq_true h1
  have g2 : decide (rd ≤ 64) = false := decide_eq_false h2
  have hpb : powB sz = true := by rw [powB_ok]; exact decide_eq_true hS
  rw [enter_at _ Try.func13 code13_is]
  simp only [Try.ntmps13, List.size_toArray, List.length_cons, List.length_nil, Nat.reduceAdd, Nat.reduceSub, Array.replicate_succ, Array.replicate_zero, List.push_toArray, List.append_toArray, List.nil_append, List.cons_append]
  repeat (first | refine Walk.c rfl ?_ | refine Walk.cRet ?_ | refine Walk.cEnd ?_ | (refine Walk.cReg ?_; simp only [size13_0, size13_1, size13_2, size13_3, size13_4, size13_5, size13_6, size13_7, size13_8, size13_9, size13_10, size13_11, size13_12, size13_13, size13_14, size13_15, size13_16, size13_17, size13_18, size13_19, size13_20, size13_21, size13_22, size13_23, size13_24, size13_25, size13_26, size13_27, List.range, List.range.loop]) | (refine Walk.oq ?_; try walk_nrm) | (refine Walk.un ?_; walk_nrm))
  refine Walk.callW (Post := fun v w' => v = .bool true ∧ (∀ b, b < w.heap.size → w'.heap[b]? = w.heap[b]?) ∧ w.heap.size ≤ w'.heap.size) ?_ (ho_of (by conv => lhs; whnf) (by kernel_rfl)) (by rfl) (by decide) rfl Try.func39 (by kernel_rfl) (by rfl) ?_
  · walk_nrm
    exact hwr
  rintro _ w1 ⟨rfl, o1, z1⟩
  clear hwr
  walk_nrm
  repeat (first | refine Walk.c rfl ?_ | refine Walk.cRet ?_ | refine Walk.cEnd ?_ | (refine Walk.cReg ?_; simp only [size13_0, size13_1, size13_2, size13_3, size13_4, size13_5, size13_6, size13_7, size13_8, size13_9, size13_10, size13_11, size13_12, size13_13, size13_14, size13_15, size13_16, size13_17, size13_18, size13_19, size13_20, size13_21, size13_22, size13_23, size13_24, size13_25, size13_26, size13_27, List.range, List.range.loop]) | (refine Walk.oq ?_; try walk_nrm) | (refine Walk.un ?_; walk_nrm))
  have hnw : CallW Try.prog true (fun _ => none) 45 #[.int .i64 sz, .int .i64 rd] w1 (fun v w' => ∃ ob : Nat, v = .tuple #[.pointer none, .int .i64 1] ∧ (∀ b, b < w1.heap.size → w'.heap[b]? = w1.heap[b]?) ∧ w1.heap.size ≤ w'.heap.size) := by
    exact fun fr cs => (son_no sz rd hno w1 fr cs).mono fun g w' ⟨v, ⟨e, d, h⟩, hg⟩ => ⟨v, ⟨0, e, by rw [h]; exact fun _ _ => rfl, by rw [h]; exact Nat.le_refl _⟩, hg⟩
  refine Walk.callW (Post := fun v w' => ∃ ob : Nat, v = .tuple #[.pointer none, .int .i64 1] ∧ (∀ b, b < w1.heap.size → w'.heap[b]? = w1.heap[b]?) ∧ w1.heap.size ≤ w'.heap.size) ?_ (ho_of (by conv => lhs; whnf) (by kernel_rfl)) (by rfl) (by decide) rfl Try.func45 (by kernel_rfl) (by rfl) ?_
  · walk_nrm
    exact hnw
  rintro _ w2 ⟨ob, rfl, o2, z2⟩
  clear hnw
  have hp := pow_w (main := true) (V := fun _ => none) sz w2
  rw [hpb] at hp
  clear hpb
  have hq1 := fun w => run_eql_ptr (P := Try.prog) 92 undSolo (none) w
  have hq2 := fun w es => ev_eql_ptr (P := Try.prog) 92 undSolo (none) w es
  simp only [Option.isNone_none] at hq1
  walk_nrm
  repeat (first | refine Walk.c rfl ?_ | refine Walk.cRet ?_ | refine Walk.cEnd ?_ | (refine Walk.cReg ?_; simp only [size13_0, size13_1, size13_2, size13_3, size13_4, size13_5, size13_6, size13_7, size13_8, size13_9, size13_10, size13_11, size13_12, size13_13, size13_14, size13_15, size13_16, size13_17, size13_18, size13_19, size13_20, size13_21, size13_22, size13_23, size13_24, size13_25, size13_26, size13_27, List.range, List.range.loop]) | (refine Walk.oq ?_; try walk_nrm) | (refine Walk.un ?_; walk_nrm))
  refine Walk.callV (x := .bool true) (W := w2) ?_ (ho_of (by conv => lhs; whnf) (by kernel_rfl)) (by rfl) (by decide) rfl Try.func52 (by kernel_rfl) (by rfl) ?_
  · walk_nrm
    exact hp
  clear hp
  walk_nrm
  repeat (first | refine Walk.c rfl ?_ | refine Walk.cRet ?_ | refine Walk.cEnd ?_ | (refine Walk.cReg ?_; simp only [size13_0, size13_1, size13_2, size13_3, size13_4, size13_5, size13_6, size13_7, size13_8, size13_9, size13_10, size13_11, size13_12, size13_13, size13_14, size13_15, size13_16, size13_17, size13_18, size13_19, size13_20, size13_21, size13_22, size13_23, size13_24, size13_25, size13_26, size13_27, List.range, List.range.loop]) | (refine Walk.oq ?_; try walk_nrm) | (refine Walk.un ?_; walk_nrm))
  (refine Walk.oa ?_; try walk_nrm)
  have s3 : (w2.alloc (.cells #[.int .i64 0] 106)).heap.size = w2.heap.size + 1 := by simp
  have o3 : ∀ b, b < w2.heap.size → (w2.alloc (.cells #[.int .i64 0] 106)).heap[b]? = w2.heap[b]? := fun b hb => heap_new_lt _ _ hb
  have d3 := heap_alloc_new w2 (.cells #[.int .i64 0] 106)
  generalize hT : w2.heap.size = T at *
  generalize w2.alloc (.cells #[.int .i64 0] 106) = w3 at *
  repeat (first | refine Walk.c rfl ?_ | refine Walk.cRet ?_ | refine Walk.cEnd ?_ | (refine Walk.cReg ?_; simp only [size13_0, size13_1, size13_2, size13_3, size13_4, size13_5, size13_6, size13_7, size13_8, size13_9, size13_10, size13_11, size13_12, size13_13, size13_14, size13_15, size13_16, size13_17, size13_18, size13_19, size13_20, size13_21, size13_22, size13_23, size13_24, size13_25, size13_26, size13_27, List.range, List.range.loop]) | (refine Walk.oq ?_; try walk_nrm) | (refine Walk.un ?_; walk_nrm))
  (refine Walk.oa ?_; try walk_nrm)
  have s4 : (w3.alloc zSo).heap.size = w3.heap.size + 1 := by simp
  have o4 : ∀ b, b < w3.heap.size → (w3.alloc zSo).heap[b]? = w3.heap[b]? := fun b hb => heap_new_lt _ _ hb
  have d4 := heap_alloc_new w3 zSo
  have e4 : w3.alloc (.cells #[.pointer none, .int .i64 0, .slice none 0 0, .int .i64 0, .int .i64 0, .int .i64 0] 118) = w3.alloc zSo := rfl
  try rw [e4]
  clear e4
  rw [s3] at s4 o4 d4
  generalize w3.alloc zSo = w4 at *
  repeat (first | (refine Walk.oq ?_; try walk_nrm) | (refine Walk.un ?_; walk_nrm))
  (refine Walk.oa ?_; try walk_nrm)
  have s5 : (w4.alloc (.cells #[.pointer none, .pointer (some ⟨T + 1, 0, none⟩)] 92)).heap.size = w4.heap.size + 1 := by simp
  have o5 : ∀ b, b < w4.heap.size → (w4.alloc (.cells #[.pointer none, .pointer (some ⟨T + 1, 0, none⟩)] 92)).heap[b]? = w4.heap[b]? := fun b hb => heap_new_lt _ _ hb
  have d5 := heap_alloc_new w4 (.cells #[.pointer none, .pointer (some ⟨T + 1, 0, none⟩)] 92)
  rw [s4] at s5 o5 d5
  generalize w4.alloc (.cells #[.pointer none, .pointer (some ⟨T + 1, 0, none⟩)] 92) = w5 at *
  have N5 : NoX (T + 1) (T + 1 + 1) T w w5 := ⟨(o5 _ (by omega)).trans d4, d5, (o5 _ (by omega)).trans ((o4 _ (by omega)).trans d3), fun b hb => by rw [o5 b (by omega), o4 b (by omega), o3 b (by omega), o2 b (by omega), o1 b hb], by omega⟩
  clear o1 o2 o3 o4 o5 d3 d4 d5
  repeat (first | refine Walk.c rfl ?_ | refine Walk.cRet ?_ | refine Walk.cEnd ?_ | (refine Walk.cReg ?_; simp only [size13_0, size13_1, size13_2, size13_3, size13_4, size13_5, size13_6, size13_7, size13_8, size13_9, size13_10, size13_11, size13_12, size13_13, size13_14, size13_15, size13_16, size13_17, size13_18, size13_19, size13_20, size13_21, size13_22, size13_23, size13_24, size13_25, size13_26, size13_27, List.range, List.range.loop]) | (refine Walk.oq ?_; try walk_nrm) | (refine Walk.un ?_; walk_nrm))
  refine Walk.ctl rfl (fun w => stepG_loop) ?_
  refine .stop fun d => ⟨T + 1, T + 1 + 1, T, at_slots ?_, N5.at d⟩
  simp only [hdSo]
  rfl
theorem sn_enter (sz rd q n : Int) (w : World) :
    Walk Try.prog true (DR (fun _ => none)) (fun g w' => ∃ zb lb P, (∃ u, g = G (hdSo q n lb P 0 u) []) ∧ NoX zb lb P w w') (G (Frame.enter Try.prog 13 #[.int .i64 sz, .int .i64 rd, .int .i64 q, .int .i64 n] .normal) []) w := by
  by_cases hS : okS sz
  · by_cases h1 : 0 ≤ rd
    · by_cases h2 : rd ≤ 64
      · exact sn_a sz rd q n hS h1 h2 w
      · exact sn_d sz rd q n hS h1 h2 w
    · exact sn_c sz rd q n hS h1 w
  · exact sn_b sz rd q n hS w
theorem sn_all (sz rd q n : Int) (W : World) :
    Walk Try.prog true (DR (fun _ => none)) (fun g w' => Closing 13 8 (.bool true) g ∧ ∀ b, b < W.heap.size → w'.heap[b]? = W.heap[b]?) (G (Frame.enter Try.prog 13 #[.int .i64 sz, .int .i64 rd, .int .i64 q, .int .i64 n] .normal) []) W := by
  refine (sn_enter sz rd q n W).then ?_
  rintro _ w1 ⟨zb, lb, P, ⟨u, rfl⟩, I⟩
  exact so_outer q n W 2 0 w1 u rfl I
end Go.Proofs.Ytbmijpkdghkbbaa
