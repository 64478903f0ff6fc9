/- Part 6. -/
import Derived.Test.YtnnakajldnaldaaM3
import Derived.Test.YtnnakajldnaldaaM5
set_option linter.unusedSimpArgs false
set_option linter.unusedVariables false
set_option maxHeartbeats 8000000
set_option maxRecDepth 100000
namespace Go.Proofs.Ytnnakajldnaldaa
open Go.Conc Go.RowKit Go.Relay
open Go.ConcN (upd upd_ne upd_same)
section
noncomputable def reg5_0 : Array Oper := match Try.f5.body with | some (.seq (.region _ ops _) _) => ops | _ => #[]
theorem size5_0 : reg5_0.size = 1 := by kernel_rfl
noncomputable def reg5_1 : Array Oper := match Try.f5.body with | some (.seq _ (.seq (.seq (.region _ ops _) _) _)) => ops | _ => #[]
theorem size5_1 : reg5_1.size = 2 := by kernel_rfl
noncomputable def reg5_2 : Array Oper := match Try.f5.body with | some (.seq _ (.seq (.seq _ (.cond _ (.seq (.region _ ops _) _) _)) _)) => ops | _ => #[]
theorem size5_2 : reg5_2.size = 1 := by kernel_rfl
noncomputable def reg5_3 : Array Oper := match Try.f5.body with | some (.seq _ (.seq _ (.seq (.region _ ops _) _))) => ops | _ => #[]
theorem size5_3 : reg5_3.size = 5 := by kernel_rfl
noncomputable def reg5_4 : Array Oper := match Try.f5.body with | some (.seq _ (.seq _ (.seq _ (.seq (.region _ ops _) _)))) => ops | _ => #[]
theorem size5_4 : reg5_4.size = 7 := by kernel_rfl
noncomputable def reg5_5 : Array Oper := match Try.f5.body with | some (.seq _ (.seq _ (.seq _ (.seq _ (.seq (.region _ ops _) _))))) => ops | _ => #[]
theorem size5_5 : reg5_5.size = 3 := by kernel_rfl
noncomputable def reg5_6 : Array Oper := match Try.f5.body with | some (.seq _ (.seq _ (.seq _ (.seq _ (.seq _ (.seq (.region _ ops _) _)))))) => ops | _ => #[]
theorem size5_6 : reg5_6.size = 8 := by kernel_rfl
noncomputable def reg5_7 : Array Oper := match Try.f5.body with | some (.seq _ (.seq _ (.seq _ (.seq _ (.seq _ (.seq _ (.seq (.region _ ops _) _))))))) => ops | _ => #[]
theorem size5_7 : reg5_7.size = 7 := by kernel_rfl
noncomputable def reg5_8 : Array Oper := match Try.f5.body with | some (.seq _ (.seq _ (.seq _ (.seq _ (.seq _ (.seq _ (.seq _ (.seq (.seq (.region _ ops _) _) _)))))))) => ops | _ => #[]
theorem size5_8 : reg5_8.size = 19 := by kernel_rfl
noncomputable def reg5_9 : Array Oper := match Try.f5.body with | some (.seq _ (.seq _ (.seq _ (.seq _ (.seq _ (.seq _ (.seq _ (.seq (.seq _ (.cond _ (.seq (.region _ ops _) _) _)) _)))))))) => ops | _ => #[]
theorem size5_9 : reg5_9.size = 1 := by kernel_rfl
noncomputable def reg5_10 : Array Oper := match Try.f5.body with | some (.seq _ (.seq _ (.seq _ (.seq _ (.seq _ (.seq _ (.seq _ (.seq _ (.seq (.region _ ops _) _))))))))) => ops | _ => #[]
theorem size5_10 : reg5_10.size = 4 := by kernel_rfl
noncomputable def reg5_11 : Array Oper := match Try.f5.body with | some (.seq _ (.seq _ (.seq _ (.seq _ (.seq _ (.seq _ (.seq _ (.seq _ (.seq _ (.seq (.region _ ops _) _)))))))))) => ops | _ => #[]
theorem size5_11 : reg5_11.size = 1 := by kernel_rfl
noncomputable def reg5_12 : Array Oper := match Try.f5.body with | some (.seq _ (.seq _ (.seq _ (.seq _ (.seq _ (.seq _ (.seq _ (.seq _ (.seq _ (.seq _ (.seq (.region _ ops _) _))))))))))) => ops | _ => #[]
theorem size5_12 : reg5_12.size = 1 := by kernel_rfl
noncomputable def reg5_13 : Array Oper := match Try.f5.body with | some (.seq _ (.seq _ (.seq _ (.seq _ (.seq _ (.seq _ (.seq _ (.seq _ (.seq _ (.seq _ (.seq _ (.seq (.region _ ops _) _)))))))))))) => ops | _ => #[]
theorem size5_13 : reg5_13.size = 1 := by kernel_rfl
noncomputable def reg5_14 : Array Oper := match Try.f5.body with | some (.seq _ (.seq _ (.seq _ (.seq _ (.seq _ (.seq _ (.seq _ (.seq _ (.seq _ (.seq _ (.seq _ (.seq _ (.seq (.seq (.region _ ops _) _) _))))))))))))) => ops | _ => #[]
theorem size5_14 : reg5_14.size = 1 := by kernel_rfl
noncomputable def reg5_15 : Array Oper := match Try.f5.body with | some (.seq _ (.seq _ (.seq _ (.seq _ (.seq _ (.seq _ (.seq _ (.seq _ (.seq _ (.seq _ (.seq _ (.seq _ (.seq (.seq _ (.block _ (.loop (.seq (.seq (.region _ ops _) _) _)))) _))))))))))))) => ops | _ => #[]
theorem size5_15 : reg5_15.size = 5 := by kernel_rfl
noncomputable def reg5_17 : Array Oper := match Try.f5.body with | some (.seq _ (.seq _ (.seq _ (.seq _ (.seq _ (.seq _ (.seq _ (.seq _ (.seq _ (.seq _ (.seq _ (.seq _ (.seq (.seq _ (.block _ (.loop (.seq _ (.seq (.block _ (.seq (.region _ ops _) _)) _))))) _))))))))))))) => ops | _ => #[]
theorem size5_17 : reg5_17.size = 6 := by kernel_rfl
noncomputable def reg5_18 : Array Oper := match Try.f5.body with | some (.seq _ (.seq _ (.seq _ (.seq _ (.seq _ (.seq _ (.seq _ (.seq _ (.seq _ (.seq _ (.seq _ (.seq _ (.seq (.seq _ (.block _ (.loop (.seq _ (.seq (.block _ (.seq _ (.seq (.seq (.region _ ops _) _) _))) _))))) _))))))))))))) => ops | _ => #[]
theorem size5_18 : reg5_18.size = 8 := by kernel_rfl
noncomputable def reg5_19 : Array Oper := match Try.f5.body with | some (.seq _ (.seq _ (.seq _ (.seq _ (.seq _ (.seq _ (.seq _ (.seq _ (.seq _ (.seq _ (.seq _ (.seq _ (.seq (.seq _ (.block _ (.loop (.seq _ (.seq (.block _ (.seq _ (.seq (.seq _ (.cond _ (.seq (.region _ ops _) _) _)) _))) _))))) _))))))))))))) => ops | _ => #[]
theorem size5_19 : reg5_19.size = 1 := by kernel_rfl
noncomputable def reg5_20 : Array Oper := match Try.f5.body with | some (.seq _ (.seq _ (.seq _ (.seq _ (.seq _ (.seq _ (.seq _ (.seq _ (.seq _ (.seq _ (.seq _ (.seq _ (.seq (.seq _ (.block _ (.loop (.seq _ (.seq (.block _ (.seq _ (.seq _ (.seq (.seq (.region _ ops _) _) _)))) _))))) _))))))))))))) => ops | _ => #[]
theorem size5_20 : reg5_20.size = 3 := by kernel_rfl
noncomputable def reg5_21 : Array Oper := match Try.f5.body with | some (.seq _ (.seq _ (.seq _ (.seq _ (.seq _ (.seq _ (.seq _ (.seq _ (.seq _ (.seq _ (.seq _ (.seq _ (.seq (.seq _ (.block _ (.loop (.seq _ (.seq (.block _ (.seq _ (.seq _ (.seq (.seq _ (.cond _ (.region _ ops _) _)) _)))) _))))) _))))))))))))) => ops | _ => #[]
theorem size5_21 : reg5_21.size = 5 := by kernel_rfl
noncomputable def reg5_22 : Array Oper := match Try.f5.body with | some (.seq _ (.seq _ (.seq _ (.seq _ (.seq _ (.seq _ (.seq _ (.seq _ (.seq _ (.seq _ (.seq _ (.seq _ (.seq (.seq _ (.block _ (.loop (.seq _ (.seq (.block _ (.seq _ (.seq _ (.seq (.seq _ (.cond _ _ (.seq (.seq (.region _ ops _) _) _))) _)))) _))))) _))))))))))))) => ops | _ => #[]
theorem size5_22 : reg5_22.size = 10 := by kernel_rfl
noncomputable def reg5_23 : Array Oper := match Try.f5.body with | some (.seq _ (.seq _ (.seq _ (.seq _ (.seq _ (.seq _ (.seq _ (.seq _ (.seq _ (.seq _ (.seq _ (.seq _ (.seq (.seq _ (.block _ (.loop (.seq _ (.seq (.block _ (.seq _ (.seq _ (.seq (.seq _ (.cond _ _ (.seq (.seq _ (.cond _ (.seq (.region _ ops _) _) _)) _))) _)))) _))))) _))))))))))))) => ops | _ => #[]
theorem size5_23 : reg5_23.size = 1 := by kernel_rfl
noncomputable def reg5_24 : Array Oper := match Try.f5.body with | some (.seq _ (.seq _ (.seq _ (.seq _ (.seq _ (.seq _ (.seq _ (.seq _ (.seq _ (.seq _ (.seq _ (.seq _ (.seq (.seq _ (.block _ (.loop (.seq _ (.seq (.block _ (.seq _ (.seq _ (.seq (.seq _ (.cond _ _ (.seq _ (.seq (.region _ ops _) _)))) _)))) _))))) _))))))))))))) => ops | _ => #[]
theorem size5_24 : reg5_24.size = 14 := by kernel_rfl
noncomputable def reg5_25 : Array Oper := match Try.f5.body with | some (.seq _ (.seq _ (.seq _ (.seq _ (.seq _ (.seq _ (.seq _ (.seq _ (.seq _ (.seq _ (.seq _ (.seq _ (.seq (.seq _ (.block _ (.loop (.seq _ (.seq (.block _ (.seq _ (.seq _ (.seq (.seq _ (.cond _ _ (.seq _ (.seq _ (.region _ ops _))))) _)))) _))))) _))))))))))))) => ops | _ => #[]
theorem size5_25 : reg5_25.size = 7 := by kernel_rfl
noncomputable def reg5_26 : Array Oper := match Try.f5.body with | some (.seq _ (.seq _ (.seq _ (.seq _ (.seq _ (.seq _ (.seq _ (.seq _ (.seq _ (.seq _ (.seq _ (.seq _ (.seq (.seq _ (.block _ (.loop (.seq _ (.seq (.block _ (.seq _ (.seq _ (.seq _ (.region _ ops _))))) _))))) _))))))))))))) => ops | _ => #[]
theorem size5_26 : reg5_26.size = 5 := by kernel_rfl
noncomputable def reg5_16 : Array Oper := match Try.f5.body with | some (.seq _ (.seq _ (.seq _ (.seq _ (.seq _ (.seq _ (.seq _ (.seq _ (.seq _ (.seq _ (.seq _ (.seq _ (.seq (.seq _ (.block _ (.loop (.seq _ (.seq _ (.region _ ops _)))))) _))))))))))))) => ops | _ => #[]
theorem size5_16 : reg5_16.size = 3 := by kernel_rfl
noncomputable def reg5_27 : Array Oper := match Try.f5.body with | some (.seq _ (.seq _ (.seq _ (.seq _ (.seq _ (.seq _ (.seq _ (.seq _ (.seq _ (.seq _ (.seq _ (.seq _ (.seq _ (.seq (.region _ ops _) _)))))))))))))) => ops | _ => #[]
theorem size5_27 : reg5_27.size = 6 := by kernel_rfl
noncomputable def reg5_28 : Array Oper := match Try.f5.body with | some (.seq _ (.seq _ (.seq _ (.seq _ (.seq _ (.seq _ (.seq _ (.seq _ (.seq _ (.seq _ (.seq _ (.seq _ (.seq _ (.seq _ (.seq (.seq (.region _ ops _) _) _))))))))))))))) => ops | _ => #[]
theorem size5_28 : reg5_28.size = 13 := by kernel_rfl
noncomputable def reg5_29 : Array Oper := match Try.f5.body with | some (.seq _ (.seq _ (.seq _ (.seq _ (.seq _ (.seq _ (.seq _ (.seq _ (.seq _ (.seq _ (.seq _ (.seq _ (.seq _ (.seq _ (.seq (.seq _ (.cond _ (.seq (.region _ ops _) _) _)) _))))))))))))))) => ops | _ => #[]
theorem size5_29 : reg5_29.size = 1 := by kernel_rfl
noncomputable def reg5_30 : Array Oper := match Try.f5.body with | some (.seq _ (.seq _ (.seq _ (.seq _ (.seq _ (.seq _ (.seq _ (.seq _ (.seq _ (.seq _ (.seq _ (.seq _ (.seq _ (.seq _ (.seq _ (.seq (.region _ ops _) _)))))))))))))))) => ops | _ => #[]
theorem size5_30 : reg5_30.size = 6 := by kernel_rfl
noncomputable def reg5_31 : Array Oper := match Try.f5.body with | some (.seq _ (.seq _ (.seq _ (.seq _ (.seq _ (.seq _ (.seq _ (.seq _ (.seq _ (.seq _ (.seq _ (.seq _ (.seq _ (.seq _ (.seq _ (.seq _ (.seq (.seq (.region _ ops _) _) _))))))))))))))))) => ops | _ => #[]
theorem size5_31 : reg5_31.size = 58 := by kernel_rfl
noncomputable def reg5_32 : Array Oper := match Try.f5.body with | some (.seq _ (.seq _ (.seq _ (.seq _ (.seq _ (.seq _ (.seq _ (.seq _ (.seq _ (.seq _ (.seq _ (.seq _ (.seq _ (.seq _ (.seq _ (.seq _ (.seq (.seq _ (.cond _ (.seq (.region _ ops _) _) _)) _))))))))))))))))) => ops | _ => #[]
theorem size5_32 : reg5_32.size = 1 := by kernel_rfl
noncomputable def reg5_33 : Array Oper := match Try.f5.body with | some (.seq _ (.seq _ (.seq _ (.seq _ (.seq _ (.seq _ (.seq _ (.seq _ (.seq _ (.seq _ (.seq _ (.seq _ (.seq _ (.seq _ (.seq _ (.seq _ (.seq _ (.seq (.seq (.region _ ops _) _) _)))))))))))))))))) => ops | _ => #[]
theorem size5_33 : reg5_33.size = 5 := by kernel_rfl
noncomputable def reg5_34 : Array Oper := match Try.f5.body with | some (.seq _ (.seq _ (.seq _ (.seq _ (.seq _ (.seq _ (.seq _ (.seq _ (.seq _ (.seq _ (.seq _ (.seq _ (.seq _ (.seq _ (.seq _ (.seq _ (.seq _ (.seq (.seq _ (.cond _ (.seq (.region _ ops _) _) _)) _)))))))))))))))))) => ops | _ => #[]
theorem size5_34 : reg5_34.size = 6 := by kernel_rfl
noncomputable def reg5_35 : Array Oper := match Try.f5.body with | some (.seq _ (.seq _ (.seq _ (.seq _ (.seq _ (.seq _ (.seq _ (.seq _ (.seq _ (.seq _ (.seq _ (.seq _ (.seq _ (.seq _ (.seq _ (.seq _ (.seq _ (.seq _ (.seq (.region _ ops _) _))))))))))))))))))) => ops | _ => #[]
theorem size5_35 : reg5_35.size = 52 := by kernel_rfl
theorem code5_is : Try.f5.body = some (.seq (.region 0 reg5_0 false) (.seq (.seq (.region 1 reg5_1 false) (.cond (.tmp 21 ) (.seq (.region 2 reg5_2 false) (.ret)) (.skip))) (.seq (.region 3 reg5_3 false) (.seq (.region 4 reg5_4 false) (.seq (.region 5 reg5_5 false) (.seq (.region 6 reg5_6 false) (.seq (.region 7 reg5_7 false) (.seq (.seq (.region 8 reg5_8 false) (.cond (.tmp 63 ) (.seq (.region 9 reg5_9 false) (.ret)) (.skip))) (.seq (.region 10 reg5_10 false) (.seq (.region 11 reg5_11 false) (.seq (.region 12 reg5_12 false) (.seq (.region 13 reg5_13 false) (.seq (.seq (.region 14 reg5_14 false) (.block 0 (.loop (.seq (.seq (.region 15 reg5_15 false) (.cond (.tmp 71 ) (.skip) (.exit 0))) (.seq (.block 1 (.seq (.region 17 reg5_17 false) (.seq (.seq (.region 18 reg5_18 false) (.cond (.tmp 86 ) (.seq (.region 19 reg5_19 false) (.ret)) (.skip))) (.seq (.seq (.region 20 reg5_20 false) (.cond (.tmp 89 ) (.region 21 reg5_21 false) (.seq (.seq (.region 22 reg5_22 true) (.cond (.tmp 103 ) (.seq (.region 23 reg5_23 false) (.ret)) (.skip))) (.seq (.region 24 reg5_24 true) (.region 25 reg5_25 false))))) (.region 26 reg5_26 false))))) (.region 16 reg5_16 false)))))) (.seq (.region 27 reg5_27 false) (.seq (.seq (.region 28 reg5_28 false) (.cond (.tmp 144 ) (.seq (.region 29 reg5_29 false) (.ret)) (.skip))) (.seq (.region 30 reg5_30 false) (.seq (.seq (.region 31 reg5_31 true) (.cond (.tmp 207 ) (.seq (.region 32 reg5_32 false) (.ret)) (.skip))) (.seq (.seq (.region 33 reg5_33 false) (.cond (.tmp 212 ) (.seq (.region 34 reg5_34 false) (.ret)) (.skip))) (.seq (.region 35 reg5_35 true) (.ret)))))))))))))))))))) := by kernel_rfl
noncomputable def hdBo (m Q : Nat) (tv : Value) (K : Nat) (av : Value) (tot : Int) (ttv mv : Value) (k : Nat) (u : Nat → Value) : Frame :=
  (base 5).at { tmps := #[u 0, u 1, u 2, u 3, u 4, u 5, .bool false, .int .i64 m, tv, u 9, .int .i64 K, .pointer (some ⟨Q, 0, none⟩), av, .int .i64 tot, ttv, mv, .int .i64 k, u 17, u 18, u 19, u 20, u 21, u 22, u 23, u 24, u 25, u 26, u 27, u 28, u 29, u 30, u 31, u 32, u 33, u 34, u 35, u 36, u 37, u 38, u 39, u 40, u 41, u 42, u 43, u 44, u 45, u 46, u 47, u 48, u 49, u 50, u 51, u 52, u 53, u 54, u 55, u 56, u 57, u 58, u 59, u 60, u 61, u 62, u 63, u 64, u 65, u 66, u 67, u 68, u 69, u 70, u 71, u 72, u 73, u 74, u 75, u 76, u 77, u 78, u 79, u 80, u 81, u 82, u 83, u 84, u 85, u 86, u 87, u 88, u 89, u 90, u 91, u 92, u 93, u 94, u 95, u 96, u 97, u 98, u 99, u 100, u 101, u 102, u 103, u 104, u 105, u 106, u 107, u 108, u 109, u 110, u 111, u 112, u 113, u 114, u 115, u 116, u 117, u 118, u 119, u 120, u 121, u 122, u 123, u 124, u 125, u 126, u 127, u 128, u 129, u 130, u 131, u 132, u 133, u 134, u 135, u 136, u 137, u 138, u 139, u 140, u 141, u 142, u 143, u 144, u 145, u 146, u 147, u 148, u 149, u 150, u 151, u 152, u 153, u 154, u 155, u 156, u 157, u 158, u 159, u 160, u 161, u 162, u 163, u 164, u 165, u 166, u 167, u 168, u 169, u 170, u 171, u 172, u 173, u 174, u 175, u 176, u 177, u 178, u 179, u 180, u 181, u 182, u 183, u 184, u 185, u 186, u 187, u 188, u 189, u 190, u 191, u 192, u 193, u 194, u 195, u 196, u 197, u 198, u 199, u 200, u 201, u 202, u 203, u 204, u 205, u 206, u 207, u 208, u 209, u 210, u 211, u 212, u 213, u 214, u 215, u 216, u 217, u 218, u 219, u 220, u 221, u 222, u 223, u 224, u 225, u 226, u 227, u 228, u 229, u 230, u 231, u 232, u 233, u 234, u 235, u 236, u 237, u 238, u 239, u 240, u 241, u 242, u 243, u 244, u 245, u 246, u 247, u 248, u 249, u 250, u 251, u 252, u 253, u 254, u 255, u 256, u 257, u 258, u 259, u 260, u 261, u 262, u 263, u 264, u 265, u 266, u 267, u 268], defers := [] } [.code (.seq (.seq (.region 15 reg5_15 false) (.cond (.tmp 71 ) (.skip) (.exit 0))) (.seq (.block 1 (.seq (.region 17 reg5_17 false) (.seq (.seq (.region 18 reg5_18 false) (.cond (.tmp 86 ) (.seq (.region 19 reg5_19 false) (.ret)) (.skip))) (.seq (.seq (.region 20 reg5_20 false) (.cond (.tmp 89 ) (.region 21 reg5_21 false) (.seq (.seq (.region 22 reg5_22 true) (.cond (.tmp 103 ) (.seq (.region 23 reg5_23 false) (.ret)) (.skip))) (.seq (.region 24 reg5_24 true) (.region 25 reg5_25 false))))) (.region 26 reg5_26 false))))) (.region 16 reg5_16 false))), .inLoop (.seq (.seq (.region 15 reg5_15 false) (.cond (.tmp 71 ) (.skip) (.exit 0))) (.seq (.block 1 (.seq (.region 17 reg5_17 false) (.seq (.seq (.region 18 reg5_18 false) (.cond (.tmp 86 ) (.seq (.region 19 reg5_19 false) (.ret)) (.skip))) (.seq (.seq (.region 20 reg5_20 false) (.cond (.tmp 89 ) (.region 21 reg5_21 false) (.seq (.seq (.region 22 reg5_22 true) (.cond (.tmp 103 ) (.seq (.region 23 reg5_23 false) (.ret)) (.skip))) (.seq (.region 24 reg5_24 true) (.region 25 reg5_25 false))))) (.region 26 reg5_26 false))))) (.region 16 reg5_16 false))), .inBlock 0, .code (.seq (.region 27 reg5_27 false) (.seq (.seq (.region 28 reg5_28 false) (.cond (.tmp 144 ) (.seq (.region 29 reg5_29 false) (.ret)) (.skip))) (.seq (.region 30 reg5_30 false) (.seq (.seq (.region 31 reg5_31 true) (.cond (.tmp 207 ) (.seq (.region 32 reg5_32 false) (.ret)) (.skip))) (.seq (.seq (.region 33 reg5_33 false) (.cond (.tmp 212 ) (.seq (.region 34 reg5_34 false) (.ret)) (.skip))) (.seq (.region 35 reg5_35 true) (.ret)))))))]
section
variable {main : Bool}
def BoK (Ab : Nat) (tv mv tv' mv' : Value) (w w' : World) : Prop :=
  w.heap.size ≤ w'.heap.size ∧ (∀ b, b < w.heap.size → b ≠ Ab → (∀ g, tv.ownBlock = some g → b ≠ g) → (∀ g, mv.ownBlock = some g → b ≠ g) → w'.heap[b]? = w.heap[b]?) ∧
  (∀ g, tv'.ownBlock = some g → tv.ownBlock = some g ∨ w.heap.size ≤ g) ∧ (∀ g, mv'.ownBlock = some g → mv.ownBlock = some g ∨ w.heap.size ≤ g)
theorem bo_rd (m Q tb n thc K Ab k lc oc lm mc : Nat) (oa ta ma : Option Addr) (tc ob oo : Nat) (ansV stV : Value) (tot : Int) (base : Nat) (xs ms : List Value) (hn : K < n) (hn64 : n ≤ 64) (hk : k < lc) (hlc : lc ≤ 40000) (hlm : lm ≤ 40000) (hoa : oa = some ⟨ob, oo, none⟩) (u : Nat → Value) (cs : List Frame) (w : World) (hb : base ≤ w.heap.size)
    (dQ : w.heap[Q]? = some (.cells (trC ansV (.slice oa lc oc) stV false) 31)) (r0 : w.ownsRow base 2 1 (.slice ta k tc) k xs) (q0 : w.ownsRow base 3 1 (.slice ma lm mc) lm ms)
    (ho : w.cell? ⟨ob, oo + k, none⟩ = some (.int .i64 K)) (hap : ∀ g, (Value.slice ta k tc).ownBlock = some g → (Value.slice ma lm mc).ownBlock ≠ some g) :
    Walk Try.prog main (DR (fun _ => none)) (fun g w' => ∃ ta' tc' ma' mc', (∃ u, g = G (hdBo m Q (.slice (some ⟨tb, 0, none⟩) n thc) K (.slice (some ⟨Ab, 0, none⟩) n n) tot (.slice ta' (k + 1) tc') (.slice ma' (lm + 1) mc') (k + 1) u) cs) ∧ w'.ownsRow base 2 1 (.slice ta' (k + 1) tc') (k + 1) (xs ++ [.int .i64 tot]) ∧ w'.ownsRow base 3 1 (.slice ma' (lm + 1) mc') (lm + 1) (ms ++ [.int .i64 k]) ∧
      (∀ g, (Value.slice ta' (k + 1) tc').ownBlock = some g → (Value.slice ma' (lm + 1) mc').ownBlock ≠ some g) ∧ (∀ b, b = Ab → (∀ g, (Value.slice ta k tc).ownBlock = some g → b ≠ g) → (∀ g, (Value.slice ma lm mc).ownBlock = some g → b ≠ g) → b < w.heap.size → w'.heap[b]? = w.heap[b]?) ∧ BoK Ab (.slice ta k tc) (.slice ma lm mc) (.slice ta' (k + 1) tc') (.slice ma' (lm + 1) mc') w w')
      (G (hdBo m Q (.slice (some ⟨tb, 0, none⟩) n thc) K (.slice (some ⟨Ab, 0, none⟩) n n) tot (.slice ta k tc) (.slice ma lm mc) k u) cs) w := by
  subst hoa
  have hk0 : (0 : Int) ≤ k := by omega
  have hk1 : decide ((k : Int) < lc) = true := by simp; omega
  have hk3 : decide (k < lc) = true := by simp; omega
  have hk4 : (k : Int) < lc := by omega
  have hw1 : IntKind.wrap .i64 ((k : Int) + 1) = (k : Int) + 1 := by rw [IntKind.wrap_i64]; omega
  have hcc : ((k + 1 : Nat) : Int) = (k : Int) + 1 := by simp
  have tq : w.cell? ⟨Q, 1, none⟩ = some (.slice (some ⟨ob, oo, none⟩) lc oc) := (cell_of dQ 1).trans rfl
  clear dQ
  have hi1 : decide ((K : Int) < 0) = false := by simp
  have hi2 : decide ((n : Int) ≤ K) = false := by simp; omega
  have hi3 : decide (n ≤ K) = false := by simp; omega
  have hi4 : decide ((K : Int) ≥ n) = false := by simp; omega
  unfold hdBo
  repeat (first | refine Walk.c rfl ?_ | refine Walk.cRet ?_ | refine Walk.cEnd ?_ | (refine Walk.cReg ?_; simp only [size5_0, size5_1, size5_2, size5_3, size5_4, size5_5, size5_6, size5_7, size5_8, size5_9, size5_10, size5_11, size5_12, size5_13, size5_14, size5_15, size5_17, size5_18, size5_19, size5_20, size5_21, size5_22, size5_23, size5_24, size5_25, size5_26, size5_16, size5_27, size5_28, size5_29, size5_30, size5_31, size5_32, size5_33, size5_34, size5_35, List.range, List.range.loop]) | (refine Walk.oq ?_; try walk_nrm) | (refine Walk.un ?_; walk_nrm))
  have hi2 := Option.some_get (show (Try.prog.info? 3).isSome = true by kernel_rfl)
  (refine Walk.oa ?_; try walk_nrm)
  have d1 := heap_alloc_new w (.cells #[.int .i64 k] 3)
  have p1 : ∀ b, b < w.heap.size → (w.alloc (.cells #[.int .i64 k] 3)).heap[b]? = w.heap[b]? := fun b hb => heap_new_lt _ _ hb
  have s1 : (w.alloc (.cells #[.int .i64 k] 3)).heap.size = w.heap.size + 1 := by simp
  have r1 : (w.alloc (.cells #[.int .i64 k] 3)).ownsRow base 3 1 (.slice ma lm mc) lm ms := row_same q0 fun b hb => p1 b (q0.lt b hb).2
  generalize hQ1 : w.heap.size = Z1 at *
  generalize w.alloc (.cells #[.int .i64 k] 3) = x1 at *
  repeat (first | (refine Walk.oq ?_; try walk_nrm) | (refine Walk.un ?_; walk_nrm))
  refine Walk.append (.tmp 90) (.tmp 92) 24 (ho_of (by conv => lhs; whnf) (by kernel_rfl)) (by rfl) (by decide) rfl base 3 _ (.int .i64 0) 1 8 (by kernel_rfl) hi2.symm (by rfl) (by rfl) (by rfl) (by rfl) (by decide) (.slice ma lm mc) lm ms rfl r1 ⟨Z1, 0, none⟩ 1 1 [.int .i64 k] rfl (by rfl) (fun y v hv => ?_) (by intro v hv; simp only [List.mem_cons, List.not_mem_nil, or_false] at hv; subst hv; rfl) (by decide) (by simp [maxLen]; omega) (by omega) (by omega) (fun b _ => ap0 b) (fun g1 c1 y1 own1 gr1 at1 lt1 => ?_)
  · rw [add_none, Nat.zero_add]
    refine (cell_of d1 y).trans ?_
    simpa using hv
  clear d1 hi2
  walk_nrm
  have tq1 : True := trivial
  have z1 := gr1.size
  have hneT : ∀ b, (Value.slice ta k tc).ownBlock = some b → (Value.slice ma lm mc).ownBlock ≠ some b := hap
  have rT : y1.ownsRow base 2 1 (.slice ta k tc) k xs := row_same r0 fun b hb' => (gr1.block b (by have := (r0.lt b hb').2; omega) (fun he => hap b hb' he.symm)).trans (p1 b (by have := (r0.lt b hb').2; omega))
  repeat (first | refine Walk.c rfl ?_ | refine Walk.cRet ?_ | refine Walk.cEnd ?_ | (refine Walk.cReg ?_; simp only [size5_0, size5_1, size5_2, size5_3, size5_4, size5_5, size5_6, size5_7, size5_8, size5_9, size5_10, size5_11, size5_12, size5_13, size5_14, size5_15, size5_17, size5_18, size5_19, size5_20, size5_21, size5_22, size5_23, size5_24, size5_25, size5_26, size5_16, size5_27, size5_28, size5_29, size5_30, size5_31, size5_32, size5_33, size5_34, size5_35, List.range, List.range.loop]) | (refine Walk.oq ?_; try walk_nrm) | (refine Walk.un ?_; walk_nrm))
  have hi2 := Option.some_get (show (Try.prog.info? 2).isSome = true by kernel_rfl)
  (refine Walk.oa ?_; try walk_nrm)
  have d2 := heap_alloc_new y1 (.cells #[.int .i64 tot] 2)
  have p2 : ∀ b, b < y1.heap.size → (y1.alloc (.cells #[.int .i64 tot] 2)).heap[b]? = y1.heap[b]? := fun b hb => heap_new_lt _ _ hb
  have s2 : (y1.alloc (.cells #[.int .i64 tot] 2)).heap.size = y1.heap.size + 1 := by simp
  have r2 : (y1.alloc (.cells #[.int .i64 tot] 2)).ownsRow base 2 1 (.slice ta k tc) k xs := row_same rT fun b hb => p2 b (rT.lt b hb).2
  generalize hQ2 : y1.heap.size = Z2 at *
  generalize y1.alloc (.cells #[.int .i64 tot] 2) = x2 at *
  repeat (first | (refine Walk.oq ?_; try walk_nrm) | (refine Walk.un ?_; walk_nrm))
  refine Walk.append (.tmp 123) (.tmp 125) 22 (ho_of (by conv => lhs; whnf) (by kernel_rfl)) (by rfl) (by decide) rfl base 2 _ (.int .i64 0) 1 8 (by kernel_rfl) hi2.symm (by rfl) (by rfl) (by rfl) (by rfl) (by decide) (.slice ta k tc) k xs rfl r2 ⟨Z2, 0, none⟩ 1 1 [.int .i64 tot] rfl (by rfl) (fun y v hv => ?_) (by intro v hv; simp only [List.mem_cons, List.not_mem_nil, or_false] at hv; subst hv; rfl) (by decide) (by simp [maxLen]; omega) (by omega) (by omega) (fun b _ => ap0 b) (fun g2 c2 y2 own2 gr2 at2 lt2 => ?_)
  · rw [add_none, Nat.zero_add]
    refine (cell_of d2 y).trans ?_
    simpa using hv
  clear d2 hi2
  walk_nrm
  have z2 := gr2.size
  have kp : ∀ b, b < w.heap.size → (∀ g, (Value.slice ta k tc).ownBlock = some g → b ≠ g) → (∀ g, (Value.slice ma lm mc).ownBlock = some g → b ≠ g) → y2.heap[b]? = w.heap[b]? := fun b hb h1 h2 =>
    (gr2.block b (by omega) (fun he => h1 b he.symm rfl)).trans ((p2 b (by omega)).trans ((gr1.block b (by omega) (fun he => h2 b he.symm rfl)).trans (p1 b (by omega))))
  have qM : y2.ownsRow base 3 1 (.slice (some ⟨g1, 0, none⟩) (lm + 1) c1) (lm + 1) (ms ++ [.int .i64 k]) := row_same own1 fun b hb' => by
    have hb' : g1 = b := by simpa [Value.ownBlock] using hb'
    subst hb'
    refine (gr2.block g1 (by omega) fun he => ?_).trans (p2 g1 (by omega))
    rcases at1 with h | h
    · exact hap g1 he.symm h
    · have := (r0.lt g1 he.symm).2; omega
  have hap2 : ∀ g, (Value.slice (some ⟨g2, 0, none⟩) (k + 1) c2).ownBlock = some g → (Value.slice (some ⟨g1, 0, none⟩) (lm + 1) c1).ownBlock ≠ some g := fun g hg hg' => by
    have e1 : g2 = g := by simpa [Value.ownBlock] using hg
    have e2 : g1 = g := by simpa [Value.ownBlock] using hg'
    subst e1
    subst e2
    rcases at2 with h | h
    · rcases at1 with h' | h'
      · exact hap g1 h h'
      · have := (r0.lt g1 h).2; omega
    · omega
  have fT : ∀ g, (Value.slice (some ⟨g2, 0, none⟩) (k + 1) c2).ownBlock = some g → (Value.slice ta k tc).ownBlock = some g ∨ w.heap.size ≤ g := fun g hg => by
    have e1 : g2 = g := by simpa [Value.ownBlock] using hg
    subst e1
    rcases at2 with h | h
    · exact .inl h
    · exact .inr (by omega)
  have fM : ∀ g, (Value.slice (some ⟨g1, 0, none⟩) (lm + 1) c1).ownBlock = some g → (Value.slice ma lm mc).ownBlock = some g ∨ w.heap.size ≤ g := fun g hg => by
    have e1 : g1 = g := by simpa [Value.ownBlock] using hg
    subst e1
    rcases at1 with h | h
    · exact .inl h
    · exact .inr (by omega)
  repeat (first | refine Walk.c rfl ?_ | refine Walk.cRet ?_ | refine Walk.cEnd ?_ | (refine Walk.cReg ?_; simp only [size5_0, size5_1, size5_2, size5_3, size5_4, size5_5, size5_6, size5_7, size5_8, size5_9, size5_10, size5_11, size5_12, size5_13, size5_14, size5_15, size5_17, size5_18, size5_19, size5_20, size5_21, size5_22, size5_23, size5_24, size5_25, size5_26, size5_16, size5_27, size5_28, size5_29, size5_30, size5_31, size5_32, size5_33, size5_34, size5_35, List.range, List.range.loop]) | (refine Walk.oq ?_; try walk_nrm) | (refine Walk.un ?_; walk_nrm))
  refine Walk.ctl rfl (fun w => stepG_inLoop) ?_
  refine .stop fun d => ⟨some ⟨g2, 0, none⟩, c2, some ⟨g1, 0, none⟩, c1, at_slots ?_, own2, qM, hap2, fun b hb h1 h2 h3 => kp b (by omega) h1 h2, ⟨by show w.heap.size ≤ y2.heap.size; omega, fun b hb _ h1 h2 => kp b (by omega) h1 h2, fT, fM⟩⟩
  simp only [hdBo, hcc]
  rfl
noncomputable def tmB (m Q tb n thc K Ab k i : Nat) (ttv mv : Value) (u : Nat → Value) : Array Value := #[u 0, u 1, u 2, u 3, u 4, u 5, .bool false, .int .i64 m, .slice (some ⟨tb, 0, none⟩) n thc, u 9, .int .i64 K, .pointer (some ⟨Q, 0, none⟩), .slice (some ⟨Ab, 0, none⟩) n n, u 13, ttv, mv, .int .i64 k, .int .i64 i, u 18, u 19, u 20, u 21, u 22, u 23, u 24, u 25, u 26, u 27, u 28, u 29, u 30, u 31, u 32, u 33, u 34, u 35, u 36, u 37, u 38, u 39, u 40, u 41, u 42, u 43, u 44, u 45, u 46, u 47, u 48, u 49, u 50, u 51, u 52, u 53, u 54, u 55, u 56, u 57, u 58, u 59, u 60, u 61, u 62, u 63, u 64, u 65, u 66, u 67, u 68, u 69, u 70, u 71, u 72, u 73, u 74, u 75, u 76, u 77, u 78, u 79, u 80, u 81, u 82, u 83, u 84, u 85, u 86, u 87, u 88, u 89, u 90, u 91, u 92, u 93, u 94, u 95, u 96, u 97, u 98, u 99, u 100, u 101, u 102, u 103, u 104, u 105, u 106, u 107, u 108, u 109, u 110, u 111, u 112, u 113, u 114, u 115, u 116, u 117, u 118, u 119, u 120, u 121, u 122, u 123, u 124, u 125, u 126, u 127, u 128, u 129, u 130, u 131, u 132, u 133, u 134, u 135, u 136, u 137, u 138, u 139, u 140, u 141, u 142, u 143, u 144, u 145, u 146, u 147, u 148, u 149, u 150, u 151, u 152, u 153, u 154, u 155, u 156, u 157, u 158, u 159, u 160, u 161, u 162, u 163, u 164, u 165, u 166, u 167, u 168, u 169, u 170, u 171, u 172, u 173, u 174, u 175, u 176, u 177, u 178, u 179, u 180, u 181, u 182, u 183, u 184, u 185, u 186, u 187, u 188, u 189, u 190, u 191, u 192, u 193, u 194, u 195, u 196, u 197, u 198, u 199, u 200, u 201, u 202, u 203, u 204, u 205, u 206, u 207, u 208, u 209, u 210, u 211, u 212, u 213, u 214, u 215, u 216, u 217, u 218, u 219, u 220, u 221, u 222, u 223, u 224, u 225, u 226, u 227, u 228, u 229, u 230, u 231, u 232, u 233, u 234, u 235, u 236, u 237, u 238, u 239, u 240, u 241, u 242, u 243, u 244, u 245, u 246, u 247, u 248, u 249, u 250, u 251, u 252, u 253, u 254, u 255, u 256, u 257, u 258, u 259, u 260, u 261, u 262, u 263, u 264, u 265, u 266, u 267, u 268]
def dsB : List Nat := [104, 105, 106, 107, 108, 109, 110, 111, 112, 113, 114, 115, 116, 13]
def vsB (tot v : Int) (tb n thc Ab i b off ln rcc c : Nat) : List Value := [.int .i64 tot, .slice (some ⟨tb, 0, none⟩) n thc, .int .i64 i, .pointer (some ⟨tb, i, none⟩), .slice (some ⟨b, off, none⟩) ln rcc, .slice (some ⟨Ab, 0, none⟩) n n, .int .i64 i, .pointer (some ⟨Ab, i, none⟩), .int .i64 c, .pointer (some ⟨b, off + c * 4, none⟩), .pointer (some ⟨b, off + c * 4 + 2, none⟩), .int .i64 v, .int .i64 (tot + v), .int .i64 (tot + v)]
theorem bo_24 (m Q tb n thc K Ab k i c ln rcc b off : Nat) (ttv mv : Value) (tot v : Int) (hin : i < n) (hc : c < ln) (hw3 : IntKind.wrap .i64 (tot + v) = tot + v) (w : World) (th : w.cell? ⟨tb, i, none⟩ = some (.slice (some ⟨b, off, none⟩) ln rcc)) (aC : w.cell? ⟨Ab, i, none⟩ = some (.int .i64 c)) (ov : w.cell? ⟨b, off + c * 4 + 2, none⟩ = some (.int .i64 v))
    (kk : List Item) (cs : List Frame) (u0 : Nat → Value) (h13 : u0 13 = .int .i64 tot) {Stop : Goroutine → World → Prop}
    (hend : ∀ u : Nat → Value, u 13 = .int .i64 (tot + v) → Walk Try.prog main (DR (fun _ => none)) Stop (G ((base 5).at ⟨tmB m Q tb n thc K Ab k i ttv mv u, []⟩ (.inRegion reg5_24 [] :: kk)) cs) w) :
    Walk Try.prog main (DR (fun _ => none)) Stop (G ((base 5).at ⟨tmB m Q tb n thc K Ab k i ttv mv u0, []⟩ (.code (.region 24 reg5_24 true) :: kk)) cs) w := by
  have hi0 : (0 : Int) ≤ i := by omega
  have hi5 : (i : Int) < n := by omega
  have hc0 : (0 : Int) ≤ c := by omega
  have hc5 : (c : Int) < ln := by omega
  refine Walk.drawnJ (Inv := fun f ac' w' => ∃ u, ac' = ⟨tmB m Q tb n thc K Ab k i ttv mv u, []⟩ ∧ Facts dsB (vsB tot v tb n thc Ab i b off ln rcc c) f u ∧ (f 13 = false → u 13 = .int .i64 tot) ∧ ∃ d, w' = w.at d) (by kernel_rfl) (by kernel_rfl) (fun d => ⟨u0, rfl, Facts.none _ _ _, fun _ => h13, d, rfl⟩) ?_ ?_
  · rintro f j op act w' ⟨u, rfl, F0, Hn, d, rfl⟩ hC hfj ho hdeps rest hr
    have hj : j < 14 := by have := (Array.getElem?_eq_some_iff.1 ho).1; rw [size5_24] at this; exact this
    have th : (w.at d).cell? ⟨tb, i, none⟩ = some (.slice (some ⟨b, off, none⟩) ln rcc) := th
    have aC : (w.at d).cell? ⟨Ab, i, none⟩ = some (.int .i64 c) := aC
    have ov : (w.at d).cell? ⟨b, off + c * 4 + 2, none⟩ = some (.int .i64 v) := ov
    have hr' : ∀ ac', (∃ u, ac' = (⟨tmB m Q tb n thc K Ab k i ttv mv u, []⟩ : Act) ∧ Facts dsB (vsB tot v tb n thc Ab i b off ln rcc c) (upd f j true) u ∧ ((upd f j true) 13 = false → u 13 = .int .i64 tot)) → Walk Try.prog main (DR (fun _ => none)) Stop (G ((base 5).at ac' (.inRegion reg5_24 rest :: kk)) cs) (w.at d) := fun ac' ⟨u, e, h1, h2⟩ => hr ac' _ ⟨u, e, h1, h2, d, rfl⟩
    match j, hj with
    | 0, _ =>
      have e13 : u 13 = .int .i64 tot := by
        refine Hn ?_
        cases h : f 13 with
        | false => rfl
        | true =>
          have h12 := hC.deps (i := 13) (l := [12]) h (by kernel_rfl) 12 (by simp)
          have h0 := hC.deps (i := 12) (l := [0, 11]) h12 (by kernel_rfl) 0 (by simp)
          rw [hfj] at h0
          cases h0
      clear hdeps hC hend hr
      simp only [tmB] at hr' ⊢
      simp only [e13]
      (refine Walk.oq ?_; try walk_nrm)
      refine hr' _ ⟨upd u 104 (.int .i64 tot), ?_, F0.set (by decide) rfl rfl, fun h => by rw [upd_ne _ _ (by decide)] at h; rw [upd_ne _ _ (by decide)]; exact Hn h⟩
      simp [tmB, upd, e13]
    | 1, _ =>
      clear hdeps hC hend hr
      simp only [tmB] at hr' ⊢
      (refine Walk.oq ?_; try walk_nrm)
      refine hr' _ ⟨upd u 105 (.slice (some ⟨tb, 0, none⟩) n thc), ?_, F0.set (by decide) rfl rfl, fun h => by rw [upd_ne _ _ (by decide)] at h; rw [upd_ne _ _ (by decide)]; exact Hn h⟩
      simp [tmB, upd]
    | 2, _ =>
      clear hdeps hC hend hr
      simp only [tmB] at hr' ⊢
      (refine Walk.oq ?_; try walk_nrm)
      refine hr' _ ⟨upd u 106 (.int .i64 i), ?_, F0.set (by decide) rfl rfl, fun h => by rw [upd_ne _ _ (by decide)] at h; rw [upd_ne _ _ (by decide)]; exact Hn h⟩
      simp [tmB, upd]
    | 3, _ =>
      have hd := deps_of (l := [1, 2]) (by kernel_rfl) ho hdeps
      have e105 := F0 1 105 _ (hd 1 (by simp)) rfl rfl
      have e106 := F0 2 106 _ (hd 2 (by simp)) rfl rfl
      clear hdeps hC hend hr
      simp only [tmB] at hr' ⊢
      simp only [e105, e106]
      (refine Walk.oq ?_; try walk_nrm)
      refine hr' _ ⟨upd u 107 (.pointer (some ⟨tb, i, none⟩)), ?_, F0.set (by decide) rfl rfl, fun h => by rw [upd_ne _ _ (by decide)] at h; rw [upd_ne _ _ (by decide)]; exact Hn h⟩
      simp [tmB, upd, e105, e106]
    | 4, _ =>
      have hd := deps_of (l := [3]) (by kernel_rfl) ho hdeps
      have e107 := F0 3 107 _ (hd 3 (by simp)) rfl rfl
      clear hdeps hC hend hr
      simp only [tmB] at hr' ⊢
      simp only [e107]
      (refine Walk.oq ?_; try walk_nrm)
      refine hr' _ ⟨upd u 108 (.slice (some ⟨b, off, none⟩) ln rcc), ?_, F0.set (by decide) rfl rfl, fun h => by rw [upd_ne _ _ (by decide)] at h; rw [upd_ne _ _ (by decide)]; exact Hn h⟩
      simp [tmB, upd, e107]
    | 5, _ =>
      clear hdeps hC hend hr
      simp only [tmB] at hr' ⊢
      (refine Walk.oq ?_; try walk_nrm)
      refine hr' _ ⟨upd u 109 (.slice (some ⟨Ab, 0, none⟩) n n), ?_, F0.set (by decide) rfl rfl, fun h => by rw [upd_ne _ _ (by decide)] at h; rw [upd_ne _ _ (by decide)]; exact Hn h⟩
      simp [tmB, upd]
    | 6, _ =>
      clear hdeps hC hend hr
      simp only [tmB] at hr' ⊢
      (refine Walk.oq ?_; try walk_nrm)
      refine hr' _ ⟨upd u 110 (.int .i64 i), ?_, F0.set (by decide) rfl rfl, fun h => by rw [upd_ne _ _ (by decide)] at h; rw [upd_ne _ _ (by decide)]; exact Hn h⟩
      simp [tmB, upd]
    | 7, _ =>
      have hd := deps_of (l := [5, 6]) (by kernel_rfl) ho hdeps
      have e109 := F0 5 109 _ (hd 5 (by simp)) rfl rfl
      have e110 := F0 6 110 _ (hd 6 (by simp)) rfl rfl
      clear hdeps hC hend hr
      simp only [tmB] at hr' ⊢
      simp only [e109, e110]
      (refine Walk.oq ?_; try walk_nrm)
      refine hr' _ ⟨upd u 111 (.pointer (some ⟨Ab, i, none⟩)), ?_, F0.set (by decide) rfl rfl, fun h => by rw [upd_ne _ _ (by decide)] at h; rw [upd_ne _ _ (by decide)]; exact Hn h⟩
      simp [tmB, upd, e109, e110]
    | 8, _ =>
      have hd := deps_of (l := [7]) (by kernel_rfl) ho hdeps
      have e111 := F0 7 111 _ (hd 7 (by simp)) rfl rfl
      clear hdeps hC hend hr
      simp only [tmB] at hr' ⊢
      simp only [e111]
      (refine Walk.oq ?_; try walk_nrm)
      refine hr' _ ⟨upd u 112 (.int .i64 c), ?_, F0.set (by decide) rfl rfl, fun h => by rw [upd_ne _ _ (by decide)] at h; rw [upd_ne _ _ (by decide)]; exact Hn h⟩
      simp [tmB, upd, e111]
    | 9, _ =>
      have hd := deps_of (l := [4, 8]) (by kernel_rfl) ho hdeps
      have e108 := F0 4 108 _ (hd 4 (by simp)) rfl rfl
      have e112 := F0 8 112 _ (hd 8 (by simp)) rfl rfl
      clear hdeps hC hend hr
      simp only [tmB] at hr' ⊢
      simp only [e108, e112]
      (refine Walk.oq ?_; try walk_nrm)
      refine hr' _ ⟨upd u 113 (.pointer (some ⟨b, off + c * 4, none⟩)), ?_, F0.set (by decide) rfl rfl, fun h => by rw [upd_ne _ _ (by decide)] at h; rw [upd_ne _ _ (by decide)]; exact Hn h⟩
      simp [tmB, upd, e108, e112]
    | 10, _ =>
      have hd := deps_of (l := [9]) (by kernel_rfl) ho hdeps
      have e113 := F0 9 113 _ (hd 9 (by simp)) rfl rfl
      clear hdeps hC hend hr
      simp only [tmB] at hr' ⊢
      simp only [e113]
      (refine Walk.oq ?_; try walk_nrm)
      refine hr' _ ⟨upd u 114 (.pointer (some ⟨b, off + c * 4 + 2, none⟩)), ?_, F0.set (by decide) rfl rfl, fun h => by rw [upd_ne _ _ (by decide)] at h; rw [upd_ne _ _ (by decide)]; exact Hn h⟩
      simp [tmB, upd, e113]
    | 11, _ =>
      have hd := deps_of (l := [10]) (by kernel_rfl) ho hdeps
      have e114 := F0 10 114 _ (hd 10 (by simp)) rfl rfl
      clear hdeps hC hend hr
      simp only [tmB] at hr' ⊢
      simp only [e114]
      (refine Walk.oq ?_; try walk_nrm)
      refine hr' _ ⟨upd u 115 (.int .i64 v), ?_, F0.set (by decide) rfl rfl, fun h => by rw [upd_ne _ _ (by decide)] at h; rw [upd_ne _ _ (by decide)]; exact Hn h⟩
      simp [tmB, upd, e114]
    | 12, _ =>
      have hd := deps_of (l := [0, 11]) (by kernel_rfl) ho hdeps
      have e104 := F0 0 104 _ (hd 0 (by simp)) rfl rfl
      have e115 := F0 11 115 _ (hd 11 (by simp)) rfl rfl
      clear hdeps hC hend hr
      simp only [tmB] at hr' ⊢
      simp only [e104, e115]
      (refine Walk.oq ?_; try walk_nrm)
      refine hr' _ ⟨upd u 116 (.int .i64 (tot + v)), ?_, F0.set (by decide) rfl rfl, fun h => by rw [upd_ne _ _ (by decide)] at h; rw [upd_ne _ _ (by decide)]; exact Hn h⟩
      simp [tmB, upd, e104, e115]
    | 13, _ =>
      have hd := deps_of (l := [12]) (by kernel_rfl) ho hdeps
      have e116 := F0 12 116 _ (hd 12 (by simp)) rfl rfl
      clear hdeps hC hend hr Hn
      simp only [tmB] at hr' ⊢
      simp only [e116]
      (refine Walk.oq ?_; try walk_nrm)
      refine hr' _ ⟨upd u 13 (.int .i64 (tot + v)), ?_, F0.set (by decide) rfl rfl, fun h => by rw [upd_same] at h; cases h⟩
      simp [tmB, upd, e116]
  · rintro f act w' ⟨u, rfl, F0, _, d, rfl⟩ hall
    exact Walk.back (hend u (F0 13 13 _ (hall 13 (by rw [size5_24]; decide)) rfl rfl)) d
theorem bo_24_at {m Q tb n thc K Ab k i : Nat} {ttv mv : Value} {tot tot' : Int} {w : World} {Stop : Goroutine → World → Prop} {kk : List Item} {cs : List Frame} {act : Act}
    (h : ∀ (kk : List Item) (cs : List Frame) (u0 : Nat → Value), u0 13 = .int .i64 tot → ∀ {Stop : Goroutine → World → Prop}, (∀ u : Nat → Value, u 13 = .int .i64 tot' → Walk Try.prog main (DR (fun _ => none)) Stop (G ((base 5).at ⟨tmB m Q tb n thc K Ab k i ttv mv u, []⟩ (.inRegion reg5_24 [] :: kk)) cs) w) → Walk Try.prog main (DR (fun _ => none)) Stop (G ((base 5).at ⟨tmB m Q tb n thc K Ab k i ttv mv u0, []⟩ (.code (.region 24 reg5_24 true) :: kk)) cs) w)
    (he : ∃ u : Nat → Value, u 13 = .int .i64 tot ∧ act = ⟨tmB m Q tb n thc K Ab k i ttv mv u, []⟩)
    (hend : ∀ u : Nat → Value, u 13 = .int .i64 tot' → Walk Try.prog main (DR (fun _ => none)) Stop (G ((base 5).at ⟨tmB m Q tb n thc K Ab k i ttv mv u, []⟩ (.inRegion reg5_24 [] :: kk)) cs) w) :
    Walk Try.prog main (DR (fun _ => none)) Stop (G ((base 5).at act (.code (.region 24 reg5_24 true) :: kk)) cs) w := by
  obtain ⟨u, h13, rfl⟩ := he
  exact h kk cs u h13 hend
theorem act_slots13 {A : Array Value} {T : (Nat → Value) → Array Value} {x : Value} (h : A = T (fun k => A.getD k undef)) (hx : A.getD 13 undef = x) : ∃ u : Nat → Value, u 13 = x ∧ (⟨A, []⟩ : Act) = ⟨T u, []⟩ := ⟨_, hx, congrArg (fun x => (⟨x, []⟩ : Act)) h⟩
end
end
end Go.Proofs.Ytnnakajldnaldaa
