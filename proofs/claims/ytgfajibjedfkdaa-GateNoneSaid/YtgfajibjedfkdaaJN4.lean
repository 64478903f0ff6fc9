/- Part 4. -/
import Derived.Test.YtgfajibjedfkdaaJN1
import Derived.Test.YtgfajibjedfkdaaJN2
import Derived.Test.YtgfajibjedfkdaaJN3
set_option linter.unusedSimpArgs false
set_option linter.unusedVariables false
set_option maxHeartbeats 8000000
set_option maxRecDepth 100000
namespace Go.Proofs.Ytgfajibjedfkdaa
open Go.Conc Go.RowKit Go.Relay
open Go.ConcN (upd upd_ne upd_same)
theorem zA10 : List.range reg10_11.size = [0, 1, 2, 3] ∧ List.range reg10_12.size = [0, 1, 2] ∧ List.range reg10_13.size = [0, 1, 2, 3, 4, 5] ∧ List.range reg10_14.size = [0, 1, 2, 3, 4, 5, 6, 7, 8, 9] ∧ List.range reg10_15.size = [0, 1, 2, 3, 4, 5, 6, 7, 8, 9, 10, 11, 12, 13, 14, 15, 16, 17, 18, 19, 20, 21, 22, 23] ∧ List.range reg10_16.size = [0] ∧ List.range reg10_17.size = [0, 1, 2, 3, 4] := by refine ⟨?_, ?_, ?_, ?_, ?_, ?_, ?_⟩ <;> kernel_rfl
theorem zB10 : List.range reg10_17.size = [0, 1, 2, 3, 4] ∧ List.range reg10_18.size = [0, 1, 2] ∧ List.range reg10_19.size = [0, 1, 2, 3, 4, 5, 6, 7, 8, 9, 10, 11, 12, 13, 14, 15, 16, 17, 18] ∧ List.range reg10_20.size = [0, 1] ∧ List.range reg10_21.size = [0, 1, 2, 3, 4, 5, 6, 7, 8] ∧ List.range reg10_22.size = [0, 1] ∧ List.range reg10_23.size = [0, 1, 2, 3] ∧ List.range reg10_24.size = [0, 1] ∧ List.range reg10_25.size = [0, 1, 2, 3] ∧ List.range reg10_26.size = [0, 1, 2, 3, 4] ∧ List.range reg10_27.size = [0, 1, 2, 3] ∧ List.range reg10_28.size = [0, 1] ∧ List.range reg10_29.size = [0, 1, 2, 3, 4, 5, 6, 7, 8, 9, 10, 11, 12, 13, 14, 15, 16, 17] := by refine ⟨?_, ?_, ?_, ?_, ?_, ?_, ?_, ?_, ?_, ?_, ?_, ?_, ?_⟩ <;> kernel_rfl
section
def nuA (s : Gt) : List Int := padL (nuL s 64) 64
theorem nuA_len (s : Gt) : (nuA s).length = 64 := padL_len (by simp [nuL])
section
variable {main : Bool} {V : Nat → Option Wait} {Fr : Nat → Prop} {zb wb : Nat} {s t : Gt} {w : World}
theorem two_num (hA : ∀ b, Apart V b) (T : Two Fr zb wb s t w) : CallW Try.prog main V 35 #[.pointer (some ⟨zb, 0, none⟩)] w (fun v w' => v = .slice (some ⟨w.heap.size, 0, none⟩) 64 64 ∧ NumB w' w.heap.size (nuA s) ∧ Two (fun b => Fr b ∨ b = w.heap.size) zb wb s t w' ∧ (∀ b, b < w.heap.size → w'.heap[b]? = w.heap[b]?) ∧ w.heap.size < w'.heap.size) := by
  obtain ⟨y, z, h1, h2, h3, h4⟩ := id T
  intro c cs
  refine (numbers_w zb y s w h1 (fun b _ => hA b) c cs).mono ?_
  rintro g w' ⟨v, ⟨rfl, N⟩, rfl⟩
  exact ⟨_, ⟨rfl, N.num, T.on N.old (Nat.le_of_lt N.lo) fun b hb => hb.imp id fun e => by rw [e]; exact ⟨Nat.le_refl _, N.lo⟩, N.old, N.lo⟩, rfl⟩
theorem two_mem (hA : ∀ b, Apart V b) (T : Two Fr zb wb s t w) : CallW Try.prog main V 34 #[.pointer (some ⟨zb, 0, none⟩)] w (fun v w' => (∃ a c, v = .slice a s.l.length c ∧ NumA a s.l w' ∧ s.l.length ≤ 64) ∧ Two Fr zb wb s t w' ∧ (∀ b, Fr b → w'.heap[b]? = w.heap[b]?) ∧ w.heap.size ≤ w'.heap.size) := by
  obtain ⟨y, z, h1, h2, h3, h4⟩ := T
  intro c cs
  refine (members_w zb y s w h1 hA c cs).mono ?_
  rintro g w' ⟨v, ⟨a, k, y', rfl, hn, hl, hL⟩, rfl⟩
  have hsz := hL.size
  refine ⟨_, ⟨⟨a, k, rfl, hn, hl⟩, ⟨y', z, hL.I, h2.same fun b hb => hL.old b (h2.lt hb) (fun h => h3 b h hb), fun b hb hb' => h3 b (hL.pub b hb (h2.lt hb')) hb', fun b hb => ?_⟩, fun b hb => hL.old b (h4 b hb).1 (h4 b hb).2.1, hsz⟩, rfl⟩
  exact ⟨by have := (h4 b hb).1; omega, fun h => (h4 b hb).2.1 (hL.pub b h (h4 b hb).1), (h4 b hb).2.2⟩
end
end
section
theorem act_slots {A : Array Value} {T : (Nat → Value) → Array Value} (h : A = T (fun k => A.getD k undef)) : ∃ u, (⟨A, []⟩ : Act) = ⟨T u, []⟩ := ⟨_, congrArg (fun x => (⟨x, []⟩ : Act)) h⟩
noncomputable def hdNo (lv : Value) (zb wb i : Nat) (u : Nat → Value) : Frame :=
  (base 10).at { tmps := #[lv, u 1, u 2, .pointer none, .pointer (some ⟨zb, 0, none⟩), .pointer (some ⟨wb, 0, none⟩), .int .i64 64, .int .i64 i, u 8, u 9, u 10, u 11, u 12, u 13, u 14, u 15, u 16, u 17, u 18, u 19, u 20, u 21, u 22, u 23, u 24, u 25, u 26, u 27, u 28, u 29, u 30, u 31, u 32, u 33, u 34, u 35, u 36, u 37, u 38, u 39, u 40, u 41, u 42, u 43, u 44, u 45, u 46, u 47, u 48, u 49, u 50, u 51, u 52, u 53, u 54, u 55, u 56, u 57, u 58, u 59, u 60, u 61, u 62, u 63, u 64, u 65, u 66, u 67, u 68, u 69, u 70, u 71, u 72, u 73, u 74, u 75, u 76, u 77, u 78, u 79, u 80, u 81, u 82, u 83, u 84, u 85, u 86, u 87, u 88, u 89, u 90, u 91, u 92, u 93, u 94, u 95, u 96, u 97, u 98, u 99, u 100, u 101, u 102, u 103, u 104, u 105, u 106, u 107, u 108, u 109, u 110, u 111, u 112, u 113, u 114, u 115, u 116, u 117, u 118, u 119, u 120, u 121, u 122, u 123, u 124, u 125, u 126, u 127, u 128, u 129, u 130, u 131, u 132, u 133, u 134], defers := [] } [.code (.seq (.seq (.region 11 reg10_11 false) (.cond (.tmp 28 ) (.skip) (.exit 2))) (.seq (.block 3 (.seq (.region 13 reg10_13 false) (.seq (.region 14 reg10_14 true) (.seq (.seq (.region 15 reg10_15 false) (.cond (.tmp 64 ) (.seq (.region 16 reg10_16 false) (.ret)) (.skip))) (.seq (.region 17 reg10_17 false) (.seq (.region 18 reg10_18 false) (.seq (.block 4 (.seq (.region 19 reg10_19 false) (.cond (.tmp 69 ) (.region 20 reg10_20 false) (.seq (.region 21 reg10_21 false) (.cond (.tmp 89 ) (.region 22 reg10_22 false) (.seq (.region 23 reg10_23 false) (.cond (.tmp 99 ) (.region 24 reg10_24 false) (.seq (.region 25 reg10_25 false) (.cond (.tmp 104 ) (.region 26 reg10_26 false) (.seq (.region 27 reg10_27 false) (.cond (.tmp 112 ) (.region 28 reg10_28 false) (.skip)))))))))))) (.seq (.region 29 reg10_29 false) (.cond (.tmp 134 ) (.seq (.region 30 reg10_30 false) (.ret)) (.skip)))))))))) (.region 12 reg10_12 false))), .inLoop (.seq (.seq (.region 11 reg10_11 false) (.cond (.tmp 28 ) (.skip) (.exit 2))) (.seq (.block 3 (.seq (.region 13 reg10_13 false) (.seq (.region 14 reg10_14 true) (.seq (.seq (.region 15 reg10_15 false) (.cond (.tmp 64 ) (.seq (.region 16 reg10_16 false) (.ret)) (.skip))) (.seq (.region 17 reg10_17 false) (.seq (.region 18 reg10_18 false) (.seq (.block 4 (.seq (.region 19 reg10_19 false) (.cond (.tmp 69 ) (.region 20 reg10_20 false) (.seq (.region 21 reg10_21 false) (.cond (.tmp 89 ) (.region 22 reg10_22 false) (.seq (.region 23 reg10_23 false) (.cond (.tmp 99 ) (.region 24 reg10_24 false) (.seq (.region 25 reg10_25 false) (.cond (.tmp 104 ) (.region 26 reg10_26 false) (.seq (.region 27 reg10_27 false) (.cond (.tmp 112 ) (.region 28 reg10_28 false) (.skip)))))))))))) (.seq (.region 29 reg10_29 false) (.cond (.tmp 134 ) (.seq (.region 30 reg10_30 false) (.ret)) (.skip)))))))))) (.region 12 reg10_12 false))), .inBlock 2, .code (.seq (.region 31 reg10_31 false) (.ret))]
noncomputable def mdP (lv : Value) (zb wb i E : Nat) (u : Nat → Value) : Frame :=
  (base 10).at { tmps := #[lv, u 1, u 2, .pointer none, .pointer (some ⟨zb, 0, none⟩), .pointer (some ⟨wb, 0, none⟩), .int .i64 64, .int .i64 i, .pointer (some ⟨E, 0, none⟩), u 9, u 10, u 11, u 12, u 13, u 14, u 15, u 16, u 17, u 18, u 19, u 20, u 21, u 22, u 23, u 24, u 25, u 26, u 27, u 28, u 29, u 30, u 31, u 32, u 33, u 34, u 35, u 36, u 37, u 38, u 39, u 40, u 41, u 42, u 43, u 44, u 45, u 46, u 47, u 48, u 49, u 50, u 51, u 52, u 53, u 54, u 55, u 56, u 57, u 58, u 59, u 60, u 61, u 62, u 63, u 64, .pointer none, u 66, u 67, u 68, u 69, u 70, u 71, u 72, u 73, u 74, u 75, u 76, u 77, u 78, u 79, u 80, u 81, u 82, u 83, u 84, u 85, u 86, u 87, u 88, u 89, u 90, u 91, u 92, u 93, u 94, u 95, u 96, u 97, u 98, u 99, u 100, u 101, u 102, u 103, u 104, u 105, u 106, u 107, u 108, u 109, u 110, u 111, u 112, u 113, u 114, u 115, u 116, u 117, u 118, u 119, u 120, u 121, u 122, u 123, u 124, u 125, u 126, u 127, u 128, u 129, u 130, u 131, u 132, u 133, u 134], defers := [] } [.inRegion reg10_17 [1, 2, 3, 4], .code (.seq (.region 18 reg10_18 false) (.seq (.block 4 (.seq (.region 19 reg10_19 false) (.cond (.tmp 69 ) (.region 20 reg10_20 false) (.seq (.region 21 reg10_21 false) (.cond (.tmp 89 ) (.region 22 reg10_22 false) (.seq (.region 23 reg10_23 false) (.cond (.tmp 99 ) (.region 24 reg10_24 false) (.seq (.region 25 reg10_25 false) (.cond (.tmp 104 ) (.region 26 reg10_26 false) (.seq (.region 27 reg10_27 false) (.cond (.tmp 112 ) (.region 28 reg10_28 false) (.skip)))))))))))) (.seq (.region 29 reg10_29 false) (.cond (.tmp 134 ) (.seq (.region 30 reg10_30 false) (.ret)) (.skip))))), .inBlock 3, .code (.region 12 reg10_12 false), .inLoop (.seq (.seq (.region 11 reg10_11 false) (.cond (.tmp 28 ) (.skip) (.exit 2))) (.seq (.block 3 (.seq (.region 13 reg10_13 false) (.seq (.region 14 reg10_14 true) (.seq (.seq (.region 15 reg10_15 false) (.cond (.tmp 64 ) (.seq (.region 16 reg10_16 false) (.ret)) (.skip))) (.seq (.region 17 reg10_17 false) (.seq (.region 18 reg10_18 false) (.seq (.block 4 (.seq (.region 19 reg10_19 false) (.cond (.tmp 69 ) (.region 20 reg10_20 false) (.seq (.region 21 reg10_21 false) (.cond (.tmp 89 ) (.region 22 reg10_22 false) (.seq (.region 23 reg10_23 false) (.cond (.tmp 99 ) (.region 24 reg10_24 false) (.seq (.region 25 reg10_25 false) (.cond (.tmp 104 ) (.region 26 reg10_26 false) (.seq (.region 27 reg10_27 false) (.cond (.tmp 112 ) (.region 28 reg10_28 false) (.skip)))))))))))) (.seq (.region 29 reg10_29 false) (.cond (.tmp 134 ) (.seq (.region 30 reg10_30 false) (.ret)) (.skip)))))))))) (.region 12 reg10_12 false))), .inBlock 2, .code (.seq (.region 31 reg10_31 false) (.ret))]
theorem calls_no_at {lv : Value} {zb wb i E : Nat} {W : World} {R : Nat → Nat → Value → Value → World → Prop} {Stop : Goroutine → World → Prop} {main : Bool} {k : List Item} {cs : List Frame} {act : Act}
    (h : ∀ (k : List Item) (cs : List Frame) (u0 : Nat → Value) {Stop : Goroutine → World → Prop}, (∀ (u : Nat → Value) (A B : Nat) (sa sb : Value) (w : World), u 9 = .pointer (some ⟨A, 0, none⟩) → u 10 = .pointer (some ⟨B, 0, none⟩) → R A B sa sb w → Walk Try.prog main (DR (fun _ => none)) Stop (G ((base 10).at ⟨tmN lv zb wb i E u, []⟩ (.inRegion reg10_14 [] :: k)) cs) w) → Walk Try.prog main (DR (fun _ => none)) Stop (G ((base 10).at ⟨tmN lv zb wb i E u0, []⟩ (.code (.region 14 reg10_14 true) :: k)) cs) W)
    (he : ∃ u, act = ⟨tmN lv zb wb i E u, []⟩)
    (hend : ∀ (u : Nat → Value) (A B : Nat) (sa sb : Value) (w : World), u 9 = .pointer (some ⟨A, 0, none⟩) → u 10 = .pointer (some ⟨B, 0, none⟩) → R A B sa sb w → Walk Try.prog main (DR (fun _ => none)) Stop (G ((base 10).at ⟨tmN lv zb wb i E u, []⟩ (.inRegion reg10_14 [] :: k)) cs) w) :
    Walk Try.prog main (DR (fun _ => none)) Stop (G ((base 10).at act (.code (.region 14 reg10_14 true) :: k)) cs) W := by
  obtain ⟨u, rfl⟩ := he
  exact h k cs u hend
theorem oneA {w : World} {X : Nat} {a : Ans} {la : Option Addr} {lc : Nat} (h : w.heap[X]? = some (ansB a (.slice la a.l.length lc))) (hl : NumA la a.l w) (hn : a.l.length ≤ 1048576) : AnsA (some ⟨X, 0, none⟩) [a] w := fun i x hx => by
  unfold ansB at h
  match i, hx with
  | 0, hx => cases hx; exact ⟨X, 0, la, lc, rfl, (cell_of h _).trans rfl, (cell_of h _).trans rfl, (cell_of h _).trans rfl, hl, hn⟩
theorem NumB.numA {w : World} {B : Nat} {l : List Int} (h : NumB w B l) : NumA (some ⟨B, 0, none⟩) l w := fun i x hx => ⟨B, 0, rfl, by rw [Nat.zero_add]; exact h.cell hx⟩
structure NoI (Fr : Nat → Prop) (zb wb : Nat) (s : Gt) (W w : World) : Prop where
  two : Two Fr zb wb s s w
  old : ∀ b, Fr b → w.heap[b]? = W.heap[b]?
  size : W.heap.size ≤ w.heap.size
theorem NoI.at {Fr : Nat → Prop} {zb wb : Nat} {s : Gt} {W w : World} (h : NoI Fr zb wb s W w) (d : Nat) : NoI Fr zb wb s W (w.at d) := ⟨h.two.at d, h.old, h.size⟩
section
variable {Fr : Nat → Prop} {zb wb : Nat} {s s' : Gt} {a : Ans} {main : Bool}
theorem no_a (tb toff n0 tc i N : Nat) (o : OpV) (hi : i < n0) (hn0 : n0 ≤ 17592186044416) (hrun : runG N (gtEnter s 0 o) = some (s', a)) (W0 W : World) (I : NoI Fr zb wb s W0 W)
    (o0 : W.cell? ⟨tb, toff + i * 4, none⟩ = some (.int .i64 o.k)) (o1 : W.cell? ⟨tb, toff + i * 4 + 1, none⟩ = some (.int .i64 o.a)) (o2 : W.cell? ⟨tb, toff + i * 4 + 2, none⟩ = some (.int .i64 o.b)) (o3 : W.cell? ⟨tb, toff + i * 4 + 3, none⟩ = some (.int .i64 o.c)) (cs : List Frame) (u : Nat → Value) :
    Walk Try.prog main (DR (fun _ => none)) (fun g w => ∃ E, (∃ u, g = G (mdP (.slice (some ⟨tb, toff, none⟩) n0 tc) zb wb i E u) cs) ∧ w.heap[E]? = some (.cells #[.int .i64 o.k, .int .i64 o.a, .int .i64 o.b, .int .i64 o.c] 84) ∧ NoI Fr zb wb s' W0 w) (G (hdNo (.slice (some ⟨tb, toff, none⟩) n0 tc) zb wb i u) cs) W := by
  have hi0 : (0 : Int) ≤ i := by omega
  have hi1 : decide ((i : Int) < n0) = true := by simp; omega
  have hi3 : decide (i < n0) = true := by simp; omega
  have hi4 : (i : Int) < n0 := by omega
  obtain ⟨fsO, huO⟩ := structT 84 (by kernel_rfl)
  obtain ⟨fsA, huA⟩ := structT 81 (by kernel_rfl)
  have hcs : ∀ (y : Nat) (v : Value), ([.int .i64 o.k, .int .i64 o.a, .int .i64 o.b, .int .i64 o.c] : List Value)[y]? = some v → W.cell? ⟨tb, toff + i * 4 + y, none⟩ = some v := fun y v hv => by
    match y, hv with
    | 0, hv => cases hv; exact o0
    | 1, hv => cases hv; exact o1
    | 2, hv => cases hv; exact o2
    | 3, hv => cases hv; exact o3
  clear o0 o1 o2 o3
  conv => arg 5; unfold hdNo
  repeat (first | refine Walk.cx ?_ | (refine Walk.cReg ?_; simp only [zA10]) | (refine Walk.oq ?_; try walk_nrm) | (refine Walk.un ?_; walk_nrm))
  refine Walk.loadS 84 (.tmp 33) (ho_of (by conv => lhs; whnf) (by kernel_rfl)) (by rfl) (by decide) rfl tb (toff + i * 4) [.int .i64 o.k, .int .i64 o.a, .int .i64 o.b, .int .i64 o.c] (.struct fsO) rfl hcs huO rfl (by kernel_rfl) ?_
  clear hcs
  walk_nrm
  repeat (first | refine Walk.cx ?_ | (refine Walk.cReg ?_; simp only [zA10]) | (refine Walk.oq ?_; try walk_nrm) | (refine Walk.un ?_; walk_nrm))
  (refine Walk.oa ?_; try walk_nrm)
  have s1 : (W.alloc (.cells #[.int .i64 0, .int .i64 0, .int .i64 0, .int .i64 0] 84)).heap.size = W.heap.size + 1 := by simp
  have o1 : ∀ b, b < W.heap.size → (W.alloc (.cells #[.int .i64 0, .int .i64 0, .int .i64 0, .int .i64 0] 84)).heap[b]? = W.heap[b]? := fun b hb => heap_new_lt _ _ hb
  have d1 := heap_alloc_new W (.cells #[.int .i64 0, .int .i64 0, .int .i64 0, .int .i64 0] 84)
  generalize hE : W.heap.size = E at *
  generalize W.alloc (.cells #[.int .i64 0, .int .i64 0, .int .i64 0, .int .i64 0] 84) = w1 at *
  repeat (first | refine Walk.cx ?_ | (refine Walk.cReg ?_; simp only [zA10]) | (refine Walk.oq ?_; try walk_nrm) | (refine Walk.un ?_; walk_nrm))
  refine Walk.storeS 84 (.tmp 8) (.tmp 34) (ho_of (by conv => lhs; whnf) (by kernel_rfl)) (by rfl) (by decide) rfl E #[.int .i64 o.k, .int .i64 o.a, .int .i64 o.b, .int .i64 o.c] _ 84 rfl rfl d1 (by kernel_rfl) (by rfl) (by simp [Value.oneCell']) (ap0 _) ?_
  have d2 := setRow_self (cells := #[.int .i64 o.k, .int .i64 o.a, .int .i64 o.b, .int .i64 o.c]) d1
  have o2 : ∀ b, b ≠ E → (w1.setRow E #[.int .i64 o.k, .int .i64 o.a, .int .i64 o.b, .int .i64 o.c]).heap[b]? = w1.heap[b]? := fun b hb => setRow_other _ _ hb
  have s2 := setRow_size w1 E #[.int .i64 o.k, .int .i64 o.a, .int .i64 o.b, .int .i64 o.c]
  generalize w1.setRow E #[.int .i64 o.k, .int .i64 o.a, .int .i64 o.b, .int .i64 o.c] = w2 at *
  clear d1
  have hlt : ∀ b, Fr b → b < E := fun b hb => by
    obtain ⟨_, _, _, _, _, h4⟩ := I.two
    have := (h4 b hb).1
    omega
  have hsz := I.size
  have T2 : Two (fun b => Fr b ∨ b = E) zb wb s s w2 := I.two.on (fun b hb => (o2 b (by omega)).trans (o1 b (by omega))) (by omega) fun b hb => hb.imp id fun e => by omega
  have old2 : ∀ b, Fr b → w2.heap[b]? = W0.heap[b]? := fun b hb => (o2 b (by have := hlt b hb; omega)).trans ((o1 b (hlt b hb)).trans (I.old b hb))
  have hdo := calls_no (main := main) (.slice (some ⟨tb, toff, none⟩) n0 tc) i E N o (.inr rfl) w2 T2 d2 hrun
  clear T2 o1 o2 hrun hlt
  walk_nrm
  repeat (first | refine Walk.cx ?_ | (refine Walk.cReg ?_; simp only [zA10]) | (refine Walk.oq ?_; try walk_nrm) | (refine Walk.un ?_; walk_nrm))
  refine calls_no_at (R := fun A B sk sl w => NoQ (fun b => Fr b ∨ b = E) zb wb s s' a w2 (fun _ => true) A B sk sl w) hdo ?eq fun u A B sk sl w h9 h10 AQ => ?main
  case eq => exact act_slots (by simp only [tmN]; rfl)
  case main =>
    clear hdo
    have qa := (AQ.a1 rfl).2
    have qb := (AQ.b1 rfl).2
    have ra := AQ.la rfl
    have rb := AQ.lb rfl
    have tw := AQ.two
    have hold := AQ.old
    have hqs := AQ.size
    clear AQ
    simp only [if_true] at qa qb tw
    obtain ⟨⟨la, lc, rfl, hln⟩, rra⟩ := ra
    obtain ⟨⟨ma, mc, rfl, _⟩, rrb⟩ := rb
    have lA := (Array.getElem?_eq_some_iff.1 qa).1
    have lB := (Array.getElem?_eq_some_iff.1 qb).1
    have hltw : ∀ b, Fr b ∨ b = E → b < w.heap.size := fun b hb => by
      obtain ⟨_, _, _, _, _, h4⟩ := tw
      exact (h4 b (.inl hb)).1
    simp only [tmN, h9, h10]
    repeat (first | refine Walk.cx ?_ | (refine Walk.cReg ?_; simp only [zA10]) | (refine Walk.oq ?_; try walk_nrm) | (refine Walk.un ?_; walk_nrm))
    refine Walk.loadS 81 (.tmp 9) (ho_of (by conv => lhs; whnf) (by kernel_rfl)) (by rfl) (by decide) rfl A 0 [.bool a.ok, .int .i64 a.n, .slice la a.l.length lc] (.struct fsA) rfl (fun j v hj => ?_) huA rfl (by kernel_rfl) ?_
    · have qa2 := qa
      unfold ansB at qa2
      rw [Nat.zero_add, cell_of qa2]
      simpa using hj
    walk_nrm
    have d1 := heap_alloc_new w (ansB a (.slice la a.l.length lc))
    have o1 : ∀ b, b < w.heap.size → (w.alloc (ansB a (.slice la a.l.length lc))).heap[b]? = w.heap[b]? := fun b hb => heap_new_lt _ _ hb
    have s1 : (w.alloc (ansB a (.slice la a.l.length lc))).heap.size = w.heap.size + 1 := by simp
    (refine Walk.oa ?_; try walk_nrm)
    change Walk Try.prog main (DR (fun _ => none)) _ _ (w.alloc (ansB a (.slice la a.l.length lc)))
    have T1 := tw.on o1 (by omega) fun b hb => .inl hb
    have qb1 := (o1 B lB).trans qb
    have ra1 := row_same rra fun b hb => o1 b (rra.lt b hb).2
    have rb1 := row_same rrb fun b hb => o1 b (rrb.lt b hb).2
    have k1 : ∀ b, Fr b ∨ b = E → (w.alloc (ansB a (.slice la a.l.length lc))).heap[b]? = w2.heap[b]? := fun b hb => (o1 b (hltw b hb)).trans (hold b hb)
    clear tw qa qb rra rrb o1 lA lB hold
    generalize hZ : w.heap.size = Z at *
    generalize w.alloc (ansB a (.slice la a.l.length lc)) = x1 at *
    repeat (first | (refine Walk.oq ?_; try walk_nrm) | (refine Walk.un ?_; walk_nrm))
    refine Walk.loadS 81 (.tmp 10) (ho_of (by conv => lhs; whnf) (by kernel_rfl)) (by rfl) (by decide) rfl B 0 [.bool a.ok, .int .i64 a.n, .slice ma a.l.length mc] (.struct fsA) rfl (fun j v hj => ?_) huA rfl (by kernel_rfl) ?_
    · have qa2 := qb1
      unfold ansB at qa2
      rw [Nat.zero_add, cell_of qa2]
      simpa using hj
    walk_nrm
    have d2 : (x1.alloc (ansB a (.slice ma a.l.length mc))).heap[Z + 1]? = some (ansB a (.slice ma a.l.length mc)) := s1 ▸ heap_alloc_new x1 (ansB a (.slice ma a.l.length mc))
    have o2 : ∀ b, b < Z + 1 → (x1.alloc (ansB a (.slice ma a.l.length mc))).heap[b]? = x1.heap[b]? := fun b hb => heap_new_lt _ _ (by omega)
    have s2' : (x1.alloc (ansB a (.slice ma a.l.length mc))).heap.size = Z + 2 := by simp [s1]
    (refine Walk.oa ?_; try walk_nrm)
    change Walk Try.prog main (DR (fun _ => none)) _ _ (x1.alloc (ansB a (.slice ma a.l.length mc)))
    try simp only [s1]
    have T2 := T1.on (fun b hb => o2 b (by omega)) (by omega) fun b hb => .inl hb
    have ra2 := row_same ra1 fun b hb => o2 b (by have := (ra1.lt b hb).2; omega)
    have rb2 := row_same rb1 fun b hb => o2 b (by have := (rb1.lt b hb).2; omega)
    have d1' := (o2 Z (by omega)).trans d1
    have k2 : ∀ b, Fr b ∨ b = E → (x1.alloc (ansB a (.slice ma a.l.length mc))).heap[b]? = w2.heap[b]? := fun b hb => (o2 b (by have := hltw b hb; omega)).trans (k1 b hb)
    generalize x1.alloc (ansB a (.slice ma a.l.length mc)) = x2 at *
    have hsa := sa_w (main := main) (V := fun _ => none) (some ⟨Z, 0, none⟩) (some ⟨Z + 1, 0, none⟩) [a] 1 1 (by show 1 ≤ 17592186044416; decide) x2 (oneA d1' (numA_of ra2) (by omega)) (oneA d2 (numA_of rb2) (by omega))
    have hz2 : Z + 2 ≤ x2.heap.size := by omega
    clear d1 s1 qb1 d2 o2 d1' ra1 rb1 ra2 rb2 T1 k1 s2'
    repeat (first | (refine Walk.oq ?_; try walk_nrm) | (refine Walk.un ?_; walk_nrm))
    refine Walk.callV (x := .bool true) (W := x2) ?_ (ho_of (by conv => lhs; whnf) (by kernel_rfl)) (by rfl) (by decide) rfl Try.func31 (by kernel_rfl) (by rfl) ?_
    · walk_nrm
      exact hsa
    walk_nrm
    clear hsa
    repeat (first | refine Walk.cx ?_ | (refine Walk.cReg ?_; simp only [zA10]) | (refine Walk.oq ?_; try walk_nrm) | (refine Walk.un ?_; walk_nrm))
    refine Walk.callW (Post := fun v w' => v = .slice (some ⟨x2.heap.size, 0, none⟩) 64 64 ∧ NumB w' x2.heap.size (nuA s') ∧ Two (fun b => FrX (fun b => Fr b ∨ b = E) (fun _ => true) A B (.slice la a.l.length lc) (.slice ma a.l.length mc) b ∨ b = x2.heap.size) zb wb s' s' w' ∧ (∀ b, b < x2.heap.size → w'.heap[b]? = x2.heap[b]?) ∧ x2.heap.size < w'.heap.size) ?_ (ho_of (by conv => lhs; whnf) (by kernel_rfl)) (by rfl) (by decide) rfl Try.func35 (by kernel_rfl) (by rfl) ?_
    · walk_nrm
      exact two_num ap0 T2
    rintro v x3 ⟨rfl, n3, T3a, o3, z3⟩
    clear T2
    have T3 : Two (fun b => (Fr b ∨ b = E) ∨ b = x2.heap.size) zb wb s' s' x3 := T3a.weak fun b hb => hb.imp .inl id
    clear T3a
    walk_nrm
    repeat (first | refine Walk.cx ?_ | (refine Walk.cReg ?_; simp only [zA10]) | (refine Walk.oq ?_; try walk_nrm) | (refine Walk.un ?_; walk_nrm))
    refine Walk.callW (Post := fun v w' => v = .slice (some ⟨x3.heap.size, 0, none⟩) 64 64 ∧ NumB w' x3.heap.size (nuA s') ∧ Two (fun b => ((Fr b ∨ b = E) ∨ b = x2.heap.size) ∨ b = x3.heap.size) wb zb s' s' w' ∧ (∀ b, b < x3.heap.size → w'.heap[b]? = x3.heap[b]?) ∧ x3.heap.size < w'.heap.size) ?_ (ho_of (by conv => lhs; whnf) (by kernel_rfl)) (by rfl) (by decide) rfl Try.func35 (by kernel_rfl) (by rfl) ?_
    · walk_nrm
      exact two_num ap0 T3.swap
    rintro v x4 ⟨rfl, n4, T4a, o4, z4⟩
    have n3' := n3.same (o4 _ z3)
    have hsn := sn_w (main := main) (V := fun _ => none) (some ⟨x2.heap.size, 0, none⟩) (some ⟨x3.heap.size, 0, none⟩) (nuA s') 64 64 (by rw [nuA_len]; decide) x4 n3'.numA n4.numA
    rw [nuA_len] at hsn
    have T4 : Two (fun b => Fr b ∨ b = E) zb wb s' s' x4 := T4a.swap.weak fun b hb => .inl (.inl hb)
    clear T4a
    have k4 : ∀ b, Fr b ∨ b = E → x4.heap[b]? = w2.heap[b]? := fun b hb => (o4 b (by have := hltw b hb; omega)).trans ((o3 b (by have := hltw b hb; omega)).trans (k2 b hb))
    have z4' : W0.heap.size ≤ x4.heap.size := by omega
    clear T3 n3 n3' n4 k2 o3 o4
    generalize x2.heap.size = Z2 at *
    generalize x3.heap.size = Z3 at *
    walk_nrm
    repeat (first | refine Walk.cx ?_ | (refine Walk.cReg ?_; simp only [zA10]) | (refine Walk.oq ?_; try walk_nrm) | (refine Walk.un ?_; walk_nrm))
    refine Walk.callV (x := .bool true) (W := x4) ?_ (ho_of (by conv => lhs; whnf) (by kernel_rfl)) (by rfl) (by decide) rfl Try.func32 (by kernel_rfl) (by rfl) ?_
    · walk_nrm
      exact hsn
    walk_nrm
    clear hsn z3 z4
    repeat (first | refine Walk.cx ?_ | (refine Walk.cReg ?_; simp only [zA10]) | (refine Walk.oq ?_; try walk_nrm) | (refine Walk.un ?_; walk_nrm))
    refine Walk.callW (Post := fun v w' => (∃ a c, v = .slice a s'.l.length c ∧ NumA a s'.l w' ∧ s'.l.length ≤ 64) ∧ Two (fun b => Fr b ∨ b = E) zb wb s' s' w' ∧ (∀ b, Fr b ∨ b = E → w'.heap[b]? = x4.heap[b]?) ∧ x4.heap.size ≤ w'.heap.size) ?_ (ho_of (by conv => lhs; whnf) (by kernel_rfl)) (by rfl) (by decide) rfl Try.func34 (by kernel_rfl) (by rfl) ?_
    · walk_nrm
      exact two_mem ap0 T4
    rintro v x5 ⟨⟨a5, c5, rfl, n5, l5⟩, T5, o5, z5⟩
    clear T4
    walk_nrm
    repeat (first | refine Walk.cx ?_ | (refine Walk.cReg ?_; simp only [zA10]) | (refine Walk.oq ?_; try walk_nrm) | (refine Walk.un ?_; walk_nrm))
    refine Walk.callW (Post := LwideOf s'.l x5) ?_ (ho_of (by conv => lhs; whnf) (by kernel_rfl)) (by rfl) (by decide) rfl Try.func33 (by kernel_rfl) (by rfl) ?_
    · walk_nrm
      exact lwide_w a5 s'.l c5 l5 x5 n5 fun b _ => ap0 b
    rintro v x6 ⟨a6, c6, rfl, r6, o6, z6⟩
    have hlt5 : ∀ b, Fr b ∨ b = E → b < x5.heap.size := fun b hb => by
      obtain ⟨_, _, _, _, _, h4⟩ := T5
      exact (h4 b hb).1
    have T6 : Two (fun b => (Fr b ∨ b = E) ∨ (x5.heap.size ≤ b ∧ b < x6.heap.size)) zb wb s' s' x6 := T5.on o6 z6 fun b hb => hb
    have k6 : ∀ b, Fr b ∨ b = E → x6.heap[b]? = w2.heap[b]? := fun b hb => (o6 b (hlt5 b hb)).trans ((o5 b hb).trans (k4 b hb))
    clear n5 T5 o5 o6 k4
    walk_nrm
    repeat (first | refine Walk.cx ?_ | (refine Walk.cReg ?_; simp only [zA10]) | (refine Walk.oq ?_; try walk_nrm) | (refine Walk.un ?_; walk_nrm))
    refine Walk.callW (Post := fun v w' => (∃ a c, v = .slice a s'.l.length c ∧ NumA a s'.l w' ∧ s'.l.length ≤ 64) ∧ Two (fun b => (Fr b ∨ b = E) ∨ (x5.heap.size ≤ b ∧ b < x6.heap.size)) wb zb s' s' w' ∧ (∀ b, (Fr b ∨ b = E) ∨ (x5.heap.size ≤ b ∧ b < x6.heap.size) → w'.heap[b]? = x6.heap[b]?) ∧ x6.heap.size ≤ w'.heap.size) ?_ (ho_of (by conv => lhs; whnf) (by kernel_rfl)) (by rfl) (by decide) rfl Try.func34 (by kernel_rfl) (by rfl) ?_
    · walk_nrm
      exact two_mem ap0 T6.swap
    rintro v x7 ⟨⟨a7, c7, rfl, n7, _⟩, T7, o7, z7⟩
    have r7 := row_same r6 fun b hb => o7 b (.inr (r6.lt b hb))
    clear T6 r6
    walk_nrm
    repeat (first | refine Walk.cx ?_ | (refine Walk.cReg ?_; simp only [zA10]) | (refine Walk.oq ?_; try walk_nrm) | (refine Walk.un ?_; walk_nrm))
    refine Walk.callW (Post := LwideOf s'.l x7) ?_ (ho_of (by conv => lhs; whnf) (by kernel_rfl)) (by rfl) (by decide) rfl Try.func33 (by kernel_rfl) (by rfl) ?_
    · walk_nrm
      exact lwide_w a7 s'.l c7 l5 x7 n7 fun b _ => ap0 b
    rintro v x8 ⟨a8, c8, rfl, r8, o8, z8⟩
    have r7' := row_same r7 fun b hb => o8 b (r7.lt b hb).2
    have hsn := sn_w (main := main) (V := fun _ => none) a6 a8 s'.l c6 c8 (by omega) x8 (numA_of r7') (numA_of r8)
    have hlt7 : ∀ b, Fr b ∨ b = E → b < x7.heap.size := fun b hb => by
      obtain ⟨_, _, _, _, _, h4⟩ := T7
      exact (h4 b (.inl hb)).1
    have T8 : Two Fr zb wb s' s' x8 := T7.swap.on o8 z8 fun b hb => .inl (.inl (.inl hb))
    have k8 : ∀ b, Fr b ∨ b = E → x8.heap[b]? = w2.heap[b]? := fun b hb => (o8 b (hlt7 b hb)).trans ((o7 b (.inl hb)).trans (k6 b hb))
    have I8 : NoI Fr zb wb s' W0 x8 := ⟨T8, fun b hb => (k8 b (.inl hb)).trans (old2 b hb), by omega⟩
    have e8 := (k8 E (.inr rfl)).trans d2
    clear T8 k8 hlt7 r7' r8 o8 r7 o7 T7 n7 k6 hlt5 hltw old2 d2 I
    generalize hQ : NoI Fr zb wb s' W0 = Q at *
    generalize s'.l.length = L at *
    walk_nrm
    repeat (first | refine Walk.cx ?_ | (refine Walk.cReg ?_; simp only [zA10]) | (refine Walk.oq ?_; try walk_nrm) | (refine Walk.un ?_; walk_nrm))
    refine Walk.callV (x := .bool true) (W := x8) ?_ (ho_of (by conv => lhs; whnf) (by kernel_rfl)) (by rfl) (by decide) rfl Try.func32 (by kernel_rfl) (by rfl) ?_
    · walk_nrm
      exact hsn
    walk_nrm
    clear hsn
    repeat (first | refine Walk.cx ?_ | (refine Walk.cReg ?_; simp only [zA10]) | (refine Walk.oq ?_; try walk_nrm) | (refine Walk.un ?_; walk_nrm))
    refine .stop fun d => ⟨E, at_slots ?_, e8, ?_⟩
    · simp only [mdP]
      rfl
    · subst hQ
      exact I8.at d
end
end
section
noncomputable def mdQ (lv : Value) (zb wb i E C D : Nat) (u : Nat → Value) : Frame :=
  (base 10).at { tmps := #[lv, u 1, u 2, .pointer none, .pointer (some ⟨zb, 0, none⟩), .pointer (some ⟨wb, 0, none⟩), .int .i64 64, .int .i64 i, .pointer (some ⟨E, 0, none⟩), u 9, u 10, .pointer (some ⟨C, 0, none⟩), .pointer (some ⟨D, 0, none⟩), u 13, u 14, u 15, u 16, u 17, u 18, u 19, u 20, u 21, u 22, u 23, u 24, u 25, u 26, u 27, u 28, u 29, u 30, u 31, u 32, u 33, u 34, u 35, u 36, u 37, u 38, u 39, u 40, u 41, u 42, u 43, u 44, u 45, u 46, u 47, u 48, u 49, u 50, u 51, u 52, u 53, u 54, u 55, u 56, u 57, u 58, u 59, u 60, u 61, u 62, u 63, u 64, u 65, u 66, u 67, u 68, u 69, u 70, u 71, u 72, u 73, u 74, u 75, u 76, u 77, u 78, u 79, u 80, u 81, u 82, u 83, u 84, u 85, u 86, u 87, u 88, u 89, u 90, u 91, u 92, u 93, u 94, u 95, u 96, u 97, u 98, u 99, u 100, u 101, u 102, u 103, u 104, u 105, u 106, u 107, u 108, u 109, u 110, u 111, u 112, u 113, u 114, u 115, u 116, u 117, u 118, u 119, u 120, u 121, u 122, u 123, u 124, u 125, u 126, u 127, u 128, u 129, u 130, u 131, u 132, u 133, u 134], defers := [] } [.inRegion reg10_29 [0, 1, 2, 3, 4, 5, 6, 7, 8, 9, 10, 11, 12, 13, 14, 15, 16, 17], .code (.cond (.tmp 134 ) (.seq (.region 30 reg10_30 false) (.ret)) (.skip)), .inBlock 3, .code (.region 12 reg10_12 false), .inLoop (.seq (.seq (.region 11 reg10_11 false) (.cond (.tmp 28 ) (.skip) (.exit 2))) (.seq (.block 3 (.seq (.region 13 reg10_13 false) (.seq (.region 14 reg10_14 true) (.seq (.seq (.region 15 reg10_15 false) (.cond (.tmp 64 ) (.seq (.region 16 reg10_16 false) (.ret)) (.skip))) (.seq (.region 17 reg10_17 false) (.seq (.region 18 reg10_18 false) (.seq (.block 4 (.seq (.region 19 reg10_19 false) (.cond (.tmp 69 ) (.region 20 reg10_20 false) (.seq (.region 21 reg10_21 false) (.cond (.tmp 89 ) (.region 22 reg10_22 false) (.seq (.region 23 reg10_23 false) (.cond (.tmp 99 ) (.region 24 reg10_24 false) (.seq (.region 25 reg10_25 false) (.cond (.tmp 104 ) (.region 26 reg10_26 false) (.seq (.region 27 reg10_27 false) (.cond (.tmp 112 ) (.region 28 reg10_28 false) (.skip)))))))))))) (.seq (.region 29 reg10_29 false) (.cond (.tmp 134 ) (.seq (.region 30 reg10_30 false) (.ret)) (.skip)))))))))) (.region 12 reg10_12 false))), .inBlock 2, .code (.seq (.region 31 reg10_31 false) (.ret))]
structure NoP (Fr : Nat → Prop) (zb wb : Nat) (s : Gt) (X : Ans) (C D : Nat) (W0 w : World) : Prop where
  c : ∃ sl, w.heap[C]? = some (ansB X sl) ∧ RowL sl X.l w
  d : ∃ sl, w.heap[D]? = some (ansB X sl) ∧ RowL sl X.l w
  I : NoI Fr zb wb s W0 w
theorem NoP.at {Fr : Nat → Prop} {zb wb : Nat} {s : Gt} {X : Ans} {C D : Nat} {W0 w : World} (h : NoP Fr zb wb s X C D W0 w) (d : Nat) : NoP Fr zb wb s X C D W0 (w.at d) := by
  obtain ⟨⟨sl, h1, h2⟩, ⟨sk, h3, h4⟩, h5⟩ := h
  exact ⟨⟨sl, h1, h2.keep fun _ _ => rfl⟩, ⟨sk, h3, h4.keep fun _ _ => rfl⟩, h5.at d⟩
section
variable {Fr : Nat → Prop} {zb wb : Nat} {s : Gt} {main : Bool}
theorem no_b1 (lv : Value) (i E : Nat) (ok oa ob oc : Int) (a1 : 1 ≤ ok) (a2 : ok ≤ 4) (a3 : oa < 0) (hX : nilA ⟨ok, oa, ob, oc⟩ = ⟨false, 1, []⟩) (W0 w : World) (I : NoI Fr zb wb s W0 w) (hE : w.heap[E]? = some (.cells #[.int .i64 ok, .int .i64 oa, .int .i64 ob, .int .i64 oc] 84)) (cs : List Frame) (u : Nat → Value) :
    Walk Try.prog main (DR (fun _ => none)) (fun g w' => ∃ C D, (∃ u, g = G (mdQ lv zb wb i E C D u) cs) ∧ NoP Fr zb wb s ⟨false, 1, []⟩ C D W0 w') (G (mdP lv zb wb i E u) cs) w := by
  have f0 : decide (1 ≤ ok) = true := by simp; omega
  have f1 : decide (ok ≤ 4) = true := by simp; omega
  have f2 : decide (oa < 0) = true := by simp; omega
  clear a1 a2 a3
  obtain ⟨fsO, huO⟩ := structT 84 (by kernel_rfl)
  have hcs : ∀ (y : Nat) (v : Value), ([.int .i64 ok, .int .i64 oa, .int .i64 ob, .int .i64 oc] : List Value)[y]? = some v → w.cell? ⟨E, 0 + y, none⟩ = some v := fun y v hv => by
    rw [Nat.zero_add, cell_of hE]
    simpa using hv
  have hnc := nil_call (main := main) (V := fun _ => none) ap0 ok oa ob oc w
  rw [hX] at hnc
  clear hX
  conv => arg 5; unfold mdP
  refine Walk.loadS 84 (.tmp 8) (ho_of (by conv => lhs; whnf) (by kernel_rfl)) (by rfl) (by decide) rfl E 0 [.int .i64 ok, .int .i64 oa, .int .i64 ob, .int .i64 oc] (.struct fsO) rfl hcs huO rfl (by kernel_rfl) ?_
  clear hcs
  walk_nrm
  repeat (first | refine Walk.cx ?_ | (refine Walk.cReg ?_; simp only [zB10]) | (refine Walk.oq ?_; try walk_nrm) | (refine Walk.un ?_; walk_nrm))
  refine Walk.callW (Post := NilOf ⟨false, 1, []⟩ w) ?_ (ho_of (by conv => lhs; whnf) (by kernel_rfl)) (by rfl) (by decide) rfl Try.func30 (by kernel_rfl) (by rfl) ?_
  · walk_nrm
    exact hnc
  rintro v w1 ⟨sl, rfl, ⟨ba, bc, rfl⟩, row, o1, z1⟩
  clear hnc
  have row : w1.ownsRow w.heap.size 2 1 (.slice ba 0 bc) 0 (([] : List Int).map fun z => .int .i64 z) := row
  have hlt : ∀ b, Fr b → b < w.heap.size := fun b hb => by
    obtain ⟨_, _, _, _, _, h4⟩ := I.two
    exact (h4 b hb).1
  have eE := (Array.getElem?_eq_some_iff.1 hE).1
  have hE1 := (o1 E eE).trans hE
  have T1 := I.two.on o1 z1 fun b hb => .inl hb
  have k1 : ∀ b, Fr b → w1.heap[b]? = W0.heap[b]? := fun b hb => (o1 b (hlt b hb)).trans (I.old b hb)
  have hs0 := I.size
  have hlt1 : ∀ b, Fr b → b < w1.heap.size := fun b hb => by have := hlt b hb; omega
  have eE1 : E < w1.heap.size := by omega
  have hs1 : W0.heap.size ≤ w1.heap.size := by omega
  clear I hE o1 z1 hlt hs0 eE
  simp only [ansV]
  walk_nrm
  repeat (first | refine Walk.cx ?_ | (refine Walk.cReg ?_; simp only [zB10]) | (refine Walk.oq ?_; try walk_nrm) | (refine Walk.un ?_; walk_nrm))
  (refine Walk.oa ?_; try walk_nrm)
  have s2 : (w1.alloc (.cells #[.bool false, .int .i64 0, .slice none 0 0] 81)).heap.size = w1.heap.size + 1 := by simp
  have o2 : ∀ b, b < w1.heap.size → (w1.alloc (.cells #[.bool false, .int .i64 0, .slice none 0 0] 81)).heap[b]? = w1.heap[b]? := fun b hb => heap_new_lt _ _ hb
  have d2 := heap_alloc_new w1 (.cells #[.bool false, .int .i64 0, .slice none 0 0] 81)
  obtain ⟨C, hC⟩ : ∃ C, w1.heap.size = C := ⟨_, rfl⟩
  rw [hC] at s2 o2 d2 hlt1 eE1 hs1
  try simp only [hC]
  generalize w1.alloc (.cells #[.bool false, .int .i64 0, .slice none 0 0] 81) = w2 at *
  repeat (first | refine Walk.cx ?_ | (refine Walk.cReg ?_; simp only [zB10]) | (refine Walk.oq ?_; try walk_nrm) | (refine Walk.un ?_; walk_nrm))
  refine Walk.storeS 81 (.tmp 11) (.tmp 67) (ho_of (by conv => lhs; whnf) (by kernel_rfl)) (by rfl) (by decide) rfl C #[.bool false, .int .i64 1, .slice ba 0 bc] _ 81 rfl rfl d2 (by kernel_rfl) (by rfl) (by simp [Value.oneCell']) (ap0 _) ?_
  have d3 : (w2.setRow C #[.bool false, .int .i64 1, .slice ba 0 bc]).heap[C]? = some (ansB ⟨false, 1, []⟩ (.slice ba 0 bc)) := setRow_self (cells := #[.bool false, .int .i64 1, .slice ba 0 bc]) d2
  have o3 : ∀ b, b ≠ C → (w2.setRow C #[.bool false, .int .i64 1, .slice ba 0 bc]).heap[b]? = w2.heap[b]? := fun b hb => setRow_other _ _ hb
  have s3 := setRow_size w2 C #[.bool false, .int .i64 1, .slice ba 0 bc]
  generalize w2.setRow C #[.bool false, .int .i64 1, .slice ba 0 bc] = w3 at *
  have up3 : ∀ b, b < C → w3.heap[b]? = w1.heap[b]? := fun b hb => (o3 b (by omega)).trans (o2 b hb)
  have T3 := T1.on (w' := w3) (fun b hb => up3 b (by omega)) (by omega) fun b hb => .inl hb
  have row3 := row_same row fun b hb => up3 b (by have := (row.lt b hb).2; omega)
  have hE3 := (up3 E eE1).trans hE1
  have k3 : ∀ b, Fr b → w3.heap[b]? = W0.heap[b]? := fun b hb => (up3 b (hlt1 b hb)).trans (k1 b hb)
  have hs3 : w3.heap.size = C + 1 := by omega
  have hrb : ∀ b, (Value.slice ba 0 bc).ownBlock = some b → b < C := fun b hb => by have := (row.lt b hb).2; omega
  clear T1 row hE1 k1 up3 o3 o2 s2 s3 d2 hC
  walk_nrm
  repeat (first | refine Walk.cx ?_ | (refine Walk.cReg ?_; simp only [zB10]) | (refine Walk.oq ?_; try walk_nrm) | (refine Walk.un ?_; walk_nrm))
  (refine Walk.oa ?_; try walk_nrm)
  have s4 : (w3.alloc (.cells #[.bool false, .int .i64 0, .slice none 0 0] 81)).heap.size = w3.heap.size + 1 := by simp
  have o4 : ∀ b, b < w3.heap.size → (w3.alloc (.cells #[.bool false, .int .i64 0, .slice none 0 0] 81)).heap[b]? = w3.heap[b]? := fun b hb => heap_new_lt _ _ hb
  have d4 := heap_alloc_new w3 (.cells #[.bool false, .int .i64 0, .slice none 0 0] 81)
  rw [hs3] at s4 o4 d4
  try simp only [hs3]
  have hE4 := (o4 E (by omega)).trans hE3
  generalize w3.alloc (.cells #[.bool false, .int .i64 0, .slice none 0 0] 81) = w4 at *
  clear hE3
  repeat (first | refine Walk.cx ?_ | (refine Walk.cReg ?_; simp only [zB10]) | (refine Walk.oq ?_; try walk_nrm) | (refine Walk.un ?_; walk_nrm))
  refine Walk.storeS 81 (.tmp 12) (.tmp 68) (ho_of (by conv => lhs; whnf) (by kernel_rfl)) (by rfl) (by decide) rfl (C + 1) #[.bool false, .int .i64 0, .slice none 0 0] _ 81 rfl rfl d4 (by kernel_rfl) (by rfl) (by simp [Value.oneCell']) (ap0 _) ?_
  have d5 := setRow_self (cells := #[.bool false, .int .i64 0, .slice none 0 0]) d4
  have o5 : ∀ b, b ≠ C + 1 → (w4.setRow (C + 1) #[.bool false, .int .i64 0, .slice none 0 0]).heap[b]? = w4.heap[b]? := fun b hb => setRow_other _ _ hb
  have s5 := setRow_size w4 (C + 1) #[.bool false, .int .i64 0, .slice none 0 0]
  generalize w4.setRow (C + 1) #[.bool false, .int .i64 0, .slice none 0 0] = w5 at *
  have hE5 := (o5 E (by omega)).trans hE4
  have e0 := (cell_of hE5 0).trans rfl
  have e1 := (cell_of hE5 1).trans rfl
  clear hE4 d4
  have I9 : ∀ w9 : World, (∀ b, b < C + 1 → w9.heap[b]? = w5.heap[b]?) → C + 2 ≤ w9.heap.size → (∃ sl, w9.heap[C + 1]? = some (ansB ⟨false, 1, []⟩ sl) ∧ RowL sl [] w9) → NoP Fr zb wb s ⟨false, 1, []⟩ C (C + 1) W0 w9 := fun w9 h1 h2 h3 => by
    have up : ∀ b, b < C + 1 → w9.heap[b]? = w3.heap[b]? := fun b hb => (h1 b hb).trans ((o5 b (by omega)).trans (o4 b hb))
    exact ⟨⟨_, (up C (by omega)).trans d3, ⟨_, _, rfl, by show 0 ≤ 65536; decide⟩, row_same (row_raise row3 fun _ _ => Nat.zero_le _) fun b hb => up b (by have := hrb b hb; omega)⟩, h3, T3.on (fun b hb => up b (by omega)) (by omega) fun b hb => .inl hb, fun b hb => (up b (by have := hlt1 b hb; omega)).trans (k3 b hb), by omega⟩
  clear T3 k3 row3 hrb d3 o4 o5
  walk_nrm
  repeat (first | refine Walk.cx ?_ | (refine Walk.cReg ?_; simp only [zB10]) | (refine Walk.oq ?_; try walk_nrm) | (refine Walk.un ?_; walk_nrm))
  have g5 : w5.cell? ⟨C + 1, 1, none⟩ = some (.int .i64 0) := (cell_of d5 1).trans rfl
  have y5 := frozen_of d5 1
  (have hfr := (ap0 (C + 1)).1 ⟨C + 1, 1, none⟩ rfl; refine Walk.os hfr g5 ?_; clear hfr; try walk_nrm)
  clear g5 y5
  have d6 : (w5.setCell ⟨C + 1, 1, none⟩ (.int .i64 1)).heap[C + 1]? = some (.cells #[.bool false, .int .i64 1, .slice none 0 0] 81) := by
    rw [heap_set_self _ _ d5]
    simp
  have o6 : ∀ b, b ≠ C + 1 → (w5.setCell ⟨C + 1, 1, none⟩ (.int .i64 1)).heap[b]? = w5.heap[b]? := fun b hb => heap_set_other _ _ _ _ hb
  have s6 : (w5.setCell ⟨C + 1, 1, none⟩ (.int .i64 1)).heap.size = w5.heap.size := size_set _ _ _
  generalize w5.setCell ⟨C + 1, 1, none⟩ (.int .i64 1) = w6 at *
  have I10 := I9 w6 (fun b hb => o6 b (by omega)) (by omega) ⟨.slice none 0 0, d6, ⟨_, _, rfl, by decide⟩, ⟨rfl, .inl ⟨rfl, rfl⟩⟩⟩
  clear I9 o6 s6 d6 d5
  repeat (first | refine Walk.cx ?_ | (refine Walk.cReg ?_; simp only [zB10]) | (refine Walk.oq ?_; try walk_nrm) | (refine Walk.un ?_; walk_nrm))
  generalize hQ : NoP Fr zb wb s ⟨false, 1, []⟩ C (C + 1) W0 = Q at *
  refine .stop fun d => ⟨C, C + 1, at_slots ?_, ?_⟩
  · simp only [mdQ]
    rfl
  · subst hQ
    exact I10.at d
theorem no_b2 (lv : Value) (i E : Nat) (ok oa ob oc : Int) (a1 : 1 ≤ ok) (a2 : ok ≤ 4) (a3 : ¬ oa < 0) (a4 : 64 ≤ oa) (hX : nilA ⟨ok, oa, ob, oc⟩ = ⟨false, 1, []⟩) (W0 w : World) (I : NoI Fr zb wb s W0 w) (hE : w.heap[E]? = some (.cells #[.int .i64 ok, .int .i64 oa, .int .i64 ob, .int .i64 oc] 84)) (cs : List Frame) (u : Nat → Value) :
    Walk Try.prog main (DR (fun _ => none)) (fun g w' => ∃ C D, (∃ u, g = G (mdQ lv zb wb i E C D u) cs) ∧ NoP Fr zb wb s ⟨false, 1, []⟩ C D W0 w') (G (mdP lv zb wb i E u) cs) w := by
  have f0 : decide (1 ≤ ok) = true := by simp; omega
  have f1 : decide (ok ≤ 4) = true := by simp; omega
  have f2 : decide (oa < 0) = false := by simp; omega
  have f3 : decide (64 ≤ oa) = true := by simp; omega
  clear a1 a2 a3 a4
  obtain ⟨fsO, huO⟩ := structT 84 (by kernel_rfl)
  have hcs : ∀ (y : Nat) (v : Value), ([.int .i64 ok, .int .i64 oa, .int .i64 ob, .int .i64 oc] : List Value)[y]? = some v → w.cell? ⟨E, 0 + y, none⟩ = some v := fun y v hv => by
    rw [Nat.zero_add, cell_of hE]
    simpa using hv
  have hnc := nil_call (main := main) (V := fun _ => none) ap0 ok oa ob oc w
  rw [hX] at hnc
  clear hX
  conv => arg 5; unfold mdP
  refine Walk.loadS 84 (.tmp 8) (ho_of (by conv => lhs; whnf) (by kernel_rfl)) (by rfl) (by decide) rfl E 0 [.int .i64 ok, .int .i64 oa, .int .i64 ob, .int .i64 oc] (.struct fsO) rfl hcs huO rfl (by kernel_rfl) ?_
  clear hcs
  walk_nrm
  repeat (first | refine Walk.cx ?_ | (refine Walk.cReg ?_; simp only [zB10]) | (refine Walk.oq ?_; try walk_nrm) | (refine Walk.un ?_; walk_nrm))
  refine Walk.callW (Post := NilOf ⟨false, 1, []⟩ w) ?_ (ho_of (by conv => lhs; whnf) (by kernel_rfl)) (by rfl) (by decide) rfl Try.func30 (by kernel_rfl) (by rfl) ?_
  · walk_nrm
    exact hnc
  rintro v w1 ⟨sl, rfl, ⟨ba, bc, rfl⟩, row, o1, z1⟩
  clear hnc
  have row : w1.ownsRow w.heap.size 2 1 (.slice ba 0 bc) 0 (([] : List Int).map fun z => .int .i64 z) := row
  have hlt : ∀ b, Fr b → b < w.heap.size := fun b hb => by
    obtain ⟨_, _, _, _, _, h4⟩ := I.two
    exact (h4 b hb).1
  have eE := (Array.getElem?_eq_some_iff.1 hE).1
  have hE1 := (o1 E eE).trans hE
  have T1 := I.two.on o1 z1 fun b hb => .inl hb
  have k1 : ∀ b, Fr b → w1.heap[b]? = W0.heap[b]? := fun b hb => (o1 b (hlt b hb)).trans (I.old b hb)
  have hs0 := I.size
  have hlt1 : ∀ b, Fr b → b < w1.heap.size := fun b hb => by have := hlt b hb; omega
  have eE1 : E < w1.heap.size := by omega
  have hs1 : W0.heap.size ≤ w1.heap.size := by omega
  clear I hE o1 z1 hlt hs0 eE
  simp only [ansV]
  walk_nrm
  repeat (first | refine Walk.cx ?_ | (refine Walk.cReg ?_; simp only [zB10]) | (refine Walk.oq ?_; try walk_nrm) | (refine Walk.un ?_; walk_nrm))
  (refine Walk.oa ?_; try walk_nrm)
  have s2 : (w1.alloc (.cells #[.bool false, .int .i64 0, .slice none 0 0] 81)).heap.size = w1.heap.size + 1 := by simp
  have o2 : ∀ b, b < w1.heap.size → (w1.alloc (.cells #[.bool false, .int .i64 0, .slice none 0 0] 81)).heap[b]? = w1.heap[b]? := fun b hb => heap_new_lt _ _ hb
  have d2 := heap_alloc_new w1 (.cells #[.bool false, .int .i64 0, .slice none 0 0] 81)
  obtain ⟨C, hC⟩ : ∃ C, w1.heap.size = C := ⟨_, rfl⟩
  rw [hC] at s2 o2 d2 hlt1 eE1 hs1
  try simp only [hC]
  generalize w1.alloc (.cells #[.bool false, .int .i64 0, .slice none 0 0] 81) = w2 at *
  repeat (first | refine Walk.cx ?_ | (refine Walk.cReg ?_; simp only [zB10]) | (refine Walk.oq ?_; try walk_nrm) | (refine Walk.un ?_; walk_nrm))
  refine Walk.storeS 81 (.tmp 11) (.tmp 67) (ho_of (by conv => lhs; whnf) (by kernel_rfl)) (by rfl) (by decide) rfl C #[.bool false, .int .i64 1, .slice ba 0 bc] _ 81 rfl rfl d2 (by kernel_rfl) (by rfl) (by simp [Value.oneCell']) (ap0 _) ?_
  have d3 : (w2.setRow C #[.bool false, .int .i64 1, .slice ba 0 bc]).heap[C]? = some (ansB ⟨false, 1, []⟩ (.slice ba 0 bc)) := setRow_self (cells := #[.bool false, .int .i64 1, .slice ba 0 bc]) d2
  have o3 : ∀ b, b ≠ C → (w2.setRow C #[.bool false, .int .i64 1, .slice ba 0 bc]).heap[b]? = w2.heap[b]? := fun b hb => setRow_other _ _ hb
  have s3 := setRow_size w2 C #[.bool false, .int .i64 1, .slice ba 0 bc]
  generalize w2.setRow C #[.bool false, .int .i64 1, .slice ba 0 bc] = w3 at *
  have up3 : ∀ b, b < C → w3.heap[b]? = w1.heap[b]? := fun b hb => (o3 b (by omega)).trans (o2 b hb)
  have T3 := T1.on (w' := w3) (fun b hb => up3 b (by omega)) (by omega) fun b hb => .inl hb
  have row3 := row_same row fun b hb => up3 b (by have := (row.lt b hb).2; omega)
  have hE3 := (up3 E eE1).trans hE1
  have k3 : ∀ b, Fr b → w3.heap[b]? = W0.heap[b]? := fun b hb => (up3 b (hlt1 b hb)).trans (k1 b hb)
  have hs3 : w3.heap.size = C + 1 := by omega
  have hrb : ∀ b, (Value.slice ba 0 bc).ownBlock = some b → b < C := fun b hb => by have := (row.lt b hb).2; omega
  clear T1 row hE1 k1 up3 o3 o2 s2 s3 d2 hC
  walk_nrm
  repeat (first | refine Walk.cx ?_ | (refine Walk.cReg ?_; simp only [zB10]) | (refine Walk.oq ?_; try walk_nrm) | (refine Walk.un ?_; walk_nrm))
  (refine Walk.oa ?_; try walk_nrm)
  have s4 : (w3.alloc (.cells #[.bool false, .int .i64 0, .slice none 0 0] 81)).heap.size = w3.heap.size + 1 := by simp
  have o4 : ∀ b, b < w3.heap.size → (w3.alloc (.cells #[.bool false, .int .i64 0, .slice none 0 0] 81)).heap[b]? = w3.heap[b]? := fun b hb => heap_new_lt _ _ hb
  have d4 := heap_alloc_new w3 (.cells #[.bool false, .int .i64 0, .slice none 0 0] 81)
  rw [hs3] at s4 o4 d4
  try simp only [hs3]
  have hE4 := (o4 E (by omega)).trans hE3
  generalize w3.alloc (.cells #[.bool false, .int .i64 0, .slice none 0 0] 81) = w4 at *
  clear hE3
  repeat (first | refine Walk.cx ?_ | (refine Walk.cReg ?_; simp only [zB10]) | (refine Walk.oq ?_; try walk_nrm) | (refine Walk.un ?_; walk_nrm))
  refine Walk.storeS 81 (.tmp 12) (.tmp 68) (ho_of (by conv => lhs; whnf) (by kernel_rfl)) (by rfl) (by decide) rfl (C + 1) #[.bool false, .int .i64 0, .slice none 0 0] _ 81 rfl rfl d4 (by kernel_rfl) (by rfl) (by simp [Value.oneCell']) (ap0 _) ?_
  have d5 := setRow_self (cells := #[.bool false, .int .i64 0, .slice none 0 0]) d4
  have o5 : ∀ b, b ≠ C + 1 → (w4.setRow (C + 1) #[.bool false, .int .i64 0, .slice none 0 0]).heap[b]? = w4.heap[b]? := fun b hb => setRow_other _ _ hb
  have s5 := setRow_size w4 (C + 1) #[.bool false, .int .i64 0, .slice none 0 0]
  generalize w4.setRow (C + 1) #[.bool false, .int .i64 0, .slice none 0 0] = w5 at *
  have hE5 := (o5 E (by omega)).trans hE4
  have e0 := (cell_of hE5 0).trans rfl
  have e1 := (cell_of hE5 1).trans rfl
  clear hE4 d4
  have I9 : ∀ w9 : World, (∀ b, b < C + 1 → w9.heap[b]? = w5.heap[b]?) → C + 2 ≤ w9.heap.size → (∃ sl, w9.heap[C + 1]? = some (ansB ⟨false, 1, []⟩ sl) ∧ RowL sl [] w9) → NoP Fr zb wb s ⟨false, 1, []⟩ C (C + 1) W0 w9 := fun w9 h1 h2 h3 => by
    have up : ∀ b, b < C + 1 → w9.heap[b]? = w3.heap[b]? := fun b hb => (h1 b hb).trans ((o5 b (by omega)).trans (o4 b hb))
    exact ⟨⟨_, (up C (by omega)).trans d3, ⟨_, _, rfl, by show 0 ≤ 65536; decide⟩, row_same (row_raise row3 fun _ _ => Nat.zero_le _) fun b hb => up b (by have := hrb b hb; omega)⟩, h3, T3.on (fun b hb => up b (by omega)) (by omega) fun b hb => .inl hb, fun b hb => (up b (by have := hlt1 b hb; omega)).trans (k3 b hb), by omega⟩
  clear T3 k3 row3 hrb d3 o4 o5
  walk_nrm
  repeat (first | refine Walk.cx ?_ | (refine Walk.cReg ?_; simp only [zB10]) | (refine Walk.oq ?_; try walk_nrm) | (refine Walk.un ?_; walk_nrm))
  have g5 : w5.cell? ⟨C + 1, 1, none⟩ = some (.int .i64 0) := (cell_of d5 1).trans rfl
  have y5 := frozen_of d5 1
  (have hfr := (ap0 (C + 1)).1 ⟨C + 1, 1, none⟩ rfl; refine Walk.os hfr g5 ?_; clear hfr; try walk_nrm)
  clear g5 y5
  have d6 : (w5.setCell ⟨C + 1, 1, none⟩ (.int .i64 1)).heap[C + 1]? = some (.cells #[.bool false, .int .i64 1, .slice none 0 0] 81) := by
    rw [heap_set_self _ _ d5]
    simp
  have o6 : ∀ b, b ≠ C + 1 → (w5.setCell ⟨C + 1, 1, none⟩ (.int .i64 1)).heap[b]? = w5.heap[b]? := fun b hb => heap_set_other _ _ _ _ hb
  have s6 : (w5.setCell ⟨C + 1, 1, none⟩ (.int .i64 1)).heap.size = w5.heap.size := size_set _ _ _
  generalize w5.setCell ⟨C + 1, 1, none⟩ (.int .i64 1) = w6 at *
  have I10 := I9 w6 (fun b hb => o6 b (by omega)) (by omega) ⟨.slice none 0 0, d6, ⟨_, _, rfl, by decide⟩, ⟨rfl, .inl ⟨rfl, rfl⟩⟩⟩
  clear I9 o6 s6 d6 d5
  repeat (first | refine Walk.cx ?_ | (refine Walk.cReg ?_; simp only [zB10]) | (refine Walk.oq ?_; try walk_nrm) | (refine Walk.un ?_; walk_nrm))
  generalize hQ : NoP Fr zb wb s ⟨false, 1, []⟩ C (C + 1) W0 = Q at *
  refine .stop fun d => ⟨C, C + 1, at_slots ?_, ?_⟩
  · simp only [mdQ]
    rfl
  · subst hQ
    exact I10.at d
end
end
end Go.Proofs.Ytgfajibjedfkdaa
