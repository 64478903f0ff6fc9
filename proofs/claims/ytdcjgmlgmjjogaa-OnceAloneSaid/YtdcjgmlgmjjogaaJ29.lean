/- Part 29. -/
import Derived.Test.YtdcjgmlgmjjogaaJ15
import Derived.Test.YtdcjgmlgmjjogaaJ24
import Derived.Test.YtdcjgmlgmjjogaaJ25
import Derived.Test.YtdcjgmlgmjjogaaJ28
set_option linter.unusedSimpArgs false
set_option linter.unusedVariables false
set_option maxHeartbeats 8000000
set_option maxRecDepth 100000
namespace Go.Proofs.Ytdcjgmlgmjjogaa
open Go.Conc Go.RowKit Go.Relay
open Go.ConcN (upd upd_ne upd_same)
noncomputable def hdAlo (ta : Option Addr) (n0 tc R kb lb p : Nat) (aa : Option Addr) (m ac i : Nat) (u : Nat → Value) : Frame :=
 (base 4).at { tmps := #[u 0, u 1, .bool false, .slice ta n0 tc, u 4, u 5, .pointer (some ⟨R, 0, none⟩), .pointer (some ⟨kb, 0, none⟩), .pointer (some ⟨lb, 0, none⟩), .pointer (some ⟨p, 0, none⟩), u 10, u 11, u 12, u 13, u 14, u 15, u 16, u 17, u 18, u 19, u 20, u 21, u 22, u 23, u 24, u 25, u 26, u 27, u 28, u 29, u 30, u 31, u 32, u 33, u 34, u 35, u 36, u 37, u 38, u 39, u 40, u 41, u 42, u 43, u 44, u 45, u 46, .slice aa m ac, .int .i64 m, .int .i64 i, u 50, u 51, u 52, u 53, u 54, u 55, u 56, u 57, u 58, u 59, u 60, u 61, u 62, u 63, u 64, u 65, u 66, u 67, u 68, u 69, u 70, u 71, u 72, u 73, u 74, u 75, u 76, u 77, u 78, u 79, u 80, u 81, u 82, u 83, u 84, u 85, u 86, u 87, u 88, u 89, u 90, u 91, u 92, u 93, u 94, u 95, u 96, u 97, u 98, u 99, u 100, u 101, u 102, u 103, u 104, u 105, u 106, u 107, u 108, u 109, u 110, u 111, u 112, u 113, u 114, u 115, u 116, u 117, u 118, u 119, u 120, u 121, u 122, u 123, u 124, u 125, u 126, u 127, u 128, u 129, u 130, u 131, u 132], defers := [] } [.code (.seq (.region 15 reg4_15 false) (.seq (.cond (.tmp 50 ) (.skip) (.exit 2)) (.seq (.block 3 (.seq (.region 16 reg4_16 false) (.seq (.region 17 reg4_17 true) (.seq (.region 18 reg4_18 false) (.cond (.tmp 93 ) (.seq (.region 19 reg4_19 false) (.ret)) (.skip)))))) (.region 20 reg4_20 false)))), .inLoop (.seq (.region 15 reg4_15 false) (.seq (.cond (.tmp 50 ) (.skip) (.exit 2)) (.seq (.block 3 (.seq (.region 16 reg4_16 false) (.seq (.region 17 reg4_17 true) (.seq (.region 18 reg4_18 false) (.cond (.tmp 93 ) (.seq (.region 19 reg4_19 false) (.ret)) (.skip)))))) (.region 20 reg4_20 false)))), .inBlock 2, .code (.seq (.region 21 reg4_21 false) (.seq (.region 22 reg4_22 false) (.seq (.region 23 reg4_23 true) (.ret))))]
structure AloOut (kb lb p : Nat) (S' U' : Oz) (c' : Nat) (W w : World) : Prop where
 ik : OzI kb 1 S' w
 cn : w.heap[p]? = some (.cells #[.int .i64 (c' : Nat)] 48)
 il : OzI lb 1 U' w
 old : ∀ b, b < W.heap.size → b ≠ kb → b ≠ lb → b ≠ p → w.heap[b]? = W.heap[b]?
 size : W.heap.size ≤ w.heap.size
theorem act_slots {A : Array Value} {T : (Nat → Value) → Array Value} (h : A = T (fun k => A.getD k undef)) : ∃ u, (⟨A, []⟩ : Act) = ⟨T u, []⟩ := ⟨_, congrArg (fun x => (⟨x, []⟩ : Act)) h⟩
theorem alone_do_at {main : Bool} {tb toff n0 tc R kb lb p q i : Nat} {aa : Option Addr} {m ac : Nat} {W : World} {Q : (Nat → Value) → Nat → Nat → World → Prop} {Stop : Goroutine → World → Prop} {k : List Item} {cs : List Frame} {act : Act}
  (h : ∀ (k : List Item) (cs : List Frame) (u0 : Nat → Value) {Stop : Goroutine → World → Prop}, (∀ (u : Nat → Value) (A B : Nat) (w : World), u 12 = .pointer (some ⟨A, 0, none⟩) → u 13 = .pointer (some ⟨B, 0, none⟩) → Q u A B w → Walk Try.prog main (DR (fun _ => none)) Stop (G ((base 4).at ⟨tmA tb toff n0 tc R kb lb p q i aa m ac u, []⟩ (.inRegion reg4_17 [] :: k)) cs) w) →
   Walk Try.prog main (DR (fun _ => none)) Stop (G ((base 4).at ⟨tmA tb toff n0 tc R kb lb p q i aa m ac u0, []⟩ (.code (.region 17 reg4_17 true) :: k)) cs) W)
  (he : ∃ u, act = ⟨tmA tb toff n0 tc R kb lb p q i aa m ac u, []⟩)
  (hend : ∀ (u : Nat → Value) (A B : Nat) (w : World), u 12 = .pointer (some ⟨A, 0, none⟩) → u 13 = .pointer (some ⟨B, 0, none⟩) → Q u A B w → Walk Try.prog main (DR (fun _ => none)) Stop (G ((base 4).at ⟨tmA tb toff n0 tc R kb lb p q i aa m ac u, []⟩ (.inRegion reg4_17 [] :: k)) cs) w) :
  Walk Try.prog main (DR (fun _ => none)) Stop (G ((base 4).at act (.code (.region 17 reg4_17 true) :: k)) cs) W := by
 obtain ⟨u, rfl⟩ := he
 exact h k cs u hend
theorem alone_round {main : Bool} (tb toff n0 tc R kb lb p i : Nat) (ab ao : Nat) (m ac : Nat) (S U : Oz) (c : Nat) (o : OpV) (hoS : OkZ S) (hoU : OkZ U) (hoa : o.a = ((0 : Nat) : Int)) (hi : i < n0) (hn0 : n0 ≤ 17592186044416) (him : i < m) (hm : m ≤ 65536) (W : World)
  (hk : OzI kb 1 S W) (hl : OzI lb 1 U W) (hc : W.heap[p]? = some (.cells #[.int .i64 (c : Nat)] 48)) (hfew : c ≤ 9223372036854) (hs : (oneZ 0 U o).2.2 = (oneZ c S o).2.2)
  (hne : kb ≠ lb ∧ p ≠ kb ∧ p ≠ lb) (ht : tb ≠ kb ∧ tb ≠ lb ∧ tb ≠ p)
  (o0 : W.cell? ⟨tb, toff + i * 4, none⟩ = some (.int .i64 o.k)) (o1 : W.cell? ⟨tb, toff + i * 4 + 1, none⟩ = some (.int .i64 o.a)) (o2 : W.cell? ⟨tb, toff + i * 4 + 2, none⟩ = some (.int .i64 o.b)) (o3 : W.cell? ⟨tb, toff + i * 4 + 3, none⟩ = some (.int .i64 o.c))
  (a0 : W.cell? ⟨ab, ao + i * 3, none⟩ = some (.bool (oneZ c S o).2.2.1)) (a1 : W.cell? ⟨ab, ao + i * 3 + 1, none⟩ = some (.int .i64 (oneZ c S o).2.2.2)) (a2 : W.cell? ⟨ab, ao + i * 3 + 2, none⟩ = some (.slice none 0 0))
  (cs : List Frame) (u : Nat → Value) :
  Walk Try.prog main (DR (fun _ => none)) (fun g w => (∃ u, g = G (hdAlo (some ⟨tb, toff, none⟩) n0 tc R kb lb p (some ⟨ab, ao, none⟩) m ac (i + 1) u) cs) ∧ AloOut kb lb p (oneZ c S o).2.1 (oneZ 0 U o).2.1 (oneZ c S o).1 W w) (G (hdAlo (some ⟨tb, toff, none⟩) n0 tc R kb lb p (some ⟨ab, ao, none⟩) m ac i u) cs) W := by
 obtain ⟨fsA, huA⟩ := structT 51 (by kernel_rfl)
 have hi0 : (0 : Int) ≤ i := by omega
 have hi1 : decide ((i : Int) < m) = true := by simp; omega
 have hi3 : decide (i < m) = true := by simp; omega
 have hi4 : (i : Int) < m := by omega
 have hw1 : IntKind.wrap .i64 ((i : Int) + 1) = (i : Int) + 1 := by rw [IntKind.wrap_i64]; omega
 have hcs : ∀ (y : Nat) (v : Value), ([.bool (oneZ c S o).2.2.1, .int .i64 (oneZ c S o).2.2.2, .slice none 0 0] : List Value)[y]? = some v → W.cell? ⟨ab, ao + i * 3 + y, none⟩ = some v := fun y v hv => by
  match y, hv with
  | 0, hv => cases hv; exact a0
  | 1, hv => cases hv; exact a1
  | 2, hv => cases hv; exact a2
 have hdo := fun q W1 h1 h2 h3 k0 k1 k2 k3 => alone_do (main := main) tb toff n0 tc R kb lb p q i (some ⟨ab, ao, none⟩) m ac S U c o hoS hoU hoa hi hn0 W1 h1 h2 h3 hfew hs hne ht k0 k1 k2 k3
 generalize hX : oneZ c S o = X at *
 generalize hY : oneZ 0 U o = Y at *
 obtain ⟨c', S', x⟩ := X
 clear a0 a1 a2
 unfold hdAlo
 repeat (first | refine Walk.cx ?_ | (refine Walk.cReg ?_; simp only [z4]) | (refine Walk.oq ?_; try walk_nrm) | (refine Walk.un ?_; walk_nrm))
 refine Walk.loadS 51 (.tmp 52) (ho_of (by conv => lhs; whnf) (by kernel_rfl)) (by rfl) (by decide) rfl ab (ao + i * 3) [.bool x.1, .int .i64 x.2, .slice none 0 0] (.struct fsA) rfl hcs huA rfl (by kernel_rfl) ?_
 walk_nrm
 (refine Walk.oa ?_; try walk_nrm)
 have hN := heap_alloc_new W (.cells #[.bool false, .int .i64 0, .slice none 0 0] 51)
 have hO : ∀ b, b < W.heap.size → (W.alloc (.cells #[.bool false, .int .i64 0, .slice none 0 0] 51)).heap[b]? = W.heap[b]? := fun b hb => heap_new_lt _ _ hb
 have hZ : (W.alloc (.cells #[.bool false, .int .i64 0, .slice none 0 0] 51)).heap.size = W.heap.size + 1 := by simp
 generalize hQ : W.heap.size = q at *
 generalize W.alloc (.cells #[.bool false, .int .i64 0, .slice none 0 0] 51) = w1 at *
 repeat (first | (refine Walk.oq ?_; try walk_nrm) | (refine Walk.un ?_; walk_nrm))
 refine Walk.storeS 51 (.tmp 11) (.tmp 53) (ho_of (by conv => lhs; whnf) (by kernel_rfl)) (by rfl) (by decide) rfl q #[.bool x.1, .int .i64 x.2, .slice none 0 0] _ 51 rfl rfl hN (by kernel_rfl) (by rfl) (by simp [Value.oneCell']) (ap0 _) ?_
 have hN2 := setRow_self (cells := #[.bool x.1, .int .i64 x.2, .slice none 0 0]) hN
 have hO2 : ∀ b, b < q → (w1.setRow q #[.bool x.1, .int .i64 x.2, .slice none 0 0]).heap[b]? = W.heap[b]? := fun b hb => (setRow_other _ _ (by omega)).trans (hO b hb)
 have hZ2 : (w1.setRow q #[.bool x.1, .int .i64 x.2, .slice none 0 0]).heap.size = q + 1 := by rw [setRow_size, hZ]
 clear hN hO hZ hcs
 generalize w1.setRow q #[.bool x.1, .int .i64 x.2, .slice none 0 0] = w2 at *
 have hk2 : OzI kb 1 S w2 := hk.old (hO2 kb (by have := hk.lt; omega))
 have hl2 : OzI lb 1 U w2 := hl.old (hO2 lb (by have := hl.lt; omega))
 have hc2 : w2.heap[p]? = some (.cells #[.int .i64 (c : Nat)] 48) := (hO2 p (by have := (Array.getElem?_eq_some_iff.1 hc).1; omega)).trans hc
 have hcell : ∀ {x y : Nat} {v : Value}, W.cell? ⟨x, y, none⟩ = some v → w2.cell? ⟨x, y, none⟩ = some v := fun {x y v} h => (World.cell?_of_block (a := ⟨x, y, none⟩) (hO2 x (by have := cell_lt' h; omega))).trans h
 have hd := hdo q w2 hk2 hl2 hc2 (hcell o0) (hcell o1) (hcell o2) (hcell o3)
 have l1 := hk.lt
 have l3 := hl.lt
 have l5 := (Array.getElem?_eq_some_iff.1 hc).1
 clear hdo hk hl hc hk2 hl2 hc2 hcell o0 o1 o2 o3
 walk_nrm
 repeat (first | refine Walk.cx ?_ | (refine Walk.cReg ?_; simp only [z4]) | (refine Walk.oq ?_; try walk_nrm) | (refine Walk.un ?_; walk_nrm))
 refine alone_do_at (Q := fun _ A B w => AloW kb lb p S S' U Y.2.1 c c' x w2 (fun _ => true) A B w) hd ?eq fun u A B w h11 h12 Q => ?main
 case eq => exact act_slots (by simp only [tmA]; rfl)
 case main =>
  clear hd
  have qa := (Q.a1 rfl).2
  have qb := (Q.b1 rfl).2
  simp only [if_true] at qa qb
  have hqq : w.heap[q]? = some (.cells #[.bool x.1, .int .i64 x.2, .slice none 0 0] 51) := (Q.old q (by omega) (by omega) (by omega) (by omega)).trans hN2
  have A0 : w.cell? ⟨A, 0, none⟩ = some (.bool x.1) := (cell_of qa 0).trans rfl
  have A1 : w.cell? ⟨A, 1, none⟩ = some (.int .i64 x.2) := (cell_of qa 1).trans rfl
  have B0 : w.cell? ⟨B, 0, none⟩ = some (.bool x.1) := (cell_of qb 0).trans rfl
  have B1 : w.cell? ⟨B, 1, none⟩ = some (.int .i64 x.2) := (cell_of qb 1).trans rfl
  have q0 : w.cell? ⟨q, 0, none⟩ = some (.bool x.1) := (cell_of hqq 0).trans rfl
  have q1 : w.cell? ⟨q, 1, none⟩ = some (.int .i64 x.2) := (cell_of hqq 1).trans rfl
  have b0 : (x.1 != x.1) = false := by simp
  have b1 : (x.2 != x.2) = false := by simp
  have nB := run_neqB (P := Try.prog) 4 und4B
  have nE := ev_neqB (P := Try.prog) 4 und4B
  have r1 := Q.ik
  have r2 := Q.cn
  have r3 := Q.il
  have r4 := Q.old
  have r5 := Q.size
  simp only [if_true] at r1 r2 r3
  clear Q qa qb hqq hN2
  simp only [tmA, h11, h12]
  repeat (first | refine Walk.cx ?_ | (refine Walk.cReg ?_; simp only [z4]) | (refine Walk.oq ?_; try walk_nrm) | (refine Walk.un ?_; walk_nrm))
  refine Walk.ctl rfl (fun w => stepG_inLoop) ?_
  refine .stop fun d => ⟨at_slots ?_, r1.old rfl, r2, r3.old rfl, fun b hb n1 n3 n5 => (r4 b (by omega) n1 n3 n5).trans (hO2 b (by omega)), by show W.heap.size ≤ w.heap.size; omega⟩
  have hcc : ((i + 1 : Nat) : Int) = (i : Int) + 1 := by simp
  simp only [hdAlo, hcc]
  rfl
theorem Whole.stop {L : La} {N c c2 : Nat} {s s2 : L.Sg} {az az2 : List Ans} (h : Whole L N c s [] az c2 s2 az2) : c2 = c ∧ s2 = s ∧ az2 = az := by
 cases h
 exact ⟨rfl, rfl, rfl⟩
theorem AloOut.trans {kb lb p : Nat} {S U S' U' : Oz} {c c' : Nat} {W w w' : World} (h : AloOut kb lb p S U c W w) (k : AloOut kb lb p S' U' c' w w') : AloOut kb lb p S' U' c' W w' :=
 ⟨k.ik, k.cn, k.il, fun b hb h1 h3 h5 => (k.old b (Nat.lt_of_lt_of_le hb h.size) h1 h3 h5).trans (h.old b hb h1 h3 h5), Nat.le_trans h.size k.size⟩
theorem alone_loop {main : Bool} (ta : Option Addr) (tb toff n0 tc R kb lb p : Nat) (aa : Option Addr) (ab ao m ac : Nat) (ops : List OpV) (az2 : List Ans) (c2 : Nat) (S2 : Oz) (hz : ∀ o ∈ ops, o.a = 0) (hn0 : n0 ≤ 17592186044416) (hm : m = ops.length) (hm0 : m ≤ n0) (hm6 : m ≤ 65536)
  (hta : 0 < m → ta = some ⟨tb, toff, none⟩) (haa : 0 < m → aa = some ⟨ab, ao, none⟩)
  (hne : kb ≠ lb ∧ p ≠ kb ∧ p ≠ lb) (W : World)
  (ht : 0 < m → tb ≠ kb ∧ tb ≠ lb ∧ tb ≠ p) (hb : 0 < m → ab ≠ kb ∧ ab ≠ lb ∧ ab ≠ p)
  (hop : ∀ (j : Nat) (o : OpV), ops[j]? = some o → W.cell? ⟨tb, toff + j * 4, none⟩ = some (.int .i64 o.k) ∧ W.cell? ⟨tb, toff + j * 4 + 1, none⟩ = some (.int .i64 o.a) ∧ W.cell? ⟨tb, toff + j * 4 + 2, none⟩ = some (.int .i64 o.b) ∧ W.cell? ⟨tb, toff + j * 4 + 3, none⟩ = some (.int .i64 o.c))
  (han : ∀ (j : Nat) (x : Ans), az2[j]? = some x → W.cell? ⟨ab, ao + j * 3, none⟩ = some (.bool x.1) ∧ W.cell? ⟨ab, ao + j * 3 + 1, none⟩ = some (.int .i64 x.2) ∧ W.cell? ⟨ab, ao + j * 3 + 2, none⟩ = some (.slice none 0 0))
  (cs : List Frame) : ∀ (r i : Nat) (S : Oz) (c : Nat) (az : List Ans) (u : Nat → Value) (w : World), i + r = m → Whole (onLa kb 1) 7 c S (ops.drop i) az c2 S2 az2 → az.length = i → c ≤ i * 8 → OkZ S → AloOut kb lb p S S c W w →
  Walk Try.prog main (DR (fun _ => none)) (fun g w' => (∃ u, g = G (hdAlo ta n0 tc R kb lb p aa m ac m u) cs) ∧ AloOut kb lb p S2 S2 c2 W w') (G (hdAlo ta n0 tc R kb lb p aa m ac i u) cs) w := by
 intro r
 induction r with
 | zero =>
  intro i S c az u w hi H _ _ hs hO
  obtain rfl : i = m := hi
  have hd : ops.drop i = [] := by rw [hm]; exact List.drop_length
  rw [hd] at H
  obtain ⟨rfl, e, _⟩ := Whole.stop (L := onLa kb 1) H
  have e : S2 = S := e
  subst e
  exact .stop fun d => ⟨⟨u, rfl⟩, ⟨hO.ik.old rfl, hO.cn, hO.il.old rfl, hO.old, hO.size⟩⟩
 | succ r ih =>
  intro i S c az u w hi H hl hc hs hO
  have him : i < m := by omega
  have hio : i < ops.length := by omega
  have hd : ops.drop i = ops[i] :: ops.drop (i + 1) := List.drop_eq_getElem_cons hio
  have hget : ops[i]? = some ops[i] := List.getElem?_eq_getElem hio
  have hoa : (ops[i]).a = 0 := hz _ (List.getElem_mem hio)
  generalize ops[i] = o at hd hget hoa
  rw [hd] at H
  have H2 := whole_cons H hs hoa
  obtain ⟨t, e2, _⟩ := Whole.more (L := onLa kb 1) H2
  have hx : az2[i]? = some (oneZ c S o).2.2 := by
   rw [e2, List.append_assoc, List.getElem?_append_right (by omega), hl, Nat.sub_self]
   rfl
  have hq : (oneZ 0 S o).2.2 = (oneZ c S o).2.2 ∧ (oneZ 0 S o).2.1 = (oneZ c S o).2.1 := by
   unfold oneZ
   constructor
   ·split
    ·split <;> rfl
    split
    ·split <;> rfl
    split
    ·split <;> rfl
    split
    ·split <;> rfl
    ·rfl
   ·split
    ·split <;> rfl
    split
    ·split <;> rfl
    split
    ·split <;> rfl
    split
    ·split <;> rfl
    ·rfl
  have hs2 : OkZ (oneZ c S o).2.1 := oneZ_ok hs
  obtain rfl := hta (by omega)
  obtain rfl := haa (by omega)
  obtain ⟨t1, t3, t5⟩ := ht (by omega)
  obtain ⟨b1, b3, b5⟩ := hb (by omega)
  have hT : ∀ {y : Nat} {v : Value}, W.cell? ⟨tb, y, none⟩ = some v → w.cell? ⟨tb, y, none⟩ = some v := fun {y v} h => (World.cell?_of_block (a := ⟨tb, y, none⟩) (hO.old tb (cell_lt' h) t1 t3 t5)).trans h
  have hB : ∀ {y : Nat} {v : Value}, W.cell? ⟨ab, y, none⟩ = some v → w.cell? ⟨ab, y, none⟩ = some v := fun {y v} h => (World.cell?_of_block (a := ⟨ab, y, none⟩) (hO.old ab (cell_lt' h) b1 b3 b5)).trans h
  obtain ⟨o0, o1, o2, o3⟩ := hop i o hget
  obtain ⟨x0, x1, x2⟩ := han i _ hx
  have hcn := (oneZ_cnt c S o).1
  refine (alone_round tb toff n0 tc R kb lb p i ab ao m ac S S c o hs hs hoa (by omega) hn0 him hm6 w hO.ik hO.il hO.cn (by omega) hq.1 hne ⟨t1, t3, t5⟩ (hT o0) (hT o1) (hT o2) (hT o3) (hB x0) (hB x1) (hB x2) cs u).then ?_
  rintro g w' ⟨⟨u', rfl⟩, hO'⟩
  rw [hq.2] at hO'
  exact ih (i + 1) _ _ (az ++ [(oneZ c S o).2.2]) u' w' (by omega) H2 (by simp [hl]) (by omega) hs2 (hO.trans hO')
section
noncomputable def reg32_0 := rg Try.f32.body [0]
noncomputable def reg32_1 := rg Try.f32.body [1, 0]
noncomputable def reg32_2 := rg Try.f32.body [1, 1, 0, 0]
noncomputable def reg32_3 := rg Try.f32.body [1, 1, 0, 1, 0, 0, 0, 0]
noncomputable def reg32_5 := rg Try.f32.body [1, 1, 0, 1, 0, 0, 1, 0, 0, 0]
noncomputable def reg32_6 := rg Try.f32.body [1, 1, 0, 1, 0, 0, 1, 0, 0, 1, 0, 0]
noncomputable def reg32_7 := rg Try.f32.body [1, 1, 0, 1, 0, 0, 1, 0, 0, 1, 0, 1, 0, 0, 0, 0]
noncomputable def reg32_9 := rg Try.f32.body [1, 1, 0, 1, 0, 0, 1, 0, 0, 1, 0, 1, 0, 0, 1, 0, 0]
theorem size32_9 : reg32_9.size = 17 := by kernel_rfl
noncomputable def reg32_8 := rg Try.f32.body [1, 1, 0, 1, 0, 0, 1, 0, 0, 1, 0, 1, 0, 0, 1, 1]
noncomputable def reg32_10 := rg Try.f32.body [1, 1, 0, 1, 0, 0, 1, 0, 0, 1, 1]
noncomputable def reg32_4 := rg Try.f32.body [1, 1, 0, 1, 0, 0, 1, 1]
noncomputable def reg32_11 := rg Try.f32.body [1, 1, 1, 0]
theorem z32 : List.range reg32_0.size = [0] ∧ List.range reg32_1.size = [0] ∧ List.range reg32_2.size = [0] ∧ List.range reg32_3.size = [0, 1, 2, 3, 4, 5, 6, 7] ∧ List.range reg32_4.size = [0, 1, 2] ∧ List.range reg32_5.size = [0, 1, 2] ∧ List.range reg32_6.size = [0] ∧ List.range reg32_7.size = [0, 1, 2, 3, 4, 5, 6, 7, 8, 9, 10] ∧ List.range reg32_8.size = [0, 1, 2] ∧ List.range reg32_9.size = [0, 1, 2, 3, 4, 5, 6, 7, 8, 9, 10, 11, 12, 13, 14, 15, 16] ∧ List.range reg32_10.size = [0, 1, 2, 3, 4] ∧ List.range reg32_11.size = [0, 1] := by refine ⟨?_, ?_, ?_, ?_, ?_, ?_, ?_, ?_, ?_, ?_, ?_, ?_⟩ <;> kernel_rfl
theorem code32_is : Try.f32.body = some (.seq (.region 0 reg32_0 false) (.seq (.region 1 reg32_1 false) (.seq (.seq (.region 2 reg32_2 false) (.block 0 (.loop (.seq (.seq (.region 3 reg32_3 false) (.cond (.tmp 14 ) (.skip) (.exit 0))) (.seq (.block 1 (.seq (.region 5 reg32_5 false) (.seq (.seq (.region 6 reg32_6 false) (.block 2 (.loop (.seq (.seq (.region 7 reg32_7 false) (.cond (.tmp 29 ) (.skip) (.exit 2))) (.seq (.block 3 (.region 9 reg32_9 true)) (.region 8 reg32_8 false)))))) (.region 10 reg32_10 false)))) (.region 4 reg32_4 false)))))) (.seq (.region 11 reg32_11 false) (.ret))))) := by kernel_rfl
noncomputable def hdT0 (tv ov : Value) (i : Nat) (u : Nat → Value) : Frame :=
 (base 32).at { tmps := #[tv, u 1, u 2, ov, .int .i64 i, u 5, u 6, u 7, u 8, u 9, u 10, u 11, u 12, u 13, u 14, u 15, u 16, u 17, u 18, u 19, u 20, u 21, u 22, u 23, u 24, u 25, u 26, u 27, u 28, u 29, u 30, u 31, u 32, u 33, u 34, u 35, u 36, u 37, u 38, u 39, u 40, u 41, u 42, u 43, u 44, u 45, u 46, u 47, u 48, u 49, u 50, u 51, u 52], defers := [] } [.code (.seq (.seq (.region 3 reg32_3 false) (.cond (.tmp 14 ) (.skip) (.exit 0))) (.seq (.block 1 (.seq (.region 5 reg32_5 false) (.seq (.seq (.region 6 reg32_6 false) (.block 2 (.loop (.seq (.seq (.region 7 reg32_7 false) (.cond (.tmp 29 ) (.skip) (.exit 2))) (.seq (.block 3 (.region 9 reg32_9 true)) (.region 8 reg32_8 false)))))) (.region 10 reg32_10 false)))) (.region 4 reg32_4 false))), .inLoop (.seq (.seq (.region 3 reg32_3 false) (.cond (.tmp 14 ) (.skip) (.exit 0))) (.seq (.block 1 (.seq (.region 5 reg32_5 false) (.seq (.seq (.region 6 reg32_6 false) (.block 2 (.loop (.seq (.seq (.region 7 reg32_7 false) (.cond (.tmp 29 ) (.skip) (.exit 2))) (.seq (.block 3 (.region 9 reg32_9 true)) (.region 8 reg32_8 false)))))) (.region 10 reg32_10 false)))) (.region 4 reg32_4 false))), .inBlock 0, .code (.seq (.region 11 reg32_11 false) (.ret))]
noncomputable def hdT1 (tv ov : Value) (i b k : Nat) (u : Nat → Value) : Frame :=
 (base 32).at { tmps := #[tv, u 1, u 2, ov, .int .i64 i, .pointer (some ⟨b, 0, none⟩), .int .i64 k, u 7, u 8, u 9, u 10, u 11, u 12, u 13, u 14, u 15, u 16, u 17, u 18, u 19, u 20, u 21, u 22, u 23, u 24, u 25, u 26, u 27, u 28, u 29, u 30, u 31, u 32, u 33, u 34, u 35, u 36, u 37, u 38, u 39, u 40, u 41, u 42, u 43, u 44, u 45, u 46, u 47, u 48, u 49, u 50, u 51, u 52], defers := [] } [.code (.seq (.seq (.region 7 reg32_7 false) (.cond (.tmp 29 ) (.skip) (.exit 2))) (.seq (.block 3 (.region 9 reg32_9 true)) (.region 8 reg32_8 false))), .inLoop (.seq (.seq (.region 7 reg32_7 false) (.cond (.tmp 29 ) (.skip) (.exit 2))) (.seq (.block 3 (.region 9 reg32_9 true)) (.region 8 reg32_8 false))), .inBlock 2, .code (.region 10 reg32_10 false), .inBlock 1, .code (.region 4 reg32_4 false), .inLoop (.seq (.seq (.region 3 reg32_3 false) (.cond (.tmp 14 ) (.skip) (.exit 0))) (.seq (.block 1 (.seq (.region 5 reg32_5 false) (.seq (.seq (.region 6 reg32_6 false) (.block 2 (.loop (.seq (.seq (.region 7 reg32_7 false) (.cond (.tmp 29 ) (.skip) (.exit 2))) (.seq (.block 3 (.region 9 reg32_9 true)) (.region 8 reg32_8 false)))))) (.region 10 reg32_10 false)))) (.region 4 reg32_4 false))), .inBlock 0, .code (.seq (.region 11 reg32_11 false) (.ret))]
def ptrRow (ts : Nat → Nat) (n : Nat) : List Value := (List.range n).map fun j => .pointer (some ⟨ts j, 0, none⟩)
theorem ptrRow_snoc (ts : Nat → Nat) (n : Nat) : ptrRow ts (n + 1) = ptrRow ts n ++ [.pointer (some ⟨ts n, 0, none⟩)] := by simp [ptrRow, List.range_succ]
theorem ptrRow_congr {ts ts' : Nat → Nat} {n : Nat} (h : ∀ j, j < n → ts' j = ts j) : ptrRow ts' n = ptrRow ts n := List.map_congr_left fun j hj => by rw [h j (List.mem_range.1 hj)]
theorem ptrRow_get {ts : Nat → Nat} {n j : Nat} (hj : j < n) : (ptrRow ts n)[j]? = some (.pointer (some ⟨ts j, 0, none⟩)) := by simp [ptrRow, hj]
def thZ : Array Value := thA (.slice none 0 0) 0 0 (fun _ => 0) (.slice none 0 0) (.slice none 0 0) false
section
variable {main : Bool}
theorem thr_in (tv : Value) (cs : List Frame) (w : World) :
  Walk Try.prog main (DR (fun _ => none)) (fun g w' => (∃ u, g = G (hdT0 tv (.slice none 0 0) 0 u) cs) ∧ ∃ d, w' = w.at d) (G (Frame.enter Try.prog 32 #[tv] .normal) cs) w := by
 rw [enter_at _ Try.func32 code32_is]
 simp only [Try.ntmps32, ez, Nat.reduceAdd, Nat.reduceSub]
 repeat (first | refine Walk.cx ?_ | (refine Walk.cReg ?_; simp only [z32]) | (refine Walk.oq ?_; try walk_nrm) | (refine Walk.un ?_; walk_nrm))
 refine Walk.ctl rfl (fun w => stepG_loop) ?_
 refine .stop fun d => ⟨at_slots ?_, d, rfl⟩
 simp only [hdT0]
 rfl
theorem thr_make (ta : Option Addr) (n0 tc i : Nat) (ov : Value) (u : Nat → Value) (cs : List Frame) (w : World) (h0 : i < n0) (h64 : i < 64) :
  Walk Try.prog main (DR (fun _ => none)) (fun g w' => (∃ u, g = G (hdT1 (.slice ta n0 tc) ov i w.heap.size 0 u) cs) ∧ ∃ d, w' = (w.alloc (.cells thZ 158)).at d) (G (hdT0 (.slice ta n0 tc) ov i u) cs) w := by
 have h1 : ((i : Int) < 64) := by omega
 conv => arg 5; unfold hdT0
 repeat (first | refine Walk.cx ?_ | (refine Walk.cReg ?_; simp only [z32]) | (refine Walk.oq ?_; try walk_nrm) | (refine Walk.un ?_; walk_nrm))
 (refine Walk.oa ?_; try walk_nrm)
 repeat (first | refine Walk.cx ?_ | (refine Walk.cReg ?_; simp only [z32]) | (refine Walk.oq ?_; try walk_nrm) | (refine Walk.un ?_; walk_nrm))
 refine Walk.ctl rfl (fun w => stepG_loop) ?_
 refine .stop fun d => ⟨at_slots ?_, d, rfl⟩
 simp only [hdT1]
 rfl
theorem thr_end (ta : Option Addr) (n0 tc i : Nat) (ov : Value) (u : Nat → Value) (c : Frame) (cs : List Frame) (w : World) (h : i = min n0 64) :
  Walk Try.prog main (DR (fun _ => none)) (fun g w' => g = G (c.finish ov) cs ∧ ∃ d, w' = w.at d) (G (hdT0 (.slice ta n0 tc) ov i u) (c :: cs)) w := by
 have hh : (i = n0 ∨ i = 64) ∧ i ≤ n0 ∧ i ≤ 64 := by omega
 clear h
 unfold hdT0
 by_cases h0 : i < n0
 ·have h1 : decide ((i : Int) < 64) = false := by simp; omega
  have h1' : decide (i < 64) = false := by simp; omega
  repeat (first | refine Walk.cx ?_ | (refine Walk.cReg ?_; simp only [z32]) | (refine Walk.oq ?_; try walk_nrm) | (refine Walk.un ?_; walk_nrm))
  exact Walk.on1 rfl rfl Try.func32 rfl (.stop fun d => ⟨rfl, d, rfl⟩)
 ·have h2 : decide (i < n0) = false := by simp; omega
  have h3 : decide ((i : Int) < n0) = false := by simp; omega
  repeat (first | refine Walk.cx ?_ | (refine Walk.cReg ?_; simp only [z32]) | (refine Walk.oq ?_; try walk_nrm) | (refine Walk.un ?_; walk_nrm))
  exact Walk.on1 rfl rfl Try.func32 rfl (.stop fun d => ⟨rfl, d, rfl⟩)
structure AppT (w : World) (ok o1 o2 o3 : Int) (oa : Option Addr) (l : List OpV) (oc : Nat) (g cap : Nat) (w3 : World) : Prop where
 own : w3.ownsRow 0 34 4 (.slice (some ⟨g, 0, none⟩) (l.length + 1) cap) (l.length + 1) (opRow l ++ [.int .i64 ok, .int .i64 o1, .int .i64 o2, .int .i64 o3])
 grown : (w.alloc (.cells #[.int .i64 ok, .int .i64 o1, .int .i64 o2, .int .i64 o3] 34)).grownBy w3 (Value.slice oa l.length oc).ownBlock
 hat : (Value.slice oa l.length oc).ownBlock = some g ∨ g = (w.alloc (.cells #[.int .i64 ok, .int .i64 o1, .int .i64 o2, .int .i64 o3] 34)).heap.size
 hlt : g < w3.heap.size
theorem thr_op (tb toff n0 tc i b k ln lc : Nat) (ia : Option Addr) (ov : Value) (o : OpV) (l : List OpV) (oa : Option Addr) (oc : Nat) (u : Nat → Value) (cs : List Frame) (a : Nat) (w : World) (h0 : i < n0) (hk : k < ln) (hk6 : k < 65536) (hl : l.length = k) (X : ThX (fun g => a ≤ g) b l oa oc 0 0 (fun _ => 0) [] none 0 false w) (ha : a ≤ w.heap.size)
  (h1 : w.cell? ⟨tb, toff + i, none⟩ = some (.slice ia ln lc)) (htb : tb < a) (h2 : ∃ ob off, ia = some ⟨ob, off, none⟩ ∧ ob < a ∧ ∀ (j : Nat) (v : Value), ([.int .i64 o.k, .int .i64 o.a, .int .i64 o.b, .int .i64 o.c] : List Value)[j]? = some v → w.cell? ⟨ob, off + k * 4 + j, none⟩ = some v) :
  Walk Try.prog main (DR (fun _ => none)) (fun g w' => (∃ u, g = G (hdT1 (.slice (some ⟨tb, toff, none⟩) n0 tc) ov i b (k + 1) u) cs) ∧ ∃ oa' oc', ThX (fun g => a ≤ g) b (l ++ [o]) oa' oc' 0 0 (fun _ => 0) [] none 0 false w' ∧ Chg (fun g => a ≤ g) w w') (G (hdT1 (.slice (some ⟨tb, toff, none⟩) n0 tc) ov i b k u) cs) w := by
 obtain ⟨fsO, huO⟩ := structT 34 (by kernel_rfl)
 obtain ⟨ob, off, rfl, hob, h2⟩ := h2
 have hbl := X.lt
 have hbS : a ≤ b := X.sb
 have hw1 : IntKind.wrap .i64 ((k : Int) + 1) = (k : Int) + 1 := by rw [IntKind.wrap_i64]; omega
 have hk7 : ((k : Int) < 65536) := by omega
 have hb0 := X.blk
 have c0 : w.cell? ⟨b, 0, none⟩ = some (.slice oa l.length oc) := tcO hb0
 obtain ⟨ok, o1, o2, o3⟩ := o
 dsimp only at h2
 have hown' : (w.alloc (.cells #[.int .i64 ok, .int .i64 o1, .int .i64 o2, .int .i64 o3] 34)).ownsRow 0 34 4 (.slice oa l.length oc) l.length (opRow l) := row_same X.rO fun g hg => heap_new_lt _ _ (X.rO.lt g hg).2
 have hnews : ∀ (j : Nat) (v : Value), ([.int .i64 ok, .int .i64 o1, .int .i64 o2, .int .i64 o3] : List Value)[j]? = some v → (w.alloc (.cells #[.int .i64 ok, .int .i64 o1, .int .i64 o2, .int .i64 o3] 34)).cell? ((⟨w.heap.size, 0, none⟩ : Addr).add j) = some v := fun j v hv => by
  rw [add_none, Nat.zero_add]
  refine (cell_of (heap_alloc_new _ _) j).trans ?_
  simpa using hv
 have hsz1 : w.heap.size + 1 ≤ (w.alloc (.cells #[.int .i64 ok, .int .i64 o1, .int .i64 o2, .int .i64 o3] 34)).heap.size ∧ (w.alloc (.cells #[.int .i64 ok, .int .i64 o1, .int .i64 o2, .int .i64 o3] 34)).heap.size ≤ w.heap.size + 1 := by simp
 have hnb : ∀ g, (Value.slice oa l.length oc).ownBlock = some g → g ≠ b := fun g hg => (X.so g hg).2
 have hfar : ∀ (x : Nat) (w2 : World), x < w.heap.size → (∀ g, (Value.slice oa l.length oc).ownBlock = some g → g ≠ x) → (w.alloc (.cells #[.int .i64 ok, .int .i64 o1, .int .i64 o2, .int .i64 o3] 34)).grownBy w2 (Value.slice oa l.length oc).ownBlock → w2.heap[x]? = w.heap[x]? := fun x w2 hx hne hg => (hg.block x (by omega) (fun e => hne x e.symm rfl)).trans (heap_new_lt _ _ hx)
 have hna : ∀ x, x < a → ∀ g, (Value.slice oa l.length oc).ownBlock = some g → g ≠ x := fun x hx g hg => by have : a ≤ g := (X.so g hg).1; omega
 have htbw : tb < w.heap.size := by omega
 have hobw : ob < w.heap.size := by omega
 conv => arg 5; unfold hdT1
 subst hl
 repeat (first | refine Walk.cx ?_ | (refine Walk.cReg ?_; simp only [z32]) | (refine Walk.oq ?_; try walk_nrm) | (refine Walk.un ?_; walk_nrm))
 refine Walk.drawnT (iA := 12) (iB := 13) (w1 := w.alloc (.cells #[.int .i64 ok, .int .i64 o1, .int .i64 o2, .int .i64 o3] 34)) (vA := .slice (some ⟨w.heap.size, 0, none⟩) 1 1) (Z := fun x => x.cell? ⟨b, 0, none⟩ = some (.slice oa l.length oc) ∧ x.cell? ⟨tb, toff + i, none⟩ = some (.slice (some ⟨ob, off, none⟩) ln lc) ∧ x.heap[ob]? = w.heap[ob]?)
  (fun v w2 => ∃ g cap, v = .slice (some ⟨g, 0, none⟩) (l.length + 1) cap ∧ AppT w ok o1 o2 o3 oa l oc g cap w2) (by kernel_rfl) size32_9 (by kernel_rfl) (by kernel_rfl) (by kernel_rfl) (by kernel_rfl) (by decide) (ho_of (by conv => lhs; whnf) (by kernel_rfl)) (ho_of (by conv => lhs; whnf) (by kernel_rfl)) ⟨c0, h1, rfl⟩ ⟨cell_alloc _ _ c0, cell_alloc _ _ h1, heap_new_lt _ _ hobw⟩ ?_ ?_
 ·rintro v w2 ⟨g, cap, _, hA⟩
  exact ⟨(World.cell?_of_block (a := ⟨b, 0, none⟩) (hfar b w2 hbl hnb hA.grown)).trans c0, (World.cell?_of_block (a := ⟨tb, toff + i, none⟩) (hfar tb w2 htbw (hna tb htb) hA.grown)).trans h1, hfar ob w2 hobw (hna ob hob) hA.grown⟩
 rw [show List.filter (quietQ 12 13) (List.range 16) = [0, 1, 2, 3, 4, 5, 6, 7, 8, 9, 10, 11, 14, 15] from by decide]
 repeat (first | (refine Cm.opqZ (ho_of (by conv => lhs; whnf) (by kernel_rfl)) (by rfl) (fun wz hz dd e he => ?_) ?_; (· (obtain ⟨z1, z2, z3⟩ := hz; simp [go_sem, *] at he; try (subst he; exact evR_read _ _))); apply Exists.intro; apply And.intro; (· (intro wz hz dd K hK; obtain ⟨z1, z2, z3⟩ := hz; go_simp; exact hK))) | (refine Cm.unw (ho_of (by conv => lhs; whnf) (by kernel_rfl)) (by rfl) ?_; walk_nrm))
 refine Cm.loadS 34 (.tmp 42) (ho_of (by conv => lhs; whnf) (by kernel_rfl)) (by rfl) rfl ob (off + l.length * 4) [.int .i64 ok, .int .i64 o1, .int .i64 o2, .int .i64 o3] (.struct fsO) rfl (fun x hx j v hv => (World.cell?_of_block (a := ⟨ob, off + l.length * 4 + j, none⟩) hx.2.2).trans (h2 j v hv)) huO rfl (by kernel_rfl) ?_
 walk_nrm
 repeat (first | (refine Cm.opqZ (ho_of (by conv => lhs; whnf) (by kernel_rfl)) (by rfl) (fun wz hz dd e he => ?_) ?_; (· (obtain ⟨z1, z2, z3⟩ := hz; simp [go_sem, *] at he; try (subst he; exact evR_read _ _))); apply Exists.intro; apply And.intro; (· (intro wz hz dd K hK; obtain ⟨z1, z2, z3⟩ := hz; go_simp; exact hK))) | (refine Cm.unw (ho_of (by conv => lhs; whnf) (by kernel_rfl)) (by rfl) ?_; walk_nrm))
 refine Cm.done ⟨?_, ?_, ?_⟩
 ·intro x hev rest hr'
  have e1 : x.tmps[43]?.getD undef = .agg #[.int .i64 ok, .int .i64 o1, .int .i64 o2, .int .i64 o3] := by simpa [Act.eval] using hev (.tmp 43) (by simp [Op.operands])
  clear hev
  (refine Walk.oa ?_; try walk_nrm)
  exact hr' _ _ ⟨rfl, _, rfl⟩
 ·intro x hev rest hr'
  have e1 : x.eval (.tmp 36) = .slice oa l.length oc := by simpa [Act.eval] using hev (.tmp 36) (by simp [Op.operands, Call.operands])
  have e2 : x.eval (.tmp 44) = .slice (some ⟨w.heap.size, 0, none⟩) 1 1 := by simpa [Act.eval] using hev (.tmp 44) (by simp [Op.operands, Call.operands])
  have hiA := Option.some_get (show (Try.prog.info? 34).isSome = true by kernel_rfl)
  refine Walk.append (.tmp 36) (.tmp 44) 32 (ho_of (by conv => lhs; whnf) (by kernel_rfl)) (by rfl) (by decide) rfl 0 34 _ (.agg #[.int .i64 0, .int .i64 0, .int .i64 0, .int .i64 0]) 4 32 (by kernel_rfl) hiA.symm (by rfl) (by rfl) (by rfl) (by rfl) (by decide) (.slice oa l.length oc) l.length (opRow l) e1 hown' ⟨w.heap.size, 0, none⟩ 1 1 [.int .i64 ok, .int .i64 o1, .int .i64 o2, .int .i64 o3] e2 (by rfl) hnews (by simp [Value.oneCell']) (by decide) (by simp [maxLen]; omega) (by omega) (Nat.zero_le _) (fun g _ => ap0 g) (fun g cap w3 hown hg hat hlt => ?_)
  exact hr' _ _ ⟨_, w3, ⟨g, cap, rfl, hown, hg, hat, hlt⟩, rfl, w3.drawn, rfl⟩
 rintro v w2 ⟨g, cap, rfl, hA⟩ rest hr'
 have hb2 : w2.heap[b]? = w.heap[b]? := hfar b w2 hbl hnb hA.grown
 have k0 : w2.cell? ⟨b, 0, none⟩ = some (.slice oa l.length oc) := (World.cell?_of_block (a := ⟨b, 0, none⟩) hb2).trans c0
 have z0 : w2.frozen? ⟨b, 0, none⟩ = false := frozen_of (hb2.trans hb0) 0
 (have hfr := fr0 b 0; refine Walk.os hfr k0 ?_; clear hfr; try walk_nrm)
 refine hr' _ _ ?_
 have hgs := hA.grown.size
 have hgb : g ≠ b := fun e => by
  rcases hA.hat with h | h
  ·exact hnb g h e
  ·omega
 have hfin : ThX (fun g => a ≤ g) b (l ++ [⟨ok, o1, o2, o3⟩]) (some ⟨g, 0, none⟩) cap 0 0 (fun _ => 0) [] none 0 false (w2.setCell ⟨b, 0, none⟩ (.slice (some ⟨g, 0, none⟩) (l.length + 1) cap)) := by
  have hlen : (l ++ [(⟨ok, o1, o2, o3⟩ : OpV)]).length = l.length + 1 := by simp
  refine ⟨?_, ?_, rowNil _ _ _ _, hbS, fun x hx => ?_, fun x hx => by simp [Value.ownBlock] at hx⟩
  ·rw [hlen, heap_set_self _ _ (hb2.trans hb0), thA_O]
  ·rw [hlen, opRow_snoc]
   exact row_same hA.own fun x hx => heap_set_other _ _ _ _ (by
    simp only [Value.ownBlock, Option.some.injEq] at hx
    show x ≠ b
    omega)
  ·simp only [Value.ownBlock, Option.some.injEq] at hx
   subst hx
   refine ⟨?_, hgb⟩
   rcases hA.hat with h | h
   ·exact (X.so g h).1
   ·show a ≤ g
    omega
 have hC : Chg (fun g => a ≤ g) w (w2.setCell ⟨b, 0, none⟩ (.slice (some ⟨g, 0, none⟩) (l.length + 1) cap)) := by
  refine ⟨by rw [size_set]; omega, fun x hx hn => ?_⟩
  have hn : ¬ a ≤ x := hn
  rw [heap_set_other _ _ _ _ (show x ≠ b by omega)]
  exact hfar x w2 hx (hna x (by omega)) hA.grown
 generalize w2.setCell ⟨b, 0, none⟩ (.slice (some ⟨g, 0, none⟩) (l.length + 1) cap) = w3 at *
 walk_nrm
 repeat (first | refine Walk.cx ?_ | (refine Walk.cReg ?_; simp only [z32]) | (refine Walk.oq ?_; try walk_nrm) | (refine Walk.un ?_; walk_nrm))
 refine Walk.ctl rfl (fun w => stepG_inLoop) ?_
 refine .stop fun d => ⟨at_slots ?_, _, _, hfin.at d, hC.at d⟩
 have hc : ((l.length + 1 : Nat) : Int) = (l.length : Int) + 1 := by simp
 simp only [hdT1, hc]
 rfl
theorem thr_next (tb toff n0 tc i b k ln lc : Nat) (ia la : Option Addr) (pc : Nat) (ts : Nat → Nat) (u : Nat → Value) (cs : List Frame) (a : Nat) (w : World) (h0 : i < n0) (h64 : i < 64) (hk : k = min ln 65536)
  (h1 : w.cell? ⟨tb, toff + i, none⟩ = some (.slice ia ln lc)) (hrow : w.ownsRow a 106 1 (.slice la i pc) i (ptrRow ts i)) (ha : a ≤ w.heap.size) :
  Walk Try.prog main (DR (fun _ => none)) (fun g' w' => ∃ g cap, (∃ u, g' = G (hdT0 (.slice (some ⟨tb, toff, none⟩) n0 tc) (.slice (some ⟨g, 0, none⟩) (i + 1) cap) (i + 1) u) cs) ∧ w'.ownsRow a 106 1 (.slice (some ⟨g, 0, none⟩) (i + 1) cap) (i + 1) (ptrRow ts i ++ [.pointer (some ⟨b, 0, none⟩)]) ∧ Chg (fun x => (Value.slice la i pc).ownBlock = some x) w w' ∧ ((Value.slice la i pc).ownBlock = some g ∨ w.heap.size ≤ g))
   (G (hdT1 (.slice (some ⟨tb, toff, none⟩) n0 tc) (.slice la i pc) i b k u) cs) w := by
 have hw1 : IntKind.wrap .i64 ((i : Int) + 1) = (i : Int) + 1 := by rw [IntKind.wrap_i64]; omega
 have hiP := Option.some_get (show (Try.prog.info? 106).isSome = true by kernel_rfl)
 have hsz1 : (w.alloc (.cells #[.pointer (some ⟨b, 0, none⟩)] 106)).heap.size = w.heap.size + 1 := by simp
 have hown' : (w.alloc (.cells #[.pointer (some ⟨b, 0, none⟩)] 106)).ownsRow a 106 1 (.slice la i pc) i (ptrRow ts i) := row_same hrow fun g hg => heap_new_lt _ _ (hrow.lt g hg).2
 have hnews : ∀ (j : Nat) (v : Value), ([.pointer (some ⟨b, 0, none⟩)] : List Value)[j]? = some v → (w.alloc (.cells #[.pointer (some ⟨b, 0, none⟩)] 106)).cell? ((⟨w.heap.size, 0, none⟩ : Addr).add j) = some v := fun j v hv => by
  rw [add_none, Nat.zero_add]
  refine (cell_of (heap_alloc_new _ _) j).trans ?_
  simpa using hv
 have hh : (k = ln ∨ k = 65536) ∧ k ≤ ln ∧ k ≤ 65536 := by omega
 clear hk
 conv => arg 5; unfold hdT1
 by_cases hkl : k < ln
 ·have h6 : decide ((k : Int) < 65536) = false := by simp; omega
  have h6' : decide (k < 65536) = false := by simp; omega
  repeat (first | refine Walk.cx ?_ | (refine Walk.cReg ?_; simp only [z32]) | (refine Walk.oq ?_; try walk_nrm) | (refine Walk.un ?_; walk_nrm))
  (refine Walk.oa ?_; try walk_nrm)
  refine Walk.append (.tmp 48) (.tmp 50) 97 (ho_of (by conv => lhs; whnf) (by kernel_rfl)) (by rfl) (by decide) rfl a 106 _ (.pointer none) 1 8 (by kernel_rfl) hiP.symm (by rfl) (by rfl) (by rfl) (by rfl) (by decide) (.slice la i pc) i (ptrRow ts i) rfl hown' ⟨w.heap.size, 0, none⟩ 1 1 [.pointer (some ⟨b, 0, none⟩)] rfl (by rfl) hnews (by simp [Value.oneCell']) (by decide) (by simp [maxLen]; omega) (by omega) (by omega) (fun g _ => ap0 g) (fun g cap w3 hown hg hat hlt => ?_)
  walk_nrm
  repeat (first | refine Walk.cx ?_ | (refine Walk.cReg ?_; simp only [z32]) | (refine Walk.oq ?_; try walk_nrm) | (refine Walk.un ?_; walk_nrm))
  refine Walk.ctl rfl (fun w => stepG_inLoop) ?_
  have hgs := hg.size
  refine .stop fun d => ⟨g, cap, at_slots ?_, hown, ⟨by show w.heap.size ≤ w3.heap.size; omega, fun x hx hn => (hg.block x (by omega) (fun e => hn e.symm)).trans (heap_new_lt _ _ hx)⟩, hat.imp id (fun h => by omega)⟩
  have hc : ((i + 1 : Nat) : Int) = (i : Int) + 1 := by simp
  simp only [hdT0, hc]
  rfl
 ·have h2 : decide (k < ln) = false := by simp; omega
  have h3 : decide ((k : Int) < ln) = false := by simp; omega
  repeat (first | refine Walk.cx ?_ | (refine Walk.cReg ?_; simp only [z32]) | (refine Walk.oq ?_; try walk_nrm) | (refine Walk.un ?_; walk_nrm))
  (refine Walk.oa ?_; try walk_nrm)
  refine Walk.append (.tmp 48) (.tmp 50) 97 (ho_of (by conv => lhs; whnf) (by kernel_rfl)) (by rfl) (by decide) rfl a 106 _ (.pointer none) 1 8 (by kernel_rfl) hiP.symm (by rfl) (by rfl) (by rfl) (by rfl) (by decide) (.slice la i pc) i (ptrRow ts i) rfl hown' ⟨w.heap.size, 0, none⟩ 1 1 [.pointer (some ⟨b, 0, none⟩)] rfl (by rfl) hnews (by simp [Value.oneCell']) (by decide) (by simp [maxLen]; omega) (by omega) (by omega) (fun g _ => ap0 g) (fun g cap w3 hown hg hat hlt => ?_)
  walk_nrm
  repeat (first | refine Walk.cx ?_ | (refine Walk.cReg ?_; simp only [z32]) | (refine Walk.oq ?_; try walk_nrm) | (refine Walk.un ?_; walk_nrm))
  refine Walk.ctl rfl (fun w => stepG_inLoop) ?_
  have hgs := hg.size
  refine .stop fun d => ⟨g, cap, at_slots ?_, hown, ⟨by show w.heap.size ≤ w3.heap.size; omega, fun x hx hn => (hg.block x (by omega) (fun e => hn e.symm)).trans (heap_new_lt _ _ hx)⟩, hat.imp id (fun h => by omega)⟩
  have hc : ((i + 1 : Nat) : Int) = (i : Int) + 1 := by simp
  simp only [hdT0, hc]
  rfl
end
end
end Go.Proofs.Ytdcjgmlgmjjogaa
