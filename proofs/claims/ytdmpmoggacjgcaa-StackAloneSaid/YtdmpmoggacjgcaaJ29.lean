/- Part 29. -/
import Derived.Test.YtdmpmoggacjgcaaJ27
import Derived.Test.YtdmpmoggacjgcaaJ28
set_option linter.unusedSimpArgs false
set_option linter.unusedVariables false
set_option maxHeartbeats 8000000
set_option maxRecDepth 100000
namespace Go.Proofs.Ytdmpmoggacjgcaa
open Go.Conc Go.RowKit Go.Relay
open Go.ConcN (upd upd_ne upd_same)
noncomputable def hdAlo (sz : Int) (ta : Option Addr) (n0 tc R kb lb p : Nat) (aa : Option Addr) (m ac i : Nat) (u : Nat → Value) : Frame :=
 (base 5).at { tmps := #[.int .i64 sz, .slice ta n0 tc, u 2, u 3, .bool false, .pointer (some ⟨R, 0, none⟩), .pointer (some ⟨kb, 0, none⟩), .pointer (some ⟨lb, 0, none⟩), .pointer (some ⟨p, 0, none⟩), u 9, u 10, u 11, u 12, u 13, u 14, u 15, u 16, u 17, u 18, u 19, u 20, u 21, u 22, u 23, u 24, u 25, u 26, u 27, u 28, u 29, u 30, u 31, u 32, u 33, u 34, u 35, u 36, u 37, u 38, .slice aa m ac, .int .i64 m, .int .i64 i, u 42, u 43, u 44, u 45, u 46, u 47, u 48, u 49, u 50, u 51, u 52, u 53, u 54, u 55, u 56, u 57, u 58, u 59, u 60, u 61, u 62, u 63, u 64, u 65, u 66, u 67, u 68, u 69, u 70, u 71, u 72, u 73, u 74, u 75, u 76, u 77, u 78, u 79, u 80, u 81, u 82, u 83, u 84, u 85, u 86, u 87, u 88, u 89, u 90, u 91, u 92, u 93, u 94, u 95, u 96, u 97, u 98, u 99, u 100, u 101, u 102, u 103, u 104, u 105, u 106, u 107, u 108, u 109, u 110, u 111, u 112, u 113, u 114, u 115, u 116, u 117, u 118, u 119, u 120, u 121, u 122, u 123, u 124, u 125, u 126, u 127, u 128, u 129, u 130, u 131, u 132, u 133, u 134, u 135, u 136, u 137, u 138, u 139, u 140, u 141, u 142, u 143, u 144, u 145, u 146, u 147, u 148, u 149, u 150, u 151, u 152, u 153, u 154], defers := [] } [.code (.seq (.region 8 reg5_8 false) (.seq (.cond (.tmp 42 ) (.skip) (.exit 0)) (.seq (.block 1 (.seq (.region 9 reg5_9 false) (.seq (.region 10 reg5_10 true) (.seq (.region 11 reg5_11 false) (.cond (.tmp 85 ) (.seq (.region 12 reg5_12 false) (.ret)) (.skip)))))) (.region 13 reg5_13 false)))), .inLoop (.seq (.region 8 reg5_8 false) (.seq (.cond (.tmp 42 ) (.skip) (.exit 0)) (.seq (.block 1 (.seq (.region 9 reg5_9 false) (.seq (.region 10 reg5_10 true) (.seq (.region 11 reg5_11 false) (.cond (.tmp 85 ) (.seq (.region 12 reg5_12 false) (.ret)) (.skip)))))) (.region 13 reg5_13 false)))), .inBlock 0, .code (.seq (.region 14 reg5_14 false) (.seq (.region 15 reg5_15 false) (.seq (.region 16 reg5_16 false) (.seq (.region 17 reg5_17 true) (.ret)))))]
structure AloOut (kb nb lb mb n p : Nat) (S' U' : Sk) (c' : Nat) (W w : World) : Prop where
 ik : SkI kb nb n true S' w
 cn : w.heap[p]? = some (.cells #[.int .i64 (c' : Nat)] 42)
 il : SkI lb mb n false U' w
 old : ∀ b, b < W.heap.size → b ≠ kb → b ≠ nb → b ≠ lb → b ≠ mb → b ≠ p → w.heap[b]? = W.heap[b]?
 size : W.heap.size ≤ w.heap.size
theorem act_slots {A : Array Value} {T : (Nat → Value) → Array Value} (h : A = T (fun k => A.getD k undef)) : ∃ u, (⟨A, []⟩ : Act) = ⟨T u, []⟩ := ⟨_, congrArg (fun x => (⟨x, []⟩ : Act)) h⟩
theorem alone_do_at {main : Bool} {sz : Int} {tb toff n0 tc R kb lb p q i : Nat} {aa : Option Addr} {m ac : Nat} {W : World} {Q : (Nat → Value) → Nat → Nat → World → Prop} {Stop : Goroutine → World → Prop} {k : List Item} {cs : List Frame} {act : Act}
  (h : ∀ (k : List Item) (cs : List Frame) (u0 : Nat → Value) {Stop : Goroutine → World → Prop}, (∀ (u : Nat → Value) (A B : Nat) (w : World), u 11 = .pointer (some ⟨A, 0, none⟩) → u 12 = .pointer (some ⟨B, 0, none⟩) → Q u A B w → Walk Try.prog main (DR (fun _ => none)) Stop (G ((base 5).at ⟨tmA sz tb toff n0 tc R kb lb p q i aa m ac u, []⟩ (.inRegion reg5_10 [] :: k)) cs) w) →
   Walk Try.prog main (DR (fun _ => none)) Stop (G ((base 5).at ⟨tmA sz tb toff n0 tc R kb lb p q i aa m ac u0, []⟩ (.code (.region 10 reg5_10 true) :: k)) cs) W)
  (he : ∃ u, act = ⟨tmA sz tb toff n0 tc R kb lb p q i aa m ac u, []⟩)
  (hend : ∀ (u : Nat → Value) (A B : Nat) (w : World), u 11 = .pointer (some ⟨A, 0, none⟩) → u 12 = .pointer (some ⟨B, 0, none⟩) → Q u A B w → Walk Try.prog main (DR (fun _ => none)) Stop (G ((base 5).at ⟨tmA sz tb toff n0 tc R kb lb p q i aa m ac u, []⟩ (.inRegion reg5_10 [] :: k)) cs) w) :
  Walk Try.prog main (DR (fun _ => none)) Stop (G ((base 5).at act (.code (.region 10 reg5_10 true) :: k)) cs) W := by
 obtain ⟨u, rfl⟩ := he
 exact h k cs u hend
theorem alone_round {main : Bool} (sz : Int) (tb toff n0 tc R kb nb lb mb n p i : Nat) (ab ao : Nat) (m ac : Nat) (S U : Sk) (c : Nat) (o : OpV) (hn : n ≤ 65536) (hi : i < n0) (hn0 : n0 ≤ 17592186044416) (him : i < m) (hm : m ≤ 65536) (W : World)
  (hk : SkI kb nb n true S W) (hl : SkI lb mb n false U W) (hc : W.heap[p]? = some (.cells #[.int .i64 (c : Nat)] 42)) (hfew : c ≤ 9223372036854) (hs : (oneX false 0 U o).2.2 = (oneX true c S o).2.2)
  (hne : kb ≠ nb ∧ kb ≠ lb ∧ kb ≠ mb ∧ nb ≠ lb ∧ nb ≠ mb ∧ lb ≠ mb ∧ p ≠ kb ∧ p ≠ nb ∧ p ≠ lb ∧ p ≠ mb) (ht : tb ≠ kb ∧ tb ≠ nb ∧ tb ≠ lb ∧ tb ≠ mb ∧ tb ≠ p)
  (o0 : W.cell? ⟨tb, toff + i * 4, none⟩ = some (.int .i64 o.k)) (o1 : W.cell? ⟨tb, toff + i * 4 + 1, none⟩ = some (.int .i64 o.a)) (o2 : W.cell? ⟨tb, toff + i * 4 + 2, none⟩ = some (.int .i64 o.b)) (o3 : W.cell? ⟨tb, toff + i * 4 + 3, none⟩ = some (.int .i64 o.c))
  (a0 : W.cell? ⟨ab, ao + i * 3, none⟩ = some (.bool (oneX true c S o).2.2.1)) (a1 : W.cell? ⟨ab, ao + i * 3 + 1, none⟩ = some (.int .i64 (oneX true c S o).2.2.2)) (a2 : W.cell? ⟨ab, ao + i * 3 + 2, none⟩ = some (.slice none 0 0))
  (cs : List Frame) (u : Nat → Value) :
  Walk Try.prog main (DR (fun _ => none)) (fun g w => (∃ u, g = G (hdAlo sz (some ⟨tb, toff, none⟩) n0 tc R kb lb p (some ⟨ab, ao, none⟩) m ac (i + 1) u) cs) ∧ AloOut kb nb lb mb n p (oneX true c S o).2.1 (oneX false 0 U o).2.1 (oneX true c S o).1 W w) (G (hdAlo sz (some ⟨tb, toff, none⟩) n0 tc R kb lb p (some ⟨ab, ao, none⟩) m ac i u) cs) W := by
 obtain ⟨fsA, huA⟩ := structT 32 (by kernel_rfl)
 have hi0 : (0 : Int) ≤ i := by omega
 have hi1 : decide ((i : Int) < m) = true := by simp; omega
 have hi3 : decide (i < m) = true := by simp; omega
 have hi4 : (i : Int) < m := by omega
 have hw1 : IntKind.wrap .i64 ((i : Int) + 1) = (i : Int) + 1 := by rw [IntKind.wrap_i64]; omega
 have hcs : ∀ (y : Nat) (v : Value), ([.bool (oneX true c S o).2.2.1, .int .i64 (oneX true c S o).2.2.2, .slice none 0 0] : List Value)[y]? = some v → W.cell? ⟨ab, ao + i * 3 + y, none⟩ = some v := fun y v hv => by
  match y, hv with
  | 0, hv => cases hv; exact a0
  | 1, hv => cases hv; exact a1
  | 2, hv => cases hv; exact a2
 have hdo := fun q W1 h1 h2 h3 k0 k1 k2 k3 => alone_do (main := main) sz tb toff n0 tc R kb nb lb mb n p q i (some ⟨ab, ao, none⟩) m ac S U c o hn hi hn0 W1 h1 h2 h3 hfew hs hne ht k0 k1 k2 k3
 generalize hX : oneX true c S o = X at *
 generalize hY : oneX false 0 U o = Y at *
 obtain ⟨c', S', x⟩ := X
 clear a0 a1 a2
 unfold hdAlo
 refine Walk.gz z5 ?_
 refine Walk.loadS 32 (.tmp 44) hoA (by rfl) (by decide) rfl ab (ao + i * 3) [.bool x.1, .int .i64 x.2, .slice none 0 0] (.struct fsA) rfl hcs huA rfl (by kernel_rfl) ?_
 walk_nrm
 (refine Walk.oa ?_; try walk_nrm)
 have hN := heap_alloc_new W (.cells #[.bool false, .int .i64 0, .slice none 0 0] 32)
 have hO : ∀ b, b < W.heap.size → (W.alloc (.cells #[.bool false, .int .i64 0, .slice none 0 0] 32)).heap[b]? = W.heap[b]? := fun b hb => heap_new_lt _ _ hb
 have hZ : (W.alloc (.cells #[.bool false, .int .i64 0, .slice none 0 0] 32)).heap.size = W.heap.size + 1 := by simp
 generalize hQ : W.heap.size = q at *
 generalize W.alloc (.cells #[.bool false, .int .i64 0, .slice none 0 0] 32) = w1 at *
 repeat (first | (refine Walk.oq ?_; try walk_nrm) | (refine Walk.un ?_; walk_nrm))
 refine Walk.storeS 32 (.tmp 10) (.tmp 45) hoA (by rfl) (by decide) rfl q #[.bool x.1, .int .i64 x.2, .slice none 0 0] _ 32 rfl rfl hN (by kernel_rfl) (by rfl) (by simp [Value.oneCell']) (ap0 _) ?_
 have hN2 := setRow_self (cells := #[.bool x.1, .int .i64 x.2, .slice none 0 0]) hN
 have hO2 : ∀ b, b < q → (w1.setRow q #[.bool x.1, .int .i64 x.2, .slice none 0 0]).heap[b]? = W.heap[b]? := fun b hb => (setRow_other _ _ (by omega)).trans (hO b hb)
 have hZ2 : (w1.setRow q #[.bool x.1, .int .i64 x.2, .slice none 0 0]).heap.size = q + 1 := by rw [setRow_size, hZ]
 clear hN hO hZ hcs
 generalize w1.setRow q #[.bool x.1, .int .i64 x.2, .slice none 0 0] = w2 at *
 have hk2 : SkI kb nb n true S w2 := hk.old fun b hb => hO2 b (by omega)
 have hl2 : SkI lb mb n false U w2 := hl.old fun b hb => hO2 b (by omega)
 have hc2 : w2.heap[p]? = some (.cells #[.int .i64 (c : Nat)] 42) := (hO2 p (by have := (Array.getElem?_eq_some_iff.1 hc).1; omega)).trans hc
 have hcell : ∀ {x y : Nat} {v : Value}, W.cell? ⟨x, y, none⟩ = some v → w2.cell? ⟨x, y, none⟩ = some v := fun {x y v} h => (World.cell?_of_block (a := ⟨x, y, none⟩) (hO2 x (by have := cell_lt' h; omega))).trans h
 have hd := hdo q w2 hk2 hl2 hc2 (hcell o0) (hcell o1) (hcell o2) (hcell o3)
 have l1 := (skLa kb nb n true).lt hk (.inl rfl)
 have l2 := (skLa kb nb n true).lt hk (.inr rfl)
 have l3 := (skLa lb mb n false).lt hl (.inl rfl)
 have l4 := (skLa lb mb n false).lt hl (.inr rfl)
 have l5 := (Array.getElem?_eq_some_iff.1 hc).1
 clear hdo hk hl hc hk2 hl2 hc2 hcell o0 o1 o2 o3
 walk_nrm
 refine Walk.gz z5 ?_
 refine alone_do_at (Q := fun _ A B w => AloW kb nb lb mb n p S S' U Y.2.1 c c' x w2 (fun _ => true) A B w) hd ?eq fun u A B w h11 h12 Q => ?main
 case eq => exact act_slots (by simp only [tmA]; rfl)
 case main =>
  clear hd
  have qa := (Q.a1 rfl).2
  have qb := (Q.b1 rfl).2
  simp only [if_true] at qa qb
  have hqq : w.heap[q]? = some (.cells #[.bool x.1, .int .i64 x.2, .slice none 0 0] 32) := (Q.old q (by omega) (by omega) (by omega) (by omega) (by omega) (by omega)).trans hN2
  have A0 : w.cell? ⟨A, 0, none⟩ = some (.bool x.1) := (cell_of qa 0).trans rfl
  have A1 : w.cell? ⟨A, 1, none⟩ = some (.int .i64 x.2) := (cell_of qa 1).trans rfl
  have B0 : w.cell? ⟨B, 0, none⟩ = some (.bool x.1) := (cell_of qb 0).trans rfl
  have B1 : w.cell? ⟨B, 1, none⟩ = some (.int .i64 x.2) := (cell_of qb 1).trans rfl
  have q0 : w.cell? ⟨q, 0, none⟩ = some (.bool x.1) := (cell_of hqq 0).trans rfl
  have q1 : w.cell? ⟨q, 1, none⟩ = some (.int .i64 x.2) := (cell_of hqq 1).trans rfl
  have b0 : (x.1 != x.1) = false := by simp
  have b1 : (x.2 != x.2) = false := by simp
  have nB := run_neqB (P := Try.prog) 4 und4B
  have nE := ev_neqB (P := Try.prog) 4 und4B
  have r1 := Q.ik
  have r2 := Q.cn
  have r3 := Q.il
  have r4 := Q.old
  have r5 := Q.size
  simp only [if_true] at r1 r2 r3
  clear Q qa qb hqq hN2
  simp only [tmA, h11, h12]
  refine Walk.gz z5 ?_
  refine Walk.ctl rfl (fun w => stepG_inLoop) ?_
  refine .stop fun d => ⟨at_slots ?_, r1.old fun _ _ => rfl, r2, r3.old fun _ _ => rfl, fun b hb n1 n2 n3 n4 n5 => (r4 b (by omega) n1 n2 n3 n4 n5).trans (hO2 b (by omega)), by show W.heap.size ≤ w.heap.size; omega⟩
  have hcc : ((i + 1 : Nat) : Int) = (i : Int) + 1 := by simp
  simp only [hdAlo, hcc]
  rfl
theorem Whole.stop {L : La} {N c c2 : Nat} {s s2 : L.Sg} {az az2 : List Ans} (h : Whole L N c s [] az c2 s2 az2) : c2 = c ∧ s2 = s ∧ az2 = az := by
 cases h
 exact ⟨rfl, rfl, rfl⟩
theorem oneX_cnt (tg : Bool) (c : Nat) (s : Sk) (o : OpV) : (oneX tg c s o).1 ≤ c + 8 := by
 unfold oneX
 split
 ·split
  ·show c + 1 ≤ _; omega
  ·show c + 7 ≤ _; omega
 split
 ·split
  ·show c + 1 ≤ _; omega
  ·show c + 7 ≤ _; omega
 split
 ·split
  ·show c + 1 ≤ _; omega
  ·show c + 3 ≤ _; omega
 split
 ·show c + 1 ≤ _; omega
 ·show c ≤ _; omega
theorem AloOut.trans {kb nb lb mb n p : Nat} {S U S' U' : Sk} {c c' : Nat} {W w w' : World} (h : AloOut kb nb lb mb n p S U c W w) (k : AloOut kb nb lb mb n p S' U' c' w w') : AloOut kb nb lb mb n p S' U' c' W w' :=
 ⟨k.ik, k.cn, k.il, fun b hb h1 h2 h3 h4 h5 => (k.old b (Nat.lt_of_lt_of_le hb h.size) h1 h2 h3 h4 h5).trans (h.old b hb h1 h2 h3 h4 h5), Nat.le_trans h.size k.size⟩
theorem alone_loop {main : Bool} (sz : Int) (ta : Option Addr) (tb toff n0 tc R kb nb lb mb n p : Nat) (aa : Option Addr) (ab ao m ac : Nat) (ops : List OpV) (az2 : List Ans) (c2 : Nat) (S2 : Sk) (hn : n ≤ 65536) (hn0 : n0 ≤ 17592186044416) (hm : m = ops.length) (hm0 : m ≤ n0) (hm6 : m ≤ 65536)
  (hta : 0 < m → ta = some ⟨tb, toff, none⟩) (haa : 0 < m → aa = some ⟨ab, ao, none⟩)
  (hne : kb ≠ nb ∧ kb ≠ lb ∧ kb ≠ mb ∧ nb ≠ lb ∧ nb ≠ mb ∧ lb ≠ mb ∧ p ≠ kb ∧ p ≠ nb ∧ p ≠ lb ∧ p ≠ mb) (W : World)
  (ht : 0 < m → tb ≠ kb ∧ tb ≠ nb ∧ tb ≠ lb ∧ tb ≠ mb ∧ tb ≠ p) (hb : 0 < m → ab ≠ kb ∧ ab ≠ nb ∧ ab ≠ lb ∧ ab ≠ mb ∧ ab ≠ p)
  (hop : ∀ (j : Nat) (o : OpV), ops[j]? = some o → W.cell? ⟨tb, toff + j * 4, none⟩ = some (.int .i64 o.k) ∧ W.cell? ⟨tb, toff + j * 4 + 1, none⟩ = some (.int .i64 o.a) ∧ W.cell? ⟨tb, toff + j * 4 + 2, none⟩ = some (.int .i64 o.b) ∧ W.cell? ⟨tb, toff + j * 4 + 3, none⟩ = some (.int .i64 o.c))
  (han : ∀ (j : Nat) (x : Ans), az2[j]? = some x → W.cell? ⟨ab, ao + j * 3, none⟩ = some (.bool x.1) ∧ W.cell? ⟨ab, ao + j * 3 + 1, none⟩ = some (.int .i64 x.2) ∧ W.cell? ⟨ab, ao + j * 3 + 2, none⟩ = some (.slice none 0 0))
  (cs : List Frame) : ∀ (r i : Nat) (S U : Sk) (c : Nat) (az : List Ans) (u : Nat → Value) (w : World), i + r = m → Whole (skLa kb nb n true) 8 c S (ops.drop i) az c2 S2 az2 → az.length = i → c ≤ i * 8 → Sim S U → AloOut kb nb lb mb n p S U c W w →
  Walk Try.prog main (DR (fun _ => none)) (fun g w' => (∃ u, g = G (hdAlo sz ta n0 tc R kb lb p aa m ac m u) cs) ∧ ∃ U2, Sim S2 U2 ∧ AloOut kb nb lb mb n p S2 U2 c2 W w') (G (hdAlo sz ta n0 tc R kb lb p aa m ac i u) cs) w := by
 intro r
 induction r with
 | zero =>
  intro i S U c az u w hi H _ _ hs hO
  obtain rfl : i = m := hi
  have hd : ops.drop i = [] := by rw [hm]; exact List.drop_length
  rw [hd] at H
  obtain ⟨rfl, e, _⟩ := H.stop
  have e : S2 = S := e
  subst e
  exact .stop fun d => ⟨⟨u, rfl⟩, U, hs, ⟨hO.ik.old fun _ _ => rfl, hO.cn, hO.il.old fun _ _ => rfl, hO.old, hO.size⟩⟩
 | succ r ih =>
  intro i S U c az u w hi H hl hc hs hO
  have him : i < m := by omega
  have hio : i < ops.length := by omega
  have hd : ops.drop i = ops[i] :: ops.drop (i + 1) := List.drop_eq_getElem_cons hio
  have hget : ops[i]? = some ops[i] := List.getElem?_eq_getElem hio
  generalize ops[i] = o at hd hget
  rw [hd] at H
  have H2 := whole_cons H
  obtain ⟨t, e2, _⟩ := H2.more
  have hx : az2[i]? = some (oneX true c S o).2.2 := by
   rw [e2, List.append_assoc, List.getElem?_append_right (by omega), hl, Nat.sub_self]
   rfl
  obtain ⟨hq, hs2⟩ := sim_one hn (SkI.okX hO.ik) (SkI.okX hO.il) hs c 0 o
  obtain rfl := hta (by omega)
  obtain rfl := haa (by omega)
  obtain ⟨t1, t2, t3, t4, t5⟩ := ht (by omega)
  obtain ⟨b1, b2, b3, b4, b5⟩ := hb (by omega)
  have hT : ∀ {y : Nat} {v : Value}, W.cell? ⟨tb, y, none⟩ = some v → w.cell? ⟨tb, y, none⟩ = some v := fun {y v} h => (World.cell?_of_block (a := ⟨tb, y, none⟩) (hO.old tb (cell_lt' h) t1 t2 t3 t4 t5)).trans h
  have hB : ∀ {y : Nat} {v : Value}, W.cell? ⟨ab, y, none⟩ = some v → w.cell? ⟨ab, y, none⟩ = some v := fun {y v} h => (World.cell?_of_block (a := ⟨ab, y, none⟩) (hO.old ab (cell_lt' h) b1 b2 b3 b4 b5)).trans h
  obtain ⟨o0, o1, o2, o3⟩ := hop i o hget
  obtain ⟨x0, x1, x2⟩ := han i _ hx
  have hcn := oneX_cnt true c S o
  refine (alone_round sz tb toff n0 tc R kb nb lb mb n p i ab ao m ac S U c o hn (by omega) hn0 him hm6 w hO.ik hO.il hO.cn (by omega) hq hne ⟨t1, t2, t3, t4, t5⟩ (hT o0) (hT o1) (hT o2) (hT o3) (hB x0) (hB x1) (hB x2) cs u).then ?_
  rintro g w' ⟨⟨u', rfl⟩, hO'⟩
  exact ih (i + 1) _ _ _ (az ++ [(oneX true c S o).2.2]) u' w' (by omega) H2 (by simp [hl]) (by omega) hs2 (hO.trans hO')
theorem sim_vals {S U : Sk} (h : Sim S U) : ∀ (f : Nat) (i : Int), valsX U f i = valsX S f i := by
 intro f
 induction f with
 | zero => intro i; rfl
 | succ f ih =>
  intro i
  simp only [valsX]
  rw [h.nx, h.vl, ih]
theorem sim_heads {S U : Sk} (h : Sim S U) : nodeX U.hd = nodeX S.hd ∧ tagX U.hd = 0 ∧ nodeX U.fr = nodeX S.fr ∧ tagX U.fr = 0 := ⟨h.hd, h.th, h.fr, h.tf⟩
theorem alone_trace (kb nb N : Nat) (ops : Nat → List OpV) (most : Int) (hs : stuckO 1 (playO (skLa kb nb N true) (sk0 N) ops 1 most []).1 = false) :
  ∃ c2 S2 az2, Whole (skLa kb nb N true) 8 0 (sk0 N) (ops 0) [] c2 S2 az2 ∧ (playO (skLa kb nb N true) (sk0 N) ops 1 most []).1.s = S2 ∧ ((playO (skLa kb nb N true) (sk0 N) ops 1 most []).1.th 0).ans = az2 ∧ (playO (skLa kb nb N true) (sk0 N) ops 1 most []).2.length = c2 ∧ az2.length = (ops 0).length := by
 obtain ⟨c2, S2, az2, H⟩ := whole_sk kb nb N true (ops 0) 0 (sk0 N) []
 obtain ⟨h1, h2, h3⟩ := play_alone most H hs
 obtain ⟨t, e, h⟩ := H.more
 exact ⟨c2, S2, az2, H, h1, h2, h3, by rw [e]; simpa using h⟩
noncomputable def reg12_0 := rg Try.f12.body [0]
noncomputable def reg12_1 := rg Try.f12.body [1, 0]
noncomputable def reg12_2 := rg Try.f12.body [1, 1, 0]
noncomputable def reg12_3 := rg Try.f12.body [1, 1, 1, 0]
theorem z12 : List.range reg12_0.size = [0] ∧ List.range reg12_1.size = [0, 1, 2, 3, 4, 5, 6, 7, 8, 9, 10, 11] ∧ List.range reg12_2.size = [0, 1, 2, 3, 4, 5, 6, 7] ∧ List.range reg12_3.size = [0, 1, 2, 3, 4] := by refine ⟨?_, ?_, ?_, ?_⟩ <;> kernel_rfl
theorem code12_is : Try.f12.body = some (.seq (.region 0 reg12_0 false) (.seq (.region 1 reg12_1 false) (.seq (.region 2 reg12_2 false) (.seq (.region 3 reg12_3 false) (.ret))))) := by kernel_rfl
def clA : Array Value := #[.int .i64 2, .int .i64 0, .int .i64 0, .int .i64 0]
def clB : Array Value := #[.int .i64 1, .int .i64 8, .int .i64 0, .int .i64 0, .int .i64 1, .int .i64 7, .int .i64 0, .int .i64 0, .int .i64 2, .int .i64 0, .int .i64 0, .int .i64 0, .int .i64 2, .int .i64 0, .int .i64 0, .int .i64 0, .int .i64 1, .int .i64 4, .int .i64 0, .int .i64 0]
def clC : Array Value := #[.int .i64 1, .int .i64 9, .int .i64 0, .int .i64 0]
def clH (T : Nat) : Array Value := #[.slice (some ⟨T + 1, 0, none⟩) 1 1, .slice (some ⟨T + 2, 0, none⟩) 5 5, .slice (some ⟨T + 3, 0, none⟩) 1 1]
def clOa (T : Nat) (i : Nat) : Option Addr := some ⟨T + 1 + i, 0, none⟩
def clLn (i : Nat) : Nat := if i = 1 then 5 else 1
theorem cl_ops {T : Nat} {w : World} (h1 : w.heap[T + 1]? = some (.cells clA 45)) (h2 : w.heap[T + 2]? = some (.cells clB 45)) (h3 : w.heap[T + 3]? = some (.cells clC 45)) (h4 : w.heap[T + 4]? = some (.cells (clH T) 37)) : OpsIn (T + 4) 0 3 (clOa T) clLn clLn clOps w := by
 refine ⟨fun i hi => ?_, fun i hi => Nat.le_refl _, fun i hi => .inr ⟨_, rfl⟩, fun i hi => ?_, fun i hi j o ho => ?_⟩
 ·rw [Nat.zero_add]
  refine (cell_of h4 i).trans ?_
  match i, hi with
  | 0, _ => rfl
  | 1, _ => rfl
  | 2, _ => rfl
 ·match i, hi with
  | 0, _ => rfl
  | 1, _ => rfl
  | 2, _ => rfl
 ·refine ⟨T + 1 + i, 0, rfl, ?_⟩
  simp only [Nat.zero_add]
  match i, hi, ho with
  | 0, _, ho =>
   match j, ho with
   | 0, ho => cases ho; exact ⟨(cell_of h1 _).trans rfl, (cell_of h1 _).trans rfl, (cell_of h1 _).trans rfl, (cell_of h1 _).trans rfl⟩
   | j + 1, ho => exact absurd ho (by simp [clOps])
  | 1, _, ho =>
   match j, ho with
   | 0, ho => cases ho; exact ⟨(cell_of h2 _).trans rfl, (cell_of h2 _).trans rfl, (cell_of h2 _).trans rfl, (cell_of h2 _).trans rfl⟩
   | 1, ho => cases ho; exact ⟨(cell_of h2 _).trans rfl, (cell_of h2 _).trans rfl, (cell_of h2 _).trans rfl, (cell_of h2 _).trans rfl⟩
   | 2, ho => cases ho; exact ⟨(cell_of h2 _).trans rfl, (cell_of h2 _).trans rfl, (cell_of h2 _).trans rfl, (cell_of h2 _).trans rfl⟩
   | 3, ho => cases ho; exact ⟨(cell_of h2 _).trans rfl, (cell_of h2 _).trans rfl, (cell_of h2 _).trans rfl, (cell_of h2 _).trans rfl⟩
   | 4, ho => cases ho; exact ⟨(cell_of h2 _).trans rfl, (cell_of h2 _).trans rfl, (cell_of h2 _).trans rfl, (cell_of h2 _).trans rfl⟩
   | j + 5, ho => exact absurd ho (by simp [clOps])
  | 2, _, ho =>
   match j, ho with
   | 0, ho => cases ho; exact ⟨(cell_of h3 _).trans rfl, (cell_of h3 _).trans rfl, (cell_of h3 _).trans rfl, (cell_of h3 _).trans rfl⟩
   | j + 1, ho => exact absurd ho (by simp [clOps])
def ClBack (T : Nat) (fr c : Frame) (cs : List Frame) : Prop := ∀ (A na : Nat) (oo : Option Addr) (ol ok : Nat) (ta : Option Addr) (tl tc : Nat) (stuck : Bool) (w : World), w.heap[T]? = some (.cells #[.slice none 0 0, .slice none 0 0, .slice none 0 0, .bool false] 27) →
 Walk Try.prog true (DR (fun _ => none)) (fun g w' => g = G (c.finish (.agg #[.slice (some ⟨A, 0, none⟩) na na, .slice oo ol ok, .slice ta tl tc, .bool stuck])) cs ∧ (∀ b, b ≠ T → w'.heap[b]? = w.heap[b]?) ∧ w'.heap.size = w.heap.size)
  (G (fr.finish (.agg #[.slice (some ⟨A, 0, none⟩) na na, .slice oo ol ok, .slice ta tl tc, .bool stuck])) (c :: cs)) w
theorem classic_in (tg : Bool) (c : Frame) (cs : List Frame) (w : World) :
  Walk Try.prog true (DR (fun _ => none)) (fun g w' => ∃ fr sa sc, g = G (Frame.enter Try.prog 15 #[.int .i64 2, .bool tg, .slice (some ⟨w.heap.size + 4, 0, none⟩) 3 3, .slice sa clSl.length sc, .int .i64 200] .normal) (fr :: c :: cs) ∧ (∀ b, b < w.heap.size → w'.heap[b]? = w.heap[b]?) ∧ w.heap.size ≤ w'.heap.size ∧
    w'.heap[w.heap.size]? = some (.cells #[.slice none 0 0, .slice none 0 0, .slice none 0 0, .bool false] 27) ∧ OpsIn (w.heap.size + 4) 0 3 (clOa w.heap.size) clLn clLn clOps w' ∧ (∀ (j : Nat) (z : Int), clSl[j]? = some z → ∃ s so, sa = some ⟨s, so, none⟩ ∧ w'.cell? ⟨s, so + j, none⟩ = some (.int .i64 z)) ∧ ClBack w.heap.size fr c cs)
   (G (Frame.enter Try.prog 12 #[.bool tg] .normal) (c :: cs)) w := by
 have hA : ∀ b, Apart (fun _ => none) b := fun b => ⟨fun _ _ _ _ h => (by cases h), fun _ _ h => (by cases h)⟩
 rw [enter_at _ Try.func12 code12_is]
 simp only [Try.ntmps12, ez, Nat.reduceAdd, Nat.reduceSub]
 refine Walk.gz z12 ?_
 (refine Walk.oa ?_; try walk_nrm)
 have s1 : (w.alloc (.cells #[.slice none 0 0, .slice none 0 0, .slice none 0 0, .bool false] 27)).heap.size = w.heap.size + 1 := by simp
 have o1 : ∀ b, b < w.heap.size → (w.alloc (.cells #[.slice none 0 0, .slice none 0 0, .slice none 0 0, .bool false] 27)).heap[b]? = w.heap[b]? := fun b hb => heap_new_lt _ _ hb
 have d1 := heap_alloc_new w (.cells #[.slice none 0 0, .slice none 0 0, .slice none 0 0, .bool false] 27)
 generalize hT : w.heap.size = T at *
 generalize w.alloc (.cells #[.slice none 0 0, .slice none 0 0, .slice none 0 0, .bool false] 27) = x1 at *
 refine Walk.gz z12 ?_
 (refine Walk.oa ?_; try walk_nrm)
 have s2 : (x1.alloc (.cells clA 45)).heap.size = T + 2 := by simp [s1]
 have o2 : ∀ b, b < T + 1 → (x1.alloc (.cells clA 45)).heap[b]? = x1.heap[b]? := fun b hb => heap_new_lt _ _ (by omega)
 have d2 : (x1.alloc (.cells clA 45)).heap[T + 1]? = some (.cells clA 45) := s1 ▸ heap_alloc_new x1 (.cells clA 45)
 try simp only [s1]
 change Walk Try.prog true _ _ _ (x1.alloc (.cells clA 45))
 generalize x1.alloc (.cells clA 45) = x2 at *
 refine Walk.gz z12 ?_
 (refine Walk.oa ?_; try walk_nrm)
 have s3 : (x2.alloc (.cells clB 45)).heap.size = T + 3 := by simp [s2]
 have o3 : ∀ b, b < T + 2 → (x2.alloc (.cells clB 45)).heap[b]? = x2.heap[b]? := fun b hb => heap_new_lt _ _ (by omega)
 have d3 : (x2.alloc (.cells clB 45)).heap[T + 2]? = some (.cells clB 45) := s2 ▸ heap_alloc_new x2 (.cells clB 45)
 try simp only [s2]
 change Walk Try.prog true _ _ _ (x2.alloc (.cells clB 45))
 generalize x2.alloc (.cells clB 45) = x3 at *
 refine Walk.gz z12 ?_
 (refine Walk.oa ?_; try walk_nrm)
 have s4 : (x3.alloc (.cells clC 45)).heap.size = T + 4 := by simp [s3]
 have o4 : ∀ b, b < T + 3 → (x3.alloc (.cells clC 45)).heap[b]? = x3.heap[b]? := fun b hb => heap_new_lt _ _ (by omega)
 have d4 : (x3.alloc (.cells clC 45)).heap[T + 3]? = some (.cells clC 45) := s3 ▸ heap_alloc_new x3 (.cells clC 45)
 try simp only [s3]
 change Walk Try.prog true _ _ _ (x3.alloc (.cells clC 45))
 generalize x3.alloc (.cells clC 45) = x4 at *
 refine Walk.gz z12 ?_
 (refine Walk.oa ?_; try walk_nrm)
 have s5 : (x4.alloc (.cells (clH T) 37)).heap.size = T + 5 := by simp [s4]
 have o5 : ∀ b, b < T + 4 → (x4.alloc (.cells (clH T) 37)).heap[b]? = x4.heap[b]? := fun b hb => heap_new_lt _ _ (by omega)
 have d5 : (x4.alloc (.cells (clH T) 37)).heap[T + 4]? = some (.cells (clH T) 37) := s4 ▸ heap_alloc_new x4 (.cells (clH T) 37)
 try simp only [s4]
 change Walk Try.prog true _ _ _ (x4.alloc (.cells (clH T) 37))
 generalize x4.alloc (.cells (clH T) 37) = x5 at *
 have H0 : MI x5 x5 [] none 0 := ⟨⟨rfl, .inl ⟨rfl, rfl⟩⟩, fun _ _ => rfl, Nat.le_refl _⟩
 refine Walk.gz z12 ?_
 refine Walk.callW (Post := fun v w' => ∃ ta' tc', v = .slice ta' ([] ++ List.replicate 14 1 : List Int).length tc' ∧ MI x5 w' ([] ++ List.replicate 14 1) ta' tc') ?_ hoA (by rfl) (by decide) rfl Try.func30 (by kernel_rfl) (by rfl) ?_
 ·walk_nrm
  exact many_w 1 14 [] none 0 x5 x5 (by omega) (by simp) H0 hA
 rintro v y1 ⟨ta1, tc1, rfl, H1⟩
 have hn1 : ([] ++ List.replicate 14 1 : List Int).length = 14 := by simp
 generalize hl1 : ([] ++ List.replicate 14 1 : List Int) = l1 at *
 walk_nrm
 refine Walk.callW (Post := fun v w' => ∃ ta' tc', v = .slice ta' (l1 ++ List.replicate 2 0 : List Int).length tc' ∧ MI x5 w' (l1 ++ List.replicate 2 0) ta' tc') ?_ hoA (by rfl) (by decide) rfl Try.func30 (by kernel_rfl) (by rfl) ?_
 ·walk_nrm
  exact many_w 0 2 l1 ta1 tc1 x5 y1 (by omega) (by omega) H1 hA
 rintro v y2 ⟨ta2, tc2, rfl, H2⟩
 have hn2 : (l1 ++ List.replicate 2 0 : List Int).length = 16 := by simp [hn1]
 generalize hl2 : (l1 ++ List.replicate 2 0 : List Int) = l2 at *
 walk_nrm
 refine Walk.callW (Post := fun v w' => ∃ ta' tc', v = .slice ta' (l2 ++ List.replicate 14 1 : List Int).length tc' ∧ MI x5 w' (l2 ++ List.replicate 14 1) ta' tc') ?_ hoA (by rfl) (by decide) rfl Try.func30 (by kernel_rfl) (by rfl) ?_
 ·walk_nrm
  exact many_w 1 14 l2 ta2 tc2 x5 y2 (by omega) (by omega) H2 hA
 rintro v y3 ⟨ta3, tc3, rfl, H3⟩
 have hn3 : (l2 ++ List.replicate 14 1 : List Int).length = 30 := by simp [hn2]
 generalize hl3 : (l2 ++ List.replicate 14 1 : List Int) = l3 at *
 walk_nrm
 refine Walk.callW (Post := fun v w' => ∃ ta' tc', v = .slice ta' (l3 ++ List.replicate 3 2 : List Int).length tc' ∧ MI x5 w' (l3 ++ List.replicate 3 2) ta' tc') ?_ hoA (by rfl) (by decide) rfl Try.func30 (by kernel_rfl) (by rfl) ?_
 ·walk_nrm
  exact many_w 2 3 l3 ta3 tc3 x5 y3 (by omega) (by omega) H3 hA
 rintro v y4 ⟨ta4, tc4, rfl, H4⟩
 have hn4 : (l3 ++ List.replicate 3 2 : List Int).length = 33 := by simp [hn3]
 generalize hl4 : (l3 ++ List.replicate 3 2 : List Int) = l4 at *
 walk_nrm
 refine Walk.callW (Post := fun v w' => ∃ ta' tc', v = .slice ta' (l4 ++ List.replicate 7 1 : List Int).length tc' ∧ MI x5 w' (l4 ++ List.replicate 7 1) ta' tc') ?_ hoA (by rfl) (by decide) rfl Try.func30 (by kernel_rfl) (by rfl) ?_
 ·walk_nrm
  exact many_w 1 7 l4 ta4 tc4 x5 y4 (by omega) (by omega) H4 hA
 rintro v y5 ⟨ta5, tc5, rfl, H5⟩
 have hn5 : (l4 ++ List.replicate 7 1 : List Int).length = 40 := by simp [hn4]
 generalize hl5 : (l4 ++ List.replicate 7 1 : List Int) = l5 at *
 walk_nrm
 refine Walk.callW (Post := fun v w' => ∃ ta' tc', v = .slice ta' (l5 ++ List.replicate 5 0 : List Int).length tc' ∧ MI x5 w' (l5 ++ List.replicate 5 0) ta' tc') ?_ hoA (by rfl) (by decide) rfl Try.func30 (by kernel_rfl) (by rfl) ?_
 ·walk_nrm
  exact many_w 0 5 l5 ta5 tc5 x5 y5 (by omega) (by omega) H5 hA
 rintro v y6 ⟨ta6, tc6, rfl, H6⟩
 have hn6 : (l5 ++ List.replicate 5 0 : List Int).length = 45 := by simp [hn5]
 generalize hl6 : (l5 ++ List.replicate 5 0 : List Int) = l6 at *
 walk_nrm
 refine Walk.callW (Post := fun v w' => ∃ ta' tc', v = .slice ta' (l6 ++ List.replicate 4 2 : List Int).length tc' ∧ MI x5 w' (l6 ++ List.replicate 4 2) ta' tc') ?_ hoA (by rfl) (by decide) rfl Try.func30 (by kernel_rfl) (by rfl) ?_
 ·walk_nrm
  exact many_w 2 4 l6 ta6 tc6 x5 y6 (by omega) (by omega) H6 hA
 rintro v y7 ⟨ta7, tc7, rfl, H7⟩
 have hn7 : (l6 ++ List.replicate 4 2 : List Int).length = 49 := by simp [hn6]
 generalize hl7 : (l6 ++ List.replicate 4 2 : List Int) = l7 at *
 walk_nrm
 have hl : l7 = clSl := by rw [← hl7, ← hl6, ← hl5, ← hl4, ← hl3, ← hl2, ← hl1]; rfl
 clear hl1 hl2 hl3 hl4 hl5 hl6 hl7 hn1 hn2 hn3 hn4 hn5 hn6 hn7 H1 H2 H3 H4 H5 H6
 subst hl
 obtain ⟨sg, rfl, hsg, hcells⟩ := row_cells H7.row (by decide)
 have hO := H7.old
 have hz := H7.size
 refine Walk.gz z12 ?_
 refine Walk.callE hoA (by rfl) (by decide) rfl Try.func15 (by kernel_rfl) (by rfl) ?_
 walk_nrm
 refine .stop fun d => ⟨_, some ⟨sg, 0, none⟩, _, rfl, fun b hb => ?_, ?_, ?_, cl_ops ?_ ?_ ?_ ?_, fun j z hz' => ⟨sg, 0, rfl, ?_⟩, ?_⟩
 ·exact (hO b (by omega)).trans ((o5 b (by omega)).trans ((o4 b (by omega)).trans ((o3 b (by omega)).trans ((o2 b (by omega)).trans (o1 b (by omega))))))
 ·show T ≤ y7.heap.size
  omega
 ·exact (hO T (by omega)).trans ((o5 T (by omega)).trans ((o4 T (by omega)).trans ((o3 T (by omega)).trans ((o2 T (by omega)).trans d1))))
 ·exact (hO _ (by omega)).trans ((o5 _ (by omega)).trans ((o4 _ (by omega)).trans ((o3 _ (by omega)).trans d2)))
 ·exact (hO _ (by omega)).trans ((o5 _ (by omega)).trans ((o4 _ (by omega)).trans d3))
 ·exact (hO _ (by omega)).trans ((o5 _ (by omega)).trans d4)
 ·exact (hO _ (by omega)).trans d5
 ·rw [Nat.zero_add]
  exact hcells j _ (by rw [intRow, List.getElem?_map, hz']; rfl)
 ·intro A na oo ol ok ta tl tc stuck w9 hT9
  refine Walk.finish hoA ?_
  walk_nrm
  refine Walk.storeS 27 (.tmp 2) (.tmp 26) hoA (by rfl) (by decide) rfl T #[.slice (some ⟨A, 0, none⟩) na na, .slice oo ol ok, .slice ta tl tc, .bool stuck] _ 27 rfl rfl hT9 (by kernel_rfl) (by rfl) (by simp [Value.oneCell']) (hA _) ?_
  have d9 := setRow_self (cells := #[.slice (some ⟨A, 0, none⟩) na na, .slice oo ol ok, .slice ta tl tc, .bool stuck]) hT9
  walk_nrm
  refine Walk.gz z12 ?_
  exact Walk.onCell (T := T) rfl rfl rfl Try.func12 rfl (by rfl) d9 (by kernel_rfl) (by kernel_rfl) (.stop fun d => ⟨rfl, fun b hb => setRow_other _ _ hb, setRow_size _ _ _⟩)
theorem huFirst : Try.prog.underlying 33 = some (.slice 37) := by kernel_rfl
theorem first_three {main : Bool} {V : Nat → Option Wait} (tb : Nat) (w : World) : CallV Try.prog main V 67 #[.slice (some ⟨tb, 0, none⟩) 3 3] w (.slice (some ⟨tb, 0, none⟩) 3 3) w := by
 refine callW_in Try.func67 rfl fun fr cs => ?_
 simp only [Try.ntmps67, ez, Nat.reduceAdd, Nat.reduceSub]
 have hmn := @events_min_ints Try.prog
 have hi := Option.some_get (show (Try.prog.info? 37).isSome = true by kernel_rfl)
 have hs : ∀ w, (Instr.sliceAt 33 (.slice (some ⟨tb, 0, none⟩) 3 3) none (some (.int .i64 3)) none).run Try.prog w = .ok (.slice (some ⟨tb, 0, none⟩) 3 3) w := fun w => (run_sl_of huFirst hi.symm tb 3 3 3 (by omega) w #[]).1
 have hse : ∀ w es, (Instr.sliceAt 33 (.slice (some ⟨tb, 0, none⟩) 3 3) none (some (.int .i64 3)) none).events Try.prog w es = es := fun w es => (run_sl_of huFirst hi.symm tb 3 3 3 (by omega) w es).2
 clear hi
 have hmin : min (3 : Int) 64 = 3 := by decide
 refine Walk.gzr ?_
 try rw [hmin]
 refine Walk.gzr ?_
 exact Walk.ret1 rfl rfl Try.func67 rfl fun d => ⟨by simp, d, rfl⟩
def clSt (tg : Bool) : List Int := if tg then [0, 7, 1, 7, 9] else [0, 0, 1, 0, 9, 9]
def clVl (tg : Bool) : List Int := if tg then [9] else [9, 9]
theorem q4 {α β γ δ : Type} {a a' : α} {b b' : β} {c c' : γ} {d d' : δ} (h : (a, b, c, d) = (a', b', c', d')) : a = a' ∧ b = b' ∧ c = c' ∧ d = d' := by simpa using h
theorem cl_any (kb nb : Nat) (tg : Bool) : stateX 2 (clPlay kb nb tg).1.s = clSt tg ∧ valsX (clPlay kb nb tg).1.s 2 (nodeX (Sk.hd (clPlay kb nb tg).1.s)) = clVl tg ∧ stuckO 3 (clPlay kb nb tg).1 = false ∧ ((clPlay kb nb tg).1.th 0).ans = [(true, 4)] := by
 cases tg with
 | true => exact q4 (cl_true kb nb)
 | false => exact q4 (cl_false kb nb)
structure ClOut (tg : Bool) (w w' : World) (cells : Array Value) : Prop where
 all : ∃ (A : Nat) (oo : Option Addr) (ol ok sg stc hg hc : Nat), cells = #[.slice (some ⟨A, 0, none⟩) 3 3, .slice oo ol ok, .slice (some ⟨sg, 0, none⟩) (clSt tg).length stc, .bool false] ∧ (∀ (j : Nat) (x : Value), (intRow (clSt tg))[j]? = some x → w'.cell? ⟨sg, j, none⟩ = some x) ∧
  w'.cell? ⟨A, 0, none⟩ = some (.slice (some ⟨hg, 0, none⟩) 1 hc) ∧ w'.cell? ⟨hg, 1, none⟩ = some (.int .i64 4)
 old : ∀ b, b < w.heap.size → w'.heap[b]? = w.heap[b]?
 size : w.heap.size ≤ w'.heap.size
theorem classic_run (tg : Bool) (c : Frame) (cs : List Frame) (w : World) : Runs (fun g w' => ∃ cells, ClOut tg w w' cells ∧ g = G (c.finish (.agg cells)) cs) (G (Frame.enter Try.prog 12 #[.bool tg] .normal) (c :: cs)) w := by
 refine Runs.walk (classic_in tg c cs w) ?_
 rintro _ w1 ⟨fr, sa, sc, rfl, hO, hz, hT, hI, hsc, hB⟩
 refine Runs.then (splay_run 2 tg _ 200 (w.heap.size + 4) 0 3 3 (by omega) (by omega) (clOa w.heap.size) clLn clLn clOps sa sc clSl (by rw [clSl_len]; omega) fr (c :: cs) w1 hI hsc (fun w' _ => first_three _ w') (fun kb nb => ?_)) ?_
 ·rw [sizeN2]
  have h := (cl_any kb nb tg).2.1
  unfold clPlay at h
  refine ⟨fun e => ?_, ?_⟩
  ·have h2 := e.symm.trans h
   cases tg <;> cases h2
  ·exact Nat.le_trans (Nat.le_of_eq (congrArg List.length h)) (by cases tg <;> decide)
 ·rintro _ w4 ⟨cells, H, rfl⟩
  have hall := H.all
  have hold := H.old
  have hsz := H.size
  clear H
  rw [sizeN2] at hall
  obtain ⟨kb, nb, A, oo, ok, hd, arr, ta, tc, rfl, hrow, hst, hAl, hAr, hAi, hans⟩ := hall
  obtain ⟨e1, e2, e3, e4⟩ := cl_any kb nb tg
  unfold clPlay at e1 e2 e3 e4
  rw [e1] at hst ⊢
  rw [e3]
  obtain ⟨sg, rfl, hsg, hcells⟩ := row_cells hst (by cases tg <;> decide)
  obtain ⟨ta0, tc0, h0, hr0⟩ := hans 0 (by omega)
  rw [e4] at h0 hr0
  have hT4 : w4.heap[w.heap.size]? = some (.cells #[.slice none 0 0, .slice none 0 0, .slice none 0 0, .bool false] 27) := (hold _ (by have := (Array.getElem?_eq_some_iff.1 hT).1; omega)).trans hT
  refine Runs.walk (hB A 3 oo _ ok _ _ _ _ w4 hT4) ?_
  rintro _ w5 ⟨rfl, hO5, hz5⟩
  have hTl := (Array.getElem?_eq_some_iff.1 hT).1
  have c5 : ∀ {b j : Nat} {v : Value}, b ≠ w.heap.size → w4.cell? ⟨b, j, none⟩ = some v → w5.cell? ⟨b, j, none⟩ = some v := fun {b j v} hb h => (World.cell?_of_block (a := ⟨b, j, none⟩) (hO5 b hb)).trans h
  obtain ⟨hg, hc, hh0, hgl, hgc⟩ : ∃ hg hc, hd 0 = .slice (some ⟨hg, 0, none⟩) 1 hc ∧ w1.heap.size ≤ hg ∧ w4.cell? ⟨hg, 1, none⟩ = some (.int .i64 4) := by
   rcases hr0.2 with ⟨_, e⟩ | ⟨g, cap, cur, e, hb, hh, hcc, _, hs, ht⟩
   ·cases e
   ·refine ⟨g, cap, e, hb, ?_⟩
    have hx : (ansRow [((true, 4) : Ans)])[1]? = some (.int .i64 4) := rfl
    rw [← ht, List.getElem?_take] at hx
    split at hx
    ·exact (cell_of hh 1).trans (by simpa using hx)
    ·cases hx
  have hcA : w4.cell? ⟨A, 0, none⟩ = some (.slice (some ⟨hg, 0, none⟩) 1 hc) := (cell_of hAr 0).trans ((hAi 0 (by omega)).trans (congrArg some hh0))
  refine .now ⟨_, ⟨⟨A, oo, _, ok, sg, tc, hg, hc, rfl, fun j x hx => c5 (by omega) (hcells j x hx), c5 (by omega) hcA, c5 (by omega) hgc⟩, fun b hb => ?_, by omega⟩, rfl⟩
  exact (hO5 b (by omega)).trans ((hold b (by omega)).trans (hO b hb))
def lonR (kb nb : Nat) (s : Sk) (d : SD) : Sk × Ans := (runN (skLa kb nb 2 true) 20 (s, .inr d)).getD (s, (false, 0))
def tS1 (kb nb : Nat) : Sk := (lonR kb nb (sk0 2) (.pu1 5)).1
def tS2 (kb nb : Nat) : Sk := (lonR kb nb (tS1 kb nb) (.pu1 6)).1
def tS3 (kb nb : Nat) : Sk := (lonR kb nb (tS2 kb nb) (.pu1 7)).1
def tS4 (kb nb : Nat) : Sk := (lonR kb nb (tS3 kb nb) .po1).1
theorem tR1 (kb nb : Nat) : runN (skLa kb nb 2 true) 20 (sk0 2, .inr (.pu1 5)) = some (tS1 kb nb, (true, 0)) := by kernel_rfl
theorem tR2 (kb nb : Nat) : runN (skLa kb nb 2 true) 20 (tS1 kb nb, .inr (.pu1 6)) = some (tS2 kb nb, (true, 0)) := by kernel_rfl
theorem tR3 (kb nb : Nat) : runN (skLa kb nb 2 true) 20 (tS2 kb nb, .inr (.pu1 7)) = some (tS3 kb nb, (false, 0)) := by kernel_rfl
theorem tR4 (kb nb : Nat) : runN (skLa kb nb 2 true) 20 (tS3 kb nb, .inr .po1) = some (tS4 kb nb, (true, 6)) := by kernel_rfl
theorem tH4 (kb nb : Nat) : headsV (tS4 kb nb) = .tuple #[.int .i64 0, .int .i64 3, .int .i64 1, .int .i64 3] := by kernel_rfl
noncomputable def reg11_0 := rg Try.f11.body [0]
noncomputable def reg11_1 := rg Try.f11.body [1, 0]
noncomputable def reg11_2 := rg Try.f11.body [1, 1, 0, 0]
noncomputable def reg11_3 := rg Try.f11.body [1, 1, 0, 1, 0, 0]
noncomputable def reg11_4 := rg Try.f11.body [1, 1, 1, 0]
noncomputable def reg11_5 := rg Try.f11.body [1, 1, 1, 1, 0]
noncomputable def reg11_6 := rg Try.f11.body [1, 1, 1, 1, 1, 0]
noncomputable def reg11_7 := rg Try.f11.body [1, 1, 1, 1, 1, 1, 0]
theorem z11 : List.range reg11_0.size = [0] ∧ List.range reg11_1.size = [0, 1] ∧ List.range reg11_2.size = [0, 1, 2, 3, 4, 5, 6, 7, 8, 9, 10, 11, 12, 13, 14, 15, 16, 17, 18, 19, 20] ∧ List.range reg11_3.size = [0] ∧ List.range reg11_4.size = [0, 1, 2, 3, 4, 5, 6] ∧ List.range reg11_5.size = [0, 1, 2, 3, 4, 5, 6, 7, 8, 9, 10] ∧ List.range reg11_6.size = [0, 1, 2] ∧ List.range reg11_7.size = [0, 1, 2, 3, 4, 5, 6, 7, 8, 9, 10, 11, 12, 13, 14, 15, 16, 17, 18, 19, 20, 21, 22, 23, 24, 25, 26, 27, 28, 29, 30, 31, 32] := by refine ⟨?_, ?_, ?_, ?_, ?_, ?_, ?_, ?_⟩ <;> kernel_rfl
theorem code11_is : Try.f11.body = some (.seq (.region 0 reg11_0 false) (.seq (.region 1 reg11_1 false) (.seq (.seq (.region 2 reg11_2 false) (.cond (.tmp 30 ) (.seq (.region 3 reg11_3 false) (.ret)) (.skip))) (.seq (.region 4 reg11_4 false) (.seq (.region 5 reg11_5 false) (.seq (.region 6 reg11_6 false) (.seq (.region 7 reg11_7 false) (.ret)))))))) := by kernel_rfl
def TBack (fr c : Frame) (cs : List Frame) : Prop := ∀ (w0 w : World) (cells : Array Value), ClOut true w0 w cells →
 Walk Try.prog true (DR (fun _ => none)) (fun g w' => g = G (c.finish (.bool true)) cs ∧ (∀ b, b < w.heap.size → w'.heap[b]? = w.heap[b]?) ∧ w.heap.size ≤ w'.heap.size) (G (fr.finish (.agg cells)) (c :: cs)) w
theorem turns_in (c : Frame) (cs : List Frame) (w : World) :
  Walk Try.prog true (DR (fun _ => none)) (fun g w' => ∃ fr, g = G (Frame.enter Try.prog 12 #[.bool true] .normal) (fr :: c :: cs) ∧ (∀ b, b < w.heap.size → w'.heap[b]? = w.heap[b]?) ∧ w.heap.size ≤ w'.heap.size ∧ TBack fr c cs)
   (G (Frame.enter Try.prog 11 #[] .normal) (c :: cs)) w := by
 have hA : ∀ b, Apart (fun _ => none) b := fun b => ⟨fun _ _ _ _ h => (by cases h), fun _ _ h => (by cases h)⟩
 rw [enter_at _ Try.func11 code11_is]
 simp only [Try.ntmps11, ez, Nat.reduceAdd, Nat.reduceSub]
 refine Walk.gz z11 ?_
 refine Walk.callW (Post := fun v w' => v = .pointer (some ⟨w.heap.size + 1, 0, none⟩) ∧ SkI (w.heap.size + 1) w.heap.size 2 true (sk0 2) w' ∧ (∀ b, b < w.heap.size → w'.heap[b]? = w.heap[b]?) ∧ w'.heap.size = w.heap.size + 2) ?_ hoA (by rfl) (by decide) rfl Try.func17 (by kernel_rfl) (by rfl) ?_
 ·walk_nrm
  have h := new_w (main := true) 2 true w hA
  rw [sizeN2] at h
  exact h
 rintro v w1 ⟨rfl, I1, O1, Z1⟩
 have hne : w.heap.size + 1 ≠ w.heap.size := by omega
 generalize hkb : w.heap.size + 1 = kb at *
 generalize hnb : w.heap.size = nb at *
 have hp1 := fun w => run_eql_ptr (P := Try.prog) 38 undStack (some ⟨kb, 0, none⟩) w
 have hp2 := fun w es => ev_eql_ptr (P := Try.prog) 38 undStack (some ⟨kb, 0, none⟩) w es
 simp only [Option.isNone_some] at hp1
 walk_nrm
 refine Walk.gz z11 ?_
 refine Walk.callV (x := .int .i64 2) (W := w1) ?_ hoA (by rfl) (by decide) rfl Try.func21 (by kernel_rfl) (by rfl) ?_
 ·walk_nrm
  exact size_w kb nb 2 true (sk0 2) w1 I1
 walk_nrm
 repeat (first | (refine Walk.oq ?_; try walk_nrm) | (refine Walk.un ?_; walk_nrm))
 refine Walk.callLone (L := skLa kb nb 2 true) (Rel := fun v x => v = .bool x.1) 20 (sk0 2) (.inr (.pu1 5)) hA I1 (tR1 kb nb) (fun K e ht => ?_) hoA (by rfl) (by decide) rfl Try.func28 (by kernel_rfl) (by rfl) ⟨rfl, rfl, _, Try.func11⟩ ?_
 ·walk_nrm
  exact (push_s K hne (by omega) 5 e ht).mono fun v e' ⟨b, q1, q2⟩ => ⟨(b, 0), q1, q2⟩
 rintro v w2 rfl L2
 have I2 : SkI kb nb 2 true (tS1 kb nb) w2 := L2.I
 walk_nrm
 repeat (first | (refine Walk.oq ?_; try walk_nrm) | (refine Walk.un ?_; walk_nrm))
 refine Walk.callLone (L := skLa kb nb 2 true) (Rel := fun v x => v = .bool x.1) 20 (tS1 kb nb) (.inr (.pu1 6)) hA I2 (tR2 kb nb) (fun K e ht => ?_) hoA (by rfl) (by decide) rfl Try.func28 (by kernel_rfl) (by rfl) ⟨rfl, rfl, _, Try.func11⟩ ?_
 ·walk_nrm
  exact (push_s K hne (by omega) 6 e ht).mono fun v e' ⟨b, q1, q2⟩ => ⟨(b, 0), q1, q2⟩
 rintro v w3 rfl L3
 have I3 : SkI kb nb 2 true (tS2 kb nb) w3 := L3.I
 walk_nrm
 repeat (first | (refine Walk.oq ?_; try walk_nrm) | (refine Walk.un ?_; walk_nrm))
 refine Walk.callLone (L := skLa kb nb 2 true) (Rel := fun v x => v = .bool x.1) 20 (tS2 kb nb) (.inr (.pu1 7)) hA I3 (tR3 kb nb) (fun K e ht => ?_) hoA (by rfl) (by decide) rfl Try.func28 (by kernel_rfl) (by rfl) ⟨rfl, rfl, _, Try.func11⟩ ?_
 ·walk_nrm
  exact (push_s K hne (by omega) 7 e ht).mono fun v e' ⟨b, q1, q2⟩ => ⟨(b, 0), q1, q2⟩
 rintro v w4 rfl L4
 have I4 : SkI kb nb 2 true (tS3 kb nb) w4 := L4.I
 walk_nrm
 refine Walk.gz z11 ?_
 refine Walk.callLone (L := skLa kb nb 2 true) (Rel := fun v x => v = .tuple #[.int .i64 x.2, .bool x.1]) 20 (tS3 kb nb) (.inr .po1) hA I4 (tR4 kb nb) (fun K e ht => ?_) hoA (by rfl) (by decide) rfl Try.func26 (by kernel_rfl) (by rfl) ⟨rfl, rfl, _, Try.func11⟩ ?_
 ·walk_nrm
  exact (pop_s K hne (by omega) e ht).mono fun v e' ⟨b, y, q1, q2⟩ => ⟨(b, y), q1, q2⟩
 rintro v w5 rfl L5
 have I5 : SkI kb nb 2 true (tS4 kb nb) w5 := L5.I
 walk_nrm
 refine Walk.gz z11 ?_
 refine Walk.callV (x := headsV (tS4 kb nb)) (W := w5) ?_ hoA (by rfl) (by decide) rfl Try.func19 (by kernel_rfl) (by rfl) ?_
 ·walk_nrm
  exact heads_w (tS4 kb nb) w5 I5
 rw [tH4]
 walk_nrm
 refine Walk.gz z11 ?_
 refine Walk.callE hoA (by rfl) (by decide) rfl Try.func12 (by kernel_rfl) (by rfl) ?_
 walk_nrm
 have hsh : ∀ b, b < nb → ¬ (skLa kb nb 2 true).sh b := fun b hb h => by
  have h : b = kb ∨ b = nb := h
  rcases h with h | h <;> omega
 have z2 := L2.size
 have z3 := L3.size
 have z4 := L4.size
 have z5 := L5.size
 refine .stop fun d => ⟨_, rfl, fun b hb => ?_, ?_, ?_⟩
 ·exact (L5.old b (by omega) (hsh b hb)).trans ((L4.old b (by omega) (hsh b hb)).trans ((L3.old b (by omega) (hsh b hb)).trans ((L2.old b (by omega) (hsh b hb)).trans (O1 b hb))))
 ·show nb ≤ w5.heap.size
  omega
 ·intro w0 w6 cells H
  obtain ⟨A, oo, ol, ok, sg, stc, hg, hc, rfl, hcells, hcA, hch⟩ := H.all
  refine Walk.finish hoA ?_
  walk_nrm
  (refine Walk.oa ?_; try walk_nrm)
  have s7 : (w6.alloc (.cells #[.slice none 0 0, .slice none 0 0, .slice none 0 0, .bool false] 27)).heap.size = w6.heap.size + 1 := by simp
  have o7 : ∀ b, b < w6.heap.size → (w6.alloc (.cells #[.slice none 0 0, .slice none 0 0, .slice none 0 0, .bool false] 27)).heap[b]? = w6.heap[b]? := fun b hb => heap_new_lt _ _ hb
  have d7 := heap_alloc_new w6 (.cells #[.slice none 0 0, .slice none 0 0, .slice none 0 0, .bool false] 27)
  generalize hT1 : w6.heap.size = T1 at *
  generalize w6.alloc (.cells #[.slice none 0 0, .slice none 0 0, .slice none 0 0, .bool false] 27) = w7 at *
  refine Walk.storeS 27 (.tmp 8) (.tmp 43) hoA (by rfl) (by decide) rfl T1 #[.slice (some ⟨A, 0, none⟩) 3 3, .slice oo ol ok, .slice (some ⟨sg, 0, none⟩) (clSt true).length stc, .bool false] _ 27 rfl rfl d7 (by kernel_rfl) (by rfl) (by simp [Value.oneCell']) (hA _) ?_
  have d8 := setRow_self (cells := #[.slice (some ⟨A, 0, none⟩) 3 3, .slice oo ol ok, .slice (some ⟨sg, 0, none⟩) (clSt true).length stc, .bool false]) d7
  have o8 : ∀ b, b < T1 → (w7.setRow T1 #[.slice (some ⟨A, 0, none⟩) 3 3, .slice oo ol ok, .slice (some ⟨sg, 0, none⟩) (clSt true).length stc, .bool false]).heap[b]? = w6.heap[b]? := fun b hb => (setRow_other _ _ (by omega)).trans (o7 b hb)
  have s8 := setRow_size w7 T1 #[.slice (some ⟨A, 0, none⟩) 3 3, .slice oo ol ok, .slice (some ⟨sg, 0, none⟩) (clSt true).length stc, .bool false]
  rw [s7] at s8
  generalize w7.setRow T1 #[.slice (some ⟨A, 0, none⟩) 3 3, .slice oo ol ok, .slice (some ⟨sg, 0, none⟩) (clSt true).length stc, .bool false] = w8 at *
  have c82 : w8.cell? ⟨T1, 2, none⟩ = some (.slice (some ⟨sg, 0, none⟩) (clSt true).length stc) := (cell_of d8 2).trans rfl
  have c83 : w8.cell? ⟨T1, 3, none⟩ = some (.bool false) := (cell_of d8 3).trans rfl
  walk_nrm
  refine Walk.gz z11 ?_
  (refine Walk.oa ?_; try walk_nrm)
  have s9 : (w8.alloc (.cells #[.int .i64 0, .int .i64 7, .int .i64 1, .int .i64 7, .int .i64 9] 2)).heap.size = T1 + 2 := by simp [s8]
  have o9 : ∀ b, b < T1 + 1 → (w8.alloc (.cells #[.int .i64 0, .int .i64 7, .int .i64 1, .int .i64 7, .int .i64 9] 2)).heap[b]? = w8.heap[b]? := fun b hb => heap_new_lt _ _ (by omega)
  have d9 := heap_alloc_new w8 (.cells #[.int .i64 0, .int .i64 7, .int .i64 1, .int .i64 7, .int .i64 9] 2)
  have c93 : (w8.alloc (.cells #[.int .i64 0, .int .i64 7, .int .i64 1, .int .i64 7, .int .i64 9] 2)).cell? ⟨T1, 3, none⟩ = some (.bool false) := cell_alloc w8 _ c83
  rw [s8] at d9
  try simp only [s8]
  generalize w8.alloc (.cells #[.int .i64 0, .int .i64 7, .int .i64 1, .int .i64 7, .int .i64 9] 2) = w9 at *
  repeat (first | (refine Walk.oq ?_; try walk_nrm) | (refine Walk.un ?_; walk_nrm))
  refine Walk.callV (x := .bool true) (W := w9) ?_ hoA (by rfl) (by decide) rfl Try.func13 (by kernel_rfl) (by rfl) ?_
  ·walk_nrm
   refine same_w (clSt true) sg (T1 + 1) stc 5 w9 (by decide) (fun j x hx => ?_) (fun j x hx => ?_)
   ·have hh := hcells j x hx
    have hl := cell_lt' hh
    exact (World.cell?_of_block (a := ⟨sg, j, none⟩) ((o9 sg (by omega)).trans (o8 sg (by omega)))).trans hh
   ·refine (cell_of d9 j).trans ?_
    simpa [clSt, intRow] using hx
  walk_nrm
  refine Walk.gz z11 ?_
  refine Walk.on1 rfl rfl Try.func11 rfl (.stop fun d => ⟨rfl, fun b hb => ?_, ?_⟩)
  ·exact (o9 b (by omega)).trans (o8 b (by omega))
  ·show T1 ≤ w9.heap.size
   omega
theorem turns_run (c : Frame) (cs : List Frame) (w : World) : Runs (fun g w' => g = G (c.finish (.bool true)) cs ∧ (∀ b, b < w.heap.size → w'.heap[b]? = w.heap[b]?) ∧ w.heap.size ≤ w'.heap.size) (G (Frame.enter Try.prog 11 #[] .normal) (c :: cs)) w := by
 refine Runs.walk (turns_in c cs w) ?_
 rintro _ w1 ⟨fr, rfl, hO, hz, hB⟩
 refine Runs.then (classic_run true fr (c :: cs) w1) ?_
 rintro _ w2 ⟨cells, H, rfl⟩
 have hold := H.old
 have hsz := H.size
 refine Runs.walk (hB w1 w2 cells H) ?_
 rintro _ w3 ⟨rfl, hO3, hz3⟩
 exact .now ⟨rfl, fun b hb => (hO3 b (by omega)).trans ((hold b (by omega)).trans (hO b hb)), by omega⟩
end Go.Proofs.Ytdmpmoggacjgcaa
