/- Part 20. -/
import Derived.Test.YtnnakajldnaldaaK19
set_option linter.unusedSimpArgs false
set_option linter.unusedVariables false
set_option maxHeartbeats 8000000
set_option maxRecDepth 100000
namespace Go.Proofs.Ytnnakajldnaldaa
open Go.Conc Go.RowKit Go.Relay
open Go.ConcN (upd upd_ne upd_same)
section
noncomputable def mdT (Q kb lb p : Nat) (t : Int) (u : Nat → Value) : Frame :=
  (base 4).at { tmps := #[u 0, u 1, u 2, u 3, u 4, u 5, .pointer (some ⟨Q, 0, none⟩), .pointer (some ⟨kb, 0, none⟩), .pointer (some ⟨lb, 0, none⟩), .pointer (some ⟨p, 0, none⟩), u 10, u 11, u 12, .int .i64 t, u 14, u 15, u 16, u 17, u 18, u 19, u 20, u 21, u 22, u 23, u 24, u 25, u 26, u 27, u 28, u 29, u 30, u 31, u 32, u 33, u 34, u 35, u 36, u 37, u 38, u 39, u 40, u 41, u 42, u 43, u 44, u 45, u 46, u 47, u 48, u 49, u 50, u 51, u 52, u 53, u 54, u 55, u 56, u 57, u 58, u 59, u 60, u 61, u 62, u 63, u 64, u 65, u 66, u 67, u 68, u 69, u 70, u 71, u 72, u 73, u 74, u 75, u 76, u 77, u 78, u 79, u 80, u 81, u 82, u 83, u 84, u 85, u 86, u 87, u 88, u 89, u 90, u 91, u 92, u 93, u 94, u 95, u 96, u 97, u 98, u 99, u 100, u 101, u 102, u 103, u 104, u 105, u 106, u 107, u 108, u 109, u 110, u 111, u 112, u 113, u 114, u 115, u 116, u 117, u 118, u 119, u 120, u 121, u 122, u 123, u 124, u 125, u 126, u 127, u 128, u 129, u 130, u 131, u 132, u 133], defers := [] } [.code (.region 19 reg4_19 true), .code (.ret)]
theorem mdT_code (Q kb lb p : Nat) (t : Int) (u : Nat → Value) : G (mdT Q kb lb p t u) [] = G ((base 4).at ⟨tmT Q kb lb p t u, []⟩ (.code (.region 19 reg4_19 true) :: [.code .ret])) [] := rfl
section
variable {kb kr : Nat} {kra : Option Addr} {krc lb lr : Nat} {lra : Option Addr} {lrc m p : Nat}
theorem tot_end (Q : Nat) (sa : Option Addr) (sn sc : Nat) (t : Int) (W : World) (x2 : W.cell? ⟨Q, 2, none⟩ = some (.slice sa sn sc)) (u : Nat → Value) :
    Walk Try.prog true (DR (fun _ => none)) (fun g w => (∃ u, g = G (mdT Q kb lb p t u) []) ∧ ∃ d, w = W.at d) (G (hdTot Q kb lb p t sn u) []) W := by
  have hj1 : decide ((sn : Int) < sn) = false := by simp
  have hj3 : decide (sn < sn) = false := by simp
  conv => arg 5; unfold hdTot
  repeat (first | refine Walk.c rfl ?_ | refine Walk.cRet ?_ | refine Walk.cEnd ?_ | (refine Walk.cReg ?_; simp only [size4_0, size4_1, size4_2, size4_3, size4_4, size4_5, size4_6, size4_7, size4_8, size4_9, size4_11, size4_12, size4_13, size4_10, size4_14, size4_15, size4_16, size4_18, size4_17, size4_19, List.range, List.range.loop]) | (refine Walk.oq ?_; try walk_nrm) | (refine Walk.un ?_; walk_nrm))
  refine .stop fun d => ⟨at_slots ?_, d, rfl⟩
  simp only [mdT]
  rfl
theorem calls_out (Q : Nat) (t : Int) (u : Nat → Value) (h : u 4 = .bool true) (w : World) : Walk Try.prog true (DR (fun _ => none)) (fun g w' => Closing 4 4 (.bool true) g ∧ ∃ d, w' = w.at d) (G ((base 4).at ⟨tmT Q kb lb p t u, []⟩ (.inRegion reg4_19 [] :: [.code .ret])) []) w := by
  simp only [tmT, h]
  repeat (first | refine Walk.c rfl ?_ | refine Walk.cRet ?_ | refine Walk.cEnd ?_ | (refine Walk.cReg ?_; simp only [size4_0, size4_1, size4_2, size4_3, size4_4, size4_5, size4_6, size4_7, size4_8, size4_9, size4_11, size4_12, size4_13, size4_10, size4_14, size4_15, size4_16, size4_18, size4_17, size4_19, List.range, List.range.loop]) | (refine Walk.oq ?_; try walk_nrm) | (refine Walk.un ?_; walk_nrm))
  exact .stop fun d => ⟨⟨_, rfl, rfl, rfl, rfl, rfl, rfl⟩, d, rfl⟩
theorem azS_len (l : List OpV) (i : Nat) : (azS m l i).length = i := by simp [azS]
theorem azS_get (l : List OpV) (n i : Nat) (hi : i < n) : (azS m l n)[i]? = some (anS m l i) := by simp [azS, hi]
theorem cal_loop {main : Bool} (sz : Int) (oa0 : Option Addr) (n0 tc Q ab ao ac tc1 : Nat) (ta : Option Addr) (l : List OpV) (hl : l.length = min n0 65536) (hn0 : n0 ≤ 17592186044416) (W0 : World) (hm0 : 0 < m) (hm64 : m ≤ 64) (T : Two kb kr lb lr p m)
    (hop : ∀ (j : Nat) (o : OpV), l[j]? = some o → ∃ b off, oa0 = some ⟨b, off, none⟩ ∧ Off kb kr lb lr p m b ∧ W0.cell? ⟨b, off + j * 4, none⟩ = some (.int .i64 o.k) ∧ W0.cell? ⟨b, off + j * 4 + 1, none⟩ = some (.int .i64 o.a) ∧ W0.cell? ⟨b, off + j * 4 + 2, none⟩ = some (.int .i64 o.b) ∧ W0.cell? ⟨b, off + j * 4 + 3, none⟩ = some (.int .i64 o.c))
    (hQ : Off kb kr lb lr p m Q) (hab : Off kb kr lb lr p m ab) (x0 : W0.cell? ⟨Q, 0, none⟩ = some (.slice (some ⟨ab, ao, none⟩) 1 ac)) (x1 : W0.cell? ⟨ab, ao, none⟩ = some (.slice ta l.length tc1)) (hA : AnsA ta (azS m l l.length) W0) (hta : ∀ b o, ta = some ⟨b, o, none⟩ → 0 < l.length → Off kb kr lb lr p m b) (cs : List Frame) :
    ∀ (r i : Nat) (w : World) (u : Nat → Value), i + r = l.length → CalI kb kr kra krc lb lr lra lrc m p (prS m l i).1 (prS m l i).2 W0 w →
    Walk Try.prog main (DR (fun _ => none)) (fun g w' => (∃ u, g = G (hdTot Q kb lb p 0 0 u) cs) ∧ CalI kb kr kra krc lb lr lra lrc m p (prS m l l.length).1 (prS m l l.length).2 W0 w') (G (hdCal sz (.slice oa0 n0 tc) m Q kb lb p i u) cs) w := by
  intro r
  induction r with
  | zero =>
    intro i w u hi I
    have hi : i = l.length := hi
    subst hi
    have hcell : ∀ {x y : Nat} {v : Value}, Off kb kr lb lr p m x → W0.cell? ⟨x, y, none⟩ = some v → w.cell? ⟨x, y, none⟩ = some v := fun {x y v} e h => (World.cell?_of_block (a := ⟨x, y, none⟩) (I.old x (cell_lt' h) e)).trans h
    refine (cal_end sz _ Q ab ao ac l.length tc1 ta w (hcell hQ x0) (hcell hab x1) cs u).mono ?_
    rintro g w' ⟨⟨u, rfl⟩, d, rfl⟩
    exact ⟨⟨u, rfl⟩, I.at d⟩
  | succ r ih =>
    intro i w u hi I
    have hil : i < l.length := by omega
    have ho : l[i]? = some l[i] := List.getElem?_eq_getElem hil
    generalize l[i] = o at ho
    obtain ⟨b, off, rfl, hOb, o0, o1, o2, o3⟩ := hop i o ho
    obtain ⟨b1, o1', rfl, a0, a1, a2⟩ := hA i _ (azS_get l l.length i hil)
    have ha : anS m l i = (oneS m (prS m l i).1 o).2.1 := by unfold anS; rw [ho]
    rw [ha] at a0 a1
    have hcell : ∀ {x y : Nat} {v : Value}, Off kb kr lb lr p m x → W0.cell? ⟨x, y, none⟩ = some v → w.cell? ⟨x, y, none⟩ = some v := fun {x y v} e h => (World.cell?_of_block (a := ⟨x, y, none⟩) (I.old x (cell_lt' h) e)).trans h
    have hO1 := hta b1 o1' rfl (by omega)
    have hle := prS_le m hm0 l i
    have hle2 : i * (m + m + 2) ≤ 65536 * 130 := Nat.mul_le_mul (by omega) (by omega)
    refine (cal_round sz b off n0 tc Q i ab ao ac b1 o1' l.length tc1 (prS m l i).1 (prS m l i).2 o (by omega) hn0 hil (by omega) W0 w hm0 I (by omega) T hOb hQ hab hO1 (hcell hQ x0) (hcell hab x1) (hcell hO1 a0) (hcell hO1 a1) (hcell hO1 a2) (hcell hOb o0) (hcell hOb o1) (hcell hOb o2) (hcell hOb o3) cs u).then ?_
    rintro g w' ⟨⟨u', rfl⟩, I'⟩
    have hp := prS_succ (m := m) l i o ho
    refine ih (i + 1) w' u' (by omega) ?_
    rw [hp]
    exact I'
theorem sc_tail (Q : Nat) (oa : Option Addr) (oc sb so sc : Nat) (S : Sp) (c : Nat) (W0 : World) (hm0 : 0 < m) (hm64 : m ≤ 64) (T : Two kb kr lb lr p m) (hc : c ≤ 9223372036854)
    (hQ : Off kb kr lb lr p m Q) (hsb : Off kb kr lb lr p m sb) (x1 : W0.cell? ⟨Q, 1, none⟩ = some (.slice oa c oc)) (x2 : W0.cell? ⟨Q, 2, none⟩ = some (.slice (some ⟨sb, so, none⟩) m sc)) (hst : NumA (some ⟨sb, so, none⟩) (stL S m) W0) (w : World) (u : Nat → Value) (I : CalI kb kr kra krc lb lr lra lrc m p S c W0 w) :
    Walk Try.prog true (DR (fun _ => none)) (fun g w' => Closing 4 4 (.bool true) g ∧ ∀ b, b < W0.heap.size → Off kb kr lb lr p m b → w'.heap[b]? = W0.heap[b]?) (G (hdTot Q kb lb p 0 0 u) []) w := by
  have hcell : ∀ {x y : Nat} {v : Value}, Off kb kr lb lr p m x → W0.cell? ⟨x, y, none⟩ = some v → w.cell? ⟨x, y, none⟩ = some v := fun {x y v} e h => (World.cell?_of_block (a := ⟨x, y, none⟩) (I.old x (cell_lt' h) e)).trans h
  have hst' : NumA (some ⟨sb, so, none⟩) (stL S m) w := fun j x hx => by
    obtain ⟨b', o', e, h⟩ := hst j x hx
    cases e
    exact ⟨sb, so, rfl, hcell hsb h⟩
  have y1 := hcell hQ x1
  have y2 := hcell hQ x2
  have hlen : (stL S m).length = m := stL_len S m
  have loop : ∀ (r j : Nat) (u : Nat → Value), j + r = m → Walk Try.prog true (DR (fun _ => none)) (fun g w' => (∃ u, g = G (mdT Q kb lb p (sumZ (stL S m)) u) []) ∧ ∃ d, w' = w.at d) (G (hdTot Q kb lb p (sumZ ((stL S m).take j)) j u) []) w := by
    intro r
    induction r with
    | zero =>
      intro j u hj
      have hj : j = m := hj
      subst hj
      rw [List.take_of_length_le (Nat.le_of_eq hlen)]
      exact tot_end Q _ j sc _ w y2 u
    | succ r ih =>
      intro j u hj
      have hjl : j < (stL S m).length := by omega
      have hx : (stL S m)[j]? = some ((stL S m)[j]) := List.getElem?_eq_getElem hjl
      have htk : (stL S m).take (j + 1) = (stL S m).take j ++ [(stL S m)[j]] := List.take_succ_eq_append_getElem hjl
      obtain ⟨b', o', e, h⟩ := hst' j _ hx
      cases e
      refine (tot_go (kb := kb) (lb := lb) (p := p) Q sb so m sc j (sumZ ((stL S m).take j)) _ (by omega) hm64 w y2 h [] u).then ?_
      rintro g w' ⟨⟨u', rfl⟩, d, rfl⟩
      refine Walk.back ?_ d
      rw [← sumZ_snoc, ← htk]
      exact ih (j + 1) u' (by omega)
  have h0 := loop m 0 u (by omega)
  have e0 : sumZ ((stL S m).take 0) = 0 := rfl
  rw [e0] at h0
  refine h0.then ?_
  rintro g w' ⟨⟨u', rfl⟩, d, rfl⟩
  refine Walk.back ?_ d
  rw [mdT_code]
  refine calls_last Q sb so sc oc oa (sumZ (stL S m)) hm0 hm64 T W0 I rfl hc y1 y2 hQ hsb hst' [.code .ret] [] u' fun u2 w2 h4 hO hZ => ?_
  refine (calls_out Q (sumZ (stL S m)) u2 h4 w2).mono ?_
  rintro g _ ⟨hC, d, rfl⟩
  have hIs := I.size
  exact ⟨hC, fun b hb hOf => (hO b (by omega) hOf).trans (I.old b hb hOf)⟩
end
theorem rplay1 (m : Nat) (hm : stN ((m : Nat) : Int) = m) (oa0 : Option Addr) (n0 tc T : Nat) (l : List OpV) (w2 : World) (hz : w2.heap[T]? = some (.cells (madeCells #[.int .i64 0] (m * 1)) 2)) (O : OpsIn (T + 1) 0 1 (fun _ => oa0) (fun _ => n0) (fun _ => tc) (fun _ => l) w2) (hmm : m ≤ 64) :
    CallW Try.prog true (fun _ => none) 15 #[.slice (some ⟨T, 0, none⟩) m m, .slice (some ⟨T + 1, 0, none⟩) 1 1, .slice none 0 0, .int .i64 1048576] w2 (RPl 1 (spLa 0 0 m none 0) (fun s => stL s m) w2 (playO (spLa 0 0 m none 0) sp0 (fun _ => l) 1 1048576 [])) := by
  have e : stN ((List.replicate m (0 : Int)).length : Int) = m := by rw [List.length_replicate]; exact hm
  have h := rplay_w (main := true) 0 0 0 none (some ⟨T, 0, none⟩) (List.replicate m 0) m (by rw [List.length_replicate]; omega) (T + 1) 0 1 1 1 rfl (some ⟨T + 1, 0, none⟩) (fun _ => rfl) (fun _ => oa0) (fun _ => n0) (fun _ => tc) (fun _ => l) none 0 [] 1048576 w2 (zeros_in hz) O (Nat.zero_le _) (fun j z hj => by simp at hj)
  rw [e, spJ_zero, List.length_replicate] at h
  exact h
theorem sc_all (sz : Int) (oa0 : Option Addr) (n0 tc : Nat) (hcap : n0 ≤ tc) (had : (oa0 = none ∧ tc = 0) ∨ ∃ p, oa0 = some p) (hn0 : n0 ≤ 17592186044416) (l : List OpV) (hl : l.length = min n0 65536) (W : World)
    (hop : ∀ (j : Nat) (o : OpV), l[j]? = some o → ∃ b off, oa0 = some ⟨b, off, none⟩ ∧ W.cell? ⟨b, off + j * 4, none⟩ = some (.int .i64 o.k) ∧ W.cell? ⟨b, off + j * 4 + 1, none⟩ = some (.int .i64 o.a) ∧ W.cell? ⟨b, off + j * 4 + 2, none⟩ = some (.int .i64 o.b) ∧ W.cell? ⟨b, off + j * 4 + 3, none⟩ = some (.int .i64 o.c)) :
    Runs (fun g w' => Closing 4 4 (.bool true) g ∧ ∀ b, b < W.heap.size → w'.heap[b]? = W.heap[b]?) (G (Frame.enter Try.prog 4 #[.int .i64 sz, .slice oa0 n0 tc] .normal) []) W := by
  obtain ⟨q1, q2, q3⟩ := stN_le sz
  have hidem := stN_idem sz
  refine Runs.walk (sc_in sz (.slice oa0 n0 tc) W) ?_
  rintro _ _ ⟨fr, rfl, ⟨d, rfl⟩, hB⟩
  refine Runs.then (fixed_run fr [] (W.at d)) ?_
  rintro _ w1 ⟨rfl, O1, Z1⟩
  have O1 : ∀ b, b < W.heap.size → w1.heap[b]? = W.heap[b]? := O1
  have Z1 : W.heap.size ≤ w1.heap.size := Z1
  generalize hm : stN sz = m at *
  have hF := playO_short (spLa 0 0 m none 0) sp0 (fun _ => l) 1 1048576 []
  have hal := alone_S (cb := 0) (rb := 0) (m := m) (rc := 0) (ra := none) (by omega) (fun _ => l) 1048576
  have hpl := fun T w2 hz O => rplay1 m hidem oa0 n0 tc T l w2 hz O q2
  generalize playO (spLa 0 0 m none 0) sp0 (fun _ => l) 1 1048576 [] = F at *
  refine Runs.walk (hB w1 oa0 n0 tc (fun cells w => TrA cells 1 (fun i => (F.1.th i).ans) F.2 (stL F.1.s m) (stuckO 1 F.1) w) rfl fun w2 T hO2 hZ2 hT hz hh => ?_) ?_
  · have O : OpsIn (T + 1) 0 1 (fun _ => oa0) (fun _ => n0) (fun _ => tc) (fun _ => l) w2 := by
      refine ⟨fun i hi => ?_, fun _ _ => hcap, fun _ _ => had, fun _ _ => hl, fun i hi j o ho => ?_⟩
      · have hi : i = 0 := by omega
        subst hi
        exact (cell_of hh 0).trans rfl
      · obtain ⟨b, off, e, c0, c1, c2, c3⟩ := hop j o ho
        have hb : w2.heap[b]? = W.heap[b]? := (hO2 b (by have := cell_lt' c0; omega)).trans (O1 b (cell_lt' c0))
        exact ⟨b, off, e, (World.cell?_of_block (a := ⟨b, _, none⟩) hb).trans c0, (World.cell?_of_block (a := ⟨b, _, none⟩) hb).trans c1, (World.cell?_of_block (a := ⟨b, _, none⟩) hb).trans c2, (World.cell?_of_block (a := ⟨b, _, none⟩) hb).trans c3⟩
    intro c' cs'
    refine (hpl T w2 hz O c' cs').mono ?_
    rintro g w' ⟨v, ⟨cells, rfl, hT', hC, _⟩, hg⟩
    have hCs := hC.size
    obtain ⟨aa, ac, oa', oc', sa', sc', e, _⟩ := hT'.all
    subst e
    exact ⟨_, ⟨_, _, _, _, rfl, by simp [Value.oneCell'], hT', fun b hb => (hC.same b (by omega) id).trans (hO2 b hb), by omega⟩, hg⟩
  rintro g w4 ⟨x0, x1, x2, x3, w3, Q, hY, hQ, hO3, hZ3, dQ, lowQ, hcase⟩
  have up : ∀ b, b < W.heap.size → w4.heap[b]? = W.heap[b]? := fun b hb => (lowQ b (by omega)).trans ((hO3 b (by omega)).trans (O1 b hb))
  rcases hcase with ⟨_, hC⟩ | ⟨rfl, ⟨u, rfl⟩, I⟩
  · exact .now ⟨hC, up⟩
  obtain ⟨aa, ac, oa', oc', sa', sc', e, n1, n2, n3⟩ := hY.all
  have e : x0 = .slice aa 1 ac ∧ x1 = .slice oa' F.2.length oc' ∧ x2 = .slice sa' (stL F.1.s m).length sc' ∧ false = stuckO 1 F.1 := by
    simp only [trC, Array.mk.injEq, List.cons.injEq, Value.bool.injEq] at e
    exact ⟨e.1, e.2.1, e.2.2.1, e.2.2.2.1⟩
  obtain ⟨rfl, rfl, rfl, hst⟩ := e
  obtain ⟨a1, a2, a3⟩ := hal hst.symm
  have a2 : (F.1.th 0).ans = azS m l l.length := a2
  obtain ⟨ab, ao, ta, tc1, rfl, k1, k2⟩ := n3 0 (by decide)
  have k1 : w3.cell? ⟨ab, ao + 0, none⟩ = some (.slice ta (F.1.th 0).ans.length tc1) := k1
  have k2 : AnsA ta (F.1.th 0).ans w3 := k2
  rw [a2] at k1 k2
  rw [azS_len, Nat.add_zero] at k1
  have a1 : F.1.s = (prS m l l.length).1 := a1
  have a3 : F.2.length = (prS m l l.length).2 := a3
  rw [a3] at dQ
  have hlF : (stL F.1.s m).length = m := stL_len F.1.s m
  rw [hlF] at dQ
  have hsm : (stL F.1.s m) = stL (prS m l l.length).1 m := congrArg (fun s => stL s m) a1
  rw [hsm] at n2
  have hQ4 : Q < w4.heap.size := (Array.getElem?_eq_some_iff.1 dQ).1
  have offQ : ∀ b, b ≤ Q → Off (Q + 1 + 1) (Q + 1) (Q + 1 + 2 + 1) (Q + 1 + 2) (Q + 1 + 2 + 2) m b := fun b hb => ⟨fun h => by omega, fun h => by omega, by omega⟩
  have T : Two (Q + 1 + 1) (Q + 1) (Q + 1 + 2 + 1) (Q + 1 + 2) (Q + 1 + 2 + 2) m := ⟨by omega, by omega, by omega, fun _ => by omega⟩
  have hcl : ∀ {x y : Nat} {v : Value}, w3.cell? ⟨x, y, none⟩ = some v → x < Q ∧ w4.cell? ⟨x, y, none⟩ = some v := fun {x y v} h => by
    have hx := cell_lt' h
    exact ⟨by omega, (World.cell?_of_block (a := ⟨x, y, none⟩) (lowQ x (by omega))).trans h⟩
  have k2' : AnsA ta (azS m l l.length) w4 := fun i x hx => by
    obtain ⟨b, o, e, h1, h2, h3⟩ := k2 i x hx
    exact ⟨b, o, e, (hcl h1).2, (hcl h2).2, (hcl h3).2⟩
  obtain ⟨sb, so, rfl, hsb⟩ : ∃ sb so, sa' = some ⟨sb, so, none⟩ ∧ sb < Q := by
    have hx : (stL (prS m l l.length).1 m)[0]? = some ((stL (prS m l l.length).1 m)[0]'(by rw [stL_len]; omega)) := List.getElem?_eq_getElem _
    obtain ⟨b, o, e, h⟩ := n2 0 _ hx
    exact ⟨b, o, e, (hcl h).1⟩
  have hst4 : NumA (some ⟨sb, so, none⟩) (stL (prS m l l.length).1 m) w4 := fun j x hx => by
    obtain ⟨b, o, e, h⟩ := n2 j x hx
    exact ⟨b, o, e, (hcl h).2⟩
  have hle := prS_le m (by omega) l l.length
  have hle2 : l.length * (m + m + 2) ≤ 65536 * 130 := Nat.mul_le_mul (by omega) (by omega)
  refine Runs.walk (Stop := fun g w' => Closing 4 4 (.bool true) g ∧ ∀ b, b < w4.heap.size → Off (Q + 1 + 1) (Q + 1) (Q + 1 + 2 + 1) (Q + 1 + 2) (Q + 1 + 2 + 2) m b → w'.heap[b]? = w4.heap[b]?) ((cal_loop sz oa0 n0 tc Q ab ao ac tc1 ta l hl hn0 w4 (by omega) q2 T (fun j o ho => ?_) (offQ Q (Nat.le_refl _)) (offQ ab (by have := (hcl k1).1; omega)) ((cell_of dQ 0).trans rfl) (hcl k1).2 k2' (fun b o e hpos => ?_) [] l.length 0 w4 u (by omega) (by rw [prS_zero]; exact I)).then ?_) ?_
  · obtain ⟨b, off, e, c0, c1, c2, c3⟩ := hop j o ho
    have hbW := cell_lt' c0
    have hb := up b hbW
    exact ⟨b, off, e, offQ b (by omega), (World.cell?_of_block (a := ⟨b, _, none⟩) hb).trans c0, (World.cell?_of_block (a := ⟨b, _, none⟩) hb).trans c1, (World.cell?_of_block (a := ⟨b, _, none⟩) hb).trans c2, (World.cell?_of_block (a := ⟨b, _, none⟩) hb).trans c3⟩
  · obtain ⟨b', o', e', h1, _⟩ := k2 0 _ (azS_get l l.length 0 hpos)
    rw [e] at e'
    cases e'
    exact offQ b (by have := (hcl h1).1; omega)
  · rintro g w5 ⟨⟨u', rfl⟩, I5⟩
    exact sc_tail Q oa' oc' sb so sc' (prS m l l.length).1 (prS m l l.length).2 w4 (by omega) q2 T (by omega) (offQ Q (Nat.le_refl _)) (offQ sb (by omega)) ((cell_of dQ 1).trans rfl) ((cell_of dQ 2).trans rfl) hst4 w5 u' I5
  · rintro g w6 ⟨hC, hO⟩
    exact .now ⟨hC, fun b hb => (hO b (by omega) (offQ b (by omega))).trans (up b hb)⟩
end
end Go.Proofs.Ytnnakajldnaldaa
