/- Part 9. -/
import Derived.Test.YtjenoiekfkhafaaJ4
import Derived.Test.YtjenoiekfkhafaaJ5
import Derived.Test.YtjenoiekfkhafaaJ7
import Derived.Test.YtjenoiekfkhafaaJ8
set_option linter.unusedSimpArgs false
set_option linter.unusedVariables false
set_option maxHeartbeats 8000000
set_option maxRecDepth 100000
namespace Go.Proofs.Ytjenoiekfkhafaa
open Go.Conc Go.RowKit Go.Relay
open Go.ConcN (upd upd_ne upd_same)
section
section
variable {S : Stile} {X : Type}
def goingX (C : Crew S X) (x : X) : Nat := (List.range S.n).countP (fun i => (C.out x i).isNone)
def overX (C : Crew S X) (st : X × List Nat) : Bool := decide (goingX C st.1 = 0) || decide (S.most ≤ st.2.length)
def stepX (C : Crew S X) (st : X × List Nat) (z : Int) : X × List Nat :=
  if overX C st = false ∧ 0 ≤ z ∧ z < S.n ∧ C.out st.1 z.toNat = none then (C.next st.1 z.toNat, st.2 ++ [z.toNat]) else st
def roundX (C : Crew S X) (st : X × List Nat) : X × List Nat := (List.range S.n).foldl (fun st i => stepX C st (i : Nat)) st
def restX (C : Crew S X) : Nat → X × List Nat → X × List Nat
  | 0, st => st
  | f + 1, st => if overX C st then st else restX C f (roundX C st)
def followX (C : Crew S X) (st : X × List Nat) (l : List Int) : X × List Nat := restX C S.most.toNat (l.foldl (stepX C) st)
variable {C : Crew S X} {st : X × List Nat}
theorem stepX_over (h : overX C st = true) (z : Int) : stepX C st z = st := by
  unfold stepX
  rw [if_neg]
  rintro ⟨h', _⟩
  rw [h] at h'; cases h'
theorem foldX_over (h : overX C st = true) : ∀ l : List Int, l.foldl (stepX C) st = st
  | [] => rfl
  | z :: l => by rw [List.foldl_cons, stepX_over h, foldX_over h l]
theorem restX_over (h : overX C st = true) : ∀ f, restX C f st = st
  | 0 => rfl
  | f + 1 => by rw [restX, if_pos h]
theorem followX_over (h : overX C st = true) (l : List Int) : followX C st l = st := by
  unfold followX
  rw [foldX_over h, restX_over h]
theorem stepX_len (z : Int) : st.2.length ≤ (stepX C st z).2.length := by
  unfold stepX
  split
  · simp
  · exact Nat.le_refl _
theorem roundX_mono : ∀ (l : List Nat) (st : X × List Nat), st.2.length ≤ (l.foldl (fun st i => stepX C st (i : Nat)) st).2.length
  | [], _ => Nat.le_refl _
  | _ :: l, _ => Nat.le_trans (stepX_len _) (roundX_mono l _)
theorem roundX_grow {i : Nat} (hi : i < S.n) : ∀ (l : List Nat) (st : X × List Nat), i ∈ l → overX C st = false → C.out st.1 i = none → st.2.length + 1 ≤ (l.foldl (fun st i => stepX C st (i : Nat)) st).2.length
  | [], _, h, _, _ => by cases h
  | a :: l, st, h, ho, hn => by
    rw [List.foldl_cons]
    by_cases hs : overX C st = false ∧ 0 ≤ (a : Int) ∧ (a : Int) < S.n ∧ C.out st.1 (a : Int).toNat = none
    · have : (stepX C st a).2.length = st.2.length + 1 := by unfold stepX; rw [if_pos hs]; simp
      rw [← this]
      exact roundX_mono l _
    · have : stepX C st a = st := by unfold stepX; rw [if_neg hs]
      rw [this]
      rcases List.mem_cons.1 h with rfl | h
      · exact absurd ⟨ho, by omega, by omega, by simpa using hn⟩ hs
      · exact roundX_grow hi l st h ho hn
theorem round_grow (h : overX C st = false) : st.2.length + 1 ≤ (roundX C st).2.length := by
  have hg : goingX C st.1 ≠ 0 := by
    intro e
    unfold overX at h
    rw [e] at h
    simp at h
  obtain ⟨i, hi, hn⟩ := List.countP_pos_iff.1 (Nat.pos_of_ne_zero hg)
  have hi : i < S.n := List.mem_range.1 hi
  exact roundX_grow hi _ _ (List.mem_range.2 hi) h (by simpa using hn)
end
section
variable {S : Stile} {X : Type} {C : Crew S X} {n0 : Nat} {D D' : Dyn} {w w' : World} {i j nG : Nat} {m : Machine} {T : Trace} {l : List Frame} {x : X}
theorem Drv.going (hD : Drv C n0 D x w) (hk : D.k = S.n) : D.gg = goingX C x := by
  rw [hD.gg]
  unfold Ytjenoiekfkhafaa.going goingX
  refine List.countP_congr fun i hi => ?_
  have hi : i < S.n := List.mem_range.1 hi
  rw [hD.fe i, (hD.out i (by omega)).1]
  cases C.out x i <;> simp
theorem Drv.over (hD : Drv C n0 D x w) (hk : D.k = S.n) : (decide ((D.gg : Int) = 0) || decide (S.most ≤ D.ord.length)) = overX C (x, D.ord) := by
  unfold overX
  rw [← hD.going hk]
  have : decide ((D.gg : Int) = 0) = decide (D.gg = 0) := decide_eq_decide.2 (by omega)
  rw [this]
theorem step_any {c : Frame} {cs0 : List Frame} (hD : Drv C n0 D x w) (hk : D.k = S.n) (z : Int)
    (A : At Try.prog (VV S D none none) 0 (S.g0 + S.n) (G (Frame.enter Try.prog 87 #[.pointer (some ⟨S.B, 0, none⟩), .int .i64 z] .normal) (c :: cs0)) w m T) :
    Relay.Comes Try.prog (fun m' T' => ∃ D' w' x', At Try.prog (VV S D' none none) 0 (S.g0 + S.n) (G (c.finish (.tuple #[])) cs0) w' m' T' ∧ Drv C n0 D' x' w' ∧ (x', D'.ord) = stepX C (x, D.ord) z ∧ D'.k = S.n) m T := by
  have hs := hD.sys
  obtain ⟨t0, t1, t2, t3, _, _⟩ := hs.tB
  have same : ∀ {m' T'}, ¬ (overX C (x, D.ord) = false ∧ 0 ≤ z ∧ z < S.n ∧ C.out x z.toNat = none) → (∃ g' w', (g' = G (c.finish (.tuple #[])) cs0 ∧ ∃ d, w' = w.at d) ∧ At Try.prog (VV S D none none) 0 (S.g0 + S.n) g' w' m' T') →
      ∃ D' w' x', At Try.prog (VV S D' none none) 0 (S.g0 + S.n) (G (c.finish (.tuple #[])) cs0) w' m' T' ∧ Drv C n0 D' x' w' ∧ (x', D'.ord) = stepX C (x, D.ord) z ∧ D'.k = S.n := by
    rintro m' T' hne ⟨_, _, ⟨rfl, d, rfl⟩, A'⟩
    exact ⟨D, _, x, A', ⟨hs.at d, C.keep hD.inv ((Keeps.refl _ _).at d), hD.fe, hD.out, hD.fresh, hD.gg, hD.most, hD.cnt⟩, by unfold stepX; rw [if_neg hne], hk⟩
  by_cases h0 : z < 0
  · exact (At.walk (h := 0) (step_low S.B z c cs0 w h0) A).mono fun _ _ h => same (by omega) h
  by_cases h1 : (S.n : Int) ≤ z
  · exact (At.walk (h := 0) (step_high S.B S.sb S.n S.scap z c cs0 w (by omega) h1 t0) A).mono fun _ _ h => same (by omega) h
  obtain ⟨i, rfl⟩ : ∃ i : Nat, z = i := ⟨z.toNat, by omega⟩
  have hi : i < S.n := by omega
  have hz : (i : Int).toNat = i := by omega
  obtain ⟨ho1, ho2⟩ := hD.out i (by omega)
  cases he : D.e i with
  | true =>
    refine (At.walk (h := 0) (step_ended S.B S.sb S.n S.scap i (S.p i) c cs0 w hi t0 (hs.ss hi) (by rw [hs.p2 hi, hD.fe i, he])) A).mono fun _ _ h => same (fun z => ?_) h
    rw [hz] at z
    rw [he, z.2.2.2] at ho1; cases ho1
  | false =>
    have hout : C.out x i = none := by rw [he] at ho1; exact Option.not_isSome_iff_eq_none.1 (by rw [← ho1]; simp)
    have hov := hD.over hk
    cases hx : overX C (x, D.ord) with
    | true =>
      refine (At.walk (h := 0) (step_over S.B S.sb S.n S.scap i (S.p i) D.gg S.most D.oa D.ord.length D.oc c cs0 w hi t0 (hs.ss hi) (by rw [hs.p2 hi, hD.fe i, he]) t1 t2 t3 (hov.trans hx)) A).mono fun _ _ h => same (fun z => ?_) h
      rw [hx] at z; cases z.1
    | false =>
      rw [← hk] at A
      refine (step_turn hD (by omega) he (hov.trans hx) A).mono ?_
      rintro m' T' ⟨D', w', A', hD', hor, hk'⟩
      rw [hk'] at A'
      rw [hk] at A'
      refine ⟨D', w', C.next x i, A', hD', ?_, hk'.trans hk⟩
      unfold stepX
      rw [if_pos ⟨hx, by omega, by omega, by rw [hz]; exact hout⟩, hz, hor]
theorem round_loop {sa : Option Addr} {mm c : Nat} {cs0 : List Frame} : ∀ (r j : Nat) {D : Dyn} {x : X} {w : World} {u : Nat → Value} {m : Machine} {T : Trace}, j + r = S.n → Drv C n0 D x w → D.k = S.n →
    At Try.prog (VV S D none none) 0 (S.g0 + S.n) (G (hd55c S.B sa mm c S.n j u) cs0) w m T →
    Relay.Comes Try.prog (fun m' T' => ∃ D' w' x' u', At Try.prog (VV S D' none none) 0 (S.g0 + S.n) (G (hd55b S.B sa mm c u') cs0) w' m' T' ∧ Drv C n0 D' x' w' ∧ (x', D'.ord) = (List.range' j r).foldl (fun st i => stepX C st (i : Nat)) (x, D.ord) ∧ D'.k = S.n) m T
  | 0, j, D, x, w, u, m, T, hj, hD, hk, A => by
    have hj : j = S.n := hj
    rw [hj] at A
    refine (At.walk (h := 0) (round_out S.B S.n sa mm c u cs0 w) A).mono ?_
    rintro m' T' ⟨_, _, ⟨⟨u', rfl⟩, d, rfl⟩, A'⟩
    exact ⟨D, _, x, u', A', ⟨hD.sys.at d, C.keep hD.inv ((Keeps.refl _ _).at d), hD.fe, hD.out, hD.fresh, hD.gg, hD.most, hD.cnt⟩, rfl, hk⟩
  | r + 1, j, D, x, w, u, m, T, hj, hD, hk, A => by
    refine (At.walk (h := 0) (Stop := fun g w' => g = G (Frame.enter Try.prog 87 #[.pointer (some ⟨S.B, 0, none⟩), .int .i64 j] .normal) (fr55c S.B sa mm c S.n j u :: cs0) ∧ ∃ d, w' = w.at d) (round_go S.B S.n j sa mm c u cs0 w (by omega) (.stop fun d => ⟨rfl, d, rfl⟩)) A).bind ?_
    rintro m1 T1 ⟨_, _, ⟨rfl, d, rfl⟩, A1⟩
    have hD1 : Drv C n0 D x (w.at d) := ⟨hD.sys.at d, C.keep hD.inv ((Keeps.refl _ _).at d), hD.fe, hD.out, hD.fresh, hD.gg, hD.most, hD.cnt⟩
    refine (step_any hD1 hk j A1).bind ?_
    rintro m2 T2 ⟨D2, w2, x2, A2, hD2, hx2, hk2⟩
    refine (At.walk (h := 0) (round_next S.B S.n j sa mm c u cs0 w2 (by omega) hD.sys.n64) A2).bind ?_
    rintro m3 T3 ⟨_, _, ⟨⟨u', rfl⟩, d3, rfl⟩, A3⟩
    have hD3 : Drv C n0 D2 x2 (w2.at d3) := ⟨hD2.sys.at d3, C.keep hD2.inv ((Keeps.refl _ _).at d3), hD2.fe, hD2.out, hD2.fresh, hD2.gg, hD2.most, hD2.cnt⟩
    refine (round_loop r (j + 1) (by omega) hD3 hk2 A3).mono ?_
    rintro m4 T4 ⟨D4, w4, x4, u4, A4, hD4, hx4, hk4⟩
    refine ⟨D4, w4, x4, u4, A4, hD4, ?_, hk4⟩
    rw [hx4, hx2, List.range'_succ, List.foldl_cons]
theorem rounds {sa : Option Addr} {mm c : Nat} {c' : Frame} {cs0 : List Frame} : ∀ (f : Nat) {D : Dyn} {x : X} {w : World} {u : Nat → Value} {m : Machine} {T : Trace}, S.most ≤ (D.ord.length + f : Nat) → Drv C n0 D x w → D.k = S.n →
    At Try.prog (VV S D none none) 0 (S.g0 + S.n) (G (hd55b S.B sa mm c u) (c' :: cs0)) w m T →
    Relay.Comes Try.prog (fun m' T' => ∃ D' w' x', At Try.prog (VV S D' none none) 0 (S.g0 + S.n) (G (c'.finish (.tuple #[])) cs0) w' m' T' ∧ Drv C n0 D' x' w' ∧ (x', D'.ord) = restX C f (x, D.ord) ∧ D'.k = S.n ∧ overX C (x', D'.ord) = true) m T := by
  have fin : ∀ (f : Nat) {D : Dyn} {x : X} {w : World} {u : Nat → Value} {m : Machine} {T : Trace}, overX C (x, D.ord) = true → Drv C n0 D x w → D.k = S.n → At Try.prog (VV S D none none) 0 (S.g0 + S.n) (G (hd55b S.B sa mm c u) (c' :: cs0)) w m T →
      Relay.Comes Try.prog (fun m' T' => ∃ D' w' x', At Try.prog (VV S D' none none) 0 (S.g0 + S.n) (G (c'.finish (.tuple #[])) cs0) w' m' T' ∧ Drv C n0 D' x' w' ∧ (x', D'.ord) = restX C f (x, D.ord) ∧ D'.k = S.n ∧ overX C (x', D'.ord) = true) m T := by
    intro f D x w u m T ho hD hk A
    obtain ⟨_, t1, t2, t3, _, _⟩ := hD.sys.tB
    refine (At.walk (h := 0) (round_over S.B sa mm c D.gg S.most D.oa D.ord.length D.oc u c' cs0 w t1 t2 t3 ((hD.over hk).trans ho)) A).mono ?_
    rintro m' T' ⟨_, _, ⟨rfl, d, rfl⟩, A'⟩
    exact ⟨D, _, x, A', ⟨hD.sys.at d, C.keep hD.inv ((Keeps.refl _ _).at d), hD.fe, hD.out, hD.fresh, hD.gg, hD.most, hD.cnt⟩, (restX_over ho f).symm, hk, ho⟩
  intro f
  induction f with
  | zero =>
    intro D x w u m T hf hD hk A
    refine fin 0 ?_ hD hk A
    unfold overX
    have : decide (S.most ≤ (x, D.ord).2.length) = true := decide_eq_true (by simpa using hf)
    rw [this, Bool.or_true]
  | succ f ih =>
    intro D x w u m T hf hD hk A
    cases ho : overX C (x, D.ord) with
    | true => exact fin _ ho hD hk A
    | false =>
      obtain ⟨t0, t1, t2, t3, _, _⟩ := hD.sys.tB
      refine (At.walk (h := 0) (round_in S.B S.sb S.n S.scap sa mm c D.gg S.most D.oa D.ord.length D.oc u (c' :: cs0) w t0 t1 t2 t3 ((hD.over hk).trans ho)) A).bind ?_
      rintro m1 T1 ⟨_, _, ⟨⟨u', rfl⟩, d, rfl⟩, A1⟩
      have hD1 : Drv C n0 D x (w.at d) := ⟨hD.sys.at d, C.keep hD.inv ((Keeps.refl _ _).at d), hD.fe, hD.out, hD.fresh, hD.gg, hD.most, hD.cnt⟩
      refine (round_loop S.n 0 (by omega) hD1 hk A1).bind ?_
      rintro m2 T2 ⟨D2, w2, x2, u2, A2, hD2, hx2, hk2⟩
      rw [← List.range_eq_range'] at hx2
      have hx2 : (x2, D2.ord) = roundX C (x, D.ord) := hx2
      have hg := round_grow ho
      rw [← hx2] at hg
      simp only at hg
      refine (ih (by omega) hD2 hk2 A2).mono ?_
      rintro m3 T3 ⟨D3, w3, x3, A3, hD3, hx3, hk3, ho3⟩
      refine ⟨D3, w3, x3, A3, hD3, ?_, hk3, ho3⟩
      rw [hx3, hx2, restX, if_neg (by rw [ho]; simp)]
theorem follow_all {c' : Frame} {cs0 : List Frame} : ∀ (l : List Int) (j : Nat) {D : Dyn} {x : X} {w : World} {u : Nat → Value} {m : Machine} {T : Trace}, S.sl.drop j = l → j ≤ S.sl.length → S.sl.length ≤ 17592186044416 → Drv C n0 D x w → D.k = S.n →
    At Try.prog (VV S D none none) 0 (S.g0 + S.n) (G (hd55 S.B S.sa S.sl.length S.sc j u) (c' :: cs0)) w m T →
    Relay.Comes Try.prog (fun m' T' => ∃ D' w' x', At Try.prog (VV S D' none none) 0 (S.g0 + S.n) (G (c'.finish (.tuple #[])) cs0) w' m' T' ∧ Drv C n0 D' x' w' ∧ (x', D'.ord) = followX C (x, D.ord) l ∧ D'.k = S.n ∧ overX C (x', D'.ord) = true) m T
  | [], j, D, x, w, u, m, T, hl, hj, hm, hD, hk, A => by
    have hj' : j = S.sl.length := Nat.le_antisymm hj (List.drop_eq_nil_iff.1 hl)
    rw [hj'] at A
    refine (At.walk (h := 0) (follow_past S.B S.sa S.sl.length S.sc u (c' :: cs0) w) A).bind ?_
    rintro m1 T1 ⟨_, _, ⟨⟨u', rfl⟩, d, rfl⟩, A1⟩
    have hD1 : Drv C n0 D x (w.at d) := ⟨hD.sys.at d, C.keep hD.inv ((Keeps.refl _ _).at d), hD.fe, hD.out, hD.fresh, hD.gg, hD.most, hD.cnt⟩
    exact rounds S.most.toNat (by omega) hD1 hk A1
  | z :: l, j, D, x, w, u, m, T, hl, hj, hm, hD, hk, A => by
    have hz : S.sl[j]? = some z := by
      have := congrArg (·[0]?) hl
      simpa using this
    have hlt : j < S.sl.length := (List.getElem?_eq_some_iff.1 hz).1
    have hl' : S.sl.drop (j + 1) = l := by
      have := congrArg (List.drop 1) hl
      simpa [List.drop_drop, Nat.add_comm] using this
    obtain ⟨s, so, hs, hc⟩ := C.sch hD.inv hz
    obtain ⟨_, t1, t2, t3, _, _⟩ := hD.sys.tB
    rw [hs] at A
    cases ho : overX C (x, D.ord) with
    | true =>
      refine (At.walk (h := 0) (follow_over S.B s so S.sl.length S.sc j z D.gg S.most D.oa D.ord.length D.oc u c' cs0 w hlt hc t1 t2 t3 ((hD.over hk).trans ho)) A).mono ?_
      rintro m' T' ⟨_, _, ⟨rfl, d, rfl⟩, A'⟩
      exact ⟨D, _, x, A', ⟨hD.sys.at d, C.keep hD.inv ((Keeps.refl _ _).at d), hD.fe, hD.out, hD.fresh, hD.gg, hD.most, hD.cnt⟩, (followX_over ho _).symm, hk, ho⟩
    | false =>
      refine (At.walk (h := 0) (Stop := fun g w' => g = G (Frame.enter Try.prog 87 #[.pointer (some ⟨S.B, 0, none⟩), .int .i64 z] .normal) (fr55 S.B s so S.sl.length S.sc j z u :: c' :: cs0) ∧ ∃ d, w' = w.at d)
        (follow_go S.B s so S.sl.length S.sc j z D.gg S.most D.oa D.ord.length D.oc u (c' :: cs0) w hlt hc t1 t2 t3 ((hD.over hk).trans ho) (.stop fun d => ⟨rfl, d, rfl⟩)) A).bind ?_
      rintro m1 T1 ⟨_, _, ⟨rfl, d, rfl⟩, A1⟩
      have hD1 : Drv C n0 D x (w.at d) := ⟨hD.sys.at d, C.keep hD.inv ((Keeps.refl _ _).at d), hD.fe, hD.out, hD.fresh, hD.gg, hD.most, hD.cnt⟩
      refine (step_any hD1 hk z A1).bind ?_
      rintro m2 T2 ⟨D2, w2, x2, A2, hD2, hx2, hk2⟩
      refine (At.walk (h := 0) (follow_next S.B s so S.sl.length S.sc j z u (c' :: cs0) w2 hlt hm) A2).bind ?_
      rintro m3 T3 ⟨_, _, ⟨⟨u', rfl⟩, d3, rfl⟩, A3⟩
      have hD3 : Drv C n0 D2 x2 (w2.at d3) := ⟨hD2.sys.at d3, C.keep hD2.inv ((Keeps.refl _ _).at d3), hD2.fe, hD2.out, hD2.fresh, hD2.gg, hD2.most, hD2.cnt⟩
      rw [← hs] at A3
      refine (follow_all l (j + 1) hl' hlt hm hD3 hk2 A3).mono ?_
      rintro m4 T4 ⟨D4, w4, x4, A4, hD4, hx4, hk4, ho4⟩
      refine ⟨D4, w4, x4, A4, hD4, ?_, hk4, ho4⟩
      rw [hx4, hx2]
      rfl
end
end
section
variable {main : Bool} {V : Nat → Option Wait}
noncomputable def code23 (i : Nat) : Code := match Try.f50.body with
  | some (.seq _ (.seq a1 (.seq a2 (.seq a3 (.seq a4 (.seq a5 (.seq a6 c))))))) => [a1, a2, a3, a4, a5, a6, c].getD i .skip
  | _ => .skip
noncomputable def tail23 (i : Nat) : Code := match Try.f50.body with
  | some (.seq _ (.seq _ c1)) => match c1 with
    | .seq _ c2 => match c2 with
      | .seq _ c3 => match c3 with
        | .seq _ c4 => match c4 with
          | .seq _ c5 => match c5 with
            | .seq _ c6 => [.skip, c1, c2, c3, c4, c5, c6].getD i .skip
            | _ => .skip
          | _ => .skip
        | _ => .skip
      | _ => .skip
    | _ => .skip
  | _ => .skip
noncomputable def ops23 (i : Nat) : Array Oper := match code23 i with | .region _ ops _ => ops | _ => #[]
noncomputable def fr23t (n tcap m c : Nat) (ta sa : Option Addr) (og : Value) (most : Int) : Frame := (base 50).at { tmps := #[.slice ta n tcap, .slice sa m c, .int .i64 most, undef, undef, undef, .slice none 0 0, .bool false, .slice none 0 0, undef, og, .slice ta n tcap, .slice ta n tcap, .int .i64 most, undef, undef, undef, undef, undef, undef, undef, undef, undef, undef, undef, undef, undef, undef, undef, undef, undef, undef, undef, undef], defers := [] } [.inRegion (ops23 1) [2, 3], .code (tail23 2)]
noncomputable def fr23a (B : Nat) (n tcap m c : Nat) (ta sa : Option Addr) (og : Value) (most : Int) : Frame := (base 50).at { tmps := #[.slice ta n tcap, .slice sa m c, .int .i64 most, undef, undef, undef, .slice none 0 0, .bool false, .slice none 0 0, .pointer (some ⟨B, 0, none⟩), og, .slice ta n tcap, .slice ta n tcap, .int .i64 most, .pointer (some ⟨B, 0, none⟩), .pointer (some ⟨B, 0, none⟩), .slice ta n tcap, undef, undef, undef, undef, undef, undef, undef, undef, undef, undef, undef, undef, undef, undef, undef, undef, undef], defers := [] } [.inRegion (ops23 2) [2], .code (tail23 3)]
noncomputable def fr23b (B : Nat) (n tcap m c : Nat) (ta sa : Option Addr) (og : Value) (most : Int) : Frame := (base 50).at { tmps := #[.slice ta n tcap, .slice sa m c, .int .i64 most, undef, undef, undef, .slice none 0 0, .bool false, .slice none 0 0, .pointer (some ⟨B, 0, none⟩), og, .slice ta n tcap, .slice ta n tcap, .int .i64 most, .pointer (some ⟨B, 0, none⟩), .pointer (some ⟨B, 0, none⟩), .slice ta n tcap, .tuple #[], .pointer (some ⟨B, 0, none⟩), .slice sa m c, undef, undef, undef, undef, undef, undef, undef, undef, undef, undef, undef, undef, undef, undef], defers := [] } [.inRegion (ops23 3) [2], .code (tail23 4)]
noncomputable def fr23c (B : Nat) (n tcap m c : Nat) (ta sa : Option Addr) (og : Value) (most : Int) (going : Int) : Frame := (base 50).at { tmps := #[.slice ta n tcap, .slice sa m c, .int .i64 most, undef, undef, undef, .slice none 0 0, .bool (decide (0 < going)), .slice none 0 0, .pointer (some ⟨B, 0, none⟩), og, .slice ta n tcap, .slice ta n tcap, .int .i64 most, .pointer (some ⟨B, 0, none⟩), .pointer (some ⟨B, 0, none⟩), .slice ta n tcap, .tuple #[], .pointer (some ⟨B, 0, none⟩), .slice sa m c, .tuple #[], .pointer (some ⟨B, 0, none⟩), .pointer (some ⟨B, 0, none⟩), .pointer (some ⟨B, 1, none⟩), .int .i64 going, .bool (decide (0 < going)), .pointer (some ⟨B, 0, none⟩), undef, undef, undef, undef, undef, undef, undef], defers := [] } [.inRegion (ops23 5) [1, 2], .code (tail23 6)]
theorem over_in {Stop : Goroutine → World → Prop} (n tcap m c : Nat) (ta sa : Option Addr) (og : Value) (most : Int) (cs : List Frame) (w : World) (hog : CallV Try.prog main V 65 #[og] w (.slice ta n tcap) w)
    (hk : Walk Try.prog main (DR V) Stop (G (Frame.enter Try.prog 66 #[.slice ta n tcap, .int .i64 most] .normal) (fr23t n tcap m c ta sa og most :: cs)) w) :
    Walk Try.prog main (DR V) Stop (G (Frame.enter Try.prog 50 #[og, .slice sa m c, .int .i64 most] .normal) cs) w := by
  simp only [fr23t, ops23, code23, tail23, Try.f50, List.getD_cons_succ, List.getD_cons_zero] at hk
  rw [enter_at _ Try.func50 rfl]
  simp only [Try.f50, ez, Nat.reduceAdd, Nat.reduceSub]
  repeat (first | refine Walk.cx ?_ | refine Walk.cR ?_ | (refine Walk.oq ?_; try walk_nrm) | (refine Walk.un ?_; walk_nrm))
  refine Walk.callV (x := .slice ta n tcap) (W := w) ?_ rfl (by rfl) (by decide) rfl Try.func65 (by kernel_rfl) (by rfl) ?_
  · walk_nrm
    exact hog
  walk_nrm
  repeat (first | refine Walk.cx ?_ | refine Walk.cR ?_ | (refine Walk.oq ?_; try walk_nrm) | (refine Walk.un ?_; walk_nrm))
  refine Walk.callE rfl (by rfl) (by decide) rfl Try.func66 (by kernel_rfl) (by rfl) ?_
  walk_nrm
  exact hk
theorem over_begin {Stop : Goroutine → World → Prop} (B : Nat) (n tcap m c : Nat) (ta sa : Option Addr) (og : Value) (most : Int) (cs : List Frame) (w : World)
    (hk : Walk Try.prog main (DR V) Stop (G (Frame.enter Try.prog 67 #[.pointer (some ⟨B, 0, none⟩), .slice ta n tcap] .normal) (fr23a B n tcap m c ta sa og most :: cs)) w) :
    Walk Try.prog main (DR V) Stop (G ((fr23t n tcap m c ta sa og most).finish (.pointer (some ⟨B, 0, none⟩))) cs) w := by
  simp only [fr23a, ops23, code23, tail23, Try.f50, List.getD_cons_succ, List.getD_cons_zero] at hk
  unfold fr23t
  rw [Frame.finish_at]
  simp only [ops23, code23, tail23, Try.f50, List.getD_cons_succ, List.getD_cons_zero]
  walk_nrm
  repeat (first | refine Walk.cx ?_ | refine Walk.cR ?_ | (refine Walk.oq ?_; try walk_nrm) | (refine Walk.un ?_; walk_nrm))
  refine Walk.callE rfl (by rfl) (by decide) rfl Try.func67 (by kernel_rfl) (by rfl) ?_
  walk_nrm
  exact hk
theorem over_follow {Stop : Goroutine → World → Prop} (B : Nat) (n tcap m c : Nat) (ta sa : Option Addr) (og : Value) (most : Int) (cs : List Frame) (w : World)
    (hk : Walk Try.prog main (DR V) Stop (G (Frame.enter Try.prog 68 #[.pointer (some ⟨B, 0, none⟩), .slice sa m c] .normal) (fr23b B n tcap m c ta sa og most :: cs)) w) :
    Walk Try.prog main (DR V) Stop (G ((fr23a B n tcap m c ta sa og most).finish (.tuple #[])) cs) w := by
  simp only [fr23b, ops23, code23, tail23, Try.f50, List.getD_cons_succ, List.getD_cons_zero] at hk
  unfold fr23a
  rw [Frame.finish_at]
  simp only [ops23, code23, tail23, Try.f50, List.getD_cons_succ, List.getD_cons_zero]
  walk_nrm
  repeat (first | refine Walk.cx ?_ | refine Walk.cR ?_ | (refine Walk.oq ?_; try walk_nrm) | (refine Walk.un ?_; walk_nrm))
  refine Walk.callE rfl (by rfl) (by decide) rfl Try.func68 (by kernel_rfl) (by rfl) ?_
  walk_nrm
  exact hk
theorem over_end {Stop : Goroutine → World → Prop} (B : Nat) (n tcap m c : Nat) (ta sa : Option Addr) (og : Value) (most : Int) (going : Int) (cs : List Frame) (w : World) (h1 : w.cell? ⟨B, 1, none⟩ = some (.int .i64 going))
    (hk : Walk Try.prog main (DR V) Stop (G (Frame.enter Try.prog 69 #[.pointer (some ⟨B, 0, none⟩)] .normal) (fr23c B n tcap m c ta sa og most going :: cs)) w) :
    Walk Try.prog main (DR V) Stop (G ((fr23b B n tcap m c ta sa og most).finish (.tuple #[])) cs) w := by
  simp only [fr23c, ops23, code23, tail23, Try.f50, List.getD_cons_succ, List.getD_cons_zero] at hk
  unfold fr23b
  rw [Frame.finish_at]
  simp only [ops23, code23, tail23, Try.f50, List.getD_cons_succ, List.getD_cons_zero]
  walk_nrm
  repeat (first | refine Walk.cx ?_ | refine Walk.cR ?_ | (refine Walk.oq ?_; try walk_nrm) | (refine Walk.un ?_; walk_nrm))
  refine Walk.callE rfl (by rfl) (by decide) rfl Try.func69 (by kernel_rfl) (by rfl) ?_
  walk_nrm
  exact hk
theorem results23 (tmps : Array Value) (x y z : Value) (w : World) (h6 : tmps.getD 6 undef = x) (h7 : tmps.getD 7 undef = y) (h8 : tmps.getD 8 undef = z) :
    (results Try.f50 tmps).run Try.prog w = .ok (.tuple #[x, y, z]) w ∧ (results Try.f50 tmps).events Try.prog w #[] = #[] := by
  subst h6; subst h7; subst h8
  constructor
  · simp [results, Try.f50]
  · simp [results, Try.f50]
theorem over_out (B q : Nat) (n tcap m c : Nat) (ta sa : Option Addr) (og : Value) (most : Int) (going : Int) (oa : Option Addr) (on oc : Nat) (c' : Frame) (cs : List Frame) (w : World) (h3 : w.cell? ⟨B, 3, none⟩ = some (.slice oa on oc)) :
    Walk Try.prog main (DR V) (fun g w' => g = G (c'.finish (.tuple #[.slice oa on oc, .bool (decide (0 < going)), .slice (some ⟨q, 0, none⟩) n n])) cs ∧ ∃ d, w' = w.at d) (G ((fr23c B n tcap m c ta sa og most going).finish (.slice (some ⟨q, 0, none⟩) n n)) (c' :: cs)) w := by
  unfold fr23c
  rw [Frame.finish_at]
  simp only [ops23, code23, tail23, Try.f50, List.getD_cons_succ, List.getD_cons_zero]
  walk_nrm
  repeat (first | refine Walk.cx ?_ | refine Walk.cR ?_ | (refine Walk.oq ?_; try walk_nrm) | (refine Walk.un ?_; walk_nrm))
  exact Walk.ctl rfl (fun w => stepG_leave rfl rfl Try.func50 (results23 _ _ _ _ w rfl rfl rfl).1 (results23 _ _ _ _ w rfl rfl rfl).2) (.stop fun d => ⟨rfl, d, rfl⟩)
end
section
variable {main : Bool} {V : Nat → Option Wait}
noncomputable def chan0 : Obj := .chan 0 #[] false 0 0 false
noncomputable def standW (w : World) (t r : Nat) : World := ((w.alloc chan0).alloc chan0).alloc (.cells #[.chan (some t), .chan (some r), .bool false, .bool false] 155)
theorem run_chan {o : Oper} (ho : o.op = .makeChan 140 (.const (.int .i64 0))) (fn : FuncId) (a : Act) (w : World) (d : Nat) : (execOp a.eval o).run Try.prog (w.at d) = .ok (.value (.chan (some w.heap.size))) ((w.alloc chan0).at d) ∧ DR V (w.at d) ((w.alloc chan0).at d) (listed Try.prog fn a o (w.at d)) := by
  have hi := Option.some_get (show (Try.prog.info? 66).isSome = true by kernel_rfl)
  have ht : ∃ dir, Try.prog.underlying 140 = some (.chan dir 66) := ⟨.both, by kernel_rfl⟩
  obtain ⟨dir, ht⟩ := ht
  have hr := run_makeChan (P := Try.prog) (w := w.at d) ht hi.symm .i64 0 (by decide) (by simp)
  have he := events_makeChan (P := Try.prog) (w := w.at d) ht hi.symm .i64 0 (by decide) (by simp) #[]
  simp only [Int.ofNat_zero, Int.natCast_zero, Int.cast_ofNat_Int] at hr he
  have hn : a.eval (.const (.int .i64 0)) = .int .i64 0 := rfl
  have hv : (execOp a.eval o).events Try.prog (w.at d) #[] = #[] := by
    simp only [execOp, ho, hn, Sem.events_bind, hr, he]
    rfl
  refine ⟨?_, DR.alloc' d _ fun ev hm => ?_⟩
  · simp only [execOp, ho, hn, Sem.run_bind, hr]
    rfl
  · have hm' := mem_listed hm
    rw [hv] at hm'
    exact absurd hm' (by simp)
theorem stand_new (w : World) :
    CallW Try.prog main V 83 #[] w (fun v w' => ∃ t r, v = .pointer (some ⟨w.heap.size + 2, 0, none⟩) ∧ ((t = w.heap.size ∧ r = w.heap.size + 1) ∨ (t = w.heap.size + 1 ∧ r = w.heap.size)) ∧ ∃ d, w' = (standW w t r).at d) := by
  refine callW_in Try.func83 rfl fun fr cs => ?_
  simp only [Try.ntmps83, ez, Nat.reduceAdd, Nat.reduceSub]
  repeat (first | refine Walk.cx ?_ | refine Walk.cR ?_ | (refine Walk.oq ?_; try walk_nrm) | (refine Walk.un ?_; walk_nrm))
  refine Walk.drawn (by kernel_rfl) (by decide) (Q := fun a' w' => (∃ t r, a'.tmps.getD 0 undef = .pointer (some ⟨w.heap.size + 2, 0, none⟩) ∧ ((t = w.heap.size ∧ r = w.heap.size + 1) ∨ (t = w.heap.size + 1 ∧ r = w.heap.size)) ∧ ∃ d, w' = (standW w t r).at d) ∧ a'.defers = []) (fun d => ?_) ?_
  · simp only [List.size_toArray, List.length_cons, List.length_nil, Nat.reduceAdd, Nat.zero_add]
    refine anyCH_all (rs := [0, 1]) (by first | kernel_rfl | decide +kernel) (by simp) ?_
    intro i hi
    have hs1 : (w.alloc chan0).heap.size = w.heap.size + 1 := by simp
    obtain rfl | rfl : i = 0 ∨ i = 1 := by simpa using hi
    · refine opC_new (w := w) (W := (w).alloc chan0) rfl (by rfl) (fun d => (run_chan (V := V) rfl 83 _ _ d).1) (fun d => (run_chan rfl 83 _ _ d).2) (fun d => ⟨trivial, ?_⟩)
      walk_nrm
      refine anyCH_all (rs := [1]) (by first | kernel_rfl | decide +kernel) (by simp) (fun i hi => ?_)
      obtain rfl : i = 1 := by simpa using hi
      refine opC_new (w := w.alloc chan0) (W := (w.alloc chan0).alloc chan0) rfl (by rfl) (fun d => (run_chan (V := V) rfl 83 _ _ d).1) (fun d => (run_chan rfl 83 _ _ d).2) (fun d => ⟨trivial, ?_⟩)
      walk_nrm
      simp only [hs1]
      refine anyCH_all (rs := [2]) (by first | kernel_rfl | decide +kernel) (by simp) (fun i hi => ?_)
      obtain rfl : i = 2 := by simpa using hi
      refine opC_new (w := (w.alloc chan0).alloc chan0) (W := (w.alloc chan0).alloc chan0) (x := .agg #[.chan (some w.heap.size), .chan (some (w.heap.size + 1)), .bool false, .bool false]) rfl (by rfl) (fun d => run_eq_of (fun K hK => by go_simp; exact hK)) (fun d => DR.quiet (fun e he => by have hm := mem_listed he; simp [go_sem, *] at hm)) (fun d => ⟨trivial, ?_⟩)
      walk_nrm
      refine anyCH_all (rs := [3]) (by first | kernel_rfl | decide +kernel) (by simp) (fun i hi => ?_)
      obtain rfl : i = 3 := by simpa using hi
      refine opC_new (w := (w.alloc chan0).alloc chan0) (W := standW w w.heap.size (w.heap.size + 1)) (x := .pointer (some ⟨w.heap.size + 2, 0, none⟩)) rfl (by rfl) (fun d => run_eq_of (fun K hK => by go_simp; exact hK)) (fun d => DR.alloc' d _ (fun e he => by have hm := mem_listed he; simp [go_sem, *] at hm)) (fun d => ⟨trivial, ?_⟩)
      walk_nrm
      refine anyCH_all (rs := [4]) (by first | kernel_rfl | decide +kernel) (by simp) (fun i hi => ?_)
      obtain rfl : i = 4 := by simpa using hi
      refine opC_new (w := standW w w.heap.size (w.heap.size + 1)) (W := standW w w.heap.size (w.heap.size + 1)) (x := .pointer (some ⟨w.heap.size + 2, 0, none⟩)) rfl (by rfl) (fun d => run_eq_of (fun K hK => by go_simp; exact hK)) (fun d => DR.quiet (fun e he => by have hm := mem_listed he; simp [go_sem, *] at hm)) (fun d => ⟨trivial, ?_⟩)
      walk_nrm
      refine anyCH_done (by first | kernel_rfl | decide +kernel) ⟨rfl, ⟨_, _, ?_, .inl ⟨rfl, rfl⟩, _, rfl⟩, rfl⟩ _
      simp
    · refine opC_new (w := w) (W := (w).alloc chan0) rfl (by rfl) (fun d => (run_chan (V := V) rfl 83 _ _ d).1) (fun d => (run_chan rfl 83 _ _ d).2) (fun d => ⟨trivial, ?_⟩)
      walk_nrm
      refine anyCH_all (rs := [0]) (by first | kernel_rfl | decide +kernel) (by simp) (fun i hi => ?_)
      obtain rfl : i = 0 := by simpa using hi
      refine opC_new (w := w.alloc chan0) (W := (w.alloc chan0).alloc chan0) rfl (by rfl) (fun d => (run_chan (V := V) rfl 83 _ _ d).1) (fun d => (run_chan rfl 83 _ _ d).2) (fun d => ⟨trivial, ?_⟩)
      walk_nrm
      simp only [hs1]
      refine anyCH_all (rs := [2]) (by first | kernel_rfl | decide +kernel) (by simp) (fun i hi => ?_)
      obtain rfl : i = 2 := by simpa using hi
      refine opC_new (w := (w.alloc chan0).alloc chan0) (W := (w.alloc chan0).alloc chan0) (x := .agg #[.chan (some (w.heap.size + 1)), .chan (some w.heap.size), .bool false, .bool false]) rfl (by rfl) (fun d => run_eq_of (fun K hK => by go_simp; exact hK)) (fun d => DR.quiet (fun e he => by have hm := mem_listed he; simp [go_sem, *] at hm)) (fun d => ⟨trivial, ?_⟩)
      walk_nrm
      refine anyCH_all (rs := [3]) (by first | kernel_rfl | decide +kernel) (by simp) (fun i hi => ?_)
      obtain rfl : i = 3 := by simpa using hi
      refine opC_new (w := (w.alloc chan0).alloc chan0) (W := standW w (w.heap.size + 1) w.heap.size) (x := .pointer (some ⟨w.heap.size + 2, 0, none⟩)) rfl (by rfl) (fun d => run_eq_of (fun K hK => by go_simp; exact hK)) (fun d => DR.alloc' d _ (fun e he => by have hm := mem_listed he; simp [go_sem, *] at hm)) (fun d => ⟨trivial, ?_⟩)
      walk_nrm
      refine anyCH_all (rs := [4]) (by first | kernel_rfl | decide +kernel) (by simp) (fun i hi => ?_)
      obtain rfl : i = 4 := by simpa using hi
      refine opC_new (w := standW w (w.heap.size + 1) w.heap.size) (W := standW w (w.heap.size + 1) w.heap.size) (x := .pointer (some ⟨w.heap.size + 2, 0, none⟩)) rfl (by rfl) (fun d => run_eq_of (fun K hK => by go_simp; exact hK)) (fun d => DR.quiet (fun e he => by have hm := mem_listed he; simp [go_sem, *] at hm)) (fun d => ⟨trivial, ?_⟩)
      walk_nrm
      refine anyCH_done (by first | kernel_rfl | decide +kernel) ⟨rfl, ⟨_, _, ?_, .inr ⟨rfl, rfl⟩, _, rfl⟩, rfl⟩ _
      simp
  · rintro a' w' ⟨⟨t, r, h, ht, d, rfl⟩, hd⟩
    repeat (first | refine Walk.cx ?_ | refine Walk.cR ?_ | (refine Walk.oq ?_; try walk_nrm) | (refine Walk.un ?_; walk_nrm))
    exact Walk.ret1 rfl hd Try.func83 rfl fun d' => ⟨t, r, h, ht, d', rfl⟩
end
section
variable {main : Bool} {V : Nat → Option Wait}
noncomputable def reg66_0 := rg Try.f66.body [0]
noncomputable def reg66_1 := rg Try.f66.body [1, 0]
noncomputable def reg66_2 := rg Try.f66.body [1, 1, 0, 0]
noncomputable def reg66_3 := rg Try.f66.body [1, 1, 0, 1, 0, 0, 0]
noncomputable def reg66_4 := rg Try.f66.body [1, 1, 0, 1, 0, 0, 1, 1, 0, 0]
theorem size66_4 : reg66_4.size = 11 := by kernel_rfl
noncomputable def reg66_5 := rg Try.f66.body [1, 1, 0, 1, 0, 0, 1, 1, 1]
noncomputable def reg66_6 := rg Try.f66.body [1, 1, 1, 0]
theorem z66 : List.range reg66_0.size = [0] ∧ List.range reg66_1.size = [0, 1, 2, 3, 4, 5, 6] ∧ List.range reg66_2.size = [0, 1, 2] ∧ List.range reg66_3.size = [0] ∧ List.range reg66_4.size = [0, 1, 2, 3, 4, 5, 6, 7, 8, 9, 10] ∧ List.range reg66_5.size = [0, 1] ∧ List.range reg66_6.size = [0, 1] := by refine ⟨?_, ?_, ?_, ?_, ?_, ?_, ?_⟩ <;> kernel_rfl
theorem code66_is : Try.f66.body = some (.seq (.region 0 reg66_0 false) (.seq (.region 1 reg66_1 false) (.seq (.seq (.region 2 reg66_2 false) (.block 0 (.loop (.seq (.region 3 reg66_3 false) (.seq (.cond (.tmp 15 ) (.skip) (.exit 0)) (.seq (.block 1 (.region 4 reg66_4 true)) (.region 5 reg66_5 false))))))) (.seq (.region 6 reg66_6 false) (.ret))))) := by kernel_rfl
noncomputable def nt53 (B j n : Nat) (u : Nat → Value) : Array Value := #[u 0, u 1, u 2, u 3, u 4, .pointer (some ⟨B, 0, none⟩), u 6, u 7, u 8, u 9, u 10, u 11, u 12, .int .i64 n, .int .i64 j, u 15, u 16, u 17, u 18, u 19, u 20, u 21, u 22, u 23, u 24, u 25, u 26, u 27]
def TR (w : World) (t r : Nat) : Prop := (t = w.heap.size ∧ r = w.heap.size + 1) ∨ (t = w.heap.size + 1 ∧ r = w.heap.size)
structure NT (V : Nat → Option Wait) (B : Nat) (oa : Option Addr) (on oc n0 : Nat) (xs : List Value) (w : World) : Prop where
  h0 : w.cell? ⟨B, 0, none⟩ = some (.slice oa on oc)
  hz : w.frozen? ⟨B, 0, none⟩ = false
  hf : Free V ⟨B, 0, none⟩
  own : w.ownsRow n0 150 1 (.slice oa on oc) on xs
  hn0 : n0 ≤ w.heap.size
  hon : on ≤ 64
  hap : ∀ g, (Value.slice oa on oc).ownBlock = some g → Apart V g ∧ g ≠ B
noncomputable def newW (w : World) (t r : Nat) : World := (standW w t r).alloc (.cells #[.pointer (some ⟨w.heap.size + 2, 0, none⟩)] 150)
structure NT7 (B : Nat) (oa : Option Addr) (on oc n0 : Nat) (xs : List Value) (w : World) (t r g cap : Nat) (w' : World) : Prop where
  own : w'.ownsRow n0 150 1 (.slice (some ⟨g, 0, none⟩) (on + 1) cap) (on + 1) (xs ++ [.pointer (some ⟨w.heap.size + 2, 0, none⟩)])
  grown : (newW w t r).grownBy w' (Value.slice oa on oc).ownBlock
  hat : (Value.slice oa on oc).ownBlock = some g ∨ g = (newW w t r).heap.size
  hlt : g < w'.heap.size
  h0 : w'.cell? ⟨B, 0, none⟩ = some (.slice oa on oc)
  hz : w'.frozen? ⟨B, 0, none⟩ = false
section
variable {B : Nat} {oa : Option Addr} {on oc n0 : Nat} {xs : List Value} {w : World}
theorem NT.stand (H : NT V B oa on oc n0 xs w) (t r : Nat) : (standW w t r).cell? ⟨B, 0, none⟩ = some (.slice oa on oc) ∧ (standW w t r).frozen? ⟨B, 0, none⟩ = false :=
  ⟨cell_alloc _ _ (cell_alloc _ _ (cell_alloc _ _ H.h0)), frozen_alloc _ _ (cell_alloc _ _ (cell_alloc _ _ H.h0)) (frozen_alloc _ _ (cell_alloc _ _ H.h0) (frozen_alloc _ _ H.h0 H.hz))⟩
theorem NT.new (H : NT V B oa on oc n0 xs w) (t r : Nat) : (newW w t r).cell? ⟨B, 0, none⟩ = some (.slice oa on oc) ∧ (newW w t r).frozen? ⟨B, 0, none⟩ = false :=
  ⟨cell_alloc _ _ (H.stand t r).1, frozen_alloc _ _ (H.stand t r).1 (H.stand t r).2⟩
theorem newW_size (w : World) (t r : Nat) : (newW w t r).heap.size = w.heap.size + 4 := by simp [newW, standW]
theorem standW_size (w : World) (t r : Nat) : (standW w t r).heap.size = w.heap.size + 3 := by simp [standW]
theorem newW_new (w : World) (t r : Nat) : (newW w t r).cell? ((⟨w.heap.size + 3, 0, none⟩ : Addr).add 0) = some (.pointer (some ⟨w.heap.size + 2, 0, none⟩)) := by
  have h := World.cell?_alloc_at (w := standW w t r) #[.pointer (some ⟨w.heap.size + 2, 0, none⟩)] 150 (w.heap.size + 3) 0 (standW_size w t r).symm
  simpa [Addr.add, newW] using h
theorem stand_new' (f : Operand → Value) (w : World) : CallW Try.prog main V 83 (Array.map f #[]) w (fun v w' => ∃ t r, v = .pointer (some ⟨w.heap.size + 2, 0, none⟩) ∧ TR w t r ∧ ∃ d, w' = (standW w t r).at d) := by
  rw [Array.map_empty]; exact stand_new w
theorem NT.owned (H : NT V B oa on oc n0 xs w) (t r : Nat) : (newW w t r).ownsRow n0 150 1 (.slice oa on oc) on xs :=
  (((H.own.alloc _).alloc _).alloc _).alloc _
end
def ds53 : List Nat := [16, 17, 18, 19, 20, 21, 22, 23, 24, 25]
def vs53 (w : World) (B : Nat) (oa : Option Addr) (on oc g cap : Nat) : List Value := [.pointer (some ⟨B, 0, none⟩), .pointer (some ⟨B, 0, none⟩), .pointer (some ⟨B, 0, none⟩), .pointer (some ⟨B, 0, none⟩), .slice oa on oc, .pointer (some ⟨w.heap.size + 2, 0, none⟩), .slice (some ⟨w.heap.size + 3, 0, none⟩) 1 1, .slice (some ⟨g, 0, none⟩) (on + 1) cap, .pointer (some ⟨B, 0, none⟩), .pointer (some ⟨B, 0, none⟩)]
structure St53 (w : World) (B : Nat) (oa : Option Addr) (on oc n0 : Nat) (xs : List Value) (t r g cap : Nat) (w' : World) (f : Nat → Bool) (x : World) : Prop where
  s0 : f 5 = false → ∃ d, x = w.at d
  s5 : f 5 = true → TR w t r ∧ (f 6 = false → ∃ d, x = (standW w t r).at d)
  s6 : f 6 = true → f 7 = false → ∃ d, x = (newW w t r).at d
  s7 : f 7 = true → NT7 B oa on oc n0 xs w t r g cap w' ∧ (f 10 = false → ∃ d, x = w'.at d)
  s10 : f 10 = true → ∃ d, x = (w'.setCell ⟨B, 0, none⟩ (.slice (some ⟨g, 0, none⟩) (on + 1) cap)).at d
section
variable {w : World} {B : Nat} {oa : Option Addr} {on oc n0 : Nat} {xs : List Value} {t r g cap : Nat} {w' : World} {f : Nat → Bool} {x : World}
theorem St53.quiet (h : St53 w B oa on oc n0 xs t r g cap w' f x) {i : Nat} (h5 : i ≠ 5) (h6 : i ≠ 6) (h7 : i ≠ 7) (h10 : i ≠ 10) : St53 w B oa on oc n0 xs t r g cap w' (upd f i true) x := by
  refine ⟨?_, ?_, ?_, ?_, ?_⟩
  · rw [upd_ne _ _ (Ne.symm h5)]; exact h.s0
  · rw [upd_ne _ _ (Ne.symm h5), upd_ne _ _ (Ne.symm h6)]; exact h.s5
  · rw [upd_ne _ _ (Ne.symm h6), upd_ne _ _ (Ne.symm h7)]; exact h.s6
  · rw [upd_ne _ _ (Ne.symm h7), upd_ne _ _ (Ne.symm h10)]; exact h.s7
  · rw [upd_ne _ _ (Ne.symm h10)]; exact h.s10
theorem facts_keep {dsts : List Nat} {vals : List Value} {u : Nat → Value} (F : Facts dsts vals f u) {i : Nat} (hd : dsts[i]? = none) : Facts dsts vals (upd f i true) u := by
  intro j d v hf hj hv
  by_cases e : j = i
  · rw [e, hd] at hj; cases hj
  · rw [upd_ne _ _ e] at hf
    exact F j d v hf hj hv
theorem facts_turn {dsts : List Nat} {vals vals' : List Value} {u : Nat → Value} (F : Facts dsts vals f u) (h : ∀ j v, f j = true → vals'[j]? = some v → vals[j]? = some v) : Facts dsts vals' f u := fun j d v hf hd hv => F j d v hf hd (h j v hf hv)
end
variable {Stop : Goroutine → World → Prop} {k : List Item} {cs : List Frame}
theorem nt_reg (B j n : Nat) (oa : Option Addr) (on oc n0 : Nat) (xs : List Value) (w : World) (H : NT V B oa on oc n0 xs w) {act : Act} (ha : ∃ u, act = ⟨nt53 B j n u, []⟩)
    (hend : ∀ t r g cap w' d u, TR w t r → NT7 B oa on oc n0 xs w t r g cap w' → Walk Try.prog main (DR V) Stop (G ((base 66).at ⟨nt53 B j n u, []⟩ (.inRegion reg66_4 [] :: k)) cs) ((w'.setCell ⟨B, 0, none⟩ (.slice (some ⟨g, 0, none⟩) (on + 1) cap)).at d)) :
    Walk Try.prog main (DR V) Stop (G ((base 66).at act (.code (.region 4 reg66_4 true) :: k)) cs) w := by
  obtain ⟨u0, rfl⟩ := ha
  refine Walk.drawnJ (Inv := fun f ac' x => ∃ u t r g cap w', ac' = ⟨nt53 B j n u, []⟩ ∧ Facts ds53 (vs53 w B oa on oc g cap) f u ∧ St53 w B oa on oc n0 xs t r g cap w' f x) (by kernel_rfl) (by kernel_rfl) (fun d => ⟨u0, 0, 0, 0, 0, w, rfl, Facts.none _ _ _, fun _ => ⟨d, rfl⟩, fun h => (by cases h), fun h => (by cases h), fun h => (by cases h), fun h => (by cases h)⟩) ?_ ?_
  · rintro f i op act x ⟨u, t, r, g, cap, w', rfl, F0, S⟩ hC hfi ho hdeps rest hr
    have hi : i < 11 := by have := (Array.getElem?_eq_some_iff.1 ho).1; rw [size66_4] at this; exact this
    have no : ∀ {a b : Nat} {l : List Nat}, depB reg66_4 a l = true → b ∈ l → f b = false → f a = false := fun {a b l} h1 h2 h3 => by
      cases h : f a with
      | false => rfl
      | true => rw [hC.deps h h1 b h2] at h3; cases h3
    match i, hi with
    | 0, _ =>
      clear hdeps hC ho no hend
      simp only [nt53] at hr ⊢
      (refine Walk.oq ?_; try walk_nrm)
      refine hr _ _ ⟨upd u 16 (.pointer (some ⟨B, 0, none⟩)), t, r, g, cap, w', ?_, F0.set (by decide) rfl rfl, S.quiet (by decide) (by decide) (by decide) (by decide)⟩
      simp [nt53, upd]
    | 1, _ =>
      clear hdeps hC ho no hend
      simp only [nt53] at hr ⊢
      (refine Walk.oq ?_; try walk_nrm)
      refine hr _ _ ⟨upd u 17 (.pointer (some ⟨B, 0, none⟩)), t, r, g, cap, w', ?_, F0.set (by decide) rfl rfl, S.quiet (by decide) (by decide) (by decide) (by decide)⟩
      simp [nt53, upd]
    | 2, _ =>
      have hd := deps_of (l := [1]) (by kernel_rfl) ho hdeps
      have e17 := F0 1 17 _ (hd 1 (by simp)) rfl rfl
      clear hdeps hC ho no hend
      simp only [nt53] at hr ⊢
      simp only [e17]
      (refine Walk.oq ?_; try walk_nrm)
      refine hr _ _ ⟨upd u 18 (.pointer (some ⟨B, 0, none⟩)), t, r, g, cap, w', ?_, F0.set (by decide) rfl rfl, S.quiet (by decide) (by decide) (by decide) (by decide)⟩
      simp [nt53, upd, e17]
    | 3, _ =>
      have hd := deps_of (l := [2]) (by kernel_rfl) ho hdeps
      have e18 := F0 2 18 _ (hd 2 (by simp)) rfl rfl
      clear hdeps hC ho no hend
      simp only [nt53] at hr ⊢
      simp only [e18]
      (refine Walk.oq ?_; try walk_nrm)
      refine hr _ _ ⟨upd u 19 (.pointer (some ⟨B, 0, none⟩)), t, r, g, cap, w', ?_, F0.set (by decide) rfl rfl, S.quiet (by decide) (by decide) (by decide) (by decide)⟩
      simp [nt53, upd, e18]
    | 4, _ =>
      have hd := deps_of (l := [3]) (by kernel_rfl) ho hdeps
      have e19 := F0 3 19 _ (hd 3 (by simp)) rfl rfl
      have c0 : x.cell? ⟨B, 0, none⟩ = some (.slice oa on oc) := by
        have h7 := no (a := 7) (b := 4) (l := [4, 5, 6]) (by kernel_rfl) (by simp) hfi
        cases h5 : f 5 with
        | false => obtain ⟨d, rfl⟩ := S.s0 h5; exact H.h0
        | true =>
          cases h6 : f 6 with
          | false => obtain ⟨d, rfl⟩ := (S.s5 h5).2 h6; exact (H.stand t r).1
          | true => obtain ⟨d, rfl⟩ := S.s6 h6 h7; exact (H.new t r).1
      clear hdeps hC ho no hend
      simp only [nt53] at hr ⊢
      simp only [e19]
      (refine Walk.oq ?_; try walk_nrm)
      refine hr _ _ ⟨upd u 20 (.slice oa on oc), t, r, g, cap, w', ?_, F0.set (by decide) rfl rfl, S.quiet (by decide) (by decide) (by decide) (by decide)⟩
      simp [nt53, upd, e19]
    | 5, _ =>
      obtain ⟨d, rfl⟩ := S.s0 hfi
      have h6 := no (a := 6) (b := 5) (l := [5]) (by kernel_rfl) (by simp) hfi
      have h7 := no (a := 7) (b := 5) (l := [4, 5, 6]) (by kernel_rfl) (by simp) hfi
      have h10 := no (a := 10) (b := 7) (l := [9, 7]) (by kernel_rfl) (by simp) h7
      refine Walk.back ?_ d
      clear hdeps hC ho no hend
      simp only [nt53] at hr ⊢
      refine Walk.callW (stand_new' _ w) (ho_of (by conv => lhs; whnf) (by kernel_rfl)) (by rfl) (by decide) rfl Try.func83 (by kernel_rfl) (by rfl) ?_
      rintro v w₁ ⟨t, r, rfl, ht, d₁, rfl⟩
      walk_nrm
      refine hr _ _ ⟨upd u 21 (.pointer (some ⟨w.heap.size + 2, 0, none⟩)), t, r, g, cap, w', ?_, F0.set (by decide) rfl rfl, fun h => ?_, fun _ => ⟨ht, fun _ => ⟨d₁, rfl⟩⟩, fun h => ?_, fun h => ?_, fun h => ?_⟩
      · simp [nt53, upd]
      · rw [upd_same] at h; cases h
      · rw [upd_ne _ _ (by decide), h6] at h; cases h
      · rw [upd_ne _ _ (by decide), h7] at h; cases h
      · rw [upd_ne _ _ (by decide), h10] at h; cases h
    | 6, _ =>
      have hd := deps_of (l := [5]) (by kernel_rfl) ho hdeps
      have e21 := F0 5 21 _ (hd 5 (by simp)) rfl rfl
      obtain ⟨ht, h5⟩ := S.s5 (hd 5 (by simp))
      obtain ⟨d, rfl⟩ := h5 hfi
      have h5 := hd 5 (by simp)
      have h7 := no (a := 7) (b := 6) (l := [4, 5, 6]) (by kernel_rfl) (by simp) hfi
      have h10 := no (a := 10) (b := 7) (l := [9, 7]) (by kernel_rfl) (by simp) h7
      have hsz := standW_size w t r
      refine Walk.back ?_ d
      clear hdeps hC ho no hend
      simp only [nt53] at hr ⊢
      simp only [e21]
      (refine Walk.oa ?_; try walk_nrm)
      try simp only [hsz]
      refine hr _ (newW w t r) ⟨upd u 22 (.slice (some ⟨w.heap.size + 3, 0, none⟩) 1 1), t, r, g, cap, w', ?_, F0.set (by decide) rfl rfl, fun h => ?_, fun _ => ⟨ht, fun h => ?_⟩, fun _ _ => ⟨(newW w t r).drawn, rfl⟩, fun h => ?_, fun h => ?_⟩
      · simp [nt53, upd, e21]
      · rw [upd_ne _ _ (by decide), h5] at h; cases h
      · rw [upd_same] at h; cases h
      · rw [upd_ne _ _ (by decide), h7] at h; cases h
      · rw [upd_ne _ _ (by decide), h10] at h; cases h
    | 7, _ =>
      have hd := deps_of (l := [4, 5, 6]) (by kernel_rfl) ho hdeps
      have e20 := F0 4 20 _ (hd 4 (by simp)) rfl rfl
      have e22 := F0 6 22 _ (hd 6 (by simp)) rfl rfl
      obtain ⟨d, rfl⟩ := S.s6 (hd 6 (by simp)) hfi
      have ht := (S.s5 (hd 5 (by simp))).1
      have h5 := hd 5 (by simp)
      have h6 := hd 6 (by simp)
      have h10 := no (a := 10) (b := 7) (l := [9, 7]) (by kernel_rfl) (by simp) hfi
      refine Walk.back ?_ d
      clear hdeps hC ho no hend
      simp only [nt53] at hr ⊢
      simp only [e20, e22]
      have hi161 := Option.some_get (show (Try.prog.info? 150).isSome = true by kernel_rfl)
      refine Walk.append (.tmp 20) (.tmp 22) 128 (ho_of (by conv => lhs; whnf) (by kernel_rfl)) (by rfl) (by decide) rfl n0 150 _ (.pointer none) 1 8 (by kernel_rfl) hi161.symm (by rfl) (by rfl) (by rfl) (by rfl) (by decide) (.slice oa on oc) on xs rfl (H.owned t r) ⟨w.heap.size + 3, 0, none⟩ 1 1 [.pointer (some ⟨w.heap.size + 2, 0, none⟩)] rfl (by rfl) (fun y v hv => ?_) (by simp [Value.oneCell']) (by decide) (by have := H.hon; simp [maxLen]; omega) (by have := H.hon; omega) (by have := H.hn0; rw [newW_size]; omega) (fun g hg => (H.hap g hg).1) (fun g cap w' hown hg hat hlt => ?_)
      · obtain rfl : y = 0 := by rcases y with _ | y <;> simp at hv ⊢
        simp at hv; subst hv; exact newW_new w t r
      have hB : some B ≠ (Value.slice oa on oc).ownBlock := fun e => (H.hap B e.symm).2 rfl
      have hn := H.new t r
      walk_nrm
      refine hr _ _ ⟨upd u 23 (.slice (some ⟨g, 0, none⟩) (on + 1) cap), t, r, g, cap, w', ?_, Facts.set (facts_turn F0 fun j v hf hv => ?_) (by decide) rfl rfl, fun h => ?_, fun _ => ⟨ht, fun h => ?_⟩, fun _ h => ?_, fun _ => ⟨⟨hown, hg, hat, hlt, (hg.cell_far _ (cell_lt _ hn.1) hB).trans hn.1, (hg.frozen_far _ (cell_lt _ hn.1) hB).trans hn.2⟩, fun _ => ⟨w'.drawn, rfl⟩⟩, fun h => ?_⟩
      · simp [nt53, upd, e20, e22]
      · exact match j, hf, hv with
          | 0, _, hv => hv
          | 1, _, hv => hv
          | 2, _, hv => hv
          | 3, _, hv => hv
          | 4, _, hv => hv
          | 5, _, hv => hv
          | 6, _, hv => hv
          | 7, hf, hv => by rw [hfi] at hf; cases hf
          | 8, _, hv => hv
          | 9, _, hv => hv
          | j + 10, _, hv => hv
      · rw [upd_ne _ _ (by decide), h5] at h; cases h
      · rw [upd_ne _ _ (by decide), h6] at h; cases h
      · rw [upd_same] at h; cases h
      · rw [upd_ne _ _ (by decide), h10] at h; cases h
    | 8, _ =>
      have hd := deps_of (l := [0]) (by kernel_rfl) ho hdeps
      have e16 := F0 0 16 _ (hd 0 (by simp)) rfl rfl
      clear hdeps hC ho no hend
      simp only [nt53] at hr ⊢
      simp only [e16]
      (refine Walk.oq ?_; try walk_nrm)
      refine hr _ _ ⟨upd u 24 (.pointer (some ⟨B, 0, none⟩)), t, r, g, cap, w', ?_, F0.set (by decide) rfl rfl, S.quiet (by decide) (by decide) (by decide) (by decide)⟩
      simp [nt53, upd, e16]
    | 9, _ =>
      have hd := deps_of (l := [8]) (by kernel_rfl) ho hdeps
      have e24 := F0 8 24 _ (hd 8 (by simp)) rfl rfl
      clear hdeps hC ho no hend
      simp only [nt53] at hr ⊢
      simp only [e24]
      (refine Walk.oq ?_; try walk_nrm)
      refine hr _ _ ⟨upd u 25 (.pointer (some ⟨B, 0, none⟩)), t, r, g, cap, w', ?_, F0.set (by decide) rfl rfl, S.quiet (by decide) (by decide) (by decide) (by decide)⟩
      simp [nt53, upd, e24]
    | 10, _ =>
      have hd := deps_of (l := [9, 7]) (by kernel_rfl) ho hdeps
      have e25 := F0 9 25 _ (hd 9 (by simp)) rfl rfl
      have e23 := F0 7 23 _ (hd 7 (by simp)) rfl rfl
      obtain ⟨h7, h⟩ := S.s7 (hd 7 (by simp))
      obtain ⟨d, rfl⟩ := h hfi
      have f7 := hd 7 (by simp)
      have f6 := hC.deps f7 (l := [4, 5, 6]) (by kernel_rfl) 6 (by simp)
      have f5 := hC.deps f7 (l := [4, 5, 6]) (by kernel_rfl) 5 (by simp)
      have ht := (S.s5 f5).1
      have hcf := H.hf
      have hc := h7.h0
      have hcz := h7.hz
      refine Walk.back ?_ d
      clear hdeps hC ho no hend
      simp only [nt53] at hr ⊢
      simp only [e25, e23]
      (refine Walk.os hcf hc ?_; try walk_nrm)
      refine hr _ _ ⟨u, t, r, g, cap, w', ?_, facts_keep F0 rfl, fun h => ?_, fun _ => ⟨ht, fun h => ?_⟩, fun _ h => ?_, fun _ => ⟨h7, fun h => ?_⟩, fun _ => ⟨(w'.setCell ⟨B, 0, none⟩ (.slice (some ⟨g, 0, none⟩) (on + 1) cap)).drawn, rfl⟩⟩
      · simp [nt53, e25, e23]
      · rw [upd_ne _ _ (by decide), f5] at h; cases h
      · rw [upd_ne _ _ (by decide), f6] at h; cases h
      · rw [upd_ne _ _ (by decide), f7] at h; cases h
      · rw [upd_same] at h; cases h
  · rintro f act x ⟨u, t, r, g, cap, w', rfl, F0, S⟩ hall
    have g : ∀ j, j < 11 → f j = true := fun j hj => hall j (by rw [size66_4]; exact hj)
    obtain ⟨d, rfl⟩ := S.s10 (g 10 (by decide))
    exact hend _ _ _ _ _ _ _ (S.s5 (g 5 (by decide))).1 (S.s7 (g 7 (by decide))).1
end
end Go.Proofs.Ytjenoiekfkhafaa
