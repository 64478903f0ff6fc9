/- Part 8. -/
import Derived.Test.YtgfajibjedfkdaaJK3
import Derived.Test.YtgfajibjedfkdaaJK4
import Derived.Test.YtgfajibjedfkdaaJK6
import Derived.Test.YtgfajibjedfkdaaJK7
set_option linter.unusedSimpArgs false
set_option linter.unusedVariables false
set_option maxHeartbeats 8000000
set_option maxRecDepth 100000
namespace Go.Proofs.Ytgfajibjedfkdaa
open Go.Conc Go.RowKit Go.Relay
open Go.ConcN (upd upd_ne upd_same)
section
variable {main : Bool} {V : Nat → Option Wait}
noncomputable def body55c : Code := match body55b with | .seq _ (.block _ (.seq _ (.block _ (.loop c)))) => c | _ => .skip
noncomputable def ops55c : Array Oper := match body55c with | .seq _ (.seq _ (.seq (.block _ (.seq _ (.region _ ops _))) _)) => ops | _ => #[]
noncomputable def post55c : Code := match body55c with | .seq _ (.seq _ (.seq _ c)) => c | _ => .skip
noncomputable def hd55c (B : Nat) (sa : Option Addr) (m c n j : Nat) (u : Nat → Value) : Frame :=
  (base 114).at { tmps := #[.pointer (some ⟨B, 0, none⟩), .slice sa m c, undef, undef, undef, u 5, u 6, .slice sa m c, u 8, u 9, u 10, u 11, u 12, u 13, u 14, u 15, u 16, u 17, u 18, u 19, u 20, u 21, u 22, u 23, u 24, u 25, .int .i64 n, .int .i64 j, u 28, u 29, u 30, u 31, u 32, u 33], defers := [] } [.code body55c, .inLoop body55c, .inBlock 4, .inBlock 3, .inLoop body55b, .inBlock 2]
noncomputable def fr55c (B : Nat) (sa : Option Addr) (m c n j : Nat) (u : Nat → Value) : Frame :=
  (base 114).at { tmps := #[.pointer (some ⟨B, 0, none⟩), .slice sa m c, undef, undef, undef, u 5, .int .i64 j, .slice sa m c, u 8, u 9, u 10, u 11, u 12, u 13, u 14, u 15, u 16, u 17, u 18, u 19, u 20, u 21, u 22, u 23, u 24, u 25, .int .i64 n, .int .i64 j, .bool true, .int .i64 j, .pointer (some ⟨B, 0, none⟩), .int .i64 j, u 32, u 33], defers := [] } [.inRegion ops55c [2], .inBlock 5, .code post55c, .inLoop body55c, .inBlock 4, .inBlock 3, .inLoop body55b, .inBlock 2]
theorem round_over (B : Nat) (sa : Option Addr) (m c : Nat) (going most : Int) (oa : Option Addr) (on oc : Nat) (u : Nat → Value) (c' : Frame) (cs : List Frame) (w : World)
    (h1 : w.cell? ⟨B, 1, none⟩ = some (.int .i64 going)) (h2 : w.cell? ⟨B, 2, none⟩ = some (.int .i64 most)) (h3 : w.cell? ⟨B, 3, none⟩ = some (.slice oa on oc)) (hov : (decide (going = 0) || decide (most ≤ on)) = true) :
    Walk Try.prog main (DR V) (fun g w' => g = G (c'.finish (.tuple #[])) cs ∧ ∃ d, w' = w.at d) (G (hd55b B sa m c u) (c' :: cs)) w := by
  unfold hd55b
  simp only [body55b, rest55, Try.f114]
  repeat (first | refine Walk.cx ?_ | refine Walk.cR ?_ | (refine Walk.oq ?_; try walk_nrm) | (refine Walk.un ?_; walk_nrm))
  refine Walk.callV (x := .bool true) (W := w) ?_ rfl (by rfl) (by decide) rfl Try.func139 (by kernel_rfl) (by rfl) ?_
  · walk_nrm
    have := over_w (main := main) (V := V) B going most oa on oc w h1 h2 h3
    rwa [hov] at this
  walk_nrm
  repeat (first | refine Walk.cx ?_ | refine Walk.cR ?_ | (refine Walk.oq ?_; try walk_nrm) | (refine Walk.un ?_; walk_nrm))
  exact Walk.ctl rfl (fun w => stepG_leave rfl rfl Try.func114 (results_none rfl _ _ w) (events_results_none rfl _ _)) (.stop fun d => ⟨rfl, d, rfl⟩)
theorem round_in (B sb n scap : Nat) (sa : Option Addr) (m c : Nat) (going most : Int) (oa : Option Addr) (on oc : Nat) (u : Nat → Value) (cs : List Frame) (w : World) (h0 : w.cell? ⟨B, 0, none⟩ = some (.slice (some ⟨sb, 0, none⟩) n scap))
    (h1 : w.cell? ⟨B, 1, none⟩ = some (.int .i64 going)) (h2 : w.cell? ⟨B, 2, none⟩ = some (.int .i64 most)) (h3 : w.cell? ⟨B, 3, none⟩ = some (.slice oa on oc)) (hov : (decide (going = 0) || decide (most ≤ on)) = false) :
    Walk Try.prog main (DR V) (fun g w' => (∃ u', g = G (hd55c B sa m c n 0 u') cs) ∧ ∃ d, w' = w.at d) (G (hd55b B sa m c u) cs) w := by
  unfold hd55b
  simp only [body55b, rest55, Try.f114]
  repeat (first | refine Walk.cx ?_ | refine Walk.cR ?_ | (refine Walk.oq ?_; try walk_nrm) | (refine Walk.un ?_; walk_nrm))
  refine Walk.callV (x := .bool false) (W := w) ?_ rfl (by rfl) (by decide) rfl Try.func139 (by kernel_rfl) (by rfl) ?_
  · walk_nrm
    have := over_w (main := main) (V := V) B going most oa on oc w h1 h2 h3
    rwa [hov] at this
  walk_nrm
  repeat (first | refine Walk.cx ?_ | refine Walk.cR ?_ | (refine Walk.oq ?_; try walk_nrm) | (refine Walk.un ?_; walk_nrm))
  refine Walk.ctl rfl (fun w => stepG_loop) ?_
  refine .stop fun d' => ⟨⟨fun k => ([.pointer (some ⟨B, 0, none⟩), .slice sa m c, undef, undef, undef, u 5, u 6, .slice sa m c, u 8, u 9, u 10, u 11, u 12, u 13, u 14, u 15, u 16, u 17, u 18, .pointer (some ⟨B, 0, none⟩), .bool false, .bool true, .pointer (some ⟨B, 0, none⟩), .pointer (some ⟨B, 0, none⟩), .pointer (some ⟨B, 0, none⟩), .slice (some ⟨sb, 0, none⟩) n scap, .int .i64 n, .int .i64 0, u 28, u 29, u 30, u 31, u 32, u 33] : List Value).getD k undef, ?_⟩, d', rfl⟩
  simp only [hd55c, body55c, body55b, rest55, Try.f114]
  rfl
theorem round_go {Stop : Goroutine → World → Prop} (B n j : Nat) (sa : Option Addr) (m c : Nat) (u : Nat → Value) (cs : List Frame) (w : World) (hj : j < n)
    (hk : Walk Try.prog main (DR V) Stop (G (Frame.enter Try.prog 140 #[.pointer (some ⟨B, 0, none⟩), .int .i64 j] .normal) (fr55c B sa m c n j u :: cs)) w) :
    Walk Try.prog main (DR V) Stop (G (hd55c B sa m c n j u) cs) w := by
  unfold hd55c
  simp only [fr55c, ops55c, post55c, body55c, body55b, rest55, Try.f114] at hk
  simp only [body55c, body55b, rest55, Try.f114]
  have hi1 : decide ((j : Int) < n) = true := by simp; omega
  have hi3 : decide (j < n) = true := by simp; omega
  repeat (first | refine Walk.cx ?_ | refine Walk.cR ?_ | (refine Walk.oq ?_; try walk_nrm) | (refine Walk.un ?_; walk_nrm))
  refine Walk.callE rfl (by rfl) (by decide) rfl Try.func140 (by kernel_rfl) (by rfl) ?_
  walk_nrm
  exact hk
theorem round_next (B n j : Nat) (sa : Option Addr) (m c : Nat) (u : Nat → Value) (cs : List Frame) (w : World) (hj : j < n) (hn : n ≤ 64) :
    Walk Try.prog main (DR V) (fun g w' => (∃ u', g = G (hd55c B sa m c n (j + 1) u') cs) ∧ ∃ d, w' = w.at d) (G ((fr55c B sa m c n j u).finish (.tuple #[])) cs) w := by
  unfold fr55c
  rw [Frame.finish_at]
  simp only [ops55c, post55c, body55c, body55b, rest55, Try.f114]
  have hw1 : IntKind.wrap .i64 ((j : Int) + 1) = (j : Int) + 1 := by rw [IntKind.wrap_i64]; omega
  walk_nrm
  repeat (first | refine Walk.cx ?_ | refine Walk.cR ?_ | (refine Walk.oq ?_; try walk_nrm) | (refine Walk.un ?_; walk_nrm))
  refine Walk.ctl rfl (fun w => stepG_inLoop) ?_
  refine .stop fun d' => ⟨⟨fun k => ([.pointer (some ⟨B, 0, none⟩), .slice sa m c, undef, undef, undef, u 5, .int .i64 j, .slice sa m c, u 8, u 9, u 10, u 11, u 12, u 13, u 14, u 15, u 16, u 17, u 18, u 19, u 20, u 21, u 22, u 23, u 24, u 25, .int .i64 n, .int .i64 ((j : Int) + 1), .bool true, .int .i64 j, .pointer (some ⟨B, 0, none⟩), .int .i64 j, .tuple #[], .int .i64 ((j : Int) + 1)] : List Value).getD k undef, ?_⟩, d', rfl⟩
  have hc : ((j + 1 : Nat) : Int) = (j : Int) + 1 := by simp
  simp only [hd55c, body55c, body55b, rest55, Try.f114, hc]
  rfl
theorem round_out (B n : Nat) (sa : Option Addr) (m c : Nat) (u : Nat → Value) (cs : List Frame) (w : World) :
    Walk Try.prog main (DR V) (fun g w' => (∃ u', g = G (hd55b B sa m c u') cs) ∧ ∃ d, w' = w.at d) (G (hd55c B sa m c n n u) cs) w := by
  unfold hd55c
  simp only [body55c, body55b, rest55, Try.f114]
  have hi1 : decide ((n : Int) < n) = false := by simp
  have hi3 : decide (n < n) = false := by simp
  repeat (first | refine Walk.cx ?_ | refine Walk.cR ?_ | (refine Walk.oq ?_; try walk_nrm) | (refine Walk.un ?_; walk_nrm))
  refine Walk.ctl rfl (fun w => stepG_inLoop) ?_
  refine .stop fun d' => ⟨⟨fun k => ([.pointer (some ⟨B, 0, none⟩), .slice sa m c, undef, undef, undef, u 5, u 6, .slice sa m c, u 8, u 9, u 10, u 11, u 12, u 13, u 14, u 15, u 16, u 17, u 18, u 19, u 20, u 21, u 22, u 23, u 24, u 25, .int .i64 n, .int .i64 n, .bool false, u 29, u 30, u 31, u 32, u 33] : List Value).getD k undef, ?_⟩, d', rfl⟩
  simp only [hd55b, body55b, rest55, Try.f114]
  rfl
end
section
variable {main : Bool} {V : Nat → Option Wait}
theorem step_low (B : Nat) (x : Int) (c : Frame) (cs : List Frame) (w : World) (hx : x < 0) :
    Walk Try.prog main (DR V) (fun g w' => g = G (c.finish (.tuple #[])) cs ∧ ∃ d, w' = w.at d) (G (Frame.enter Try.prog 140 #[.pointer (some ⟨B, 0, none⟩), .int .i64 x] .normal) (c :: cs)) w := by
  rw [enter_at _ Try.func140 rfl]
  simp only [Try.f140, ez, Nat.reduceAdd, Nat.reduceSub]
  have hi1 : decide (x < 0) = true := by simp [hx]
  repeat (first | refine Walk.cx ?_ | refine Walk.cR ?_ | (refine Walk.oq ?_; try walk_nrm) | (refine Walk.un ?_; walk_nrm))
  exact Walk.ctl rfl (fun w => stepG_leave rfl rfl Try.func140 (results_none rfl _ _ w) (events_results_none rfl _ _)) (.stop fun d => ⟨rfl, d, rfl⟩)
theorem step_high (B sb n scap : Nat) (x : Int) (c : Frame) (cs : List Frame) (w : World) (hx0 : 0 ≤ x) (hx : (n : Int) ≤ x) (h0 : w.cell? ⟨B, 0, none⟩ = some (.slice (some ⟨sb, 0, none⟩) n scap)) :
    Walk Try.prog main (DR V) (fun g w' => g = G (c.finish (.tuple #[])) cs ∧ ∃ d, w' = w.at d) (G (Frame.enter Try.prog 140 #[.pointer (some ⟨B, 0, none⟩), .int .i64 x] .normal) (c :: cs)) w := by
  rw [enter_at _ Try.func140 rfl]
  simp only [Try.f140, ez, Nat.reduceAdd, Nat.reduceSub]
  have hi1 : decide (x < 0) = false := by simp; omega
  have hi2 : decide ((n : Int) ≤ x) = true := by simp; omega
  repeat (first | refine Walk.cx ?_ | refine Walk.cR ?_ | (refine Walk.oq ?_; try walk_nrm) | (refine Walk.un ?_; walk_nrm))
  exact Walk.ctl rfl (fun w => stepG_leave rfl rfl Try.func140 (results_none rfl _ _ w) (events_results_none rfl _ _)) (.stop fun d => ⟨rfl, d, rfl⟩)
theorem step_ended (B sb n scap i p : Nat) (c : Frame) (cs : List Frame) (w : World) (hin : i < n) (h0 : w.cell? ⟨B, 0, none⟩ = some (.slice (some ⟨sb, 0, none⟩) n scap)) (hp : w.cell? ⟨sb, i, none⟩ = some (.pointer (some ⟨p, 0, none⟩))) (hpe : w.cell? ⟨p, 2, none⟩ = some (.bool true)) :
    Walk Try.prog main (DR V) (fun g w' => g = G (c.finish (.tuple #[])) cs ∧ ∃ d, w' = w.at d) (G (Frame.enter Try.prog 140 #[.pointer (some ⟨B, 0, none⟩), .int .i64 i] .normal) (c :: cs)) w := by
  rw [enter_at _ Try.func140 rfl]
  simp only [Try.f140, ez, Nat.reduceAdd, Nat.reduceSub]
  have hi0 : (0 : Int) ≤ i := by omega
  have hi1 : decide ((i : Int) < 0) = false := by simp
  have hi2 : decide (n ≤ i) = false := by simp; omega
  repeat (first | refine Walk.cx ?_ | refine Walk.cR ?_ | (refine Walk.oq ?_; try walk_nrm) | (refine Walk.un ?_; walk_nrm))
  exact Walk.ctl rfl (fun w => stepG_leave rfl rfl Try.func140 (results_none rfl _ _ w) (events_results_none rfl _ _)) (.stop fun d => ⟨rfl, d, rfl⟩)
theorem step_over (B sb n scap i p : Nat) (going most : Int) (oa : Option Addr) (on oc : Nat) (c : Frame) (cs : List Frame) (w : World) (hin : i < n) (h0 : w.cell? ⟨B, 0, none⟩ = some (.slice (some ⟨sb, 0, none⟩) n scap)) (hp : w.cell? ⟨sb, i, none⟩ = some (.pointer (some ⟨p, 0, none⟩))) (hpe : w.cell? ⟨p, 2, none⟩ = some (.bool false))
    (h1 : w.cell? ⟨B, 1, none⟩ = some (.int .i64 going)) (h2 : w.cell? ⟨B, 2, none⟩ = some (.int .i64 most)) (h3 : w.cell? ⟨B, 3, none⟩ = some (.slice oa on oc)) (hov : (decide (going = 0) || decide (most ≤ on)) = true) :
    Walk Try.prog main (DR V) (fun g w' => g = G (c.finish (.tuple #[])) cs ∧ ∃ d, w' = w.at d) (G (Frame.enter Try.prog 140 #[.pointer (some ⟨B, 0, none⟩), .int .i64 i] .normal) (c :: cs)) w := by
  rw [enter_at _ Try.func140 rfl]
  simp only [Try.f140, ez, Nat.reduceAdd, Nat.reduceSub]
  have hi0 : (0 : Int) ≤ i := by omega
  have hi1 : decide ((i : Int) < 0) = false := by simp
  have hi2 : decide (n ≤ i) = false := by simp; omega
  repeat (first | refine Walk.cx ?_ | refine Walk.cR ?_ | (refine Walk.oq ?_; try walk_nrm) | (refine Walk.un ?_; walk_nrm))
  refine Walk.callV (x := .bool true) (W := w) ?_ rfl (by rfl) (by decide) rfl Try.func139 (by kernel_rfl) (by rfl) ?_
  · walk_nrm
    have := over_w (main := main) (V := V) B going most oa on oc w h1 h2 h3
    rwa [hov] at this
  walk_nrm
  repeat (first | refine Walk.cx ?_ | refine Walk.cR ?_ | (refine Walk.oq ?_; try walk_nrm) | (refine Walk.un ?_; walk_nrm))
  exact Walk.ctl rfl (fun w => stepG_leave rfl rfl Try.func140 (results_none rfl _ _ w) (events_results_none rfl _ _)) (.stop fun d => ⟨rfl, d, rfl⟩)
end
section
section
variable {S : Stile} {X : Type}
def goingX (C : Crew S X) (x : X) : Nat := (List.range S.n).countP (fun i => (C.out x i).isNone)
def overX (C : Crew S X) (st : X × List Nat) : Bool := decide (goingX C st.1 = 0) || decide (S.most ≤ st.2.length)
def stepX (C : Crew S X) (st : X × List Nat) (z : Int) : X × List Nat :=
  if overX C st = false ∧ 0 ≤ z ∧ z < S.n ∧ C.out st.1 z.toNat = none then (C.next st.1 z.toNat, st.2 ++ [z.toNat]) else st
def roundX (C : Crew S X) (st : X × List Nat) : X × List Nat := (List.range S.n).foldl (fun st i => stepX C st (i : Nat)) st
def restX (C : Crew S X) : Nat → X × List Nat → X × List Nat
  | 0, st => st
  | f + 1, st => if overX C st then st else restX C f (roundX C st)
def followX (C : Crew S X) (st : X × List Nat) (l : List Int) : X × List Nat := restX C S.most.toNat (l.foldl (stepX C) st)
variable {C : Crew S X} {st : X × List Nat}
theorem stepX_over (h : overX C st = true) (z : Int) : stepX C st z = st := by
  unfold stepX
  rw [if_neg]
  rintro ⟨h', _⟩
  rw [h] at h'; cases h'
theorem foldX_over (h : overX C st = true) : ∀ l : List Int, l.foldl (stepX C) st = st
  | [] => rfl
  | z :: l => by rw [List.foldl_cons, stepX_over h, foldX_over h l]
theorem restX_over (h : overX C st = true) : ∀ f, restX C f st = st
  | 0 => rfl
  | f + 1 => by rw [restX, if_pos h]
theorem followX_over (h : overX C st = true) (l : List Int) : followX C st l = st := by
  unfold followX
  rw [foldX_over h, restX_over h]
theorem stepX_len (z : Int) : st.2.length ≤ (stepX C st z).2.length := by
  unfold stepX
  split
  · simp
  · exact Nat.le_refl _
theorem roundX_mono : ∀ (l : List Nat) (st : X × List Nat), st.2.length ≤ (l.foldl (fun st i => stepX C st (i : Nat)) st).2.length
  | [], _ => Nat.le_refl _
  | _ :: l, _ => Nat.le_trans (stepX_len _) (roundX_mono l _)
theorem roundX_grow {i : Nat} (hi : i < S.n) : ∀ (l : List Nat) (st : X × List Nat), i ∈ l → overX C st = false → C.out st.1 i = none → st.2.length + 1 ≤ (l.foldl (fun st i => stepX C st (i : Nat)) st).2.length
  | [], _, h, _, _ => by cases h
  | a :: l, st, h, ho, hn => by
    rw [List.foldl_cons]
    by_cases hs : overX C st = false ∧ 0 ≤ (a : Int) ∧ (a : Int) < S.n ∧ C.out st.1 (a : Int).toNat = none
    · have : (stepX C st a).2.length = st.2.length + 1 := by unfold stepX; rw [if_pos hs]; simp
      rw [← this]
      exact roundX_mono l _
    · have : stepX C st a = st := by unfold stepX; rw [if_neg hs]
      rw [this]
      rcases List.mem_cons.1 h with rfl | h
      · exact absurd ⟨ho, by omega, by omega, by simpa using hn⟩ hs
      · exact roundX_grow hi l st h ho hn
theorem round_grow (h : overX C st = false) : st.2.length + 1 ≤ (roundX C st).2.length := by
  have hg : goingX C st.1 ≠ 0 := by
    intro e
    unfold overX at h
    rw [e] at h
    simp at h
  obtain ⟨i, hi, hn⟩ := List.countP_pos_iff.1 (Nat.pos_of_ne_zero hg)
  have hi : i < S.n := List.mem_range.1 hi
  exact roundX_grow hi _ _ (List.mem_range.2 hi) h (by simpa using hn)
end
section
variable {S : Stile} {X : Type} {C : Crew S X} {n0 : Nat} {D D' : Dyn} {w w' : World} {i j nG : Nat} {m : Machine} {T : Trace} {l : List Frame} {x : X}
theorem Drv.going (hD : Drv C n0 D x w) (hk : D.k = S.n) : D.gg = goingX C x := by
  rw [hD.gg]
  unfold Ytgfajibjedfkdaa.going goingX
  refine List.countP_congr fun i hi => ?_
  have hi : i < S.n := List.mem_range.1 hi
  rw [hD.fe i, (hD.out i (by omega)).1]
  cases C.out x i <;> simp
theorem Drv.over (hD : Drv C n0 D x w) (hk : D.k = S.n) : (decide ((D.gg : Int) = 0) || decide (S.most ≤ D.ord.length)) = overX C (x, D.ord) := by
  unfold overX
  rw [← hD.going hk]
  have : decide ((D.gg : Int) = 0) = decide (D.gg = 0) := decide_eq_decide.2 (by omega)
  rw [this]
theorem step_any {c : Frame} {cs0 : List Frame} (hD : Drv C n0 D x w) (hk : D.k = S.n) (z : Int)
    (A : At Try.prog (VV S D none none) 0 (S.g0 + S.n) (G (Frame.enter Try.prog 140 #[.pointer (some ⟨S.B, 0, none⟩), .int .i64 z] .normal) (c :: cs0)) w m T) :
    Relay.Comes Try.prog (fun m' T' => ∃ D' w' x', At Try.prog (VV S D' none none) 0 (S.g0 + S.n) (G (c.finish (.tuple #[])) cs0) w' m' T' ∧ Drv C n0 D' x' w' ∧ (x', D'.ord) = stepX C (x, D.ord) z ∧ D'.k = S.n) m T := by
  have hs := hD.sys
  obtain ⟨t0, t1, t2, t3, _, _⟩ := hs.tB
  have same : ∀ {m' T'}, ¬ (overX C (x, D.ord) = false ∧ 0 ≤ z ∧ z < S.n ∧ C.out x z.toNat = none) → (∃ g' w', (g' = G (c.finish (.tuple #[])) cs0 ∧ ∃ d, w' = w.at d) ∧ At Try.prog (VV S D none none) 0 (S.g0 + S.n) g' w' m' T') →
      ∃ D' w' x', At Try.prog (VV S D' none none) 0 (S.g0 + S.n) (G (c.finish (.tuple #[])) cs0) w' m' T' ∧ Drv C n0 D' x' w' ∧ (x', D'.ord) = stepX C (x, D.ord) z ∧ D'.k = S.n := by
    rintro m' T' hne ⟨_, _, ⟨rfl, d, rfl⟩, A'⟩
    exact ⟨D, _, x, A', ⟨hs.at d, C.keep hD.inv ((Keeps.refl _ _).at d), hD.fe, hD.out, hD.fresh, hD.gg, hD.most, hD.cnt⟩, by unfold stepX; rw [if_neg hne], hk⟩
  by_cases h0 : z < 0
  · exact (At.walk (h := 0) (step_low S.B z c cs0 w h0) A).mono fun _ _ h => same (by omega) h
  by_cases h1 : (S.n : Int) ≤ z
  · exact (At.walk (h := 0) (step_high S.B S.sb S.n S.scap z c cs0 w (by omega) h1 t0) A).mono fun _ _ h => same (by omega) h
  obtain ⟨i, rfl⟩ : ∃ i : Nat, z = i := ⟨z.toNat, by omega⟩
  have hi : i < S.n := by omega
  have hz : (i : Int).toNat = i := by omega
  obtain ⟨ho1, ho2⟩ := hD.out i (by omega)
  cases he : D.e i with
  | true =>
    refine (At.walk (h := 0) (step_ended S.B S.sb S.n S.scap i (S.p i) c cs0 w hi t0 (hs.ss hi) (by rw [hs.p2 hi, hD.fe i, he])) A).mono fun _ _ h => same (fun z => ?_) h
    rw [hz] at z
    rw [he, z.2.2.2] at ho1; cases ho1
  | false =>
    have hout : C.out x i = none := by rw [he] at ho1; exact Option.not_isSome_iff_eq_none.1 (by rw [← ho1]; simp)
    have hov := hD.over hk
    cases hx : overX C (x, D.ord) with
    | true =>
      refine (At.walk (h := 0) (step_over S.B S.sb S.n S.scap i (S.p i) D.gg S.most D.oa D.ord.length D.oc c cs0 w hi t0 (hs.ss hi) (by rw [hs.p2 hi, hD.fe i, he]) t1 t2 t3 (hov.trans hx)) A).mono fun _ _ h => same (fun z => ?_) h
      rw [hx] at z; cases z.1
    | false =>
      rw [← hk] at A
      refine (step_turn hD (by omega) he (hov.trans hx) A).mono ?_
      rintro m' T' ⟨D', w', A', hD', hor, hk'⟩
      rw [hk'] at A'
      rw [hk] at A'
      refine ⟨D', w', C.next x i, A', hD', ?_, hk'.trans hk⟩
      unfold stepX
      rw [if_pos ⟨hx, by omega, by omega, by rw [hz]; exact hout⟩, hz, hor]
theorem round_loop {sa : Option Addr} {mm c : Nat} {cs0 : List Frame} : ∀ (r j : Nat) {D : Dyn} {x : X} {w : World} {u : Nat → Value} {m : Machine} {T : Trace}, j + r = S.n → Drv C n0 D x w → D.k = S.n →
    At Try.prog (VV S D none none) 0 (S.g0 + S.n) (G (hd55c S.B sa mm c S.n j u) cs0) w m T →
    Relay.Comes Try.prog (fun m' T' => ∃ D' w' x' u', At Try.prog (VV S D' none none) 0 (S.g0 + S.n) (G (hd55b S.B sa mm c u') cs0) w' m' T' ∧ Drv C n0 D' x' w' ∧ (x', D'.ord) = (List.range' j r).foldl (fun st i => stepX C st (i : Nat)) (x, D.ord) ∧ D'.k = S.n) m T
  | 0, j, D, x, w, u, m, T, hj, hD, hk, A => by
    have hj : j = S.n := hj
    rw [hj] at A
    refine (At.walk (h := 0) (round_out S.B S.n sa mm c u cs0 w) A).mono ?_
    rintro m' T' ⟨_, _, ⟨⟨u', rfl⟩, d, rfl⟩, A'⟩
    exact ⟨D, _, x, u', A', ⟨hD.sys.at d, C.keep hD.inv ((Keeps.refl _ _).at d), hD.fe, hD.out, hD.fresh, hD.gg, hD.most, hD.cnt⟩, rfl, hk⟩
  | r + 1, j, D, x, w, u, m, T, hj, hD, hk, A => by
    refine (At.walk (h := 0) (Stop := fun g w' => g = G (Frame.enter Try.prog 140 #[.pointer (some ⟨S.B, 0, none⟩), .int .i64 j] .normal) (fr55c S.B sa mm c S.n j u :: cs0) ∧ ∃ d, w' = w.at d) (round_go S.B S.n j sa mm c u cs0 w (by omega) (.stop fun d => ⟨rfl, d, rfl⟩)) A).bind ?_
    rintro m1 T1 ⟨_, _, ⟨rfl, d, rfl⟩, A1⟩
    have hD1 : Drv C n0 D x (w.at d) := ⟨hD.sys.at d, C.keep hD.inv ((Keeps.refl _ _).at d), hD.fe, hD.out, hD.fresh, hD.gg, hD.most, hD.cnt⟩
    refine (step_any hD1 hk j A1).bind ?_
    rintro m2 T2 ⟨D2, w2, x2, A2, hD2, hx2, hk2⟩
    refine (At.walk (h := 0) (round_next S.B S.n j sa mm c u cs0 w2 (by omega) hD.sys.n64) A2).bind ?_
    rintro m3 T3 ⟨_, _, ⟨⟨u', rfl⟩, d3, rfl⟩, A3⟩
    have hD3 : Drv C n0 D2 x2 (w2.at d3) := ⟨hD2.sys.at d3, C.keep hD2.inv ((Keeps.refl _ _).at d3), hD2.fe, hD2.out, hD2.fresh, hD2.gg, hD2.most, hD2.cnt⟩
    refine (round_loop r (j + 1) (by omega) hD3 hk2 A3).mono ?_
    rintro m4 T4 ⟨D4, w4, x4, u4, A4, hD4, hx4, hk4⟩
    refine ⟨D4, w4, x4, u4, A4, hD4, ?_, hk4⟩
    rw [hx4, hx2, List.range'_succ, List.foldl_cons]
theorem rounds {sa : Option Addr} {mm c : Nat} {c' : Frame} {cs0 : List Frame} : ∀ (f : Nat) {D : Dyn} {x : X} {w : World} {u : Nat → Value} {m : Machine} {T : Trace}, S.most ≤ (D.ord.length + f : Nat) → Drv C n0 D x w → D.k = S.n →
    At Try.prog (VV S D none none) 0 (S.g0 + S.n) (G (hd55b S.B sa mm c u) (c' :: cs0)) w m T →
    Relay.Comes Try.prog (fun m' T' => ∃ D' w' x', At Try.prog (VV S D' none none) 0 (S.g0 + S.n) (G (c'.finish (.tuple #[])) cs0) w' m' T' ∧ Drv C n0 D' x' w' ∧ (x', D'.ord) = restX C f (x, D.ord) ∧ D'.k = S.n ∧ overX C (x', D'.ord) = true) m T := by
  have fin : ∀ (f : Nat) {D : Dyn} {x : X} {w : World} {u : Nat → Value} {m : Machine} {T : Trace}, overX C (x, D.ord) = true → Drv C n0 D x w → D.k = S.n → At Try.prog (VV S D none none) 0 (S.g0 + S.n) (G (hd55b S.B sa mm c u) (c' :: cs0)) w m T →
      Relay.Comes Try.prog (fun m' T' => ∃ D' w' x', At Try.prog (VV S D' none none) 0 (S.g0 + S.n) (G (c'.finish (.tuple #[])) cs0) w' m' T' ∧ Drv C n0 D' x' w' ∧ (x', D'.ord) = restX C f (x, D.ord) ∧ D'.k = S.n ∧ overX C (x', D'.ord) = true) m T := by
    intro f D x w u m T ho hD hk A
    obtain ⟨_, t1, t2, t3, _, _⟩ := hD.sys.tB
    refine (At.walk (h := 0) (round_over S.B sa mm c D.gg S.most D.oa D.ord.length D.oc u c' cs0 w t1 t2 t3 ((hD.over hk).trans ho)) A).mono ?_
    rintro m' T' ⟨_, _, ⟨rfl, d, rfl⟩, A'⟩
    exact ⟨D, _, x, A', ⟨hD.sys.at d, C.keep hD.inv ((Keeps.refl _ _).at d), hD.fe, hD.out, hD.fresh, hD.gg, hD.most, hD.cnt⟩, (restX_over ho f).symm, hk, ho⟩
  intro f
  induction f with
  | zero =>
    intro D x w u m T hf hD hk A
    refine fin 0 ?_ hD hk A
    unfold overX
    have : decide (S.most ≤ (x, D.ord).2.length) = true := decide_eq_true (by simpa using hf)
    rw [this, Bool.or_true]
  | succ f ih =>
    intro D x w u m T hf hD hk A
    cases ho : overX C (x, D.ord) with
    | true => exact fin _ ho hD hk A
    | false =>
      obtain ⟨t0, t1, t2, t3, _, _⟩ := hD.sys.tB
      refine (At.walk (h := 0) (round_in S.B S.sb S.n S.scap sa mm c D.gg S.most D.oa D.ord.length D.oc u (c' :: cs0) w t0 t1 t2 t3 ((hD.over hk).trans ho)) A).bind ?_
      rintro m1 T1 ⟨_, _, ⟨⟨u', rfl⟩, d, rfl⟩, A1⟩
      have hD1 : Drv C n0 D x (w.at d) := ⟨hD.sys.at d, C.keep hD.inv ((Keeps.refl _ _).at d), hD.fe, hD.out, hD.fresh, hD.gg, hD.most, hD.cnt⟩
      refine (round_loop S.n 0 (by omega) hD1 hk A1).bind ?_
      rintro m2 T2 ⟨D2, w2, x2, u2, A2, hD2, hx2, hk2⟩
      rw [← List.range_eq_range'] at hx2
      have hx2 : (x2, D2.ord) = roundX C (x, D.ord) := hx2
      have hg := round_grow ho
      rw [← hx2] at hg
      simp only at hg
      refine (ih (by omega) hD2 hk2 A2).mono ?_
      rintro m3 T3 ⟨D3, w3, x3, A3, hD3, hx3, hk3, ho3⟩
      refine ⟨D3, w3, x3, A3, hD3, ?_, hk3, ho3⟩
      rw [hx3, hx2, restX, if_neg (by rw [ho]; simp)]
theorem follow_all {c' : Frame} {cs0 : List Frame} : ∀ (l : List Int) (j : Nat) {D : Dyn} {x : X} {w : World} {u : Nat → Value} {m : Machine} {T : Trace}, S.sl.drop j = l → j ≤ S.sl.length → S.sl.length ≤ 17592186044416 → Drv C n0 D x w → D.k = S.n →
    At Try.prog (VV S D none none) 0 (S.g0 + S.n) (G (hd55 S.B S.sa S.sl.length S.sc j u) (c' :: cs0)) w m T →
    Relay.Comes Try.prog (fun m' T' => ∃ D' w' x', At Try.prog (VV S D' none none) 0 (S.g0 + S.n) (G (c'.finish (.tuple #[])) cs0) w' m' T' ∧ Drv C n0 D' x' w' ∧ (x', D'.ord) = followX C (x, D.ord) l ∧ D'.k = S.n ∧ overX C (x', D'.ord) = true) m T
  | [], j, D, x, w, u, m, T, hl, hj, hm, hD, hk, A => by
    have hj' : j = S.sl.length := Nat.le_antisymm hj (List.drop_eq_nil_iff.1 hl)
    rw [hj'] at A
    refine (At.walk (h := 0) (follow_past S.B S.sa S.sl.length S.sc u (c' :: cs0) w) A).bind ?_
    rintro m1 T1 ⟨_, _, ⟨⟨u', rfl⟩, d, rfl⟩, A1⟩
    have hD1 : Drv C n0 D x (w.at d) := ⟨hD.sys.at d, C.keep hD.inv ((Keeps.refl _ _).at d), hD.fe, hD.out, hD.fresh, hD.gg, hD.most, hD.cnt⟩
    exact rounds S.most.toNat (by omega) hD1 hk A1
  | z :: l, j, D, x, w, u, m, T, hl, hj, hm, hD, hk, A => by
    have hz : S.sl[j]? = some z := by
      have := congrArg (·[0]?) hl
      simpa using this
    have hlt : j < S.sl.length := (List.getElem?_eq_some_iff.1 hz).1
    have hl' : S.sl.drop (j + 1) = l := by
      have := congrArg (List.drop 1) hl
      simpa [List.drop_drop, Nat.add_comm] using this
    obtain ⟨s, so, hs, hc⟩ := C.sch hD.inv hz
    obtain ⟨_, t1, t2, t3, _, _⟩ := hD.sys.tB
    rw [hs] at A
    cases ho : overX C (x, D.ord) with
    | true =>
      refine (At.walk (h := 0) (follow_over S.B s so S.sl.length S.sc j z D.gg S.most D.oa D.ord.length D.oc u c' cs0 w hlt hc t1 t2 t3 ((hD.over hk).trans ho)) A).mono ?_
      rintro m' T' ⟨_, _, ⟨rfl, d, rfl⟩, A'⟩
      exact ⟨D, _, x, A', ⟨hD.sys.at d, C.keep hD.inv ((Keeps.refl _ _).at d), hD.fe, hD.out, hD.fresh, hD.gg, hD.most, hD.cnt⟩, (followX_over ho _).symm, hk, ho⟩
    | false =>
      refine (At.walk (h := 0) (Stop := fun g w' => g = G (Frame.enter Try.prog 140 #[.pointer (some ⟨S.B, 0, none⟩), .int .i64 z] .normal) (fr55 S.B s so S.sl.length S.sc j z u :: c' :: cs0) ∧ ∃ d, w' = w.at d)
        (follow_go S.B s so S.sl.length S.sc j z D.gg S.most D.oa D.ord.length D.oc u (c' :: cs0) w hlt hc t1 t2 t3 ((hD.over hk).trans ho) (.stop fun d => ⟨rfl, d, rfl⟩)) A).bind ?_
      rintro m1 T1 ⟨_, _, ⟨rfl, d, rfl⟩, A1⟩
      have hD1 : Drv C n0 D x (w.at d) := ⟨hD.sys.at d, C.keep hD.inv ((Keeps.refl _ _).at d), hD.fe, hD.out, hD.fresh, hD.gg, hD.most, hD.cnt⟩
      refine (step_any hD1 hk z A1).bind ?_
      rintro m2 T2 ⟨D2, w2, x2, A2, hD2, hx2, hk2⟩
      refine (At.walk (h := 0) (follow_next S.B s so S.sl.length S.sc j z u (c' :: cs0) w2 hlt hm) A2).bind ?_
      rintro m3 T3 ⟨_, _, ⟨⟨u', rfl⟩, d3, rfl⟩, A3⟩
      have hD3 : Drv C n0 D2 x2 (w2.at d3) := ⟨hD2.sys.at d3, C.keep hD2.inv ((Keeps.refl _ _).at d3), hD2.fe, hD2.out, hD2.fresh, hD2.gg, hD2.most, hD2.cnt⟩
      rw [← hs] at A3
      refine (follow_all l (j + 1) hl' hlt hm hD3 hk2 A3).mono ?_
      rintro m4 T4 ⟨D4, w4, x4, A4, hD4, hx4, hk4, ho4⟩
      refine ⟨D4, w4, x4, A4, hD4, ?_, hk4, ho4⟩
      rw [hx4, hx2]
      rfl
end
end
section
variable {main : Bool} {V : Nat → Option Wait}
noncomputable def code23 (i : Nat) : Code := match Try.f81.body with
  | some (.seq _ (.seq a1 (.seq a2 (.seq a3 (.seq a4 (.seq a5 (.seq a6 c))))))) => [a1, a2, a3, a4, a5, a6, c].getD i .skip
  | _ => .skip
noncomputable def tail23 (i : Nat) : Code := match Try.f81.body with
  | some (.seq _ (.seq _ c1)) => match c1 with
    | .seq _ c2 => match c2 with
      | .seq _ c3 => match c3 with
        | .seq _ c4 => match c4 with
          | .seq _ c5 => match c5 with
            | .seq _ c6 => [.skip, c1, c2, c3, c4, c5, c6].getD i .skip
            | _ => .skip
          | _ => .skip
        | _ => .skip
      | _ => .skip
    | _ => .skip
  | _ => .skip
noncomputable def ops23 (i : Nat) : Array Oper := match code23 i with | .region _ ops _ => ops | _ => #[]
noncomputable def fr23t (n tcap m c : Nat) (ta sa : Option Addr) (og : Value) (most : Int) : Frame := (base 81).at { tmps := #[.slice ta n tcap, .slice sa m c, .int .i64 most, undef, undef, undef, .slice none 0 0, .bool false, .slice none 0 0, undef, og, .slice ta n tcap, .slice ta n tcap, .int .i64 most, undef, undef, undef, undef, undef, undef, undef, undef, undef, undef, undef, undef, undef, undef, undef, undef, undef, undef, undef, undef], defers := [] } [.inRegion (ops23 1) [2, 3], .code (tail23 2)]
noncomputable def fr23a (B : Nat) (n tcap m c : Nat) (ta sa : Option Addr) (og : Value) (most : Int) : Frame := (base 81).at { tmps := #[.slice ta n tcap, .slice sa m c, .int .i64 most, undef, undef, undef, .slice none 0 0, .bool false, .slice none 0 0, .pointer (some ⟨B, 0, none⟩), og, .slice ta n tcap, .slice ta n tcap, .int .i64 most, .pointer (some ⟨B, 0, none⟩), .pointer (some ⟨B, 0, none⟩), .slice ta n tcap, undef, undef, undef, undef, undef, undef, undef, undef, undef, undef, undef, undef, undef, undef, undef, undef, undef], defers := [] } [.inRegion (ops23 2) [2], .code (tail23 3)]
noncomputable def fr23b (B : Nat) (n tcap m c : Nat) (ta sa : Option Addr) (og : Value) (most : Int) : Frame := (base 81).at { tmps := #[.slice ta n tcap, .slice sa m c, .int .i64 most, undef, undef, undef, .slice none 0 0, .bool false, .slice none 0 0, .pointer (some ⟨B, 0, none⟩), og, .slice ta n tcap, .slice ta n tcap, .int .i64 most, .pointer (some ⟨B, 0, none⟩), .pointer (some ⟨B, 0, none⟩), .slice ta n tcap, .tuple #[], .pointer (some ⟨B, 0, none⟩), .slice sa m c, undef, undef, undef, undef, undef, undef, undef, undef, undef, undef, undef, undef, undef, undef], defers := [] } [.inRegion (ops23 3) [2], .code (tail23 4)]
noncomputable def fr23c (B : Nat) (n tcap m c : Nat) (ta sa : Option Addr) (og : Value) (most : Int) (going : Int) : Frame := (base 81).at { tmps := #[.slice ta n tcap, .slice sa m c, .int .i64 most, undef, undef, undef, .slice none 0 0, .bool (decide (0 < going)), .slice none 0 0, .pointer (some ⟨B, 0, none⟩), og, .slice ta n tcap, .slice ta n tcap, .int .i64 most, .pointer (some ⟨B, 0, none⟩), .pointer (some ⟨B, 0, none⟩), .slice ta n tcap, .tuple #[], .pointer (some ⟨B, 0, none⟩), .slice sa m c, .tuple #[], .pointer (some ⟨B, 0, none⟩), .pointer (some ⟨B, 0, none⟩), .pointer (some ⟨B, 1, none⟩), .int .i64 going, .bool (decide (0 < going)), .pointer (some ⟨B, 0, none⟩), undef, undef, undef, undef, undef, undef, undef], defers := [] } [.inRegion (ops23 5) [1, 2], .code (tail23 6)]
theorem over_in {Stop : Goroutine → World → Prop} (n tcap m c : Nat) (ta sa : Option Addr) (og : Value) (most : Int) (cs : List Frame) (w : World) (hog : CallV Try.prog main V 111 #[og] w (.slice ta n tcap) w)
    (hk : Walk Try.prog main (DR V) Stop (G (Frame.enter Try.prog 112 #[.slice ta n tcap, .int .i64 most] .normal) (fr23t n tcap m c ta sa og most :: cs)) w) :
    Walk Try.prog main (DR V) Stop (G (Frame.enter Try.prog 81 #[og, .slice sa m c, .int .i64 most] .normal) cs) w := by
  simp only [fr23t, ops23, code23, tail23, Try.f81, List.getD_cons_succ, List.getD_cons_zero] at hk
  rw [enter_at _ Try.func81 rfl]
  simp only [Try.f81, ez, Nat.reduceAdd, Nat.reduceSub]
  repeat (first | refine Walk.cx ?_ | refine Walk.cR ?_ | (refine Walk.oq ?_; try walk_nrm) | (refine Walk.un ?_; walk_nrm))
  refine Walk.callV (x := .slice ta n tcap) (W := w) ?_ rfl (by rfl) (by decide) rfl Try.func111 (by kernel_rfl) (by rfl) ?_
  · walk_nrm
    exact hog
  walk_nrm
  repeat (first | refine Walk.cx ?_ | refine Walk.cR ?_ | (refine Walk.oq ?_; try walk_nrm) | (refine Walk.un ?_; walk_nrm))
  refine Walk.callE rfl (by rfl) (by decide) rfl Try.func112 (by kernel_rfl) (by rfl) ?_
  walk_nrm
  exact hk
theorem over_begin {Stop : Goroutine → World → Prop} (B : Nat) (n tcap m c : Nat) (ta sa : Option Addr) (og : Value) (most : Int) (cs : List Frame) (w : World)
    (hk : Walk Try.prog main (DR V) Stop (G (Frame.enter Try.prog 113 #[.pointer (some ⟨B, 0, none⟩), .slice ta n tcap] .normal) (fr23a B n tcap m c ta sa og most :: cs)) w) :
    Walk Try.prog main (DR V) Stop (G ((fr23t n tcap m c ta sa og most).finish (.pointer (some ⟨B, 0, none⟩))) cs) w := by
  simp only [fr23a, ops23, code23, tail23, Try.f81, List.getD_cons_succ, List.getD_cons_zero] at hk
  unfold fr23t
  rw [Frame.finish_at]
  simp only [ops23, code23, tail23, Try.f81, List.getD_cons_succ, List.getD_cons_zero]
  walk_nrm
  repeat (first | refine Walk.cx ?_ | refine Walk.cR ?_ | (refine Walk.oq ?_; try walk_nrm) | (refine Walk.un ?_; walk_nrm))
  refine Walk.callE rfl (by rfl) (by decide) rfl Try.func113 (by kernel_rfl) (by rfl) ?_
  walk_nrm
  exact hk
theorem over_follow {Stop : Goroutine → World → Prop} (B : Nat) (n tcap m c : Nat) (ta sa : Option Addr) (og : Value) (most : Int) (cs : List Frame) (w : World)
    (hk : Walk Try.prog main (DR V) Stop (G (Frame.enter Try.prog 114 #[.pointer (some ⟨B, 0, none⟩), .slice sa m c] .normal) (fr23b B n tcap m c ta sa og most :: cs)) w) :
    Walk Try.prog main (DR V) Stop (G ((fr23a B n tcap m c ta sa og most).finish (.tuple #[])) cs) w := by
  simp only [fr23b, ops23, code23, tail23, Try.f81, List.getD_cons_succ, List.getD_cons_zero] at hk
  unfold fr23a
  rw [Frame.finish_at]
  simp only [ops23, code23, tail23, Try.f81, List.getD_cons_succ, List.getD_cons_zero]
  walk_nrm
  repeat (first | refine Walk.cx ?_ | refine Walk.cR ?_ | (refine Walk.oq ?_; try walk_nrm) | (refine Walk.un ?_; walk_nrm))
  refine Walk.callE rfl (by rfl) (by decide) rfl Try.func114 (by kernel_rfl) (by rfl) ?_
  walk_nrm
  exact hk
theorem over_end {Stop : Goroutine → World → Prop} (B : Nat) (n tcap m c : Nat) (ta sa : Option Addr) (og : Value) (most : Int) (going : Int) (cs : List Frame) (w : World) (h1 : w.cell? ⟨B, 1, none⟩ = some (.int .i64 going))
    (hk : Walk Try.prog main (DR V) Stop (G (Frame.enter Try.prog 115 #[.pointer (some ⟨B, 0, none⟩)] .normal) (fr23c B n tcap m c ta sa og most going :: cs)) w) :
    Walk Try.prog main (DR V) Stop (G ((fr23b B n tcap m c ta sa og most).finish (.tuple #[])) cs) w := by
  simp only [fr23c, ops23, code23, tail23, Try.f81, List.getD_cons_succ, List.getD_cons_zero] at hk
  unfold fr23b
  rw [Frame.finish_at]
  simp only [ops23, code23, tail23, Try.f81, List.getD_cons_succ, List.getD_cons_zero]
  walk_nrm
  repeat (first | refine Walk.cx ?_ | refine Walk.cR ?_ | (refine Walk.oq ?_; try walk_nrm) | (refine Walk.un ?_; walk_nrm))
  refine Walk.callE rfl (by rfl) (by decide) rfl Try.func115 (by kernel_rfl) (by rfl) ?_
  walk_nrm
  exact hk
theorem results23 (tmps : Array Value) (x y z : Value) (w : World) (h6 : tmps.getD 6 undef = x) (h7 : tmps.getD 7 undef = y) (h8 : tmps.getD 8 undef = z) :
    (results Try.f81 tmps).run Try.prog w = .ok (.tuple #[x, y, z]) w ∧ (results Try.f81 tmps).events Try.prog w #[] = #[] := by
  subst h6; subst h7; subst h8
  constructor
  · simp [results, Try.f81]
  · simp [results, Try.f81]
theorem over_out (B q : Nat) (n tcap m c : Nat) (ta sa : Option Addr) (og : Value) (most : Int) (going : Int) (oa : Option Addr) (on oc : Nat) (c' : Frame) (cs : List Frame) (w : World) (h3 : w.cell? ⟨B, 3, none⟩ = some (.slice oa on oc)) :
    Walk Try.prog main (DR V) (fun g w' => g = G (c'.finish (.tuple #[.slice oa on oc, .bool (decide (0 < going)), .slice (some ⟨q, 0, none⟩) n n])) cs ∧ ∃ d, w' = w.at d) (G ((fr23c B n tcap m c ta sa og most going).finish (.slice (some ⟨q, 0, none⟩) n n)) (c' :: cs)) w := by
  unfold fr23c
  rw [Frame.finish_at]
  simp only [ops23, code23, tail23, Try.f81, List.getD_cons_succ, List.getD_cons_zero]
  walk_nrm
  repeat (first | refine Walk.cx ?_ | refine Walk.cR ?_ | (refine Walk.oq ?_; try walk_nrm) | (refine Walk.un ?_; walk_nrm))
  exact Walk.ctl rfl (fun w => stepG_leave rfl rfl Try.func81 (results23 _ _ _ _ w rfl rfl rfl).1 (results23 _ _ _ _ w rfl rfl rfl).2) (.stop fun d => ⟨rfl, d, rfl⟩)
end
section
variable {main : Bool} {V : Nat → Option Wait}
noncomputable def chan0 : Obj := .chan 0 #[] false 0 0 false
noncomputable def standW (w : World) (t r : Nat) : World := ((w.alloc chan0).alloc chan0).alloc (.cells #[.chan (some t), .chan (some r), .bool false, .bool false] 236)
theorem run_chan {o : Oper} (ho : o.op = .makeChan 234 (.const (.int .i64 0))) (fn : FuncId) (a : Act) (w : World) (d : Nat) : (execOp a.eval o).run Try.prog (w.at d) = .ok (.value (.chan (some w.heap.size))) ((w.alloc chan0).at d) ∧ DR V (w.at d) ((w.alloc chan0).at d) (listed Try.prog fn a o (w.at d)) := by
  have hi := Option.some_get (show (Try.prog.info? 46).isSome = true by kernel_rfl)
  have ht : ∃ dir, Try.prog.underlying 234 = some (.chan dir 46) := ⟨.both, by kernel_rfl⟩
  obtain ⟨dir, ht⟩ := ht
  have hr := run_makeChan (P := Try.prog) (w := w.at d) ht hi.symm .i64 0 (by decide) (by simp)
  have he := events_makeChan (P := Try.prog) (w := w.at d) ht hi.symm .i64 0 (by decide) (by simp) #[]
  simp only [Int.ofNat_zero, Int.natCast_zero, Int.cast_ofNat_Int] at hr he
  have hn : a.eval (.const (.int .i64 0)) = .int .i64 0 := rfl
  have hv : (execOp a.eval o).events Try.prog (w.at d) #[] = #[] := by
    simp only [execOp, ho, hn, Sem.events_bind, hr, he]
    rfl
  refine ⟨?_, DR.alloc' d _ fun ev hm => ?_⟩
  · simp only [execOp, ho, hn, Sem.run_bind, hr]
    rfl
  · have hm' := mem_listed hm
    rw [hv] at hm'
    exact absurd hm' (by simp)
theorem stand_new (w : World) :
    CallW Try.prog main V 136 #[] w (fun v w' => ∃ t r, v = .pointer (some ⟨w.heap.size + 2, 0, none⟩) ∧ ((t = w.heap.size ∧ r = w.heap.size + 1) ∨ (t = w.heap.size + 1 ∧ r = w.heap.size)) ∧ ∃ d, w' = (standW w t r).at d) := by
  refine callW_in Try.func136 rfl fun fr cs => ?_
  simp only [Try.ntmps136, ez, Nat.reduceAdd, Nat.reduceSub]
  repeat (first | refine Walk.cx ?_ | refine Walk.cR ?_ | (refine Walk.oq ?_; try walk_nrm) | (refine Walk.un ?_; walk_nrm))
  refine Walk.drawn (by kernel_rfl) (by decide) (Q := fun a' w' => (∃ t r, a'.tmps.getD 0 undef = .pointer (some ⟨w.heap.size + 2, 0, none⟩) ∧ ((t = w.heap.size ∧ r = w.heap.size + 1) ∨ (t = w.heap.size + 1 ∧ r = w.heap.size)) ∧ ∃ d, w' = (standW w t r).at d) ∧ a'.defers = []) (fun d => ?_) ?_
  · simp only [List.size_toArray, List.length_cons, List.length_nil, Nat.reduceAdd, Nat.zero_add]
    refine anyCH_all (rs := [0, 1]) (by first | kernel_rfl | decide +kernel) (by simp) ?_
    intro i hi
    have hs1 : (w.alloc chan0).heap.size = w.heap.size + 1 := by simp
    obtain rfl | rfl : i = 0 ∨ i = 1 := by simpa using hi
    · refine opC_new (w := w) (W := (w).alloc chan0) rfl (by rfl) (fun d => (run_chan (V := V) rfl 136 _ _ d).1) (fun d => (run_chan rfl 136 _ _ d).2) (fun d => ⟨trivial, ?_⟩)
      walk_nrm
      refine anyCH_all (rs := [1]) (by first | kernel_rfl | decide +kernel) (by simp) (fun i hi => ?_)
      obtain rfl : i = 1 := by simpa using hi
      refine opC_new (w := w.alloc chan0) (W := (w.alloc chan0).alloc chan0) rfl (by rfl) (fun d => (run_chan (V := V) rfl 136 _ _ d).1) (fun d => (run_chan rfl 136 _ _ d).2) (fun d => ⟨trivial, ?_⟩)
      walk_nrm
      simp only [hs1]
      refine anyCH_all (rs := [2]) (by first | kernel_rfl | decide +kernel) (by simp) (fun i hi => ?_)
      obtain rfl : i = 2 := by simpa using hi
      refine opC_new (w := (w.alloc chan0).alloc chan0) (W := (w.alloc chan0).alloc chan0) (x := .agg #[.chan (some w.heap.size), .chan (some (w.heap.size + 1)), .bool false, .bool false]) rfl (by rfl) (fun d => run_eq_of (fun K hK => by go_simp; exact hK)) (fun d => DR.quiet (fun e he => by have hm := mem_listed he; simp [go_sem, *] at hm)) (fun d => ⟨trivial, ?_⟩)
      walk_nrm
      refine anyCH_all (rs := [3]) (by first | kernel_rfl | decide +kernel) (by simp) (fun i hi => ?_)
      obtain rfl : i = 3 := by simpa using hi
      refine opC_new (w := (w.alloc chan0).alloc chan0) (W := standW w w.heap.size (w.heap.size + 1)) (x := .pointer (some ⟨w.heap.size + 2, 0, none⟩)) rfl (by rfl) (fun d => run_eq_of (fun K hK => by go_simp; exact hK)) (fun d => DR.alloc' d _ (fun e he => by have hm := mem_listed he; simp [go_sem, *] at hm)) (fun d => ⟨trivial, ?_⟩)
      walk_nrm
      refine anyCH_all (rs := [4]) (by first | kernel_rfl | decide +kernel) (by simp) (fun i hi => ?_)
      obtain rfl : i = 4 := by simpa using hi
      refine opC_new (w := standW w w.heap.size (w.heap.size + 1)) (W := standW w w.heap.size (w.heap.size + 1)) (x := .pointer (some ⟨w.heap.size + 2, 0, none⟩)) rfl (by rfl) (fun d => run_eq_of (fun K hK => by go_simp; exact hK)) (fun d => DR.quiet (fun e he => by have hm := mem_listed he; simp [go_sem, *] at hm)) (fun d => ⟨trivial, ?_⟩)
      walk_nrm
      refine anyCH_done (by first | kernel_rfl | decide +kernel) ⟨rfl, ⟨_, _, ?_, .inl ⟨rfl, rfl⟩, _, rfl⟩, rfl⟩ _
      simp
    · refine opC_new (w := w) (W := (w).alloc chan0) rfl (by rfl) (fun d => (run_chan (V := V) rfl 136 _ _ d).1) (fun d => (run_chan rfl 136 _ _ d).2) (fun d => ⟨trivial, ?_⟩)
      walk_nrm
      refine anyCH_all (rs := [0]) (by first | kernel_rfl | decide +kernel) (by simp) (fun i hi => ?_)
      obtain rfl : i = 0 := by simpa using hi
      refine opC_new (w := w.alloc chan0) (W := (w.alloc chan0).alloc chan0) rfl (by rfl) (fun d => (run_chan (V := V) rfl 136 _ _ d).1) (fun d => (run_chan rfl 136 _ _ d).2) (fun d => ⟨trivial, ?_⟩)
      walk_nrm
      simp only [hs1]
      refine anyCH_all (rs := [2]) (by first | kernel_rfl | decide +kernel) (by simp) (fun i hi => ?_)
      obtain rfl : i = 2 := by simpa using hi
      refine opC_new (w := (w.alloc chan0).alloc chan0) (W := (w.alloc chan0).alloc chan0) (x := .agg #[.chan (some (w.heap.size + 1)), .chan (some w.heap.size), .bool false, .bool false]) rfl (by rfl) (fun d => run_eq_of (fun K hK => by go_simp; exact hK)) (fun d => DR.quiet (fun e he => by have hm := mem_listed he; simp [go_sem, *] at hm)) (fun d => ⟨trivial, ?_⟩)
      walk_nrm
      refine anyCH_all (rs := [3]) (by first | kernel_rfl | decide +kernel) (by simp) (fun i hi => ?_)
      obtain rfl : i = 3 := by simpa using hi
      refine opC_new (w := (w.alloc chan0).alloc chan0) (W := standW w (w.heap.size + 1) w.heap.size) (x := .pointer (some ⟨w.heap.size + 2, 0, none⟩)) rfl (by rfl) (fun d => run_eq_of (fun K hK => by go_simp; exact hK)) (fun d => DR.alloc' d _ (fun e he => by have hm := mem_listed he; simp [go_sem, *] at hm)) (fun d => ⟨trivial, ?_⟩)
      walk_nrm
      refine anyCH_all (rs := [4]) (by first | kernel_rfl | decide +kernel) (by simp) (fun i hi => ?_)
      obtain rfl : i = 4 := by simpa using hi
      refine opC_new (w := standW w (w.heap.size + 1) w.heap.size) (W := standW w (w.heap.size + 1) w.heap.size) (x := .pointer (some ⟨w.heap.size + 2, 0, none⟩)) rfl (by rfl) (fun d => run_eq_of (fun K hK => by go_simp; exact hK)) (fun d => DR.quiet (fun e he => by have hm := mem_listed he; simp [go_sem, *] at hm)) (fun d => ⟨trivial, ?_⟩)
      walk_nrm
      refine anyCH_done (by first | kernel_rfl | decide +kernel) ⟨rfl, ⟨_, _, ?_, .inr ⟨rfl, rfl⟩, _, rfl⟩, rfl⟩ _
      simp
  · rintro a' w' ⟨⟨t, r, h, ht, d, rfl⟩, hd⟩
    repeat (first | refine Walk.cx ?_ | refine Walk.cR ?_ | (refine Walk.oq ?_; try walk_nrm) | (refine Walk.un ?_; walk_nrm))
    exact Walk.ret1 rfl hd Try.func136 rfl fun d' => ⟨t, r, h, ht, d', rfl⟩
end
end Go.Proofs.Ytgfajibjedfkdaa
