/- Part 9. -/
import Derived.Test.YtgfajibjedfkdaaJK3
import Derived.Test.YtgfajibjedfkdaaJK7
import Derived.Test.YtgfajibjedfkdaaJK8
import Derived.Deep.Heap
set_option linter.unusedSimpArgs false
set_option linter.unusedVariables false
set_option maxHeartbeats 8000000
set_option maxRecDepth 100000
namespace Go.Proofs.Ytgfajibjedfkdaa
open Go.Conc Go.RowKit Go.Relay
open Go.ConcN (upd upd_ne upd_same)
section
variable {main : Bool} {V : Nat → Option Wait}
noncomputable def reg112_0 := rg Try.f112.body [0]
noncomputable def reg112_1 := rg Try.f112.body [1, 0]
noncomputable def reg112_2 := rg Try.f112.body [1, 1, 0, 0]
noncomputable def reg112_3 := rg Try.f112.body [1, 1, 0, 1, 0, 0, 0]
noncomputable def reg112_4 := rg Try.f112.body [1, 1, 0, 1, 0, 0, 1, 1, 0, 0]
theorem size112_4 : reg112_4.size = 11 := by kernel_rfl
noncomputable def reg112_5 := rg Try.f112.body [1, 1, 0, 1, 0, 0, 1, 1, 1]
noncomputable def reg112_6 := rg Try.f112.body [1, 1, 1, 0]
theorem z112 : List.range reg112_0.size = [0] ∧ List.range reg112_1.size = [0, 1, 2, 3, 4, 5, 6] ∧ List.range reg112_2.size = [0, 1, 2] ∧ List.range reg112_3.size = [0] ∧ List.range reg112_4.size = [0, 1, 2, 3, 4, 5, 6, 7, 8, 9, 10] ∧ List.range reg112_5.size = [0, 1] ∧ List.range reg112_6.size = [0, 1] := by refine ⟨?_, ?_, ?_, ?_, ?_, ?_, ?_⟩ <;> kernel_rfl
theorem code112_is : Try.f112.body = some (.seq (.region 0 reg112_0 false) (.seq (.region 1 reg112_1 false) (.seq (.seq (.region 2 reg112_2 false) (.block 0 (.loop (.seq (.region 3 reg112_3 false) (.seq (.cond (.tmp 15 ) (.skip) (.exit 0)) (.seq (.block 1 (.region 4 reg112_4 true)) (.region 5 reg112_5 false))))))) (.seq (.region 6 reg112_6 false) (.ret))))) := by kernel_rfl
noncomputable def nt53 (B j n : Nat) (u : Nat → Value) : Array Value := #[u 0, u 1, u 2, u 3, u 4, .pointer (some ⟨B, 0, none⟩), u 6, u 7, u 8, u 9, u 10, u 11, u 12, .int .i64 n, .int .i64 j, u 15, u 16, u 17, u 18, u 19, u 20, u 21, u 22, u 23, u 24, u 25, u 26, u 27]
def TR (w : World) (t r : Nat) : Prop := (t = w.heap.size ∧ r = w.heap.size + 1) ∨ (t = w.heap.size + 1 ∧ r = w.heap.size)
structure NT (V : Nat → Option Wait) (B : Nat) (oa : Option Addr) (on oc n0 : Nat) (xs : List Value) (w : World) : Prop where
  h0 : w.cell? ⟨B, 0, none⟩ = some (.slice oa on oc)
  hz : w.frozen? ⟨B, 0, none⟩ = false
  hf : Free V ⟨B, 0, none⟩
  own : w.ownsRow n0 230 1 (.slice oa on oc) on xs
  hn0 : n0 ≤ w.heap.size
  hon : on ≤ 64
  hap : ∀ g, (Value.slice oa on oc).ownBlock = some g → Apart V g ∧ g ≠ B
noncomputable def newW (w : World) (t r : Nat) : World := (standW w t r).alloc (.cells #[.pointer (some ⟨w.heap.size + 2, 0, none⟩)] 230)
structure NT7 (B : Nat) (oa : Option Addr) (on oc n0 : Nat) (xs : List Value) (w : World) (t r g cap : Nat) (w' : World) : Prop where
  own : w'.ownsRow n0 230 1 (.slice (some ⟨g, 0, none⟩) (on + 1) cap) (on + 1) (xs ++ [.pointer (some ⟨w.heap.size + 2, 0, none⟩)])
  grown : (newW w t r).grownBy w' (Value.slice oa on oc).ownBlock
  hat : (Value.slice oa on oc).ownBlock = some g ∨ g = (newW w t r).heap.size
  hlt : g < w'.heap.size
  h0 : w'.cell? ⟨B, 0, none⟩ = some (.slice oa on oc)
  hz : w'.frozen? ⟨B, 0, none⟩ = false
section
variable {B : Nat} {oa : Option Addr} {on oc n0 : Nat} {xs : List Value} {w : World}
theorem NT.stand (H : NT V B oa on oc n0 xs w) (t r : Nat) : (standW w t r).cell? ⟨B, 0, none⟩ = some (.slice oa on oc) ∧ (standW w t r).frozen? ⟨B, 0, none⟩ = false :=
  ⟨cell_alloc _ _ (cell_alloc _ _ (cell_alloc _ _ H.h0)), frozen_alloc _ _ (cell_alloc _ _ (cell_alloc _ _ H.h0)) (frozen_alloc _ _ (cell_alloc _ _ H.h0) (frozen_alloc _ _ H.h0 H.hz))⟩
theorem NT.new (H : NT V B oa on oc n0 xs w) (t r : Nat) : (newW w t r).cell? ⟨B, 0, none⟩ = some (.slice oa on oc) ∧ (newW w t r).frozen? ⟨B, 0, none⟩ = false :=
  ⟨cell_alloc _ _ (H.stand t r).1, frozen_alloc _ _ (H.stand t r).1 (H.stand t r).2⟩
theorem newW_size (w : World) (t r : Nat) : (newW w t r).heap.size = w.heap.size + 4 := by simp [newW, standW]
theorem standW_size (w : World) (t r : Nat) : (standW w t r).heap.size = w.heap.size + 3 := by simp [standW]
theorem newW_new (w : World) (t r : Nat) : (newW w t r).cell? ((⟨w.heap.size + 3, 0, none⟩ : Addr).add 0) = some (.pointer (some ⟨w.heap.size + 2, 0, none⟩)) := by
  have h := World.cell?_alloc_at (w := standW w t r) #[.pointer (some ⟨w.heap.size + 2, 0, none⟩)] 230 (w.heap.size + 3) 0 (standW_size w t r).symm
  simpa [Addr.add, newW] using h
theorem stand_new' (f : Operand → Value) (w : World) : CallW Try.prog main V 136 (Array.map f #[]) w (fun v w' => ∃ t r, v = .pointer (some ⟨w.heap.size + 2, 0, none⟩) ∧ TR w t r ∧ ∃ d, w' = (standW w t r).at d) := by
  rw [Array.map_empty]; exact stand_new w
theorem NT.owned (H : NT V B oa on oc n0 xs w) (t r : Nat) : (newW w t r).ownsRow n0 230 1 (.slice oa on oc) on xs :=
  (((H.own.alloc _).alloc _).alloc _).alloc _
end
def ds53 : List Nat := [16, 17, 18, 19, 20, 21, 22, 23, 24, 25]
def vs53 (w : World) (B : Nat) (oa : Option Addr) (on oc g cap : Nat) : List Value := [.pointer (some ⟨B, 0, none⟩), .pointer (some ⟨B, 0, none⟩), .pointer (some ⟨B, 0, none⟩), .pointer (some ⟨B, 0, none⟩), .slice oa on oc, .pointer (some ⟨w.heap.size + 2, 0, none⟩), .slice (some ⟨w.heap.size + 3, 0, none⟩) 1 1, .slice (some ⟨g, 0, none⟩) (on + 1) cap, .pointer (some ⟨B, 0, none⟩), .pointer (some ⟨B, 0, none⟩)]
structure St53 (w : World) (B : Nat) (oa : Option Addr) (on oc n0 : Nat) (xs : List Value) (t r g cap : Nat) (w' : World) (f : Nat → Bool) (x : World) : Prop where
  s0 : f 5 = false → ∃ d, x = w.at d
  s5 : f 5 = true → TR w t r ∧ (f 6 = false → ∃ d, x = (standW w t r).at d)
  s6 : f 6 = true → f 7 = false → ∃ d, x = (newW w t r).at d
  s7 : f 7 = true → NT7 B oa on oc n0 xs w t r g cap w' ∧ (f 10 = false → ∃ d, x = w'.at d)
  s10 : f 10 = true → ∃ d, x = (w'.setCell ⟨B, 0, none⟩ (.slice (some ⟨g, 0, none⟩) (on + 1) cap)).at d
section
variable {w : World} {B : Nat} {oa : Option Addr} {on oc n0 : Nat} {xs : List Value} {t r g cap : Nat} {w' : World} {f : Nat → Bool} {x : World}
theorem St53.quiet (h : St53 w B oa on oc n0 xs t r g cap w' f x) {i : Nat} (h5 : i ≠ 5) (h6 : i ≠ 6) (h7 : i ≠ 7) (h10 : i ≠ 10) : St53 w B oa on oc n0 xs t r g cap w' (upd f i true) x := by
  refine ⟨?_, ?_, ?_, ?_, ?_⟩
  · rw [upd_ne _ _ (Ne.symm h5)]; exact h.s0
  · rw [upd_ne _ _ (Ne.symm h5), upd_ne _ _ (Ne.symm h6)]; exact h.s5
  · rw [upd_ne _ _ (Ne.symm h6), upd_ne _ _ (Ne.symm h7)]; exact h.s6
  · rw [upd_ne _ _ (Ne.symm h7), upd_ne _ _ (Ne.symm h10)]; exact h.s7
  · rw [upd_ne _ _ (Ne.symm h10)]; exact h.s10
theorem facts_keep {dsts : List Nat} {vals : List Value} {u : Nat → Value} (F : Facts dsts vals f u) {i : Nat} (hd : dsts[i]? = none) : Facts dsts vals (upd f i true) u := by
  intro j d v hf hj hv
  by_cases e : j = i
  · rw [e, hd] at hj; cases hj
  · rw [upd_ne _ _ e] at hf
    exact F j d v hf hj hv
theorem facts_turn {dsts : List Nat} {vals vals' : List Value} {u : Nat → Value} (F : Facts dsts vals f u) (h : ∀ j v, f j = true → vals'[j]? = some v → vals[j]? = some v) : Facts dsts vals' f u := fun j d v hf hd hv => F j d v hf hd (h j v hf hv)
end
variable {Stop : Goroutine → World → Prop} {k : List Item} {cs : List Frame}
theorem nt_reg (B j n : Nat) (oa : Option Addr) (on oc n0 : Nat) (xs : List Value) (w : World) (H : NT V B oa on oc n0 xs w) {act : Act} (ha : ∃ u, act = ⟨nt53 B j n u, []⟩)
    (hend : ∀ t r g cap w' d u, TR w t r → NT7 B oa on oc n0 xs w t r g cap w' → Walk Try.prog main (DR V) Stop (G ((base 112).at ⟨nt53 B j n u, []⟩ (.inRegion reg112_4 [] :: k)) cs) ((w'.setCell ⟨B, 0, none⟩ (.slice (some ⟨g, 0, none⟩) (on + 1) cap)).at d)) :
    Walk Try.prog main (DR V) Stop (G ((base 112).at act (.code (.region 4 reg112_4 true) :: k)) cs) w := by
  obtain ⟨u0, rfl⟩ := ha
  refine Walk.drawnJ (Inv := fun f ac' x => ∃ u t r g cap w', ac' = ⟨nt53 B j n u, []⟩ ∧ Facts ds53 (vs53 w B oa on oc g cap) f u ∧ St53 w B oa on oc n0 xs t r g cap w' f x) (by kernel_rfl) (by kernel_rfl) (fun d => ⟨u0, 0, 0, 0, 0, w, rfl, Facts.none _ _ _, fun _ => ⟨d, rfl⟩, fun h => (by cases h), fun h => (by cases h), fun h => (by cases h), fun h => (by cases h)⟩) ?_ ?_
  · rintro f i op act x ⟨u, t, r, g, cap, w', rfl, F0, S⟩ hC hfi ho hdeps rest hr
    have hi : i < 11 := by have := (Array.getElem?_eq_some_iff.1 ho).1; rw [size112_4] at this; exact this
    have no : ∀ {a b : Nat} {l : List Nat}, depB reg112_4 a l = true → b ∈ l → f b = false → f a = false := fun {a b l} h1 h2 h3 => by
      cases h : f a with
      | false => rfl
      | true => rw [hC.deps h h1 b h2] at h3; cases h3
    match i, hi with
    | 0, _ =>
      clear hdeps hC ho no hend
      simp only [nt53] at hr ⊢
      (refine Walk.oq ?_; try walk_nrm)
      refine hr _ _ ⟨upd u 16 (.pointer (some ⟨B, 0, none⟩)), t, r, g, cap, w', ?_, F0.set (by decide) rfl rfl, S.quiet (by decide) (by decide) (by decide) (by decide)⟩
      simp [nt53, upd]
    | 1, _ =>
      clear hdeps hC ho no hend
      simp only [nt53] at hr ⊢
      (refine Walk.oq ?_; try walk_nrm)
      refine hr _ _ ⟨upd u 17 (.pointer (some ⟨B, 0, none⟩)), t, r, g, cap, w', ?_, F0.set (by decide) rfl rfl, S.quiet (by decide) (by decide) (by decide) (by decide)⟩
      simp [nt53, upd]
    | 2, _ =>
      have hd := deps_of (l := [1]) (by kernel_rfl) ho hdeps
      have e17 := F0 1 17 _ (hd 1 (by simp)) rfl rfl
      clear hdeps hC ho no hend
      simp only [nt53] at hr ⊢
      simp only [e17]
      (refine Walk.oq ?_; try walk_nrm)
      refine hr _ _ ⟨upd u 18 (.pointer (some ⟨B, 0, none⟩)), t, r, g, cap, w', ?_, F0.set (by decide) rfl rfl, S.quiet (by decide) (by decide) (by decide) (by decide)⟩
      simp [nt53, upd, e17]
    | 3, _ =>
      have hd := deps_of (l := [2]) (by kernel_rfl) ho hdeps
      have e18 := F0 2 18 _ (hd 2 (by simp)) rfl rfl
      clear hdeps hC ho no hend
      simp only [nt53] at hr ⊢
      simp only [e18]
      (refine Walk.oq ?_; try walk_nrm)
      refine hr _ _ ⟨upd u 19 (.pointer (some ⟨B, 0, none⟩)), t, r, g, cap, w', ?_, F0.set (by decide) rfl rfl, S.quiet (by decide) (by decide) (by decide) (by decide)⟩
      simp [nt53, upd, e18]
    | 4, _ =>
      have hd := deps_of (l := [3]) (by kernel_rfl) ho hdeps
      have e19 := F0 3 19 _ (hd 3 (by simp)) rfl rfl
      have c0 : x.cell? ⟨B, 0, none⟩ = some (.slice oa on oc) := by
        have h7 := no (a := 7) (b := 4) (l := [4, 5, 6]) (by kernel_rfl) (by simp) hfi
        cases h5 : f 5 with
        | false => obtain ⟨d, rfl⟩ := S.s0 h5; exact H.h0
        | true =>
          cases h6 : f 6 with
          | false => obtain ⟨d, rfl⟩ := (S.s5 h5).2 h6; exact (H.stand t r).1
          | true => obtain ⟨d, rfl⟩ := S.s6 h6 h7; exact (H.new t r).1
      clear hdeps hC ho no hend
      simp only [nt53] at hr ⊢
      simp only [e19]
      (refine Walk.oq ?_; try walk_nrm)
      refine hr _ _ ⟨upd u 20 (.slice oa on oc), t, r, g, cap, w', ?_, F0.set (by decide) rfl rfl, S.quiet (by decide) (by decide) (by decide) (by decide)⟩
      simp [nt53, upd, e19]
    | 5, _ =>
      obtain ⟨d, rfl⟩ := S.s0 hfi
      have h6 := no (a := 6) (b := 5) (l := [5]) (by kernel_rfl) (by simp) hfi
      have h7 := no (a := 7) (b := 5) (l := [4, 5, 6]) (by kernel_rfl) (by simp) hfi
      have h10 := no (a := 10) (b := 7) (l := [9, 7]) (by kernel_rfl) (by simp) h7
      refine Walk.back ?_ d
      clear hdeps hC ho no hend
      simp only [nt53] at hr ⊢
      refine Walk.callW (stand_new' _ w) (ho_of (by conv => lhs; whnf) (by kernel_rfl)) (by rfl) (by decide) rfl Try.func136 (by kernel_rfl) (by rfl) ?_
      rintro v w₁ ⟨t, r, rfl, ht, d₁, rfl⟩
      walk_nrm
      refine hr _ _ ⟨upd u 21 (.pointer (some ⟨w.heap.size + 2, 0, none⟩)), t, r, g, cap, w', ?_, F0.set (by decide) rfl rfl, fun h => ?_, fun _ => ⟨ht, fun _ => ⟨d₁, rfl⟩⟩, fun h => ?_, fun h => ?_, fun h => ?_⟩
      · simp [nt53, upd]
      · rw [upd_same] at h; cases h
      · rw [upd_ne _ _ (by decide), h6] at h; cases h
      · rw [upd_ne _ _ (by decide), h7] at h; cases h
      · rw [upd_ne _ _ (by decide), h10] at h; cases h
    | 6, _ =>
      have hd := deps_of (l := [5]) (by kernel_rfl) ho hdeps
      have e21 := F0 5 21 _ (hd 5 (by simp)) rfl rfl
      obtain ⟨ht, h5⟩ := S.s5 (hd 5 (by simp))
      obtain ⟨d, rfl⟩ := h5 hfi
      have h5 := hd 5 (by simp)
      have h7 := no (a := 7) (b := 6) (l := [4, 5, 6]) (by kernel_rfl) (by simp) hfi
      have h10 := no (a := 10) (b := 7) (l := [9, 7]) (by kernel_rfl) (by simp) h7
      have hsz := standW_size w t r
      refine Walk.back ?_ d
      clear hdeps hC ho no hend
      simp only [nt53] at hr ⊢
      simp only [e21]
      (refine Walk.oa ?_; try walk_nrm)
      try simp only [hsz]
      refine hr _ (newW w t r) ⟨upd u 22 (.slice (some ⟨w.heap.size + 3, 0, none⟩) 1 1), t, r, g, cap, w', ?_, F0.set (by decide) rfl rfl, fun h => ?_, fun _ => ⟨ht, fun h => ?_⟩, fun _ _ => ⟨(newW w t r).drawn, rfl⟩, fun h => ?_, fun h => ?_⟩
      · simp [nt53, upd, e21]
      · rw [upd_ne _ _ (by decide), h5] at h; cases h
      · rw [upd_same] at h; cases h
      · rw [upd_ne _ _ (by decide), h7] at h; cases h
      · rw [upd_ne _ _ (by decide), h10] at h; cases h
    | 7, _ =>
      have hd := deps_of (l := [4, 5, 6]) (by kernel_rfl) ho hdeps
      have e20 := F0 4 20 _ (hd 4 (by simp)) rfl rfl
      have e22 := F0 6 22 _ (hd 6 (by simp)) rfl rfl
      obtain ⟨d, rfl⟩ := S.s6 (hd 6 (by simp)) hfi
      have ht := (S.s5 (hd 5 (by simp))).1
      have h5 := hd 5 (by simp)
      have h6 := hd 6 (by simp)
      have h10 := no (a := 10) (b := 7) (l := [9, 7]) (by kernel_rfl) (by simp) hfi
      refine Walk.back ?_ d
      clear hdeps hC ho no hend
      simp only [nt53] at hr ⊢
      simp only [e20, e22]
      have hi161 := Option.some_get (show (Try.prog.info? 230).isSome = true by kernel_rfl)
      refine Walk.append (.tmp 20) (.tmp 22) 203 (ho_of (by conv => lhs; whnf) (by kernel_rfl)) (by rfl) (by decide) rfl n0 230 _ (.pointer none) 1 8 (by kernel_rfl) hi161.symm (by rfl) (by rfl) (by rfl) (by rfl) (by decide) (.slice oa on oc) on xs rfl (H.owned t r) ⟨w.heap.size + 3, 0, none⟩ 1 1 [.pointer (some ⟨w.heap.size + 2, 0, none⟩)] rfl (by rfl) (fun y v hv => ?_) (by simp [Value.oneCell']) (by decide) (by have := H.hon; simp [maxLen]; omega) (by have := H.hon; omega) (by have := H.hn0; rw [newW_size]; omega) (fun g hg => (H.hap g hg).1) (fun g cap w' hown hg hat hlt => ?_)
      · obtain rfl : y = 0 := by rcases y with _ | y <;> simp at hv ⊢
        simp at hv; subst hv; exact newW_new w t r
      have hB : some B ≠ (Value.slice oa on oc).ownBlock := fun e => (H.hap B e.symm).2 rfl
      have hn := H.new t r
      walk_nrm
      refine hr _ _ ⟨upd u 23 (.slice (some ⟨g, 0, none⟩) (on + 1) cap), t, r, g, cap, w', ?_, Facts.set (facts_turn F0 fun j v hf hv => ?_) (by decide) rfl rfl, fun h => ?_, fun _ => ⟨ht, fun h => ?_⟩, fun _ h => ?_, fun _ => ⟨⟨hown, hg, hat, hlt, (hg.cell_far _ (cell_lt _ hn.1) hB).trans hn.1, (hg.frozen_far _ (cell_lt _ hn.1) hB).trans hn.2⟩, fun _ => ⟨w'.drawn, rfl⟩⟩, fun h => ?_⟩
      · simp [nt53, upd, e20, e22]
      · exact match j, hf, hv with
          | 0, _, hv => hv
          | 1, _, hv => hv
          | 2, _, hv => hv
          | 3, _, hv => hv
          | 4, _, hv => hv
          | 5, _, hv => hv
          | 6, _, hv => hv
          | 7, hf, hv => by rw [hfi] at hf; cases hf
          | 8, _, hv => hv
          | 9, _, hv => hv
          | j + 10, _, hv => hv
      · rw [upd_ne _ _ (by decide), h5] at h; cases h
      · rw [upd_ne _ _ (by decide), h6] at h; cases h
      · rw [upd_same] at h; cases h
      · rw [upd_ne _ _ (by decide), h10] at h; cases h
    | 8, _ =>
      have hd := deps_of (l := [0]) (by kernel_rfl) ho hdeps
      have e16 := F0 0 16 _ (hd 0 (by simp)) rfl rfl
      clear hdeps hC ho no hend
      simp only [nt53] at hr ⊢
      simp only [e16]
      (refine Walk.oq ?_; try walk_nrm)
      refine hr _ _ ⟨upd u 24 (.pointer (some ⟨B, 0, none⟩)), t, r, g, cap, w', ?_, F0.set (by decide) rfl rfl, S.quiet (by decide) (by decide) (by decide) (by decide)⟩
      simp [nt53, upd, e16]
    | 9, _ =>
      have hd := deps_of (l := [8]) (by kernel_rfl) ho hdeps
      have e24 := F0 8 24 _ (hd 8 (by simp)) rfl rfl
      clear hdeps hC ho no hend
      simp only [nt53] at hr ⊢
      simp only [e24]
      (refine Walk.oq ?_; try walk_nrm)
      refine hr _ _ ⟨upd u 25 (.pointer (some ⟨B, 0, none⟩)), t, r, g, cap, w', ?_, F0.set (by decide) rfl rfl, S.quiet (by decide) (by decide) (by decide) (by decide)⟩
      simp [nt53, upd, e24]
    | 10, _ =>
      have hd := deps_of (l := [9, 7]) (by kernel_rfl) ho hdeps
      have e25 := F0 9 25 _ (hd 9 (by simp)) rfl rfl
      have e23 := F0 7 23 _ (hd 7 (by simp)) rfl rfl
      obtain ⟨h7, h⟩ := S.s7 (hd 7 (by simp))
      obtain ⟨d, rfl⟩ := h hfi
      have f7 := hd 7 (by simp)
      have f6 := hC.deps f7 (l := [4, 5, 6]) (by kernel_rfl) 6 (by simp)
      have f5 := hC.deps f7 (l := [4, 5, 6]) (by kernel_rfl) 5 (by simp)
      have ht := (S.s5 f5).1
      have hcf := H.hf
      have hc := h7.h0
      have hcz := h7.hz
      refine Walk.back ?_ d
      clear hdeps hC ho no hend
      simp only [nt53] at hr ⊢
      simp only [e25, e23]
      (refine Walk.os hcf hc ?_; try walk_nrm)
      refine hr _ _ ⟨u, t, r, g, cap, w', ?_, facts_keep F0 rfl, fun h => ?_, fun _ => ⟨ht, fun h => ?_⟩, fun _ h => ?_, fun _ => ⟨h7, fun h => ?_⟩, fun _ => ⟨(w'.setCell ⟨B, 0, none⟩ (.slice (some ⟨g, 0, none⟩) (on + 1) cap)).drawn, rfl⟩⟩
      · simp [nt53, e25, e23]
      · rw [upd_ne _ _ (by decide), f5] at h; cases h
      · rw [upd_ne _ _ (by decide), f6] at h; cases h
      · rw [upd_ne _ _ (by decide), f7] at h; cases h
      · rw [upd_same] at h; cases h
  · rintro f act x ⟨u, t, r, g, cap, w', rfl, F0, S⟩ hall
    have g : ∀ j, j < 11 → f j = true := fun j hj => hall j (by rw [size112_4]; exact hj)
    obtain ⟨d, rfl⟩ := S.s10 (g 10 (by decide))
    exact hend _ _ _ _ _ _ _ (S.s5 (g 5 (by decide))).1 (S.s7 (g 7 (by decide))).1
end
section
variable {main : Bool} {V : Nat → Option Wait}
noncomputable def hd53 (B j n : Nat) (u : Nat → Value) : Frame :=
  (base 112).at { tmps := #[u 0, u 1, u 2, u 3, u 4, .pointer (some ⟨B, 0, none⟩), u 6, u 7, u 8, u 9, u 10, u 11, u 12, .int .i64 n, .int .i64 j, u 15, u 16, u 17, u 18, u 19, u 20, u 21, u 22, u 23, u 24, u 25, u 26, u 27], defers := [] } [.code (.seq (.region 3 reg112_3 false) (.seq (.cond (.tmp 15 ) (.skip) (.exit 0)) (.seq (.block 1 (.region 4 reg112_4 true)) (.region 5 reg112_5 false)))), .inLoop (.seq (.region 3 reg112_3 false) (.seq (.cond (.tmp 15 ) (.skip) (.exit 0)) (.seq (.block 1 (.region 4 reg112_4 true)) (.region 5 reg112_5 false)))), .inBlock 0, .code (.seq (.region 6 reg112_6 false) (.ret))]
theorem slots53 {b : Frame} {A : Array Value} {todo : List Item} {cs : List Frame} {F : (Nat → Value) → Goroutine} (h : G (b.at ⟨A, []⟩ todo) cs = F (fun k => A.getD k undef)) : ∃ u, G (b.at ⟨A, []⟩ todo) cs = F u := ⟨_, h⟩
theorem act53 {A : Array Value} {T : (Nat → Value) → Array Value} (h : A = T (fun k => A.getD k undef)) : ∃ u, (⟨A, []⟩ : Act) = ⟨T u, []⟩ := ⟨_, congrArg (fun x => (⟨x, []⟩ : Act)) h⟩
noncomputable def turnW (w : World) (n : Nat) (most : Int) : World := w.alloc (.cells #[.slice none 0 0, .int .i64 n, .int .i64 (min (max most 0) 1048576), .slice none 0 0] 205)
theorem nt_in (n tcap : Nat) (ta : Option Addr) (most : Int) (cs : List Frame) (w : World) :
    Walk Try.prog main (DR V) (fun g w' => (∃ u, g = G (hd53 w.heap.size 0 n u) cs) ∧ ∃ d, w' = (turnW w n most).at d) (G (Frame.enter Try.prog 112 #[.slice ta n tcap, .int .i64 most] .normal) cs) w := by
  rw [enter_at _ Try.func112 code112_is]
  simp only [Try.ntmps112, ez, Nat.reduceAdd, Nat.reduceSub]
  repeat (first | refine Walk.cx ?_ | (refine Walk.cReg ?_; simp only [z112]) | (refine Walk.oq ?_; try walk_nrm) | (refine Walk.un ?_; walk_nrm))
  refine Walk.callV (x := .int .i64 (min (max most 0) 1048576)) (W := w) ?_ (ho_of (by conv => lhs; whnf) (by kernel_rfl)) (by rfl) (by decide) rfl Try.func135 (by kernel_rfl) (by rfl) ?_
  · walk_nrm
    exact clampMost_w most w
  walk_nrm
  repeat (first | refine Walk.cx ?_ | (refine Walk.cReg ?_; simp only [z112]) | (refine Walk.oq ?_; try walk_nrm) | (refine Walk.un ?_; walk_nrm))
  (refine Walk.oa ?_; try walk_nrm)
  repeat (first | refine Walk.cx ?_ | (refine Walk.cReg ?_; simp only [z112]) | (refine Walk.oq ?_; try walk_nrm) | (refine Walk.un ?_; walk_nrm))
  refine Walk.ctl rfl (fun w => stepG_loop) ?_
  refine .stop fun d => ⟨slots53 ?_, d, rfl⟩
  simp only [hd53]
  rfl
theorem nt_go (B j n : Nat) (oa : Option Addr) (on oc n0 : Nat) (xs : List Value) (u : Nat → Value) (cs : List Frame) (w : World) (hj : j < n) (hn : n ≤ 64) (H : NT V B oa on oc n0 xs w) :
    Walk Try.prog main (DR V) (fun g w'' => ∃ t r g' cap w', TR w t r ∧ NT7 B oa on oc n0 xs w t r g' cap w' ∧ (∃ u', g = G (hd53 B (j + 1) n u') cs) ∧ ∃ d, w'' = (w'.setCell ⟨B, 0, none⟩ (.slice (some ⟨g', 0, none⟩) (on + 1) cap)).at d) (G (hd53 B j n u) cs) w := by
  have hi1 : decide ((j : Int) < n) = true := by simp; omega
  have hi3 : decide (j < n) = true := by simp; omega
  have hw1 : IntKind.wrap .i64 ((j : Int) + 1) = (j : Int) + 1 := by rw [IntKind.wrap_i64]; omega
  have hc : ((j + 1 : Nat) : Int) = (j : Int) + 1 := by simp
  conv => arg 5; unfold hd53
  repeat (first | refine Walk.cx ?_ | (refine Walk.cReg ?_; simp only [z112]) | (refine Walk.oq ?_; try walk_nrm) | (refine Walk.un ?_; walk_nrm))
  refine nt_reg B j n oa on oc n0 xs w H (act53 (by simp only [nt53]; rfl)) fun t r g cap w' d u ht h7 => ?_
  refine Walk.back ?_ d
  simp only [nt53]
  repeat (first | refine Walk.cx ?_ | (refine Walk.cReg ?_; simp only [z112]) | (refine Walk.oq ?_; try walk_nrm) | (refine Walk.un ?_; walk_nrm))
  refine Walk.ctl rfl (fun w => stepG_inLoop) ?_
  refine .stop fun d' => ⟨t, r, g, cap, w', ht, h7, slots53 ?_, d', rfl⟩
  simp only [hd53, hc]
  rfl
theorem nt_out (B n : Nat) (u : Nat → Value) (c : Frame) (cs : List Frame) (w : World) :
    Walk Try.prog main (DR V) (fun g w' => g = G (c.finish (.pointer (some ⟨B, 0, none⟩))) cs ∧ ∃ d, w' = w.at d) (G (hd53 B n n u) (c :: cs)) w := by
  have hi1 : decide ((n : Int) < n) = false := by simp
  have hi3 : decide (n < n) = false := by simp
  conv => arg 5; unfold hd53
  repeat (first | refine Walk.cx ?_ | (refine Walk.cReg ?_; simp only [z112]) | (refine Walk.oq ?_; try walk_nrm) | (refine Walk.un ?_; walk_nrm))
  exact (Walk.ret1 (Post := fun v w' => v = .pointer (some ⟨B, 0, none⟩) ∧ ∃ d, w' = w.at d) rfl rfl Try.func112 rfl fun d => ⟨by simp, d, rfl⟩).mono fun g w' ⟨v, ⟨e, d, e'⟩, hg⟩ => ⟨by rw [hg, e], d, e'⟩
end
section
variable {V : Nat → Option Wait} {B : Nat} {oa : Option Addr} {on oc n0 : Nat} {xs : List Value} {w : World} {t r g cap : Nat} {w' : World}
noncomputable def ntW (B on g cap : Nat) (w' : World) : World := w'.setCell ⟨B, 0, none⟩ (.slice (some ⟨g, 0, none⟩) (on + 1) cap)
theorem NT7.ne (H : NT V B oa on oc n0 xs w) (h7 : NT7 B oa on oc n0 xs w t r g cap w') : g ≠ B := fun e => by
  rcases h7.hat with h | h
  · exact (H.hap g h).2 e
  · have := cell_lt w H.h0; rw [newW_size] at h; simp only at this; omega
theorem NT7.size (h7 : NT7 B oa on oc n0 xs w t r g cap w') : w.heap.size + 4 ≤ (ntW B on g cap w').heap.size := by
  have h := h7.grown.size
  rw [newW_size] at h
  unfold ntW
  rw [Go.Deep.nblk_setCell]
  exact h
theorem NT.next (H : NT V B oa on oc n0 xs w) (hlt : on < 64) (hA : ∀ b, w.heap.size ≤ b → Apart V b) (h7 : NT7 B oa on oc n0 xs w t r g cap w') :
    NT V B (some ⟨g, 0, none⟩) (on + 1) cap n0 (xs ++ [.pointer (some ⟨w.heap.size + 2, 0, none⟩)]) (ntW B on g cap w') := by
  refine ⟨World.cell?_setCell_same w' ⟨B, 0, none⟩ _ h7.h0, (World.frozen?_setCell ..).trans h7.hz, H.hf, h7.own.kept (row := some B) ⟨rfl, rfl, rfl, Nat.le_of_eq (Go.Deep.nblk_setCell ..).symm, fun b _ hb => Go.Deep.blk_setCell_other _ _ _ b (fun e => hb (by rw [e]))⟩ (.inr (by simp [Value.ownBlock, h7.ne H])), ?_, by omega, fun b hb => ?_⟩
  · have := h7.size; have := H.hn0; omega
  · obtain rfl : g = b := by simpa [Value.ownBlock] using hb
    refine ⟨?_, h7.ne H⟩
    rcases h7.hat with h | h
    · exact (H.hap _ h).1
    · exact hA _ (by rw [newW_size] at h; omega)
theorem NT7.block (h7 : NT7 B oa on oc n0 xs w t r g cap w') {b : Nat} (hb : b < w.heap.size) (hbB : b ≠ B) (hbo : some b ≠ (Value.slice oa on oc).ownBlock) : (ntW B on g cap w').heap[b]? = w.heap[b]? := by
  have e4 : (newW w t r).heap[b]? = w.heap[b]? := by
    unfold newW standW
    rw [Below.heap_alloc _ _ _ (by simp; omega), Below.heap_alloc _ _ _ (by simp; omega), Below.heap_alloc _ _ _ (by simp; omega), Below.heap_alloc _ _ _ hb]
  exact (Go.Deep.blk_setCell_other _ _ _ b hbB).trans ((h7.grown.block b (by rw [newW_size]; omega) hbo).trans e4)
theorem NT7.stand (h7 : NT7 B oa on oc n0 xs w t r g cap w') (hB : B < w.heap.size) (hown : ∀ b, (Value.slice oa on oc).ownBlock = some b → b < w.heap.size) {b : Nat} (hb : w.heap.size ≤ b) (hb2 : b < w.heap.size + 3) : (ntW B on g cap w').heap[b]? = (standW w t r).heap[b]? := by
  have e4 : (newW w t r).heap[b]? = (standW w t r).heap[b]? := by
    unfold newW
    exact Below.heap_alloc _ _ _ (by rw [standW_size]; exact hb2)
  exact (Go.Deep.blk_setCell_other _ _ _ b (by simp only; omega)).trans ((h7.grown.block b (by rw [newW_size]; omega) (fun e => by have := hown b e.symm; omega)).trans e4)
end
section
variable {V : Nat → Option Wait} {B : Nat} {oa : Option Addr} {on oc n0 : Nat} {xs : List Value} {w : World} {t r g cap : Nat} {w' : World}
structure StandIs (w : World) (n0 : Nat) (s : Nat × Nat × Nat) : Prop where
  c0 : w.heap[s.1]? = some chan0
  c1 : w.heap[s.1 + 1]? = some chan0
  cells : w.heap[s.1 + 2]? = some (.cells #[.chan (some s.2.1), .chan (some s.2.2), .bool false, .bool false] 236)
  tr : (s.2.1 = s.1 ∧ s.2.2 = s.1 + 1) ∨ (s.2.1 = s.1 + 1 ∧ s.2.2 = s.1)
  lo : n0 ≤ s.1
  hi : s.1 + 3 ≤ w.heap.size
structure Built (w : World) (B n0 : Nat) (v : Value) (sts : List (Nat × Nat × Nat)) : Prop where
  all : ∀ s ∈ sts, StandIs w n0 s
  apart : sts.Pairwise (fun s s' => s.1 + 3 ≤ s'.1)
  list : ∀ b, v.ownBlock = some b → b < w.heap.size ∧ n0 ≤ b ∧ ∀ s ∈ sts, b < s.1 ∨ s.1 + 3 ≤ b
  low : B < n0
theorem standW_blocks (w : World) (t r : Nat) : (standW w t r).heap[w.heap.size]? = some chan0 ∧ (standW w t r).heap[w.heap.size + 1]? = some chan0 ∧ (standW w t r).heap[w.heap.size + 2]? = some (.cells #[.chan (some t), .chan (some r), .bool false, .bool false] 236) := by
  have e1 : (w.alloc chan0).heap.size = w.heap.size + 1 := by simp
  have e2 : ((w.alloc chan0).alloc chan0).heap.size = w.heap.size + 2 := by simp
  unfold standW
  refine ⟨?_, ?_, ?_⟩
  · rw [Below.heap_alloc _ _ _ (by omega), Below.heap_alloc _ _ _ (by omega)]; exact heap_alloc_new w _
  · rw [Below.heap_alloc _ _ _ (by omega), ← e1]; exact heap_alloc_new _ _
  · rw [← e2]; exact heap_alloc_new _ _
theorem Built.next {sts : List (Nat × Nat × Nat)} (H : NT V B oa on oc n0 xs w) (hT : TR w t r) (h7 : NT7 B oa on oc n0 xs w t r g cap w') (hb : Built w B n0 (.slice oa on oc) sts) :
    Built (ntW B on g cap w') B n0 (.slice (some ⟨g, 0, none⟩) (on + 1) cap) (sts ++ [(w.heap.size, t, r)]) := by
  have hn := H.hn0
  have hB := hb.low
  have hs := h7.size
  have hg : (Value.slice oa on oc).ownBlock = some g ∨ g = w.heap.size + 4 := by have h := h7.hat; rwa [newW_size] at h
  have hlt : g < (ntW B on g cap w').heap.size := by unfold ntW; rw [Go.Deep.nblk_setCell]; exact h7.hlt
  have hold : ∀ s ∈ sts, ∀ b, s.1 ≤ b → b < s.1 + 3 → (ntW B on g cap w').heap[b]? = w.heap[b]? := fun s hm b h1 h2 => by
    have hi := hb.all s hm
    have := hi.lo; have := hi.hi
    refine h7.block (by omega) (by omega) fun e => ?_
    rcases (hb.list b e.symm).2.2 s hm with h | h <;> omega
  have hnew : ∀ b, w.heap.size ≤ b → b < w.heap.size + 3 → (ntW B on g cap w').heap[b]? = (standW w t r).heap[b]? := fun b h1 h2 => h7.stand (by omega) (fun b e => (hb.list b e).1) h1 h2
  obtain ⟨q0, q1, q2⟩ := standW_blocks w t r
  refine ⟨fun s hm => ?_, ?_, fun b e => ?_, hB⟩
  · rcases List.mem_append.1 hm with hm | hm
    · have hi := hb.all s hm
      have := hi.lo; have := hi.hi
      exact ⟨(hold s hm _ (by omega) (by omega)).trans hi.c0, (hold s hm _ (by omega) (by omega)).trans hi.c1, (hold s hm _ (by omega) (by omega)).trans hi.cells, hi.tr, hi.lo, by omega⟩
    · obtain rfl : s = (w.heap.size, t, r) := by simpa using hm
      exact ⟨(hnew _ (by simp) (by simp)).trans q0, (hnew _ (by simp) (by simp)).trans q1, (hnew _ (by simp) (by simp)).trans q2, hT, hn, by simp only; omega⟩
  · refine List.pairwise_append.2 ⟨hb.apart, by simp, fun s hm s' hm' => ?_⟩
    obtain rfl : s' = (w.heap.size, t, r) := by simpa using hm'
    exact (hb.all s hm).hi
  · obtain rfl : g = b := by simpa [Value.ownBlock] using e
    refine ⟨hlt, ?_, fun s hm => ?_⟩
    · rcases hg with h | h
      · exact (hb.list _ h).2.1
      · omega
    · rcases List.mem_append.1 hm with hm | hm
      · rcases hg with h | h
        · exact (hb.list _ h).2.2 s hm
        · have := (hb.all s hm).hi; omega
      · obtain rfl : s = (w.heap.size, t, r) := by simpa using hm
        rcases hg with h | h
        · have := (hb.list _ h).1; simp only; omega
        · simp only; omega
end
section
variable {main : Bool} {V : Nat → Option Wait} {B n0 : Nat}
def sp (s : Nat × Nat × Nat) : Value := .pointer (some ⟨s.1 + 2, 0, none⟩)
structure Rest53 (B n0 : Nat) (w w0 : World) : Prop where
  low : ∀ b, b < n0 → b ≠ B → w0.heap[b]? = w.heap[b]?
  cell : ∀ i, i ≠ 0 → w0.cell? ⟨B, i, none⟩ = w.cell? ⟨B, i, none⟩ ∧ w0.frozen? ⟨B, i, none⟩ = w.frozen? ⟨B, i, none⟩
  size : w.heap.size ≤ w0.heap.size
theorem rest_one {oa : Option Addr} {on oc t r g cap : Nat} {xs : List Value} {w w' : World} {sts : List (Nat × Nat × Nat)} (H : NT V B oa on oc n0 xs w) (h7 : NT7 B oa on oc n0 xs w t r g cap w') (hb : Built w B n0 (.slice oa on oc) sts) : Rest53 B n0 w (ntW B on g cap w') := by
  have hn := H.hn0
  have hB := hb.low
  have hs := h7.size
  refine ⟨fun b hlt hne => h7.block (by omega) hne fun e => ?_, fun i hi => ?_, by omega⟩
  · have := (hb.list b e.symm).2.1; omega
  · have hBo : some B ≠ (Value.slice oa on oc).ownBlock := fun e => (H.hap B e.symm).2 rfl
    have e4 : (newW w t r).heap[B]? = w.heap[B]? := by
      unfold newW standW
      rw [Below.heap_alloc _ _ _ (by simp; omega), Below.heap_alloc _ _ _ (by simp; omega), Below.heap_alloc _ _ _ (by simp; omega), Below.heap_alloc _ _ _ (by omega)]
    have e5 : w'.heap[B]? = w.heap[B]? := (h7.grown.block B (by rw [newW_size]; omega) hBo).trans e4
    exact ⟨(World.cell?_setCell_other w' ⟨B, 0, none⟩ ⟨B, i, none⟩ _ (by simp [Ne.symm hi])).trans (World.cell?_of_block e5), (World.frozen?_setCell ..).trans (World.frozen?_of_block e5)⟩
theorem Rest53.trans {a b c : World} (h : Rest53 B n0 a b) (k : Rest53 B n0 b c) : Rest53 B n0 a c :=
  ⟨fun x h1 h2 => (k.low x h1 h2).trans (h.low x h1 h2), fun i hi => ⟨(k.cell i hi).1.trans (h.cell i hi).1, (k.cell i hi).2.trans (h.cell i hi).2⟩, Nat.le_trans h.size k.size⟩
theorem nt_loop (n : Nat) (hn : n ≤ 64) (hA : ∀ b, n0 ≤ b → Apart V b) (cs : List Frame) : ∀ (k j : Nat), j + k = n → ∀ (oa : Option Addr) (oc : Nat) (sts : List (Nat × Nat × Nat)) (u : Nat → Value) (w : World),
    NT V B oa j oc n0 (sts.map sp) w → Built w B n0 (.slice oa j oc) sts → sts.length = j →
    Walk Try.prog main (DR V) (fun g w' => ∃ oa' oc' sts' u' w0 d, w' = w0.at d ∧ g = G (hd53 B n n u') cs ∧ NT V B oa' n oc' n0 (sts'.map sp) w0 ∧ Built w0 B n0 (.slice oa' n oc') sts' ∧ sts'.length = n ∧ Rest53 B n0 w w0) (G (hd53 B j n u) cs) w := by
  intro k
  induction k with
  | zero =>
    intro j hj oa oc sts u w H hb hl
    obtain rfl : j = n := by omega
    exact .stop fun d => ⟨oa, oc, sts, u, w, d, rfl, rfl, H, hb, hl, ⟨fun _ _ _ => rfl, fun _ _ => ⟨rfl, rfl⟩, Nat.le_refl _⟩⟩
  | succ k ih =>
    intro j hj oa oc sts u w H hb hl
    refine (nt_go B j n oa j oc n0 (sts.map sp) u cs w (by omega) hn H).then ?_
    rintro _ _ ⟨t, r, g', cap, w', ht, h7, ⟨u', rfl⟩, d, rfl⟩
    refine Walk.back ?_ d
    have H' := NT.next H (by omega) (fun b hb' => hA b (Nat.le_trans H.hn0 hb')) h7
    have hb' := Built.next H ht h7 hb
    have hr := rest_one H h7 hb
    have hm : sts.map sp ++ [.pointer (some ⟨w.heap.size + 2, 0, none⟩)] = (sts ++ [(w.heap.size, t, r)]).map sp := by simp [sp]
    rw [hm] at H'
    refine (ih (j + 1) (by omega) _ _ _ u' _ H' hb' (by simp [hl])).mono ?_
    rintro g w1 ⟨oa', oc', sts', u'', w0, d', e, eg, h1, h2, h3, h4⟩
    exact ⟨oa', oc', sts', u'', w0, d', e, eg, h1, h2, h3, hr.trans h4⟩
end
section
variable {main : Bool} {V : Nat → Option Wait}
theorem nt_all (n tcap : Nat) (ta : Option Addr) (most : Int) (hn : n ≤ 64) (w : World) (hA : ∀ b, w.heap.size ≤ b → Apart V b) (c : Frame) (cs : List Frame) :
    Walk Try.prog main (DR V) (fun g w' => ∃ oa oc sts w0 d, w' = w0.at d ∧ g = G (c.finish (.pointer (some ⟨w.heap.size, 0, none⟩))) cs ∧ NT V w.heap.size oa n oc (w.heap.size + 1) (sts.map sp) w0 ∧ Built w0 w.heap.size (w.heap.size + 1) (.slice oa n oc) sts ∧ sts.length = n ∧ Rest53 w.heap.size (w.heap.size + 1) (turnW w n most) w0)
      (G (Frame.enter Try.prog 112 #[.slice ta n tcap, .int .i64 most] .normal) (c :: cs)) w := by
  refine (nt_in n tcap ta most (c :: cs) w).then ?_
  rintro _ _ ⟨⟨u0, rfl⟩, d, rfl⟩
  refine Walk.back ?_ d
  have hs : (turnW w n most).heap.size = w.heap.size + 1 := by simp [turnW]
  have H : NT V w.heap.size none 0 0 (w.heap.size + 1) (([] : List (Nat × Nat × Nat)).map sp) (turnW w n most) := by
    refine ⟨?_, ?_, (hA _ (Nat.le_refl _)).1 _ rfl, World.ownsRow_nil .., by omega, by omega, fun g hg => by simp [Value.ownBlock] at hg⟩
    · exact World.cell?_alloc_at (w := w) #[.slice none 0 0, .int .i64 n, .int .i64 (min (max most 0) 1048576), .slice none 0 0] 205 w.heap.size 0 rfl
    · exact World.frozen?_alloc_at (w := w) #[.slice none 0 0, .int .i64 n, .int .i64 (min (max most 0) 1048576), .slice none 0 0] 205 w.heap.size 0 rfl
  have hb : Built (turnW w n most) w.heap.size (w.heap.size + 1) (.slice none 0 0) [] := ⟨by simp, by simp, fun b e => by simp [Value.ownBlock] at e, by omega⟩
  refine (nt_loop n hn (fun b hb => hA b (by omega)) (c :: cs) n 0 (by omega) none 0 [] u0 _ H hb rfl).then ?_
  rintro _ _ ⟨oa, oc, sts, u, w0, d', rfl, rfl, h1, h2, h3, h4⟩
  refine Walk.back ?_ d'
  refine (nt_out w.heap.size n u c cs w0).mono ?_
  rintro g w1 ⟨rfl, d2, rfl⟩
  exact ⟨oa, oc, sts, w0, d2, rfl, rfl, h1, h2, h3, h4⟩
end
section
theorem cell_inv {w : World} {b i : Nat} {v : Value} (h : w.cell? ⟨b, i, none⟩ = some v) : ∃ arr ty fr, w.heap[b]? = some (.cells arr ty fr) ∧ arr[i]? = some v := by
  unfold World.cell? at h
  revert h
  cases e : w.heap[b]? with
  | none => simp
  | some o =>
    cases o with
    | cells arr ty fr => exact fun h => ⟨arr, ty, fr, rfl, by simpa using h⟩
    | _ => simp
section
variable (B sb : Nat) (sts : List (Nat × Nat × Nat))
def stA (i : Nat) : Nat × Nat × Nat := sts.getD i (0, 0, 0)
theorem stA_get {sts : List (Nat × Nat × Nat)} {i : Nat} (hi : i < sts.length) : stA sts i = sts[i] := by
  unfold stA
  rw [List.getD_eq_getElem?_getD, List.getElem?_eq_getElem hi, Option.getD_some]
open Classical in
noncomputable def own0 : Nat → Option Role := fun b =>
  if b = B then some .tB else if b = sb then some .ss else
  if h : ∃ i, i < sts.length ∧ b = (stA sts i).1 + 2 then some (.p h.choose) else
  if h : ∃ i, i < sts.length ∧ b = (stA sts i).2.1 then some (.t h.choose) else
  if h : ∃ i, i < sts.length ∧ b = (stA sts i).2.2 then some (.r h.choose) else none
structure Far : Prop where
  lo : ∀ i, i < sts.length → B < (stA sts i).1
  tr : ∀ i, i < sts.length → ((stA sts i).2.1 = (stA sts i).1 ∧ (stA sts i).2.2 = (stA sts i).1 + 1) ∨ ((stA sts i).2.1 = (stA sts i).1 + 1 ∧ (stA sts i).2.2 = (stA sts i).1)
  ap : ∀ i j, i < j → j < sts.length → (stA sts i).1 + 3 ≤ (stA sts j).1
  sB : B < sb
  sl : ∀ i, i < sts.length → sb < (stA sts i).1 ∨ (stA sts i).1 + 3 ≤ sb
variable {B sb sts}
theorem Far.inj (H : Far B sb sts) {i j : Nat} (hi : i < sts.length) (hj : j < sts.length) {a b : Nat} (ha : a < 3) (hb : b < 3) (h : (stA sts i).1 + a = (stA sts j).1 + b) : i = j := by
  rcases Nat.lt_trichotomy i j with h' | h' | h'
  · have := H.ap i j h' hj; omega
  · exact h'
  · have := H.ap j i h' hi; omega
theorem Far.inj' (H : Far B sb sts) {i j : Nat} (hi : i < sts.length) (hj : j < sts.length) {x y : Nat} (hx : (stA sts i).1 ≤ x ∧ x < (stA sts i).1 + 3) (hy : (stA sts j).1 ≤ y ∧ y < (stA sts j).1 + 3) (h : x = y) : i = j :=
  H.inj hi hj (a := x - (stA sts i).1) (b := y - (stA sts j).1) (by omega) (by omega) (by omega)
theorem Far.t (H : Far B sb sts) {i : Nat} (hi : i < sts.length) : (stA sts i).1 ≤ (stA sts i).2.1 ∧ (stA sts i).2.1 < (stA sts i).1 + 2 ∧ (stA sts i).1 ≤ (stA sts i).2.2 ∧ (stA sts i).2.2 < (stA sts i).1 + 2 ∧ (stA sts i).2.1 ≠ (stA sts i).2.2 := by
  rcases H.tr i hi with h | h <;> omega
theorem own0_B : own0 B sb sts B = some .tB := by unfold own0; rw [if_pos rfl]
theorem own0_s (H : Far B sb sts) : own0 B sb sts sb = some .ss := by
  have := H.sB
  unfold own0
  rw [if_neg (by omega), if_pos rfl]
theorem own0_p (H : Far B sb sts) {i : Nat} (hi : i < sts.length) : own0 B sb sts ((stA sts i).1 + 2) = some (.p i) := by
  have h1 := H.lo i hi
  have h2 := H.sl i hi
  unfold own0
  have h : ∃ j, j < sts.length ∧ (stA sts i).1 + 2 = (stA sts j).1 + 2 := ⟨i, hi, rfl⟩
  rw [if_neg (by omega), if_neg (by omega), dif_pos h]
  rw [← H.inj hi h.choose_spec.1 (by omega) (by omega) h.choose_spec.2]
theorem own0_t (H : Far B sb sts) {i : Nat} (hi : i < sts.length) : own0 B sb sts (stA sts i).2.1 = some (.t i) := by
  have h1 := H.lo i hi
  have h2 := H.sl i hi
  have ht := H.t hi
  unfold own0
  have h : ∃ j, j < sts.length ∧ (stA sts i).2.1 = (stA sts j).2.1 := ⟨i, hi, rfl⟩
  rw [if_neg (by omega), if_neg (by omega), dif_neg ?_, dif_pos h]
  · have htj := H.t h.choose_spec.1
    rw [← H.inj' hi h.choose_spec.1 ⟨ht.1, by omega⟩ ⟨htj.1, by omega⟩ h.choose_spec.2]
  · rintro ⟨j, hj, e⟩
    have := H.inj' hi hj (x := (stA sts i).2.1) (y := (stA sts j).1 + 2) ⟨ht.1, by omega⟩ ⟨by omega, by omega⟩ e
    subst this
    omega
theorem own0_r (H : Far B sb sts) {i : Nat} (hi : i < sts.length) : own0 B sb sts (stA sts i).2.2 = some (.r i) := by
  have h1 := H.lo i hi
  have h2 := H.sl i hi
  have ht := H.t hi
  unfold own0
  have h : ∃ j, j < sts.length ∧ (stA sts i).2.2 = (stA sts j).2.2 := ⟨i, hi, rfl⟩
  rw [if_neg (by omega), if_neg (by omega), dif_neg ?_, dif_neg ?_, dif_pos h]
  · have htj := H.t h.choose_spec.1
    rw [← H.inj' hi h.choose_spec.1 ⟨ht.2.2.1, by omega⟩ ⟨htj.2.2.1, by omega⟩ h.choose_spec.2]
  · rintro ⟨j, hj, e⟩
    have htj := H.t hj
    have := H.inj' hi hj (x := (stA sts i).2.2) (y := (stA sts j).2.1) ⟨ht.2.2.1, by omega⟩ ⟨htj.1, by omega⟩ e
    subst this
    omega
  · rintro ⟨j, hj, e⟩
    have := H.inj' hi hj (x := (stA sts i).2.2) (y := (stA sts j).1 + 2) ⟨ht.2.2.1, by omega⟩ ⟨by omega, by omega⟩ e
    subst this
    omega
theorem own0_some {b : Nat} {x : Role} (h : own0 B sb sts b = some x) : (x = .tB ∧ b = B) ∨ (x = .ss ∧ b = sb) ∨ ∃ i, i < sts.length ∧ ((x = .p i ∧ b = (stA sts i).1 + 2) ∨ (x = .t i ∧ b = (stA sts i).2.1) ∨ (x = .r i ∧ b = (stA sts i).2.2)) := by
  unfold own0 at h
  by_cases h1 : b = B
  · rw [if_pos h1] at h; cases h; exact .inl ⟨rfl, h1⟩
  rw [if_neg h1] at h
  by_cases h2 : b = sb
  · rw [if_pos h2] at h; cases h; exact .inr (.inl ⟨rfl, h2⟩)
  rw [if_neg h2] at h
  by_cases h3 : ∃ i, i < sts.length ∧ b = (stA sts i).1 + 2
  · rw [dif_pos h3] at h; cases h; exact .inr (.inr ⟨_, h3.choose_spec.1, .inl ⟨rfl, h3.choose_spec.2⟩⟩)
  rw [dif_neg h3] at h
  by_cases h4 : ∃ i, i < sts.length ∧ b = (stA sts i).2.1
  · rw [dif_pos h4] at h; cases h; exact .inr (.inr ⟨_, h4.choose_spec.1, .inr (.inl ⟨rfl, h4.choose_spec.2⟩)⟩)
  rw [dif_neg h4] at h
  by_cases h5 : ∃ i, i < sts.length ∧ b = (stA sts i).2.2
  · rw [dif_pos h5] at h; cases h; exact .inr (.inr ⟨_, h5.choose_spec.1, .inr (.inr ⟨rfl, h5.choose_spec.2⟩)⟩)
  rw [dif_neg h5] at h; cases h
end
theorem going_all (n : Nat) : going n (fun _ => false) = n := by
  unfold going
  rw [List.countP_eq_length.2 (by simp), List.length_range]
structure Given where
  g0 : Nat
  n : Nat
  tb : Nat
  tcap : Nat
  most : Int
  F : Nat → Value
  sa : Option Addr
  sc : Nat
  sl : List Int
def stile (Q : Given) (B sb scap : Nat) (sts : List (Nat × Nat × Nat)) : Stile where
  g0 := Q.g0
  n := Q.n
  B := B
  sb := sb
  scap := scap
  tb := Q.tb
  tcap := Q.tcap
  most := min (max Q.most 0) 1048576
  p := fun i => (stA sts i).1 + 2
  t := fun i => (stA sts i).2.1
  r := fun i => (stA sts i).2.2
  F := Q.F
  sa := Q.sa
  sc := Q.sc
  sl := Q.sl
noncomputable def dyn0 (n B sb : Nat) (sts : List (Nat × Nat × Nat)) : Dyn where
  k := 0
  e := fun _ => false
  f := fun _ => false
  b := fun _ => false
  N := fun _ => 0
  cs := fun _ => []
  own := own0 B sb sts
  ord := []
  oa := none
  oc := 0
  gg := n
section
variable {Q : Given} {w w0 : World} {sb scap : Nat} {sts : List (Nat × Nat × Nat)}
theorem far_of (hb : Built w0 w.heap.size (w.heap.size + 1) (.slice (some ⟨sb, 0, none⟩) Q.n scap) sts) : Far w.heap.size sb sts := by
  have hmem : ∀ i, i < sts.length → stA sts i ∈ sts := fun i hi => by
    rw [stA_get hi]
    exact List.getElem_mem hi
  obtain ⟨h1, h2, h3⟩ := hb.list sb rfl
  refine ⟨fun i hi => ?_, fun i hi => (hb.all _ (hmem i hi)).tr, fun i j hij hj => ?_, by omega, fun i hi => h3 _ (hmem i hi)⟩
  · have := (hb.all _ (hmem i hi)).lo; omega
  · have hi : i < sts.length := by omega
    rw [stA_get hi, stA_get hj]
    exact List.pairwise_iff_getElem.1 hb.apart i j hi hj hij
theorem sys0 {V : Nat → Option Wait} (hn : Q.n ≤ 64) (hg0 : 1 ≤ Q.g0) (hN : NT V w.heap.size (some ⟨sb, 0, none⟩) Q.n scap (w.heap.size + 1) (sts.map sp) w0) (hb : Built w0 w.heap.size (w.heap.size + 1) (.slice (some ⟨sb, 0, none⟩) Q.n scap) sts) (hl : sts.length = Q.n)
    (hR : Rest53 w.heap.size (w.heap.size + 1) (turnW w Q.n Q.most) w0) :
    Sys (stile Q w.heap.size sb scap sts) w.heap.size (dyn0 Q.n w.heap.size sb sts) w0 ∧ Keeps (fun _ => none) (own0 w.heap.size sb sts) w w0 := by
  have hF := far_of hb
  have hmem : ∀ i, i < sts.length → stA sts i ∈ sts := fun i hi => by
    rw [stA_get hi]
    exact List.getElem_mem hi
  have hts : (turnW w Q.n Q.most).heap.size = w.heap.size + 1 := by simp [turnW]
  have hlist := hb.list sb rfl
  have hB : w.heap.size < w0.heap.size := by omega
  have hge : ∀ b x, own0 w.heap.size sb sts b = some x → w.heap.size ≤ b ∧ b < w0.heap.size := fun b x h => by
    rcases own0_some h with ⟨_, e⟩ | ⟨_, e⟩ | ⟨i, hi, z⟩
    · omega
    · omega
    · have h1 := hF.lo i hi
      have h2 := (hb.all _ (hmem i hi)).hi
      have h3 := hF.t hi
      rcases z with ⟨_, e⟩ | ⟨_, e⟩ | ⟨_, e⟩ <;> omega
  refine ⟨⟨fun b x hx => ?_, hge, fun b x hx => ?_, own0_B, own0_s hF, fun i hi => own0_p hF (hl ▸ hi), fun i hi => own0_t hF (hl ▸ hi), fun i hi => own0_r hF (hl ▸ hi), fun i hi => absurd hi (Nat.not_lt_zero _), fun b e => by simp [dyn0, Value.ownBlock] at e, World.ownsRow_nil .., hn, Nat.zero_le _, hg0⟩, by omega, fun b hb' _ => ?_⟩
  · rcases own0_some hx with ⟨rfl, rfl⟩ | ⟨rfl, rfl⟩ | ⟨i, hi, z⟩
    · obtain ⟨arr, ty, fr, h, h0⟩ := cell_inv hN.h0
      have hc : ∀ i, i ≠ 0 → arr[i]? = (turnW w Q.n Q.most).cell? ⟨w.heap.size, i, none⟩ := fun i hi => (cell_of h i).symm.trans (hR.cell i hi).1
      have ht : ∀ i, (turnW w Q.n Q.most).cell? ⟨w.heap.size, i, none⟩ = (#[.slice none 0 0, .int .i64 Q.n, .int .i64 (min (max Q.most 0) 1048576), .slice none 0 0] : Array Value)[i]? := fun i => cell_of (heap_alloc_new w _) i
      refine ⟨arr, ty, fr, h, h0, (hc 1 (by omega)).trans (ht 1), (hc 2 (by omega)).trans (ht 2), (hc 3 (by omega)).trans (ht 3), fun i hi => ?_⟩
      have hz := (hR.cell i (by omega)).2
      have hz0 : (turnW w Q.n Q.most).frozen? ⟨w.heap.size, i, none⟩ = false := frozen_of (heap_alloc_new w _) i
      rw [hz0] at hz
      simpa only [World.frozen?, h] using hz
    · rcases hN.own with ⟨_, ⟨e, _⟩ | ⟨g, cap, cur, e, _, h, _, _, _, ht⟩⟩
      · cases e
      · cases e
        refine ⟨_, _, _, h, fun i hi => ?_⟩
        have hi : i < Q.n := hi
        have h1 : (cur.toList.take (Q.n * 1))[i]? = cur[i]? := by rw [List.getElem?_take, if_pos (by omega)]; simp
        rw [← h1, ht, List.getElem?_map, List.getElem?_eq_getElem (by omega)]
        simp only [Option.map_some, sp, stile]
        rw [stA_get (by omega)]
    · have hs := hb.all _ (hmem i hi)
      rcases z with ⟨rfl, rfl⟩ | ⟨rfl, rfl⟩ | ⟨rfl, rfl⟩
      · exact hs.cells
      · intro _
        rcases hs.tr with ⟨h1, _⟩ | ⟨h1, _⟩
        · exact ⟨0, h1 ▸ hs.c0⟩
        · exact ⟨0, h1 ▸ hs.c1⟩
      · intro _
        rcases hs.tr with ⟨_, h1⟩ | ⟨_, h1⟩
        · exact ⟨0, h1 ▸ hs.c1⟩
        · exact ⟨0, h1 ▸ hs.c0⟩
  · rcases own0_some hx with ⟨rfl, rfl⟩ | ⟨rfl, rfl⟩ | ⟨i, hi, z⟩
    · rfl
    · rfl
    · rcases z with ⟨rfl, rfl⟩ | ⟨rfl, rfl⟩ | ⟨rfl, rfl⟩ <;> exact ⟨(by show i < Q.n; omega), rfl⟩
  · refine ⟨?_, ?_⟩
    · cases h : own0 w.heap.size sb sts b with
      | none => rfl
      | some x => have := (hge b x h).1; omega
    · rw [hR.low b (by omega) (by omega)]
      exact heap_new_lt w _ hb'
end
end
end Go.Proofs.Ytgfajibjedfkdaa
