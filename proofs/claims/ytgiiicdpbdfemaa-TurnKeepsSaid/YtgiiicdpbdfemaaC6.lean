/- Part 6. -/
import Derived.Test.YtgiiicdpbdfemaaC5
import Derived.Conc.AtomicLaws2
set_option linter.unusedSimpArgs false
set_option maxHeartbeats 8000000
set_option maxRecDepth 100000
namespace Go.Proofs.Ytgiiicdpbdfemaa
open Go.Conc Go.RowKit Go.Relay
open Go.ConcN (upd upd_ne upd_same)
section
variable {main : Bool} {V : Nat → Option Wait}
theorem reckon_set (W : Nat) (cr ca cb cv next : Int) (x : Value) (w : World) (hc : w.cell? ⟨W, 2 + (cr % 4).toNat, none⟩ = some x) (hz : w.frozen? ⟨W, 2 + (cr % 4).toNat, none⟩ = false) (hf : Free V ⟨W, 2 + (cr % 4).toNat, none⟩) (hn : 0 ≤ next) (hn2 : next < 4611686018427387904) :
    CallV Try.prog main V 73 #[.pointer (some ⟨W, 0, none⟩), codeV 1 cr ca cb cv, .int .i64 next] w (.int .i64 (next + 1)) ((boxW w 1 cr ca cb cv).setCell ⟨W, 2 + (cr % 4).toNat, none⟩ (.int .i64 cv)) := by
  refine callW_in Try.func73 rfl fun fr cs => ?_
  refine head73 W 1 cr ca cb cv next (fr :: cs) w fun u e7 e8 e9 => ?_
  obtain ⟨b0, b1, b2, b3, b4⟩ := box_cells w 1 cr ca cb cv
  obtain ⟨c1, c2⟩ := box_reg 1 cr ca cb cv hc
  rw [hz] at c2
  generalize boxW w 1 cr ca cb cv = w1 at *
  simp only [tm73, rest73, Try.f73]
  rw [e7, e8, e9]
  clear e7 e8 e9
  repeat (first | refine Walk.c rfl ?_ | refine Walk.cR ?_ | refine Walk.cRet ?_ | refine Walk.cEnd ?_ | (refine Walk.oq ?_; try walk_nrm) | (refine Walk.un ?_; walk_nrm))
  (refine Walk.os hf c1 ?_; try walk_nrm)
  repeat (first | refine Walk.c rfl ?_ | refine Walk.cR ?_ | refine Walk.cRet ?_ | refine Walk.cEnd ?_ | (refine Walk.oq ?_; try walk_nrm) | (refine Walk.un ?_; walk_nrm))
  exact Walk.ret1 rfl rfl Try.func73 rfl fun d => ⟨congrArg (Value.int .i64) (wrap_ok _ (by omega) (by omega)), d, rfl⟩
end
section
variable {main : Bool} {V : Nat → Option Wait}
noncomputable def body73 : Code := match rest73 with | .seq (.seq _ (.block _ c)) _ => c | _ => .skip
noncomputable def code73s : Code := match body73 with | .seq _ (.cond _ _ (.seq _ (.cond _ _ (.seq _ (.cond _ c _))))) => c | _ => .skip
noncomputable def reg73s : Array Oper := match code73s with | .region _ ops _ => ops | _ => #[]
def tm73s (W X : Nat) (c : Value) (next cr ca cb : Int) (u : Nat → Value) : Array Value := #[.pointer (some ⟨W, 0, none⟩), c, .int .i64 next, undef, .pointer (some ⟨X, 0, none⟩), undef, .int .i64 0, .pointer (some ⟨W, 2 + (cr % 4).toNat, none⟩), .pointer (some ⟨W, 2 + (ca % 4).toNat, none⟩), .pointer (some ⟨W, 2 + (cb % 4).toNat, none⟩), u 10, u 11, u 12, u 13, u 14, u 15, u 16, u 17, u 18, u 19, u 20, u 21, u 22, u 23, u 24, u 25, u 26, u 27, u 28, u 29, u 30, u 31, u 32, u 33, u 34, u 35, u 36, u 37, u 38, u 39, u 40, u 41, u 42, u 43, u 44, u 45, u 46, u 47, u 48, u 49, u 50, u 51, u 52, u 53, u 54, u 55, u 56, u 57, u 58, u 59, u 60, u 61, u 62, u 63, u 64, u 65, u 66, u 67, u 68, u 69, u 70, u 71, u 72, u 73, u 74, u 75, u 76, u 77, u 78, u 79, u 80, u 81, u 82, u 83, u 84, u 85, u 86]
theorem reg73s_walk {Stop : Goroutine → World → Prop} (W X : Nat) (c : Value) (cr ca cb next : Int) (k : List Item) (cs : List Frame) (u0 : Nat → Value) (w1 : World) (x : Value) (y z : Int) (hc : w1.cell? ⟨W, 2 + (cr % 4).toNat, none⟩ = some x) (hz : w1.frozen? ⟨W, 2 + (cr % 4).toNat, none⟩ = false) (hf : Free V ⟨W, 2 + (cr % 4).toNat, none⟩)
    (hy : w1.cell? ⟨W, 2 + (ca % 4).toNat, none⟩ = some (.int .i64 y)) (hz' : w1.cell? ⟨W, 2 + (cb % 4).toNat, none⟩ = some (.int .i64 z))
    (hk : ∀ u : Nat → Value, Walk Try.prog main (DR V) Stop (G ((base 73).at ⟨tm73s W X c next cr ca cb u, []⟩ (.inRegion reg73s [] :: k)) cs) (w1.setCell ⟨W, 2 + (cr % 4).toNat, none⟩ (.int .i64 (IntKind.i64.wrap (y + z))))) :
    Walk Try.prog main (DR V) Stop (G ((base 73).at ⟨tm73s W X c next cr ca cb u0, []⟩ (.code (.region 8 reg73s true) :: k)) cs) w1 := by
  refine Walk.drawnI (Inv := fun f a w' => ∃ u, a = ⟨tm73s W X c next cr ca cb u, []⟩ ∧ Facts [39, 40, 41, 42, 43, 44, 45, 46, 47, 1000] [.pointer (some ⟨W, 2 + (cr % 4).toNat, none⟩), .pointer (some ⟨W, 2 + (ca % 4).toNat, none⟩), .pointer (some ⟨W, 2 + (ca % 4).toNat, none⟩), .int .i64 y, .pointer (some ⟨W, 2 + (cb % 4).toNat, none⟩), .pointer (some ⟨W, 2 + (cb % 4).toNat, none⟩), .int .i64 z, .int .i64 (IntKind.i64.wrap (y + z)), .pointer (some ⟨W, 2 + (cr % 4).toNat, none⟩), undef] f u ∧ ((f 9 = false ∧ ∃ d, w' = w1.at d) ∨ (f 9 = true ∧ (∀ j, j < 10 → f j = true) ∧ ∃ d, w' = (w1.setCell ⟨W, 2 + (cr % 4).toNat, none⟩ (.int .i64 (IntKind.i64.wrap (y + z)))).at d))) (by kernel_rfl) (by kernel_rfl) (fun d => ⟨u0, rfl, Facts.none _ _ _, .inl ⟨rfl, d, rfl⟩⟩) ?_ ?_
  · rintro f i o a w' ⟨u, rfl, F, hw⟩ hfi ho hdeps rest hr
    have hi : i < 10 := (Array.getElem?_eq_some_iff.1 ho).1
    rcases hw with ⟨h9, d, rfl⟩ | ⟨_, hall, _⟩
    · refine Walk.back ?_ d
      match i, hi with
      | 0, _ =>
        clear hdeps hfi ho
        simp only [tm73s, reg73s, code73s, body73, rest73, Try.f73] at hr ⊢
        (refine Walk.oq ?_; try walk_nrm)
        refine hr _ _ ⟨upd u 39 (.pointer (some ⟨W, 2 + (cr % 4).toNat, none⟩)), ?_, F.set (by decide) rfl rfl, .inl ⟨by rw [upd_ne _ _ (by omega)]; exact h9, w1.drawn, rfl⟩⟩
        simp [upd]
      | 1, _ =>
        clear hdeps hfi ho
        simp only [tm73s, reg73s, code73s, body73, rest73, Try.f73] at hr ⊢
        (refine Walk.oq ?_; try walk_nrm)
        refine hr _ _ ⟨upd u 40 (.pointer (some ⟨W, 2 + (ca % 4).toNat, none⟩)), ?_, F.set (by decide) rfl rfl, .inl ⟨by rw [upd_ne _ _ (by omega)]; exact h9, w1.drawn, rfl⟩⟩
        simp [upd]
      | 2, _ =>
        have hd := deps_of (l := [1]) (by kernel_rfl) ho hdeps
        have e40 := F 1 40 _ (hd 1 (by simp)) rfl rfl
        clear hdeps hfi ho
        simp only [tm73s, reg73s, code73s, body73, rest73, Try.f73] at hr ⊢
        (refine Walk.oq ?_; try walk_nrm)
        refine hr _ _ ⟨upd u 41 (.pointer (some ⟨W, 2 + (ca % 4).toNat, none⟩)), ?_, F.set (by decide) rfl rfl, .inl ⟨by rw [upd_ne _ _ (by omega)]; exact h9, w1.drawn, rfl⟩⟩
        simp [upd, e40]
      | 3, _ =>
        have hd := deps_of (l := [2]) (by kernel_rfl) ho hdeps
        have e41 := F 2 41 _ (hd 2 (by simp)) rfl rfl
        clear hdeps hfi ho
        simp only [tm73s, reg73s, code73s, body73, rest73, Try.f73] at hr ⊢
        (refine Walk.oq ?_; try walk_nrm)
        refine hr _ _ ⟨upd u 42 (.int .i64 y), ?_, F.set (by decide) rfl rfl, .inl ⟨by rw [upd_ne _ _ (by omega)]; exact h9, w1.drawn, rfl⟩⟩
        simp [upd, e41]
      | 4, _ =>
        clear hdeps hfi ho
        simp only [tm73s, reg73s, code73s, body73, rest73, Try.f73] at hr ⊢
        (refine Walk.oq ?_; try walk_nrm)
        refine hr _ _ ⟨upd u 43 (.pointer (some ⟨W, 2 + (cb % 4).toNat, none⟩)), ?_, F.set (by decide) rfl rfl, .inl ⟨by rw [upd_ne _ _ (by omega)]; exact h9, w1.drawn, rfl⟩⟩
        simp [upd]
      | 5, _ =>
        have hd := deps_of (l := [4]) (by kernel_rfl) ho hdeps
        have e43 := F 4 43 _ (hd 4 (by simp)) rfl rfl
        clear hdeps hfi ho
        simp only [tm73s, reg73s, code73s, body73, rest73, Try.f73] at hr ⊢
        (refine Walk.oq ?_; try walk_nrm)
        refine hr _ _ ⟨upd u 44 (.pointer (some ⟨W, 2 + (cb % 4).toNat, none⟩)), ?_, F.set (by decide) rfl rfl, .inl ⟨by rw [upd_ne _ _ (by omega)]; exact h9, w1.drawn, rfl⟩⟩
        simp [upd, e43]
      | 6, _ =>
        have hd := deps_of (l := [5]) (by kernel_rfl) ho hdeps
        have e44 := F 5 44 _ (hd 5 (by simp)) rfl rfl
        clear hdeps hfi ho
        simp only [tm73s, reg73s, code73s, body73, rest73, Try.f73] at hr ⊢
        (refine Walk.oq ?_; try walk_nrm)
        refine hr _ _ ⟨upd u 45 (.int .i64 z), ?_, F.set (by decide) rfl rfl, .inl ⟨by rw [upd_ne _ _ (by omega)]; exact h9, w1.drawn, rfl⟩⟩
        simp [upd, e44]
      | 7, _ =>
        have hd := deps_of (l := [3, 6]) (by kernel_rfl) ho hdeps
        have e42 := F 3 42 _ (hd 3 (by simp)) rfl rfl
        have e45 := F 6 45 _ (hd 6 (by simp)) rfl rfl
        clear hdeps hfi ho
        simp only [tm73s, reg73s, code73s, body73, rest73, Try.f73] at hr ⊢
        (refine Walk.oq ?_; try walk_nrm)
        refine hr _ _ ⟨upd u 46 (.int .i64 (IntKind.i64.wrap (y + z))), ?_, F.set (by decide) rfl rfl, .inl ⟨by rw [upd_ne _ _ (by omega)]; exact h9, w1.drawn, rfl⟩⟩
        simp [upd, e42, e45]
      | 8, _ =>
        have hd := deps_of (l := [0]) (by kernel_rfl) ho hdeps
        have e39 := F 0 39 _ (hd 0 (by simp)) rfl rfl
        clear hdeps hfi ho
        simp only [tm73s, reg73s, code73s, body73, rest73, Try.f73] at hr ⊢
        (refine Walk.oq ?_; try walk_nrm)
        refine hr _ _ ⟨upd u 47 (.pointer (some ⟨W, 2 + (cr % 4).toNat, none⟩)), ?_, F.set (by decide) rfl rfl, .inl ⟨by rw [upd_ne _ _ (by omega)]; exact h9, w1.drawn, rfl⟩⟩
        simp [upd, e39]
      | 9, _ =>
        have hd := deps_of (l := [0, 1, 2, 3, 4, 5, 6, 7, 8]) (by kernel_rfl) ho hdeps
        have e46 := F 7 46 _ (hd 7 (by simp)) rfl rfl
        have e47 := F 8 47 _ (hd 8 (by simp)) rfl rfl
        clear hdeps hfi ho
        simp only [tm73s, reg73s, code73s, body73, rest73, Try.f73] at hr ⊢
        simp only [e46, e47]
        (refine Walk.os hf hc ?_; try walk_nrm)
        refine hr _ _ ⟨upd u 1000 undef, ?_, F.set (by decide) rfl rfl, .inr ⟨upd_same _ _ _, fun j hj => ?_, (w1.setCell ⟨W, 2 + (cr % 4).toNat, none⟩ (.int .i64 (IntKind.i64.wrap (y + z)))).drawn, rfl⟩⟩
        · simp [upd, e46, e47]
        · by_cases e : j = 9
          · subst e; exact upd_same _ _ _
          · rw [upd_ne _ _ e]; exact hd j (by simp; omega)
    · have := hall i hi; rw [this] at hfi; cases hfi
  · rintro f a w' ⟨u, rfl, F, hw⟩ hall
    have hsz : reg73s.size = 10 := by kernel_rfl
    rcases hw with ⟨h, _⟩ | ⟨_, _, d, rfl⟩
    · rw [hall 9 (by rw [hsz]; omega)] at h; cases h
    · exact (hk u).back d
theorem reckon_sum (W : Nat) (cr ca cb cv next : Int) (x : Value) (y z : Int) (w : World) (hc : w.cell? ⟨W, 2 + (cr % 4).toNat, none⟩ = some x) (hz : w.frozen? ⟨W, 2 + (cr % 4).toNat, none⟩ = false) (hf : Free V ⟨W, 2 + (cr % 4).toNat, none⟩) (hn : 0 ≤ next) (hn2 : next < 4611686018427387904)
    (hy : w.cell? ⟨W, 2 + (ca % 4).toNat, none⟩ = some (.int .i64 y)) (hz' : w.cell? ⟨W, 2 + (cb % 4).toNat, none⟩ = some (.int .i64 z)) :
    CallV Try.prog main V 73 #[.pointer (some ⟨W, 0, none⟩), codeV 3 cr ca cb cv, .int .i64 next] w (.int .i64 (next + 1)) ((boxW w 3 cr ca cb cv).setCell ⟨W, 2 + (cr % 4).toNat, none⟩ (.int .i64 (IntKind.i64.wrap (y + z)))) := by
  refine callW_in Try.func73 rfl fun fr cs => ?_
  refine head73 W 3 cr ca cb cv next (fr :: cs) w fun u e7 e8 e9 => ?_
  obtain ⟨b0, b1, b2, b3, b4⟩ := box_cells w 3 cr ca cb cv
  obtain ⟨c1, c2⟩ := box_reg 3 cr ca cb cv hc
  rw [hz] at c2
  have c3 := (box_reg 3 cr ca cb cv hy).1
  have c4 := (box_reg 3 cr ca cb cv hz').1
  generalize boxW w 3 cr ca cb cv = w1 at *
  simp only [tm73, rest73, Try.f73]
  rw [e7, e8, e9]
  clear e7 e8 e9
  repeat (first | refine Walk.c rfl ?_ | refine Walk.cR ?_ | refine Walk.cRet ?_ | refine Walk.cEnd ?_ | (refine Walk.oq ?_; try walk_nrm) | (refine Walk.un ?_; walk_nrm))
  refine reg73s_walk W w.heap.size (codeV 3 cr ca cb cv) cr ca cb next _ _ (fun k => ([undef, undef, undef, undef, undef, undef, undef, undef, undef, undef, u 10, u 11, u 12, u 13, u 14, u 15, u 16, u 17, u 18, u 19, u 20, u 21, .pointer (some ⟨w.heap.size, 0, none⟩), .int .i64 3, .bool false, .bool false, u 26, u 27, u 28, u 29, .bool false, .bool false, u 32, u 33, u 34, u 35, u 36, .bool true, .bool true, u 39, u 40, u 41, u 42, u 43, u 44, u 45, u 46, u 47, u 48, u 49, u 50, u 51, u 52, u 53, u 54, u 55, u 56, u 57, u 58, u 59, u 60, u 61, u 62, u 63, u 64, u 65, u 66, u 67, u 68, u 69, u 70, u 71, u 72, u 73, u 74, u 75, u 76, u 77, u 78, u 79, u 80, u 81, u 82, u 83, u 84, u 85, u 86] : List Value).getD k undef) w1 x y z c1 c2 hf c3 c4 fun u => ?_
  simp only [tm73s]
  repeat (first | refine Walk.c rfl ?_ | refine Walk.cR ?_ | refine Walk.cRet ?_ | refine Walk.cEnd ?_ | (refine Walk.oq ?_; try walk_nrm) | (refine Walk.un ?_; walk_nrm))
  exact Walk.ret1 rfl rfl Try.func73 rfl fun d => ⟨congrArg (Value.int .i64) (wrap_ok _ (by omega) (by omega)), d, rfl⟩
end
section
variable {main : Bool} {V : Nat → Option Wait}
noncomputable def code73t : Code := match body73 with | .seq _ (.cond _ _ (.seq _ (.cond _ _ (.seq _ (.cond _ _ (.seq _ (.cond _ _ (.seq _ (.cond _ _ (.seq _ (.cond _ c _))))))))))) => c | _ => .skip
noncomputable def reg73t : Array Oper := match code73t with | .region _ ops _ => ops | _ => #[]
theorem Facts.other {dsts : List Nat} {vals : List Value} {f : Nat → Bool} {u : Nat → Value} (F : Facts dsts vals f u) {d : Nat} {v : Value} (hd : d ∉ dsts) : Facts dsts vals f (upd u d v) := by
  intro j d' v' hf hd' hv'
  have hne : d' ≠ d := fun e => hd (by rw [← e]; exact List.mem_of_getElem? hd')
  rw [upd_ne _ _ hne]
  exact F j d' v' hf hd' hv'
def ansW (w1 : World) (y : Int) : World := w1.alloc (.cells #[.bool true, .int .i64 y, .slice none 0 0] 38)
structure App (n0 : Nat) (w1 : World) (y : Int) (ta : Option Addr) (n tc : Nat) (xs : List Value) (g cap : Nat) (w3 : World) : Prop where
  own : w3.ownsRow n0 38 3 (.slice (some ⟨g, 0, none⟩) (n + 1) cap) (n + 1) (xs ++ [.bool true, .int .i64 y, .slice none 0 0])
  grown : (ansW w1 y).grownBy w3 (Value.slice ta n tc).ownBlock
  hat : (Value.slice ta n tc).ownBlock = some g ∨ g = (ansW w1 y).heap.size
  hlt : g < w3.heap.size
def WS (n0 W : Nat) (w1 : World) (y : Int) (ta : Option Addr) (n tc : Nat) (xs : List Value) (f : Nat → Bool) (u : Nat → Value) (w' : World) : Prop :=
  (f 10 = false ∧ f 13 = false ∧ ((f 9 = false ∧ ∃ d, w' = w1.at d) ∨ (f 9 = true ∧ ∃ d, w' = (ansW w1 y).at d))) ∨
  (f 10 = true ∧ (∀ j, 1 ≤ j → j < 11 → f j = true) ∧ ∃ g cap w3, App n0 w1 y ta n tc xs g cap w3 ∧ u 82 = .slice (some ⟨g, 0, none⟩) (n + 1) cap ∧
    ((f 13 = false ∧ ∃ d, w' = w3.at d) ∨ (f 13 = true ∧ ∃ d, w' = (w3.setCell ⟨W, 6, none⟩ (.slice (some ⟨g, 0, none⟩) (n + 1) cap)).at d)))
section
variable {n0 W : Nat} {w1 w' : World} {y : Int} {ta : Option Addr} {n tc : Nat} {xs : List Value} {f : Nat → Bool} {u : Nat → Value}
theorem WS.quiet {i d : Nat} {v : Value} (h : WS n0 W w1 y ta n tc xs f u w') (h9 : i ≠ 9 ∧ i ≠ 10) (h13 : i ≠ 13) (h82 : d ≠ 82) : WS n0 W w1 y ta n tc xs (upd f i true) (upd u d v) w' := by
  unfold WS
  rw [upd_ne f true (Ne.symm h9.1), upd_ne f true (Ne.symm h9.2), upd_ne f true (Ne.symm h13), upd_ne u v (Ne.symm h82)]
  rcases h with h | ⟨h1, h2, h3⟩
  · exact .inl h
  · refine .inr ⟨h1, fun j a b => ?_, h3⟩
    by_cases e : j = i
    · subst e; exact upd_same _ _ _
    · rw [upd_ne _ _ e]; exact h2 j a b
theorem WS.cells4 (h : WS n0 W w1 y ta n tc xs f u w') (h4 : f 4 = false) {k : Nat} {v : Value} (h6 : w1.cell? ⟨W, 6, none⟩ = some v) (_ : w1.cell? ⟨W, k, none⟩ = some (.int .i64 y)) : w'.cell? ⟨W, 6, none⟩ = some v := by
  rcases h with ⟨_, _, ⟨_, d, rfl⟩ | ⟨_, d, rfl⟩⟩ | ⟨_, h, _⟩
  · exact h6
  · exact cell_alloc w1 _ h6
  · rw [h 4 (by omega) (by omega)] at h4; cases h4
theorem WS.cells7 (h : WS n0 W w1 y ta n tc xs f u w') (h4 : f 7 = false) {k : Nat} {v : Value} (_ : w1.cell? ⟨W, 6, none⟩ = some v) (h6 : w1.cell? ⟨W, k, none⟩ = some (.int .i64 y)) : w'.cell? ⟨W, k, none⟩ = some (.int .i64 y) := by
  rcases h with ⟨_, _, ⟨_, d, rfl⟩ | ⟨_, d, rfl⟩⟩ | ⟨_, h, _⟩
  · exact h6
  · exact cell_alloc w1 _ h6
  · rw [h 7 (by omega) (by omega)] at h4; cases h4
theorem WS.early9 (h : WS n0 W w1 y ta n tc xs f u w') (h9 : f 9 = false) : f 10 = false ∧ ∃ d, w' = w1.at d := by
  rcases h with ⟨h1, _, ⟨_, h⟩ | ⟨h, _⟩⟩ | ⟨_, h, _⟩
  · exact ⟨h1, h⟩
  · rw [h9] at h; cases h
  · rw [h 9 (by omega) (by omega)] at h9; cases h9
theorem WS.none13 (h : WS n0 W w1 y ta n tc xs f u w') (h9 : f 10 = false) : f 13 = false := by
  rcases h with ⟨_, h, _⟩ | ⟨h, _⟩
  · exact h
  · rw [h9] at h; cases h
theorem WS.late9 (h : WS n0 W w1 y ta n tc xs f u w') (h10 : f 10 = false) (h9 : f 9 = true) : f 13 = false ∧ ∃ d, w' = (ansW w1 y).at d := by
  rcases h with ⟨_, h13, ⟨h, _⟩ | ⟨_, h⟩⟩ | ⟨h, _⟩
  · rw [h9] at h; cases h
  · exact ⟨h13, h⟩
  · rw [h10] at h; cases h
theorem WS.last (h : WS n0 W w1 y ta n tc xs f u w') (h13 : f 13 = false) (h10 : f 10 = true) : ∃ g cap w3, App n0 w1 y ta n tc xs g cap w3 ∧ u 82 = .slice (some ⟨g, 0, none⟩) (n + 1) cap ∧ ∃ d, w' = w3.at d := by
  rcases h with ⟨h, _⟩ | ⟨_, _, g, cap, w3, h1, h2, ⟨_, h⟩ | ⟨h, _⟩⟩
  · rw [h10] at h; cases h
  · exact ⟨g, cap, w3, h1, h2, h⟩
  · rw [h13] at h; cases h
theorem App.frz {g cap : Nat} {w3 : World} (h : App n0 w1 y ta n tc xs g cap w3) {v : Value} (h6 : w1.cell? ⟨W, 6, none⟩ = some v) (hz : w1.frozen? ⟨W, 6, none⟩ = false) (hr : (Value.slice ta n tc).ownBlock ≠ some W) : w3.frozen? ⟨W, 6, none⟩ = false :=
  (h.grown.frozen_far _ (cell_lt _ (cell_alloc w1 _ h6)) (fun e => hr e.symm)).trans (frozen_alloc w1 _ h6 hz)
theorem App.cell {g cap : Nat} {w3 : World} (h : App n0 w1 y ta n tc xs g cap w3) {v : Value} (h6 : w1.cell? ⟨W, 6, none⟩ = some v) (hr : (Value.slice ta n tc).ownBlock ≠ some W) : w3.cell? ⟨W, 6, none⟩ = some v :=
  (h.grown.cell_far _ (cell_lt _ (cell_alloc w1 _ h6)) (fun e => hr e.symm)).trans (cell_alloc w1 _ h6)
end
theorem reg73t_walk {Stop : Goroutine → World → Prop} (W X n0 : Nat) (c : Value) (cr ca cb next : Int) (k : List Item) (cs : List Frame) (u0 : Nat → Value) (w1 : World) (y : Int) (ta : Option Addr) (n tc : Nat) (xs : List Value) (hy : w1.cell? ⟨W, 2 + (cr % 4).toNat, none⟩ = some (.int .i64 y))
    (h6 : w1.cell? ⟨W, 6, none⟩ = some (.slice ta n tc)) (h6z : w1.frozen? ⟨W, 6, none⟩ = false) (hf : Free V ⟨W, 6, none⟩) (hrow : w1.ownsRow n0 38 3 (.slice ta n tc) n xs) (hbase : n0 ≤ w1.heap.size) (hn : n < 1099511627776) (hap : ∀ g, (Value.slice ta n tc).ownBlock = some g → Apart V g) (hown : (Value.slice ta n tc).ownBlock ≠ some W)
    (hk : ∀ (u : Nat → Value) g cap w3, App n0 w1 y ta n tc xs g cap w3 → Walk Try.prog main (DR V) Stop (G ((base 73).at ⟨tm73s W X c next cr ca cb u, []⟩ (.inRegion reg73t [] :: k)) cs) (w3.setCell ⟨W, 6, none⟩ (.slice (some ⟨g, 0, none⟩) (n + 1) cap))) :
    Walk Try.prog main (DR V) Stop (G ((base 73).at ⟨tm73s W X c next cr ca cb u0, []⟩ (.code (.region 16 reg73t true) :: k)) cs) w1 := by
  have hi38 := Option.some_get (show (Try.prog.info? 38).isSome = true by kernel_rfl)
  have hown' : (ansW w1 y).ownsRow n0 38 3 (.slice ta n tc) n xs := hrow.kept (World.grownBy_alloc w1 (.cells #[.bool true, .int .i64 y, .slice none 0 0] 38) none) (by cases (Value.slice ta n tc).ownBlock <;> simp)
  have hsz1 : (ansW w1 y).heap.size = w1.heap.size + 1 := by simp [ansW]
  have hnews : ∀ (j : Nat) (u : Value), ([.bool true, .int .i64 y, .slice none 0 0] : List Value)[j]? = some u → (ansW w1 y).cell? ((⟨w1.heap.size, 0, none⟩ : Addr).add j) = some u := fun j u hu => by
    have h := World.cell?_alloc_at (w := w1) #[.bool true, .int .i64 y, .slice none 0 0] 38 w1.heap.size j rfl
    have : (⟨w1.heap.size, 0, none⟩ : Addr).add j = ⟨w1.heap.size, j, none⟩ := by simp [Addr.add]; try (intro h; exact h.symm)
    rw [this]
    exact h.trans (by simpa using hu)
  refine Walk.drawnJ (Inv := fun f a w' => ∃ u, a = ⟨tm73s W X c next cr ca cb u, []⟩ ∧ Facts [72, 73, 74, 75, 76, 77, 78, 79, 80, 81, 1001, 83, 84, 1000] [.pointer (some ⟨W, 0, none⟩), .pointer (some ⟨W, 0, none⟩), .pointer (some ⟨W, 0, none⟩), .pointer (some ⟨W, 6, none⟩), .slice ta n tc, .pointer (some ⟨W, 2 + (cr % 4).toNat, none⟩), .pointer (some ⟨W, 2 + (cr % 4).toNat, none⟩), .int .i64 y, .agg #[.bool true, .int .i64 y, .slice none 0 0], .slice (some ⟨w1.heap.size, 0, none⟩) 1 1, undef, .pointer (some ⟨W, 0, none⟩), .pointer (some ⟨W, 6, none⟩), undef] f u ∧ WS n0 W w1 y ta n tc xs f u w') (by kernel_rfl) (by kernel_rfl) (fun d => ⟨u0, rfl, Facts.none _ _ _, .inl ⟨rfl, rfl, .inl ⟨rfl, d, rfl⟩⟩⟩) ?_ ?_
  · rintro f i o a w ⟨u, rfl, F, hw⟩ hC hfi ho hdeps rest hr
    have hi : i < 14 := (Array.getElem?_eq_some_iff.1 ho).1
    match i, hi with
    | 0, _ =>
      clear hdeps ho
      simp only [tm73s, reg73t, code73t, body73, rest73, Try.f73] at hr ⊢
      (refine Walk.oq ?_; try walk_nrm)
      refine hr _ _ ⟨upd u 72 (.pointer (some ⟨W, 0, none⟩)), ?_, F.set (by decide) rfl rfl, hw.quiet (by decide) (by decide) (by decide)⟩
      simp [upd]
    | 1, _ =>
      clear hdeps ho
      simp only [tm73s, reg73t, code73t, body73, rest73, Try.f73] at hr ⊢
      (refine Walk.oq ?_; try walk_nrm)
      refine hr _ _ ⟨upd u 73 (.pointer (some ⟨W, 0, none⟩)), ?_, F.set (by decide) rfl rfl, hw.quiet (by decide) (by decide) (by decide)⟩
      simp [upd]
    | 2, _ =>
      have hd := deps_of (l := [1]) (by kernel_rfl) ho hdeps
      have e73 := F 1 73 _ (hd 1 (by simp)) rfl rfl
      clear hdeps ho
      simp only [tm73s, reg73t, code73t, body73, rest73, Try.f73] at hr ⊢
      (refine Walk.oq ?_; try walk_nrm)
      refine hr _ _ ⟨upd u 74 (.pointer (some ⟨W, 0, none⟩)), ?_, F.set (by decide) rfl rfl, hw.quiet (by decide) (by decide) (by decide)⟩
      simp [upd, e73]
    | 3, _ =>
      have hd := deps_of (l := [2]) (by kernel_rfl) ho hdeps
      have e74 := F 2 74 _ (hd 2 (by simp)) rfl rfl
      clear hdeps ho
      simp only [tm73s, reg73t, code73t, body73, rest73, Try.f73] at hr ⊢
      (refine Walk.oq ?_; try walk_nrm)
      refine hr _ _ ⟨upd u 75 (.pointer (some ⟨W, 6, none⟩)), ?_, F.set (by decide) rfl rfl, hw.quiet (by decide) (by decide) (by decide)⟩
      simp [upd, e74]
    | 4, _ =>
      have hd := deps_of (l := [3]) (by kernel_rfl) ho hdeps
      have e75 := F 3 75 _ (hd 3 (by simp)) rfl rfl
      have hcell := hw.cells4 hfi h6 hy
      clear hdeps ho
      simp only [tm73s, reg73t, code73t, body73, rest73, Try.f73] at hr ⊢
      (refine Walk.oq ?_; try walk_nrm)
      refine hr _ _ ⟨upd u 76 (.slice ta n tc), ?_, F.set (by decide) rfl rfl, hw.quiet (by decide) (by decide) (by decide)⟩
      simp [upd, e75]
    | 5, _ =>
      clear hdeps ho
      simp only [tm73s, reg73t, code73t, body73, rest73, Try.f73] at hr ⊢
      (refine Walk.oq ?_; try walk_nrm)
      refine hr _ _ ⟨upd u 77 (.pointer (some ⟨W, 2 + (cr % 4).toNat, none⟩)), ?_, F.set (by decide) rfl rfl, hw.quiet (by decide) (by decide) (by decide)⟩
      simp [upd]
    | 6, _ =>
      have hd := deps_of (l := [5]) (by kernel_rfl) ho hdeps
      have e77 := F 5 77 _ (hd 5 (by simp)) rfl rfl
      clear hdeps ho
      simp only [tm73s, reg73t, code73t, body73, rest73, Try.f73] at hr ⊢
      (refine Walk.oq ?_; try walk_nrm)
      refine hr _ _ ⟨upd u 78 (.pointer (some ⟨W, 2 + (cr % 4).toNat, none⟩)), ?_, F.set (by decide) rfl rfl, hw.quiet (by decide) (by decide) (by decide)⟩
      simp [upd, e77]
    | 7, _ =>
      have hd := deps_of (l := [6]) (by kernel_rfl) ho hdeps
      have e78 := F 6 78 _ (hd 6 (by simp)) rfl rfl
      have hcell := hw.cells7 hfi h6 hy
      clear hdeps ho
      simp only [tm73s, reg73t, code73t, body73, rest73, Try.f73] at hr ⊢
      (refine Walk.oq ?_; try walk_nrm)
      refine hr _ _ ⟨upd u 79 (.int .i64 y), ?_, F.set (by decide) rfl rfl, hw.quiet (by decide) (by decide) (by decide)⟩
      simp [upd, e78]
    | 8, _ =>
      have hd := deps_of (l := [7]) (by kernel_rfl) ho hdeps
      have e79 := F 7 79 _ (hd 7 (by simp)) rfl rfl
      clear hdeps ho
      simp only [tm73s, reg73t, code73t, body73, rest73, Try.f73] at hr ⊢
      (refine Walk.oq ?_; try walk_nrm)
      refine hr _ _ ⟨upd u 80 (.agg #[.bool true, .int .i64 y, .slice none 0 0]), ?_, F.set (by decide) rfl rfl, hw.quiet (by decide) (by decide) (by decide)⟩
      simp [upd, e79]
    | 9, _ =>
      have hd := deps_of (l := [8]) (by kernel_rfl) ho hdeps
      have e80 := F 8 80 _ (hd 8 (by simp)) rfl rfl
      obtain ⟨h10, d, rfl⟩ := hw.early9 hfi
      clear hdeps ho
      refine Walk.back ?_ d
      simp only [tm73s, reg73t, code73t, body73, rest73, Try.f73] at hr ⊢
      simp only [e80]
      (refine Walk.oa ?_; try walk_nrm)
      refine hr _ _ ⟨upd u 81 (.slice (some ⟨w1.heap.size, 0, none⟩) 1 1), ?_, F.set (by decide) rfl rfl, .inl ⟨by rw [upd_ne _ _ (by decide)]; exact h10, by rw [upd_ne _ _ (by decide)]; exact hw.none13 h10, .inr ⟨upd_same _ _ _, (w1.alloc (.cells #[.bool true, .int .i64 y, .slice none 0 0] 38)).drawn, rfl⟩⟩⟩
      simp [upd, e80]
    | 10, _ =>
      have hd := deps_of (l := [4, 9]) (by kernel_rfl) ho hdeps
      have e76 := F 4 76 _ (hd 4 (by simp)) rfl rfl
      have e81 := F 9 81 _ (hd 9 (by simp)) rfl rfl
      obtain ⟨h13, d, rfl⟩ := hw.late9 hfi (hd 9 (by simp))
      refine Walk.back ?_ d
      have k4 := hd 4 (by simp)
      have k9 := hd 9 (by simp)
      have k3 := hC.deps (l := [3]) k4 (by kernel_rfl) 3 (by simp)
      have k2 := hC.deps (l := [2]) k3 (by kernel_rfl) 2 (by simp)
      have k1 := hC.deps (l := [1]) k2 (by kernel_rfl) 1 (by simp)
      have k8 := hC.deps (l := [8]) k9 (by kernel_rfl) 8 (by simp)
      have k7 := hC.deps (l := [7]) k8 (by kernel_rfl) 7 (by simp)
      have k6 := hC.deps (l := [6]) k7 (by kernel_rfl) 6 (by simp)
      have k5 := hC.deps (l := [5]) k6 (by kernel_rfl) 5 (by simp)
      have hcl : ∀ j, 1 ≤ j → j < 10 → f j = true := fun j h1 h2 => by
        match j, h1, h2 with
        | 1, _, _ => exact k1
        | 2, _, _ => exact k2
        | 3, _, _ => exact k3
        | 4, _, _ => exact k4
        | 5, _, _ => exact k5
        | 6, _, _ => exact k6
        | 7, _, _ => exact k7
        | 8, _, _ => exact k8
        | 9, _, _ => exact k9
      clear hdeps ho
      simp only [tm73s, reg73t, code73t, body73, rest73, Try.f73] at hr ⊢
      simp only [e76, e81]
      refine Walk.append (.tmp 76) (.tmp 81) 36 rfl (by rfl) (by decide) rfl n0 38 _ (.agg #[.bool false, .int .i64 0, .slice none 0 0]) 3 40 (by kernel_rfl) hi38.symm (by rfl) (by rfl) (by rfl) (by rfl) (by decide) (.slice ta n tc) n xs rfl hown' ⟨w1.heap.size, 0, none⟩ 1 1 [.bool true, .int .i64 y, .slice none 0 0] rfl (by rfl) hnews (by simp [Value.oneCell']) (by decide) (by simp [maxLen]; omega) (by omega) (show n0 ≤ (ansW w1 y).heap.size by omega) hap (fun g cap w3 hown3 hg hat hlt => ?_)
      walk_nrm
      refine hr _ _ ⟨upd (upd u 1001 undef) 82 (.slice (some ⟨g, 0, none⟩) (n + 1) cap), ?_, Facts.other (Facts.set F (by decide) rfl rfl) (by decide), .inr ⟨upd_same _ _ _, ?_, g, cap, w3, ⟨hown3, hg, hat, hlt⟩, upd_same _ _ _, .inl ⟨by rw [upd_ne _ _ (by decide)]; exact h13, w3.drawn, rfl⟩⟩⟩
      · simp [upd, e76, e81]
      · intro j h1 h2; by_cases e : j = 10
        · subst e; exact upd_same _ _ _
        · rw [upd_ne _ _ e]; exact hcl j h1 (by omega)
    | 11, _ =>
      have hd := deps_of (l := [0, 1, 2, 3, 4, 5, 6, 7, 8, 9, 10]) (by kernel_rfl) ho hdeps
      have e72 := F 0 72 _ (hd 0 (by simp)) rfl rfl
      clear hdeps ho
      simp only [tm73s, reg73t, code73t, body73, rest73, Try.f73] at hr ⊢
      (refine Walk.oq ?_; try walk_nrm)
      refine hr _ _ ⟨upd u 83 (.pointer (some ⟨W, 0, none⟩)), ?_, F.set (by decide) rfl rfl, hw.quiet (by decide) (by decide) (by decide)⟩
      simp [upd, e72]
    | 12, _ =>
      have hd := deps_of (l := [0, 1, 2, 3, 4, 5, 6, 7, 8, 9, 10, 11]) (by kernel_rfl) ho hdeps
      have e83 := F 11 83 _ (hd 11 (by simp)) rfl rfl
      clear hdeps ho
      simp only [tm73s, reg73t, code73t, body73, rest73, Try.f73] at hr ⊢
      (refine Walk.oq ?_; try walk_nrm)
      refine hr _ _ ⟨upd u 84 (.pointer (some ⟨W, 6, none⟩)), ?_, F.set (by decide) rfl rfl, hw.quiet (by decide) (by decide) (by decide)⟩
      simp [upd, e83]
    | 13, _ =>
      have hd := deps_of (l := [0, 1, 2, 3, 4, 5, 6, 7, 8, 9, 10, 12]) (by kernel_rfl) ho hdeps
      have e84 := F 12 84 _ (hd 12 (by simp)) rfl rfl
      obtain ⟨g, cap, w3, happ, e82, d, rfl⟩ := hw.last hfi (hd 10 (by simp))
      refine Walk.back ?_ d
      clear hdeps ho
      have hcc := happ.cell h6 hown
      have hcz := happ.frz h6 h6z hown
      simp only [tm73s, reg73t, code73t, body73, rest73, Try.f73] at hr ⊢
      simp only [e84, e82]
      (refine Walk.os hf hcc ?_; try walk_nrm)
      refine hr _ _ ⟨upd u 1000 undef, ?_, F.set (by decide) rfl rfl, .inr ⟨by rw [upd_ne _ _ (by decide)]; exact hd 10 (by simp), fun j h1 h2 => by rw [upd_ne _ _ (by omega)]; exact hd j (by simp; omega), g, cap, w3, happ, by rw [upd_ne _ _ (by decide)]; exact e82, .inr ⟨upd_same _ _ _, (w3.setCell ⟨W, 6, none⟩ (.slice (some ⟨g, 0, none⟩) (n + 1) cap)).drawn, rfl⟩⟩⟩
      simp [upd, e84, e82]
  · rintro f a w' ⟨u, rfl, F, hw⟩ hall
    have hsz : reg73t.size = 14 := by kernel_rfl
    rcases hw with ⟨h, _⟩ | ⟨_, _, g, cap, w3, happ, _, ⟨h, _⟩ | ⟨_, d, rfl⟩⟩
    · rw [hall 10 (by rw [hsz]; omega)] at h; cases h
    · rw [hall 13 (by rw [hsz]; omega)] at h; cases h
    · exact (hk u g cap w3 happ).back d
theorem reckon_tell (W n0 : Nat) (cr ca cb cv next : Int) (y : Int) (ta : Option Addr) (n tc : Nat) (xs : List Value) (w : World) (hn : 0 ≤ next) (hn2 : next < 4611686018427387904) (hy : w.cell? ⟨W, 2 + (cr % 4).toNat, none⟩ = some (.int .i64 y))
    (h6 : w.cell? ⟨W, 6, none⟩ = some (.slice ta n tc)) (h6z : w.frozen? ⟨W, 6, none⟩ = false) (hf : Free V ⟨W, 6, none⟩) (hrow : w.ownsRow n0 38 3 (.slice ta n tc) n xs) (hbase : n0 ≤ w.heap.size) (hnn : n < 1099511627776) (hap : ∀ g, (Value.slice ta n tc).ownBlock = some g → Apart V g) (hown : (Value.slice ta n tc).ownBlock ≠ some W) :
    CallW Try.prog main V 73 #[.pointer (some ⟨W, 0, none⟩), codeV 6 cr ca cb cv, .int .i64 next] w (fun v w' => v = .int .i64 (next + 1) ∧ ∃ g cap w3 d, App n0 (boxW w 6 cr ca cb cv) y ta n tc xs g cap w3 ∧ w' = (w3.setCell ⟨W, 6, none⟩ (.slice (some ⟨g, 0, none⟩) (n + 1) cap)).at d) := by
  refine callW_in Try.func73 rfl fun fr cs => ?_
  refine head73 W 6 cr ca cb cv next (fr :: cs) w fun u e7 e8 e9 => ?_
  obtain ⟨b0, b1, b2, b3, b4⟩ := box_cells w 6 cr ca cb cv
  have c1 := (box_reg 6 cr ca cb cv hy).1
  obtain ⟨c6, c6z⟩ := box_reg 6 cr ca cb cv h6
  rw [h6z] at c6z
  have hrow1 : (boxW w 6 cr ca cb cv).ownsRow n0 38 3 (.slice ta n tc) n xs := hrow.kept (World.grownBy_alloc w _ none) (by cases (Value.slice ta n tc).ownBlock <;> simp)
  have hsz : (boxW w 6 cr ca cb cv).heap.size = w.heap.size + 1 := by simp [boxW]
  generalize boxW w 6 cr ca cb cv = w1 at *
  simp only [tm73, rest73, Try.f73]
  rw [e7, e8, e9]
  clear e7 e8 e9
  repeat (first | refine Walk.c rfl ?_ | refine Walk.cR ?_ | refine Walk.cRet ?_ | refine Walk.cEnd ?_ | (refine Walk.oq ?_; try walk_nrm) | (refine Walk.un ?_; walk_nrm))
  refine reg73t_walk W w.heap.size n0 (codeV 6 cr ca cb cv) cr ca cb next _ _ (fun k => ([undef, undef, undef, undef, undef, undef, undef, undef, undef, undef, u 10, u 11, u 12, u 13, u 14, u 15, u 16, u 17, u 18, u 19, u 20, u 21, .pointer (some ⟨w.heap.size, 0, none⟩), .int .i64 6, .bool false, .bool false, u 26, u 27, u 28, u 29, .bool false, .bool false, u 32, u 33, u 34, u 35, u 36, .bool false, .bool false, u 39, u 40, u 41, u 42, u 43, u 44, u 45, u 46, u 47, .bool false, .bool false, u 50, u 51, u 52, u 53, u 54, u 55, u 56, u 57, u 58, .bool false, .bool false, u 61, u 62, u 63, u 64, u 65, u 66, u 67, u 68, u 69, .bool true, .bool true, u 72, u 73, u 74, u 75, u 76, u 77, u 78, u 79, u 80, u 81, u 82, u 83, u 84, u 85, u 86] : List Value).getD k undef) w1 y ta n tc xs c1 c6 c6z hf hrow1 (by omega) hnn hap hown fun u g cap w3 happ => ?_
  simp only [tm73s]
  repeat (first | refine Walk.c rfl ?_ | refine Walk.cR ?_ | refine Walk.cRet ?_ | refine Walk.cEnd ?_ | (refine Walk.oq ?_; try walk_nrm) | (refine Walk.un ?_; walk_nrm))
  exact Walk.ret1 rfl rfl Try.func73 rfl fun d => ⟨congrArg (Value.int .i64) (wrap_ok _ (by omega) (by omega)), g, cap, w3, d, happ, rfl⟩
end
section
variable {main : Bool} {V : Nat → Option Wait}
theorem reckon_move (W : Nat) (cr ca cb cv next : Int) (x : Value) (y : Int) (w : World) (hc : w.cell? ⟨W, 2 + (cr % 4).toNat, none⟩ = some x) (hz : w.frozen? ⟨W, 2 + (cr % 4).toNat, none⟩ = false) (hf : Free V ⟨W, 2 + (cr % 4).toNat, none⟩) (hn : 0 ≤ next) (hn2 : next < 4611686018427387904) (hy : w.cell? ⟨W, 2 + (ca % 4).toNat, none⟩ = some (.int .i64 y)) :
    CallV Try.prog main V 73 #[.pointer (some ⟨W, 0, none⟩), codeV 2 cr ca cb cv, .int .i64 next] w (.int .i64 (next + 1)) ((boxW w 2 cr ca cb cv).setCell ⟨W, 2 + (cr % 4).toNat, none⟩ (.int .i64 y)) := by
  refine callW_in Try.func73 rfl fun fr cs => ?_
  refine head73 W 2 cr ca cb cv next (fr :: cs) w fun u e7 e8 e9 => ?_
  obtain ⟨b0, b1, b2, b3, b4⟩ := box_cells w 2 cr ca cb cv
  obtain ⟨c1, c2⟩ := box_reg 2 cr ca cb cv hc
  rw [hz] at c2
  have c3 := (box_reg 2 cr ca cb cv hy).1
  generalize boxW w 2 cr ca cb cv = w1 at *
  simp only [tm73, rest73, Try.f73]
  rw [e7, e8, e9]
  clear e7 e8 e9
  repeat (first | refine Walk.c rfl ?_ | refine Walk.cR ?_ | refine Walk.cRet ?_ | refine Walk.cEnd ?_ | (refine Walk.oq ?_; try walk_nrm) | (refine Walk.un ?_; walk_nrm))
  (refine Walk.os hf c1 ?_; try walk_nrm)
  repeat (first | refine Walk.c rfl ?_ | refine Walk.cR ?_ | refine Walk.cRet ?_ | refine Walk.cEnd ?_ | (refine Walk.oq ?_; try walk_nrm) | (refine Walk.un ?_; walk_nrm))
  exact Walk.ret1 rfl rfl Try.func73 rfl fun d => ⟨congrArg (Value.int .i64) (wrap_ok _ (by omega) (by omega)), d, rfl⟩
end
section
variable {main : Bool} {V : Nat → Option Wait}
noncomputable def code73e : Code := match body73 with | .seq _ (.cond _ _ (.seq _ (.cond _ _ (.seq _ (.cond _ _ (.seq _ (.cond _ c _))))))) => c | _ => .skip
noncomputable def reg73e : Array Oper := match code73e with | .seq (.region _ ops _) _ => ops | _ => #[]
theorem reg73e_walk {Stop : Goroutine → World → Prop} (W X : Nat) (c : Value) (cr ca cb next : Int) (k : List Item) (cs : List Frame) (u0 : Nat → Value) (w : World) (y z : Int) (hy : w.cell? ⟨W, 2 + (ca % 4).toNat, none⟩ = some (.int .i64 y)) (hz' : w.cell? ⟨W, 2 + (cb % 4).toNat, none⟩ = some (.int .i64 z))
    (hk : ∀ u : Nat → Value, u 56 = .bool (y == z) → Walk Try.prog main (DR V) Stop (G ((base 73).at ⟨tm73s W X c next cr ca cb u, []⟩ (.inRegion reg73e [] :: k)) cs) w) :
    Walk Try.prog main (DR V) Stop (G ((base 73).at ⟨tm73s W X c next cr ca cb u0, []⟩ (.code (.region 10 reg73e true) :: k)) cs) w := by
  refine Walk.drawnI (Inv := fun f a w' => ∃ u, a = ⟨tm73s W X c next cr ca cb u, []⟩ ∧ (∃ d, w' = w.at d) ∧ Facts [50, 51, 52, 53, 54, 55, 56] [.pointer (some ⟨W, 2 + (ca % 4).toNat, none⟩), .pointer (some ⟨W, 2 + (ca % 4).toNat, none⟩), .int .i64 y, .pointer (some ⟨W, 2 + (cb % 4).toNat, none⟩), .pointer (some ⟨W, 2 + (cb % 4).toNat, none⟩), .int .i64 z, .bool (y == z)] f u) (by kernel_rfl) (by kernel_rfl) (fun d => ⟨u0, rfl, ⟨d, rfl⟩, Facts.none _ _ _⟩) ?_ ?_
  · rintro f i o a w' ⟨u, rfl, ⟨d, rfl⟩, F⟩ hfi ho hdeps rest hr
    refine Walk.back ?_ d
    have hi : i < 7 := (Array.getElem?_eq_some_iff.1 ho).1
    match i, hi with
    | 0, _ =>
      clear hdeps hfi ho
      simp only [tm73s, reg73e, code73e, body73, rest73, Try.f73] at hr ⊢
      (refine Walk.oq ?_; try walk_nrm)
      refine hr _ _ ⟨upd u 50 (.pointer (some ⟨W, 2 + (ca % 4).toNat, none⟩)), ?_, ⟨w.drawn, rfl⟩, F.set (by decide) rfl rfl⟩
      simp [upd]
    | 1, _ =>
      have hd := deps_of (l := [0]) (by kernel_rfl) ho hdeps
      have e50 := F 0 50 _ (hd 0 (by simp)) rfl rfl
      clear hdeps hfi ho
      simp only [tm73s, reg73e, code73e, body73, rest73, Try.f73] at hr ⊢
      (refine Walk.oq ?_; try walk_nrm)
      refine hr _ _ ⟨upd u 51 (.pointer (some ⟨W, 2 + (ca % 4).toNat, none⟩)), ?_, ⟨w.drawn, rfl⟩, F.set (by decide) rfl rfl⟩
      simp [upd, e50]
    | 2, _ =>
      have hd := deps_of (l := [1]) (by kernel_rfl) ho hdeps
      have e51 := F 1 51 _ (hd 1 (by simp)) rfl rfl
      clear hdeps hfi ho
      simp only [tm73s, reg73e, code73e, body73, rest73, Try.f73] at hr ⊢
      (refine Walk.oq ?_; try walk_nrm)
      refine hr _ _ ⟨upd u 52 (.int .i64 y), ?_, ⟨w.drawn, rfl⟩, F.set (by decide) rfl rfl⟩
      simp [upd, e51]
    | 3, _ =>
      clear hdeps hfi ho
      simp only [tm73s, reg73e, code73e, body73, rest73, Try.f73] at hr ⊢
      (refine Walk.oq ?_; try walk_nrm)
      refine hr _ _ ⟨upd u 53 (.pointer (some ⟨W, 2 + (cb % 4).toNat, none⟩)), ?_, ⟨w.drawn, rfl⟩, F.set (by decide) rfl rfl⟩
      simp [upd]
    | 4, _ =>
      have hd := deps_of (l := [3]) (by kernel_rfl) ho hdeps
      have e53 := F 3 53 _ (hd 3 (by simp)) rfl rfl
      clear hdeps hfi ho
      simp only [tm73s, reg73e, code73e, body73, rest73, Try.f73] at hr ⊢
      (refine Walk.oq ?_; try walk_nrm)
      refine hr _ _ ⟨upd u 54 (.pointer (some ⟨W, 2 + (cb % 4).toNat, none⟩)), ?_, ⟨w.drawn, rfl⟩, F.set (by decide) rfl rfl⟩
      simp [upd, e53]
    | 5, _ =>
      have hd := deps_of (l := [4]) (by kernel_rfl) ho hdeps
      have e54 := F 4 54 _ (hd 4 (by simp)) rfl rfl
      clear hdeps hfi ho
      simp only [tm73s, reg73e, code73e, body73, rest73, Try.f73] at hr ⊢
      (refine Walk.oq ?_; try walk_nrm)
      refine hr _ _ ⟨upd u 55 (.int .i64 z), ?_, ⟨w.drawn, rfl⟩, F.set (by decide) rfl rfl⟩
      simp [upd, e54]
    | 6, _ =>
      have hd := deps_of (l := [2, 5]) (by kernel_rfl) ho hdeps
      have e52 := F 2 52 _ (hd 2 (by simp)) rfl rfl
      have e55 := F 5 55 _ (hd 5 (by simp)) rfl rfl
      clear hdeps hfi ho
      simp only [tm73s, reg73e, code73e, body73, rest73, Try.f73] at hr ⊢
      (refine Walk.oq ?_; try walk_nrm)
      refine hr _ _ ⟨upd u 56 (.bool (y == z)), ?_, ⟨w.drawn, rfl⟩, F.set (by decide) rfl rfl⟩
      simp [upd, e52, e55]
  · rintro f a w' ⟨u, rfl, ⟨d, rfl⟩, F⟩ hall
    have hsz : reg73e.size = 7 := by kernel_rfl
    exact (hk u (F 6 56 _ (hall 6 (by rw [hsz]; omega)) rfl rfl)).back d
theorem reckon_equal (W : Nat) (cr ca cb cv next : Int) (y z : Int) (w : World) (hn : 0 ≤ next) (hn2 : next < 4611686018427387904) (hy : w.cell? ⟨W, 2 + (ca % 4).toNat, none⟩ = some (.int .i64 y)) (hz' : w.cell? ⟨W, 2 + (cb % 4).toNat, none⟩ = some (.int .i64 z)) :
    CallV Try.prog main V 73 #[.pointer (some ⟨W, 0, none⟩), codeV 4 cr ca cb cv, .int .i64 next] w (.int .i64 (if y = z then cv else next + 1)) (boxW w 4 cr ca cb cv) := by
  refine callW_in Try.func73 rfl fun fr cs => ?_
  refine head73 W 4 cr ca cb cv next (fr :: cs) w fun u e7 e8 e9 => ?_
  obtain ⟨b0, b1, b2, b3, b4⟩ := box_cells w 4 cr ca cb cv
  have c3 := (box_reg 4 cr ca cb cv hy).1
  have c4 := (box_reg 4 cr ca cb cv hz').1
  generalize boxW w 4 cr ca cb cv = w1 at *
  simp only [tm73, rest73, Try.f73]
  rw [e7, e8, e9]
  clear e7 e8 e9
  repeat (first | refine Walk.c rfl ?_ | refine Walk.cR ?_ | refine Walk.cRet ?_ | refine Walk.cEnd ?_ | (refine Walk.oq ?_; try walk_nrm) | (refine Walk.un ?_; walk_nrm))
  refine reg73e_walk W w.heap.size (codeV 4 cr ca cb cv) cr ca cb next _ _ (fun k => ([undef, undef, undef, undef, undef, undef, undef, undef, undef, undef, u 10, u 11, u 12, u 13, u 14, u 15, u 16, u 17, u 18, u 19, u 20, u 21, .pointer (some ⟨w.heap.size, 0, none⟩), .int .i64 4, .bool false, .bool false, u 26, u 27, u 28, u 29, .bool false, .bool false, u 32, u 33, u 34, u 35, u 36, .bool false, .bool false, u 39, u 40, u 41, u 42, u 43, u 44, u 45, u 46, u 47, .bool true, .bool true, u 50, u 51, u 52, u 53, u 54, u 55, u 56, u 57, u 58, u 59, u 60, u 61, u 62, u 63, u 64, u 65, u 66, u 67, u 68, u 69, u 70, u 71, u 72, u 73, u 74, u 75, u 76, u 77, u 78, u 79, u 80, u 81, u 82, u 83, u 84, u 85, u 86] : List Value).getD k undef) w1 y z c3 c4 fun u e => ?_
  simp only [tm73s]
  rw [e]
  clear e
  by_cases hyz : y = z
  · have d1 : decide (y = z) = true := decide_eq_true hyz
    rw [if_pos hyz]
    have d2 : (y == z) = true := by simpa using hyz
    try rw [d2]
    try rw [d1]
    repeat (first | refine Walk.c rfl ?_ | refine Walk.cR ?_ | refine Walk.cRet ?_ | refine Walk.cEnd ?_ | (refine Walk.oq ?_; try walk_nrm) | (refine Walk.un ?_; walk_nrm))
    exact Walk.ret1 rfl rfl Try.func73 rfl fun d => ⟨rfl, d, rfl⟩
  · have d1 : decide (y = z) = false := decide_eq_false hyz
    rw [if_neg hyz]
    have d2 : (y == z) = false := by simpa using hyz
    try rw [d2]
    try rw [d1]
    repeat (first | refine Walk.c rfl ?_ | refine Walk.cR ?_ | refine Walk.cRet ?_ | refine Walk.cEnd ?_ | (refine Walk.oq ?_; try walk_nrm) | (refine Walk.un ?_; walk_nrm))
    exact Walk.ret1 rfl rfl Try.func73 rfl fun d => ⟨congrArg (Value.int .i64) (wrap_ok _ (by omega) (by omega)), d, rfl⟩
end
section
variable {main : Bool} {V : Nat → Option Wait}
noncomputable def code73l : Code := match body73 with | .seq _ (.cond _ _ (.seq _ (.cond _ _ (.seq _ (.cond _ _ (.seq _ (.cond _ _ (.seq _ (.cond _ c _))))))))) => c | _ => .skip
noncomputable def reg73l : Array Oper := match code73l with | .seq (.region _ ops _) _ => ops | _ => #[]
theorem reg73l_walk {Stop : Goroutine → World → Prop} (W X : Nat) (c : Value) (cr ca cb next : Int) (k : List Item) (cs : List Frame) (u0 : Nat → Value) (w : World) (y z : Int) (hy : w.cell? ⟨W, 2 + (ca % 4).toNat, none⟩ = some (.int .i64 y)) (hz' : w.cell? ⟨W, 2 + (cb % 4).toNat, none⟩ = some (.int .i64 z))
    (hk : ∀ u : Nat → Value, u 67 = .bool (decide (y < z)) → Walk Try.prog main (DR V) Stop (G ((base 73).at ⟨tm73s W X c next cr ca cb u, []⟩ (.inRegion reg73l [] :: k)) cs) w) :
    Walk Try.prog main (DR V) Stop (G ((base 73).at ⟨tm73s W X c next cr ca cb u0, []⟩ (.code (.region 13 reg73l true) :: k)) cs) w := by
  refine Walk.drawnI (Inv := fun f a w' => ∃ u, a = ⟨tm73s W X c next cr ca cb u, []⟩ ∧ (∃ d, w' = w.at d) ∧ Facts [61, 62, 63, 64, 65, 66, 67] [.pointer (some ⟨W, 2 + (ca % 4).toNat, none⟩), .pointer (some ⟨W, 2 + (ca % 4).toNat, none⟩), .int .i64 y, .pointer (some ⟨W, 2 + (cb % 4).toNat, none⟩), .pointer (some ⟨W, 2 + (cb % 4).toNat, none⟩), .int .i64 z, .bool (decide (y < z))] f u) (by kernel_rfl) (by kernel_rfl) (fun d => ⟨u0, rfl, ⟨d, rfl⟩, Facts.none _ _ _⟩) ?_ ?_
  · rintro f i o a w' ⟨u, rfl, ⟨d, rfl⟩, F⟩ hfi ho hdeps rest hr
    refine Walk.back ?_ d
    have hi : i < 7 := (Array.getElem?_eq_some_iff.1 ho).1
    match i, hi with
    | 0, _ =>
      clear hdeps hfi ho
      simp only [tm73s, reg73l, code73l, body73, rest73, Try.f73] at hr ⊢
      (refine Walk.oq ?_; try walk_nrm)
      refine hr _ _ ⟨upd u 61 (.pointer (some ⟨W, 2 + (ca % 4).toNat, none⟩)), ?_, ⟨w.drawn, rfl⟩, F.set (by decide) rfl rfl⟩
      simp [upd]
    | 1, _ =>
      have hd := deps_of (l := [0]) (by kernel_rfl) ho hdeps
      have e61 := F 0 61 _ (hd 0 (by simp)) rfl rfl
      clear hdeps hfi ho
      simp only [tm73s, reg73l, code73l, body73, rest73, Try.f73] at hr ⊢
      (refine Walk.oq ?_; try walk_nrm)
      refine hr _ _ ⟨upd u 62 (.pointer (some ⟨W, 2 + (ca % 4).toNat, none⟩)), ?_, ⟨w.drawn, rfl⟩, F.set (by decide) rfl rfl⟩
      simp [upd, e61]
    | 2, _ =>
      have hd := deps_of (l := [1]) (by kernel_rfl) ho hdeps
      have e62 := F 1 62 _ (hd 1 (by simp)) rfl rfl
      clear hdeps hfi ho
      simp only [tm73s, reg73l, code73l, body73, rest73, Try.f73] at hr ⊢
      (refine Walk.oq ?_; try walk_nrm)
      refine hr _ _ ⟨upd u 63 (.int .i64 y), ?_, ⟨w.drawn, rfl⟩, F.set (by decide) rfl rfl⟩
      simp [upd, e62]
    | 3, _ =>
      clear hdeps hfi ho
      simp only [tm73s, reg73l, code73l, body73, rest73, Try.f73] at hr ⊢
      (refine Walk.oq ?_; try walk_nrm)
      refine hr _ _ ⟨upd u 64 (.pointer (some ⟨W, 2 + (cb % 4).toNat, none⟩)), ?_, ⟨w.drawn, rfl⟩, F.set (by decide) rfl rfl⟩
      simp [upd]
    | 4, _ =>
      have hd := deps_of (l := [3]) (by kernel_rfl) ho hdeps
      have e64 := F 3 64 _ (hd 3 (by simp)) rfl rfl
      clear hdeps hfi ho
      simp only [tm73s, reg73l, code73l, body73, rest73, Try.f73] at hr ⊢
      (refine Walk.oq ?_; try walk_nrm)
      refine hr _ _ ⟨upd u 65 (.pointer (some ⟨W, 2 + (cb % 4).toNat, none⟩)), ?_, ⟨w.drawn, rfl⟩, F.set (by decide) rfl rfl⟩
      simp [upd, e64]
    | 5, _ =>
      have hd := deps_of (l := [4]) (by kernel_rfl) ho hdeps
      have e65 := F 4 65 _ (hd 4 (by simp)) rfl rfl
      clear hdeps hfi ho
      simp only [tm73s, reg73l, code73l, body73, rest73, Try.f73] at hr ⊢
      (refine Walk.oq ?_; try walk_nrm)
      refine hr _ _ ⟨upd u 66 (.int .i64 z), ?_, ⟨w.drawn, rfl⟩, F.set (by decide) rfl rfl⟩
      simp [upd, e65]
    | 6, _ =>
      have hd := deps_of (l := [2, 5]) (by kernel_rfl) ho hdeps
      have e63 := F 2 63 _ (hd 2 (by simp)) rfl rfl
      have e66 := F 5 66 _ (hd 5 (by simp)) rfl rfl
      clear hdeps hfi ho
      simp only [tm73s, reg73l, code73l, body73, rest73, Try.f73] at hr ⊢
      (refine Walk.oq ?_; try walk_nrm)
      refine hr _ _ ⟨upd u 67 (.bool (decide (y < z))), ?_, ⟨w.drawn, rfl⟩, F.set (by decide) rfl rfl⟩
      simp [upd, e63, e66]
  · rintro f a w' ⟨u, rfl, ⟨d, rfl⟩, F⟩ hall
    have hsz : reg73l.size = 7 := by kernel_rfl
    exact (hk u (F 6 67 _ (hall 6 (by rw [hsz]; omega)) rfl rfl)).back d
theorem reckon_less (W : Nat) (cr ca cb cv next : Int) (y z : Int) (w : World) (hn : 0 ≤ next) (hn2 : next < 4611686018427387904) (hy : w.cell? ⟨W, 2 + (ca % 4).toNat, none⟩ = some (.int .i64 y)) (hz' : w.cell? ⟨W, 2 + (cb % 4).toNat, none⟩ = some (.int .i64 z)) :
    CallV Try.prog main V 73 #[.pointer (some ⟨W, 0, none⟩), codeV 5 cr ca cb cv, .int .i64 next] w (.int .i64 (if y < z then cv else next + 1)) (boxW w 5 cr ca cb cv) := by
  refine callW_in Try.func73 rfl fun fr cs => ?_
  refine head73 W 5 cr ca cb cv next (fr :: cs) w fun u e7 e8 e9 => ?_
  obtain ⟨b0, b1, b2, b3, b4⟩ := box_cells w 5 cr ca cb cv
  have c3 := (box_reg 5 cr ca cb cv hy).1
  have c4 := (box_reg 5 cr ca cb cv hz').1
  generalize boxW w 5 cr ca cb cv = w1 at *
  simp only [tm73, rest73, Try.f73]
  rw [e7, e8, e9]
  clear e7 e8 e9
  repeat (first | refine Walk.c rfl ?_ | refine Walk.cR ?_ | refine Walk.cRet ?_ | refine Walk.cEnd ?_ | (refine Walk.oq ?_; try walk_nrm) | (refine Walk.un ?_; walk_nrm))
  refine reg73l_walk W w.heap.size (codeV 5 cr ca cb cv) cr ca cb next _ _ (fun k => ([undef, undef, undef, undef, undef, undef, undef, undef, undef, undef, u 10, u 11, u 12, u 13, u 14, u 15, u 16, u 17, u 18, u 19, u 20, u 21, .pointer (some ⟨w.heap.size, 0, none⟩), .int .i64 5, .bool false, .bool false, u 26, u 27, u 28, u 29, .bool false, .bool false, u 32, u 33, u 34, u 35, u 36, .bool false, .bool false, u 39, u 40, u 41, u 42, u 43, u 44, u 45, u 46, u 47, .bool false, .bool false, u 50, u 51, u 52, u 53, u 54, u 55, u 56, u 57, u 58, .bool true, .bool true, u 61, u 62, u 63, u 64, u 65, u 66, u 67, u 68, u 69, u 70, u 71, u 72, u 73, u 74, u 75, u 76, u 77, u 78, u 79, u 80, u 81, u 82, u 83, u 84, u 85, u 86] : List Value).getD k undef) w1 y z c3 c4 fun u e => ?_
  simp only [tm73s]
  rw [e]
  clear e
  by_cases hyz : y < z
  · have d1 : decide (y < z) = true := decide_eq_true hyz
    rw [if_pos hyz]
    rw [d1]
    repeat (first | refine Walk.c rfl ?_ | refine Walk.cR ?_ | refine Walk.cRet ?_ | refine Walk.cEnd ?_ | (refine Walk.oq ?_; try walk_nrm) | (refine Walk.un ?_; walk_nrm))
    exact Walk.ret1 rfl rfl Try.func73 rfl fun d => ⟨rfl, d, rfl⟩
  · have d1 : decide (y < z) = false := decide_eq_false hyz
    rw [if_neg hyz]
    rw [d1]
    repeat (first | refine Walk.c rfl ?_ | refine Walk.cR ?_ | refine Walk.cRet ?_ | refine Walk.cEnd ?_ | (refine Walk.oq ?_; try walk_nrm) | (refine Walk.un ?_; walk_nrm))
    exact Walk.ret1 rfl rfl Try.func73 rfl fun d => ⟨congrArg (Value.int .i64) (wrap_ok _ (by omega) (by omega)), d, rfl⟩
end
section
variable {main : Bool} {V : Nat → Option Wait}
theorem reckon_none (W : Nat) (cd cr ca cb cv next : Int) (w : World) (hn : 0 ≤ next) (hn2 : next < 4611686018427387904) (k1 : cd ≠ 1) (k2 : cd ≠ 2) (k3 : cd ≠ 3) (k4 : cd ≠ 4) (k5 : cd ≠ 5) (k6 : cd ≠ 6) :
    CallV Try.prog main V 73 #[.pointer (some ⟨W, 0, none⟩), codeV cd cr ca cb cv, .int .i64 next] w (.int .i64 (next + 1)) (boxW w cd cr ca cb cv) := by
  refine callW_in Try.func73 rfl fun fr cs => ?_
  refine head73 W cd cr ca cb cv next (fr :: cs) w fun u e7 e8 e9 => ?_
  obtain ⟨b0, b1, b2, b3, b4⟩ := box_cells w cd cr ca cb cv
  have j1 : (cd == 1) = false := by simpa using k1
  have j2 : (cd == 2) = false := by simpa using k2
  have j3 : (cd == 3) = false := by simpa using k3
  have j4 : (cd == 4) = false := by simpa using k4
  have j5 : (cd == 5) = false := by simpa using k5
  have j6 : (cd == 6) = false := by simpa using k6
  have i1 : decide (cd = 1) = false := decide_eq_false k1
  have i2 : decide (cd = 2) = false := decide_eq_false k2
  have i3 : decide (cd = 3) = false := decide_eq_false k3
  have i4 : decide (cd = 4) = false := decide_eq_false k4
  have i5 : decide (cd = 5) = false := decide_eq_false k5
  have i6 : decide (cd = 6) = false := decide_eq_false k6
  generalize boxW w cd cr ca cb cv = w1 at *
  simp only [tm73, rest73, Try.f73]
  rw [e7, e8, e9]
  clear e7 e8 e9
  repeat (first | refine Walk.c rfl ?_ | refine Walk.cR ?_ | refine Walk.cRet ?_ | refine Walk.cEnd ?_ | (refine Walk.oq ?_; try walk_nrm) | (refine Walk.un ?_; walk_nrm))
  exact Walk.ret1 rfl rfl Try.func73 rfl fun d => ⟨congrArg (Value.int .i64) (wrap_ok _ (by omega) (by omega)), d, rfl⟩
end
section
structure Cd where
  d : Int
  r : Int
  a : Int
  b : Int
  v : Int
structure Th where
  pc : Int
  regs : Nat → Int
  told : List Int
def regN (n : Int) : Nat := (n % 4).toNat
theorem regN_lt (n : Int) : regN n < 4 := by unfold regN; omega
def reckonX (c : Cd) (t : Th) : Th :=
  if c.d = 1 then { t with regs := upd t.regs (regN c.r) c.v, pc := t.pc + 1 }
  else if c.d = 2 then { t with regs := upd t.regs (regN c.r) (t.regs (regN c.a)), pc := t.pc + 1 }
  else if c.d = 3 then { t with regs := upd t.regs (regN c.r) (IntKind.i64.wrap (t.regs (regN c.a) + t.regs (regN c.b))), pc := t.pc + 1 }
  else if c.d = 4 then { t with pc := if t.regs (regN c.a) = t.regs (regN c.b) then c.v else t.pc + 1 }
  else if c.d = 5 then { t with pc := if t.regs (regN c.a) < t.regs (regN c.b) then c.v else t.pc + 1 }
  else if c.d = 6 then { t with told := t.told ++ [t.regs (regN c.r)], pc := t.pc + 1 }
  else { t with pc := t.pc + 1 }
def wkArr (sv cv : Value) (R : Nat → Int) (tv : Value) : Array Value := #[sv, cv, .int .i64 (R 0), .int .i64 (R 1), .int .i64 (R 2), .int .i64 (R 3), tv]
theorem wk_get (sv cv : Value) (R : Nat → Int) (tv : Value) {k : Nat} (hk : k < 4) : (wkArr sv cv R tv)[2 + k]? = some (.int .i64 (R k)) := by
  match k, hk with
  | 0, _ => rfl
  | 1, _ => rfl
  | 2, _ => rfl
  | 3, _ => rfl
theorem wk_set (sv cv : Value) (R : Nat → Int) (tv : Value) {k : Nat} (hk : k < 4) (v : Int) : (wkArr sv cv R tv).setIfInBounds (2 + k) (.int .i64 v) = wkArr sv cv (upd R k v) tv := by
  match k, hk with
  | 0, _ => simp [wkArr, upd]
  | 1, _ => simp [wkArr, upd]
  | 2, _ => simp [wkArr, upd]
  | 3, _ => simp [wkArr, upd]
theorem wk_told (sv cv : Value) (R : Nat → Int) (tv tv' : Value) : (wkArr sv cv R tv).setIfInBounds 6 tv' = wkArr sv cv R tv' := by simp [wkArr]
def ansCells (l : List Int) : List Value := l.flatMap fun n => [.bool true, .int .i64 n, .slice none 0 0]
theorem ansCells_snoc (l : List Int) (n : Int) : ansCells (l ++ [n]) = ansCells l ++ [.bool true, .int .i64 n, .slice none 0 0] := by simp [ansCells]
structure WkIs (W : Nat) (sv cv : Value) (t : Th) (ta : Option Addr) (tc : Nat) (w : World) : Prop where
  blk : w.heap[W]? = some (.cells (wkArr sv cv t.regs (.slice ta t.told.length tc)) 156)
  row : w.ownsRow 0 38 3 (.slice ta t.told.length tc) t.told.length (ansCells t.told)
  own : (Value.slice ta t.told.length tc).ownBlock ≠ some W
section
variable {main : Bool} {V : Nat → Option Wait} {W : Nat} {sv cv : Value} {t : Th} {ta : Option Addr} {tc : Nat} {w : World}
theorem WkIs.reg (H : WkIs W sv cv t ta tc w) (n : Int) : w.cell? ⟨W, 2 + (n % 4).toNat, none⟩ = some (.int .i64 (t.regs (regN n))) := (cell_of H.blk _).trans (wk_get sv cv _ _ (regN_lt n))
theorem WkIs.regz (H : WkIs W sv cv t ta tc w) (i : Nat) : w.frozen? ⟨W, i, none⟩ = false := frozen_of H.blk i
theorem WkIs.told (H : WkIs W sv cv t ta tc w) : w.cell? ⟨W, 6, none⟩ = some (.slice ta t.told.length tc) := (cell_of H.blk 6).trans rfl
theorem WkIs.lt (H : WkIs W sv cv t ta tc w) : W < w.heap.size := (Array.getElem?_eq_some_iff.1 H.blk).1
structure Reck (W : Nat) (sv cv : Value) (t' : Th) (ta : Option Addr) (n tc : Nat) (w w' : World) : Prop where
  is : ∃ ta' tc', WkIs W sv cv t' ta' tc' w' ∧ ∀ g, (Value.slice ta' t'.told.length tc').ownBlock = some g → (Value.slice ta n tc).ownBlock = some g ∨ w.heap.size ≤ g
  size : w.heap.size ≤ w'.heap.size
  same : ∀ b, b < w.heap.size → b ≠ W → (Value.slice ta n tc).ownBlock ≠ some b → w'.heap[b]? = w.heap[b]?
theorem Reck.at {t' : Th} {n : Nat} {w' : World} (H : Reck W sv cv t' ta n tc w w') (d : Nat) : Reck W sv cv t' ta n tc w (w'.at d) := by
  obtain ⟨ta', tc', h, hg⟩ := H.is
  exact ⟨⟨ta', tc', ⟨h.blk, h.row, h.own⟩, hg⟩, H.size, H.same⟩
theorem Reck.set (H : WkIs W sv cv t ta tc w) (cd cr ca cb cvv : Int) (n x : Int) {pc : Int} : Reck W sv cv { t with regs := upd t.regs (regN n) x, pc := pc } ta t.told.length tc w ((boxW w cd cr ca cb cvv).setCell ⟨W, 2 + (n % 4).toNat, none⟩ (.int .i64 x)) := by
  have hb : (boxW w cd cr ca cb cvv).heap[W]? = some (.cells (wkArr sv cv t.regs (.slice ta t.told.length tc)) 156) := (heap_new_lt w _ H.lt).trans H.blk
  have hsz : (boxW w cd cr ca cb cvv).heap.size = w.heap.size + 1 := by simp [boxW]
  refine ⟨⟨ta, tc, ⟨?_, row_same H.row fun g hg => ?_, H.own⟩, fun g hg => .inl hg⟩, by rw [size_set]; omega, fun b hb' hne _ => ?_⟩
  · rw [heap_set_self _ _ hb]
    exact congrArg (fun a => some (Obj.cells a 156)) (wk_set sv cv t.regs _ (regN_lt n) x)
  · have hne : g ≠ W := fun e => H.own (by rw [hg, e])
    rw [heap_set_other _ _ _ _ hne]
    exact heap_new_lt w _ (H.row.lt g hg).2
  · rw [heap_set_other _ _ _ _ hne]
    exact heap_new_lt w _ hb'
theorem Reck.box (H : WkIs W sv cv t ta tc w) (cd cr ca cb cvv : Int) {pc : Int} : Reck W sv cv { t with pc := pc } ta t.told.length tc w (boxW w cd cr ca cb cvv) := by
  have hsz : (boxW w cd cr ca cb cvv).heap.size = w.heap.size + 1 := by simp [boxW]
  refine ⟨⟨ta, tc, ⟨(heap_new_lt w _ H.lt).trans H.blk, row_same H.row fun g hg => heap_new_lt w _ (H.row.lt g hg).2, H.own⟩, fun g hg => .inl hg⟩, by omega, fun b hb' _ _ => heap_new_lt w _ hb'⟩
theorem Reck.tell (H : WkIs W sv cv t ta tc w) (cd cr ca cb cvv : Int) {y : Int} {g cap : Nat} {w3 : World} {pc : Int} (hA : App 0 (boxW w cd cr ca cb cvv) y ta t.told.length tc (ansCells t.told) g cap w3) :
    Reck W sv cv { t with told := t.told ++ [y], pc := pc } ta t.told.length tc w (w3.setCell ⟨W, 6, none⟩ (.slice (some ⟨g, 0, none⟩) (t.told.length + 1) cap)) := by
  have hsz : (boxW w cd cr ca cb cvv).heap.size = w.heap.size + 1 := by simp [boxW]
  have hsa : (ansW (boxW w cd cr ca cb cvv) y).heap.size = w.heap.size + 2 := by simp [ansW, boxW]
  have hold : ∀ b, b < w.heap.size → (Value.slice ta t.told.length tc).ownBlock ≠ some b → w3.heap[b]? = w.heap[b]? := fun b hb hne =>
    (hA.grown.block b (by omega) (fun e => hne e.symm)).trans ((heap_new_lt _ _ (by omega)).trans (heap_new_lt w _ hb))
  have hW : w3.heap[W]? = some (.cells (wkArr sv cv t.regs (.slice ta t.told.length tc)) 156) := (hold W H.lt H.own).trans H.blk
  have hgW : g ≠ W := fun e => by
    rcases hA.hat with h | h
    · exact H.own (by rw [h, e])
    · have := H.lt; omega
  have hlen : (t.told ++ [y]).length = t.told.length + 1 := by simp
  refine ⟨⟨some ⟨g, 0, none⟩, cap, ⟨?_, ?_, ?_⟩, fun g' hg' => ?_⟩, ?_, fun b hb hne hno => ?_⟩
  · rw [heap_set_self _ _ hW, wk_told]
    simp only [hlen]
  · simp only [hlen]
    rw [ansCells_snoc]
    exact row_same hA.own fun g' hg' => by
      simp only [Value.ownBlock, Option.some.injEq] at hg'
      exact heap_set_other _ _ _ _ (by rw [← hg']; exact hgW)
  · simp [Value.ownBlock, hgW]
  · simp only [Value.ownBlock, Option.some.injEq] at hg'
    subst hg'
    rcases hA.hat with h | h
    · exact .inl h
    · exact .inr (by omega)
  · have := hA.grown.size
    rw [size_set]; omega
  · rw [heap_set_other _ _ _ _ hne]
    exact hold b hb hno
theorem reckon_any (c : Cd) (next : Int) (H : WkIs W sv cv t ta tc w) (hpc : t.pc = next) (hn : 0 ≤ next) (hn2 : next < 4611686018427387904) (hlen : t.told.length < 1099511627776) (hF : ∀ i, Free V ⟨W, i, none⟩) (hap : ∀ g, (Value.slice ta t.told.length tc).ownBlock = some g → Apart V g) :
    CallW Try.prog main V 73 #[.pointer (some ⟨W, 0, none⟩), codeV c.d c.r c.a c.b c.v, .int .i64 next] w (fun v w' => v = .int .i64 (reckonX c t).pc ∧ Reck W sv cv (reckonX c t) ta t.told.length tc w w') := by
  subst hpc
  have fromV : ∀ {x : Int} {w1 : World} {t' : Th}, CallV Try.prog main V 73 #[.pointer (some ⟨W, 0, none⟩), codeV c.d c.r c.a c.b c.v, .int .i64 t.pc] w (.int .i64 x) w1 → t'.pc = x → Reck W sv cv t' ta t.told.length tc w w1 →
      CallW Try.prog main V 73 #[.pointer (some ⟨W, 0, none⟩), codeV c.d c.r c.a c.b c.v, .int .i64 t.pc] w (fun v w' => v = .int .i64 t'.pc ∧ Reck W sv cv t' ta t.told.length tc w w') := fun h hx hR fr cs =>
    (h fr cs).mono fun g w' ⟨v, ⟨hv, d, hw⟩, hg⟩ => ⟨v, ⟨by rw [hv, hx], by rw [hw]; exact hR.at d⟩, hg⟩
  obtain ⟨cd, cr, ca, cb, cvv⟩ := c
  unfold reckonX
  by_cases h1 : cd = 1
  · subst h1
    exact fromV (reckon_set W cr ca cb cvv t.pc _ w (H.reg cr) (H.regz _) (hF _) hn hn2) rfl (Reck.set H 1 cr ca cb cvv cr cvv)
  by_cases h2 : cd = 2
  · subst h2
    exact fromV (reckon_move W cr ca cb cvv t.pc _ _ w (H.reg cr) (H.regz _) (hF _) hn hn2 (H.reg ca)) rfl (Reck.set H 2 cr ca cb cvv cr _)
  by_cases h3 : cd = 3
  · subst h3
    exact fromV (reckon_sum W cr ca cb cvv t.pc _ _ _ w (H.reg cr) (H.regz _) (hF _) hn hn2 (H.reg ca) (H.reg cb)) rfl (Reck.set H 3 cr ca cb cvv cr _)
  by_cases h4 : cd = 4
  · subst h4
    exact fromV (reckon_equal W cr ca cb cvv t.pc _ _ w hn hn2 (H.reg ca) (H.reg cb)) rfl (Reck.box H 4 cr ca cb cvv)
  by_cases h5 : cd = 5
  · subst h5
    exact fromV (reckon_less W cr ca cb cvv t.pc _ _ w hn hn2 (H.reg ca) (H.reg cb)) rfl (Reck.box H 5 cr ca cb cvv)
  by_cases h6 : cd = 6
  · subst h6
    intro fr cs
    refine ((reckon_tell W 0 cr ca cb cvv t.pc _ ta t.told.length tc (ansCells t.told) w hn hn2 (H.reg cr) H.told (H.regz _) (hF _) H.row (Nat.zero_le _) hlen hap H.own) fr cs).mono fun g w' hh => ?_
    obtain ⟨v, ⟨hv, gg, cap, w3, d, hA, hw⟩, hg⟩ := hh
    exact ⟨v, ⟨hv, by rw [hw]; exact (Reck.tell H 6 cr ca cb cvv hA).at d⟩, hg⟩
  simp only [h1, h2, h3, h4, h5, h6, if_false]
  exact fromV (reckon_none W cd cr ca cb cvv t.pc w hn hn2 h1 h2 h3 h4 h5 h6) rfl (Reck.box H cd cr ca cb cvv)
end
end
section
variable {main : Bool} {V : Nat → Option Wait}
noncomputable def reg72 : Array Oper := match Try.f72.body with | some (.seq _ (.seq (.region _ ops _) _)) => ops | _ => #[]
noncomputable def rest72 : Code := match Try.f72.body with | some (.seq _ (.seq _ c)) => c | _ => .skip
def tm72 (W X : Nat) (c : Value) (u : Nat → Value) : Array Value := #[.pointer (some ⟨W, 0, none⟩), c, undef, .pointer (some ⟨X, 0, none⟩), u 4, u 5, u 6, u 7, u 8, u 9, u 10, u 11, u 12, u 13, u 14, u 15, u 16, u 17, u 18, u 19, u 20, u 21, u 22, u 23, u 24, u 25, u 26, u 27, u 28, u 29, u 30, u 31, u 32, u 33, u 34, u 35, u 36, u 37, u 38, u 39, u 40, u 41, u 42, u 43, u 44, u 45, u 46, u 47, u 48, u 49, u 50, u 51, u 52, u 53, u 54, u 55, u 56, u 57, u 58, u 59, u 60, u 61, u 62, u 63, u 64, u 65, u 66]
theorem reg72_walk {Stop : Goroutine → World → Prop} (W X : Nat) (c : Value) (cr : Int) (sw len cap ca : Nat) (k : List Item) (cs : List Frame) (u0 : Nat → Value) (w : World) (h0 : w.cell? ⟨W, 0, none⟩ = some (.slice (some ⟨sw, 0, none⟩) len cap)) (hlt : ca < len) (h1 : w.cell? ⟨X, 1, none⟩ = some (.int .i64 cr)) (h2 : w.cell? ⟨X, 2, none⟩ = some (.int .i64 ca))
    (hk : ∀ u : Nat → Value, u 4 = .pointer (some ⟨sw, ca, none⟩) → u 5 = .pointer (some ⟨W, 2 + (cr % 4).toNat, none⟩) → Walk Try.prog main (DR V) Stop (G ((base 72).at ⟨tm72 W X c u, []⟩ (.inRegion reg72 [] :: k)) cs) w) :
    Walk Try.prog main (DR V) Stop (G ((base 72).at ⟨tm72 W X c u0, []⟩ (.code (.region 1 reg72 true) :: k)) cs) w := by
  refine Walk.drawnI (Inv := fun f a w' => ∃ u, a = ⟨tm72 W X c u, []⟩ ∧ (∃ d, w' = w.at d) ∧ Facts [7, 8, 9, 10, 11, 12, 13, 14, 15, 16, 17, 4, 5] [.pointer (some ⟨W, 0, none⟩), .pointer (some ⟨W, 0, none⟩), .pointer (some ⟨W, 0, none⟩), .slice (some ⟨sw, 0, none⟩) len cap, .pointer (some ⟨X, 2, none⟩), .int .i64 ca, .pointer (some ⟨sw, ca, none⟩), .pointer (some ⟨W, 0, none⟩), .pointer (some ⟨X, 1, none⟩), .int .i64 cr, .pointer (some ⟨W, 2 + (cr % 4).toNat, none⟩), .pointer (some ⟨sw, ca, none⟩), .pointer (some ⟨W, 2 + (cr % 4).toNat, none⟩)] f u) (by kernel_rfl) (by kernel_rfl) (fun d => ⟨u0, rfl, ⟨d, rfl⟩, Facts.none _ _ _⟩) ?_ ?_
  · rintro f i o a w' ⟨u, rfl, ⟨d, rfl⟩, F⟩ hfi ho hdeps rest hr
    refine Walk.back ?_ d
    have hi : i < 13 := (Array.getElem?_eq_some_iff.1 ho).1
    match i, hi with
    | 0, _ =>
      clear hdeps hfi ho
      simp only [tm72, reg72, Try.f72] at hr ⊢
      (refine Walk.oq ?_; try walk_nrm)
      refine hr _ _ ⟨upd u 7 (.pointer (some ⟨W, 0, none⟩)), ?_, ⟨w.drawn, rfl⟩, F.set (by decide) rfl rfl⟩
      simp [upd]
    | 1, _ =>
      have hd := deps_of (l := [0]) (by kernel_rfl) ho hdeps
      have e7 := F 0 7 _ (hd 0 (by simp)) rfl rfl
      clear hdeps hfi ho
      simp only [tm72, reg72, Try.f72] at hr ⊢
      (refine Walk.oq ?_; try walk_nrm)
      refine hr _ _ ⟨upd u 8 (.pointer (some ⟨W, 0, none⟩)), ?_, ⟨w.drawn, rfl⟩, F.set (by decide) rfl rfl⟩
      simp [upd, e7]
    | 2, _ =>
      have hd := deps_of (l := [1]) (by kernel_rfl) ho hdeps
      have e8 := F 1 8 _ (hd 1 (by simp)) rfl rfl
      clear hdeps hfi ho
      simp only [tm72, reg72, Try.f72] at hr ⊢
      (refine Walk.oq ?_; try walk_nrm)
      refine hr _ _ ⟨upd u 9 (.pointer (some ⟨W, 0, none⟩)), ?_, ⟨w.drawn, rfl⟩, F.set (by decide) rfl rfl⟩
      simp [upd, e8]
    | 3, _ =>
      have hd := deps_of (l := [2]) (by kernel_rfl) ho hdeps
      have e9 := F 2 9 _ (hd 2 (by simp)) rfl rfl
      clear hdeps hfi ho
      simp only [tm72, reg72, Try.f72] at hr ⊢
      (refine Walk.oq ?_; try walk_nrm)
      refine hr _ _ ⟨upd u 10 (.slice (some ⟨sw, 0, none⟩) len cap), ?_, ⟨w.drawn, rfl⟩, F.set (by decide) rfl rfl⟩
      simp [upd, e9]
    | 4, _ =>
      clear hdeps hfi ho
      simp only [tm72, reg72, Try.f72] at hr ⊢
      (refine Walk.oq ?_; try walk_nrm)
      refine hr _ _ ⟨upd u 11 (.pointer (some ⟨X, 2, none⟩)), ?_, ⟨w.drawn, rfl⟩, F.set (by decide) rfl rfl⟩
      simp [upd]
    | 5, _ =>
      have hd := deps_of (l := [4]) (by kernel_rfl) ho hdeps
      have e11 := F 4 11 _ (hd 4 (by simp)) rfl rfl
      clear hdeps hfi ho
      simp only [tm72, reg72, Try.f72] at hr ⊢
      (refine Walk.oq ?_; try walk_nrm)
      refine hr _ _ ⟨upd u 12 (.int .i64 ca), ?_, ⟨w.drawn, rfl⟩, F.set (by decide) rfl rfl⟩
      simp [upd, e11]
    | 6, _ =>
      have hd := deps_of (l := [3, 5]) (by kernel_rfl) ho hdeps
      have e10 := F 3 10 _ (hd 3 (by simp)) rfl rfl
      have e12 := F 5 12 _ (hd 5 (by simp)) rfl rfl
      clear hdeps hfi ho
      simp only [tm72, reg72, Try.f72] at hr ⊢
      (refine Walk.oq ?_; try walk_nrm)
      refine hr _ _ ⟨upd u 13 (.pointer (some ⟨sw, ca, none⟩)), ?_, ⟨w.drawn, rfl⟩, F.set (by decide) rfl rfl⟩
      simp [upd, e10, e12]
    | 7, _ =>
      clear hdeps hfi ho
      simp only [tm72, reg72, Try.f72] at hr ⊢
      (refine Walk.oq ?_; try walk_nrm)
      refine hr _ _ ⟨upd u 14 (.pointer (some ⟨W, 0, none⟩)), ?_, ⟨w.drawn, rfl⟩, F.set (by decide) rfl rfl⟩
      simp [upd]
    | 8, _ =>
      clear hdeps hfi ho
      simp only [tm72, reg72, Try.f72] at hr ⊢
      (refine Walk.oq ?_; try walk_nrm)
      refine hr _ _ ⟨upd u 15 (.pointer (some ⟨X, 1, none⟩)), ?_, ⟨w.drawn, rfl⟩, F.set (by decide) rfl rfl⟩
      simp [upd]
    | 9, _ =>
      have hd := deps_of (l := [8]) (by kernel_rfl) ho hdeps
      have e15 := F 8 15 _ (hd 8 (by simp)) rfl rfl
      clear hdeps hfi ho
      simp only [tm72, reg72, Try.f72] at hr ⊢
      (refine Walk.oq ?_; try walk_nrm)
      refine hr _ _ ⟨upd u 16 (.int .i64 cr), ?_, ⟨w.drawn, rfl⟩, F.set (by decide) rfl rfl⟩
      simp [upd, e15]
    | 10, _ =>
      have hd := deps_of (l := [7, 9]) (by kernel_rfl) ho hdeps
      have e14 := F 7 14 _ (hd 7 (by simp)) rfl rfl
      have e16 := F 9 16 _ (hd 9 (by simp)) rfl rfl
      clear hdeps hfi ho
      simp only [tm72, reg72, Try.f72] at hr ⊢
      refine Walk.callV (x := .pointer (some ⟨W, 2 + (cr % 4).toNat, none⟩)) (W := w) ?_ rfl (by rfl) (by decide) rfl Try.func104 (by kernel_rfl) (by rfl) ?_
      · walk_nrm
        simp only [e14, e16]
        exact register104 W cr _
      walk_nrm
      refine hr _ _ ⟨upd u 17 (.pointer (some ⟨W, 2 + (cr % 4).toNat, none⟩)), ?_, ⟨w.drawn, rfl⟩, F.set (by decide) rfl rfl⟩
      simp [upd, e14, e16]
    | 11, _ =>
      have hd := deps_of (l := [6]) (by kernel_rfl) ho hdeps
      have e13 := F 6 13 _ (hd 6 (by simp)) rfl rfl
      clear hdeps hfi ho
      simp only [tm72, reg72, Try.f72] at hr ⊢
      (refine Walk.oq ?_; try walk_nrm)
      refine hr _ _ ⟨upd u 4 (.pointer (some ⟨sw, ca, none⟩)), ?_, ⟨w.drawn, rfl⟩, F.set (by decide) rfl rfl⟩
      simp [upd, e13]
    | 12, _ =>
      have hd := deps_of (l := [10]) (by kernel_rfl) ho hdeps
      have e17 := F 10 17 _ (hd 10 (by simp)) rfl rfl
      clear hdeps hfi ho
      simp only [tm72, reg72, Try.f72] at hr ⊢
      (refine Walk.oq ?_; try walk_nrm)
      refine hr _ _ ⟨upd u 5 (.pointer (some ⟨W, 2 + (cr % 4).toNat, none⟩)), ?_, ⟨w.drawn, rfl⟩, F.set (by decide) rfl rfl⟩
      simp [upd, e17]
  · rintro f a w' ⟨u, rfl, ⟨d, rfl⟩, F⟩ hall
    have hsz : reg72.size = 13 := by kernel_rfl
    exact (hk u (F 11 4 _ (hall 11 (by rw [hsz]; omega)) rfl rfl) (F 12 5 _ (hall 12 (by rw [hsz]; omega)) rfl rfl)).back d
theorem head72 {Stop : Goroutine → World → Prop} (W : Nat) (cd cr cb cv : Int) (sw len cap ca : Nat) (cs : List Frame) (w : World) (h0 : w.cell? ⟨W, 0, none⟩ = some (.slice (some ⟨sw, 0, none⟩) len cap)) (hlt : ca < len)
    (hk : ∀ u : Nat → Value, u 4 = .pointer (some ⟨sw, ca, none⟩) → u 5 = .pointer (some ⟨W, 2 + (cr % 4).toNat, none⟩) →
      Walk Try.prog main (DR V) Stop (G ((base 72).at ⟨tm72 W w.heap.size (codeV cd cr ca cb cv) u, []⟩ [.inRegion reg72 [], .code rest72]) cs) (boxW w cd cr ca cb cv)) :
    Walk Try.prog main (DR V) Stop (G ((base 72).at { tmps := #[.pointer (some ⟨W, 0, none⟩), codeV cd cr ca cb cv] ++ Array.replicate 65 undef, defers := [] } [.code (Try.f72.body.getD .skip)]) cs) w := by
  simp only [codeV, Try.f72, Option.getD_some, Array.replicate_succ, Array.replicate_zero, List.push_toArray, List.append_toArray, List.nil_append, List.cons_append]
  repeat (first | refine Walk.c rfl ?_ | refine Walk.cR ?_ | refine Walk.cRet ?_ | refine Walk.cEnd ?_ | (refine Walk.oq ?_; try walk_nrm) | (refine Walk.un ?_; walk_nrm))
  (refine Walk.oa ?_; try walk_nrm)
  repeat (first | refine Walk.c rfl ?_ | refine Walk.cR ?_ | refine Walk.cRet ?_ | refine Walk.cEnd ?_ | (refine Walk.oq ?_; try walk_nrm) | (refine Walk.un ?_; walk_nrm))
  obtain ⟨b0, b1, b2, b3, b4⟩ := box_cells w cd cr ca cb cv
  have c0 := (box_reg cd cr ca cb cv h0).1
  unfold boxW at hk b1 b2 c0
  refine reg72_walk W w.heap.size (.agg #[.int .i64 cd, .int .i64 cr, .int .i64 ca, .int .i64 cb, .int .i64 cv]) cr sw len cap ca _ cs (fun _ => undef) _ c0 hlt b1 b2 ?_
  intro u h4 h5
  exact hk u h4 h5
end
section
variable {main : Bool} {V : Nat → Option Wait}
theorem Walk.turn {P : Program} {Stop : Goroutine → World → Prop} {g g' : Goroutine} {w W : World} {es : Array Event} (hr : g.status = .running) (hs : ∀ d, stepG P main g (w.at d) = .go g' (W.at d) es) (hd : ∀ d, DR V (w.at d) (W.at d) es) (h : Walk P main (DR V) Stop g' W) : Walk P main (DR V) Stop g w :=
  Walk.step hr (fun _ => g') (fun d => W.at d) (fun _ => es) hs hd (fun d => h.back d)
theorem evR_rw {ad : Addr} (hf : Free V ad) : ∀ e ∈ (#[⟨.cell ad, false, true⟩, ⟨.cell ad, true, true⟩] : Array Event), EvR V e := by
  intro e he
  simp only [List.mem_toArray, List.mem_cons, List.not_mem_nil, or_false] at he
  rcases he with rfl | rfl
  · exact evR_read _ _
  · exact evR_write _ _ hf
theorem load63 (ad : Addr) (v : Int) (w : World) (hc : w.cell? ad = some (.int .i64 v)) : CallV Try.prog main V 63 #[.pointer (some ad)] w (.int .i64 v) w := by
  refine callW_in Try.func63 rfl fun fr cs => ?_
  simp only [Try.ntmps63, List.size_toArray, List.length_cons, List.length_nil, Nat.reduceAdd, Nat.reduceSub, Array.replicate_succ, Array.replicate_zero, List.push_toArray, List.append_toArray, List.nil_append, List.cons_append]
  repeat (first | refine Walk.c rfl ?_ | refine Walk.cR ?_ | refine Walk.cRet ?_ | refine Walk.cEnd ?_ | (refine Walk.oq ?_; try walk_nrm) | (refine Walk.un ?_; walk_nrm))
  refine Walk.evs (fun _ => #[⟨.cell ad, false, true⟩]) rfl (fun d => stepG_load_atomic (w := w.at d) rfl (by rfl) (by decide) rfl Try.func98 (by kernel_rfl) (by rfl) (by kernel_rfl) .i64 (by kernel_rfl) rfl hc) (fun d e he => by simp at he; subst he; exact evR_read _ _) ?_
  walk_nrm
  repeat (first | refine Walk.c rfl ?_ | refine Walk.cR ?_ | refine Walk.cRet ?_ | refine Walk.cEnd ?_ | (refine Walk.oq ?_; try walk_nrm) | (refine Walk.un ?_; walk_nrm))
  exact Walk.ret1 rfl rfl Try.func63 rfl fun d => ⟨rfl, d, rfl⟩
theorem store69 (ad : Addr) (u : Value) (v : Int) (w : World) (hc : w.cell? ad = some u) (hz : w.frozen? ad = false) (hf : Free V ad) : CallV Try.prog main V 69 #[.pointer (some ad), .int .i64 v] w (.tuple #[]) (w.setCell ad (.int .i64 v)) := by
  refine callW_in Try.func69 rfl fun fr cs => ?_
  simp only [Try.ntmps69, List.size_toArray, List.length_cons, List.length_nil, Nat.reduceAdd, Nat.reduceSub, Array.replicate_succ, Array.replicate_zero, List.push_toArray, List.append_toArray, List.nil_append, List.cons_append]
  repeat (first | refine Walk.c rfl ?_ | refine Walk.cR ?_ | refine Walk.cRet ?_ | refine Walk.cEnd ?_ | (refine Walk.oq ?_; try walk_nrm) | (refine Walk.un ?_; walk_nrm))
  refine Walk.turn (W := w.setCell ad (.int .i64 v)) rfl (fun d => stepG_store_atomic (w := w.at d) rfl (by rfl) (by decide) rfl Try.func103 (by kernel_rfl) (by rfl) (by kernel_rfl) (by kernel_rfl) rfl rfl hc hz) (fun d => DR.set' hf hc d _ (fun e he => by simp at he; subst he; exact evR_write _ _ hf)) ?_
  walk_nrm
  repeat (first | refine Walk.c rfl ?_ | refine Walk.cR ?_ | refine Walk.cRet ?_ | refine Walk.cEnd ?_ | (refine Walk.oq ?_; try walk_nrm) | (refine Walk.un ?_; walk_nrm))
  exact Walk.ret0 rfl rfl Try.func69 rfl fun d => ⟨rfl, d, rfl⟩
theorem add105 (ad : Addr) (v x : Int) (w : World) (hc : w.cell? ad = some (.int .i64 v)) (hz : w.frozen? ad = false) (hf : Free V ad) : CallV Try.prog main V 105 #[.pointer (some ad), .int .i64 x] w (.int .i64 (IntKind.i64.wrap (v + x))) (w.setCell ad (.int .i64 (IntKind.i64.wrap (v + x)))) := by
  refine callW_in Try.func105 rfl fun fr cs => ?_
  simp only [Try.ntmps105, List.size_toArray, List.length_cons, List.length_nil, Nat.reduceAdd, Nat.reduceSub, Array.replicate_succ, Array.replicate_zero, List.push_toArray, List.append_toArray, List.nil_append, List.cons_append]
  repeat (first | refine Walk.c rfl ?_ | refine Walk.cR ?_ | refine Walk.cRet ?_ | refine Walk.cEnd ?_ | (refine Walk.oq ?_; try walk_nrm) | (refine Walk.un ?_; walk_nrm))
  refine Walk.turn (W := w.setCell ad (.int .i64 (IntKind.i64.wrap (v + x)))) rfl (fun d => stepG_add_atomic (w := w.at d) rfl (by rfl) (by decide) rfl Try.func119 (by kernel_rfl) (by rfl) (by kernel_rfl) .i64 (by kernel_rfl) rfl rfl hc hz) (fun d => DR.set' hf hc d _ (evR_rw hf)) ?_
  walk_nrm
  repeat (first | refine Walk.c rfl ?_ | refine Walk.cR ?_ | refine Walk.cRet ?_ | refine Walk.cEnd ?_ | (refine Walk.oq ?_; try walk_nrm) | (refine Walk.un ?_; walk_nrm))
  exact Walk.ret1 rfl rfl Try.func105 rfl fun d => ⟨rfl, d, rfl⟩
theorem cas64_hit (ad : Addr) (v x : Int) (w : World) (hc : w.cell? ad = some (.int .i64 v)) (hz : w.frozen? ad = false) (hf : Free V ad) : CallV Try.prog main V 64 #[.pointer (some ad), .int .i64 v, .int .i64 x] w (.bool true) (w.setCell ad (.int .i64 x)) := by
  refine callW_in Try.func64 rfl fun fr cs => ?_
  simp only [Try.ntmps64, List.size_toArray, List.length_cons, List.length_nil, Nat.reduceAdd, Nat.reduceSub, Array.replicate_succ, Array.replicate_zero, List.push_toArray, List.append_toArray, List.nil_append, List.cons_append]
  repeat (first | refine Walk.c rfl ?_ | refine Walk.cR ?_ | refine Walk.cRet ?_ | refine Walk.cEnd ?_ | (refine Walk.oq ?_; try walk_nrm) | (refine Walk.un ?_; walk_nrm))
  refine Walk.turn (W := w.setCell ad (.int .i64 x)) rfl (fun d => stepG_cas_hit (w := w.at d) rfl (by rfl) (by decide) rfl Try.func99 (by kernel_rfl) (by rfl) (by kernel_rfl) .i64 (by kernel_rfl) rfl rfl rfl hc hz) (fun d => DR.set' hf hc d _ (evR_rw hf)) ?_
  walk_nrm
  repeat (first | refine Walk.c rfl ?_ | refine Walk.cR ?_ | refine Walk.cRet ?_ | refine Walk.cEnd ?_ | (refine Walk.oq ?_; try walk_nrm) | (refine Walk.un ?_; walk_nrm))
  exact Walk.ret1 rfl rfl Try.func64 rfl fun d => ⟨rfl, d, rfl⟩
theorem cas64_miss (ad : Addr) (v old x : Int) (w : World) (hc : w.cell? ad = some (.int .i64 v)) (hz : w.frozen? ad = false) (hne : ¬ v = old) : CallV Try.prog main V 64 #[.pointer (some ad), .int .i64 old, .int .i64 x] w (.bool false) w := by
  refine callW_in Try.func64 rfl fun fr cs => ?_
  simp only [Try.ntmps64, List.size_toArray, List.length_cons, List.length_nil, Nat.reduceAdd, Nat.reduceSub, Array.replicate_succ, Array.replicate_zero, List.push_toArray, List.append_toArray, List.nil_append, List.cons_append]
  repeat (first | refine Walk.c rfl ?_ | refine Walk.cR ?_ | refine Walk.cRet ?_ | refine Walk.cEnd ?_ | (refine Walk.oq ?_; try walk_nrm) | (refine Walk.un ?_; walk_nrm))
  refine Walk.evs (fun _ => #[⟨.cell ad, false, true⟩]) rfl (fun d => stepG_cas_miss (w := w.at d) rfl (by rfl) (by decide) rfl Try.func99 (by kernel_rfl) (by rfl) (by kernel_rfl) .i64 (by kernel_rfl) rfl rfl rfl hc hz hne) (fun d e he => by simp at he; subst he; exact evR_read _ _) ?_
  walk_nrm
  repeat (first | refine Walk.c rfl ?_ | refine Walk.cR ?_ | refine Walk.cRet ?_ | refine Walk.cEnd ?_ | (refine Walk.oq ?_; try walk_nrm) | (refine Walk.un ?_; walk_nrm))
  exact Walk.ret1 rfl rfl Try.func64 rfl fun d => ⟨rfl, d, rfl⟩
end
section
variable {main : Bool} {V : Nat → Option Wait}
theorem reach_load (W : Nat) (cr cb cv : Int) (sw len cap ca : Nat) (x : Value) (v : Int) (w : World) (h0 : w.cell? ⟨W, 0, none⟩ = some (.slice (some ⟨sw, 0, none⟩) len cap)) (hlt : ca < len) (hc : w.cell? ⟨W, 2 + (cr % 4).toNat, none⟩ = some x) (hz : w.frozen? ⟨W, 2 + (cr % 4).toNat, none⟩ = false) (hf : Free V ⟨W, 2 + (cr % 4).toNat, none⟩) (hv : w.cell? ⟨sw, ca, none⟩ = some (.int .i64 v)) :
    CallV Try.prog main V 72 #[.pointer (some ⟨W, 0, none⟩), codeV 7 cr ca cb cv] w (.tuple #[]) ((boxW w 7 cr ca cb cv).setCell ⟨W, 2 + (cr % 4).toNat, none⟩ (.int .i64 v)) := by
  refine callW_in Try.func72 rfl fun fr cs => ?_
  refine head72 W 7 cr cb cv sw len cap ca (fr :: cs) w h0 hlt fun u e4 e5 => ?_
  obtain ⟨b0, b1, b2, b3, b4⟩ := box_cells w 7 cr ca cb cv
  obtain ⟨c1, c2⟩ := box_reg 7 cr ca cb cv hc
  rw [hz] at c2
  have cvv := (box_reg 7 cr ca cb cv hv).1
  generalize boxW w 7 cr ca cb cv = w1 at *
  simp only [tm72, rest72, Try.f72]
  rw [e4, e5]
  clear e4 e5
  repeat (first | refine Walk.c rfl ?_ | refine Walk.cR ?_ | refine Walk.cRet ?_ | refine Walk.cEnd ?_ | (refine Walk.oq ?_; try walk_nrm) | (refine Walk.un ?_; walk_nrm))
  refine Walk.callV (x := .int .i64 v) (W := w1) ?_ rfl (by rfl) (by decide) rfl Try.func63 (by kernel_rfl) (by rfl) ?_
  · walk_nrm
    exact load63 _ v w1 cvv
  walk_nrm
  repeat (first | refine Walk.c rfl ?_ | refine Walk.cR ?_ | refine Walk.cRet ?_ | refine Walk.cEnd ?_ | (refine Walk.oq ?_; try walk_nrm) | (refine Walk.un ?_; walk_nrm))
  (refine Walk.os hf c1 ?_; try walk_nrm)
  repeat (first | refine Walk.c rfl ?_ | refine Walk.cR ?_ | refine Walk.cRet ?_ | refine Walk.cEnd ?_ | (refine Walk.oq ?_; try walk_nrm) | (refine Walk.un ?_; walk_nrm))
  exact Walk.ret0 rfl rfl Try.func72 rfl fun d => ⟨rfl, d, rfl⟩
end
section
variable {main : Bool} {V : Nat → Option Wait}
theorem reach_store (W : Nat) (cr cb cv : Int) (sw len cap ca : Nat) (y : Int) (v : Value) (w : World) (h0 : w.cell? ⟨W, 0, none⟩ = some (.slice (some ⟨sw, 0, none⟩) len cap)) (hlt : ca < len) (hc : w.cell? ⟨W, 2 + (cr % 4).toNat, none⟩ = some (.int .i64 y)) (hv : w.cell? ⟨sw, ca, none⟩ = some v) (hz : w.frozen? ⟨sw, ca, none⟩ = false) (hf : Free V ⟨sw, ca, none⟩) :
    CallV Try.prog main V 72 #[.pointer (some ⟨W, 0, none⟩), codeV 8 cr ca cb cv] w (.tuple #[]) ((boxW w 8 cr ca cb cv).setCell ⟨sw, ca, none⟩ (.int .i64 y)) := by
  refine callW_in Try.func72 rfl fun fr cs => ?_
  refine head72 W 8 cr cb cv sw len cap ca (fr :: cs) w h0 hlt fun u e4 e5 => ?_
  obtain ⟨b0, b1, b2, b3, b4⟩ := box_cells w 8 cr ca cb cv
  have c1 := (box_reg 8 cr ca cb cv hc).1
  obtain ⟨cvv, cvz⟩ := box_reg 8 cr ca cb cv hv
  rw [hz] at cvz
  generalize boxW w 8 cr ca cb cv = w1 at *
  simp only [tm72, rest72, Try.f72]
  rw [e4, e5]
  clear e4 e5
  repeat (first | refine Walk.c rfl ?_ | refine Walk.cR ?_ | refine Walk.cRet ?_ | refine Walk.cEnd ?_ | (refine Walk.oq ?_; try walk_nrm) | (refine Walk.un ?_; walk_nrm))
  refine Walk.callV (x := .tuple #[]) (W := w1.setCell ⟨sw, ca, none⟩ (.int .i64 y)) ?_ rfl (by rfl) (by decide) rfl Try.func69 (by kernel_rfl) (by rfl) ?_
  · walk_nrm
    exact store69 _ v y w1 cvv cvz hf
  walk_nrm
  repeat (first | refine Walk.c rfl ?_ | refine Walk.cR ?_ | refine Walk.cRet ?_ | refine Walk.cEnd ?_ | (refine Walk.oq ?_; try walk_nrm) | (refine Walk.un ?_; walk_nrm))
  exact Walk.ret0 rfl rfl Try.func72 rfl fun d => ⟨rfl, d, rfl⟩
end
section
variable {main : Bool} {V : Nat → Option Wait}
theorem reach_add (W : Nat) (cr cb cv : Int) (sw len cap ca : Nat) (x : Value) (v : Int) (w : World) (h0 : w.cell? ⟨W, 0, none⟩ = some (.slice (some ⟨sw, 0, none⟩) len cap)) (hlt : ca < len) (hc : w.cell? ⟨W, 2 + (cr % 4).toNat, none⟩ = some x) (hz : w.frozen? ⟨W, 2 + (cr % 4).toNat, none⟩ = false) (hf : Free V ⟨W, 2 + (cr % 4).toNat, none⟩) (hv : w.cell? ⟨sw, ca, none⟩ = some (.int .i64 v)) (hvz : w.frozen? ⟨sw, ca, none⟩ = false) (hvf : Free V ⟨sw, ca, none⟩) (hne : sw ≠ W) :
    CallV Try.prog main V 72 #[.pointer (some ⟨W, 0, none⟩), codeV 9 cr ca cb cv] w (.tuple #[]) (((boxW w 9 cr ca cb cv).setCell ⟨sw, ca, none⟩ (.int .i64 (IntKind.i64.wrap (v + cv)))).setCell ⟨W, 2 + (cr % 4).toNat, none⟩ (.int .i64 (IntKind.i64.wrap (v + cv)))) := by
  refine callW_in Try.func72 rfl fun fr cs => ?_
  refine head72 W 9 cr cb cv sw len cap ca (fr :: cs) w h0 hlt fun u e4 e5 => ?_
  obtain ⟨b0, b1, b2, b3, b4⟩ := box_cells w 9 cr ca cb cv
  obtain ⟨c1, c2⟩ := box_reg 9 cr ca cb cv hc
  rw [hz] at c2
  obtain ⟨cvv, cvz⟩ := box_reg 9 cr ca cb cv hv
  rw [hvz] at cvz
  generalize boxW w 9 cr ca cb cv = w1 at *
  simp only [tm72, rest72, Try.f72]
  rw [e4, e5]
  clear e4 e5
  repeat (first | refine Walk.c rfl ?_ | refine Walk.cR ?_ | refine Walk.cRet ?_ | refine Walk.cEnd ?_ | (refine Walk.oq ?_; try walk_nrm) | (refine Walk.un ?_; walk_nrm))
  refine Walk.callV (x := .int .i64 (IntKind.i64.wrap (v + cv))) (W := w1.setCell ⟨sw, ca, none⟩ (.int .i64 (IntKind.i64.wrap (v + cv)))) ?_ rfl (by rfl) (by decide) rfl Try.func105 (by kernel_rfl) (by rfl) ?_
  · walk_nrm
    exact add105 _ v cv w1 cvv cvz hvf
  have c1' := (World.cell?_setCell_other w1 ⟨sw, ca, none⟩ ⟨W, 2 + (cr % 4).toNat, none⟩ (.int .i64 (IntKind.i64.wrap (v + cv))) (by simp [hne])).trans c1
  have c2' : (w1.setCell ⟨sw, ca, none⟩ (.int .i64 (IntKind.i64.wrap (v + cv)))).frozen? ⟨W, 2 + (cr % 4).toNat, none⟩ = false := by rw [World.frozen?_setCell]; exact c2
  generalize w1.setCell ⟨sw, ca, none⟩ (.int .i64 (IntKind.i64.wrap (v + cv))) = w2 at *
  walk_nrm
  repeat (first | refine Walk.c rfl ?_ | refine Walk.cR ?_ | refine Walk.cRet ?_ | refine Walk.cEnd ?_ | (refine Walk.oq ?_; try walk_nrm) | (refine Walk.un ?_; walk_nrm))
  (refine Walk.os hf c1' ?_; try walk_nrm)
  repeat (first | refine Walk.c rfl ?_ | refine Walk.cR ?_ | refine Walk.cRet ?_ | refine Walk.cEnd ?_ | (refine Walk.oq ?_; try walk_nrm) | (refine Walk.un ?_; walk_nrm))
  exact Walk.ret0 rfl rfl Try.func72 rfl fun d => ⟨rfl, d, rfl⟩
end
section
variable {main : Bool} {V : Nat → Option Wait}
theorem run_swap_entry {w : World} {ad : Addr} {v n : Int} (hc : w.cell? ad = some (.int .i64 v)) (hz : w.frozen? ad = false) : (Extern.Atomic.swapT (.int .i64) #[.pointer (some ad), .int .i64 n]).run Try.prog w = .ok (.int .i64 v) (w.setCell ad (.int .i64 n)) := by
  change Sem.run Try.prog (do
    let a ← asAddr (.pointer (some ad))
    let old ← Extern.Atomic.read (.int .i64) a
    store a (.int .i64 n) .atomic
    pure old) w = _
  simp [Extern.Atomic.read, asAddr, hc, hz, run_store Try.prog w ad (.int .i64 n) .atomic rfl, Result.andThen]
theorem events_swap_entry {w : World} {ad : Addr} {v n : Int} (hc : w.cell? ad = some (.int .i64 v)) (hz : w.frozen? ad = false) (es : Array Event) : (Extern.Atomic.swapT (.int .i64) #[.pointer (some ad), .int .i64 n]).events Try.prog w es = (es.push ⟨.cell ad, false, true⟩).push ⟨.cell ad, true, true⟩ := by
  change Sem.events Try.prog (do
    let a ← asAddr (.pointer (some ad))
    let old ← Extern.Atomic.read (.int .i64) a
    store a (.int .i64 n) .atomic
    pure old) w es = _
  simp [Extern.Atomic.read, asAddr, hc, hz, events_load, events_store Try.prog w _ ad (.int .i64 n) .atomic rfl, Result.evThen]
section
variable {w : World} {b : Frame} {a : Act} {kk : List Item} {cs : List Frame} {ops : Array Oper} {i : Nat} {rest : List Nat} {o : Oper} {f : FuncId} {fn : Func} {ats : Array TypeId}
theorem stepG_swap_atomic {x y : Operand} (ho : ops[i]? = some o) (hw : Region.wanted o (yielded ops a.tmps) = true) (hk : b.kind ≠ .early) (hop : o.op = .call { callee := .value (.func f), args := #[x, y], argTypes := ats })
    (hf : Try.prog.funcs[f]? = some fn) (hname : (fn.name == "runtime.NumGoroutine") = false) (hb : fn.body.isNone = true) (hn : Extern.findNext fn = none)
    (he : Extern.find fn = some (Extern.Atomic.swapT (.int .i64))) {ad : Addr} {v d : Int} (hx : a.eval x = .pointer (some ad)) (hy : a.eval y = .int .i64 d) (hc : w.cell? ad = some (.int .i64 v)) (hz : w.frozen? ad = false) :
    stepG Try.prog main (G (b.at a (.inRegion ops (i :: rest) :: kk)) cs) w = .go (G (b.at (a.put o.dst (.int .i64 v)) (.inRegion ops rest :: kk)) cs) (w.setCell ad (.int .i64 d)) #[⟨.cell ad, false, true⟩, ⟨.cell ad, true, true⟩] := by
  have hm : (#[x, y] : Array Operand).map a.eval = #[.pointer (some ad), .int .i64 d] := by simp [hx, hy]
  exact stepG_entry ho hw hk hop hf hname hb hn he (by rw [hm]; exact run_swap_entry hc hz) (by rw [hm, events_swap_entry hc hz]; rfl) (sync_rw ad)
end
theorem swap106 (ad : Addr) (v x : Int) (w : World) (hc : w.cell? ad = some (.int .i64 v)) (hz : w.frozen? ad = false) (hf : Free V ad) : CallV Try.prog main V 106 #[.pointer (some ad), .int .i64 x] w (.int .i64 v) (w.setCell ad (.int .i64 x)) := by
  refine callW_in Try.func106 rfl fun fr cs => ?_
  simp only [Try.ntmps106, List.size_toArray, List.length_cons, List.length_nil, Nat.reduceAdd, Nat.reduceSub, Array.replicate_succ, Array.replicate_zero, List.push_toArray, List.append_toArray, List.nil_append, List.cons_append]
  repeat (first | refine Walk.c rfl ?_ | refine Walk.cR ?_ | refine Walk.cRet ?_ | refine Walk.cEnd ?_ | (refine Walk.oq ?_; try walk_nrm) | (refine Walk.un ?_; walk_nrm))
  refine Walk.turn (W := w.setCell ad (.int .i64 x)) rfl (fun d => stepG_swap_atomic (w := w.at d) rfl (by rfl) (by decide) rfl Try.func120 (by kernel_rfl) (by rfl) (by kernel_rfl) (by kernel_rfl) rfl rfl hc hz) (fun d => DR.set' hf hc d _ (evR_rw hf)) ?_
  walk_nrm
  repeat (first | refine Walk.c rfl ?_ | refine Walk.cR ?_ | refine Walk.cRet ?_ | refine Walk.cEnd ?_ | (refine Walk.oq ?_; try walk_nrm) | (refine Walk.un ?_; walk_nrm))
  exact Walk.ret1 rfl rfl Try.func106 rfl fun d => ⟨rfl, d, rfl⟩
theorem reach_swap (W : Nat) (cr cb cv : Int) (sw len cap ca : Nat) (y v : Int) (w : World) (h0 : w.cell? ⟨W, 0, none⟩ = some (.slice (some ⟨sw, 0, none⟩) len cap)) (hlt : ca < len) (hc : w.cell? ⟨W, 2 + (cr % 4).toNat, none⟩ = some (.int .i64 y)) (hz : w.frozen? ⟨W, 2 + (cr % 4).toNat, none⟩ = false) (hf : Free V ⟨W, 2 + (cr % 4).toNat, none⟩) (hv : w.cell? ⟨sw, ca, none⟩ = some (.int .i64 v)) (hvz : w.frozen? ⟨sw, ca, none⟩ = false) (hvf : Free V ⟨sw, ca, none⟩) (hne : sw ≠ W) :
    CallV Try.prog main V 72 #[.pointer (some ⟨W, 0, none⟩), codeV 10 cr ca cb cv] w (.tuple #[]) (((boxW w 10 cr ca cb cv).setCell ⟨sw, ca, none⟩ (.int .i64 y)).setCell ⟨W, 2 + (cr % 4).toNat, none⟩ (.int .i64 v)) := by
  refine callW_in Try.func72 rfl fun fr cs => ?_
  refine head72 W 10 cr cb cv sw len cap ca (fr :: cs) w h0 hlt fun u e4 e5 => ?_
  obtain ⟨b0, b1, b2, b3, b4⟩ := box_cells w 10 cr ca cb cv
  obtain ⟨c1, c2⟩ := box_reg 10 cr ca cb cv hc
  rw [hz] at c2
  obtain ⟨cvv, cvz⟩ := box_reg 10 cr ca cb cv hv
  rw [hvz] at cvz
  generalize boxW w 10 cr ca cb cv = w1 at *
  simp only [tm72, rest72, Try.f72]
  rw [e4, e5]
  clear e4 e5
  repeat (first | refine Walk.c rfl ?_ | refine Walk.cR ?_ | refine Walk.cRet ?_ | refine Walk.cEnd ?_ | (refine Walk.oq ?_; try walk_nrm) | (refine Walk.un ?_; walk_nrm))
  refine Walk.callV (x := .int .i64 v) (W := w1.setCell ⟨sw, ca, none⟩ (.int .i64 y)) ?_ rfl (by rfl) (by decide) rfl Try.func106 (by kernel_rfl) (by rfl) ?_
  · walk_nrm
    exact swap106 _ v y w1 cvv cvz hvf
  have c1' := (World.cell?_setCell_other w1 ⟨sw, ca, none⟩ ⟨W, 2 + (cr % 4).toNat, none⟩ (.int .i64 y) (by simp [hne])).trans c1
  have c2' : (w1.setCell ⟨sw, ca, none⟩ (.int .i64 y)).frozen? ⟨W, 2 + (cr % 4).toNat, none⟩ = false := by rw [World.frozen?_setCell]; exact c2
  generalize w1.setCell ⟨sw, ca, none⟩ (.int .i64 y) = w2 at *
  walk_nrm
  repeat (first | refine Walk.c rfl ?_ | refine Walk.cR ?_ | refine Walk.cRet ?_ | refine Walk.cEnd ?_ | (refine Walk.oq ?_; try walk_nrm) | (refine Walk.un ?_; walk_nrm))
  (refine Walk.os hf c1' ?_; try walk_nrm)
  repeat (first | refine Walk.c rfl ?_ | refine Walk.cR ?_ | refine Walk.cRet ?_ | refine Walk.cEnd ?_ | (refine Walk.oq ?_; try walk_nrm) | (refine Walk.un ?_; walk_nrm))
  exact Walk.ret0 rfl rfl Try.func72 rfl fun d => ⟨rfl, d, rfl⟩
end
section
variable {main : Bool} {V : Nat → Option Wait}
noncomputable def code72c : Code := match rest72 with | .seq _ (.block _ (.seq _ (.cond _ _ (.seq _ (.cond _ _ (.seq _ (.cond _ _ (.seq _ (.cond _ _ (.seq _ (.cond _ c _))))))))))) => c | _ => .skip
noncomputable def reg72c : Array Oper := match code72c with | .seq (.region _ ops _) _ => ops | _ => #[]
def tm72c (W X : Nat) (c : Value) (sw ca : Nat) (cr : Int) (u : Nat → Value) : Array Value := #[.pointer (some ⟨W, 0, none⟩), c, undef, .pointer (some ⟨X, 0, none⟩), .pointer (some ⟨sw, ca, none⟩), .pointer (some ⟨W, 2 + (cr % 4).toNat, none⟩), u 6, u 7, u 8, u 9, u 10, u 11, u 12, u 13, u 14, u 15, u 16, u 17, u 18, u 19, u 20, u 21, u 22, u 23, u 24, u 25, u 26, u 27, u 28, u 29, u 30, u 31, u 32, u 33, u 34, u 35, u 36, u 37, u 38, u 39, u 40, u 41, u 42, u 43, u 44, u 45, u 46, u 47, u 48, u 49, u 50, u 51, u 52, u 53, u 54, u 55, u 56, u 57, u 58, u 59, u 60, u 61, u 62, u 63, u 64, u 65, u 66]
theorem reg72c_walk {Stop : Goroutine → World → Prop} (W X : Nat) (c : Value) (cr cb cv : Int) (sw ca : Nat) (k : List Item) (cs : List Frame) (u0 : Nat → Value) (w1 w2 : World) (z : Int) (hit : Bool) (x3 : w1.cell? ⟨X, 3, none⟩ = some (.int .i64 cb)) (x4 : w1.cell? ⟨X, 4, none⟩ = some (.int .i64 cv)) (hz2 : w1.cell? ⟨W, 2 + (cb % 4).toNat, none⟩ = some (.int .i64 z))
    (hcas : CallV Try.prog main V 64 #[.pointer (some ⟨sw, ca, none⟩), .int .i64 z, .int .i64 cv] w1 (.bool hit) w2)
    (hk : ∀ u : Nat → Value, u 6 = .bool hit → Walk Try.prog main (DR V) Stop (G ((base 72).at ⟨tm72c W X c sw ca cr u, []⟩ (.inRegion reg72c [] :: k)) cs) w2) :
    Walk Try.prog main (DR V) Stop (G ((base 72).at ⟨tm72c W X c sw ca cr u0, []⟩ (.code (.region 12 reg72c true) :: k)) cs) w1 := by
  refine Walk.drawnJ (Inv := fun f a w' => ∃ u, a = ⟨tm72c W X c sw ca cr u, []⟩ ∧ Facts [52, 53, 54, 55, 56, 57, 58, 59, 60, 61, 6] [.pointer (some ⟨sw, ca, none⟩), .pointer (some ⟨W, 0, none⟩), .pointer (some ⟨X, 3, none⟩), .int .i64 cb, .pointer (some ⟨W, 2 + (cb % 4).toNat, none⟩), .pointer (some ⟨W, 2 + (cb % 4).toNat, none⟩), .int .i64 z, .pointer (some ⟨X, 4, none⟩), .int .i64 cv, .bool hit, .bool hit] f u ∧ ((f 9 = false ∧ ∃ d, w' = w1.at d) ∨ (f 9 = true ∧ (∀ j, j < 9 → f j = true) ∧ ∃ d, w' = w2.at d))) (by kernel_rfl) (by kernel_rfl) (fun d => ⟨u0, rfl, Facts.none _ _ _, .inl ⟨rfl, d, rfl⟩⟩) ?_ ?_
  · rintro f i o a w' ⟨u, rfl, F, hw⟩ hC hfi ho hdeps rest hr
    have hi : i < 11 := (Array.getElem?_eq_some_iff.1 ho).1
    match i, hi with
    | 0, _ =>
      obtain ⟨h9, d, rfl⟩ := hw.resolve_right (fun h => by have := h.2.1 0 (by omega); rw [this] at hfi; cases hfi)
      refine Walk.back ?_ d
      clear hdeps hfi ho
      simp only [tm72c, reg72c, code72c, rest72, Try.f72] at hr ⊢
      (refine Walk.oq ?_; try walk_nrm)
      refine hr _ _ ⟨upd u 52 (.pointer (some ⟨sw, ca, none⟩)), ?_, F.set (by decide) rfl rfl, .inl ⟨by rw [upd_ne _ _ (by decide)]; exact h9, w1.drawn, rfl⟩⟩
      simp [upd]
    | 1, _ =>
      obtain ⟨h9, d, rfl⟩ := hw.resolve_right (fun h => by have := h.2.1 1 (by omega); rw [this] at hfi; cases hfi)
      refine Walk.back ?_ d
      clear hdeps hfi ho
      simp only [tm72c, reg72c, code72c, rest72, Try.f72] at hr ⊢
      (refine Walk.oq ?_; try walk_nrm)
      refine hr _ _ ⟨upd u 53 (.pointer (some ⟨W, 0, none⟩)), ?_, F.set (by decide) rfl rfl, .inl ⟨by rw [upd_ne _ _ (by decide)]; exact h9, w1.drawn, rfl⟩⟩
      simp [upd]
    | 2, _ =>
      obtain ⟨h9, d, rfl⟩ := hw.resolve_right (fun h => by have := h.2.1 2 (by omega); rw [this] at hfi; cases hfi)
      refine Walk.back ?_ d
      clear hdeps hfi ho
      simp only [tm72c, reg72c, code72c, rest72, Try.f72] at hr ⊢
      (refine Walk.oq ?_; try walk_nrm)
      refine hr _ _ ⟨upd u 54 (.pointer (some ⟨X, 3, none⟩)), ?_, F.set (by decide) rfl rfl, .inl ⟨by rw [upd_ne _ _ (by decide)]; exact h9, w1.drawn, rfl⟩⟩
      simp [upd]
    | 3, _ =>
      have hd := deps_of (l := [2]) (by kernel_rfl) ho hdeps
      have e54 := F 2 54 _ (hd 2 (by simp)) rfl rfl
      obtain ⟨h9, d, rfl⟩ := hw.resolve_right (fun h => by have := h.2.1 3 (by omega); rw [this] at hfi; cases hfi)
      refine Walk.back ?_ d
      clear hdeps hfi ho
      simp only [tm72c, reg72c, code72c, rest72, Try.f72] at hr ⊢
      (refine Walk.oq ?_; try walk_nrm)
      refine hr _ _ ⟨upd u 55 (.int .i64 cb), ?_, F.set (by decide) rfl rfl, .inl ⟨by rw [upd_ne _ _ (by decide)]; exact h9, w1.drawn, rfl⟩⟩
      simp [upd, e54]
    | 4, _ =>
      have hd := deps_of (l := [1, 3]) (by kernel_rfl) ho hdeps
      have e53 := F 1 53 _ (hd 1 (by simp)) rfl rfl
      have e55 := F 3 55 _ (hd 3 (by simp)) rfl rfl
      obtain ⟨h9, d, rfl⟩ := hw.resolve_right (fun h => by have := h.2.1 4 (by omega); rw [this] at hfi; cases hfi)
      refine Walk.back ?_ d
      clear hdeps hfi ho
      simp only [tm72c, reg72c, code72c, rest72, Try.f72] at hr ⊢
      refine Walk.callV (x := .pointer (some ⟨W, 2 + (cb % 4).toNat, none⟩)) (W := w1) ?_ rfl (by rfl) (by decide) rfl Try.func104 (by kernel_rfl) (by rfl) ?_
      · walk_nrm
        simp only [e53, e55]
        exact register104 W cb _
      walk_nrm
      refine hr _ _ ⟨upd u 56 (.pointer (some ⟨W, 2 + (cb % 4).toNat, none⟩)), ?_, F.set (by decide) rfl rfl, .inl ⟨by rw [upd_ne _ _ (by decide)]; exact h9, w1.drawn, rfl⟩⟩
      simp [upd, e53, e55]
    | 5, _ =>
      have hd := deps_of (l := [4]) (by kernel_rfl) ho hdeps
      have e56 := F 4 56 _ (hd 4 (by simp)) rfl rfl
      obtain ⟨h9, d, rfl⟩ := hw.resolve_right (fun h => by have := h.2.1 5 (by omega); rw [this] at hfi; cases hfi)
      refine Walk.back ?_ d
      clear hdeps hfi ho
      simp only [tm72c, reg72c, code72c, rest72, Try.f72] at hr ⊢
      (refine Walk.oq ?_; try walk_nrm)
      refine hr _ _ ⟨upd u 57 (.pointer (some ⟨W, 2 + (cb % 4).toNat, none⟩)), ?_, F.set (by decide) rfl rfl, .inl ⟨by rw [upd_ne _ _ (by decide)]; exact h9, w1.drawn, rfl⟩⟩
      simp [upd, e56]
    | 6, _ =>
      have hd := deps_of (l := [5]) (by kernel_rfl) ho hdeps
      have e57 := F 5 57 _ (hd 5 (by simp)) rfl rfl
      obtain ⟨h9, d, rfl⟩ := hw.resolve_right (fun h => by have := h.2.1 6 (by omega); rw [this] at hfi; cases hfi)
      refine Walk.back ?_ d
      clear hdeps hfi ho
      simp only [tm72c, reg72c, code72c, rest72, Try.f72] at hr ⊢
      (refine Walk.oq ?_; try walk_nrm)
      refine hr _ _ ⟨upd u 58 (.int .i64 z), ?_, F.set (by decide) rfl rfl, .inl ⟨by rw [upd_ne _ _ (by decide)]; exact h9, w1.drawn, rfl⟩⟩
      simp [upd, e57]
    | 7, _ =>
      obtain ⟨h9, d, rfl⟩ := hw.resolve_right (fun h => by have := h.2.1 7 (by omega); rw [this] at hfi; cases hfi)
      refine Walk.back ?_ d
      clear hdeps hfi ho
      simp only [tm72c, reg72c, code72c, rest72, Try.f72] at hr ⊢
      (refine Walk.oq ?_; try walk_nrm)
      refine hr _ _ ⟨upd u 59 (.pointer (some ⟨X, 4, none⟩)), ?_, F.set (by decide) rfl rfl, .inl ⟨by rw [upd_ne _ _ (by decide)]; exact h9, w1.drawn, rfl⟩⟩
      simp [upd]
    | 8, _ =>
      have hd := deps_of (l := [7]) (by kernel_rfl) ho hdeps
      have e59 := F 7 59 _ (hd 7 (by simp)) rfl rfl
      obtain ⟨h9, d, rfl⟩ := hw.resolve_right (fun h => by have := h.2.1 8 (by omega); rw [this] at hfi; cases hfi)
      refine Walk.back ?_ d
      clear hdeps hfi ho
      simp only [tm72c, reg72c, code72c, rest72, Try.f72] at hr ⊢
      (refine Walk.oq ?_; try walk_nrm)
      refine hr _ _ ⟨upd u 60 (.int .i64 cv), ?_, F.set (by decide) rfl rfl, .inl ⟨by rw [upd_ne _ _ (by decide)]; exact h9, w1.drawn, rfl⟩⟩
      simp [upd, e59]
    | 9, _ =>
      have hd := deps_of (l := [0, 6, 8]) (by kernel_rfl) ho hdeps
      have e52 := F 0 52 _ (hd 0 (by simp)) rfl rfl
      have e58 := F 6 58 _ (hd 6 (by simp)) rfl rfl
      have e60 := F 8 60 _ (hd 8 (by simp)) rfl rfl
      obtain ⟨h9, d, rfl⟩ := hw.resolve_right (fun h => by rw [h.1] at hfi; cases hfi)
      refine Walk.back ?_ d
      have k0 := hd 0 (by simp)
      have k6 := hd 6 (by simp)
      have k8 := hd 8 (by simp)
      have k5 := hC.deps (l := [5]) k6 (by kernel_rfl) 5 (by simp)
      have k4 := hC.deps (l := [4]) k5 (by kernel_rfl) 4 (by simp)
      have k1 := hC.deps (l := [1, 3]) k4 (by kernel_rfl) 1 (by simp)
      have k3 := hC.deps (l := [1, 3]) k4 (by kernel_rfl) 3 (by simp)
      have k2 := hC.deps (l := [2]) k3 (by kernel_rfl) 2 (by simp)
      have k7 := hC.deps (l := [7]) k8 (by kernel_rfl) 7 (by simp)
      clear hdeps hfi ho
      simp only [tm72c, reg72c, code72c, rest72, Try.f72] at hr ⊢
      refine Walk.callV (x := .bool hit) (W := w2) ?_ rfl (by rfl) (by decide) rfl Try.func64 (by kernel_rfl) (by rfl) ?_
      · walk_nrm
        simp only [e52, e58, e60]
        exact hcas
      walk_nrm
      refine hr _ _ ⟨upd u 61 (.bool hit), ?_, F.set (by decide) rfl rfl, .inr ⟨upd_same _ _ _, fun j hj => ?_, w2.drawn, rfl⟩⟩
      · simp [upd, e52, e58, e60]
      · rw [upd_ne _ _ (by omega)]
        match j, hj with
        | 0, _ => exact k0
        | 1, _ => exact k1
        | 2, _ => exact k2
        | 3, _ => exact k3
        | 4, _ => exact k4
        | 5, _ => exact k5
        | 6, _ => exact k6
        | 7, _ => exact k7
        | 8, _ => exact k8
    | 10, _ =>
      have hd := deps_of (l := [9]) (by kernel_rfl) ho hdeps
      have e61 := F 9 61 _ (hd 9 (by simp)) rfl rfl
      obtain ⟨h9, hall, d, rfl⟩ := hw.resolve_left (fun h => by have := hd 9 (by simp); rw [h.1] at this; cases this)
      refine Walk.back ?_ d
      clear hdeps hfi ho
      simp only [tm72c, reg72c, code72c, rest72, Try.f72] at hr ⊢
      (refine Walk.oq ?_; try walk_nrm)
      refine hr _ _ ⟨upd u 6 (.bool hit), ?_, F.set (by decide) rfl rfl, .inr ⟨by rw [upd_ne _ _ (by decide)]; exact h9, fun j hj => by rw [upd_ne _ _ (by omega)]; exact hall j hj, w2.drawn, rfl⟩⟩
      simp [upd, e61]
  · rintro f a w' ⟨u, rfl, F, hw⟩ hall
    have hsz : reg72c.size = 11 := by kernel_rfl
    rcases hw with ⟨h, _⟩ | ⟨_, _, d, rfl⟩
    · rw [hall 9 (by rw [hsz]; omega)] at h; cases h
    · exact (hk u (F 10 6 _ (hall 10 (by rw [hsz]; omega)) rfl rfl)).back d
theorem reach_miss (W : Nat) (cr cb cv : Int) (sw len cap ca : Nat) (x : Value) (z v : Int) (w : World) (h0 : w.cell? ⟨W, 0, none⟩ = some (.slice (some ⟨sw, 0, none⟩) len cap)) (hlt : ca < len) (hc : w.cell? ⟨W, 2 + (cr % 4).toNat, none⟩ = some x) (hz : w.frozen? ⟨W, 2 + (cr % 4).toNat, none⟩ = false) (hf : Free V ⟨W, 2 + (cr % 4).toNat, none⟩) (hz2 : w.cell? ⟨W, 2 + (cb % 4).toNat, none⟩ = some (.int .i64 z)) (hv : w.cell? ⟨sw, ca, none⟩ = some (.int .i64 v)) (hvz : w.frozen? ⟨sw, ca, none⟩ = false) (hne : ¬ v = z) :
    CallV Try.prog main V 72 #[.pointer (some ⟨W, 0, none⟩), codeV 11 cr ca cb cv] w (.tuple #[]) ((boxW w 11 cr ca cb cv).setCell ⟨W, 2 + (cr % 4).toNat, none⟩ (.int .i64 0)) := by
  refine callW_in Try.func72 rfl fun fr cs => ?_
  refine head72 W 11 cr cb cv sw len cap ca (fr :: cs) w h0 hlt fun u e4 e5 => ?_
  obtain ⟨b0, b1, b2, b3, b4⟩ := box_cells w 11 cr ca cb cv
  obtain ⟨c1, c2⟩ := box_reg 11 cr ca cb cv hc
  rw [hz] at c2
  obtain ⟨cvv, cvz⟩ := box_reg 11 cr ca cb cv hv
  rw [hvz] at cvz
  have c3 := (box_reg 11 cr ca cb cv hz2).1
  generalize boxW w 11 cr ca cb cv = w1 at *
  simp only [tm72, rest72, Try.f72]
  rw [e4, e5]
  clear e4 e5
  repeat (first | refine Walk.c rfl ?_ | refine Walk.cR ?_ | refine Walk.cRet ?_ | refine Walk.cEnd ?_ | (refine Walk.oq ?_; try walk_nrm) | (refine Walk.un ?_; walk_nrm))
  have hcas : CallV Try.prog main V 64 #[.pointer (some ⟨sw, ca, none⟩), .int .i64 z, .int .i64 cv] w1 (.bool false) (w1) := cas64_miss _ v z cv w1 cvv cvz hne
  refine reg72c_walk W w.heap.size (codeV 11 cr ca cb cv) cr cb cv sw ca _ _ (fun k => ([undef, undef, undef, undef, undef, undef, u 6, u 7, u 8, u 9, u 10, u 11, u 12, u 13, u 14, u 15, u 16, u 17, .pointer (some ⟨w.heap.size, 0, none⟩), .int .i64 11, .bool false, .bool false, u 22, u 23, u 24, u 25, .bool false, .bool false, u 28, u 29, u 30, u 31, u 32, .bool false, .bool false, u 35, u 36, u 37, u 38, u 39, u 40, .bool false, .bool false, u 43, u 44, u 45, u 46, u 47, u 48, u 49, .bool true, .bool true, u 52, u 53, u 54, u 55, u 56, u 57, u 58, u 59, u 60, u 61, u 62, u 63, u 64, u 65, u 66] : List Value).getD k undef) w1 _ z false b3 b4 c3 hcas fun u e6 => ?_
  simp only [tm72c]
  rw [e6]
  clear e6
  repeat (first | refine Walk.c rfl ?_ | refine Walk.cR ?_ | refine Walk.cRet ?_ | refine Walk.cEnd ?_ | (refine Walk.oq ?_; try walk_nrm) | (refine Walk.un ?_; walk_nrm))
  (refine Walk.os hf c1 ?_; try walk_nrm)
  repeat (first | refine Walk.c rfl ?_ | refine Walk.cR ?_ | refine Walk.cRet ?_ | refine Walk.cEnd ?_ | (refine Walk.oq ?_; try walk_nrm) | (refine Walk.un ?_; walk_nrm))
  exact Walk.ret0 rfl rfl Try.func72 rfl fun d => ⟨rfl, d, rfl⟩
end
section
variable {main : Bool} {V : Nat → Option Wait}
theorem reach_hit (W : Nat) (cr cb cv : Int) (sw len cap ca : Nat) (x : Value) (z v : Int) (w : World) (h0 : w.cell? ⟨W, 0, none⟩ = some (.slice (some ⟨sw, 0, none⟩) len cap)) (hlt : ca < len) (hc : w.cell? ⟨W, 2 + (cr % 4).toNat, none⟩ = some x) (hz : w.frozen? ⟨W, 2 + (cr % 4).toNat, none⟩ = false) (hf : Free V ⟨W, 2 + (cr % 4).toNat, none⟩) (hz2 : w.cell? ⟨W, 2 + (cb % 4).toNat, none⟩ = some (.int .i64 z)) (hv : w.cell? ⟨sw, ca, none⟩ = some (.int .i64 v)) (hvz : w.frozen? ⟨sw, ca, none⟩ = false) (hvf : Free V ⟨sw, ca, none⟩) (hne : sw ≠ W) (heq : v = z) :
    CallV Try.prog main V 72 #[.pointer (some ⟨W, 0, none⟩), codeV 11 cr ca cb cv] w (.tuple #[]) ((((boxW w 11 cr ca cb cv).setCell ⟨sw, ca, none⟩ (.int .i64 cv)).setCell ⟨W, 2 + (cr % 4).toNat, none⟩ (.int .i64 0)).setCell ⟨W, 2 + (cr % 4).toNat, none⟩ (.int .i64 1)) := by
  refine callW_in Try.func72 rfl fun fr cs => ?_
  refine head72 W 11 cr cb cv sw len cap ca (fr :: cs) w h0 hlt fun u e4 e5 => ?_
  obtain ⟨b0, b1, b2, b3, b4⟩ := box_cells w 11 cr ca cb cv
  obtain ⟨c1, c2⟩ := box_reg 11 cr ca cb cv hc
  rw [hz] at c2
  obtain ⟨cvv, cvz⟩ := box_reg 11 cr ca cb cv hv
  rw [hvz] at cvz
  have c3 := (box_reg 11 cr ca cb cv hz2).1
  generalize boxW w 11 cr ca cb cv = w1 at *
  simp only [tm72, rest72, Try.f72]
  rw [e4, e5]
  clear e4 e5
  repeat (first | refine Walk.c rfl ?_ | refine Walk.cR ?_ | refine Walk.cRet ?_ | refine Walk.cEnd ?_ | (refine Walk.oq ?_; try walk_nrm) | (refine Walk.un ?_; walk_nrm))
  have hcas : CallV Try.prog main V 64 #[.pointer (some ⟨sw, ca, none⟩), .int .i64 z, .int .i64 cv] w1 (.bool true) (w1.setCell ⟨sw, ca, none⟩ (.int .i64 cv)) := by subst heq; exact cas64_hit _ v cv w1 cvv cvz hvf
  have c1' := (World.cell?_setCell_other w1 ⟨sw, ca, none⟩ ⟨W, 2 + (cr % 4).toNat, none⟩ (.int .i64 cv) (by simp [hne])).trans c1
  have c2' : (w1.setCell ⟨sw, ca, none⟩ (.int .i64 cv)).frozen? ⟨W, 2 + (cr % 4).toNat, none⟩ = false := by rw [World.frozen?_setCell]; exact c2
  refine reg72c_walk W w.heap.size (codeV 11 cr ca cb cv) cr cb cv sw ca _ _ (fun k => ([undef, undef, undef, undef, undef, undef, u 6, u 7, u 8, u 9, u 10, u 11, u 12, u 13, u 14, u 15, u 16, u 17, .pointer (some ⟨w.heap.size, 0, none⟩), .int .i64 11, .bool false, .bool false, u 22, u 23, u 24, u 25, .bool false, .bool false, u 28, u 29, u 30, u 31, u 32, .bool false, .bool false, u 35, u 36, u 37, u 38, u 39, u 40, .bool false, .bool false, u 43, u 44, u 45, u 46, u 47, u 48, u 49, .bool true, .bool true, u 52, u 53, u 54, u 55, u 56, u 57, u 58, u 59, u 60, u 61, u 62, u 63, u 64, u 65, u 66] : List Value).getD k undef) w1 _ z true b3 b4 c3 hcas fun u e6 => ?_
  simp only [tm72c]
  rw [e6]
  clear e6
  generalize w1.setCell ⟨sw, ca, none⟩ (.int .i64 cv) = w2 at *
  repeat (first | refine Walk.c rfl ?_ | refine Walk.cR ?_ | refine Walk.cRet ?_ | refine Walk.cEnd ?_ | (refine Walk.oq ?_; try walk_nrm) | (refine Walk.un ?_; walk_nrm))
  (refine Walk.os hf c1' ?_; try walk_nrm)
  have c3' := World.cell?_setCell_same w2 ⟨W, 2 + (cr % 4).toNat, none⟩ (.int .i64 0) c1'
  have c4' : (w2.setCell ⟨W, 2 + (cr % 4).toNat, none⟩ (.int .i64 0)).frozen? ⟨W, 2 + (cr % 4).toNat, none⟩ = false := by rw [World.frozen?_setCell]; exact c2'
  generalize w2.setCell ⟨W, 2 + (cr % 4).toNat, none⟩ (.int .i64 0) = w3 at *
  repeat (first | refine Walk.c rfl ?_ | refine Walk.cR ?_ | refine Walk.cRet ?_ | refine Walk.cEnd ?_ | (refine Walk.oq ?_; try walk_nrm) | (refine Walk.un ?_; walk_nrm))
  (refine Walk.os hf c3' ?_; try walk_nrm)
  repeat (first | refine Walk.c rfl ?_ | refine Walk.cR ?_ | refine Walk.cRet ?_ | refine Walk.cEnd ?_ | (refine Walk.oq ?_; try walk_nrm) | (refine Walk.un ?_; walk_nrm))
  exact Walk.ret0 rfl rfl Try.func72 rfl fun d => ⟨rfl, d, rfl⟩
end
end Go.Proofs.Ytgiiicdpbdfemaa
