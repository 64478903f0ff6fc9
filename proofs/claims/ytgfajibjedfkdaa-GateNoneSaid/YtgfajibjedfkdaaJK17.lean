/- Part 17. -/
import Derived.Test.YtgfajibjedfkdaaJK3
import Derived.Test.YtgfajibjedfkdaaJK16
import Derived.Lib.AppendZeros
set_option linter.unusedSimpArgs false
set_option linter.unusedVariables false
set_option linter.unusedVariables false
set_option maxHeartbeats 8000000
set_option maxRecDepth 100000
namespace Go.Proofs.Ytgfajibjedfkdaa
open Go.Conc Go.RowKit Go.Relay
open Go.ConcN (upd upd_ne upd_same)
section
theorem filter_eraseIdx : ∀ (l : List Int) (i : Nat) (p : Int), l.Nodup → l[i]? = some p → l.filter (fun z => decide (z ≠ p)) = l.eraseIdx i := by
  intro l
  induction l with
  | nil => intro i p _ h; simp at h
  | cons x l ih =>
    intro i p hn h
    rw [List.nodup_cons] at hn
    cases i with
    | zero =>
      have hx : x = p := by simpa using h
      subst hx
      simp only [List.eraseIdx_cons_zero, List.filter_cons, ne_eq, not_true_eq_false, decide_false, Bool.false_eq_true, if_false]
      refine List.filter_eq_self.2 fun z hz => ?_
      have : z ≠ x := fun e => hn.1 (e ▸ hz)
      simpa using this
    | succ i =>
      have h' : l[i]? = some p := by simpa using h
      have hp := List.mem_of_getElem? h'
      have hx : x ≠ p := fun e => hn.1 (e ▸ hp)
      simp only [List.eraseIdx_cons_succ, List.filter_cons, decide_eq_true hx, if_true]
      rw [ih i p hn.2 h']
noncomputable def reg126_0 := rg Try.f126.body [0]
noncomputable def reg126_1 := rg Try.f126.body [1, 0]
theorem z126 : List.range reg126_0.size = [0] ∧ List.range reg126_1.size = [0, 1, 2, 3] := by refine ⟨?_, ?_⟩ <;> kernel_rfl
theorem code126_is : Try.f126.body = some (.seq (.region 0 reg126_0 false) (.seq (.region 1 reg126_1 false) (.ret))) := by kernel_rfl
noncomputable def reg146_0 := rg Try.f146.body [0]
noncomputable def reg146_1 := rg Try.f146.body [1, 0, 0]
noncomputable def reg146_2 := rg Try.f146.body [1, 0, 1, 0, 0, 0]
noncomputable def reg146_3 := rg Try.f146.body [1, 0, 1, 0, 0, 1, 1, 0, 0, 0]
noncomputable def reg146_4 := rg Try.f146.body [1, 0, 1, 0, 0, 1, 1, 0, 0, 1, 0]
noncomputable def reg146_5 := rg Try.f146.body [1, 0, 1, 0, 0, 1, 1, 0, 0, 1, 1, 0, 0]
noncomputable def reg146_6 := rg Try.f146.body [1, 0, 1, 0, 0, 1, 1, 1]
noncomputable def reg146_7 := rg Try.f146.body [1, 1, 0]
theorem z146 : List.range reg146_0.size = [0] ∧ List.range reg146_1.size = [0, 1, 2] ∧ List.range reg146_2.size = [0] ∧ List.range reg146_3.size = [0, 1] ∧ List.range reg146_4.size = [0, 1, 2, 3, 4, 5] ∧ List.range reg146_5.size = [0, 1] ∧ List.range reg146_6.size = [0, 1] ∧ List.range reg146_7.size = [0] := by refine ⟨?_, ?_, ?_, ?_, ?_, ?_, ?_, ?_⟩ <;> kernel_rfl
theorem code146_is : Try.f146.body = some (.seq (.region 0 reg146_0 false) (.seq (.seq (.region 1 reg146_1 false) (.block 0 (.loop (.seq (.region 2 reg146_2 false) (.seq (.cond (.tmp 9 ) (.skip) (.exit 0)) (.seq (.block 1 (.seq (.region 3 reg146_3 false) (.seq (.region 4 reg146_4 false) (.cond (.tmp 16 ) (.seq (.region 5 reg146_5 false) (.ret)) (.skip))))) (.region 6 reg146_6 false))))))) (.seq (.region 7 reg146_7 false) (.ret)))) := by kernel_rfl
noncomputable def reg125_0 := rg Try.f125.body [0]
noncomputable def reg125_1 := rg Try.f125.body [1, 0]
noncomputable def reg125_2 := rg Try.f125.body [1, 1, 0, 0]
noncomputable def reg125_3 := rg Try.f125.body [1, 1, 0, 1, 0, 0]
noncomputable def reg125_4 := rg Try.f125.body [1, 1, 1, 0, 0]
noncomputable def reg125_5 := rg Try.f125.body [1, 1, 1, 0, 1, 0, 0, 0, 0]
noncomputable def reg125_7 := rg Try.f125.body [1, 1, 1, 0, 1, 0, 0, 1, 0, 0, 0]
noncomputable def reg125_8 := rg Try.f125.body [1, 1, 1, 0, 1, 0, 0, 1, 0, 0, 1, 0]
noncomputable def reg125_9 := rg Try.f125.body [1, 1, 1, 0, 1, 0, 0, 1, 0, 0, 1, 1, 0, 0]
noncomputable def reg125_10 := rg Try.f125.body [1, 1, 1, 0, 1, 0, 0, 1, 0, 0, 1, 1, 0, 1]
noncomputable def reg125_6 := rg Try.f125.body [1, 1, 1, 0, 1, 0, 0, 1, 1]
noncomputable def reg125_11 := rg Try.f125.body [1, 1, 1, 1, 0]
noncomputable def reg125_12 := rg Try.f125.body [1, 1, 1, 1, 1, 0]
theorem z125 : List.range reg125_0.size = [0] ∧ List.range reg125_1.size = [0, 1, 2, 3] ∧ List.range reg125_2.size = [0, 1] ∧ List.range reg125_3.size = [0, 1] ∧ List.range reg125_4.size = [0, 1, 2] ∧ List.range reg125_5.size = [0, 1, 2, 3] ∧ List.range reg125_6.size = [0, 1, 2] ∧ List.range reg125_7.size = [0, 1, 2, 3, 4] ∧ List.range reg125_8.size = [0, 1, 2, 3] ∧ List.range reg125_9.size = [0, 1, 2, 3, 4] ∧ List.range reg125_10.size = [0, 1, 2] ∧ List.range reg125_11.size = [0, 1, 2, 3] ∧ List.range reg125_12.size = [0, 1, 2, 3] := by refine ⟨?_, ?_, ?_, ?_, ?_, ?_, ?_, ?_, ?_, ?_, ?_, ?_, ?_⟩ <;> kernel_rfl
theorem code125_is : Try.f125.body = some (.seq (.region 0 reg125_0 false) (.seq (.region 1 reg125_1 false) (.seq (.seq (.region 2 reg125_2 false) (.cond (.tmp 12 ) (.seq (.region 3 reg125_3 false) (.ret)) (.skip))) (.seq (.seq (.region 4 reg125_4 false) (.block 0 (.loop (.seq (.seq (.region 5 reg125_5 false) (.cond (.tmp 19 ) (.skip) (.exit 0))) (.seq (.block 1 (.seq (.region 7 reg125_7 false) (.seq (.region 8 reg125_8 false) (.cond (.tmp 29 ) (.seq (.region 9 reg125_9 false) (.region 10 reg125_10 false)) (.skip))))) (.region 6 reg125_6 false)))))) (.seq (.region 11 reg125_11 false) (.seq (.region 12 reg125_12 false) (.ret))))))) := by kernel_rfl
noncomputable def reg97_0 := rg Try.f97.body [0]
noncomputable def reg97_1 := rg Try.f97.body [1, 0]
theorem z97 : List.range reg97_0.size = [0, 1] ∧ List.range reg97_1.size = [0, 1, 2, 3, 4] := by refine ⟨?_, ?_⟩ <;> kernel_rfl
theorem code97_is : Try.f97.body = some (.seq (.region 0 reg97_0 false) (.seq (.region 1 reg97_1 false) (.ret))) := by kernel_rfl
noncomputable def hdIf (sl : Value) (n P i : Nat) (u : Nat → Value) : Frame :=
  (base 146).at { tmps := #[sl, .func (.func 126) #[] #[.pointer (some ⟨P, 0, none⟩)], u 2, u 3, .int .i64 0, u 5, u 6, .int .i64 n, .int .i64 i, u 9, u 10, u 11, u 12, u 13, u 14, u 15, u 16, u 17, u 18], defers := [] } [.code (.seq (.region 2 reg146_2 false) (.seq (.cond (.tmp 9 ) (.skip) (.exit 0)) (.seq (.block 1 (.seq (.region 3 reg146_3 false) (.seq (.region 4 reg146_4 false) (.cond (.tmp 16 ) (.seq (.region 5 reg146_5 false) (.ret)) (.skip))))) (.region 6 reg146_6 false)))), .inLoop (.seq (.region 2 reg146_2 false) (.seq (.cond (.tmp 9 ) (.skip) (.exit 0)) (.seq (.block 1 (.seq (.region 3 reg146_3 false) (.seq (.region 4 reg146_4 false) (.cond (.tmp 16 ) (.seq (.region 5 reg146_5 false) (.ret)) (.skip))))) (.region 6 reg146_6 false)))), .inBlock 0, .code (.seq (.region 7 reg146_7 false) (.ret))]
noncomputable def hdDf (g n c P i j : Nat) (u : Nat → Value) : Frame :=
  (base 125).at { tmps := #[.slice (some ⟨g, 0, none⟩) n c, .func (.func 126) #[] #[.pointer (some ⟨P, 0, none⟩)], u 2, u 3, u 4, .int .i64 i, .int .i64 j, u 7, u 8, u 9, u 10, u 11, u 12, u 13, u 14, u 15, u 16, u 17, u 18, u 19, u 20, u 21, u 22, u 23, u 24, u 25, u 26, u 27, u 28, u 29, u 30, u 31, u 32, u 33, u 34, u 35, u 36, u 37, u 38, u 39, u 40, u 41], defers := [] } [.code (.seq (.seq (.region 5 reg125_5 false) (.cond (.tmp 19 ) (.skip) (.exit 0))) (.seq (.block 1 (.seq (.region 7 reg125_7 false) (.seq (.region 8 reg125_8 false) (.cond (.tmp 29 ) (.seq (.region 9 reg125_9 false) (.region 10 reg125_10 false)) (.skip))))) (.region 6 reg125_6 false))), .inLoop (.seq (.seq (.region 5 reg125_5 false) (.cond (.tmp 19 ) (.skip) (.exit 0))) (.seq (.block 1 (.seq (.region 7 reg125_7 false) (.seq (.region 8 reg125_8 false) (.cond (.tmp 29 ) (.seq (.region 9 reg125_9 false) (.region 10 reg125_10 false)) (.skip))))) (.region 6 reg125_6 false))), .inBlock 0, .code (.seq (.region 11 reg125_11 false) (.seq (.region 12 reg125_12 false) (.ret)))]
section
variable {main : Bool} {V : Nat → Option Wait}
theorem wo1_w (P : Nat) (x p : Int) (w : World) (hc : w.cell? ⟨P, 0, none⟩ = some (.int .i64 p)) : CallV Try.prog main V 126 #[.int .i64 x, .pointer (some ⟨P, 0, none⟩)] w (.bool (x == p)) w := by
  refine callW_in Try.func126 code126_is fun fr cs => ?_
  simp only [Try.ntmps126, ez, Nat.reduceAdd, Nat.reduceSub]
  repeat (first | refine Walk.cx ?_ | (refine Walk.cReg ?_; simp only [z126]) | (refine Walk.oq ?_; try walk_nrm) | (refine Walk.un ?_; walk_nrm))
  exact Walk.ret1 rfl rfl Try.func126 rfl fun d => ⟨rfl, d, rfl⟩
theorem if_in (a : Option Addr) (n ca P : Nat) (cs : List Frame) (w : World) :
    Walk Try.prog main (DR V) (fun g w' => (∃ u, g = G (hdIf (.slice a n ca) n P 0 u) cs) ∧ ∃ d, w' = w.at d) (G (Frame.enter Try.prog 146 #[.slice a n ca, .func (.func 126) #[] #[.pointer (some ⟨P, 0, none⟩)]] .normal) cs) w := by
  rw [enter_at _ Try.func146 code146_is]
  simp only [Try.ntmps146, ez, Nat.reduceAdd, Nat.reduceSub]
  repeat (first | refine Walk.cx ?_ | (refine Walk.cReg ?_; simp only [z146]) | (refine Walk.oq ?_; try walk_nrm) | (refine Walk.un ?_; walk_nrm))
  refine Walk.ctl rfl (fun w => stepG_loop) ?_
  refine .stop fun d => ⟨at_slots ?_, d, rfl⟩
  simp only [hdIf]
  rfl
theorem if_hit (ab ao n ca P i : Nat) (p : Int) (u : Nat → Value) (c : Frame) (cs : List Frame) (w : World) (hi : i < n) (hn : n ≤ 17592186044416) (ha : w.cell? ⟨ab, ao + i, none⟩ = some (.int .i64 p)) (hP : w.cell? ⟨P, 0, none⟩ = some (.int .i64 p)) :
    Walk Try.prog main (DR V) (fun g w' => g = G (c.finish (.int .i64 i)) cs ∧ ∃ d, w' = w.at d) (G (hdIf (.slice (some ⟨ab, ao, none⟩) n ca) n P i u) (c :: cs)) w := by
  have hi1 : decide ((i : Int) < n) = true := by simp; omega
  have hi3 : decide (i < n) = true := by simp; omega
  have hi4 : (i : Int) < n := by omega
  have hi0 : (0 : Int) ≤ i := by omega
  have hask := wo1_w (main := main) (V := V) P p p w hP
  have hpp : (p == p) = true := by simp
  rw [hpp] at hask
  clear hpp
  conv => arg 5; unfold hdIf
  repeat (first | refine Walk.cx ?_ | (refine Walk.cReg ?_; simp only [z146]) | (refine Walk.oq ?_; try walk_nrm) | (refine Walk.un ?_; walk_nrm))
  refine Walk.ctl rfl (fun w' => stepG_callValue (ho_of (by conv => lhs; whnf) (by kernel_rfl)) (by rfl) (by decide) rfl rfl Try.func126 (by kernel_rfl) (by rfl)) ?_
  walk_nrm
  generalize hX : Frame.at _ _ _ = X
  refine (hask X _).then ?_
  rintro _ _ ⟨v, ⟨rfl, d, rfl⟩, rfl⟩
  refine Walk.back ?_ d
  rw [← hX]
  clear hX hask
  refine Walk.finish (ho_of (by conv => lhs; whnf) (by kernel_rfl)) ?_
  walk_nrm
  repeat (first | refine Walk.cx ?_ | (refine Walk.cReg ?_; simp only [z146]) | (refine Walk.oq ?_; try walk_nrm) | (refine Walk.un ?_; walk_nrm))
  exact Walk.on1 rfl rfl Try.func146 rfl (.stop fun d => ⟨rfl, d, rfl⟩)
theorem if_go (ab ao n ca P i : Nat) (p x : Int) (hx : x ≠ p) (u : Nat → Value) (cs : List Frame) (w : World) (hi : i < n) (hn : n ≤ 17592186044416) (ha : w.cell? ⟨ab, ao + i, none⟩ = some (.int .i64 x)) (hP : w.cell? ⟨P, 0, none⟩ = some (.int .i64 p)) :
    Walk Try.prog main (DR V) (fun g w' => (∃ u', g = G (hdIf (.slice (some ⟨ab, ao, none⟩) n ca) n P (i + 1) u') cs) ∧ ∃ d, w' = w.at d) (G (hdIf (.slice (some ⟨ab, ao, none⟩) n ca) n P i u) cs) w := by
  have hi1 : decide ((i : Int) < n) = true := by simp; omega
  have hi3 : decide (i < n) = true := by simp; omega
  have hi4 : (i : Int) < n := by omega
  have hi0 : (0 : Int) ≤ i := by omega
  have hw1 : IntKind.wrap .i64 ((i : Int) + 1) = (i : Int) + 1 := by rw [IntKind.wrap_i64]; omega
  have hask := wo1_w (main := main) (V := V) P x p w hP
  have hb : (x == p) = false := by simpa using hx
  rw [hb] at hask
  clear hx hb
  conv => arg 5; unfold hdIf
  repeat (first | refine Walk.cx ?_ | (refine Walk.cReg ?_; simp only [z146]) | (refine Walk.oq ?_; try walk_nrm) | (refine Walk.un ?_; walk_nrm))
  refine Walk.ctl rfl (fun w' => stepG_callValue (ho_of (by conv => lhs; whnf) (by kernel_rfl)) (by rfl) (by decide) rfl rfl Try.func126 (by kernel_rfl) (by rfl)) ?_
  walk_nrm
  generalize hX : Frame.at _ _ _ = X
  refine (hask X _).then ?_
  rintro _ _ ⟨v, ⟨rfl, d, rfl⟩, rfl⟩
  refine Walk.back ?_ d
  rw [← hX]
  clear hX hask
  refine Walk.finish (ho_of (by conv => lhs; whnf) (by kernel_rfl)) ?_
  walk_nrm
  repeat (first | refine Walk.cx ?_ | (refine Walk.cReg ?_; simp only [z146]) | (refine Walk.oq ?_; try walk_nrm) | (refine Walk.un ?_; walk_nrm))
  refine Walk.ctl rfl (fun w => stepG_inLoop) ?_
  refine .stop fun d' => ⟨at_slots ?_, d', rfl⟩
  have hc : ((i + 1 : Nat) : Int) = (i : Int) + 1 := by simp
  simp only [hdIf, hc]
  rfl
theorem if_loop (a : Option Addr) (l : List Int) (ca P : Nat) (p : Int) (i0 : Nat) (h0 : l[i0]? = some p) (hne : ∀ k z, k < i0 → l[k]? = some z → z ≠ p) (hn : l.length ≤ 17592186044416) (c : Frame) (cs : List Frame) (w : World) (ha : NumA a l w) (hP : w.cell? ⟨P, 0, none⟩ = some (.int .i64 p)) : ∀ (r i : Nat) (u : Nat → Value), i + r = i0 →
    Walk Try.prog main (DR V) (fun g w' => g = G (c.finish (.int .i64 i0)) cs ∧ ∃ d, w' = w.at d) (G (hdIf (.slice a l.length ca) l.length P i u) (c :: cs)) w := by
  intro r
  induction r with
  | zero =>
    intro i u hi
    have hi : i = i0 := hi
    subst hi
    obtain ⟨ab, ao, rfl, h1⟩ := ha i _ h0
    exact if_hit ab ao l.length ca P i p u c cs w (List.getElem?_eq_some_iff.1 h0).1 hn h1 hP
  | succ r ih =>
    intro i u hi
    have hin : i < l.length := by have := (List.getElem?_eq_some_iff.1 h0).1; omega
    have hx := List.getElem?_eq_getElem hin
    obtain ⟨ab, ao, rfl, h1⟩ := ha i _ hx
    refine (if_go ab ao l.length ca P i p _ (hne i _ (by omega) hx) u (c :: cs) w hin hn h1 hP).then ?_
    rintro g w' ⟨⟨u', rfl⟩, d, rfl⟩
    exact Walk.back (ih (i + 1) u' (by omega)) d
theorem indexF_w (a : Option Addr) (l : List Int) (ca P : Nat) (p : Int) (i0 : Nat) (h0 : l[i0]? = some p) (hne : ∀ k z, k < i0 → l[k]? = some z → z ≠ p) (hn : l.length ≤ 17592186044416) (w : World) (ha : NumA a l w) (hP : w.cell? ⟨P, 0, none⟩ = some (.int .i64 p)) : CallV Try.prog main V 146 #[.slice a l.length ca, .func (.func 126) #[] #[.pointer (some ⟨P, 0, none⟩)]] w (.int .i64 i0) w := by
  intro fr cs
  refine (if_in a l.length ca P (fr :: cs) w).then ?_
  rintro g w1 ⟨⟨u, rfl⟩, d, rfl⟩
  refine Walk.back ?_ d
  refine (if_loop a l ca P p i0 h0 hne hn fr cs w ha hP i0 0 u (by omega)).mono ?_
  rintro g w' ⟨rfl, d, rfl⟩
  exact ⟨_, ⟨rfl, d, rfl⟩, rfl⟩
structure DfM (g n c : Nat) (f : Nat → Int) (w : World) : Prop where
  row : ∃ cur : Array Value, w.heap[g]? = some (.cells cur 3) ∧ cur.size = c ∧ ∀ k, k < n → cur[k]? = some (.int .i64 (f k))
  le : n ≤ c ∧ c ≤ maxLen
theorem DfM.cell {g n c : Nat} {f : Nat → Int} {w : World} (h : DfM g n c f w) {k : Nat} (hk : k < n) : w.cell? ⟨g, k, none⟩ = some (.int .i64 (f k)) ∧ w.frozen? ⟨g, k, none⟩ = false := by
  obtain ⟨cur, h1, h2, h3⟩ := h.row
  exact ⟨(cell_of h1 k).trans (h3 k hk), frozen_of h1 k⟩
theorem DfM.set {g n c : Nat} {f : Nat → Int} {w : World} (h : DfM g n c f w) {k : Nat} (hk : k < n) (v : Int) : DfM g n c (upd f k v) (w.setCell ⟨g, k, none⟩ (.int .i64 v)) := by
  obtain ⟨cur, h1, h2, h3⟩ := h.row
  have := h.le
  refine ⟨⟨_, heap_set_self _ _ h1, by simp [h2], fun j hj => ?_⟩, h.le⟩
  by_cases e : j = k
  · subst e
    rw [upd_same]
    exact Array.getElem?_setIfInBounds_self_of_lt (by omega)
  · rw [upd_ne _ _ e, Array.getElem?_setIfInBounds_ne (by omega)]
    exact h3 j hj
theorem DfM.ext {g n c : Nat} {f f' : Nat → Int} {w : World} (h : DfM g n c f w) (e : ∀ k, k < n → f k = f' k) : DfM g n c f' w := by
  obtain ⟨cur, h1, h2, h3⟩ := h.row
  exact ⟨⟨cur, h1, h2, fun k hk => by rw [← e k hk]; exact h3 k hk⟩, h.le⟩
def dfV (f : Nat → Int) (i0 i k : Nat) : Int := if i0 ≤ k ∧ k < i then f (k + 1) else f k
theorem df_go (g n c P i : Nat) (p : Int) (f : Nat → Int) (x : Int) (hfx : f (i + 1) = x) (hx : x ≠ p) (u : Nat → Value) (cs : List Frame) (w : World) (hi : i + 1 < n) (hn : n ≤ 17592186044416) (M : DfM g n c f w) (hP : w.cell? ⟨P, 0, none⟩ = some (.int .i64 p)) (hap : Apart V g) :
    Walk Try.prog main (DR V) (fun gr w' => (∃ u', gr = G (hdDf g n c P (i + 1) (i + 1 + 1) u') cs) ∧ ∃ d, w' = (w.setCell ⟨g, i, none⟩ (.int .i64 x)).at d) (G (hdDf g n c P i (i + 1) u) cs) w := by
  obtain ⟨j, hj⟩ : ∃ j, i + 1 = j := ⟨_, rfl⟩
  obtain ⟨c1, _⟩ := M.cell (k := j) (by omega)
  obtain ⟨c2, z2⟩ := M.cell (k := i) (by omega)
  rw [← hj, hfx, hj] at c1
  rw [hj]
  have hi1 : decide ((i : Int) < n) = true := by simp; omega
  have hi3 : decide (i < n) = true := by simp; omega
  have hi4 : (i : Int) < n := by omega
  have hi0 : (0 : Int) ≤ i := by omega
  have hj1 : decide ((j : Int) < n) = true := by simp; omega
  have hj3 : decide (j < n) = true := by simp; omega
  have hj4 : (j : Int) < n := by omega
  have hj0 : (0 : Int) ≤ j := by omega
  have hw1 : IntKind.wrap .i64 ((i : Int) + 1) = (j : Int) := by rw [IntKind.wrap_i64]; omega
  have hw2 : IntKind.wrap .i64 ((j : Int) + 1) = (j : Int) + 1 := by rw [IntKind.wrap_i64]; omega
  have hask := wo1_w (main := main) (V := V) P x p w hP
  have hb : (x == p) = false := by simpa using hx
  have hc : ((j + 1 : Nat) : Int) = (j : Int) + 1 := by simp
  rw [hb] at hask
  clear hx hb M hP hfx hj hi
  conv => arg 5; unfold hdDf
  repeat (first | refine Walk.cx ?_ | (refine Walk.cReg ?_; simp only [z125]) | (refine Walk.oq ?_; try walk_nrm) | (refine Walk.un ?_; walk_nrm))
  refine Walk.ctl rfl (fun w' => stepG_callValue (ho_of (by conv => lhs; whnf) (by kernel_rfl)) (by rfl) (by decide) rfl rfl Try.func126 (by kernel_rfl) (by rfl)) ?_
  walk_nrm
  generalize hX : Frame.at _ _ _ = X
  refine (hask X _).then ?_
  rintro _ _ ⟨v, ⟨rfl, d, rfl⟩, rfl⟩
  refine Walk.back ?_ d
  rw [← hX]
  clear hX hask
  refine Walk.finish (ho_of (by conv => lhs; whnf) (by kernel_rfl)) ?_
  walk_nrm
  repeat (first | refine Walk.cx ?_ | (refine Walk.cReg ?_; simp only [z125]) | (refine Walk.oq ?_; try walk_nrm) | (refine Walk.un ?_; walk_nrm))
  (have hfr := hap.1 ⟨g, i, none⟩ rfl; refine Walk.os hfr c2 ?_; clear hfr; try walk_nrm)
  generalize w.setCell ⟨g, i, none⟩ (.int .i64 x) = w2 at *
  clear c1 c2 z2
  repeat (first | refine Walk.cx ?_ | (refine Walk.cReg ?_; simp only [z125]) | (refine Walk.oq ?_; try walk_nrm) | (refine Walk.un ?_; walk_nrm))
  refine Walk.ctl rfl (fun w => stepG_inLoop) ?_
  refine .stop fun d' => ⟨at_slots ?_, d', rfl⟩
  simp only [hdDf, hc]
  rfl
end
end
section
section
variable {main : Bool} {V : Nat → Option Wait}
theorem df_out (g m c P : Nat) (f : Nat → Int) (u : Nat → Value) (cc : Frame) (cs : List Frame) (w : World) (hn : m + 1 ≤ 17592186044416) (M : DfM g (m + 1) c f w) (hap : Apart V g) :
    Walk Try.prog main (DR V) (fun gr w' => gr = G (cc.finish (.slice (some ⟨g, 0, none⟩) m c)) cs ∧ DfM g m c f w' ∧ (∀ b, b ≠ g → w'.heap[b]? = w.heap[b]?) ∧ w'.heap.size = w.heap.size) (G (hdDf g (m + 1) c P m (m + 1) u) (cc :: cs)) w := by
  obtain ⟨ti, hti, htz⟩ : ∃ ti, Try.prog.info? 3 = some ti ∧ ti.size = 1 := by
    obtain ⟨ti, h⟩ := Option.isSome_iff_exists.1 (show (Try.prog.info? 3).isSome = true by kernel_rfl)
    have h2 : (Try.prog.info? 3).map (·.size) = some 1 := by kernel_rfl
    rw [h] at h2
    exact ⟨ti, h, Option.some.inj h2⟩
  have hz : ti.zero = some (.int .i64 0) := by
    have h2 : (Try.prog.info? 3).map (·.zero) = some (some (.int .i64 0)) := by kernel_rfl
    rw [hti] at h2
    exact Option.some.inj h2
  obtain ⟨cur, h1, h2, h3⟩ := M.row
  have hle := M.le
  obtain ⟨a', ha', hf⟩ := run_from huIn hti htz g 0 m 1 c (by omega)
  obtain rfl := ha' (by omega)
  have hs1 := fun w => (hf w #[]).1
  have hs2 := fun w es => (hf w es).2
  have hu1 := fun w => (run_upto huIn hti htz g 0 m (m + 1) c (by omega) (by omega) (by omega) w #[]).1
  have hu2 := fun w es => (run_upto huIn hti htz g 0 m (m + 1) c (by omega) (by omega) (by omega) w es).2
  have hj1 : decide (((m + 1 : Nat) : Int) < ((m + 1 : Nat) : Int)) = false := by simp
  have hj3 : decide (m + 1 < m + 1) = false := by simp
  obtain ⟨n, hmn⟩ : ∃ n, m + 1 = n := ⟨_, rfl⟩
  have hM' : DfM g m c f (w.setRow g (cur.toList.take m ++ (Builtin.zeroCells (Value.int .i64 0).cells 1).toList ++ cur.toList.drop (m + 1)).toArray) := by
    refine ⟨⟨_, setRow_self h1, ?_, fun k hk => ?_⟩, by omega⟩
    · simp [Builtin.zeroCells, Value.cells]
      omega
    · have hk1 := h3 k (by omega)
      rw [List.getElem?_toArray, List.append_assoc, List.getElem?_append_left (by simp; omega), List.getElem?_take, if_pos hk]
      simpa using hk1
  have hO := fun b (hb : b ≠ g) => setRow_other w (cur.toList.take m ++ (Builtin.zeroCells (Value.int .i64 0).cells 1).toList ++ cur.toList.drop (m + 1)).toArray hb
  have hS := setRow_size w g (cur.toList.take m ++ (Builtin.zeroCells (Value.int .i64 0).cells 1).toList ++ cur.toList.drop (m + 1)).toArray
  have hfit : m + (0 + 1) ≤ cur.size := by omega
  rw [Nat.zero_add] at hs1
  rw [hmn] at hj1 hj3 hs1 hs2 hu1 hu2 ⊢
  clear hf h3 M
  conv => arg 5; unfold hdDf
  repeat (first | refine Walk.cx ?_ | (refine Walk.cReg ?_; simp only [z125]) | (refine Walk.oq ?_; try walk_nrm) | (refine Walk.un ?_; walk_nrm))
  refine Walk.clear (.tmp 38) 57 3 (ho_of (by conv => lhs; whnf) (by kernel_rfl)) (by rfl) (by decide) rfl ti (.int .i64 0) huIn hti hz (by rfl) (fun n v hv => ?_) g m 0 (c - m) rfl cur 3 h1 hfit hap ?_
  · simp [Builtin.zeroCells, Value.cells] at hv
    obtain ⟨_, _, rfl⟩ := hv
    rw [Nat.mod_one]
    rfl
  simp only [Nat.zero_add] at hM' hO hS ⊢
  generalize w.setRow g (cur.toList.take m ++ (Builtin.zeroCells (Value.int .i64 0).cells 1).toList ++ cur.toList.drop (m + 1)).toArray = w2 at *
  walk_nrm
  repeat (first | refine Walk.cx ?_ | (refine Walk.cReg ?_; simp only [z125]) | (refine Walk.oq ?_; try walk_nrm) | (refine Walk.un ?_; walk_nrm))
  exact Walk.on1 rfl rfl Try.func125 rfl (.stop fun d => ⟨rfl, ⟨by
    obtain ⟨cur, x1, x2, x3⟩ := hM'.row
    exact ⟨cur, x1, x2, x3⟩, hM'.le⟩, hO, hS⟩)
theorem df_in (g n c P i0 : Nat) (hn : n ≤ 17592186044416) (hi : i0 < n) (cs : List Frame) (w : World) (hidx : CallV Try.prog main V 146 #[.slice (some ⟨g, 0, none⟩) n c, .func (.func 126) #[] #[.pointer (some ⟨P, 0, none⟩)]] w (.int .i64 i0) w) :
    Walk Try.prog main (DR V) (fun gr w' => (∃ u, gr = G (hdDf g n c P i0 (i0 + 1) u) cs) ∧ ∃ d, w' = w.at d) (G (Frame.enter Try.prog 125 #[.slice (some ⟨g, 0, none⟩) n c, .func (.func 126) #[] #[.pointer (some ⟨P, 0, none⟩)]] .normal) cs) w := by
  have hw1 : IntKind.wrap .i64 ((i0 : Int) + 1) = (i0 : Int) + 1 := by rw [IntKind.wrap_i64]; omega
  have hm1 : ((i0 : Int) == -1) = false := by rw [beq_eq_false_iff_ne]; omega
  have hc : ((i0 + 1 : Nat) : Int) = (i0 : Int) + 1 := by simp
  rw [enter_at _ Try.func125 code125_is]
  simp only [Try.ntmps125, ez, Nat.reduceAdd, Nat.reduceSub]
  repeat (first | refine Walk.cx ?_ | (refine Walk.cReg ?_; simp only [z125]) | (refine Walk.oq ?_; try walk_nrm) | (refine Walk.un ?_; walk_nrm))
  refine Walk.callV (x := .int .i64 i0) (W := w) ?_ (ho_of (by conv => lhs; whnf) (by kernel_rfl)) (by rfl) (by decide) rfl Try.func146 (by kernel_rfl) (by rfl) ?_
  · walk_nrm
    exact hidx
  walk_nrm
  clear hidx
  repeat (first | refine Walk.cx ?_ | (refine Walk.cReg ?_; simp only [z125]) | (refine Walk.oq ?_; try walk_nrm) | (refine Walk.un ?_; walk_nrm))
  refine Walk.ctl rfl (fun w => stepG_loop) ?_
  refine .stop fun d' => ⟨at_slots ?_, d', rfl⟩
  simp only [hdDf, hc]
  rfl
theorem df_loop (g c P i0 m : Nat) (p : Int) (f : Nat → Int) (hne : ∀ k, i0 < k → k < m + 1 → f k ≠ p) (hi0 : i0 ≤ m) (hn : m + 1 ≤ 17592186044416) (hap : Apart V g) (hPg : P ≠ g) (cc : Frame) (cs : List Frame) : ∀ (r i : Nat) (u : Nat → Value) (w : World), i + r = m → i0 ≤ i → DfM g (m + 1) c (dfV f i0 i) w → w.cell? ⟨P, 0, none⟩ = some (.int .i64 p) →
    Walk Try.prog main (DR V) (fun gr w' => gr = G (cc.finish (.slice (some ⟨g, 0, none⟩) m c)) cs ∧ DfM g m c (dfV f i0 m) w' ∧ (∀ b, b ≠ g → w'.heap[b]? = w.heap[b]?) ∧ w'.heap.size = w.heap.size) (G (hdDf g (m + 1) c P i (i + 1) u) (cc :: cs)) w := by
  intro r
  induction r with
  | zero =>
    intro i u w hi hii M hP
    have hi : i = m := hi
    subst hi
    exact df_out g i c P _ u cc cs w hn M hap
  | succ r ih =>
    intro i u w hi hii M hP
    have hfx : dfV f i0 i (i + 1) = f (i + 1) := by unfold dfV; rw [if_neg (by omega)]
    refine (df_go g (m + 1) c P i p (dfV f i0 i) _ hfx (hne (i + 1) (by omega) (by omega)) u (cc :: cs) w (by omega) hn M hP hap).then ?_
    rintro gr w' ⟨⟨u', rfl⟩, d, rfl⟩
    refine Walk.back ?_ d
    have M1 := (M.set (k := i) (by omega) (f (i + 1))).ext (f' := dfV f i0 (i + 1)) (fun k hk => by
      by_cases e : k = i
      · subst e
        rw [upd_same]
        unfold dfV
        rw [if_pos (by omega)]
      · rw [upd_ne _ _ e]
        unfold dfV
        by_cases h : i0 ≤ k ∧ k < i
        · rw [if_pos h, if_pos (by omega)]
        · rw [if_neg h, if_neg (by omega)])
    have hP1 : (w.setCell ⟨g, i, none⟩ (.int .i64 (f (i + 1)))).cell? ⟨P, 0, none⟩ = some (.int .i64 p) := (World.cell?_of_block (a := ⟨P, 0, none⟩) (heap_set_other _ _ _ _ hPg)).trans hP
    refine (ih (i + 1) u' _ (by omega) (by omega) M1 hP1).mono ?_
    rintro gr w' ⟨rfl, M2, hO, hS⟩
    exact ⟨rfl, M2, fun b hb => (hO b hb).trans (heap_set_other _ _ _ _ hb), hS.trans (size_set ..)⟩
theorem deleteF_w (g c P i0 m : Nat) (p : Int) (l : List Int) (hl : l.length = m + 1) (h0 : l[i0]? = some p) (hnd : l.Nodup) (hn : m + 1 ≤ 17592186044416) (hap : Apart V g) (hPg : P ≠ g) (w : World) (M : DfM g (m + 1) c (fun k => l.getD k 0) w) (hP : w.cell? ⟨P, 0, none⟩ = some (.int .i64 p)) :
    CallW Try.prog main V 125 #[.slice (some ⟨g, 0, none⟩) (m + 1) c, .func (.func 126) #[] #[.pointer (some ⟨P, 0, none⟩)]] w (fun v w' => v = .slice (some ⟨g, 0, none⟩) m c ∧ DfM g m c (fun k => (l.eraseIdx i0).getD k 0) w' ∧ (∀ b, b ≠ g → w'.heap[b]? = w.heap[b]?) ∧ w'.heap.size = w.heap.size) := by
  intro fr cs
  have hi0 : i0 < m + 1 := by have := (List.getElem?_eq_some_iff.1 h0).1; omega
  have hinj : ∀ k z, l[k]? = some z → k ≠ i0 → z ≠ p := fun k z hk hne e => by
    subst e
    have a1 := (List.getElem?_eq_some_iff.1 hk)
    have a2 := (List.getElem?_eq_some_iff.1 h0)
    obtain ⟨b1, c1⟩ := a1
    obtain ⟨b2, c2⟩ := a2
    have hp := List.pairwise_iff_getElem.1 hnd
    rcases Nat.lt_or_gt_of_ne hne with h | h
    · exact hp k i0 b1 b2 h (c1.trans c2.symm)
    · exact hp i0 k b2 b1 h (c2.trans c1.symm)
  have hnum : NumA (some ⟨g, 0, none⟩) l w := fun j z hj => by
    have hlt := (List.getElem?_eq_some_iff.1 hj).1
    refine ⟨g, 0, rfl, ?_⟩
    rw [Nat.zero_add, (M.cell (k := j) (by omega)).1]
    simp [hj]
  have hidx := indexF_w (main := main) (V := V) (some ⟨g, 0, none⟩) l c P p i0 h0 (fun k z hk hz => hinj k z hz (by omega)) (by omega) w hnum hP
  rw [hl] at hidx
  refine (df_in g (m + 1) c P i0 hn hi0 (fr :: cs) w hidx).then ?_
  rintro gr w1 ⟨⟨u, rfl⟩, d, rfl⟩
  refine Walk.back ?_ d
  refine (df_loop g c P i0 m p (fun k => l.getD k 0) (fun k hk hkm => ?_) (by omega) hn hap hPg fr cs (m - i0) i0 u w (by omega) (Nat.le_refl _) (M.ext fun k _ => by unfold dfV; rw [if_neg (by omega)]) hP).mono ?_
  · have hx := List.getElem?_eq_getElem (l := l) (i := k) (by omega)
    have := hinj k _ hx (by omega)
    simpa [hx] using this
  · rintro gr w' ⟨rfl, M2, hO, hS⟩
    refine ⟨_, ⟨rfl, M2.ext fun k hk => ?_, hO, hS⟩, rfl⟩
    unfold dfV
    rw [List.getD_eq_getElem?_getD, List.getElem?_eraseIdx]
    by_cases h : k < i0
    · rw [if_pos h, if_neg (by omega)]
      exact List.getD_eq_getElem?_getD ..
    · rw [if_neg h, if_pos (by omega)]
      exact List.getD_eq_getElem?_getD ..
theorem LsI.numA {base : Nat} {P : Nat → Prop} {a : Option Addr} {n c : Nat} {l : List Int} {w : World} (h : w.ownsRow base 3 1 (.slice a n c) l.length (l.map fun z => .int .i64 z)) : NumA a l w := by
  intro j z hj
  rcases h.2 with ⟨e, e0⟩ | ⟨g, cap, cur, e, _, hg, _, _, _, ht⟩
  · have := (List.getElem?_eq_some_iff.1 hj).1
    omega
  · cases e
    refine ⟨g, 0, rfl, ?_⟩
    rw [Nat.zero_add, cell_of hg j]
    have hlt := (List.getElem?_eq_some_iff.1 hj).1
    have h2 : (cur.toList.take (l.length * 1))[j]? = some (.int .i64 z) := by
      rw [ht, List.getElem?_map, hj]
      rfl
    rw [List.getElem?_take, if_pos (by omega)] at h2
    simpa using h2
end
end
section
section
variable {main : Bool} {V : Nat → Option Wait}
theorem without_core (a : Option Addr) (n ca : Nat) (p : Int) (w : World) (C : World → Value → World → Prop) (D : Value → World → Prop) (hD : ∀ v w' d, D v w' → D v (w'.at d))
    (hcl : ∀ w1 : World, w1 = w.alloc (.cells #[.int .i64 p] 3) → CallW Try.prog main V 105 #[.slice a n ca] w1 (C w1))
    (hdl : ∀ (w1 w2 : World) (v : Value), w1 = w.alloc (.cells #[.int .i64 p] 3) → C w1 v w2 → CallW Try.prog main V 125 #[v, .func (.func 126) #[] #[.pointer (some ⟨w.heap.size, 0, none⟩)]] w2 D) :
    CallW Try.prog main V 97 #[.slice a n ca, .int .i64 p] w D := by
  obtain ⟨P, hP⟩ : ∃ P, w.heap.size = P := ⟨_, rfl⟩
  rw [hP] at hdl
  have h1 := hcl _ rfl
  have h2 := fun w2 v => hdl _ w2 v rfl
  clear hcl hdl
  refine callW_in Try.func97 code97_is fun fr cs => ?_
  simp only [Try.ntmps97, ez, Nat.reduceAdd, Nat.reduceSub]
  repeat (first | refine Walk.cx ?_ | (refine Walk.cReg ?_; simp only [z97]) | (refine Walk.oq ?_; try walk_nrm) | (refine Walk.un ?_; walk_nrm))
  (refine Walk.oa ?_; try walk_nrm)
  generalize w.alloc (.cells #[.int .i64 p] 3) = w1 at *
  clear hP
  repeat (first | refine Walk.cx ?_ | (refine Walk.cReg ?_; simp only [z97]) | (refine Walk.oq ?_; try walk_nrm) | (refine Walk.un ?_; walk_nrm))
  refine Walk.callW (Post := C w1) ?_ (ho_of (by conv => lhs; whnf) (by kernel_rfl)) (by rfl) (by decide) rfl Try.func105 (by kernel_rfl) (by rfl) ?_
  · walk_nrm
    exact h1
  intro v w2 hC
  have h3 := h2 w2 v hC
  clear h1 h2 hC
  walk_nrm
  repeat (first | refine Walk.cx ?_ | (refine Walk.cReg ?_; simp only [z97]) | (refine Walk.oq ?_; try walk_nrm) | (refine Walk.un ?_; walk_nrm))
  refine Walk.callW (Post := D) ?_ (ho_of (by conv => lhs; whnf) (by kernel_rfl)) (by rfl) (by decide) rfl Try.func125 (by kernel_rfl) (by rfl) ?_
  · walk_nrm
    exact h3
  intro v3 w3 hD3
  clear h3
  walk_nrm
  repeat (first | refine Walk.cx ?_ | (refine Walk.cReg ?_; simp only [z97]) | (refine Walk.oq ?_; try walk_nrm) | (refine Walk.un ?_; walk_nrm))
  exact Walk.on1 rfl rfl Try.func97 rfl (.stop fun d => ⟨_, hD _ _ d hD3, rfl⟩)
theorem without_w (a : Option Addr) (ca : Nat) (l : List Int) (p : Int) (hok : okL l) (hp : p ∈ l) (w : World) (hrow : w.ownsRow 0 3 1 (.slice a l.length ca) l.length (l.map fun z => .int .i64 z)) (hA : ∀ b, w.heap.size ≤ b → Apart V b) :
    CallW Try.prog main V 97 #[.slice a l.length ca, .int .i64 p] w (fun v w' => ∃ g c, v = .slice (some ⟨g, 0, none⟩) (l.filter fun z => decide (z ≠ p)).length c ∧ w.heap.size ≤ g ∧ g < w'.heap.size ∧ w'.ownsRow 0 3 1 v (l.filter fun z => decide (z ≠ p)).length ((l.filter fun z => decide (z ≠ p)).map fun z => .int .i64 z) ∧ (∀ b, b < w.heap.size → w'.heap[b]? = w.heap[b]?) ∧ w.heap.size ≤ w'.heap.size) := by
  obtain ⟨i0, h0⟩ := List.mem_iff_getElem?.1 hp
  obtain ⟨m, hm⟩ : ∃ m, l.length = m + 1 := ⟨l.length - 1, by have := (List.getElem?_eq_some_iff.1 h0).1; omega⟩
  have h64 := hok.len
  have hfe := filter_eraseIdx l i0 p hok.1 h0
  rw [hfe]
  have hel : (l.eraseIdx i0).length = m := by rw [List.length_eraseIdx]; have := (List.getElem?_eq_some_iff.1 h0).1; rw [if_pos this]; omega
  have c1 := heap_alloc_new w (.cells #[.int .i64 p] 3)
  have s1 : (w.alloc (.cells #[.int .i64 p] 3)).heap.size = w.heap.size + 1 := by simp
  have o1 : ∀ b, b < w.heap.size → (w.alloc (.cells #[.int .i64 p] 3)).heap[b]? = w.heap[b]? := fun b hb => heap_new_lt _ _ hb
  have hrow1 := row_same hrow fun b hb => o1 b (hrow.lt b hb).2
  have hls : LsR (.slice a l.length ca) l (w.alloc (.cells #[.int .i64 p] 3)) := by
    refine ⟨a, ca, rfl, ?_, ?_, LsI.numA (P := fun _ => True) hrow1⟩
    · rcases hrow.2 with ⟨e, e0⟩ | ⟨g, cap, cur, e, _, hg, hle, _⟩
      · omega
      · injection e with _ _ e3
        rw [e3]; exact hle
    · intro e
      rcases hrow.2 with ⟨e2, e0⟩ | ⟨g, cap, cur, e2, _⟩
      · injection e2 with _ _ e5
      · rw [e] at e2; injection e2 with e3; cases e3
  refine without_core a l.length ca p w (fun w1 v w' => LsI w1.heap.size (fun b => w1.heap.size ≤ b ∧ b < w'.heap.size) v l w' ∧ w1.heap.size ≤ w'.heap.size ∧ ∀ b, b < w1.heap.size → w'.heap[b]? = w1.heap[b]?) _ ?_ ?_ ?_
  · rintro v w' d ⟨g, c, e, x1, x2, x3, x4, x5⟩
    exact ⟨g, c, e, x1, x2, x3, x4, x5⟩
  · rintro w1 rfl
    exact cloneI_w _ _ l hls (by omega) (fun b hb => hA b (by omega))
  rintro w1 w2 v rfl ⟨⟨a2, c2, rfl, _, hr2⟩, hs2, ho2⟩
  obtain ⟨hr2, _⟩ := hr2 trivial
  rcases hr2.2 with ⟨_, e0⟩ | ⟨g, cap, cur, e, hg1, hg, hle, hmx, hcs, hrest⟩
  · omega
  injection e with e1 e2 e3
  subst e1
  subst e3
  have M : DfM g (m + 1) c2 (fun k => l.getD k 0) w2 := ⟨⟨cur, hg, by omega, fun k hk => by
    have h2 : (cur.toList.take (l.length * 1))[k]? = some (.int .i64 (l.getD k 0)) := by
      have hkk : k < l.length := by omega
      rw [hrest, List.getElem?_map, List.getD_eq_getElem?_getD, List.getElem?_eq_getElem hkk]
      rfl
    rw [List.getElem?_take, if_pos (by omega)] at h2
    simpa using h2⟩, by omega, hmx⟩
  have hgl := (Array.getElem?_eq_some_iff.1 hg).1
  have hP2 : w2.cell? ⟨w.heap.size, 0, none⟩ = some (.int .i64 p) := (World.cell?_of_block (a := ⟨w.heap.size, 0, none⟩) (ho2 w.heap.size (by omega))).trans ((cell_of c1 0).trans rfl)
  rw [hm]
  refine fun fr cs => (deleteF_w (main := main) (V := V) g c2 w.heap.size i0 m p l hm h0 hok.1 (by omega) (hA g (by omega)) (by omega) w2 M hP2 fr cs).mono ?_
  rintro gr w3 ⟨v, ⟨rfl, M3, ho3, hs3⟩, rfl⟩
  refine ⟨_, ⟨g, c2, by rw [hel], by omega, by omega, ?_, fun b hb => ?_, by omega⟩, rfl⟩
  · obtain ⟨cur3, x1, x2, x3⟩ := M3.row
    refine ⟨by simp, .inr ⟨g, c2, cur3, by rw [hel], Nat.zero_le _, x1, by have := M3.le; omega, M3.le.2, by omega, ?_⟩⟩
    refine List.ext_getElem? fun k => ?_
    rw [List.getElem?_take, List.getElem?_map, hel]
    by_cases hk : k < m * 1
    · rw [if_pos hk]
      have := x3 k (by omega)
      have hkk : k < (l.eraseIdx i0).length := by omega
      rw [Array.getElem?_toList, this, List.getD_eq_getElem?_getD, List.getElem?_eq_getElem hkk]
      rfl
    · rw [if_neg hk, List.getElem?_eq_none (by omega : (l.eraseIdx i0).length ≤ k)]
      rfl
  · exact (ho3 b (by omega)).trans ((ho2 b (by omega)).trans (o1 b hb))
end
end
end Go.Proofs.Ytgfajibjedfkdaa
namespace Go.Relay
section
open Go.Conc
section
variable {P : Program} {o : Oper} {a : Act} {K : Act → World → Prop} {w w' : World} {v xv v' : Value}
theorem uponK_append2 (s x : Operand) (t tn : TypeId) (ho : o.op = .call { callee := .builtin .append, args := #[s, x], argTypes := #[t, tn] }) (hs : a.eval s = v) (hx : a.eval x = xv)
    (hr : (Builtin.append_ #[t, tn] o.type #[v, xv]).run P w = .ok v' w') (h : K (a.put o.dst v') w') : uponK o a K ((execOp a.eval o).run P w) := by
  unfold execOp
  simp only [ho, resolve, invoke, builtin, Sem.run_bind, Sem.run_pure, Result.andThen_ok, List.map_toArray, List.map_cons, List.map_nil, hs, hx, hr]
  exact h
theorem events_append_op2 (s x : Operand) (t tn : TypeId) (ho : o.op = .call { callee := .builtin .append, args := #[s, x], argTypes := #[t, tn] }) (hs : a.eval s = v) (hx : a.eval x = xv) (es : Array Event) :
    (execOp a.eval o).events P w es = (Builtin.append_ #[t, tn] o.type #[v, xv]).events P w es := by
  unfold execOp
  simp only [ho, resolve, invoke, builtin, Sem.events_bind, Sem.run_pure, Sem.events_pure, Result.evThen_ok, List.map_toArray, List.map_cons, List.map_nil, hs, hx]
  cases (Builtin.append_ #[t, tn] o.type #[v, xv]).run P w <;> rfl
theorem ev_append_zeros (w : World) (t tn ty e : TypeId) (i : TypeInfo) (z : Value) (k kn : IntKind) (ht : P.underlying t = some (.slice e)) (htn : P.underlying tn = some (.int kn)) (hi : P.info? e = some i) (hz : i.zero = some z)
    (n : Nat) (h0 : 0 < n) (hs : 0 < i.size) (h63 : (n : Int) ≤ 9223372036854775807) (h48 : n * i.bytes ≤ 281474976710656) :
    (Builtin.append_ #[t, tn] ty #[.slice none 0 0, .int k n]).events P w #[] = if roomBytes < grownCap w n 0 e * i.bytes then #[noRoomEvent] else #[] := by
  have hn : n ≠ 0 := by omega
  have hw : IntKind.i64.wrap (n : Int) = n := by rw [IntKind.wrap_i64]; omega
  have h63' : ¬ (9223372036854775807 < (n : Int)) := by omega
  have h48' : ¬ (281474976710656 < Builtin.nextslicecap n 0 * i.bytes) := by rw [nextslicecap_zero h0]; omega
  have h48i : ¬ (281474976710656 < (n : Int) * (i.bytes : Int)) := by
    rw [← Int.natCast_mul]
    omega
  have hneg : ¬ ((n : Int) < 0) := by omega
  have hns : ¬ (n * i.size = 0) := Nat.mul_ne_zero hn (by omega)
  simp [Builtin.append_, run_underlying ht, run_underlying htn, sizeOf, typeInfo, zeroValue, hi, hz, asInt, asIntOf, hw, hn, hneg, hns, h63', h48', h48i, Question.forced, run_firstCells_none, newRow, grownCap, askRoom, Builtin.firstCells]
  split
  · rename_i hc
    first
    | rfl
    | simp [hc, noRoomEvent]
  · rename_i hc
    first
    | rfl
    | simp [Nat.not_lt.2 hc]
    | simp [hc]
end
section
variable {P : Program} {main : Bool} {V : Nat → Option Wait} {Stop : Goroutine → World → Prop} {w : World} {b : Frame} {a : Act} {k : List Item} {cs : List Frame} {ops : Array Oper} {i : Nat} {rest : List Nat} {o : Oper}
theorem Walk.appendZ (s x : Operand) (t tn e : TypeId) (kk kn : IntKind) (ho : ops[i]? = some o) (hw : Region.wanted o (yielded ops a.tmps) = true) (hk : b.kind ≠ .early) (hop : o.op = .call { callee := .builtin .append, args := #[s, x], argTypes := #[t, tn] })
    (ti : TypeInfo) (z : Value) (ht : P.underlying t = some (.slice e)) (htn : P.underlying tn = some (.int kn)) (hi : P.info? e = some ti) (hz : ti.zero = some z) (hsize : ti.size = 1) (hby : ti.bytes = 8) (hzs : z.cells.size = 1)
    (n : Nat) (hs : a.eval s = .slice none 0 0) (hx : a.eval x = .int kk n) (h0 : 0 < n) (hn : n ≤ 1048576)
    (h : ∀ cap w', w'.ownsRow w.heap.size e 1 (.slice (some ⟨w.heap.size, 0, none⟩) 0 cap) 0 [] → n ≤ cap → (∀ b, b < w.heap.size → w'.heap[b]? = w.heap[b]?) → w.heap.size < w'.heap.size →
      Walk P main (DR V) Stop (G (b.at (a.put o.dst (.slice (some ⟨w.heap.size, 0, none⟩) n cap)) (.inRegion ops rest :: k)) cs) w') :
    Walk P main (DR V) Stop (G (b.at a (.inRegion ops (i :: rest) :: k)) cs) w := by
  refine Walk.go rfl fun d => goes_oper_k ho hw hk fun K hK => ?_
  have hr := Lib.run_append_nil_zeros (P := P) (w.at d) t tn o.type e ti z kk kn ht htn hi hz n h0 (by omega) (by omega) (by rw [hby]; omega)
  have hev := ev_append_zeros (P := P) (w.at d) t tn o.type e ti z kk kn ht htn hi hz n h0 (by omega) (by omega) (by rw [hby]; omega)
  have hcap := grownCap_ge (w.at d) n 0 e
  have hmax := grownCap_le_maxLen (w.at d) n 0 e (by simp [maxLen]; omega)
  generalize grownCap (w.at d) n 0 e = cap at *
  have hzc : ∀ m, (Builtin.zeroCells z.cells m).size = m := fun m => by simp [Builtin.zeroCells, hzs]
  have hsz : ((w.at d).drew.alloc (.cells (Builtin.zeroCells z.cells n ++ Builtin.zeroCells z.cells (cap - n)) e)).heap.size = w.heap.size + 1 := by
    show (w.heap.push _).size = _
    simp
  have hold : ∀ g, g < w.heap.size → ((w.at d).drew.alloc (.cells (Builtin.zeroCells z.cells n ++ Builtin.zeroCells z.cells (cap - n)) e)).heap[g]? = w.heap[g]? := fun g hg => by
    show (w.heap.push _)[g]? = _
    rw [Array.getElem?_push, if_neg (by omega)]
  have hnew : ((w.at d).drew.alloc (.cells (Builtin.zeroCells z.cells n ++ Builtin.zeroCells z.cells (cap - n)) e)).heap[w.heap.size]? = some (.cells (Builtin.zeroCells z.cells n ++ Builtin.zeroCells z.cells (cap - n)) e) := by
    show (w.heap.push _)[w.heap.size]? = _
    simp
  refine uponK_append2 s x t tn hop hs hx hr (hK _ _ ⟨DR.grown (row := none) ⟨rfl, rfl, rfl, by rw [hsz]; exact Nat.le_succ _, fun g hg _ => hold g hg⟩ (fun g h => by cases h) (fun ev hev' => ?_), h cap _ ⟨rfl, .inr ⟨w.heap.size, cap, _, rfl, Nat.le_refl _, hnew, Nat.zero_le _, hmax, by simp [hzc]; omega, by simp⟩⟩ hcap hold (by rw [hsz]; exact Nat.lt_succ_self _)⟩)
  have hm' := mem_listed hev'
  rw [events_append_op2 s x t tn hop hs hx, hev] at hm'
  split at hm'
  · simp at hm'
    rw [hm']
    exact evR_noRoom
  · simp at hm'
end
end
end Go.Relay
