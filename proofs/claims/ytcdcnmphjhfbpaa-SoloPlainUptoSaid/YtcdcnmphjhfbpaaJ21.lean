/- Part 21. -/
import Derived.Test.YtcdcnmphjhfbpaaJ20
set_option linter.unusedSimpArgs false
set_option linter.unusedVariables false
set_option linter.unusedVariables false
set_option maxHeartbeats 8000000
set_option maxRecDepth 100000
namespace Go.Proofs.Ytcdcnmphjhfbpaa
open Go.Conc Go.RowKit Go.Relay
open Go.ConcN (upd upd_ne upd_same)
section
theorem pv_out (n k ob : Nat) (aa : Option Addr) (al ac : Nat) (tb : Nat) (sv : Value) (L i X c : Nat) (vv : Value) (hal : al + c < 4611686018427387904) (w : World) (cs : List Frame) (u : Nat → Value) :
    Walk Try.prog true (DR (fun _ => none)) (fun g w' => (∃ u, g = G (hdPl n k ob (.slice aa al ac) (.slice (some ⟨tb, 0, none⟩) k k) sv L i X c 0 vv ((al : Int) + c) u) cs) ∧ ∃ d, w' = w.at d) (G (hdPv n k ob (.slice aa al ac) (.slice (some ⟨tb, 0, none⟩) k k) sv L i X c c vv u) cs) w := by
  have hi1 : decide ((c : Int) < c) = false := by simp
  have hi3 : decide (c < c) = false := by simp
  have hw1 : IntKind.wrap .i64 ((al : Int) + c) = (al : Int) + c := by rw [IntKind.wrap_i64]; omega
  conv => arg 5; unfold hdPv
  repeat (first | refine Walk.cx ?_ | (refine Walk.cReg ?_; simp only [z9]) | (refine Walk.oq ?_; try walk_nrm) | (refine Walk.un ?_; walk_nrm))
  refine Walk.ctl rfl (fun w => stepG_loop) ?_
  refine .stop fun d => ⟨at_slots ?_, d, rfl⟩
  simp only [hdPl]
  rfl
theorem pa_end {rb sb n ob qb k : Nat} {s : So} (all : List Int) (pt : Nat → Nat) (aa : Option Addr) (ac : Nat) (tb : Nat) (sv : Value) (L : Nat) (w : World) (I : SoI rb sb n ob qb k s w) (M : SoM n k all pt s) (cs : List Frame) (u : Nat → Value) :
    Walk Try.prog true (DR (fun _ => none)) (fun g w' => (∃ u, g = G (hdPf k 0 (.slice (some ⟨tb, 0, none⟩) k k) (.slice (some ⟨w.heap.size, 0, none⟩) k k) u) cs) ∧ NewN k s.nm w (.slice (some ⟨w.heap.size, 0, none⟩) k k) w') (G (hdPa n k ob (.slice aa all.length ac) (.slice (some ⟨tb, 0, none⟩) k k) sv L L u) cs) w := by
  have hA : ∀ b, Apart (fun _ => none) b := fun b => ⟨fun _ _ _ _ h => (by cases h), fun _ _ h => (by cases h)⟩
  have hi1 : decide ((L : Int) < L) = false := by simp
  have hi3 : decide (L < L) = false := by simp
  have hst := state_w (main := true) (V := fun _ => none) w I hA
  have hbd := I.bd.nx
  rw [M.nx, M.cur] at hst
  rw [M.nx] at hbd
  have hw1 : IntKind.wrap .i64 ((all.length : Int) - 1) = (all.length : Int) - 1 := by rw [IntKind.wrap_i64]; omega
  clear I M hbd
  generalize all.length = al at *
  have e1 : ((al : Int) != (al : Int)) = false := by simp
  have e2 : (((al : Int) - 1) != ((al : Int) - 1)) = false := by simp
  have e3 : ((k : Int) != (k : Int)) = false := by simp
  conv => arg 5; unfold hdPa
  repeat (first | refine Walk.cx ?_ | (refine Walk.cReg ?_; simp only [z9]) | (refine Walk.oq ?_; try walk_nrm) | (refine Walk.un ?_; walk_nrm))
  refine Walk.callW (Post := fun v w' => v = .tuple #[.int .i64 al, .int .i64 ((al : Int) - 1), .slice (some ⟨w.heap.size, 0, none⟩) k k] ∧ NewN k s.nm w (.slice (some ⟨w.heap.size, 0, none⟩) k k) w') ?_ (ho_of (by conv => lhs; whnf) (by kernel_rfl)) (by rfl) (by decide) rfl Try.func44 (by kernel_rfl) (by rfl) ?_
  · walk_nrm
    exact hst
  rintro _ w1 ⟨rfl, hN⟩
  clear hst
  generalize w.heap.size = T at *
  walk_nrm
  repeat (first | refine Walk.cx ?_ | (refine Walk.cReg ?_; simp only [z9]) | (refine Walk.oq ?_; try walk_nrm) | (refine Walk.un ?_; walk_nrm))
  refine Walk.ctl rfl (fun w => stepG_loop) ?_
  refine .stop fun d => ⟨at_slots ?_, hN.1, hN.2.1, hN.2.2.1, hN.2.2.2⟩
  simp only [hdPf]
  rfl
end
section
theorem pd_none (n k ob : Nat) (aa : Option Addr) (al ac tb : Nat) (sv : Value) (L i X c : Nat) (vv : Value) (z : Int) (h1 : c < 1) (hal : al + c < 4611686018427387904) (hn0 : n ≤ 65536) (hi : i < L) (hL : L ≤ 17592186044416) (Q : World → Prop) (hQ : ∀ w d, Q w → Q (w.at d)) (w : World)
    (hcal : CallP true (fun _ => none) 41 #[.pointer (some ⟨ob, 0, none⟩), .nilIface, vv] w (fun v w' => v = .tuple #[.int .i64 0, .int .i64 1] ∧ Q w')) (cs : List Frame) (u : Nat → Value) :
    Walk Try.prog true (DR (fun _ => none)) (fun g w' => (∃ u, g = G (hdPa n k ob (.slice aa al ac) (.slice (some ⟨tb, 0, none⟩) k k) sv L (i + 1) u) cs) ∧ Q w') (G (hdPl n k ob (.slice aa al ac) (.slice (some ⟨tb, 0, none⟩) k k) sv L i X c k vv z u) cs) w := by
  have hi1 : decide ((k : Int) < k) = false := by simp
  have hi3 : decide (k < k) = false := by simp
  have hw1 : IntKind.wrap .i64 ((al : Int) + c) = (al : Int) + c := by rw [IntKind.wrap_i64]; omega
  have hw2 : IntKind.wrap .i64 ((al : Int) + c - n) = (al : Int) + c - n := by rw [IntKind.wrap_i64]; omega
  have hw3 : IntKind.wrap .i64 ((i : Int) + 1) = (i : Int) + 1 := by rw [IntKind.wrap_i64]; omega
  have hcc : ((i + 1 : Nat) : Int) = (i : Int) + 1 := by simp
  have g1 : decide ((c : Int) < 1) = true := by simp; omega
  have g1' : decide (c < 1) = true := by simp; omega
  conv => arg 5; unfold hdPl
  repeat (first | refine Walk.cx ?_ | (refine Walk.cReg ?_; simp only [z9]) | (refine Walk.oq ?_; try walk_nrm) | (refine Walk.un ?_; walk_nrm))
  refine Walk.callP (Post := fun v w' => v = .tuple #[.int .i64 0, .int .i64 1] ∧ Q w') ?_ (ho_of (by conv => lhs; whnf) (by kernel_rfl)) (by rfl) (by decide) rfl Try.func41 (by kernel_rfl) (by rfl) ⟨rfl, rfl, _, Try.func9⟩ ?_
  · walk_nrm
    exact hcal
  rintro _ w1 ⟨rfl, hq⟩
  clear hcal
  walk_nrm
  repeat (first | refine Walk.cx ?_ | (refine Walk.cReg ?_; simp only [z9]) | (refine Walk.oq ?_; try walk_nrm) | (refine Walk.un ?_; walk_nrm))
  refine Walk.ctl rfl (fun w => stepG_inLoop) ?_
  refine .stop fun d => ⟨at_slots ?_, hQ _ d hq⟩
  simp only [hdPa, hcc]
  rfl
theorem pd_many (n k ob : Nat) (aa : Option Addr) (al ac tb : Nat) (sv : Value) (L i X c : Nat) (vv : Value) (z : Int) (h1 : 1 ≤ c) (h2 : n < c) (hal : al + c < 4611686018427387904) (hn0 : n ≤ 65536) (hi : i < L) (hL : L ≤ 17592186044416) (Q : World → Prop) (hQ : ∀ w d, Q w → Q (w.at d)) (w : World)
    (hcal : CallP true (fun _ => none) 41 #[.pointer (some ⟨ob, 0, none⟩), .nilIface, vv] w (fun v w' => v = .tuple #[.int .i64 0, .int .i64 1] ∧ Q w')) (cs : List Frame) (u : Nat → Value) :
    Walk Try.prog true (DR (fun _ => none)) (fun g w' => (∃ u, g = G (hdPa n k ob (.slice aa al ac) (.slice (some ⟨tb, 0, none⟩) k k) sv L (i + 1) u) cs) ∧ Q w') (G (hdPl n k ob (.slice aa al ac) (.slice (some ⟨tb, 0, none⟩) k k) sv L i X c k vv z u) cs) w := by
  have hi1 : decide ((k : Int) < k) = false := by simp
  have hi3 : decide (k < k) = false := by simp
  have hw1 : IntKind.wrap .i64 ((al : Int) + c) = (al : Int) + c := by rw [IntKind.wrap_i64]; omega
  have hw2 : IntKind.wrap .i64 ((al : Int) + c - n) = (al : Int) + c - n := by rw [IntKind.wrap_i64]; omega
  have hw3 : IntKind.wrap .i64 ((i : Int) + 1) = (i : Int) + 1 := by rw [IntKind.wrap_i64]; omega
  have hcc : ((i + 1 : Nat) : Int) = (i : Int) + 1 := by simp
  have g1 : decide ((c : Int) < 1) = false := by simp; omega
  have g1' : decide (c < 1) = false := by simp; omega
  have g2 : decide ((n : Int) < c) = true := by simp; omega
  have g2' : decide (n < c) = true := by simp; omega
  conv => arg 5; unfold hdPl
  repeat (first | refine Walk.cx ?_ | (refine Walk.cReg ?_; simp only [z9]) | (refine Walk.oq ?_; try walk_nrm) | (refine Walk.un ?_; walk_nrm))
  refine Walk.callP (Post := fun v w' => v = .tuple #[.int .i64 0, .int .i64 1] ∧ Q w') ?_ (ho_of (by conv => lhs; whnf) (by kernel_rfl)) (by rfl) (by decide) rfl Try.func41 (by kernel_rfl) (by rfl) ⟨rfl, rfl, _, Try.func9⟩ ?_
  · walk_nrm
    exact hcal
  rintro _ w1 ⟨rfl, hq⟩
  clear hcal
  walk_nrm
  repeat (first | refine Walk.cx ?_ | (refine Walk.cReg ?_; simp only [z9]) | (refine Walk.oq ?_; try walk_nrm) | (refine Walk.un ?_; walk_nrm))
  refine Walk.ctl rfl (fun w => stepG_inLoop) ?_
  refine .stop fun d => ⟨at_slots ?_, hQ _ d hq⟩
  simp only [hdPa, hcc]
  rfl
theorem pd_full (n k ob : Nat) (aa : Option Addr) (al ac tb : Nat) (sv : Value) (L i X c : Nat) (vv : Value) (z : Int) (h1 : 1 ≤ c) (h2 : c ≤ n) (h3 : z < (al : Int) + c - n) (hal : al + c < 4611686018427387904) (hn0 : n ≤ 65536) (hi : i < L) (hL : L ≤ 17592186044416) (Q : World → Prop) (hQ : ∀ w d, Q w → Q (w.at d)) (w : World)
    (hcal : CallP true (fun _ => none) 41 #[.pointer (some ⟨ob, 0, none⟩), .nilIface, vv] w (fun v w' => v = .tuple #[.int .i64 0, .int .i64 3] ∧ Q w')) (cs : List Frame) (u : Nat → Value) :
    Walk Try.prog true (DR (fun _ => none)) (fun g w' => (∃ u, g = G (hdPa n k ob (.slice aa al ac) (.slice (some ⟨tb, 0, none⟩) k k) sv L (i + 1) u) cs) ∧ Q w') (G (hdPl n k ob (.slice aa al ac) (.slice (some ⟨tb, 0, none⟩) k k) sv L i X c k vv z u) cs) w := by
  have hi1 : decide ((k : Int) < k) = false := by simp
  have hi3 : decide (k < k) = false := by simp
  have hw1 : IntKind.wrap .i64 ((al : Int) + c) = (al : Int) + c := by rw [IntKind.wrap_i64]; omega
  have hw2 : IntKind.wrap .i64 ((al : Int) + c - n) = (al : Int) + c - n := by rw [IntKind.wrap_i64]; omega
  have hw3 : IntKind.wrap .i64 ((i : Int) + 1) = (i : Int) + 1 := by rw [IntKind.wrap_i64]; omega
  have hcc : ((i + 1 : Nat) : Int) = (i : Int) + 1 := by simp
  have g1 : decide ((c : Int) < 1) = false := by simp; omega
  have g1' : decide (c < 1) = false := by simp; omega
  have g2 : decide ((n : Int) < c) = false := by simp; omega
  have g2' : decide (n < c) = false := by simp; omega
  have g3 : decide (z < (al : Int) + c - n) = true := decide_eq_true h3
  conv => arg 5; unfold hdPl
  repeat (first | refine Walk.cx ?_ | (refine Walk.cReg ?_; simp only [z9]) | (refine Walk.oq ?_; try walk_nrm) | (refine Walk.un ?_; walk_nrm))
  refine Walk.callP (Post := fun v w' => v = .tuple #[.int .i64 0, .int .i64 3] ∧ Q w') ?_ (ho_of (by conv => lhs; whnf) (by kernel_rfl)) (by rfl) (by decide) rfl Try.func41 (by kernel_rfl) (by rfl) ⟨rfl, rfl, _, Try.func9⟩ ?_
  · walk_nrm
    exact hcal
  rintro _ w1 ⟨rfl, hq⟩
  clear hcal
  walk_nrm
  repeat (first | refine Walk.cx ?_ | (refine Walk.cReg ?_; simp only [z9]) | (refine Walk.oq ?_; try walk_nrm) | (refine Walk.un ?_; walk_nrm))
  refine Walk.ctl rfl (fun w => stepG_inLoop) ?_
  refine .stop fun d => ⟨at_slots ?_, hQ _ d hq⟩
  simp only [hdPa, hcc]
  rfl
theorem pd_ok (n k ob : Nat) (aa : Option Addr) (al ac tb : Nat) (sv : Value) (L i X c : Nat) (vv : Value) (z : Int) (h1 : 1 ≤ c) (h2 : c ≤ n) (h3 : ¬ z < (al : Int) + c - n) (hmax : al + c ≤ 17592186044416) (base gv tc : Nat) (ir news : List Value) (hvv : vv = .slice (some ⟨gv, 0, none⟩) c tc) (hln : news.length = c) (h1c : ∀ u ∈ news, u.oneCell' = true) (hal : al + c < 4611686018427387904) (hn0 : n ≤ 65536) (hi : i < L) (hL : L ≤ 17592186044416) (Q : World → Prop) (w : World) (hQ : ∀ w', Q w' → w'.ownsRow base 2 1 (.slice aa al ac) al ir ∧ (∀ (j : Nat) (x : Value), news[j]? = some x → w'.cell? ⟨gv, j, none⟩ = some x) ∧ base ≤ w'.heap.size)
    (hcal : CallP true (fun _ => none) 41 #[.pointer (some ⟨ob, 0, none⟩), .nilIface, vv] w (fun v w' => v = .tuple #[.int .i64 al, .int .i64 0] ∧ Q w')) (cs : List Frame) (u : Nat → Value) :
    Walk Try.prog true (DR (fun _ => none)) (fun g w' => ∃ g2 cap, (∃ u, g = G (hdPa n k ob (.slice (some ⟨g2, 0, none⟩) (al + c) cap) (.slice (some ⟨tb, 0, none⟩) k k) sv L (i + 1) u) cs) ∧ ∃ w1, Q w1 ∧ w'.ownsRow base 2 1 (.slice (some ⟨g2, 0, none⟩) (al + c) cap) (al + c) (ir ++ news) ∧ w1.grownBy w' (Value.slice aa al ac).ownBlock) (G (hdPl n k ob (.slice aa al ac) (.slice (some ⟨tb, 0, none⟩) k k) sv L i X c k vv z u) cs) w := by
  have hi1 : decide ((k : Int) < k) = false := by simp
  have hi3 : decide (k < k) = false := by simp
  have hw1 : IntKind.wrap .i64 ((al : Int) + c) = (al : Int) + c := by rw [IntKind.wrap_i64]; omega
  have hw2 : IntKind.wrap .i64 ((al : Int) + c - n) = (al : Int) + c - n := by rw [IntKind.wrap_i64]; omega
  have hw3 : IntKind.wrap .i64 ((i : Int) + 1) = (i : Int) + 1 := by rw [IntKind.wrap_i64]; omega
  have hcc : ((i + 1 : Nat) : Int) = (i : Int) + 1 := by simp
  have g1 : decide ((c : Int) < 1) = false := by simp; omega
  have g1' : decide (c < 1) = false := by simp; omega
  have g2 : decide ((n : Int) < c) = false := by simp; omega
  have g2' : decide (n < c) = false := by simp; omega
  have g3 : decide (z < (al : Int) + c - n) = false := decide_eq_false h3
  have hA : ∀ b, Apart (fun _ => none) b := fun b => ⟨fun _ _ _ _ h => (by cases h), fun _ _ h => (by cases h)⟩
  have hiI := Option.some_get (show (Try.prog.info? 2).isSome = true by kernel_rfl)
  have hb1 : ((al : Int) != (al : Int)) = false := by simp
  subst hvv
  conv => arg 5; unfold hdPl
  repeat (first | refine Walk.cx ?_ | (refine Walk.cReg ?_; simp only [z9]) | (refine Walk.oq ?_; try walk_nrm) | (refine Walk.un ?_; walk_nrm))
  refine Walk.callP (Post := fun v w' => v = .tuple #[.int .i64 al, .int .i64 0] ∧ Q w') ?_ (ho_of (by conv => lhs; whnf) (by kernel_rfl)) (by rfl) (by decide) rfl Try.func41 (by kernel_rfl) (by rfl) ⟨rfl, rfl, _, Try.func9⟩ ?_
  · walk_nrm
    exact hcal
  rintro _ w1 ⟨rfl, hq⟩
  clear hcal
  walk_nrm
  obtain ⟨hr, hnw, hbs⟩ := hQ w1 hq
  repeat (first | refine Walk.cx ?_ | (refine Walk.cReg ?_; simp only [z9]) | (refine Walk.oq ?_; try walk_nrm) | (refine Walk.un ?_; walk_nrm))
  refine Walk.append (.tmp 162) (.tmp 163) 22 (ho_of (by conv => lhs; whnf) (by kernel_rfl)) (by rfl) (by decide) rfl base 2 _ (.int .i64 0) 1 8 (by kernel_rfl) hiI.symm (by rfl) (by rfl) (by rfl) (by rfl) (by decide) (.slice aa al ac) al ir rfl hr ⟨gv, 0, none⟩ c tc news rfl (by omega) (fun q x hx => ?_) h1c (by omega) (by simp [maxLen]; omega) (by omega) hbs (fun b _ => hA b) (fun g2 gcap w3 hown3 hgr hat hlt => ?_)
  · rw [add_none, Nat.zero_add]
    exact hnw q x hx
  clear hr hnw
  walk_nrm
  repeat (first | refine Walk.cx ?_ | (refine Walk.cReg ?_; simp only [z9]) | (refine Walk.oq ?_; try walk_nrm) | (refine Walk.un ?_; walk_nrm))
  refine Walk.ctl rfl (fun w => stepG_inLoop) ?_
  refine .stop fun d => ⟨g2, gcap, at_slots ?_, w1, hq, hown3, ⟨hgr.os, hgr.tape, hgr.output, hgr.size, hgr.block⟩⟩
  simp only [hdPa, hcc]
  rfl
end
section
theorem pw_in (n k ob : Nat) (av tv : Value) (sb so sc : Nat) (L i : Nat) (wv kd a b cx : Int) (c : Nat) (hk : k ≤ 2) (hn : n ≤ 16) (hwv0 : 0 ≤ wv) (hwv1 : wv < 256) (hwho : wv.tmod ((k : Int) + 1) = 0) (hub : 0 ≤ IntKind.wrap .u64 b) (hc : (IntKind.wrap .u64 b).tmod ((n : Int) + 2) = c) (hc2 : c ≤ n + 1) (hi : i < L) (hL : L ≤ 17592186044416) (w : World)
    (hcs : ∀ (y : Nat) (v : Value), ([.int .u8 wv, .int .i64 kd, .int .i64 a, .int .i64 b, .int .i64 cx] : List Value)[y]? = some v → w.cell? ⟨sb, so + i * 5 + y, none⟩ = some v) (cs : List Frame) (u : Nat → Value) :
    Walk Try.prog true (DR (fun _ => none)) (fun g w' => (∃ u, g = G (hdPv n k ob av tv (.slice (some ⟨sb, so, none⟩) L sc) L i w.heap.size c 0 (.slice none 0 0) u) cs) ∧ w'.heap.size = w.heap.size + 1 ∧ (∀ b, b < w.heap.size → w'.heap[b]? = w.heap[b]?) ∧ w'.cell? ⟨w.heap.size, 2, none⟩ = some (.int .i64 a)) (G (hdPa n k ob av tv (.slice (some ⟨sb, so, none⟩) L sc) L i u) cs) w := by
  have hA : ∀ b, Apart (fun _ => none) b := fun b => ⟨fun _ _ _ _ h => (by cases h), fun _ _ h => (by cases h)⟩
  obtain ⟨fsA, huA⟩ := structT 80 (by kernel_rfl)
  have hi0 : (0 : Int) ≤ i := by omega
  have hi1 : decide ((i : Int) < L) = true := by simp; omega
  have hi3 : decide (i < L) = true := by simp; omega
  have hi4 : (i : Int) < L := by omega
  have hw1 : IntKind.wrap .i64 ((k : Int) + 1) = (k : Int) + 1 := by rw [IntKind.wrap_i64]; omega
  have hw2 : IntKind.wrap .i64 ((n : Int) + 2) = (n : Int) + 2 := by rw [IntKind.wrap_i64]; omega
  have hw3 : IntKind.wrap .u64 ((n : Int) + 2) = (n : Int) + 2 := by rw [IntKind.wrap_u64]; omega
  have hw4 : IntKind.wrap .i64 (c : Int) = c := by rw [IntKind.wrap_i64]; omega
  have hw5 : IntKind.wrap .i64 wv = wv := by rw [IntKind.wrap_i64]; omega
  have hw6 : IntKind.wrap .u64 (c : Int) = c := by rw [IntKind.wrap_u64]; omega
  have hw7 : IntKind.wrap .i64 0 = 0 := by decide
  have z1 : ((k : Int) + 1 == 0) = false := by simp; omega
  have z2 : ((n : Int) + 2 == 0) = false := by simp; omega
  have z3 : ¬ ((k : Int) + 1 = 0) := by omega
  have z4 : ¬ ((n : Int) + 2 = 0) := by omega
  obtain ⟨ub, hub'⟩ : ∃ ub, IntKind.wrap .u64 b = ub := ⟨_, rfl⟩
  rw [hub'] at hc hub
  conv => arg 5; unfold hdPa
  repeat (first | refine Walk.cx ?_ | (refine Walk.cReg ?_; simp only [z9]) | (refine Walk.oq ?_; try walk_nrm) | (refine Walk.un ?_; walk_nrm))
  refine Walk.loadS 80 (.tmp 72) (ho_of (by conv => lhs; whnf) (by kernel_rfl)) (by rfl) (by decide) rfl sb (so + i * 5) [.int .u8 wv, .int .i64 kd, .int .i64 a, .int .i64 b, .int .i64 cx] (.struct fsA) rfl hcs huA rfl (by kernel_rfl) ?_
  clear hcs
  walk_nrm
  (refine Walk.oa ?_; try walk_nrm)
  have s1 : (w.alloc (.cells #[.int .u8 0, .int .i64 0, .int .i64 0, .int .i64 0, .int .i64 0] 80)).heap.size = w.heap.size + 1 := by simp
  have o1 : ∀ b, b < w.heap.size → (w.alloc (.cells #[.int .u8 0, .int .i64 0, .int .i64 0, .int .i64 0, .int .i64 0] 80)).heap[b]? = w.heap[b]? := fun b hb => heap_new_lt _ _ hb
  have d1 := heap_alloc_new w (.cells #[.int .u8 0, .int .i64 0, .int .i64 0, .int .i64 0, .int .i64 0] 80)
  generalize hT : w.heap.size = T at *
  generalize w.alloc (.cells #[.int .u8 0, .int .i64 0, .int .i64 0, .int .i64 0, .int .i64 0] 80) = w1 at *
  refine Walk.storeS 80 (.tmp 14) (.tmp 73) (ho_of (by conv => lhs; whnf) (by kernel_rfl)) (by rfl) (by decide) rfl T #[.int .u8 wv, .int .i64 kd, .int .i64 a, .int .i64 b, .int .i64 cx] _ 80 rfl rfl d1 (by kernel_rfl) (by rfl) (by simp [Value.oneCell']) (hA _) ?_
  have d2 := setRow_self (cells := #[.int .u8 wv, .int .i64 kd, .int .i64 a, .int .i64 b, .int .i64 cx]) d1
  have o2 : ∀ x, x < T → (w1.setRow T #[.int .u8 wv, .int .i64 kd, .int .i64 a, .int .i64 b, .int .i64 cx]).heap[x]? = w.heap[x]? := fun x hx => (setRow_other _ _ (by omega)).trans (o1 x hx)
  have s2 := setRow_size w1 T #[.int .u8 wv, .int .i64 kd, .int .i64 a, .int .i64 b, .int .i64 cx]
  rw [s1] at s2
  generalize w1.setRow T #[.int .u8 wv, .int .i64 kd, .int .i64 a, .int .i64 b, .int .i64 cx] = w2 at *
  have c0 : w2.cell? ⟨T, 0, none⟩ = some (.int .u8 wv) := (cell_of d2 0).trans rfl
  have c2 : w2.cell? ⟨T, 2, none⟩ = some (.int .i64 a) := (cell_of d2 2).trans rfl
  have c3 : w2.cell? ⟨T, 3, none⟩ = some (.int .i64 b) := (cell_of d2 3).trans rfl
  clear d1 d2 o1 s1
  try walk_nrm
  repeat (first | refine Walk.cx ?_ | (refine Walk.cReg ?_; simp only [z9]) | (refine Walk.oq ?_; try walk_nrm) | (refine Walk.un ?_; walk_nrm))
  refine Walk.ctl rfl (fun w => stepG_loop) ?_
  refine .stop fun d => ⟨at_slots ?_, s2, o2, c2⟩
  simp only [hdPv]
  rfl
end
end Go.Proofs.Ytcdcnmphjhfbpaa
