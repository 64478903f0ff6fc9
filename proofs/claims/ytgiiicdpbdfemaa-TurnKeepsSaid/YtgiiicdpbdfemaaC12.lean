/- Part 12. -/
import Derived.Test.YtgiiicdpbdfemaaC11
set_option linter.unusedSimpArgs false
set_option maxHeartbeats 8000000
set_option maxRecDepth 100000
namespace Go.Proofs.Ytgiiicdpbdfemaa
open Go.Conc Go.RowKit Go.Relay
open Go.ConcN (upd upd_ne upd_same)
section
variable {main : Bool} {V : Nat → Option Wait}
def ToldAt (a : Option Addr) (n : Nat) (f : Nat → Int) (w : World) : Prop := ∀ i, i < n → ∃ b o, a = some ⟨b, o, none⟩ ∧ w.cell? ⟨b, o + i * 3, none⟩ = some (.bool true) ∧ w.cell? ⟨b, o + i * 3 + 1, none⟩ = some (.int .i64 (f i)) ∧ w.cell? ⟨b, o + i * 3 + 2, none⟩ = some (.slice none 0 0)
noncomputable def reg45_0 : Array Oper := match Try.f45.body with | some (.seq (.region _ ops _) _) => ops | _ => #[]
theorem size45_0 : reg45_0.size = 1 := by kernel_rfl
noncomputable def reg45_1 : Array Oper := match Try.f45.body with | some (.seq _ (.seq (.seq (.region _ ops _) _) _)) => ops | _ => #[]
theorem size45_1 : reg45_1.size = 5 := by kernel_rfl
noncomputable def reg45_2 : Array Oper := match Try.f45.body with | some (.seq _ (.seq (.seq _ (.cond _ (.seq (.region _ ops _) _) _)) _)) => ops | _ => #[]
theorem size45_2 : reg45_2.size = 1 := by kernel_rfl
noncomputable def reg45_3 : Array Oper := match Try.f45.body with | some (.seq _ (.seq _ (.seq (.seq (.region _ ops _) _) _))) => ops | _ => #[]
theorem size45_3 : reg45_3.size = 1 := by kernel_rfl
noncomputable def reg45_4 : Array Oper := match Try.f45.body with | some (.seq _ (.seq _ (.seq (.seq _ (.block _ (.loop (.seq (.seq (.region _ ops _) _) _)))) _))) => ops | _ => #[]
theorem size45_4 : reg45_4.size = 4 := by kernel_rfl
noncomputable def reg45_6 : Array Oper := match Try.f45.body with | some (.seq _ (.seq _ (.seq (.seq _ (.block _ (.loop (.seq _ (.seq (.block _ (.seq (.region _ ops _) _)) _))))) _))) => ops | _ => #[]
theorem size45_6 : reg45_6.size = 38 := by kernel_rfl
noncomputable def reg45_7 : Array Oper := match Try.f45.body with | some (.seq _ (.seq _ (.seq (.seq _ (.block _ (.loop (.seq _ (.seq (.block _ (.seq _ (.cond _ (.seq (.region _ ops _) _) _))) _))))) _))) => ops | _ => #[]
theorem size45_7 : reg45_7.size = 1 := by kernel_rfl
noncomputable def reg45_5 : Array Oper := match Try.f45.body with | some (.seq _ (.seq _ (.seq (.seq _ (.block _ (.loop (.seq _ (.seq _ (.region _ ops _)))))) _))) => ops | _ => #[]
theorem size45_5 : reg45_5.size = 3 := by kernel_rfl
noncomputable def reg45_8 : Array Oper := match Try.f45.body with | some (.seq _ (.seq _ (.seq _ (.seq (.region _ ops _) _)))) => ops | _ => #[]
theorem size45_8 : reg45_8.size = 1 := by kernel_rfl
theorem code45_is : Try.f45.body = some (.seq (.region 0 reg45_0 false) (.seq (.seq (.region 1 reg45_1 false) (.cond (.tmp 10 ) (.seq (.region 2 reg45_2 false) (.ret)) (.skip))) (.seq (.seq (.region 3 reg45_3 false) (.block 0 (.loop (.seq (.seq (.region 4 reg45_4 false) (.cond (.tmp 14 ) (.skip) (.exit 0))) (.seq (.block 1 (.seq (.region 6 reg45_6 true) (.cond (.tmp 54 ) (.seq (.region 7 reg45_7 false) (.ret)) (.skip)))) (.region 5 reg45_5 false)))))) (.seq (.region 8 reg45_8 false) (.ret))))) := by kernel_rfl
noncomputable def hd45 (a b : Value) (i : Nat) (u : Nat → Value) : Frame :=
  (base 45).at { tmps := #[a, b, u 2, u 3, .bool false, .int .i64 i, u 6, u 7, u 8, u 9, u 10, u 11, u 12, u 13, u 14, u 15, u 16, u 17, u 18, u 19, u 20, u 21, u 22, u 23, u 24, u 25, u 26, u 27, u 28, u 29, u 30, u 31, u 32, u 33, u 34, u 35, u 36, u 37, u 38, u 39, u 40, u 41, u 42, u 43, u 44, u 45, u 46, u 47, u 48, u 49, u 50, u 51, u 52, u 53, u 54], defers := [] } [.code (.seq (.seq (.region 4 reg45_4 false) (.cond (.tmp 14 ) (.skip) (.exit 0))) (.seq (.block 1 (.seq (.region 6 reg45_6 true) (.cond (.tmp 54 ) (.seq (.region 7 reg45_7 false) (.ret)) (.skip)))) (.region 5 reg45_5 false))), .inLoop (.seq (.seq (.region 4 reg45_4 false) (.cond (.tmp 14 ) (.skip) (.exit 0))) (.seq (.block 1 (.seq (.region 6 reg45_6 true) (.cond (.tmp 54 ) (.seq (.region 7 reg45_7 false) (.ret)) (.skip)))) (.region 5 reg45_5 false))), .inBlock 0, .code (.seq (.region 8 reg45_8 false) (.ret))]
theorem same45_in (a b : Option Addr) (n ca cb : Nat) (cs : List Frame) (w : World) :
    Walk Try.prog main (DR V) (fun g w' => (∃ u, g = G (hd45 (.slice a n ca) (.slice b n cb) 0 u) cs) ∧ ∃ d, w' = w.at d) (G (Frame.enter Try.prog 45 #[.slice a n ca, .slice b n cb] .normal) cs) w := by
  rw [enter_at _ Try.func45 code45_is]
  simp only [Try.ntmps45, List.size_toArray, List.length_cons, List.length_nil, Nat.reduceAdd, Nat.reduceSub, Array.replicate_succ, Array.replicate_zero, List.push_toArray, List.append_toArray, List.nil_append, List.cons_append]
  repeat (first | refine Walk.c rfl ?_ | refine Walk.cRet ?_ | refine Walk.cEnd ?_ | (refine Walk.cReg ?_; simp only [size45_0, size45_1, size45_2, size45_3, size45_4, size45_6, size45_7, size45_5, size45_8, List.range, List.range.loop]) | (refine Walk.oq ?_; try walk_nrm) | (refine Walk.un ?_; walk_nrm))
  refine Walk.ctl rfl (fun w => stepG_loop) ?_
  refine .stop fun d => ⟨at_slots ?_, d, rfl⟩
  simp only [hd45]
  rfl
theorem same45_out (a b : Option Addr) (n ca cb : Nat) (u : Nat → Value) (c : Frame) (cs : List Frame) (w : World) :
    Walk Try.prog main (DR V) (fun g w' => g = G (c.finish (.bool true)) cs ∧ ∃ d, w' = w.at d) (G (hd45 (.slice a n ca) (.slice b n cb) n u) (c :: cs)) w := by
  unfold hd45
  repeat (first | refine Walk.c rfl ?_ | refine Walk.cRet ?_ | refine Walk.cEnd ?_ | (refine Walk.cReg ?_; simp only [size45_0, size45_1, size45_2, size45_3, size45_4, size45_6, size45_7, size45_5, size45_8, List.range, List.range.loop]) | (refine Walk.oq ?_; try walk_nrm) | (refine Walk.un ?_; walk_nrm))
  exact (Walk.ret1 (Post := fun v w' => v = .bool true ∧ ∃ d, w' = w.at d) rfl rfl Try.func45 rfl fun d => ⟨rfl, d, rfl⟩).mono fun g w' ⟨v, ⟨hv, hd⟩, hg⟩ => ⟨by rw [hg, hv], hd⟩
theorem same45_go (ab ao n ca bb bo cb i : Nat) (x : Int) (u : Nat → Value) (cs : List Frame) (w : World) (hi : i < n) (hn : n ≤ 17592186044416) (a0 : w.cell? ⟨ab, ao + i * 3, none⟩ = some (.bool true)) (a1 : w.cell? ⟨ab, ao + i * 3 + 1, none⟩ = some (.int .i64 x)) (a2 : w.cell? ⟨ab, ao + i * 3 + 2, none⟩ = some (.slice none 0 0)) (b0 : w.cell? ⟨bb, bo + i * 3, none⟩ = some (.bool true)) (b1 : w.cell? ⟨bb, bo + i * 3 + 1, none⟩ = some (.int .i64 x)) (b2 : w.cell? ⟨bb, bo + i * 3 + 2, none⟩ = some (.slice none 0 0)) :
    Walk Try.prog main (DR V) (fun g w' => (∃ u', g = G (hd45 (.slice (some ⟨ab, ao, none⟩) n ca) (.slice (some ⟨bb, bo, none⟩) n cb) (i + 1) u') cs) ∧ ∃ d, w' = w.at d) (G (hd45 (.slice (some ⟨ab, ao, none⟩) n ca) (.slice (some ⟨bb, bo, none⟩) n cb) i u) cs) w := by
  have hw1 : IntKind.wrap .i64 ((i : Int) + 1) = (i : Int) + 1 := by rw [IntKind.wrap_i64]; omega
  have qb := run_neq_bool 4 und4
  have qe := ev_neq_bool 4 und4
  conv => arg 5; unfold hd45
  repeat (first | refine Walk.c rfl ?_ | refine Walk.cRet ?_ | refine Walk.cEnd ?_ | (refine Walk.cReg ?_; simp only [size45_0, size45_1, size45_2, size45_3, size45_4, size45_6, size45_7, size45_5, size45_8, List.range, List.range.loop]) | (refine Walk.oq ?_; try walk_nrm) | (refine Walk.un ?_; walk_nrm))
  (refine Walk.drawnC (by kernel_rfl) size45_6 (by kernel_rfl) (by kernel_rfl) (by decide) ?_; simp only [List.range, List.range.loop]; repeat (first | (refine Cm.opqA (ho_of (by conv => lhs; whnf) (by kernel_rfl)) (by rfl) (fun dd e he => ?_) ?_; (· (simp [go_sem, *] at he; try (subst he; exact evR_read _ _))); apply Exists.intro; apply And.intro; (· (intro dd K hK; go_simp; exact hK))) | (refine Cm.unw (ho_of (by conv => lhs; whnf) (by kernel_rfl)) (by rfl) ?_; walk_nrm)))
  refine Cm.callV (x := .bool true) ?_ (ho_of (by conv => lhs; whnf) (by kernel_rfl)) (by rfl) rfl Try.func18 (by kernel_rfl) (by rfl) ?_
  · intro w' e
    subst e
    walk_nrm
    exact same18_w none none 0 0 0 (fun _ => 0) (by decide) w' (fun _ h => absurd h (Nat.not_lt_zero _)) (fun _ h => absurd h (Nat.not_lt_zero _))
  walk_nrm
  repeat (first | (refine Cm.opqA (ho_of (by conv => lhs; whnf) (by kernel_rfl)) (by rfl) (fun dd e he => ?_) ?_; (· (simp [go_sem, *] at he; try (subst he; exact evR_read _ _))); apply Exists.intro; apply And.intro; (· (intro dd K hK; go_simp; exact hK))) | (refine Cm.unw (ho_of (by conv => lhs; whnf) (by kernel_rfl)) (by rfl) ?_; walk_nrm))
  refine Cm.done ?_
  repeat (first | refine Walk.c rfl ?_ | refine Walk.cRet ?_ | refine Walk.cEnd ?_ | (refine Walk.cReg ?_; simp only [size45_0, size45_1, size45_2, size45_3, size45_4, size45_6, size45_7, size45_5, size45_8, List.range, List.range.loop]) | (refine Walk.oq ?_; try walk_nrm) | (refine Walk.un ?_; walk_nrm))
  refine Walk.ctl rfl (fun w => stepG_inLoop) ?_
  refine .stop fun d' => ⟨at_slots ?_, d', rfl⟩
  have hc : ((i + 1 : Nat) : Int) = (i : Int) + 1 := by simp
  simp only [hd45, hc]
  rfl
theorem same45_loop (a b : Option Addr) (n ca cb : Nat) (f : Nat → Int) (hn : n ≤ 17592186044416) (c : Frame) (cs : List Frame) (w : World) (ha : ToldAt a n f w) (hb : ToldAt b n f w) : ∀ (r i : Nat) (u : Nat → Value), i + r = n →
    Walk Try.prog main (DR V) (fun g w' => g = G (c.finish (.bool true)) cs ∧ ∃ d, w' = w.at d) (G (hd45 (.slice a n ca) (.slice b n cb) i u) (c :: cs)) w := by
  intro r
  induction r with
  | zero =>
    intro i u hi
    have hi : i = n := hi
    subst hi
    exact same45_out a b i ca cb u c cs w
  | succ r ih =>
    intro i u hi
    have hin : i < n := by omega
    obtain ⟨ab, ao, rfl, h1, h2, h3⟩ := ha i hin
    obtain ⟨bb, bo, rfl, k1, k2, k3⟩ := hb i hin
    refine (same45_go ab ao n ca bb bo cb i (f i) u (c :: cs) w hin hn h1 h2 h3 k1 k2 k3).then ?_
    rintro g w' ⟨⟨u', rfl⟩, d, rfl⟩
    exact Walk.back (ih (i + 1) u' (by omega)) d
theorem same45_w (a b : Option Addr) (n ca cb : Nat) (f : Nat → Int) (hn : n ≤ 17592186044416) (w : World) (ha : ToldAt a n f w) (hb : ToldAt b n f w) : CallV Try.prog main V 45 #[.slice a n ca, .slice b n cb] w (.bool true) w := by
  intro fr cs
  refine (same45_in a b n ca cb (fr :: cs) w).then ?_
  rintro g w1 ⟨⟨u, rfl⟩, d, rfl⟩
  refine Walk.back ?_ d
  refine (same45_loop a b n ca cb f hn fr cs w ha hb n 0 u (by omega)).mono ?_
  rintro g w' ⟨rfl, d, rfl⟩
  exact ⟨_, ⟨rfl, d, rfl⟩, rfl⟩
end
section
variable {main : Bool}
theorem NumsAt.old {a : Option Addr} {n : Nat} {f : Nat → Int} {w w' : World} (h : NumsAt a n f w) (hO : Old w w') : NumsAt a n f w' := fun i hi => by
  obtain ⟨b, o, e, hc⟩ := h i hi
  exact ⟨b, o, e, old_cell hO hc⟩
theorem ToldAt.old {a : Option Addr} {n : Nat} {f : Nat → Int} {w w' : World} (h : ToldAt a n f w) (hO : Old w w') : ToldAt a n f w' := fun i hi => by
  obtain ⟨b, o, e, h1, h2, h3⟩ := h i hi
  exact ⟨b, o, e, old_cell hO h1, old_cell hO h2, old_cell hO h3⟩
def TellsAt (a : Option Addr) (n : Nat) (tl : Nat → Nat) (F : Nat → Nat → Int) (w : World) : Prop := ∀ i, i < n → ∃ b o ta tc, a = some ⟨b, o, none⟩ ∧ w.cell? ⟨b, o + i, none⟩ = some (.slice ta (tl i) tc) ∧ ToldAt ta (tl i) (F i) w
theorem TellsAt.old {a : Option Addr} {n : Nat} {tl : Nat → Nat} {F : Nat → Nat → Int} {w w' : World} (h : TellsAt a n tl F w) (hO : Old w w') : TellsAt a n tl F w' := fun i hi => by
  obtain ⟨b, o, ta, tc, e, h1, h2⟩ := h i hi
  exact ⟨b, o, ta, tc, e, old_cell hO h1, h2.old hO⟩
noncomputable def reg16_0 : Array Oper := match Try.f16.body with | some (.seq (.region _ ops _) _) => ops | _ => #[]
theorem size16_0 : reg16_0.size = 3 := by kernel_rfl
noncomputable def reg16_1 : Array Oper := match Try.f16.body with | some (.seq _ (.seq (.seq (.region _ ops _) _) _)) => ops | _ => #[]
theorem size16_1 : reg16_1.size = 30 := by kernel_rfl
noncomputable def reg16_2 : Array Oper := match Try.f16.body with | some (.seq _ (.seq (.seq _ (.cond _ (.seq (.region _ ops _) _) _)) _)) => ops | _ => #[]
theorem size16_2 : reg16_2.size = 1 := by kernel_rfl
noncomputable def reg16_3 : Array Oper := match Try.f16.body with | some (.seq _ (.seq _ (.seq (.seq (.region _ ops _) _) _))) => ops | _ => #[]
theorem size16_3 : reg16_3.size = 1 := by kernel_rfl
noncomputable def reg16_4 : Array Oper := match Try.f16.body with | some (.seq _ (.seq _ (.seq (.seq _ (.block _ (.loop (.seq (.seq (.region _ ops _) _) _)))) _))) => ops | _ => #[]
theorem size16_4 : reg16_4.size = 5 := by kernel_rfl
noncomputable def reg16_6 : Array Oper := match Try.f16.body with | some (.seq _ (.seq _ (.seq (.seq _ (.block _ (.loop (.seq _ (.seq (.block _ (.seq (.region _ ops _) _)) _))))) _))) => ops | _ => #[]
theorem size16_6 : reg16_6.size = 12 := by kernel_rfl
noncomputable def reg16_7 : Array Oper := match Try.f16.body with | some (.seq _ (.seq _ (.seq (.seq _ (.block _ (.loop (.seq _ (.seq (.block _ (.seq _ (.cond _ (.seq (.region _ ops _) _) _))) _))))) _))) => ops | _ => #[]
theorem size16_7 : reg16_7.size = 1 := by kernel_rfl
noncomputable def reg16_5 : Array Oper := match Try.f16.body with | some (.seq _ (.seq _ (.seq (.seq _ (.block _ (.loop (.seq _ (.seq _ (.region _ ops _)))))) _))) => ops | _ => #[]
theorem size16_5 : reg16_5.size = 3 := by kernel_rfl
noncomputable def reg16_8 : Array Oper := match Try.f16.body with | some (.seq _ (.seq _ (.seq _ (.seq (.region _ ops _) _)))) => ops | _ => #[]
theorem size16_8 : reg16_8.size = 1 := by kernel_rfl
theorem code16_is : Try.f16.body = some (.seq (.region 0 reg16_0 false) (.seq (.seq (.region 1 reg16_1 false) (.cond (.tmp 35 ) (.seq (.region 2 reg16_2 false) (.ret)) (.skip))) (.seq (.seq (.region 3 reg16_3 false) (.block 0 (.loop (.seq (.seq (.region 4 reg16_4 false) (.cond (.tmp 40 ) (.skip) (.exit 0))) (.seq (.block 1 (.seq (.region 6 reg16_6 true) (.cond (.tmp 54 ) (.seq (.region 7 reg16_7 false) (.ret)) (.skip)))) (.region 5 reg16_5 false)))))) (.seq (.region 8 reg16_8 false) (.ret))))) := by kernel_rfl
noncomputable def hd16 (X Y i : Nat) (u : Nat → Value) : Frame :=
  (base 16).at { tmps := #[u 0, u 1, .pointer (some ⟨X, 0, none⟩), .pointer (some ⟨Y, 0, none⟩), .bool false, .int .i64 i, u 6, u 7, u 8, u 9, u 10, u 11, u 12, u 13, u 14, u 15, u 16, u 17, u 18, u 19, u 20, u 21, u 22, u 23, u 24, u 25, u 26, u 27, u 28, u 29, u 30, u 31, u 32, u 33, u 34, u 35, u 36, u 37, u 38, u 39, u 40, u 41, u 42, u 43, u 44, u 45, u 46, u 47, u 48, u 49, u 50, u 51, u 52, u 53, u 54], defers := [] } [.code (.seq (.seq (.region 4 reg16_4 false) (.cond (.tmp 40 ) (.skip) (.exit 0))) (.seq (.block 1 (.seq (.region 6 reg16_6 true) (.cond (.tmp 54 ) (.seq (.region 7 reg16_7 false) (.ret)) (.skip)))) (.region 5 reg16_5 false))), .inLoop (.seq (.seq (.region 4 reg16_4 false) (.cond (.tmp 40 ) (.skip) (.exit 0))) (.seq (.block 1 (.seq (.region 6 reg16_6 true) (.cond (.tmp 54 ) (.seq (.region 7 reg16_7 false) (.ret)) (.skip)))) (.region 5 reg16_5 false))), .inBlock 0, .code (.seq (.region 8 reg16_8 false) (.ret))]
def trArr (aa : Option Addr) (n ac : Nat) (oa : Option Addr) (on oc : Nat) (sa : Option Addr) (sn sc : Nat) (k : Bool) : Array Value := #[.slice aa n ac, .slice oa on oc, .slice sa sn sc, .bool k]
theorem same16_in (aa : Option Addr) (n ac : Nat) (oa : Option Addr) (on oc : Nat) (sa : Option Addr) (sn sc : Nat) (k : Bool) (ba : Option Addr) (bc : Nat) (pa : Option Addr) (pc : Nat) (ra : Option Addr) (rc : Nat) (fo fs : Nat → Int) (cs : List Frame) (w : World) (hon : on ≤ 17592186044416) (hsn : sn ≤ 17592186044416) (o1 : NumsAt oa on fo w) (o2 : NumsAt pa on fo w) (s1 : NumsAt sa sn fs w) (s2 : NumsAt ra sn fs w) :
    Walk Try.prog main (DR (fun _ => none)) (fun g w' => (∃ u, g = G (hd16 w.heap.size (w.heap.size + 1) 0 u) cs) ∧ Old w w' ∧ w'.heap[w.heap.size]? = some (.cells (trArr aa n ac oa on oc sa sn sc k) 28) ∧ w'.heap[w.heap.size + 1]? = some (.cells (trArr ba n bc pa on pc ra sn rc k) 28))
      (G (Frame.enter Try.prog 16 #[.agg (trArr aa n ac oa on oc sa sn sc k), .agg (trArr ba n bc pa on pc ra sn rc k)] .normal) cs) w := by
  have qb := run_neq_bool 4 und4
  have qe := ev_neq_bool 4 und4
  rw [enter_at _ Try.func16 code16_is]
  simp only [Try.ntmps16, List.size_toArray, List.length_cons, List.length_nil, Nat.reduceAdd, Nat.reduceSub, Array.replicate_succ, Array.replicate_zero, List.push_toArray, List.append_toArray, List.nil_append, List.cons_append]
  repeat (first | refine Walk.c rfl ?_ | refine Walk.cRet ?_ | refine Walk.cEnd ?_ | (refine Walk.cReg ?_; simp only [size16_0, size16_1, size16_2, size16_3, size16_4, size16_6, size16_7, size16_5, size16_8, List.range, List.range.loop]) | (refine Walk.oq ?_; try walk_nrm) | (refine Walk.un ?_; walk_nrm))
  (refine Walk.oa ?_; try walk_nrm)
  have hO := old_alloc w (.cells (trArr aa n ac oa on oc sa sn sc k) 28)
  have hX := heap_alloc_new w (.cells (trArr aa n ac oa on oc sa sn sc k) 28)
  have hsz : (w.alloc (.cells (trArr aa n ac oa on oc sa sn sc k) 28)).heap.size = w.heap.size + 1 := by simp
  generalize w.alloc (.cells (trArr aa n ac oa on oc sa sn sc k) 28) = w1 at *
  repeat (first | (refine Walk.oq ?_; try walk_nrm) | (refine Walk.un ?_; walk_nrm))
  (refine Walk.oa ?_; try walk_nrm)
  have hO2 := hO.trans (old_alloc w1 (.cells (trArr ba n bc pa on pc ra sn rc k) 28))
  have hY := heap_alloc_new w1 (.cells (trArr ba n bc pa on pc ra sn rc k) 28)
  have hX2 := (heap_new_lt w1 (.cells (trArr ba n bc pa on pc ra sn rc k) 28) (by rw [hsz]; exact Nat.lt_succ_self _)).trans hX
  rw [hsz] at hY
  clear hX hO hsz
  generalize w1.alloc (.cells (trArr ba n bc pa on pc ra sn rc k) 28) = w2 at *
  have o1 := o1.old hO2
  have o2 := o2.old hO2
  have s1 := s1.old hO2
  have s2 := s2.old hO2
  have h44 := same44_w (main := main) (V := fun _ => none) oa pa on oc pc fo hon w2 o1 o2
  have h18 := same18_w (main := main) (V := fun _ => none) sa ra sn sc rc fs hsn w2 s1 s2
  generalize w.heap.size = X at *
  have x0 : w2.cell? ⟨X, 0, none⟩ = some (.slice aa n ac) := (cell_of hX2 0).trans rfl
  have x1 : w2.cell? ⟨X, 1, none⟩ = some (.slice oa on oc) := (cell_of hX2 1).trans rfl
  have x2 : w2.cell? ⟨X, 2, none⟩ = some (.slice sa sn sc) := (cell_of hX2 2).trans rfl
  have x3 : w2.cell? ⟨X, 3, none⟩ = some (.bool k) := (cell_of hX2 3).trans rfl
  have y0 : w2.cell? ⟨X + 1, 0, none⟩ = some (.slice ba n bc) := (cell_of hY 0).trans rfl
  have y1 : w2.cell? ⟨X + 1, 1, none⟩ = some (.slice pa on pc) := (cell_of hY 1).trans rfl
  have y2 : w2.cell? ⟨X + 1, 2, none⟩ = some (.slice ra sn rc) := (cell_of hY 2).trans rfl
  have y3 : w2.cell? ⟨X + 1, 3, none⟩ = some (.bool k) := (cell_of hY 3).trans rfl
  clear o1 o2 s1 s2
  repeat (first | refine Walk.c rfl ?_ | refine Walk.cRet ?_ | refine Walk.cEnd ?_ | (refine Walk.cReg ?_; simp only [size16_0, size16_1, size16_2, size16_3, size16_4, size16_6, size16_7, size16_5, size16_8, List.range, List.range.loop]) | (refine Walk.oq ?_; try walk_nrm) | (refine Walk.un ?_; walk_nrm))
  refine Walk.callV (x := .bool true) (W := w2) ?_ (ho_of (by conv => lhs; whnf) (by kernel_rfl)) (by rfl) (by decide) rfl Try.func44 (by kernel_rfl) (by rfl) ?_
  · walk_nrm
    exact h44
  walk_nrm
  repeat (first | refine Walk.c rfl ?_ | refine Walk.cRet ?_ | refine Walk.cEnd ?_ | (refine Walk.cReg ?_; simp only [size16_0, size16_1, size16_2, size16_3, size16_4, size16_6, size16_7, size16_5, size16_8, List.range, List.range.loop]) | (refine Walk.oq ?_; try walk_nrm) | (refine Walk.un ?_; walk_nrm))
  refine Walk.callV (x := .bool true) (W := w2) ?_ (ho_of (by conv => lhs; whnf) (by kernel_rfl)) (by rfl) (by decide) rfl Try.func18 (by kernel_rfl) (by rfl) ?_
  · walk_nrm
    exact h18
  walk_nrm
  repeat (first | refine Walk.c rfl ?_ | refine Walk.cRet ?_ | refine Walk.cEnd ?_ | (refine Walk.cReg ?_; simp only [size16_0, size16_1, size16_2, size16_3, size16_4, size16_6, size16_7, size16_5, size16_8, List.range, List.range.loop]) | (refine Walk.oq ?_; try walk_nrm) | (refine Walk.un ?_; walk_nrm))
  refine Walk.ctl rfl (fun w => stepG_loop) ?_
  refine .stop fun d => ⟨at_slots ?_, ⟨hO2.size, hO2.same⟩, hX2, hY⟩
  simp only [hd16]
  rfl
theorem same16_out (X Y n : Nat) (va vb : Array Value) (aa : Option Addr) (ac : Nat) (u : Nat → Value) (c : Frame) (cs : List Frame) (w : World) (hX : w.heap[X]? = some (.cells va 28)) (h0 : va[0]? = some (.slice aa n ac)) (_hY : w.heap[Y]? = some (.cells vb 28)) :
    Walk Try.prog main (DR (fun _ => none)) (fun g w' => g = G (c.finish (.bool true)) cs ∧ ∃ d, w' = w.at d) (G (hd16 X Y n u) (c :: cs)) w := by
  have x0 : w.cell? ⟨X, 0, none⟩ = some (.slice aa n ac) := (cell_of hX 0).trans h0
  unfold hd16
  repeat (first | refine Walk.c rfl ?_ | refine Walk.cRet ?_ | refine Walk.cEnd ?_ | (refine Walk.cReg ?_; simp only [size16_0, size16_1, size16_2, size16_3, size16_4, size16_6, size16_7, size16_5, size16_8, List.range, List.range.loop]) | (refine Walk.oq ?_; try walk_nrm) | (refine Walk.un ?_; walk_nrm))
  exact (Walk.ret1 (Post := fun v w' => v = .bool true ∧ ∃ d, w' = w.at d) rfl rfl Try.func16 rfl fun d => ⟨rfl, d, rfl⟩).mono fun g w' ⟨v, ⟨hv, hd⟩, hg⟩ => ⟨by rw [hg, hv], hd⟩
theorem same16_go (X Y n i ab ao ac bb bo bc : Nat) (ta tb : Option Addr) (tl tc td : Nat) (f : Nat → Int) (u : Nat → Value) (cs : List Frame) (w : World) (hi : i < n) (hn : n ≤ 17592186044416) (htl : tl ≤ 17592186044416) (x0 : w.cell? ⟨X, 0, none⟩ = some (.slice (some ⟨ab, ao, none⟩) n ac)) (y0 : w.cell? ⟨Y, 0, none⟩ = some (.slice (some ⟨bb, bo, none⟩) n bc))
    (ha : w.cell? ⟨ab, ao + i, none⟩ = some (.slice ta tl tc)) (hb : w.cell? ⟨bb, bo + i, none⟩ = some (.slice tb tl td)) (h1 : ToldAt ta tl f w) (h2 : ToldAt tb tl f w) :
    Walk Try.prog main (DR (fun _ => none)) (fun g w' => (∃ u', g = G (hd16 X Y (i + 1) u') cs) ∧ ∃ d, w' = w.at d) (G (hd16 X Y i u) cs) w := by
  have hw1 : IntKind.wrap .i64 ((i : Int) + 1) = (i : Int) + 1 := by rw [IntKind.wrap_i64]; omega
  have hq := same45_w (main := main) (V := fun _ => none) ta tb tl tc td f htl w h1 h2
  clear h1 h2
  conv => arg 5; unfold hd16
  repeat (first | refine Walk.c rfl ?_ | refine Walk.cRet ?_ | refine Walk.cEnd ?_ | (refine Walk.cReg ?_; simp only [size16_0, size16_1, size16_2, size16_3, size16_4, size16_6, size16_7, size16_5, size16_8, List.range, List.range.loop]) | (refine Walk.oq ?_; try walk_nrm) | (refine Walk.un ?_; walk_nrm))
  (refine Walk.drawnC (by kernel_rfl) size16_6 (by kernel_rfl) (by kernel_rfl) (by decide) ?_; simp only [List.range, List.range.loop]; repeat (first | (refine Cm.opqA (ho_of (by conv => lhs; whnf) (by kernel_rfl)) (by rfl) (fun dd e he => ?_) ?_; (· (simp [go_sem, *] at he; try (subst he; exact evR_read _ _))); apply Exists.intro; apply And.intro; (· (intro dd K hK; go_simp; exact hK))) | (refine Cm.unw (ho_of (by conv => lhs; whnf) (by kernel_rfl)) (by rfl) ?_; walk_nrm)))
  refine Cm.callV (x := .bool true) ?_ (ho_of (by conv => lhs; whnf) (by kernel_rfl)) (by rfl) rfl Try.func45 (by kernel_rfl) (by rfl) ?_
  · intro w' e
    subst e
    walk_nrm
    exact hq
  walk_nrm
  repeat (first | (refine Cm.opqA (ho_of (by conv => lhs; whnf) (by kernel_rfl)) (by rfl) (fun dd e he => ?_) ?_; (· (simp [go_sem, *] at he; try (subst he; exact evR_read _ _))); apply Exists.intro; apply And.intro; (· (intro dd K hK; go_simp; exact hK))) | (refine Cm.unw (ho_of (by conv => lhs; whnf) (by kernel_rfl)) (by rfl) ?_; walk_nrm))
  refine Cm.done ?_
  repeat (first | refine Walk.c rfl ?_ | refine Walk.cRet ?_ | refine Walk.cEnd ?_ | (refine Walk.cReg ?_; simp only [size16_0, size16_1, size16_2, size16_3, size16_4, size16_6, size16_7, size16_5, size16_8, List.range, List.range.loop]) | (refine Walk.oq ?_; try walk_nrm) | (refine Walk.un ?_; walk_nrm))
  refine Walk.ctl rfl (fun w => stepG_inLoop) ?_
  refine .stop fun d' => ⟨at_slots ?_, d', rfl⟩
  have hc : ((i + 1 : Nat) : Int) = (i : Int) + 1 := by simp
  simp only [hd16, hc]
  rfl
theorem same16_loop (X Y n : Nat) (va vb : Array Value) (aa ba : Option Addr) (ac bc : Nat) (tl : Nat → Nat) (F : Nat → Nat → Int) (hn : n ≤ 17592186044416) (htl : ∀ i, i < n → tl i ≤ 17592186044416) (c : Frame) (cs : List Frame) (w : World) (hX : w.heap[X]? = some (.cells va 28)) (hY : w.heap[Y]? = some (.cells vb 28)) (h0 : va[0]? = some (.slice aa n ac)) (k0 : vb[0]? = some (.slice ba n bc)) (ha : TellsAt aa n tl F w) (hb : TellsAt ba n tl F w) : ∀ (r i : Nat) (u : Nat → Value), i + r = n →
    Walk Try.prog main (DR (fun _ => none)) (fun g w' => g = G (c.finish (.bool true)) cs ∧ ∃ d, w' = w.at d) (G (hd16 X Y i u) (c :: cs)) w := by
  intro r
  induction r with
  | zero =>
    intro i u hi
    have hi : i = n := hi
    subst hi
    exact same16_out X Y i va vb aa ac u c cs w hX h0 hY
  | succ r ih =>
    intro i u hi
    have hin : i < n := by omega
    obtain ⟨ab, ao, ta, tc, rfl, h1, h2⟩ := ha i hin
    obtain ⟨bb, bo, tb, td, rfl, k1, k2⟩ := hb i hin
    refine (same16_go X Y n i ab ao ac bb bo bc ta tb (tl i) tc td (F i) u (c :: cs) w hin hn (htl i hin) ((cell_of hX 0).trans h0) ((cell_of hY 0).trans k0) h1 k1 h2 k2).then ?_
    rintro g w' ⟨⟨u', rfl⟩, d, rfl⟩
    exact Walk.back (ih (i + 1) u' (by omega)) d
theorem same16_w (aa : Option Addr) (n ac : Nat) (oa : Option Addr) (on oc : Nat) (sa : Option Addr) (sn sc : Nat) (k : Bool) (ba : Option Addr) (bc : Nat) (pa : Option Addr) (pc : Nat) (ra : Option Addr) (rc : Nat) (fo fs : Nat → Int) (tl : Nat → Nat) (F : Nat → Nat → Int) (w : World) (hn : n ≤ 17592186044416) (hon : on ≤ 17592186044416) (hsn : sn ≤ 17592186044416) (htl : ∀ i, i < n → tl i ≤ 17592186044416) (o1 : NumsAt oa on fo w) (o2 : NumsAt pa on fo w) (s1 : NumsAt sa sn fs w) (s2 : NumsAt ra sn fs w) (a1 : TellsAt aa n tl F w) (a2 : TellsAt ba n tl F w) :
    CallW Try.prog main (fun _ => none) 16 #[.agg (trArr aa n ac oa on oc sa sn sc k), .agg (trArr ba n bc pa on pc ra sn rc k)] w (fun v w' => v = .bool true ∧ Old w w') := by
  intro fr cs
  refine (same16_in aa n ac oa on oc sa sn sc k ba bc pa pc ra rc fo fs (fr :: cs) w hon hsn o1 o2 s1 s2).then ?_
  rintro g w1 ⟨⟨u, rfl⟩, hO, hX, hY⟩
  refine (same16_loop w.heap.size (w.heap.size + 1) n _ _ aa ba ac bc tl F hn htl fr cs w1 hX hY rfl rfl (a1.old hO) (a2.old hO) n 0 u (by omega)).mono ?_
  rintro g w' ⟨rfl, d, rfl⟩
  exact ⟨_, ⟨rfl, hO.size, hO.same⟩, rfl⟩
end
section
variable {main : Bool}
def zerosT : Obj := .cells #[.slice none 0 0, .slice none 0 0, .slice none 0 0, .bool false] 28
theorem BoolsAt.old {ea : Option Addr} {n : Nat} {f : Nat → Bool} {w w' : World} (h : BoolsAt ea n f w) (hO : Old w w') : BoolsAt ea n f w' := fun i hi => by
  obtain ⟨b, o, e, hc⟩ := h i hi
  exact ⟨b, o, e, old_cell hO hc⟩
theorem play17_end (r : Nat) (sa : Option Addr) (sn sc : Nat) (l : Value) (ea : Option Addr) (n ec tu : Nat) (oa : Option Addr) (on oc : Nat) (f : Nat → Bool) (u : Nat → Value) (cs : List Frame) (w : World) (ho : w.cell? ⟨tu, 4, none⟩ = some (.slice oa on oc)) (hn : n ≤ 17592186044416) (hb : BoolsAt ea n f w) :
    Walk Try.prog main (DR (fun _ => none)) (fun g w' => (∃ u', g = G (hd17c r l w.heap.size 0 u') cs) ∧ ∃ d, w' = (w.alloc (.cells (trArr none 0 0 oa on oc sa sn sc (!(List.range n).all f)) 28)).at d) (G (at17a r (.slice sa sn sc) l (.slice ea n ec) tu u) cs) w := by
  have ho' := cell_alloc w zerosT ho
  have h1 := over50_w (main := main) (V := fun _ => none) ea n ec f hn w hb
  have h2 := over50_w (main := main) (V := fun _ => none) ea n ec f hn _ (hb.old (old_alloc w zerosT))
  clear hb
  generalize (List.range n).all f = b at *
  conv => arg 5; unfold at17a
  repeat (first | refine Walk.c rfl ?_ | refine Walk.cRet ?_ | refine Walk.cEnd ?_ | (refine Walk.cReg ?_; simp only [size17_0, size17_1, size17_2, size17_3, size17_4, size17_5, size17_6, size17_8, size17_9, size17_10, size17_11, size17_7, size17_12, size17_13, size17_14, size17_15, size17_16, size17_17, size17_18, size17_19, size17_21, size17_20, size17_22, List.range, List.range.loop]) | (refine Walk.oq ?_; try walk_nrm) | (refine Walk.un ?_; walk_nrm))
  refine Walk.drawnB (w1 := w.alloc (zerosT)) (vm := .pointer (some ⟨w.heap.size, 0, none⟩)) (by kernel_rfl) size17_17 (by kernel_rfl) (by kernel_rfl) (by kernel_rfl) (by decide) (ho_of (by conv => lhs; whnf) (by kernel_rfl)) ?_ ?_
  · intro x rest hr
    (refine Walk.oa ?_; try walk_nrm)
    exact hr _ _ ⟨rfl, _, rfl⟩
  simp only [List.range, List.range.loop]
  repeat (first | (refine Cm.opqB (ho_of (by conv => lhs; whnf) (by kernel_rfl)) (by rfl) (fun dd e he => ?_) (fun dd e he => ?_) ?_; (· (simp [go_sem, *] at he; try (subst he; exact evR_read _ _))); (· (simp [go_sem, *] at he; try (subst he; exact evR_read _ _))); apply Exists.intro; apply And.intro; (· (intro dd K hK; go_simp; exact hK)); apply And.intro; (· (intro dd K hK; go_simp; exact hK))) | (refine Cm.unw (ho_of (by conv => lhs; whnf) (by kernel_rfl)) (by rfl) ?_; walk_nrm))
  refine Cm.callV (x := .bool b) ?_ (ho_of (by conv => lhs; whnf) (by kernel_rfl)) (by rfl) rfl Try.func50 (by kernel_rfl) (by rfl) ?_
  · intro w' e
    walk_nrm
    rcases e with rfl | rfl
    · exact h1
    · exact h2
  walk_nrm
  repeat (first | (refine Cm.opqB (ho_of (by conv => lhs; whnf) (by kernel_rfl)) (by rfl) (fun dd e he => ?_) (fun dd e he => ?_) ?_; (· (simp [go_sem, *] at he; try (subst he; exact evR_read _ _))); (· (simp [go_sem, *] at he; try (subst he; exact evR_read _ _))); apply Exists.intro; apply And.intro; (· (intro dd K hK; go_simp; exact hK)); apply And.intro; (· (intro dd K hK; go_simp; exact hK))) | (refine Cm.unw (ho_of (by conv => lhs; whnf) (by kernel_rfl)) (by rfl) ?_; walk_nrm))
  refine Cm.done ?_
  intro rest hr
  refine Walk.storeS 28 (.tmp 17) (.tmp 85) (ho_of (by conv => lhs; whnf) (by kernel_rfl)) (by rfl) (by decide) rfl w.heap.size (trArr none 0 0 oa on oc sa sn sc (!b)) #[.slice none 0 0, .slice none 0 0, .slice none 0 0, .bool false] 28 rfl rfl (heap_alloc_new _ _) (by kernel_rfl) rfl (by simp [trArr, Value.oneCell']) (apart0 _) ?_
  refine hr _ _ ?_
  walk_nrm
  unfold zerosT
  rw [setRow_alloc]
  try walk_nrm
  generalize w.alloc (.cells (trArr none 0 0 oa on oc sa sn sc (!b)) 28) = w1 at *
  repeat (first | refine Walk.c rfl ?_ | refine Walk.cRet ?_ | refine Walk.cEnd ?_ | (refine Walk.cReg ?_; simp only [size17_0, size17_1, size17_2, size17_3, size17_4, size17_5, size17_6, size17_8, size17_9, size17_10, size17_11, size17_7, size17_12, size17_13, size17_14, size17_15, size17_16, size17_17, size17_18, size17_19, size17_21, size17_20, size17_22, List.range, List.range.loop]) | (refine Walk.oq ?_; try walk_nrm) | (refine Walk.un ?_; walk_nrm))
  refine Walk.ctl rfl (fun w => stepG_loop) ?_
  refine .stop fun d => ⟨at_slots ?_, d, rfl⟩
  simp only [hd17c]
  rfl
end
section
variable {main : Bool}
theorem play17_tell (r o lb n lc i p : Nat) (aa : Option Addr) (ac : Nat) (ta : Option Addr) (tn tc : Nat) (xs : List Value) (rest4 : List Value) (u : Nat → Value) (cs : List Frame) (w : World) (ho : w.heap[o]? = some (.cells (Value.slice aa i ac :: rest4).toArray 28)) (hrow : w.ownsRow 0 36 1 (.slice aa i ac) i xs) (hno : (Value.slice aa i ac).ownBlock ≠ some o) (hnl : (Value.slice aa i ac).ownBlock ≠ some lb) (hnp : (Value.slice aa i ac).ownBlock ≠ some p)
    (hi : i < n) (hn : n ≤ 1048576) (hl : w.cell? ⟨lb, i, none⟩ = some (.pointer (some ⟨p, 0, none⟩))) (hp : w.cell? ⟨p, 6, none⟩ = some (.slice ta tn tc)) :
    Walk Try.prog main (DR (fun _ => none)) (fun g' w' => ∃ g cap w3, (∃ u', g' = G (hd17c r (.slice (some ⟨lb, 0, none⟩) n lc) o (i + 1) u') cs) ∧ (∃ d, w' = (w3.setCell ⟨o, 0, none⟩ (.slice (some ⟨g, 0, none⟩) (i + 1) cap)).at d) ∧ w3.ownsRow 0 36 1 (.slice (some ⟨g, 0, none⟩) (i + 1) cap) (i + 1) (xs ++ [.slice ta tn tc]) ∧ (w.alloc (.cells #[.slice ta tn tc] 36)).grownBy w3 (Value.slice aa i ac).ownBlock ∧ ((Value.slice aa i ac).ownBlock = some g ∨ g = (w.alloc (.cells #[.slice ta tn tc] 36)).heap.size))
      (G (hd17c r (.slice (some ⟨lb, 0, none⟩) n lc) o i u) cs) w := by
  have hw1 : IntKind.wrap .i64 ((i : Int) + 1) = (i : Int) + 1 := by rw [IntKind.wrap_i64]; omega
  have h0 : w.cell? ⟨o, 0, none⟩ = some (.slice aa i ac) := (cell_of ho 0).trans rfl
  have hlo := (Array.getElem?_eq_some_iff.1 ho).1
  have hsz1 : (w.alloc (.cells #[.slice ta tn tc] 36)).heap.size = w.heap.size + 1 := by simp
  have hO1 := old_alloc w (.cells #[.slice ta tn tc] 36)
  have hrow' : (w.alloc (.cells #[.slice ta tn tc] 36)).ownsRow 0 36 1 (.slice aa i ac) i xs := row_same hrow fun g hg => hO1.same g (hrow.lt g hg).2
  have hnews : ∀ (j : Nat) (u : Value), ([.slice ta tn tc] : List Value)[j]? = some u → (w.alloc (.cells #[.slice ta tn tc] 36)).cell? ((⟨w.heap.size, 0, none⟩ : Addr).add j) = some u := fun j u hu => by
    rw [add_none, Nat.zero_add]
    refine (cell_of (heap_alloc_new _ _) j).trans ?_
    simpa using hu
  have hfar : ∀ (b : Nat) (w2 : World), b < w.heap.size → (Value.slice aa i ac).ownBlock ≠ some b → (w.alloc (.cells #[.slice ta tn tc] 36)).grownBy w2 (Value.slice aa i ac).ownBlock → w2.heap[b]? = w.heap[b]? := fun b w2 hb hne hg => (hg.block b (by omega) (fun e => hne e.symm)).trans (hO1.same b hb)
  conv => arg 5; unfold hd17c
  repeat (first | refine Walk.c rfl ?_ | refine Walk.cRet ?_ | refine Walk.cEnd ?_ | (refine Walk.cReg ?_; simp only [size17_0, size17_1, size17_2, size17_3, size17_4, size17_5, size17_6, size17_8, size17_9, size17_10, size17_11, size17_7, size17_12, size17_13, size17_14, size17_15, size17_16, size17_17, size17_18, size17_19, size17_21, size17_20, size17_22, List.range, List.range.loop]) | (refine Walk.oq ?_; try walk_nrm) | (refine Walk.un ?_; walk_nrm))
  refine Walk.drawnT (iA := 9) (iB := 10) (w1 := w.alloc (.cells #[.slice ta tn tc] 36)) (vA := .slice (some ⟨w.heap.size, 0, none⟩) 1 1) (Z := fun x => x.cell? ⟨o, 0, none⟩ = some (.slice aa i ac) ∧ x.cell? ⟨lb, i, none⟩ = some (.pointer (some ⟨p, 0, none⟩)) ∧ x.cell? ⟨p, 6, none⟩ = some (.slice ta tn tc))
    (fun v w2 => ∃ g cap, v = .slice (some ⟨g, 0, none⟩) (i + 1) cap ∧ w2.ownsRow 0 36 1 (.slice (some ⟨g, 0, none⟩) (i + 1) cap) (i + 1) (xs ++ [.slice ta tn tc]) ∧ (w.alloc (.cells #[.slice ta tn tc] 36)).grownBy w2 (Value.slice aa i ac).ownBlock ∧ ((Value.slice aa i ac).ownBlock = some g ∨ g = (w.alloc (.cells #[.slice ta tn tc] 36)).heap.size)) (by kernel_rfl) size17_21 (by kernel_rfl) (by kernel_rfl) (by kernel_rfl) (by kernel_rfl) (by decide) (ho_of (by conv => lhs; whnf) (by kernel_rfl)) (ho_of (by conv => lhs; whnf) (by kernel_rfl)) ⟨h0, hl, hp⟩ ⟨old_cell hO1 h0, old_cell hO1 hl, old_cell hO1 hp⟩ ?_ ?_
  · rintro v w2 ⟨g, cap, _, _, hg, _⟩
    exact ⟨(World.cell?_of_block (a := ⟨o, 0, none⟩) (hfar o w2 hlo hno hg)).trans h0, (World.cell?_of_block (a := ⟨lb, i, none⟩) (hfar lb w2 (cell_lt w hl) hnl hg)).trans hl, (World.cell?_of_block (a := ⟨p, 6, none⟩) (hfar p w2 (cell_lt w hp) hnp hg)).trans hp⟩
  rw [show List.filter (quietQ 9 10) (List.range 12) = [0, 1, 2, 3, 4, 5, 6, 7, 8, 11] from by decide]
  repeat (first | (refine Cm.opqZ (ho_of (by conv => lhs; whnf) (by kernel_rfl)) (by rfl) (fun wz hz dd e he => ?_) ?_; (· (obtain ⟨z1, z2, z3⟩ := hz; simp [go_sem, *] at he; try (subst he; exact evR_read _ _))); apply Exists.intro; apply And.intro; (· (intro wz hz dd K hK; obtain ⟨z1, z2, z3⟩ := hz; go_simp; exact hK))) | (refine Cm.unw (ho_of (by conv => lhs; whnf) (by kernel_rfl)) (by rfl) ?_; walk_nrm))
  refine Cm.done ⟨?_, ?_, ?_⟩
  · intro x hev rest hr'
    have e0 : x.eval (.tmp 100) = .slice ta tn tc := (hev (.tmp 100) (by simp [Op.operands])).trans rfl
    have e1 : x.tmps[100]?.getD undef = .slice ta tn tc := by
      rw [← Array.getD_eq_getD_getElem?]
      exact e0
    clear e0 hev
    (refine Walk.oa ?_; try walk_nrm)
    exact hr' _ _ ⟨rfl, _, rfl⟩
  · intro x hev rest hr'
    have e1 : x.eval (.tmp 93) = .slice aa i ac := (hev (.tmp 93) (by simp [Op.operands, Call.operands])).trans rfl
    have e2 : x.eval (.tmp 101) = .slice (some ⟨w.heap.size, 0, none⟩) 1 1 := (hev (.tmp 101) (by simp [Op.operands, Call.operands])).trans rfl
    have hi36 := Option.some_get (show (Try.prog.info? 36).isSome = true by kernel_rfl)
    refine Walk.append (.tmp 93) (.tmp 101) 26 (ho_of (by conv => lhs; whnf) (by kernel_rfl)) (by rfl) (by decide) rfl 0 36 _ (.slice none 0 0) 1 24 (by kernel_rfl) hi36.symm (by rfl) (by rfl) (by rfl) (by rfl) (by decide) (.slice aa i ac) i xs e1 hrow' ⟨w.heap.size, 0, none⟩ 1 1 [.slice ta tn tc] e2 (by rfl) hnews (by simp [Value.oneCell']) (by decide) (by simp [maxLen]; omega) (by omega) (Nat.zero_le _) (fun g _ => apart0 g) (fun g cap w3 hown hg hat hlt => ?_)
    exact hr' _ _ ⟨_, w3, ⟨g, cap, rfl, hown, hg, hat⟩, rfl, w3.drawn, rfl⟩
  rintro v w2 ⟨g, cap, rfl, hown, hg, hat⟩ rest hr'
  have hb := hfar o w2 hlo hno hg
  have h0' : w2.cell? ⟨o, 0, none⟩ = some (.slice aa i ac) := (World.cell?_of_block (a := ⟨o, 0, none⟩) hb).trans h0
  have hz0 : w2.frozen? ⟨o, 0, none⟩ = false := frozen_of (hb.trans ho) 0
  have hf0 : Free (fun _ => none) ⟨o, 0, none⟩ := (apart0 o).1 _ rfl
  clear hfar hnews hrow' hO1 hrow hl hp h0
  (refine Walk.os hf0 h0' ?_; try walk_nrm)
  refine hr' _ _ ?_
  generalize hw3 : w2.setCell ⟨o, 0, none⟩ (.slice (some ⟨g, 0, none⟩) (i + 1) cap) = w3 at *
  try walk_nrm
  repeat (first | refine Walk.c rfl ?_ | refine Walk.cRet ?_ | refine Walk.cEnd ?_ | (refine Walk.cReg ?_; simp only [size17_0, size17_1, size17_2, size17_3, size17_4, size17_5, size17_6, size17_8, size17_9, size17_10, size17_11, size17_7, size17_12, size17_13, size17_14, size17_15, size17_16, size17_17, size17_18, size17_19, size17_21, size17_20, size17_22, List.range, List.range.loop]) | (refine Walk.oq ?_; try walk_nrm) | (refine Walk.un ?_; walk_nrm))
  refine Walk.ctl rfl (fun w => stepG_inLoop) ?_
  refine .stop fun d => ⟨g, cap, w2, at_slots ?_, ⟨d, by rw [hw3]⟩, hown, hg, hat⟩
  have hc : ((i + 1 : Nat) : Int) = (i : Int) + 1 := by simp
  simp only [hd17c, hc]
  rfl
end
section
variable {main : Bool} {V : Nat → Option Wait}
theorem results17 (tmps : Array Value) (T : Nat) (cells : Array Value) (w : World) (h8 : tmps.getD 8 undef = .pointer (some ⟨T, 0, none⟩)) (hT : w.heap[T]? = some (.cells cells 28 (0, 0))) (hsz : cells.size = 4) :
    (results Try.f17 tmps).run Try.prog w = .ok (.agg cells) w ∧ ∀ e ∈ (results Try.f17 tmps).events Try.prog w #[], EvR V e := by
  obtain ⟨fs, hu⟩ := und28
  have hi : (Try.prog.info? 28).map (·.size) = some 4 := by kernel_rfl
  have hl := run_loadVar_row (P := Try.prog) w T 28 28 cells (0, 0) _ hT hu rfl (by rw [hsz]; exact hi)
  have he := events_loadVar_reads (P := Try.prog) w ⟨T, 0, none⟩ 28 hu rfl hi
  simp only [Array.getD_eq_getD_getElem?] at h8
  constructor
  · simp only [results, Try.f17]
    simp [h8, asAddr, hl]
  · intro e hm
    refine evR_isRead (he e ?_)
    simp only [results, Try.f17] at hm
    simpa [h8, asAddr, hl] using hm
theorem play17_leave {fr : Frame} {c : Frame} {cs : List Frame} {T : Nat} {cells : Array Value} {w : World} (hf : fr.fn = 17) (hm : fr.mode = .returning) (hn : fr.kind = .normal) (hd : fr.defers = []) (h8 : fr.tmps.getD 8 undef = .pointer (some ⟨T, 0, none⟩)) (hT : w.heap[T]? = some (.cells cells 28 (0, 0))) (hsz : cells.size = 4) :
    Walk Try.prog main (DR V) (fun g w' => g = G (c.finish (.agg cells)) cs ∧ ∃ d, w' = w.at d) (G fr (c :: cs)) w :=
  Walk.evs (fun d => seen Try.prog fr.fn ((results Try.f17 fr.tmps).events Try.prog (w.at d) #[])) rfl (fun d => stepG_leaveF hm hn hd (by rw [hf]; exact Try.func17) (results17 (V := V) fr.tmps T cells (w.at d) h8 hT hsz).1)
    (fun d e he => (results17 (V := V) fr.tmps T cells (w.at d) h8 hT hsz).2 e (mem_seen he)) (.stop fun d => ⟨rfl, d, rfl⟩)
theorem play17_out (r o n lc : Nat) (la : Option Addr) (x0 x1 x2 x3 y0 y1 y2 y3 : Value) (u : Nat → Value) (c : Frame) (cs : List Frame) (w : World) (ho : w.heap[o]? = some (.cells #[x0, x1, x2, x3] 28)) (hr : w.heap[r]? = some (.cells #[y0, y1, y2, y3] 28)) (h1 : (#[x0, x1, x2, x3] : Array Value).all (·.oneCell') = true) :
    Walk Try.prog main (DR (fun _ => none)) (fun g w' => g = G (c.finish (.agg #[x0, x1, x2, x3])) cs ∧ ∃ d, w' = (w.setRow r #[x0, x1, x2, x3]).at d) (G (hd17c r (.slice la n lc) o n u) (c :: cs)) w := by
  obtain ⟨fs, hu⟩ := und28
  have hc : ∀ (j : Nat) (v : Value), [x0, x1, x2, x3][j]? = some v → w.cell? ⟨o, 0 + j, none⟩ = some v := fun j v hv => by
    rw [Nat.zero_add]
    refine (cell_of ho j).trans ?_
    simpa using hv
  have hT := setRow_self w r #[x0, x1, x2, x3] _ hr
  unfold hd17c
  repeat (first | refine Walk.c rfl ?_ | refine Walk.cRet ?_ | refine Walk.cEnd ?_ | (refine Walk.cReg ?_; simp only [size17_0, size17_1, size17_2, size17_3, size17_4, size17_5, size17_6, size17_8, size17_9, size17_10, size17_11, size17_7, size17_12, size17_13, size17_14, size17_15, size17_16, size17_17, size17_18, size17_19, size17_21, size17_20, size17_22, List.range, List.range.loop]) | (refine Walk.oq ?_; try walk_nrm) | (refine Walk.un ?_; walk_nrm))
  refine Walk.loadS 28 (.tmp 17) (ho_of (by conv => lhs; whnf) (by kernel_rfl)) (by rfl) (by decide) rfl o 0 [x0, x1, x2, x3] _ rfl hc hu rfl (by kernel_rfl) ?_
  walk_nrm
  refine Walk.storeS 28 (.tmp 8) (.tmp 104) (ho_of (by conv => lhs; whnf) (by kernel_rfl)) (by rfl) (by decide) rfl r #[x0, x1, x2, x3] #[y0, y1, y2, y3] 28 rfl rfl hr (by kernel_rfl) rfl h1 (apart0 _) ?_
  generalize hw2 : w.setRow r #[x0, x1, x2, x3] = w2 at *
  clear hc ho hr
  try walk_nrm
  repeat (first | refine Walk.c rfl ?_ | refine Walk.cRet ?_ | refine Walk.cEnd ?_ | (refine Walk.cReg ?_; simp only [size17_0, size17_1, size17_2, size17_3, size17_4, size17_5, size17_6, size17_8, size17_9, size17_10, size17_11, size17_7, size17_12, size17_13, size17_14, size17_15, size17_16, size17_17, size17_18, size17_19, size17_21, size17_20, size17_22, List.range, List.range.loop]) | (refine Walk.oq ?_; try walk_nrm) | (refine Walk.un ?_; walk_nrm))
  exact play17_leave rfl rfl rfl rfl rfl hT rfl
end
section
variable {main : Bool}
theorem play17_in (wa : Option Addr) (wc : Nat) (zs : List Int) (pv sv : Value) (most : Int) (cs : List Frame) (w : World) (hz : zs.length ≤ 17592186044416) (hnil : wa = none → zs = [] ∧ wc = 0) (hs : ∀ (j : Nat) (z : Int), zs[j]? = some z → ∃ s so, wa = some ⟨s, so, none⟩ ∧ w.cell? ⟨s, so + j, none⟩ = some (.int .i64 z)) :
    Walk Try.prog main (DR (fun _ => none)) (fun g w' => ∃ sa sc, (∃ u, g = G (hd17 w.heap.size (.slice wa zs.length wc) pv sv most (.slice sa zs.length sc) (.slice none 0 0) (.slice none 0 0) 0 u) cs) ∧ Old w w' ∧ w'.heap[w.heap.size]? = some zerosT ∧ w'.ownsRow (w.heap.size + 1) 2 1 (.slice sa zs.length sc) zs.length (ints zs))
      (G (Frame.enter Try.prog 17 #[.slice wa zs.length wc, pv, sv, .int .i64 most] .normal) cs) w := by
  have hO0 := old_alloc w zerosT
  have hR0 := heap_alloc_new w zerosT
  have hs0 : (w.alloc zerosT).heap.size = w.heap.size + 1 := by simp
  have hs1 : ∀ (j : Nat) (z : Int), zs[j]? = some z → ∃ s so, wa = some ⟨s, so, none⟩ ∧ (w.alloc zerosT).cell? ⟨s, so + j, none⟩ = some (.int .i64 z) := fun j z h => by
    obtain ⟨s, so, e, hc⟩ := hs j z h
    exact ⟨s, so, e, old_cell hO0 hc⟩
  unfold zerosT at hO0 hR0 hs0 hs1
  rw [enter_at _ Try.func17 code17_is]
  simp only [Try.ntmps17, List.size_toArray, List.length_cons, List.length_nil, Nat.reduceAdd, Nat.reduceSub, Array.replicate_succ, Array.replicate_zero, List.push_toArray, List.append_toArray, List.nil_append, List.cons_append]
  repeat (first | refine Walk.c rfl ?_ | refine Walk.cRet ?_ | refine Walk.cEnd ?_ | (refine Walk.cReg ?_; simp only [size17_0, size17_1, size17_2, size17_3, size17_4, size17_5, size17_6, size17_8, size17_9, size17_10, size17_11, size17_7, size17_12, size17_13, size17_14, size17_15, size17_16, size17_17, size17_18, size17_19, size17_21, size17_20, size17_22, List.range, List.range.loop]) | (refine Walk.oq ?_; try walk_nrm) | (refine Walk.un ?_; walk_nrm))
  (refine Walk.oa ?_; try walk_nrm)
  generalize hwA : w.alloc (.cells #[.slice none 0 0, .slice none 0 0, .slice none 0 0, .bool false] 28) = wA at *
  repeat (first | refine Walk.c rfl ?_ | refine Walk.cRet ?_ | refine Walk.cEnd ?_ | (refine Walk.cReg ?_; simp only [size17_0, size17_1, size17_2, size17_3, size17_4, size17_5, size17_6, size17_8, size17_9, size17_10, size17_11, size17_7, size17_12, size17_13, size17_14, size17_15, size17_16, size17_17, size17_18, size17_19, size17_21, size17_20, size17_22, List.range, List.range.loop]) | (refine Walk.oq ?_; try walk_nrm) | (refine Walk.un ?_; walk_nrm))
  have hi2 := Option.some_get (show (Try.prog.info? 2).isSome = true by kernel_rfl)
  refine Walk.appendSl (.tmp 19) (.tmp 20) 22 (ho_of (by conv => lhs; whnf) (by kernel_rfl)) (by rfl) (by decide) rfl (w.heap.size + 1) 2 _ (.int .i64 0) 1 8 (by kernel_rfl) hi2.symm (by rfl) (by rfl) (by rfl) (by rfl) (by decide) (.slice none 0 0) 0 [] rfl (row_nil wA _ _ _) wa zs.length wc (ints zs) rfl (fun e => ⟨by rw [(hnil e).1]; rfl, (hnil e).2⟩) (by simp [ints]) (fun ad e j u hu => ?_) (by simp [ints, Value.oneCell']) (by simp [maxLen]; omega) (by omega) (by omega) (fun g hg => by simp [Value.ownBlock] at hg) fun v w1 hown hg hat => ?_
  · unfold ints at hu
    rw [List.getElem?_map] at hu
    obtain ⟨z, hz, rfl⟩ := Option.map_eq_some_iff.1 hu
    obtain ⟨s, so, e', hc⟩ := hs1 j z hz
    rw [e] at e'
    cases e'
    rw [add_none]
    exact hc
  clear hi2
  rw [Nat.zero_add, List.nil_append] at hown
  obtain ⟨la, lc, rfl⟩ := row_shape hown
  have hO : Old wA w1 := ⟨hg.size, fun b hb => hg.block b hb (by simp [Value.ownBlock])⟩
  clear hg hat
  walk_nrm
  repeat (first | refine Walk.c rfl ?_ | refine Walk.cRet ?_ | refine Walk.cEnd ?_ | (refine Walk.cReg ?_; simp only [size17_0, size17_1, size17_2, size17_3, size17_4, size17_5, size17_6, size17_8, size17_9, size17_10, size17_11, size17_7, size17_12, size17_13, size17_14, size17_15, size17_16, size17_17, size17_18, size17_19, size17_21, size17_20, size17_22, List.range, List.range.loop]) | (refine Walk.oq ?_; try walk_nrm) | (refine Walk.un ?_; walk_nrm))
  refine Walk.ctl rfl (fun w => stepG_loop) ?_
  refine .stop fun d => ⟨la, lc, at_slots ?_, ⟨(hO0.trans hO).size, (hO0.trans hO).same⟩, (hO.same _ (by omega)).trans hR0, hown⟩
  simp only [hd17]
  rfl
theorem play17_begin (r sn sc n pc m lc ec : Nat) (sa la ea : Option Addr) (va : Option Addr) (vc : Nat) (sl : List Int) (wv : Value) (most : Int) (u : Nat → Value) (cs : List Frame) (w : World) (hm : min (n : Int) 64 = (m : Nat)) (hsl : sl.length ≤ 17592186044416) (hnil : va = none → sl = [] ∧ vc = 0) (hs : ∀ (j : Nat) (z : Int), sl[j]? = some z → ∃ s so, va = some ⟨s, so, none⟩ ∧ w.cell? ⟨s, so + j, none⟩ = some (.int .i64 z)) (pa : Option Addr) :
    Walk Try.prog main (DR (fun _ => none)) (fun g w' => ∃ B, (∃ u', g = G (hd17b r (.slice sa sn sc) (.slice la m lc) (.slice ea m ec) B u') cs) ∧ Kept B sl most w w')
      (G (hd17 r wv (.slice pa n pc) (.slice va sl.length vc) most (.slice sa sn sc) (.slice la m lc) (.slice ea m ec) m u) cs) w := by
  have hth := threads21_w (main := main) (V := fun _ => none) n w
  rw [hm] at hth
  conv => arg 5; unfold hd17
  repeat (first | refine Walk.c rfl ?_ | refine Walk.cRet ?_ | refine Walk.cEnd ?_ | (refine Walk.cReg ?_; simp only [size17_0, size17_1, size17_2, size17_3, size17_4, size17_5, size17_6, size17_8, size17_9, size17_10, size17_11, size17_7, size17_12, size17_13, size17_14, size17_15, size17_16, size17_17, size17_18, size17_19, size17_21, size17_20, size17_22, List.range, List.range.loop]) | (refine Walk.oq ?_; try walk_nrm) | (refine Walk.un ?_; walk_nrm))
  refine Walk.callV (x := .int .i64 (m : Nat)) (W := w) ?_ (ho_of (by conv => lhs; whnf) (by kernel_rfl)) (by rfl) (by decide) rfl Try.func21 (by kernel_rfl) (by rfl) ?_
  · walk_nrm
    exact hth
  clear hth hm
  walk_nrm
  repeat (first | refine Walk.c rfl ?_ | refine Walk.cRet ?_ | refine Walk.cEnd ?_ | (refine Walk.cReg ?_; simp only [size17_0, size17_1, size17_2, size17_3, size17_4, size17_5, size17_6, size17_8, size17_9, size17_10, size17_11, size17_7, size17_12, size17_13, size17_14, size17_15, size17_16, size17_17, size17_18, size17_19, size17_21, size17_20, size17_22, List.range, List.range.loop]) | (refine Walk.oq ?_; try walk_nrm) | (refine Walk.un ?_; walk_nrm))
  refine Walk.callW (Post := fun v w' => ∃ B, v = .pointer (some ⟨B, 0, none⟩) ∧ Kept B sl most w w') ?_ (ho_of (by conv => lhs; whnf) (by kernel_rfl)) (by rfl) (by decide) rfl Try.func47 (by kernel_rfl) (by rfl) ?_
  · walk_nrm
    exact newTurns47_w va vc sl most w hsl hnil hs
  rintro v w1 ⟨B, rfl, hK⟩
  walk_nrm
  repeat (first | refine Walk.c rfl ?_ | refine Walk.cRet ?_ | refine Walk.cEnd ?_ | (refine Walk.cReg ?_; simp only [size17_0, size17_1, size17_2, size17_3, size17_4, size17_5, size17_6, size17_8, size17_9, size17_10, size17_11, size17_7, size17_12, size17_13, size17_14, size17_15, size17_16, size17_17, size17_18, size17_19, size17_21, size17_20, size17_22, List.range, List.range.loop]) | (refine Walk.oq ?_; try walk_nrm) | (refine Walk.un ?_; walk_nrm))
  refine Walk.ctl rfl (fun w => stepG_loop) ?_
  refine .stop fun d => ⟨B, at_slots ?_, hK.all, hK.lt, ⟨hK.old.size, hK.old.same⟩⟩
  simp only [hd17b]
  rfl
end
section
inductive RR where
  | res
  | old
  | ws
  | lr
  | er
  | tu
  | sc
  | od
  | th (i : Nat)
  | td (i : Nat)
structure RG where
  W : World
  n : Nat
  nw : Nat
  r : Nat
  sa : Option Addr
  sw : Nat
  sc : Nat
  progs : Nat → List Cd
  ca : Nat → Option Addr
  cc : Nat → Nat
def RG.cv (g : RG) (i : Nat) : Value := .slice (g.ca i) (g.progs i).length (g.cc i)
structure RTh (g : RG) (ps : Nat → Nat) (k : Nat) (x : PX) (w : World) (κ : Nat → Option RR) (ats : Nat → Int) (tas : Nat → Option Addr) (tcs : Nat → Nat) : Prop where
  lt : ∀ b r, κ b = some r → b < w.heap.size
  old : ∀ b, b < g.W.heap.size → κ b = some .old ∧ w.heap[b]? = g.W.heap[b]?
  res : κ g.r = some .res ∧ w.heap[g.r]? = some zerosT
  rP : ∀ i, i < k → κ (ps i) = some (.th i)
  th : ∀ i, i < k → RtIs (ps i) (g.cv i) (ats i) (x.th i) (x.out i).isSome (tas i) (tcs i) w
  at_ : ∀ i, i < k → AtOf (g.progs i).length (x.th i).pc (ats i)
  rT : ∀ i, i < k → ∀ b, (Value.slice (tas i) (x.th i).told.length (tcs i)).ownBlock = some b → κ b = some (.td i)
  ws : 0 < g.nw → g.sa = some ⟨g.sw, 0, none⟩ ∧ κ g.sw = some .ws ∧ WsR g.sw g.nw x.words w
  told : ∀ i, i < k → (x.th i).told.length ≤ 4096 * (x.cnt + 1)
  stands : ∀ i, i < k → x.out i = none → ∃ (cd : Cd) (m : Nat), (x.th i).pc = m ∧ (g.progs i)[m]? = some cd ∧ isStepX g.nw cd = true
def ext (κ : Nat → Option RR) (b0 : Option Nat) (r : RR) : Nat → Option RR := fun b => match κ b with
  | some r' => some r'
  | none => if b0 = some b then some r else none
theorem ext_keep {κ : Nat → Option RR} {b0 : Option Nat} {r0 : RR} {b : Nat} {r : RR} (h : κ b = some r) : ext κ b0 r0 b = some r := by
  simp [ext, h]
theorem ext_new {κ : Nat → Option RR} {b0 : Option Nat} {r0 : RR} {b : Nat} (hb : b0 = some b) (h : ∀ r', κ b = some r' → r' = r0) : ext κ b0 r0 b = some r0 := by
  unfold ext
  cases e : κ b with
  | none => simp [hb]
  | some r' => simp [h r' e]
theorem ext_lt {κ : Nat → Option RR} {b0 : Option Nat} {r0 : RR} {b n : Nat} {r : RR} (h : ext κ b0 r0 b = some r) (h1 : ∀ r', κ b = some r' → b < n) (h2 : b0 = some b → b < n) : b < n := by
  unfold ext at h
  cases e : κ b with
  | none =>
    rw [e] at h
    by_cases hb : b0 = some b
    · exact h2 hb
    · simp [hb] at h
  | some r' => exact h1 r' e
section
variable {g : RG} {ps : Nat → Nat} {k : Nat} {x : PX} {w w' : World} {κ κ' : Nat → Option RR} {ats : Nat → Int} {tas : Nat → Option Addr} {tcs : Nat → Nat}
theorem role_two {b b' : Nat} {r r' : RR} (h : κ b = some r) (h' : κ b' = some r') (hr : r ≠ r') : b ≠ b' := by
  rintro rfl
  rw [h] at h'
  exact hr (Option.some.inj h')
theorem RTh.new (H : RTh g ps k x w κ ats tas tcs) {b : Nat} (hb : w.heap.size ≤ b) : κ b = none := by
  cases e : κ b with
  | none => rfl
  | some r => have := H.lt b r e; omega
theorem RTh.frame (H : RTh g ps k x w κ ats tas tcs) (hext : ∀ b r, κ b = some r → κ' b = some r) (hlt : ∀ b r, κ' b = some r → b < w'.heap.size)
    (hsame : ∀ b r, κ b = some r → r ≠ .tu → r ≠ .od → r ≠ .er → r ≠ .lr → r ≠ .sc → w'.heap[b]? = w.heap[b]?) : RTh g ps k x w' κ' ats tas tcs := by
  refine ⟨hlt, fun b hb => ?_, ⟨hext _ _ H.res.1, (hsame _ _ H.res.1 (by simp) (by simp) (by simp) (by simp) (by simp)).trans H.res.2⟩, fun i hi => hext _ _ (H.rP i hi), fun i hi => ?_, H.at_, fun i hi b hb => hext _ _ (H.rT i hi b hb), fun hn => ?_, H.told, H.stands⟩
  · obtain ⟨h1, h2⟩ := H.old b hb
    exact ⟨hext _ _ h1, (hsame _ _ h1 (by simp) (by simp) (by simp) (by simp) (by simp)).trans h2⟩
  · obtain ⟨h1, h2, h3⟩ := H.th i hi
    exact ⟨(hsame _ _ (H.rP i hi) (by simp) (by simp) (by simp) (by simp) (by simp)).trans h1, row_same h2 fun b hb => hsame _ _ (H.rT i hi b hb) (by simp) (by simp) (by simp) (by simp) (by simp), h3⟩
  · obtain ⟨h1, h2, h3⟩ := H.ws hn
    exact ⟨h1, hext _ _ h2, h3.same (hsame _ _ h2 (by simp) (by simp) (by simp) (by simp) (by simp))⟩
theorem RTh.at (H : RTh g ps k x w κ ats tas tcs) (d : Nat) : RTh g ps k x (w.at d) κ ats tas tcs :=
  H.frame (fun _ _ h => h) H.lt fun _ _ _ _ _ _ _ _ => rfl
theorem ownX_stands (codes : List Cd) (nw : Nat) : ∀ (k : Nat) (t : Th), (ownX codes nw k t).1 = false → ∃ (cd : Cd) (m : Nat), (ownX codes nw k t).2.pc = m ∧ codes[m]? = some cd ∧ isStepX nw cd = true
  | 0, t, h => by
    unfold ownX at h ⊢
    cases e : codeAt codes t.pc with
    | none => rw [e] at h; simp at h
    | some c =>
      rw [e] at h
      obtain ⟨m, h1, _, h3⟩ := codeAt_some e
      exact ⟨c, m, h1, h3, by simpa using h⟩
  | k + 1, t, h => by
    unfold ownX at h ⊢
    cases e : codeAt codes t.pc with
    | none => rw [e] at h; simp at h
    | some c =>
      rw [e] at h
      simp only [] at h ⊢
      by_cases hs : isStepX nw c = true
      · rw [if_pos hs] at h ⊢
        obtain ⟨m, h1, _, h3⟩ := codeAt_some e
        exact ⟨c, m, h1, h3, hs⟩
      · rw [if_neg hs] at h ⊢
        exact ownX_stands codes nw k _ h
theorem codeAt_of {codes : List Cd} {pc : Int} {m : Nat} {cd : Cd} (h : pc = m) (hc : codes[m]? = some cd) : codeAt codes pc = some cd := by
  subst h
  unfold codeAt
  rw [if_neg (by omega)]
  simpa using hc
theorem some_bool (b : Bool) : (if b then some false else none : Option Bool).isSome = b := by cases b <;> rfl
theorem RTh.settle {i kk cnt' : Nat} {words' : Nat → Int} {t1 : Th} {at' : Int} {ta' : Option Addr} {tc' : Nat} {b0 : Option Nat} (H : RTh g ps k x w κ ats tas tcs) (hi : i < kk) (hkk : ∀ j, j < kk → j ≠ i → j < k)
    (hP : κ (ps i) = some (.th i) ∨ (∀ j, j < k → j ≠ i) ∧ b0 = some (ps i) ∧ w.heap.size ≤ ps i ∧ ps i < w'.heap.size)
    (hsz : w.heap.size ≤ w'.heap.size) (hb0 : ∀ b, b0 = some b → b = ps i)
    (hsame : ∀ b r, κ b = some r → r ≠ .tu → r ≠ .od → r ≠ .er → r ≠ .lr → r ≠ .sc → r ≠ .ws → r ≠ .th i → r ≠ .td i → w'.heap[b]? = w.heap[b]?)
    (hws : 0 < g.nw → WsR g.sw g.nw words' w') (hcnt : x.cnt ≤ cnt') (htold : t1.told.length + 4096 ≤ 4096 * (cnt' + 1))
    (hR : RtIs (ps i) (g.cv i) at' (ownX (g.progs i) g.nw 4096 t1).2 (ownX (g.progs i) g.nw 4096 t1).1 ta' tc' w') (hat : AtOf (g.progs i).length (ownX (g.progs i) g.nw 4096 t1).2.pc at')
    (hrow : ∀ b, (Value.slice ta' (ownX (g.progs i) g.nw 4096 t1).2.told.length tc').ownBlock = some b → (∀ r, κ b = some r → r = .td i) ∧ (i < k ∨ b ≠ ps i)) :
    ∃ κ', (∀ b r, κ b = some r → κ' b = some r) ∧ RTh g ps kk { words := words', th := upd x.th i (ownX (g.progs i) g.nw 4096 t1).2, out := upd x.out i (if (ownX (g.progs i) g.nw 4096 t1).1 then some false else none), cnt := cnt' } w' κ' (upd ats i at') (upd tas i ta') (upd tcs i tc') := by
  have hnt : ps i ∉ (Value.slice ta' (ownX (g.progs i) g.nw 4096 t1).2.told.length tc').ownBlock := fun e => hR.own e
  refine ⟨ext (ext κ b0 (.th i)) (Value.slice ta' (ownX (g.progs i) g.nw 4096 t1).2.told.length tc').ownBlock (.td i), fun b r h => ext_keep (ext_keep h), ?_⟩
  have keep : ∀ {b r}, κ b = some r → ext (ext κ b0 (.th i)) (Value.slice ta' (ownX (g.progs i) g.nw 4096 t1).2.told.length tc').ownBlock (.td i) b = some r := fun h => ext_keep (ext_keep h)
  have hji : ∀ j, j ≠ i → (RR.th j ≠ .th i ∧ RR.td j ≠ .td i) := fun j hj => ⟨fun e => hj (by cases e; rfl), fun e => hj (by cases e; rfl)⟩
  refine ⟨fun b r h => ?_, fun b hb => ?_, ⟨keep H.res.1, ?_⟩, fun j hj => ?_, fun j hj => ?_, fun j hj => ?_, fun j hj b hb => ?_, fun hn => ?_, fun j hj => ?_, fun j hj hout => ?_⟩
  · refine ext_lt h (fun r' h' => ext_lt h' (fun r'' h'' => by have := H.lt b r'' h''; omega) fun e => ?_) fun e => (hR.row.lt b e).2
    rw [hb0 b e]
    exact hR.lt
  · obtain ⟨h1, h2⟩ := H.old b hb
    exact ⟨keep h1, (hsame b _ h1 (by simp) (by simp) (by simp) (by simp) (by simp) (by simp) (by simp) (by simp)).trans h2⟩
  · exact (hsame _ _ H.res.1 (by simp) (by simp) (by simp) (by simp) (by simp) (by simp) (by simp) (by simp)).trans H.res.2
  · by_cases e : j = i
    · subst e
      rcases hP with h | ⟨_, h, h2, _⟩
      · exact keep h
      · exact ext_keep (ext_new h fun r' e' => by have := H.lt _ _ e'; omega)
    · exact keep (H.rP j (hkk j hj e))
  · by_cases e : j = i
    · subst e
      simp only [upd_same, some_bool]
      exact hR
    · obtain ⟨h1, h2, h3⟩ := H.th j (hkk j hj e)
      obtain ⟨e1, e2⟩ := hji j e
      simp only [upd_ne _ _ e]
      exact ⟨(hsame _ _ (H.rP j (hkk j hj e)) (by simp) (by simp) (by simp) (by simp) (by simp) (by simp) e1 (by simp)).trans h1, row_same h2 fun b hb => hsame _ _ (H.rT j (hkk j hj e) b hb) (by simp) (by simp) (by simp) (by simp) (by simp) (by simp) (by simp) e2, h3⟩
  · by_cases e : j = i
    · subst e; simp only [upd_same]; exact hat
    · simp only [upd_ne _ _ e]; exact H.at_ j (hkk j hj e)
  · by_cases e : j = i
    · subst e
      simp only [upd_same] at hb
      refine ext_new hb fun r' h' => ?_
      have hne : b ≠ ps j := fun e => hR.own (by rw [hb, e])
      have : κ b = some r' := by
        unfold ext at h'
        cases e : κ b with
        | none =>
          rw [e] at h'
          have : ¬ b0 = some b := fun e => hne (hb0 b e)
          simp [this] at h'
        | some r'' => rw [e] at h'; exact h'
      exact (hrow b hb).1 r' this
    · simp only [upd_ne _ _ e] at hb
      exact keep (H.rT j (hkk j hj e) b hb)
  · obtain ⟨h1, h2, _⟩ := H.ws hn
    exact ⟨h1, keep h2, hws hn⟩
  · by_cases e : j = i
    · subst e
      simp only [upd_same]
      have := ownX_told (g.progs j) g.nw 4096 t1
      omega
    · simp only [upd_ne _ _ e]
      have := H.told j (hkk j hj e)
      have : 4096 * (x.cnt + 1) ≤ 4096 * (cnt' + 1) := Nat.mul_le_mul_left _ (by omega)
      omega
  · by_cases e : j = i
    · subst e
      simp only [upd_same] at hout ⊢
      refine ownX_stands _ _ _ _ ?_
      revert hout
      cases (ownX (g.progs j) g.nw 4096 t1).1 <;> simp
    · simp only [upd_ne _ _ e] at hout ⊢
      exact H.stands j (hkk j hj e) hout
end
end
section
structure RL where
  la : Option Addr
  lc : Nat
  ea : Option Addr
  ec : Nat
  tu : Nat
  va : Option Addr
  vc : Nat
  sl : List Int
  most : Int
structure RInv (g : RG) (L : RL) (ps : Nat → Nat) (x : PX) (ord : List Nat) (p rd : Nat) (oa : Option Addr) (oc : Nat) (w : World) (κ : Nat → Option RR) (ats : Nat → Int) (tas : Nat → Option Addr) (tcs : Nat → Nat) : Prop where
  T : RTh g ps g.n x w κ ats tas tcs
  lr : 0 < g.n → ∃ b arr, L.la = some ⟨b, 0, none⟩ ∧ κ b = some .lr ∧ w.heap[b]? = some (.cells arr 102 (0, 0)) ∧ ∀ i, i < g.n → arr[i]? = some (.pointer (some ⟨ps i, 0, none⟩))
  er : 0 < g.n → ∃ b arr, L.ea = some ⟨b, 0, none⟩ ∧ κ b = some .er ∧ w.heap[b]? = some (.cells arr 4 (0, 0)) ∧ ∀ i, i < g.n → arr[i]? = some (.bool (x.out i).isSome)
  rE : ∀ b o, L.ea = some ⟨b, o, none⟩ → κ b = some .er
  rU : κ L.tu = some .tu
  tu : TuIs L.tu L.va L.vc L.sl L.most p rd oa oc ord w
  sc : ∀ (j : Nat) (z : Int), L.sl[j]? = some z → ∃ s so, L.va = some ⟨s, so, none⟩ ∧ κ s = some .sc
  od : ∀ b, (Value.slice oa ord.length oc).ownBlock = some b → κ b = some .od
section
variable {g : RG} {L : RL} {ps : Nat → Nat} {x : PX} {ord : List Nat} {p rd : Nat} {oa : Option Addr} {oc : Nat} {w w' : World} {κ : Nat → Option RR} {ats : Nat → Int} {tas : Nat → Option Addr} {tcs : Nat → Nat}
theorem RInv.at (H : RInv g L ps x ord p rd oa oc w κ ats tas tcs) (d : Nat) : RInv g L ps x ord p rd oa oc (w.at d) κ ats tas tcs :=
  ⟨H.T.at d, H.lr, H.er, H.rE, H.rU, H.tu.at d, H.sc, H.od⟩
theorem RInv.bools (H : RInv g L ps x ord p rd oa oc w κ ats tas tcs) : BoolsAt L.ea g.n (fun i => (x.out i).isSome) w := fun i hi => by
  obtain ⟨b, arr, h1, _, h3, h4⟩ := H.er (by omega)
  exact ⟨b, 0, h1, by rw [Nat.zero_add]; exact (cell_of h3 i).trans (h4 i hi)⟩
theorem RInv.picked {i p' rd' : Nat} (H : RInv g L ps x ord p rd oa oc w κ ats tas tcs) (K : Picked L.tu (.slice L.va L.sl.length L.vc) L.most p' rd' oa oc ord i w w') :
    ∃ oa' oc' κ', (∀ b r, κ b = some r → κ' b = some r) ∧ RInv g L ps x (ord ++ [i]) p' rd' oa' oc' w' κ' ats tas tcs := by
  obtain ⟨oa', oc', h1, h2, h3, h4⟩ := K.all
  have hk := K.keep
  have hne : ∀ b r, κ b = some r → r ≠ .tu → r ≠ .od → w'.heap[b]? = w.heap[b]? := fun b r h e1 e2 =>
    hk.same b (H.T.lt b r h) (role_two h H.rU e1) (fun e => role_two h (H.od b e) e2 rfl)
  refine ⟨oa', oc', ext κ (Value.slice oa' (ord ++ [i]).length oc').ownBlock .od, fun b r h => ext_keep h, ?_⟩
  refine ⟨H.T.frame (fun b r h => ext_keep h) (fun b r h => ext_lt h (fun r' h' => by have := H.T.lt b r' h'; have := hk.size; omega) fun e => (h2.lt b e).2) (fun b r h e1 e2 _ _ _ => hne b r h e1 e2), fun hn => ?_, fun hn => ?_, fun b o e => ext_keep (H.rE b o e), ext_keep H.rU, ⟨h1, h2, h3, fun j z hz => ?_⟩, fun j z hz => ?_, fun b hb => ?_⟩
  · obtain ⟨b, arr, e1, e2, e3, e4⟩ := H.lr hn
    exact ⟨b, arr, e1, ext_keep e2, (hne b _ e2 (by simp) (by simp)).trans e3, e4⟩
  · obtain ⟨b, arr, e1, e2, e3, e4⟩ := H.er hn
    exact ⟨b, arr, e1, ext_keep e2, (hne b _ e2 (by simp) (by simp)).trans e3, e4⟩
  · obtain ⟨s, so, e1, e2, e3⟩ := H.tu.lst j z hz
    obtain ⟨s', so', e1', e2'⟩ := H.sc j z hz
    rw [e1] at e1'
    cases e1'
    exact ⟨s, so, e1, (World.cell?_of_block (a := ⟨s, so + j, none⟩) (hne s _ e2' (by simp) (by simp))).trans e2, e3⟩
  · obtain ⟨s, so, e1, e2⟩ := H.sc j z hz
    exact ⟨s, so, e1, ext_keep e2⟩
  · refine ext_new hb fun r' h' => ?_
    rcases h4 b hb with h | h
    · have := H.od b h
      rw [this] at h'
      exact (Option.some.inj h').symm
    · have := H.T.new h
      rw [this] at h'; cases h'
theorem RTh.size {k : Nat} (H : RTh g ps k x w κ ats tas tcs) : g.W.heap.size ≤ w.heap.size := by
  rcases Nat.lt_or_ge w.heap.size g.W.heap.size with h | h
  · have := H.lt _ _ (H.old _ h).1
    omega
  · exact h
theorem RTh.codes {k : Nat} (H : RTh g ps k x w κ ats tas tcs) {i : Nat} (h : CodesIn (g.ca i) (g.progs i) g.W) : CodesIn (g.ca i) (g.progs i) w := h.old ⟨H.size, fun b hb => (H.old b hb).2⟩
theorem RTh.code_old {k : Nat} (H : RTh g ps k x w κ ats tas tcs) {i : Nat} (h : CodesIn (g.ca i) (g.progs i) g.W) (hL : 0 < (g.progs i).length) {cb co : Nat} (e : g.ca i = some ⟨cb, co, none⟩) : κ cb = some .old := by
  obtain ⟨cb', co', e', hc⟩ := h 0 _ (List.getElem?_eq_getElem hL)
  rw [e] at e'
  cases e'
  exact (H.old cb (cell_lt g.W (hc 0 _ rfl))).1
theorem RInv.steps {i : Nat} {main : Bool} (H : RInv g L ps x ord p rd oa oc w κ ats tas tcs) (hi : i < g.n) (hout : x.out i = none) (hC : CodesIn (g.ca i) (g.progs i) g.W) (hL : (g.progs i).length ≤ 4398046511104) (hcnt : x.cnt ≤ 1048576) :
    ∃ cd, codeAt (g.progs i) (x.th i).pc = some cd ∧ 0 < g.nw ∧ g.sa = some ⟨g.sw, 0, none⟩ ∧ CallW Try.prog main (fun _ => none) 49 #[.pointer (some ⟨ps i, 0, none⟩), .slice (some ⟨g.sw, 0, none⟩) g.nw g.sc] w (fun v w' => v = .tuple #[] ∧ Stepped (ps i) g.sw g.nw (g.cc i) (g.ca i) (g.progs i) { (reachX cd x.words (x.th i)).2 with pc := (x.th i).pc + 1 } (reachX cd x.words (x.th i)).1 (tas i) (x.th i).told.length (tcs i) w w') := by
  obtain ⟨cd, m, hpc, hm, hs⟩ := H.T.stands i hi hout
  have hml := (List.getElem?_eq_some_iff.1 hm).1
  have hnw : 0 < g.nw := by
    unfold isStepX at hs
    simp only [Bool.and_eq_true, decide_eq_true_eq] at hs
    omega
  obtain ⟨w1, w2, w3⟩ := H.T.ws hnw
  have hat : ats i = m := by
    rcases H.T.at_ i hi with h | ⟨_, h⟩
    · rw [h, hpc]
    · omega
  have hR := H.T.th i hi
  rw [hout] at hR
  unfold RG.cv at hR
  rw [hat] at hR
  have ht := H.T.told i hi
  have h4 : 4096 * (x.cnt + 1) ≤ 4096 * 1048577 := Nat.mul_le_mul_left _ (by omega)
  refine ⟨cd, codeAt_of hpc hm, hnw, w1, ?_⟩
  exact step49_w (ps i) g.sw g.nw g.sc (g.cc i) m hL hR hpc hm hs (H.T.codes hC) w3 (role_two w2 (H.T.rP i hi) (by simp)) (fun e => role_two w2 (H.T.rT i hi _ e) (by simp) rfl) (fun cb co e => by
    have h := H.T.code_old hC (by omega) e
    exact ⟨H.T.lt _ _ h, role_two h (H.T.rP i hi) (by simp), role_two h w2 (by simp), fun e' => role_two h (H.T.rT i hi _ e') (by simp) rfl⟩) (by omega)
theorem next_is {n : Nat} {most : Int} {nw : Nat} {progs : Nat → List Cd} {i : Nat} {cd : Cd} (h : codeAt (progs i) (x.th i).pc = some cd) : (absP n most nw progs).next x i = { words := (reachX cd x.words (x.th i)).1, th := upd x.th i (ownX (progs i) nw 4096 { (reachX cd x.words (x.th i)).2 with pc := (x.th i).pc + 1 }).2, out := upd x.out i (if (ownX (progs i) nw 4096 { (reachX cd x.words (x.th i)).2 with pc := (x.th i).pc + 1 }).1 then some false else none), cnt := x.cnt + 1 } := by
  show nextP _ x i = _
  unfold nextP
  rw [h]
  rfl
theorem RInv.stepped {i : Nat} {cd : Cd} {b : Bool} {w1 : World} (H : RInv g L ps x ord p rd oa oc w κ ats tas tcs) (hi : i < g.n) (hcd : codeAt (g.progs i) (x.th i).pc = some cd) (hnw : 0 < g.nw)
    (S : Stepped (ps i) g.sw g.nw (g.cc i) (g.ca i) (g.progs i) { (reachX cd x.words (x.th i)).2 with pc := (x.th i).pc + 1 } (reachX cd x.words (x.th i)).1 (tas i) (x.th i).told.length (tcs i) w w1) (hb : w1.cell? ⟨ps i, 7, none⟩ = some (.bool b)) {eb : Nat} (hea : L.ea = some ⟨eb, 0, none⟩) {most : Int} :
    ∃ κ' ats' tas' tcs', RInv g L ps ((absP g.n most g.nw g.progs).next x i) ord p rd oa oc (w1.setCell ⟨eb, i, none⟩ (.bool b)) κ' ats' tas' tcs' := by
  obtain ⟨w0e, w2, w3⟩ := H.T.ws hnw
  have hpi := H.T.rP i hi
  rw [next_is hcd]
  obtain ⟨at', ta', tc', hat, hR, hg⟩ := S.is
  generalize ht1 : ({ (reachX cd x.words (x.th i)).2 with pc := (x.th i).pc + 1 } : Th) = t1 at *
  generalize (reachX cd x.words (x.th i)).1 = words1 at *
  have hlen : t1.told.length ≤ (x.th i).told.length := by
    rw [← ht1]
    show (reachX cd x.words (x.th i)).2.told.length ≤ _
    rw [(reachX_keeps cd x.words (x.th i)).1]
    exact Nat.le_refl _
  have hsame1 : ∀ b r, κ b = some r → r ≠ .ws → r ≠ .th i → r ≠ .td i → w1.heap[b]? = w.heap[b]? := fun b r h e1 e2 e3 =>
    S.same b (H.T.lt b r h) (role_two h hpi e2) (role_two h w2 e1) (fun e => role_two h (H.T.rT i hi b e) e3 rfl)
  obtain ⟨eb', arr, e1, e2, e3, e4⟩ := H.er (by omega)
  rw [hea] at e1
  cases e1
  have he1 : w1.heap[eb]? = some (.cells arr 4 (0, 0)) := (hsame1 eb _ e2 (by simp) (by simp) (by simp)).trans e3
  have hsz : (w1.setCell ⟨eb, i, none⟩ (.bool b)).heap.size = w1.heap.size := size_set ..
  have hset : ∀ c, c ≠ eb → (w1.setCell ⟨eb, i, none⟩ (.bool b)).heap[c]? = w1.heap[c]? := fun c hc => heap_set_other _ _ _ _ hc
  have hbo : (ownX (g.progs i) g.nw 4096 t1).1 = b := by
    have := (cell_of hR.blk 7).symm.trans hb
    simpa [rtArr] using this
  have hpe : ps i ≠ eb := role_two hpi e2 (by simp)
  have hrow : ∀ c, (Value.slice ta' (ownX (g.progs i) g.nw 4096 t1).2.told.length tc').ownBlock = some c → (∀ r, κ c = some r → r = .td i) ∧ (i < g.n ∨ c ≠ ps i) := fun c hc => by
    refine ⟨fun r hr => ?_, .inl hi⟩
    rcases hg c hc with h | h
    · have := H.T.rT i hi c h
      rw [this] at hr
      exact (Option.some.inj hr).symm
    · rw [H.T.new h] at hr; cases hr
  have hce : ∀ c, (Value.slice ta' (ownX (g.progs i) g.nw 4096 t1).2.told.length tc').ownBlock = some c → c ≠ eb := fun c hc e => by
    have := (hrow c hc).1 _ (e ▸ e2)
    cases this
  have hR2 : RtIs (ps i) (g.cv i) at' (ownX (g.progs i) g.nw 4096 t1).2 (ownX (g.progs i) g.nw 4096 t1).1 ta' tc' (w1.setCell ⟨eb, i, none⟩ (.bool b)) :=
    ⟨(hset _ hpe).trans hR.blk, row_same hR.row fun c hc => hset c (hce c hc), hR.own⟩
  obtain ⟨κ', hx, hT⟩ := H.T.settle (w' := w1.setCell ⟨eb, i, none⟩ (.bool b)) (kk := g.n) (b0 := none) hi (fun j hj _ => hj) (.inl hpi) (by rw [hsz]; exact S.size) (fun b hb => by cases hb) (fun c r h _ _ h3 _ _ h6 h7 h8 => (hset c (role_two h e2 h3)).trans (hsame1 c r h h6 h7 h8))
    (fun _ => S.ws.same (hset _ (role_two w2 e2 (by simp)))) (Nat.le_succ x.cnt) (by have := H.T.told i hi; omega) hR2 hat hrow
  have hstay : ∀ c r, κ c = some r → r ≠ .er → r ≠ .ws → r ≠ .th i → r ≠ .td i → (w1.setCell ⟨eb, i, none⟩ (.bool b)).heap[c]? = w.heap[c]? := fun c r h h1 h2 h3 h4 => (hset c (role_two h e2 h1)).trans (hsame1 c r h h2 h3 h4)
  refine ⟨κ', _, _, _, hT, fun hn => ?_, fun hn => ?_, fun b o e => hx _ _ (H.rE b o e), hx _ _ H.rU, ⟨(hstay _ _ H.rU (by simp) (by simp) (by simp) (by simp)).trans H.tu.blk, row_same H.tu.row fun c hc => hstay c _ (H.od c hc) (by simp) (by simp) (by simp) (by simp), H.tu.own, fun j z hz => ?_⟩, fun j z hz => ?_, fun c hc => hx _ _ (H.od c hc)⟩
  · obtain ⟨c, a2, f1, f2, f3, f4⟩ := H.lr hn
    exact ⟨c, a2, f1, hx _ _ f2, (hstay c _ f2 (by simp) (by simp) (by simp) (by simp)).trans f3, f4⟩
  · refine ⟨eb, _, hea, hx _ _ e2, heap_set_self _ _ he1, fun j hj => ?_⟩
    by_cases e : j = i
    · subst e
      have hlt : j < arr.size := by
        have := e4 j hj
        exact (Array.getElem?_eq_some_iff.1 this).1
      rw [Array.getElem?_setIfInBounds_self_of_lt hlt]
      simp only [upd_same, some_bool, hbo]
    · rw [Array.getElem?_setIfInBounds_ne (Ne.symm e)]
      simp only [upd_ne _ _ e]
      exact e4 j hj
  · obtain ⟨s, so, f1, f2, f3⟩ := H.tu.lst j z hz
    obtain ⟨s', so', f1', f2'⟩ := H.sc j z hz
    rw [f1] at f1'
    cases f1'
    exact ⟨s, so, f1, (World.cell?_of_block (a := ⟨s, so + j, none⟩) (hstay s _ f2' (by simp) (by simp) (by simp) (by simp))).trans f2, f3⟩
  · obtain ⟨s, so, f1, f2⟩ := H.sc j z hz
    exact ⟨s, so, f1, hx _ _ f2⟩
end
section
variable {main : Bool} {g : RG} {L : RL} {ps : Nat → Nat} {F : PX × List Nat}
theorem play17_one (hn2 : g.n ≤ 64) (hm0 : L.most ≤ 1048576) (hsl : L.sl.length ≤ 17592186044416) (hC : ∀ i, i < g.n → CodesIn (g.ca i) (g.progs i) g.W) (hL : ∀ i, i < g.n → (g.progs i).length ≤ 4398046511104) (cs : List Frame)
    (p rd : Nat) (oa : Option Addr) (oc : Nat) (st : PX × List Nat) (u : Nat → Value) (w : World) (κ : Nat → Option RR) (ats : Nat → Int) (tas : Nat → Option Addr) (tcs : Nat → Nat) (hcnt : st.1.cnt = st.2.length) (hrd : rd ≤ g.n) (H : RInv g L ps st.1 st.2 p rd oa oc w κ ats tas tcs) (A : Ahead (absP g.n L.most g.nw g.progs) F L.sl p rd st) :
    Walk Try.prog main (DR (fun _ => none)) (fun g0 w' => (overA (absP g.n L.most g.nw g.progs) st = true ∧ (∃ u', g0 = G (at17a g.r (.slice g.sa g.nw g.sc) (.slice L.la g.n L.lc) (.slice L.ea g.n L.ec) L.tu u') cs) ∧ ∃ d, w' = w.at d) ∨
        (overA (absP g.n L.most g.nw g.progs) st = false ∧ (∃ u', g0 = G (hd17b g.r (.slice g.sa g.nw g.sc) (.slice L.la g.n L.lc) (.slice L.ea g.n L.ec) L.tu u') cs) ∧ ∃ i p' rd' oa' oc' κ' ats' tas' tcs', RInv g L ps ((absP g.n L.most g.nw g.progs).next st.1 i) (st.2 ++ [i]) p' rd' oa' oc' w' κ' ats' tas' tcs' ∧ ((absP g.n L.most g.nw g.progs).next st.1 i).cnt = st.2.length + 1 ∧ rd' ≤ g.n ∧ Ahead (absP g.n L.most g.nw g.progs) F L.sl p' rd' ((absP g.n L.most g.nw g.progs).next st.1 i, st.2 ++ [i])))
      (G (hd17b g.r (.slice g.sa g.nw g.sc) (.slice L.la g.n L.lc) (.slice L.ea g.n L.ec) L.tu u) cs) w := by
  have hshort : (st.2.length : Int) ≤ L.most := A.short
  have hord : st.2.length ≤ 1048576 := by omega
  refine (play17_pick g.r (.slice g.sa g.nw g.sc) (.slice L.la g.n L.lc) L.ea g.n L.ec L.tu (fun w' => overA (absP g.n L.most g.nw g.progs) st = true ∧ ∃ d, w' = w.at d)
    (fun i w' => overA (absP g.n L.most g.nw g.progs) st = false ∧ ∃ p' rd', i < g.n ∧ st.1.out i = none ∧ Ahead (absP g.n L.most g.nw g.progs) F L.sl p' rd' ((absP g.n L.most g.nw g.progs).next st.1 i, st.2 ++ [i]) ∧ rd' ≤ g.n ∧ Picked L.tu (.slice L.va L.sl.length L.vc) L.most p' rd' oa oc st.2 i w w') u cs w ?_).then ?_
  · intro fr cs'
    refine (pick48_w (main := main) (A := absP g.n L.most g.nw g.progs) (F := F) (st := st) (f := fun i => (st.1.out i).isSome) (c := fr) (cs := cs') (ec := L.ec) (fun i _ => rfl) (fun b o e => role_two (H.rE b o e) H.rU (by simp)) (show g.n ≤ 1048576 by omega) hord hsl hrd H.tu H.bools A).mono ?_
    rintro g0 w' (⟨h1, h2, h3⟩ | ⟨h1, i, p', rd', h2, h3, h4, h5, h6, h7⟩)
    · exact ⟨_, .inl ⟨rfl, h1, h3⟩, h2⟩
    · exact ⟨_, .inr ⟨i, rfl, h1, p', rd', h2, h3, h5, h6, h7⟩, h4⟩
  rintro g0 w0 (⟨w1, d, ⟨hov, d1, rfl⟩, rfl, u', rfl⟩ | ⟨i, w1, d, ⟨hov, p', rd', hi, hout, hA, hrd', hP⟩, rfl, u', rfl⟩)
  · exact .stop fun d2 => .inl ⟨hov, ⟨u', rfl⟩, d2, rfl⟩
  refine Walk.back ?_ d
  obtain ⟨oa', oc', κ', hx, H1⟩ := H.picked hP
  have hlt : (st.2.length : Int) < L.most := (over_len hov).1
  obtain ⟨cd, hcd, hnw, hsa, hst⟩ := H1.steps (main := main) hi hout (hC i hi) (hL i hi) (by omega)
  obtain ⟨lb, larr, la1, la2, la3, la4⟩ := H1.lr (by omega)
  obtain ⟨eb, earr, ea1, ea2, ea3, ea4⟩ := H1.er (by omega)
  have hstep := play17_step (main := main) g.r g.sw g.nw g.sc lb g.n L.lc eb g.n L.ec L.tu i (ps i) _ u' cs w1 hi hi ((cell_of la3 i).trans (la4 i hi)) hst ⟨fun v w2 hq => ?_⟩
  · rw [← hsa, ← la1, ← ea1] at hstep
    refine hstep.mono ?_
    rintro g1 w' ⟨⟨u2, rfl⟩, v, w2, b, d2, ⟨_, hS⟩, hb, rfl⟩
    obtain ⟨κ2, ats2, tas2, tcs2, H2⟩ := H1.stepped hi hcd hnw hS hb ea1 (most := L.most)
    refine .inr ⟨hov, ⟨u2, rfl⟩, i, p', rd', oa', oc', κ2, ats2, tas2, tcs2, H2.at d2, ?_, hrd', hA⟩
    rw [next_is hcd]
    show st.1.cnt + 1 = _
    rw [hcnt]
  · obtain ⟨rfl, hS⟩ := hq
    obtain ⟨at', ta', tc', _, hR, _⟩ := hS.is
    obtain ⟨_, q2, _⟩ := H1.T.ws hnw
    have hs : ∀ b r, κ' b = some r → r ≠ .ws → r ≠ .th i → r ≠ .td i → w2.heap[b]? = w1.heap[b]? := fun b r h e1 e2 e3 =>
      hS.same b (H1.T.lt b r h) (role_two h (H1.T.rP i hi) e2) (role_two h q2 e1) (fun e => role_two h (H1.T.rT i hi b e) e3 rfl)
    have he := (hs eb _ ea2 (by simp) (by simp) (by simp)).trans ea3
    exact ⟨rfl, (cell_of ((hs lb _ la2 (by simp) (by simp) (by simp)).trans la3) i).trans (la4 i hi), ⟨_, (cell_of hR.blk 7).trans rfl⟩, ⟨_, (cell_of he i).trans (ea4 i hi)⟩, frozen_of he i⟩
theorem play17_run (hn2 : g.n ≤ 64) (hm0 : L.most ≤ 1048576) (hsl : L.sl.length ≤ 17592186044416) (hC : ∀ i, i < g.n → CodesIn (g.ca i) (g.progs i) g.W) (hL : ∀ i, i < g.n → (g.progs i).length ≤ 4398046511104) (cs : List Frame) :
    ∀ (k p rd : Nat) (oa : Option Addr) (oc : Nat) (st : PX × List Nat) (u : Nat → Value) (w : World) (κ : Nat → Option RR) (ats : Nat → Int) (tas : Nat → Option Addr) (tcs : Nat → Nat), L.most ≤ (st.2.length + k : Nat) → st.1.cnt = st.2.length → rd ≤ g.n → RInv g L ps st.1 st.2 p rd oa oc w κ ats tas tcs → Ahead (absP g.n L.most g.nw g.progs) F L.sl p rd st →
    Walk Try.prog main (DR (fun _ => none)) (fun g0 w' => (∃ u', g0 = G (at17a g.r (.slice g.sa g.nw g.sc) (.slice L.la g.n L.lc) (.slice L.ea g.n L.ec) L.tu u') cs) ∧ F.1.cnt = F.2.length ∧ (F.2.length : Int) ≤ L.most ∧ ∃ p rd oa oc κ ats tas tcs, RInv g L ps F.1 F.2 p rd oa oc w' κ ats tas tcs)
      (G (hd17b g.r (.slice g.sa g.nw g.sc) (.slice L.la g.n L.lc) (.slice L.ea g.n L.ec) L.tu u) cs) w := by
  intro k
  induction k with
  | zero =>
    intro p rd oa oc st u w κ ats tas tcs hk hcnt hrd H A
    have hov : overA (absP g.n L.most g.nw g.progs) st = true := by
      unfold overA
      simp only [Bool.or_eq_true, decide_eq_true_eq]
      exact .inr (show L.most ≤ (st.2.length : Int) by simpa using hk)
    refine (play17_one hn2 hm0 hsl hC hL cs p rd oa oc st u w κ ats tas tcs hcnt hrd H A).mono ?_
    rintro g0 w' (⟨_, hu, d, rfl⟩ | ⟨h, _⟩)
    · rw [A.done hov]
      exact ⟨hu, hcnt, A.short, p, rd, oa, oc, κ, ats, tas, tcs, H.at d⟩
    · rw [hov] at h; cases h
  | succ k ih =>
    intro p rd oa oc st u w κ ats tas tcs hk hcnt hrd H A
    refine (play17_one hn2 hm0 hsl hC hL cs p rd oa oc st u w κ ats tas tcs hcnt hrd H A).then ?_
    rintro g0 w' (⟨hov, ⟨u', rfl⟩, d, rfl⟩ | ⟨_, ⟨u', rfl⟩, i, p', rd', oa', oc', κ', ats', tas', tcs', H', hc', hrd', A'⟩)
    · rw [A.done hov]
      exact .stop fun d2 => ⟨⟨u', rfl⟩, hcnt, A.short, p, rd, oa, oc, κ, ats, tas, tcs, H.at d2⟩
    · refine ih p' rd' oa' oc' ((absP g.n L.most g.nw g.progs).next st.1 i, st.2 ++ [i]) u' w' κ' ats' tas' tcs' ?_ (by rw [hc']; simp) hrd' H' A'
      simp only [List.length_append, List.length_singleton]
      omega
end
end
section
def ptrs (ps : Nat → Nat) (k : Nat) : List Value := (List.range k).map fun j => .pointer (some ⟨ps j, 0, none⟩)
def ends (x : PX) (k : Nat) : List Value := (List.range k).map fun j => .bool (x.out j).isSome
theorem ptrs_snoc (ps : Nat → Nat) (k p : Nat) : ptrs (upd ps k p) (k + 1) = ptrs ps k ++ [.pointer (some ⟨p, 0, none⟩)] := by
  unfold ptrs
  rw [List.range_succ, List.map_append]
  simp only [List.map_cons, List.map_nil, upd_same]
  congr 1
  refine List.map_congr_left fun j hj => ?_
  have := List.mem_range.1 hj
  rw [upd_ne _ _ (by omega)]
theorem row_arr {w : World} {base : Nat} {e : TypeId} {a : Option Addr} {n cap : Nat} {xs : List Value} (h : w.ownsRow base e 1 (.slice a n cap) n xs) (hn : 0 < n) : ∃ b arr, a = some ⟨b, 0, none⟩ ∧ w.heap[b]? = some (.cells arr e (0, 0)) ∧ ∀ (i : Nat) (x : Value), xs[i]? = some x → arr[i]? = some x := by
  rcases h.2 with ⟨_, e⟩ | ⟨g, cap', cur, e', _, h2, _, _, _, h6⟩
  · rcases e with rfl
    have := h.1
    simp at this
    omega
  · injection e' with e1 _ _
    refine ⟨g, cur, e1, h2, fun i x hx => ?_⟩
    have hx' := hx
    rw [← h6, List.getElem?_take] at hx'
    split at hx'
    · simpa using hx'
    · cases hx'
structure RMake (g : RG) (ps : Nat → Nat) (i : Nat) (x : PX) (la : Option Addr) (lc : Nat) (ea : Option Addr) (ec : Nat) (w : World) (κ : Nat → Option RR) (ats : Nat → Int) (tas : Nat → Option Addr) (tcs : Nat → Nat) : Prop where
  T : RTh g ps i x w κ ats tas tcs
  rl : w.ownsRow 0 102 1 (.slice la i lc) i (ptrs ps i)
  re : w.ownsRow 0 4 1 (.slice ea i ec) i (ends x i)
  kl : ∀ b, (Value.slice la i lc).ownBlock = some b → κ b = some .lr
  ke : ∀ b, (Value.slice ea i ec).ownBlock = some b → κ b = some .er
  new : ∀ j, i ≤ j → x.th j = th0
  cnt : x.cnt = 0
theorem RTh.ps_eq {g : RG} {ps ps' : Nat → Nat} {k : Nat} {x : PX} {w : World} {κ : Nat → Option RR} {ats : Nat → Int} {tas : Nat → Option Addr} {tcs : Nat → Nat} (H : RTh g ps k x w κ ats tas tcs) (h : ∀ j, j < k → ps' j = ps j) : RTh g ps' k x w κ ats tas tcs :=
  ⟨H.lt, H.old, H.res, fun i hi => by rw [h i hi]; exact H.rP i hi, fun i hi => by rw [h i hi]; exact H.th i hi, H.at_, H.rT, H.ws, H.told, H.stands⟩
section
variable {main : Bool} {g : RG}
theorem born_is {n : Nat} {most : Int} {nw : Nat} {progs : Nat → List Cd} {x : PX} {i : Nat} : (absP n most nw progs).born x i = { words := x.words, th := upd x.th i (ownX (progs i) nw 4096 (x.th i)).2, out := upd x.out i (if (ownX (progs i) nw 4096 (x.th i)).1 then some false else none), cnt := x.cnt } := rfl
theorem play17_made (pa : Option Addr) (n pc : Nat) (wv sv : Value) (most most' : Int) (hm : min (n : Int) 64 = (g.n : Nat)) (hmn : g.n ≤ n) (hm64 : g.n ≤ 64) (hpr : ∀ i, i < g.n → ∃ pb po, pa = some ⟨pb, po, none⟩ ∧ g.W.cell? ⟨pb, po + i, none⟩ = some (g.cv i)) (hC : ∀ i, i < g.n → CodesIn (g.ca i) (g.progs i) g.W) (hL : ∀ i, i < g.n → (g.progs i).length ≤ 4398046511104) (cs : List Frame) (X : PX) :
    ∀ (r i : Nat) (ps : Nat → Nat) (x : PX) (la ea : Option Addr) (lc ec : Nat) (u : Nat → Value) (w : World) (κ : Nat → Option RR) (ats : Nat → Int) (tas : Nat → Option Addr) (tcs : Nat → Nat), i + r = g.n → X = bornsA (absP g.n most' g.nw g.progs) r i x → RMake g ps i x la lc ea ec w κ ats tas tcs →
    Walk Try.prog main (DR (fun _ => none)) (fun g0 w' => ∃ ps la ea lc ec κ ats tas tcs, (∃ u', g0 = G (hd17 g.r wv (.slice pa n pc) sv most (.slice g.sa g.nw g.sc) (.slice la g.n lc) (.slice ea g.n ec) g.n u') cs) ∧ RMake g ps g.n X la lc ea ec w' κ ats tas tcs)
      (G (hd17 g.r wv (.slice pa n pc) sv most (.slice g.sa g.nw g.sc) (.slice la i lc) (.slice ea i ec) i u) cs) w := by
  intro r
  induction r with
  | zero =>
    intro i ps x la ea lc ec u w κ ats tas tcs hi hX M
    have hi : i = g.n := hi
    subst hi
    have hX : X = x := hX
    subst hX
    exact .stop fun d => ⟨ps, la, ea, lc, ec, κ, ats, tas, tcs, ⟨u, rfl⟩, ⟨M.T.at d, M.rl, M.re, M.kl, M.ke, M.new, M.cnt⟩⟩
  | succ r ih =>
    intro i ps x la ea lc ec u w κ ats tas tcs hi hX M
    have hin : i < g.n := by omega
    obtain ⟨pb, po, rfl, hpc⟩ := hpr i hin
    have T := M.T
    have hnp : κ w.heap.size = none := T.new (Nat.le_refl _)
    have hpcW : w.cell? ⟨pb, po + i, none⟩ = some (g.cv i) := (World.cell?_of_block (a := ⟨pb, po + i, none⟩) (T.old pb (cell_lt g.W hpc)).2).trans hpc
    have hO := old_alloc w (.cells (rtArr (g.cv i) 0 (fun _ => 0) (.slice none 0 0) false) 105)
    have hsA : (w.alloc (.cells (rtArr (g.cv i) 0 (fun _ => 0) (.slice none 0 0) false) 105)).heap.size = w.heap.size + 1 := by simp
    have hR0 : RtIs w.heap.size (.slice (g.ca i) (g.progs i).length (g.cc i)) 0 th0 false none 0 (w.alloc (.cells (rtArr (g.cv i) 0 (fun _ => 0) (.slice none 0 0) false) 105)) := ⟨heap_alloc_new w _, row_nil _ _ _ _, by simp [Value.ownBlock]⟩
    have hgo := go46_w (main := main) w.heap.size g.nw (g.cc i) (hL i hin) hR0 (.inl rfl) ((T.codes (hC i hin)).old hO) (fun hl cb co e => by
      have h := T.code_old (hC i hin) hl e
      have := T.lt _ _ h
      exact ⟨by omega, by omega, by simp [Value.ownBlock]⟩) (by simp [th0])
    have hlrP : ∀ b, (Value.slice la i lc).ownBlock = some b → b < w.heap.size := fun b h => T.lt _ _ (M.kl b h)
    have herP : ∀ b, (Value.slice ea i ec).ownBlock = some b → b < w.heap.size := fun b h => T.lt _ _ (M.ke b h)
    have hkeep1 : ∀ {cv : Value} {at' : Int} {t' : Th} {e : Bool} {w1 : World}, RtTo w.heap.size cv at' t' e none 0 0 (w.alloc (.cells (rtArr (g.cv i) 0 (fun _ => 0) (.slice none 0 0) false) 105)) w1 → ∀ b, b < w.heap.size → w1.heap[b]? = w.heap[b]? := fun h b hb =>
      (h.keep.same b (by omega) (by omega) (by simp [Value.ownBlock])).trans (hO.same b hb)
    refine (play17_make (main := main) g.r g.nw g.sc n pb po pc g.n i lc ec (g.progs i).length (g.cc i) g.sa la ea (g.ca i) wv sv most (ptrs ps i) (ends x i) _ u cs w hm hmn hm64 hin hpcW hgo ⟨fun v w1 hq => ?_, fun e => by have := hlrP _ e; omega, fun b h1 h2 => role_two (M.ke b h1) (M.kl b h2) (by simp) rfl⟩).then ?_
    · obtain ⟨rfl, at', _, hT⟩ := hq
      obtain ⟨ta', tc', hR, _⟩ := hT.is
      exact ⟨rfl, row_same M.rl fun b h => hkeep1 hT b (hlrP b h), row_same M.re fun b h => hkeep1 hT b (herP b h), ⟨_, (cell_of hR.blk 7).trans rfl⟩⟩
    rintro g0 w' ⟨v, w1, b, gl, cap, w3, ge, cap', w5, ⟨_, at', hat, hT⟩, hb, ⟨u', rfl⟩, ⟨d, rfl⟩, hown, hg, hgat, hown5, hg5, hgat5⟩
    refine Walk.back ?_ d
    obtain ⟨ta', tc', hR, hgr⟩ := hT.is
    have hk1 := hkeep1 hT
    have hsz1 : w.heap.size < w1.heap.size := by have := hT.keep.size; omega
    have hxi : x.th i = th0 := M.new i (Nat.le_refl _)
    have hbo : (ownX (g.progs i) g.nw 4096 th0).1 = b := by
      have := (cell_of hR.blk 7).symm.trans hb
      simpa [rtArr] using this
    obtain ⟨κ1, hx1, T1⟩ := (T.ps_eq (ps' := upd ps i w.heap.size) (fun j hj => upd_ne _ _ (by omega))).settle (i := i) (kk := i + 1) (w' := w1) (words' := x.words) (cnt' := x.cnt) (t1 := th0) (at' := at') (ta' := ta') (tc' := tc') (b0 := some w.heap.size) (Nat.lt_succ_self i) (fun j hj hne => by omega)
      (.inr ⟨fun j hj => by omega, by rw [upd_same], by rw [upd_same]; exact Nat.le_refl _, by rw [upd_same]; exact hsz1⟩) (Nat.le_of_lt hsz1) (fun b hb => by rw [upd_same]; cases hb; rfl)
      (fun b r h _ _ _ _ _ _ _ _ => hk1 b (T.lt b r h)) (fun hn => (T.ws hn).2.2.same (hk1 _ (T.lt _ _ (T.ws hn).2.1))) (Nat.le_refl _) (by simp [th0]; omega) (by rw [upd_same]; exact hR) hat
      (fun c hc => by
        rcases hgr c hc with h | h
        · simp [Value.ownBlock] at h
        · refine ⟨fun r hr => ?_, .inr (by rw [upd_same]; omega)⟩
          have := T.lt c r hr
          omega)
    have hs1 : (w1.alloc (.cells #[.pointer (some ⟨w.heap.size, 0, none⟩)] 102)).heap.size = w1.heap.size + 1 := by simp
    have hs3 : (w3.alloc (.cells #[.bool b] 4)).heap.size = w3.heap.size + 1 := by simp
    have hs13 := hg.size
    have hs35 := hg5.size
    have hk3 : ∀ c, c < w1.heap.size → (Value.slice la i lc).ownBlock ≠ some c → w3.heap[c]? = w1.heap[c]? := fun c hc hne => (hg.block c (by omega) (fun e => hne e.symm)).trans (heap_new_lt w1 _ hc)
    have hk5 : ∀ c, c < w3.heap.size → (Value.slice ea i ec).ownBlock ≠ some c → w5.heap[c]? = w3.heap[c]? := fun c hc hne => (hg5.block c (by omega) (fun e => hne e.symm)).trans (heap_new_lt w3 _ hc)
    have hgl : κ1 gl = some .lr ∨ (κ1 gl = none ∧ w1.heap.size ≤ gl) := by
      rcases hgat with h | h
      · exact .inl (hx1 _ _ (M.kl gl h))
      · exact .inr ⟨T1.new (by omega), by omega⟩
    have hge : κ1 ge = some .er ∨ (κ1 ge = none ∧ w3.heap.size < ge) := by
      rcases hgat5 with h | h
      · exact .inl (hx1 _ _ (M.ke ge h))
      · exact .inr ⟨T1.new (by omega), by omega⟩
    have hgl3 := (hown.lt gl rfl).2
    have hge5 := (hown5.lt ge rfl).2
    have hgle : gl ≠ ge := fun e => by
      rcases hgl with h | ⟨_, h⟩ <;> rcases hge with h' | ⟨_, h'⟩
      · rw [e, h'] at h; cases h
      · omega
      · have := T1.lt _ _ h'; omega
      · omega
    have hcl : ∀ c, ext (ext κ1 (some gl) .lr) (some ge) .er c = some .lr → True := fun _ _ => trivial
    have T5 : RTh g (upd ps i w.heap.size) (i + 1) _ w5 (ext (ext κ1 (some gl) .lr) (some ge) .er) _ _ _ := T1.frame (κ' := ext (ext κ1 (some gl) .lr) (some ge) .er) (w' := w5) (fun c r h => ext_keep (ext_keep h))
      (fun c r h => ext_lt h (fun r' h' => ext_lt h' (fun r'' h'' => by have := T1.lt c r'' h''; omega) fun e => by cases e; omega) fun e => by cases e; omega)
      (fun c r h _ _ e3 e4 _ => by
        have hc1 := T1.lt c r h
        refine (hk5 c (by omega) fun e => ?_).trans (hk3 c hc1 fun e => ?_)
        · have := hx1 _ _ (M.ke c e)
          rw [h] at this
          exact e3 (Option.some.inj this)
        · have := hx1 _ _ (M.kl c e)
          rw [h] at this
          exact e4 (Option.some.inj this))
    have hborn := born_is (n := g.n) (most := most') (nw := g.nw) (progs := g.progs) (x := x) (i := i)
    rw [hxi] at hborn
    rw [← hborn] at T5
    refine ih (i + 1) (upd ps i w.heap.size) _ (some ⟨gl, 0, none⟩) (some ⟨ge, 0, none⟩) cap cap' u' w5 _ _ _ _ (by omega) hX ⟨T5, ?_, ?_, fun c hc => ?_, fun c hc => ?_, fun j hj => ?_, ?_⟩
    · rw [ptrs_snoc]
      refine row_same hown fun c hc => ?_
      cases hc
      refine hk5 gl hgl3 fun e => ?_
      have := M.ke gl e
      have := hx1 _ _ this
      rcases hgl with h | ⟨h, _⟩
      · rw [this] at h; cases h
      · rw [this] at h; cases h
    · have : ends ((absP g.n most' g.nw g.progs).born x i) (i + 1) = ends x i ++ [.bool b] := by
        unfold ends
        rw [List.range_succ, List.map_append, hborn]
        simp only [List.map_cons, List.map_nil, upd_same, some_bool, hbo]
        congr 1
        refine List.map_congr_left fun j hj => ?_
        have := List.mem_range.1 hj
        rw [upd_ne _ _ (by omega)]
      rw [this]
      exact hown5
    · cases hc
      refine ext_keep (ext_new rfl fun r' h' => ?_)
      rcases hgl with h | ⟨h, _⟩
      · rw [h] at h'; exact (Option.some.inj h').symm
      · rw [h] at h'; cases h'
    · cases hc
      refine ext_new rfl fun r' h' => ?_
      unfold ext at h'
      rcases hge with h | ⟨h, _⟩
      · rw [h] at h'; exact (Option.some.inj h').symm
      · rw [h] at h'
        simp [hgle] at h'
    · rw [hborn]
      show upd x.th i _ j = th0
      rw [upd_ne _ _ (by omega)]
      exact M.new j (by omega)
    · rw [hborn]; exact M.cnt
end
end
theorem row_words {w : World} {base : Nat} {a : Option Addr} {cap : Nat} {zs : List Int} (h : w.ownsRow base 2 1 (.slice a zs.length cap) zs.length (ints zs)) : ∃ sw, 0 < zs.length → a = some ⟨sw, 0, none⟩ ∧ base ≤ sw ∧ sw < w.heap.size ∧ WsR sw zs.length (fun j => zs.getD j 0) w := by
  rcases Nat.eq_zero_or_pos zs.length with h0 | h0
  · exact ⟨0, fun h => by omega⟩
  · obtain ⟨b, arr, e, hb, hx⟩ := row_arr h h0
    have hl := h.lt b (by rw [e]; rfl)
    refine ⟨b, fun _ => ⟨e, hl.1, hl.2, arr, hb, fun j hj => hx j _ ?_⟩⟩
    simp [ints, hj]
theorem make_start {W w1 : World} {sa : Option Addr} {sc sw : Nat} {zs : List Int} (progs : Nat → List Cd) (ca : Nat → Option Addr) (cc : Nat → Nat) (n : Nat) (O : Old W w1) (hr : w1.heap[W.heap.size]? = some zerosT) (hsw : 0 < zs.length → sa = some ⟨sw, 0, none⟩ ∧ W.heap.size + 1 ≤ sw ∧ sw < w1.heap.size ∧ WsR sw zs.length (fun j => zs.getD j 0) w1) :
    ∃ κ, RMake ⟨W, n, zs.length, W.heap.size, sa, sw, sc, progs, ca, cc⟩ (fun _ => 0) 0 (px0 zs) none 0 none 0 w1 κ (fun _ => 0) (fun _ => none) (fun _ => 0) := by
  have hrl := (Array.getElem?_eq_some_iff.1 hr).1
  refine ⟨fun b => if b < W.heap.size then some .old else if b = W.heap.size then some .res else if 0 < zs.length ∧ b = sw then some .ws else none, ⟨⟨fun b r h => ?_, fun b hb => ⟨if_pos hb, O.same b hb⟩, ⟨by simp, hr⟩, fun i hi => absurd hi (Nat.not_lt_zero _), fun i hi => absurd hi (Nat.not_lt_zero _), fun i hi => absurd hi (Nat.not_lt_zero _), fun i hi => absurd hi (Nat.not_lt_zero _), fun hn => ?_, fun i hi => absurd hi (Nat.not_lt_zero _), fun i hi => absurd hi (Nat.not_lt_zero _)⟩, row_nil _ _ _ _, row_nil _ _ _ _, fun b h => by simp [Value.ownBlock] at h, fun b h => by simp [Value.ownBlock] at h, fun j _ => rfl, rfl⟩⟩
  · have hs := O.size
    split at h
    · omega
    · split at h
      · omega
      · split at h
        · next h1 => have := (hsw h1.1).2.2.1; omega
        · cases h
  · obtain ⟨h1, h2, h3, h4⟩ := hsw hn
    refine ⟨h1, ?_, h4⟩
    show (if sw < W.heap.size then some RR.old else if sw = W.heap.size then some .res else if 0 < zs.length ∧ sw = sw then some .ws else none) = some .ws
    rw [if_neg (by omega), if_neg (by omega), if_pos ⟨hn, rfl⟩]
theorem RMake.turns {g : RG} {ps : Nat → Nat} {x : PX} {la ea : Option Addr} {lc ec : Nat} {w w' : World} {κ : Nat → Option RR} {ats : Nat → Int} {tas : Nat → Option Addr} {tcs : Nat → Nat} {B : Nat} {sl : List Int} {most : Int} (M : RMake g ps g.n x la lc ea ec w κ ats tas tcs) (K : Kept B sl most w w') :
    ∃ va vc κ', RInv g ⟨la, lc, ea, ec, B, va, vc, sl, min (max most 0) 1048576⟩ ps x [] 0 0 none 0 w' κ' ats tas tcs := by
  obtain ⟨va, vc, h1, h2, h3⟩ := K.all
  have hO := K.old
  have hBl := (Array.getElem?_eq_some_iff.1 h1).1
  have hB := K.lt
  have T := M.T
  have hnB : κ B = none := T.new hB
  have hrow : ∀ b, (Value.slice va sl.length vc).ownBlock = some b → κ b = none ∧ b ≠ B := fun b hb => ⟨T.new (h2.lt b hb).1, fun e => h3 (by rw [hb, e])⟩
  refine ⟨va, vc, ext (ext κ (some B) .tu) (Value.slice va sl.length vc).ownBlock .sc, ?_⟩
  have keep : ∀ {b r}, κ b = some r → ext (ext κ (some B) .tu) (Value.slice va sl.length vc).ownBlock .sc b = some r := fun h => ext_keep (ext_keep h)
  have hsc : ∀ b, (Value.slice va sl.length vc).ownBlock = some b → ext (ext κ (some B) .tu) (Value.slice va sl.length vc).ownBlock .sc b = some .sc := fun b hb => ext_new hb fun r' h' => by
    obtain ⟨e1, e2⟩ := hrow b hb
    unfold ext at h'
    rw [e1] at h'
    simp [Ne.symm e2] at h'
  refine ⟨T.frame (fun b r h => keep h) (fun b r h => ext_lt h (fun r' h' => ext_lt h' (fun r'' h'' => by have := T.lt b r'' h''; have := hO.size; omega) fun e => by cases e; exact hBl) fun e => (h2.lt b e).2) (fun b r h _ _ _ _ _ => hO.same b (T.lt b r h)), fun hn => ?_, fun hn => ?_, fun b o e => ?_, ext_keep (ext_new rfl fun r' h' => by rw [hnB] at h'; cases h'), ⟨h1, row_nil _ _ _ _, by simp [Value.ownBlock], fun j z hz => ?_⟩, fun j z hz => ?_, fun b hb => by simp [Value.ownBlock] at hb⟩
  · obtain ⟨b, arr, e1, e2, e3⟩ := row_arr M.rl hn
    have hk := M.kl b (by rw [e1]; rfl)
    refine ⟨b, arr, e1, keep hk, (hO.same b (T.lt b _ hk)).trans e2, fun i hi => e3 i _ ?_⟩
    simp [ptrs, hi]
  · obtain ⟨b, arr, e1, e2, e3⟩ := row_arr M.re hn
    have hk := M.ke b (by rw [e1]; rfl)
    refine ⟨b, arr, e1, keep hk, (hO.same b (T.lt b _ hk)).trans e2, fun i hi => e3 i _ ?_⟩
    simp [ends, hi]
  · have e : ea = some ⟨b, o, none⟩ := e
    refine keep (M.ke b ?_)
    rcases M.re.2 with ⟨e', _⟩ | ⟨c, cap, cur, e', _⟩
    · rw [e] at e'; cases e'
    · rw [e] at e'
      injection e' with e1 _ _
      injection e1 with e1
      injection e1 with e1 e2 _
      rw [e, e1, e2]
      rfl
  · obtain ⟨s, cap, e, _, _, _, hc⟩ := row_cell h2 (j := j) (x := .int .i64 z) (by unfold ints; rw [List.getElem?_map]; exact congrArg _ hz)
    injection e with e1 _ _
    exact ⟨s, 0, e1, by rw [Nat.zero_add]; exact hc, (hrow s (by rw [e1]; rfl)).2⟩
  · obtain ⟨s, cap, e, _, _, _, hc⟩ := row_cell h2 (j := j) (x := .int .i64 z) (by unfold ints; rw [List.getElem?_map]; exact congrArg _ hz)
    injection e with e1 _ _
    exact ⟨s, 0, e1, hsc s (by rw [e1]; rfl)⟩
def stepsA (n : Nat) (most : Int) (nw : Nat) (progs : Nat → List Cd) (zs sl : List Int) : PX × List Nat := followA (absP n (min (max most 0) 1048576) nw progs) (bornsA (absP n (min (max most 0) 1048576) nw progs) n 0 (px0 zs), []) sl
theorem play17_steps {main : Bool} (wa : Option Addr) (wc : Nat) (zs : List Int) (pa : Option Addr) (N pc n : Nat) (va : Option Addr) (vc : Nat) (sl : List Int) (most : Int) (progs : Nat → List Cd) (ca : Nat → Option Addr) (cc : Nat → Nat) (cs : List Frame) (W : World)
    (hz : zs.length ≤ 17592186044416) (hnil : wa = none → zs = [] ∧ wc = 0) (hs : ∀ (j : Nat) (z : Int), zs[j]? = some z → ∃ s so, wa = some ⟨s, so, none⟩ ∧ W.cell? ⟨s, so + j, none⟩ = some (.int .i64 z))
    (hsl : sl.length ≤ 17592186044416) (hvn : va = none → sl = [] ∧ vc = 0) (hv : ∀ (j : Nat) (z : Int), sl[j]? = some z → ∃ s so, va = some ⟨s, so, none⟩ ∧ W.cell? ⟨s, so + j, none⟩ = some (.int .i64 z))
    (hm : min (N : Int) 64 = (n : Nat)) (hpr : ∀ i, i < n → ∃ pb po, pa = some ⟨pb, po, none⟩ ∧ W.cell? ⟨pb, po + i, none⟩ = some (.slice (ca i) (progs i).length (cc i))) (hC : ∀ i, i < n → CodesIn (ca i) (progs i) W) (hL : ∀ i, i < n → (progs i).length ≤ 4398046511104) :
    Walk Try.prog main (DR (fun _ => none)) (fun g0 w' => ∃ g L ps p rd oa oc κ ats tas tcs u', g0 = G (at17a W.heap.size (.slice g.sa zs.length g.sc) (.slice L.la n L.lc) (.slice L.ea n L.ec) L.tu u') cs ∧ g.W = W ∧ g.n = n ∧ g.nw = zs.length ∧ g.r = W.heap.size ∧ (stepsA n most zs.length progs zs sl).1.cnt = (stepsA n most zs.length progs zs sl).2.length ∧ (stepsA n most zs.length progs zs sl).2.length ≤ 1048576 ∧ RInv g L ps (stepsA n most zs.length progs zs sl).1 (stepsA n most zs.length progs zs sl).2 p rd oa oc w' κ ats tas tcs)
      (G (Frame.enter Try.prog 17 #[.slice wa zs.length wc, .slice pa N pc, .slice va sl.length vc, .int .i64 most] .normal) cs) W := by
  have hmn : n ≤ N := by omega
  have hm64 : n ≤ 64 := by omega
  refine (play17_in wa wc zs (.slice pa N pc) (.slice va sl.length vc) most cs W hz hnil hs).then ?_
  rintro g0 w1 ⟨sa, sc, ⟨u1, rfl⟩, O1, hr1, hrow⟩
  obtain ⟨sw, hsw⟩ := row_words hrow
  obtain ⟨κ0, M0⟩ := make_start (sc := sc) progs ca cc n O1 hr1 hsw
  refine (play17_made (g := ⟨W, n, zs.length, W.heap.size, sa, sw, sc, progs, ca, cc⟩) pa N pc (.slice wa zs.length wc) (.slice va sl.length vc) most (min (max most 0) 1048576) hm hmn hm64 hpr hC hL cs _ n 0 _ _ _ _ _ _ u1 w1 κ0 _ _ _ (by simp) rfl M0).then ?_
  rintro g0 w2 ⟨ps, la, ea, lc, ec, κ, ats, tas, tcs, ⟨u2, rfl⟩, M⟩
  have hv2 : ∀ (j : Nat) (z : Int), sl[j]? = some z → ∃ s so, va = some ⟨s, so, none⟩ ∧ w2.cell? ⟨s, so + j, none⟩ = some (.int .i64 z) := fun j z h => by
    obtain ⟨s, so, e, hc⟩ := hv j z h
    exact ⟨s, so, e, (World.cell?_of_block (a := ⟨s, so + j, none⟩) (M.T.old s (cell_lt W hc)).2).trans hc⟩
  refine (play17_begin W.heap.size zs.length sc N pc n lc ec sa la ea va vc sl (.slice wa zs.length wc) most u2 cs w2 hm hsl hvn hv2 pa).then ?_
  rintro g0 w3 ⟨B, ⟨u3, rfl⟩, hK⟩
  obtain ⟨va', vc', κ3, hR⟩ := M.turns hK
  refine (play17_run (main := main) (g := ⟨W, n, zs.length, W.heap.size, sa, sw, sc, progs, ca, cc⟩) (L := ⟨la, lc, ea, ec, B, va', vc', sl, min (max most 0) 1048576⟩) (F := stepsA n most zs.length progs zs sl) hm64 (by show min (max most 0) 1048576 ≤ (1048576 : Int); omega) hsl hC hL cs (min (max most 0) 1048576).toNat 0 0 none 0 (_, []) u3 w3 κ3 ats tas tcs ?_ M.cnt (Nat.zero_le _) hR (ahead_start (by show (0 : Int) ≤ min (max most 0) 1048576; omega) _)).mono ?_
  · show min (max most 0) 1048576 ≤ ((0 + (min (max most 0) 1048576).toNat : Nat) : Int)
    omega
  · rintro g0 w4 ⟨⟨u4, rfl⟩, hc4, hs4, p, rd, oa, oc, κ4, ats4, tas4, tcs4, H⟩
    have hs4 : ((stepsA n most zs.length progs zs sl).2.length : Int) ≤ min (max most 0) 1048576 := hs4
    exact ⟨_, _, ps, p, rd, oa, oc, κ4, ats4, tas4, tcs4, u4, rfl, rfl, rfl, rfl, rfl, hc4, by omega, H⟩
section
def tells (x : PX) (tas : Nat → Option Addr) (tcs : Nat → Nat) (i : Nat) : List Value := (List.range i).map fun j => .slice (tas j) (x.th j).told.length (tcs j)
theorem tells_snoc (x : PX) (tas : Nat → Option Addr) (tcs : Nat → Nat) (i : Nat) : tells x tas tcs (i + 1) = tells x tas tcs i ++ [.slice (tas i) (x.th i).told.length (tcs i)] := by
  unfold tells
  rw [List.range_succ, List.map_append]
  rfl
section
variable {main : Bool}
theorem play17_tells (r o lb n lc : Nat) (x : PX) (tas : Nat → Option Addr) (tcs ps : Nat → Nat) (rest4 : List Value) (hn : n ≤ 1048576) (cs : List Frame) (wE : World) (hoE : wE.heap.size = o) (hlp : ∀ i, i < n → wE.cell? ⟨lb, i, none⟩ = some (.pointer (some ⟨ps i, 0, none⟩)) ∧ wE.cell? ⟨ps i, 6, none⟩ = some (.slice (tas i) (x.th i).told.length (tcs i))) :
    ∀ (k i : Nat) (aa : Option Addr) (ac : Nat) (u : Nat → Value) (w : World), i + k = n → Old wE w → w.heap[o]? = some (.cells (Value.slice aa i ac :: rest4).toArray 28) → w.ownsRow (o + 1) 36 1 (.slice aa i ac) i (tells x tas tcs i) →
    Walk Try.prog main (DR (fun _ => none)) (fun g' w' => ∃ aa ac, (∃ u', g' = G (hd17c r (.slice (some ⟨lb, 0, none⟩) n lc) o n u') cs) ∧ Old wE w' ∧ w'.heap[o]? = some (.cells (Value.slice aa n ac :: rest4).toArray 28) ∧ w'.ownsRow (o + 1) 36 1 (.slice aa n ac) n (tells x tas tcs n))
      (G (hd17c r (.slice (some ⟨lb, 0, none⟩) n lc) o i u) cs) w := by
  intro k
  induction k with
  | zero =>
    intro i aa ac u w hi O ho hrow
    have hi : i = n := hi
    subst hi
    exact .stop fun d => ⟨aa, ac, ⟨u, rfl⟩, ⟨O.size, O.same⟩, ho, hrow⟩
  | succ k ih =>
    intro i aa ac u w hi O ho hrow
    have hin : i < n := by omega
    obtain ⟨h1, h2⟩ := hlp i hin
    have hl := cell_lt wE h1
    have hp := cell_lt wE h2
    have hol := (Array.getElem?_eq_some_iff.1 ho).1
    have hge : ∀ b, (Value.slice aa i ac).ownBlock = some b → o + 1 ≤ b := fun b h => (hrow.lt b h).1
    refine (play17_tell (main := main) r o lb n lc i (ps i) aa ac (tas i) (x.th i).told.length (tcs i) (tells x tas tcs i) rest4 u cs w ho (row_mono hrow (Nat.zero_le _)) (fun e => by have := hge _ e; omega) (fun e => by have := hge _ e; have : lb < wE.heap.size := hl; omega) (fun e => by have := hge _ e; have : ps i < wE.heap.size := hp; omega) hin hn (old_cell O h1) (old_cell O h2)).then ?_
    rintro g0 w' ⟨g, cap, w3, ⟨u', rfl⟩, ⟨d, rfl⟩, hown, hg, hat⟩
    refine Walk.back ?_ d
    have hs1 : (w.alloc (.cells #[.slice (tas i) (x.th i).told.length (tcs i)] 36)).heap.size = w.heap.size + 1 := by simp
    have hgo : o + 1 ≤ g := by
      rcases hat with h | h
      · exact hge g h
      · omega
    have hgs := hg.size
    have hk : ∀ b, b < w.heap.size → (Value.slice aa i ac).ownBlock ≠ some b → w3.heap[b]? = w.heap[b]? := fun b hb hne => (hg.block b (by omega) (fun e => hne e.symm)).trans (heap_new_lt w _ hb)
    have ho3 := (hk o hol (fun e => by have := hge _ e; omega)).trans ho
    refine ih (i + 1) (some ⟨g, 0, none⟩) cap u' _ (by omega) ⟨by rw [size_set]; have := O.size; omega, fun b hb => ?_⟩ ?_ ?_
    · rw [heap_set_other _ _ _ _ (by show b ≠ o; omega)]
      exact (hk b (by have := O.size; omega) (fun e => by have := hge _ e; omega)).trans (O.same b hb)
    · rw [heap_set_self _ _ ho3]
      simp
    · rw [tells_snoc]
      refine row_same (row_raise hown fun b hb => by cases hb; exact hgo) fun b hb => heap_set_other _ _ _ _ ?_
      cases hb
      show g ≠ o
      omega
theorem told_row {w : World} {base : Nat} {a : Option Addr} {cap : Nat} {l : List Int} (h : w.ownsRow base 38 3 (.slice a l.length cap) l.length (ansCells l)) : ToldAt a l.length (fun i => l.getD i 0) w := fun i hi => by
  have hget : ∀ (l : List Int) (i m : Nat) (x v : _), l[i]? = some x → ([.bool true, .int .i64 x, .slice none 0 0] : List Value)[m]? = some v → (ansCells l)[i * 3 + m]? = some v := by
    intro l
    induction l with
    | nil => intro i m x v h; simp at h
    | cons y l ih =>
      intro i m x v h hm
      have hml : m < 3 := (List.getElem?_eq_some_iff.1 hm).1
      cases i with
      | zero =>
        have h : y = x := by simpa using h
        subst h
        simp only [ansCells, List.flatMap_cons, Nat.zero_mul, Nat.zero_add]
        rw [List.getElem?_append_left (by simpa using hml)]
        exact hm
      | succ i =>
        have h : l[i]? = some x := by simpa using h
        have := ih i m x v h hm
        simp only [ansCells, List.flatMap_cons]
        rw [List.getElem?_append_right (by simp; omega)]
        simp only [List.length_cons, List.length_nil]
        have e : (i + 1) * 3 + m - (0 + 1 + 1 + 1) = i * 3 + m := by omega
        rw [e]
        exact this
  have hx := List.getElem?_eq_getElem hi
  have hd : l.getD i 0 = l[i] := by rw [List.getD_eq_getElem?_getD, hx]; rfl
  obtain ⟨g, c, e, _, _, _, h0⟩ := row_cell h (hget l i 0 _ _ hx rfl)
  obtain ⟨g1, _, e1, _, _, _, h1⟩ := row_cell h (hget l i 1 _ _ hx rfl)
  obtain ⟨g2, _, e2, _, _, _, h2⟩ := row_cell h (hget l i 2 _ _ hx rfl)
  rw [e] at e1 e2
  injection e with e _ _
  injection e1 with e1 _ _
  injection e2 with e2 _ _
  cases e1
  cases e2
  refine ⟨g, 0, e, by rw [Nat.zero_add]; exact h0, by rw [Nat.zero_add]; show _ = some (Value.int .i64 (l.getD i 0)); rw [hd]; exact h1, by rw [Nat.zero_add]; exact h2⟩
end
def TraceOut (n nw : Nat) (F : PX × List Nat) (v : Value) (w : World) : Prop := ∃ aa ac oa oc sa sc, v = .agg (trArr aa n ac oa F.2.length oc sa nw sc (!(List.range n).all fun i => (F.1.out i).isSome)) ∧ NumsAt oa F.2.length (fun i => (F.2.getD i 0 : Nat)) w ∧ NumsAt sa nw F.1.words w ∧ TellsAt aa n (fun i => (F.1.th i).told.length) (fun i j => (F.1.th i).told.getD j 0) w ∧ F.2.length ≤ 1048576 ∧ ∀ i, i < n → (F.1.th i).told.length ≤ 1099511627776
theorem TraceOut.old {n nw : Nat} {F : PX × List Nat} {v : Value} {w w' : World} (H : TraceOut n nw F v w) (O : Old w w') : TraceOut n nw F v w' := by
  obtain ⟨aa, ac, oa, oc, sa, sc, h1, h2, h3, h4, h5⟩ := H
  exact ⟨aa, ac, oa, oc, sa, sc, h1, h2.old O, h3.old O, h4.old O, h5⟩
def TraceNew (base n nw : Nat) (F : PX × List Nat) (v : Value) (w : World) : Prop := ∃ (aa : Option Addr) (ac : Nat) (oa : Option Addr) (oc : Nat) (sa : Option Addr) (sc : Nat) (tas : Nat → Option Addr) (tcs : Nat → Nat), v = .agg (trArr aa n ac oa F.2.length oc sa nw sc (!(List.range n).all fun i => (F.1.out i).isSome)) ∧ w.ownsRow base 3 1 (.slice oa F.2.length oc) F.2.length (numbs F.2) ∧
  (∀ j, j < nw → ∃ s, sa = some ⟨s, 0, none⟩ ∧ base ≤ s ∧ w.cell? ⟨s, j, none⟩ = some (.int .i64 (F.1.words j))) ∧
  (∀ i, i < n → ∃ c, aa = some ⟨c, 0, none⟩ ∧ base ≤ c ∧ w.cell? ⟨c, i, none⟩ = some (.slice (tas i) (F.1.th i).told.length (tcs i)) ∧ w.ownsRow base 38 3 (.slice (tas i) (F.1.th i).told.length (tcs i)) (F.1.th i).told.length (ansCells (F.1.th i).told)) ∧ F.2.length ≤ 1048576 ∧ ∀ i, i < n → (F.1.th i).told.length ≤ 1099511627776
theorem TraceNew.out {base n nw : Nat} {F : PX × List Nat} {v : Value} {w : World} (H : TraceNew base n nw F v w) : TraceOut n nw F v w := by
  obtain ⟨aa, ac, oa, oc, sa, sc, tas, tcs, h1, h2, h3, h4, h5⟩ := H
  refine ⟨aa, ac, oa, oc, sa, sc, h1, nums_row h2 _ fun i hi => ⟨_, List.getElem?_eq_getElem hi, ?_⟩, fun j hj => ?_, fun i hi => ?_, h5⟩
  · rw [List.getD_eq_getElem?_getD, List.getElem?_eq_getElem hi]
    rfl
  · obtain ⟨s, e, _, hc⟩ := h3 j hj
    exact ⟨s, 0, e, by rw [Nat.zero_add]; exact hc⟩
  · obtain ⟨c, e, _, hc, hr⟩ := h4 i hi
    exact ⟨c, 0, tas i, tcs i, e, by rw [Nat.zero_add]; exact hc, told_row hr⟩
theorem TraceNew.same {base n nw : Nat} {F : PX × List Nat} {v : Value} {w w' : World} (H : TraceNew base n nw F v w) (hs : ∀ b, base ≤ b → b < w.heap.size → w'.heap[b]? = w.heap[b]?) : TraceNew base n nw F v w' := by
  obtain ⟨aa, ac, oa, oc, sa, sc, tas, tcs, h1, h2, h3, h4, h5⟩ := H
  refine ⟨aa, ac, oa, oc, sa, sc, tas, tcs, h1, row_same h2 fun g hg => hs g (h2.lt g hg).1 (h2.lt g hg).2, fun j hj => ?_, fun i hi => ?_, h5⟩
  · obtain ⟨s, e, hb, hc⟩ := h3 j hj
    exact ⟨s, e, hb, (World.cell?_of_block (a := ⟨s, j, none⟩) (hs s hb (cell_lt w hc))).trans hc⟩
  · obtain ⟨c, e, hb, hc, hr⟩ := h4 i hi
    exact ⟨c, e, hb, (World.cell?_of_block (a := ⟨c, i, none⟩) (hs c hb (cell_lt w hc))).trans hc, row_same hr fun g hg => hs g (hr.lt g hg).1 (hr.lt g hg).2⟩
end
end Go.Proofs.Ytgiiicdpbdfemaa
