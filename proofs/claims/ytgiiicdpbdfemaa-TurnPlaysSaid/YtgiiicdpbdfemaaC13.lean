/- Part 13. -/
import Derived.Test.YtgiiicdpbdfemaaC12
set_option linter.unusedSimpArgs false
section
namespace Go.Proofs.Ytgiiicdpbdfemaa
open Go.Conc Go.RowKit Go.Relay
open Go.ConcN (upd upd_ne upd_same)
variable {main : Bool}
def zerosT : Obj := .cells #[.slice none 0 0, .slice none 0 0, .slice none 0 0, .bool false] 28
theorem BoolsAt.old {ea : Option Addr} {n : Nat} {f : Nat → Bool} {w w' : World} (h : BoolsAt ea n f w) (hO : Old w w') : BoolsAt ea n f w' := fun i hi => by
  obtain ⟨b, o, e, hc⟩ := h i hi
  exact ⟨b, o, e, old_cell hO hc⟩
set_option maxHeartbeats 8000000 in
set_option maxRecDepth 100000 in
theorem play17_end (r : Nat) (sa : Option Addr) (sn sc : Nat) (l : Value) (ea : Option Addr) (n ec tu : Nat) (oa : Option Addr) (on oc : Nat) (f : Nat → Bool) (u : Nat → Value) (cs : List Frame) (w : World) (ho : w.cell? ⟨tu, 4, none⟩ = some (.slice oa on oc)) (hn : n ≤ 17592186044416) (hb : BoolsAt ea n f w) :
    Walk Try.prog main (DR (fun _ => none)) (fun g w' => (∃ u', g = G (hd17c r l w.heap.size 0 u') cs) ∧ ∃ d, w' = (w.alloc (.cells (trArr none 0 0 oa on oc sa sn sc (!(List.range n).all f)) 28)).at d) (G (at17a r (.slice sa sn sc) l (.slice ea n ec) tu u) cs) w := by
  have ho' := cell_alloc w zerosT ho
  have h1 := over50_w (main := main) (V := fun _ => none) ea n ec f hn w hb
  have h2 := over50_w (main := main) (V := fun _ => none) ea n ec f hn _ (hb.old (old_alloc w zerosT))
  clear hb
  generalize (List.range n).all f = b at *
  conv => arg 5; unfold at17a
  repeat (first | refine Walk.c rfl ?_ | refine Walk.cRet ?_ | refine Walk.cEnd ?_ | (refine Walk.cReg ?_; simp only [size17_0, size17_1, size17_2, size17_3, size17_4, size17_5, size17_6, size17_8, size17_9, size17_10, size17_11, size17_7, size17_12, size17_13, size17_14, size17_15, size17_16, size17_17, size17_18, size17_19, size17_21, size17_20, size17_22, List.range, List.range.loop]) | (refine Walk.oq ?_; try walk_nrm) | (refine Walk.un ?_; walk_nrm))
  refine Walk.drawnB (w1 := w.alloc (zerosT)) (vm := .pointer (some ⟨w.heap.size, 0, none⟩)) (by kernel_rfl) size17_17 (by kernel_rfl) (by kernel_rfl) (by kernel_rfl) (by decide) (ho_of (by conv => lhs; whnf) (by kernel_rfl)) ?_ ?_
  · intro x rest hr
    (refine Walk.oa ?_; try walk_nrm)
    exact hr _ _ ⟨rfl, _, rfl⟩
  simp only [List.range, List.range.loop]
  repeat (first | (refine Cm.opqB (ho_of (by conv => lhs; whnf) (by kernel_rfl)) (by rfl) (fun dd e he => ?_) (fun dd e he => ?_) ?_; (· (simp [go_sem, *] at he; try (subst he; exact evR_read _ _))); (· (simp [go_sem, *] at he; try (subst he; exact evR_read _ _))); apply Exists.intro; apply And.intro; (· (intro dd K hK; go_simp; exact hK)); apply And.intro; (· (intro dd K hK; go_simp; exact hK))) | (refine Cm.unw (ho_of (by conv => lhs; whnf) (by kernel_rfl)) (by rfl) ?_; walk_nrm))
  refine Cm.callV (x := .bool b) ?_ (ho_of (by conv => lhs; whnf) (by kernel_rfl)) (by rfl) rfl Try.func50 (by kernel_rfl) (by rfl) ?_
  · intro w' e
    walk_nrm
    rcases e with rfl | rfl
    · exact h1
    · exact h2
  walk_nrm
  repeat (first | (refine Cm.opqB (ho_of (by conv => lhs; whnf) (by kernel_rfl)) (by rfl) (fun dd e he => ?_) (fun dd e he => ?_) ?_; (· (simp [go_sem, *] at he; try (subst he; exact evR_read _ _))); (· (simp [go_sem, *] at he; try (subst he; exact evR_read _ _))); apply Exists.intro; apply And.intro; (· (intro dd K hK; go_simp; exact hK)); apply And.intro; (· (intro dd K hK; go_simp; exact hK))) | (refine Cm.unw (ho_of (by conv => lhs; whnf) (by kernel_rfl)) (by rfl) ?_; walk_nrm))
  refine Cm.done ?_
  intro rest hr
  refine Walk.storeS 28 (.tmp 17) (.tmp 85) (ho_of (by conv => lhs; whnf) (by kernel_rfl)) (by rfl) (by decide) rfl w.heap.size (trArr none 0 0 oa on oc sa sn sc (!b)) #[.slice none 0 0, .slice none 0 0, .slice none 0 0, .bool false] 28 rfl rfl (heap_alloc_new _ _) (by kernel_rfl) rfl (by simp [trArr, Value.oneCell']) (apart0 _) ?_
  refine hr _ _ ?_
  walk_nrm
  unfold zerosT
  rw [setRow_alloc]
  try walk_nrm
  generalize w.alloc (.cells (trArr none 0 0 oa on oc sa sn sc (!b)) 28) = w1 at *
  repeat (first | refine Walk.c rfl ?_ | refine Walk.cRet ?_ | refine Walk.cEnd ?_ | (refine Walk.cReg ?_; simp only [size17_0, size17_1, size17_2, size17_3, size17_4, size17_5, size17_6, size17_8, size17_9, size17_10, size17_11, size17_7, size17_12, size17_13, size17_14, size17_15, size17_16, size17_17, size17_18, size17_19, size17_21, size17_20, size17_22, List.range, List.range.loop]) | (refine Walk.oq ?_; try walk_nrm) | (refine Walk.un ?_; walk_nrm))
  refine Walk.ctl rfl (fun w => stepG_loop) ?_
  refine .stop fun d => ⟨at_slots ?_, d, rfl⟩
  simp only [hd17c]
  rfl
end Go.Proofs.Ytgiiicdpbdfemaa
end

section
namespace Go.Proofs.Ytgiiicdpbdfemaa
open Go.Conc Go.RowKit Go.Relay
open Go.ConcN (upd upd_ne upd_same)
variable {main : Bool}
set_option maxHeartbeats 8000000 in
set_option maxRecDepth 100000 in
theorem play17_tell (r o lb n lc i p : Nat) (aa : Option Addr) (ac : Nat) (ta : Option Addr) (tn tc : Nat) (xs : List Value) (rest4 : List Value) (u : Nat → Value) (cs : List Frame) (w : World) (ho : w.heap[o]? = some (.cells (Value.slice aa i ac :: rest4).toArray 28)) (hrow : w.ownsRow 0 36 1 (.slice aa i ac) i xs) (hno : (Value.slice aa i ac).ownBlock ≠ some o) (hnl : (Value.slice aa i ac).ownBlock ≠ some lb) (hnp : (Value.slice aa i ac).ownBlock ≠ some p)
    (hi : i < n) (hn : n ≤ 1048576) (hl : w.cell? ⟨lb, i, none⟩ = some (.pointer (some ⟨p, 0, none⟩))) (hp : w.cell? ⟨p, 6, none⟩ = some (.slice ta tn tc)) :
    Walk Try.prog main (DR (fun _ => none)) (fun g' w' => ∃ g cap w3, (∃ u', g' = G (hd17c r (.slice (some ⟨lb, 0, none⟩) n lc) o (i + 1) u') cs) ∧ (∃ d, w' = (w3.setCell ⟨o, 0, none⟩ (.slice (some ⟨g, 0, none⟩) (i + 1) cap)).at d) ∧ w3.ownsRow 0 36 1 (.slice (some ⟨g, 0, none⟩) (i + 1) cap) (i + 1) (xs ++ [.slice ta tn tc]) ∧ (w.alloc (.cells #[.slice ta tn tc] 36)).grownBy w3 (Value.slice aa i ac).ownBlock ∧ ((Value.slice aa i ac).ownBlock = some g ∨ g = (w.alloc (.cells #[.slice ta tn tc] 36)).heap.size))
      (G (hd17c r (.slice (some ⟨lb, 0, none⟩) n lc) o i u) cs) w := by
  have hw1 : IntKind.wrap .i64 ((i : Int) + 1) = (i : Int) + 1 := by rw [IntKind.wrap_i64]; omega
  have h0 : w.cell? ⟨o, 0, none⟩ = some (.slice aa i ac) := (cell_of ho 0).trans rfl
  have hlo := (Array.getElem?_eq_some_iff.1 ho).1
  have hsz1 : (w.alloc (.cells #[.slice ta tn tc] 36)).heap.size = w.heap.size + 1 := by simp
  have hO1 := old_alloc w (.cells #[.slice ta tn tc] 36)
  have hrow' : (w.alloc (.cells #[.slice ta tn tc] 36)).ownsRow 0 36 1 (.slice aa i ac) i xs := row_same hrow fun g hg => hO1.same g (hrow.lt g hg).2
  have hnews : ∀ (j : Nat) (u : Value), ([.slice ta tn tc] : List Value)[j]? = some u → (w.alloc (.cells #[.slice ta tn tc] 36)).cell? ((⟨w.heap.size, 0, none⟩ : Addr).add j) = some u := fun j u hu => by
    rw [add_none, Nat.zero_add]
    refine (cell_of (heap_alloc_new _ _) j).trans ?_
    simpa using hu
  have hfar : ∀ (b : Nat) (w2 : World), b < w.heap.size → (Value.slice aa i ac).ownBlock ≠ some b → (w.alloc (.cells #[.slice ta tn tc] 36)).grownBy w2 (Value.slice aa i ac).ownBlock → w2.heap[b]? = w.heap[b]? := fun b w2 hb hne hg => (hg.block b (by omega) (fun e => hne e.symm)).trans (hO1.same b hb)
  conv => arg 5; unfold hd17c
  repeat (first | refine Walk.c rfl ?_ | refine Walk.cRet ?_ | refine Walk.cEnd ?_ | (refine Walk.cReg ?_; simp only [size17_0, size17_1, size17_2, size17_3, size17_4, size17_5, size17_6, size17_8, size17_9, size17_10, size17_11, size17_7, size17_12, size17_13, size17_14, size17_15, size17_16, size17_17, size17_18, size17_19, size17_21, size17_20, size17_22, List.range, List.range.loop]) | (refine Walk.oq ?_; try walk_nrm) | (refine Walk.un ?_; walk_nrm))
  refine Walk.drawnT (iA := 9) (iB := 10) (w1 := w.alloc (.cells #[.slice ta tn tc] 36)) (vA := .slice (some ⟨w.heap.size, 0, none⟩) 1 1) (Z := fun x => x.cell? ⟨o, 0, none⟩ = some (.slice aa i ac) ∧ x.cell? ⟨lb, i, none⟩ = some (.pointer (some ⟨p, 0, none⟩)) ∧ x.cell? ⟨p, 6, none⟩ = some (.slice ta tn tc))
    (fun v w2 => ∃ g cap, v = .slice (some ⟨g, 0, none⟩) (i + 1) cap ∧ w2.ownsRow 0 36 1 (.slice (some ⟨g, 0, none⟩) (i + 1) cap) (i + 1) (xs ++ [.slice ta tn tc]) ∧ (w.alloc (.cells #[.slice ta tn tc] 36)).grownBy w2 (Value.slice aa i ac).ownBlock ∧ ((Value.slice aa i ac).ownBlock = some g ∨ g = (w.alloc (.cells #[.slice ta tn tc] 36)).heap.size)) (by kernel_rfl) size17_21 (by kernel_rfl) (by kernel_rfl) (by kernel_rfl) (by kernel_rfl) (by decide) (ho_of (by conv => lhs; whnf) (by kernel_rfl)) (ho_of (by conv => lhs; whnf) (by kernel_rfl)) ⟨h0, hl, hp⟩ ⟨old_cell hO1 h0, old_cell hO1 hl, old_cell hO1 hp⟩ ?_ ?_
  · rintro v w2 ⟨g, cap, _, _, hg, _⟩
    exact ⟨(World.cell?_of_block (a := ⟨o, 0, none⟩) (hfar o w2 hlo hno hg)).trans h0, (World.cell?_of_block (a := ⟨lb, i, none⟩) (hfar lb w2 (cell_lt w hl) hnl hg)).trans hl, (World.cell?_of_block (a := ⟨p, 6, none⟩) (hfar p w2 (cell_lt w hp) hnp hg)).trans hp⟩
  rw [show List.filter (quietQ 9 10) (List.range 12) = [0, 1, 2, 3, 4, 5, 6, 7, 8, 11] from by decide]
  repeat (first | (refine Cm.opqZ (ho_of (by conv => lhs; whnf) (by kernel_rfl)) (by rfl) (fun wz hz dd e he => ?_) ?_; (· (obtain ⟨z1, z2, z3⟩ := hz; simp [go_sem, *] at he; try (subst he; exact evR_read _ _))); apply Exists.intro; apply And.intro; (· (intro wz hz dd K hK; obtain ⟨z1, z2, z3⟩ := hz; go_simp; exact hK))) | (refine Cm.unw (ho_of (by conv => lhs; whnf) (by kernel_rfl)) (by rfl) ?_; walk_nrm))
  refine Cm.done ⟨?_, ?_, ?_⟩
  · intro x hev rest hr'
    have e0 : x.eval (.tmp 100) = .slice ta tn tc := (hev (.tmp 100) (by simp [Op.operands])).trans rfl
    have e1 : x.tmps[100]?.getD undef = .slice ta tn tc := by
      rw [← Array.getD_eq_getD_getElem?]
      exact e0
    clear e0 hev
    (refine Walk.oa ?_; try walk_nrm)
    exact hr' _ _ ⟨rfl, _, rfl⟩
  · intro x hev rest hr'
    have e1 : x.eval (.tmp 93) = .slice aa i ac := (hev (.tmp 93) (by simp [Op.operands, Call.operands])).trans rfl
    have e2 : x.eval (.tmp 101) = .slice (some ⟨w.heap.size, 0, none⟩) 1 1 := (hev (.tmp 101) (by simp [Op.operands, Call.operands])).trans rfl
    have hi36 := Option.some_get (show (Try.prog.info? 36).isSome = true by kernel_rfl)
    refine Walk.append (.tmp 93) (.tmp 101) 26 (ho_of (by conv => lhs; whnf) (by kernel_rfl)) (by rfl) (by decide) rfl 0 36 _ (.slice none 0 0) 1 24 (by kernel_rfl) hi36.symm (by rfl) (by rfl) (by rfl) (by rfl) (by decide) (.slice aa i ac) i xs e1 hrow' ⟨w.heap.size, 0, none⟩ 1 1 [.slice ta tn tc] e2 (by rfl) hnews (by simp [Value.oneCell']) (by decide) (by simp [maxLen]; omega) (by omega) (Nat.zero_le _) (fun g _ => apart0 g) (fun g cap w3 hown hg hat hlt => ?_)
    exact hr' _ _ ⟨_, w3, ⟨g, cap, rfl, hown, hg, hat⟩, rfl, w3.drawn, rfl⟩
  rintro v w2 ⟨g, cap, rfl, hown, hg, hat⟩ rest hr'
  have hb := hfar o w2 hlo hno hg
  have h0' : w2.cell? ⟨o, 0, none⟩ = some (.slice aa i ac) := (World.cell?_of_block (a := ⟨o, 0, none⟩) hb).trans h0
  have hz0 : w2.frozen? ⟨o, 0, none⟩ = false := frozen_of (hb.trans ho) 0
  have hf0 : Free (fun _ => none) ⟨o, 0, none⟩ := (apart0 o).1 _ rfl
  clear hfar hnews hrow' hO1 hrow hl hp h0
  (refine Walk.os hf0 h0' ?_; try walk_nrm)
  refine hr' _ _ ?_
  generalize hw3 : w2.setCell ⟨o, 0, none⟩ (.slice (some ⟨g, 0, none⟩) (i + 1) cap) = w3 at *
  try walk_nrm
  repeat (first | refine Walk.c rfl ?_ | refine Walk.cRet ?_ | refine Walk.cEnd ?_ | (refine Walk.cReg ?_; simp only [size17_0, size17_1, size17_2, size17_3, size17_4, size17_5, size17_6, size17_8, size17_9, size17_10, size17_11, size17_7, size17_12, size17_13, size17_14, size17_15, size17_16, size17_17, size17_18, size17_19, size17_21, size17_20, size17_22, List.range, List.range.loop]) | (refine Walk.oq ?_; try walk_nrm) | (refine Walk.un ?_; walk_nrm))
  refine Walk.ctl rfl (fun w => stepG_inLoop) ?_
  refine .stop fun d => ⟨g, cap, w2, at_slots ?_, ⟨d, by rw [hw3]⟩, hown, hg, hat⟩
  have hc : ((i + 1 : Nat) : Int) = (i : Int) + 1 := by simp
  simp only [hd17c, hc]
  rfl
end Go.Proofs.Ytgiiicdpbdfemaa
end

section
namespace Go.Proofs.Ytgiiicdpbdfemaa
open Go.Conc Go.RowKit Go.Relay
open Go.ConcN (upd upd_ne upd_same)
variable {main : Bool} {V : Nat → Option Wait}
theorem results17 (tmps : Array Value) (T : Nat) (cells : Array Value) (w : World) (h8 : tmps.getD 8 undef = .pointer (some ⟨T, 0, none⟩)) (hT : w.heap[T]? = some (.cells cells 28 (0, 0))) (hsz : cells.size = 4) :
    (results Try.f17 tmps).run Try.prog w = .ok (.agg cells) w ∧ ∀ e ∈ (results Try.f17 tmps).events Try.prog w #[], EvR V e := by
  obtain ⟨fs, hu⟩ := und28
  have hi : (Try.prog.info? 28).map (·.size) = some 4 := by kernel_rfl
  have hl := run_loadVar_row (P := Try.prog) w T 28 28 cells (0, 0) _ hT hu rfl (by rw [hsz]; exact hi)
  have he := events_loadVar_reads (P := Try.prog) w ⟨T, 0, none⟩ 28 hu rfl hi
  simp only [Array.getD_eq_getD_getElem?] at h8
  constructor
  · simp only [results, Try.f17]
    simp [h8, asAddr, hl]
  · intro e hm
    refine evR_isRead (he e ?_)
    simp only [results, Try.f17] at hm
    simpa [h8, asAddr, hl] using hm
theorem play17_leave {fr : Frame} {c : Frame} {cs : List Frame} {T : Nat} {cells : Array Value} {w : World} (hf : fr.fn = 17) (hm : fr.mode = .returning) (hn : fr.kind = .normal) (hd : fr.defers = []) (h8 : fr.tmps.getD 8 undef = .pointer (some ⟨T, 0, none⟩)) (hT : w.heap[T]? = some (.cells cells 28 (0, 0))) (hsz : cells.size = 4) :
    Walk Try.prog main (DR V) (fun g w' => g = G (c.finish (.agg cells)) cs ∧ ∃ d, w' = w.at d) (G fr (c :: cs)) w :=
  Walk.evs (fun d => seen Try.prog fr.fn ((results Try.f17 fr.tmps).events Try.prog (w.at d) #[])) rfl (fun d => stepG_leaveF hm hn hd (by rw [hf]; exact Try.func17) (results17 (V := V) fr.tmps T cells (w.at d) h8 hT hsz).1)
    (fun d e he => (results17 (V := V) fr.tmps T cells (w.at d) h8 hT hsz).2 e (mem_seen he)) (.stop fun d => ⟨rfl, d, rfl⟩)
set_option maxHeartbeats 8000000 in
set_option maxRecDepth 100000 in
theorem play17_out (r o n lc : Nat) (la : Option Addr) (x0 x1 x2 x3 y0 y1 y2 y3 : Value) (u : Nat → Value) (c : Frame) (cs : List Frame) (w : World) (ho : w.heap[o]? = some (.cells #[x0, x1, x2, x3] 28)) (hr : w.heap[r]? = some (.cells #[y0, y1, y2, y3] 28)) (h1 : (#[x0, x1, x2, x3] : Array Value).all (·.oneCell') = true) :
    Walk Try.prog main (DR (fun _ => none)) (fun g w' => g = G (c.finish (.agg #[x0, x1, x2, x3])) cs ∧ ∃ d, w' = (w.setRow r #[x0, x1, x2, x3]).at d) (G (hd17c r (.slice la n lc) o n u) (c :: cs)) w := by
  obtain ⟨fs, hu⟩ := und28
  have hc : ∀ (j : Nat) (v : Value), [x0, x1, x2, x3][j]? = some v → w.cell? ⟨o, 0 + j, none⟩ = some v := fun j v hv => by
    rw [Nat.zero_add]
    refine (cell_of ho j).trans ?_
    simpa using hv
  have hT := setRow_self w r #[x0, x1, x2, x3] _ hr
  unfold hd17c
  repeat (first | refine Walk.c rfl ?_ | refine Walk.cRet ?_ | refine Walk.cEnd ?_ | (refine Walk.cReg ?_; simp only [size17_0, size17_1, size17_2, size17_3, size17_4, size17_5, size17_6, size17_8, size17_9, size17_10, size17_11, size17_7, size17_12, size17_13, size17_14, size17_15, size17_16, size17_17, size17_18, size17_19, size17_21, size17_20, size17_22, List.range, List.range.loop]) | (refine Walk.oq ?_; try walk_nrm) | (refine Walk.un ?_; walk_nrm))
  refine Walk.loadS 28 (.tmp 17) (ho_of (by conv => lhs; whnf) (by kernel_rfl)) (by rfl) (by decide) rfl o 0 [x0, x1, x2, x3] _ rfl hc hu rfl (by kernel_rfl) ?_
  walk_nrm
  refine Walk.storeS 28 (.tmp 8) (.tmp 104) (ho_of (by conv => lhs; whnf) (by kernel_rfl)) (by rfl) (by decide) rfl r #[x0, x1, x2, x3] #[y0, y1, y2, y3] 28 rfl rfl hr (by kernel_rfl) rfl h1 (apart0 _) ?_
  generalize hw2 : w.setRow r #[x0, x1, x2, x3] = w2 at *
  clear hc ho hr
  try walk_nrm
  repeat (first | refine Walk.c rfl ?_ | refine Walk.cRet ?_ | refine Walk.cEnd ?_ | (refine Walk.cReg ?_; simp only [size17_0, size17_1, size17_2, size17_3, size17_4, size17_5, size17_6, size17_8, size17_9, size17_10, size17_11, size17_7, size17_12, size17_13, size17_14, size17_15, size17_16, size17_17, size17_18, size17_19, size17_21, size17_20, size17_22, List.range, List.range.loop]) | (refine Walk.oq ?_; try walk_nrm) | (refine Walk.un ?_; walk_nrm))
  exact play17_leave rfl rfl rfl rfl rfl hT rfl
end Go.Proofs.Ytgiiicdpbdfemaa
end

section
namespace Go.Proofs.Ytgiiicdpbdfemaa
open Go.Conc Go.RowKit Go.Relay
open Go.ConcN (upd upd_ne upd_same)
variable {main : Bool}
set_option maxHeartbeats 8000000 in
set_option maxRecDepth 100000 in
theorem play17_in (wa : Option Addr) (wc : Nat) (zs : List Int) (pv sv : Value) (most : Int) (cs : List Frame) (w : World) (hz : zs.length ≤ 17592186044416) (hnil : wa = none → zs = [] ∧ wc = 0) (hs : ∀ (j : Nat) (z : Int), zs[j]? = some z → ∃ s so, wa = some ⟨s, so, none⟩ ∧ w.cell? ⟨s, so + j, none⟩ = some (.int .i64 z)) :
    Walk Try.prog main (DR (fun _ => none)) (fun g w' => ∃ sa sc, (∃ u, g = G (hd17 w.heap.size (.slice wa zs.length wc) pv sv most (.slice sa zs.length sc) (.slice none 0 0) (.slice none 0 0) 0 u) cs) ∧ Old w w' ∧ w'.heap[w.heap.size]? = some zerosT ∧ w'.ownsRow (w.heap.size + 1) 2 1 (.slice sa zs.length sc) zs.length (ints zs))
      (G (Frame.enter Try.prog 17 #[.slice wa zs.length wc, pv, sv, .int .i64 most] .normal) cs) w := by
  have hO0 := old_alloc w zerosT
  have hR0 := heap_alloc_new w zerosT
  have hs0 : (w.alloc zerosT).heap.size = w.heap.size + 1 := by simp
  have hs1 : ∀ (j : Nat) (z : Int), zs[j]? = some z → ∃ s so, wa = some ⟨s, so, none⟩ ∧ (w.alloc zerosT).cell? ⟨s, so + j, none⟩ = some (.int .i64 z) := fun j z h => by
    obtain ⟨s, so, e, hc⟩ := hs j z h
    exact ⟨s, so, e, old_cell hO0 hc⟩
  unfold zerosT at hO0 hR0 hs0 hs1
  rw [enter_at _ Try.func17 code17_is]
  simp only [Try.ntmps17, List.size_toArray, List.length_cons, List.length_nil, Nat.reduceAdd, Nat.reduceSub, Array.replicate_succ, Array.replicate_zero, List.push_toArray, List.append_toArray, List.nil_append, List.cons_append]
  repeat (first | refine Walk.c rfl ?_ | refine Walk.cRet ?_ | refine Walk.cEnd ?_ | (refine Walk.cReg ?_; simp only [size17_0, size17_1, size17_2, size17_3, size17_4, size17_5, size17_6, size17_8, size17_9, size17_10, size17_11, size17_7, size17_12, size17_13, size17_14, size17_15, size17_16, size17_17, size17_18, size17_19, size17_21, size17_20, size17_22, List.range, List.range.loop]) | (refine Walk.oq ?_; try walk_nrm) | (refine Walk.un ?_; walk_nrm))
  (refine Walk.oa ?_; try walk_nrm)
  generalize hwA : w.alloc (.cells #[.slice none 0 0, .slice none 0 0, .slice none 0 0, .bool false] 28) = wA at *
  repeat (first | refine Walk.c rfl ?_ | refine Walk.cRet ?_ | refine Walk.cEnd ?_ | (refine Walk.cReg ?_; simp only [size17_0, size17_1, size17_2, size17_3, size17_4, size17_5, size17_6, size17_8, size17_9, size17_10, size17_11, size17_7, size17_12, size17_13, size17_14, size17_15, size17_16, size17_17, size17_18, size17_19, size17_21, size17_20, size17_22, List.range, List.range.loop]) | (refine Walk.oq ?_; try walk_nrm) | (refine Walk.un ?_; walk_nrm))
  have hi2 := Option.some_get (show (Try.prog.info? 2).isSome = true by kernel_rfl)
  refine Walk.appendSl (.tmp 19) (.tmp 20) 22 (ho_of (by conv => lhs; whnf) (by kernel_rfl)) (by rfl) (by decide) rfl (w.heap.size + 1) 2 _ (.int .i64 0) 1 8 (by kernel_rfl) hi2.symm (by rfl) (by rfl) (by rfl) (by rfl) (by decide) (.slice none 0 0) 0 [] rfl (row_nil wA _ _ _) wa zs.length wc (ints zs) rfl (fun e => ⟨by rw [(hnil e).1]; rfl, (hnil e).2⟩) (by simp [ints]) (fun ad e j u hu => ?_) (by simp [ints, Value.oneCell']) (by simp [maxLen]; omega) (by omega) (by omega) (fun g hg => by simp [Value.ownBlock] at hg) fun v w1 hown hg hat => ?_
  · unfold ints at hu
    rw [List.getElem?_map] at hu
    obtain ⟨z, hz, rfl⟩ := Option.map_eq_some_iff.1 hu
    obtain ⟨s, so, e', hc⟩ := hs1 j z hz
    rw [e] at e'
    cases e'
    rw [add_none]
    exact hc
  clear hi2
  rw [Nat.zero_add, List.nil_append] at hown
  obtain ⟨la, lc, rfl⟩ := row_shape hown
  have hO : Old wA w1 := ⟨hg.size, fun b hb => hg.block b hb (by simp [Value.ownBlock])⟩
  clear hg hat
  walk_nrm
  repeat (first | refine Walk.c rfl ?_ | refine Walk.cRet ?_ | refine Walk.cEnd ?_ | (refine Walk.cReg ?_; simp only [size17_0, size17_1, size17_2, size17_3, size17_4, size17_5, size17_6, size17_8, size17_9, size17_10, size17_11, size17_7, size17_12, size17_13, size17_14, size17_15, size17_16, size17_17, size17_18, size17_19, size17_21, size17_20, size17_22, List.range, List.range.loop]) | (refine Walk.oq ?_; try walk_nrm) | (refine Walk.un ?_; walk_nrm))
  refine Walk.ctl rfl (fun w => stepG_loop) ?_
  refine .stop fun d => ⟨la, lc, at_slots ?_, ⟨(hO0.trans hO).size, (hO0.trans hO).same⟩, (hO.same _ (by omega)).trans hR0, hown⟩
  simp only [hd17]
  rfl
set_option maxHeartbeats 8000000 in
set_option maxRecDepth 100000 in
theorem play17_begin (r sn sc n pc m lc ec : Nat) (sa la ea : Option Addr) (va : Option Addr) (vc : Nat) (sl : List Int) (wv : Value) (most : Int) (u : Nat → Value) (cs : List Frame) (w : World) (hm : min (n : Int) 64 = (m : Nat)) (hsl : sl.length ≤ 17592186044416) (hnil : va = none → sl = [] ∧ vc = 0) (hs : ∀ (j : Nat) (z : Int), sl[j]? = some z → ∃ s so, va = some ⟨s, so, none⟩ ∧ w.cell? ⟨s, so + j, none⟩ = some (.int .i64 z)) (pa : Option Addr) :
    Walk Try.prog main (DR (fun _ => none)) (fun g w' => ∃ B, (∃ u', g = G (hd17b r (.slice sa sn sc) (.slice la m lc) (.slice ea m ec) B u') cs) ∧ Kept B sl most w w')
      (G (hd17 r wv (.slice pa n pc) (.slice va sl.length vc) most (.slice sa sn sc) (.slice la m lc) (.slice ea m ec) m u) cs) w := by
  have hth := threads21_w (main := main) (V := fun _ => none) n w
  rw [hm] at hth
  conv => arg 5; unfold hd17
  repeat (first | refine Walk.c rfl ?_ | refine Walk.cRet ?_ | refine Walk.cEnd ?_ | (refine Walk.cReg ?_; simp only [size17_0, size17_1, size17_2, size17_3, size17_4, size17_5, size17_6, size17_8, size17_9, size17_10, size17_11, size17_7, size17_12, size17_13, size17_14, size17_15, size17_16, size17_17, size17_18, size17_19, size17_21, size17_20, size17_22, List.range, List.range.loop]) | (refine Walk.oq ?_; try walk_nrm) | (refine Walk.un ?_; walk_nrm))
  refine Walk.callV (x := .int .i64 (m : Nat)) (W := w) ?_ (ho_of (by conv => lhs; whnf) (by kernel_rfl)) (by rfl) (by decide) rfl Try.func21 (by kernel_rfl) (by rfl) ?_
  · walk_nrm
    exact hth
  clear hth hm
  walk_nrm
  repeat (first | refine Walk.c rfl ?_ | refine Walk.cRet ?_ | refine Walk.cEnd ?_ | (refine Walk.cReg ?_; simp only [size17_0, size17_1, size17_2, size17_3, size17_4, size17_5, size17_6, size17_8, size17_9, size17_10, size17_11, size17_7, size17_12, size17_13, size17_14, size17_15, size17_16, size17_17, size17_18, size17_19, size17_21, size17_20, size17_22, List.range, List.range.loop]) | (refine Walk.oq ?_; try walk_nrm) | (refine Walk.un ?_; walk_nrm))
  refine Walk.callW (Post := fun v w' => ∃ B, v = .pointer (some ⟨B, 0, none⟩) ∧ Kept B sl most w w') ?_ (ho_of (by conv => lhs; whnf) (by kernel_rfl)) (by rfl) (by decide) rfl Try.func47 (by kernel_rfl) (by rfl) ?_
  · walk_nrm
    exact newTurns47_w va vc sl most w hsl hnil hs
  rintro v w1 ⟨B, rfl, hK⟩
  walk_nrm
  repeat (first | refine Walk.c rfl ?_ | refine Walk.cRet ?_ | refine Walk.cEnd ?_ | (refine Walk.cReg ?_; simp only [size17_0, size17_1, size17_2, size17_3, size17_4, size17_5, size17_6, size17_8, size17_9, size17_10, size17_11, size17_7, size17_12, size17_13, size17_14, size17_15, size17_16, size17_17, size17_18, size17_19, size17_21, size17_20, size17_22, List.range, List.range.loop]) | (refine Walk.oq ?_; try walk_nrm) | (refine Walk.un ?_; walk_nrm))
  refine Walk.ctl rfl (fun w => stepG_loop) ?_
  refine .stop fun d => ⟨B, at_slots ?_, hK.all, hK.lt, ⟨hK.old.size, hK.old.same⟩⟩
  simp only [hd17b]
  rfl
end Go.Proofs.Ytgiiicdpbdfemaa
end

section
namespace Go.Proofs.Ytgiiicdpbdfemaa
open Go.Conc Go.RowKit Go.Relay
open Go.ConcN (upd upd_ne upd_same)
inductive RR where
  | res
  | old
  | ws
  | lr
  | er
  | tu
  | sc
  | od
  | th (i : Nat)
  | td (i : Nat)
structure RG where
  W : World
  n : Nat
  nw : Nat
  r : Nat
  sa : Option Addr
  sw : Nat
  sc : Nat
  progs : Nat → List Cd
  ca : Nat → Option Addr
  cc : Nat → Nat
def RG.cv (g : RG) (i : Nat) : Value := .slice (g.ca i) (g.progs i).length (g.cc i)
structure RTh (g : RG) (ps : Nat → Nat) (k : Nat) (x : PX) (w : World) (κ : Nat → Option RR) (ats : Nat → Int) (tas : Nat → Option Addr) (tcs : Nat → Nat) : Prop where
  lt : ∀ b r, κ b = some r → b < w.heap.size
  old : ∀ b, b < g.W.heap.size → κ b = some .old ∧ w.heap[b]? = g.W.heap[b]?
  res : κ g.r = some .res ∧ w.heap[g.r]? = some zerosT
  rP : ∀ i, i < k → κ (ps i) = some (.th i)
  th : ∀ i, i < k → RtIs (ps i) (g.cv i) (ats i) (x.th i) (x.out i).isSome (tas i) (tcs i) w
  at_ : ∀ i, i < k → AtOf (g.progs i).length (x.th i).pc (ats i)
  rT : ∀ i, i < k → ∀ b, (Value.slice (tas i) (x.th i).told.length (tcs i)).ownBlock = some b → κ b = some (.td i)
  ws : 0 < g.nw → g.sa = some ⟨g.sw, 0, none⟩ ∧ κ g.sw = some .ws ∧ WsR g.sw g.nw x.words w
  told : ∀ i, i < k → (x.th i).told.length ≤ 4096 * (x.cnt + 1)
  stands : ∀ i, i < k → x.out i = none → ∃ (cd : Cd) (m : Nat), (x.th i).pc = m ∧ (g.progs i)[m]? = some cd ∧ isStepX g.nw cd = true
def ext (κ : Nat → Option RR) (b0 : Option Nat) (r : RR) : Nat → Option RR := fun b => match κ b with
  | some r' => some r'
  | none => if b0 = some b then some r else none
theorem ext_keep {κ : Nat → Option RR} {b0 : Option Nat} {r0 : RR} {b : Nat} {r : RR} (h : κ b = some r) : ext κ b0 r0 b = some r := by
  simp [ext, h]
theorem ext_new {κ : Nat → Option RR} {b0 : Option Nat} {r0 : RR} {b : Nat} (hb : b0 = some b) (h : ∀ r', κ b = some r' → r' = r0) : ext κ b0 r0 b = some r0 := by
  unfold ext
  cases e : κ b with
  | none => simp [hb]
  | some r' => simp [h r' e]
theorem ext_lt {κ : Nat → Option RR} {b0 : Option Nat} {r0 : RR} {b n : Nat} {r : RR} (h : ext κ b0 r0 b = some r) (h1 : ∀ r', κ b = some r' → b < n) (h2 : b0 = some b → b < n) : b < n := by
  unfold ext at h
  cases e : κ b with
  | none =>
    rw [e] at h
    by_cases hb : b0 = some b
    · exact h2 hb
    · simp [hb] at h
  | some r' => exact h1 r' e
section
variable {g : RG} {ps : Nat → Nat} {k : Nat} {x : PX} {w w' : World} {κ κ' : Nat → Option RR} {ats : Nat → Int} {tas : Nat → Option Addr} {tcs : Nat → Nat}
theorem role_two {b b' : Nat} {r r' : RR} (h : κ b = some r) (h' : κ b' = some r') (hr : r ≠ r') : b ≠ b' := by
  rintro rfl
  rw [h] at h'
  exact hr (Option.some.inj h')
theorem RTh.new (H : RTh g ps k x w κ ats tas tcs) {b : Nat} (hb : w.heap.size ≤ b) : κ b = none := by
  cases e : κ b with
  | none => rfl
  | some r => have := H.lt b r e; omega
theorem RTh.frame (H : RTh g ps k x w κ ats tas tcs) (hext : ∀ b r, κ b = some r → κ' b = some r) (hlt : ∀ b r, κ' b = some r → b < w'.heap.size)
    (hsame : ∀ b r, κ b = some r → r ≠ .tu → r ≠ .od → r ≠ .er → r ≠ .lr → r ≠ .sc → w'.heap[b]? = w.heap[b]?) : RTh g ps k x w' κ' ats tas tcs := by
  refine ⟨hlt, fun b hb => ?_, ⟨hext _ _ H.res.1, (hsame _ _ H.res.1 (by simp) (by simp) (by simp) (by simp) (by simp)).trans H.res.2⟩, fun i hi => hext _ _ (H.rP i hi), fun i hi => ?_, H.at_, fun i hi b hb => hext _ _ (H.rT i hi b hb), fun hn => ?_, H.told, H.stands⟩
  · obtain ⟨h1, h2⟩ := H.old b hb
    exact ⟨hext _ _ h1, (hsame _ _ h1 (by simp) (by simp) (by simp) (by simp) (by simp)).trans h2⟩
  · obtain ⟨h1, h2, h3⟩ := H.th i hi
    exact ⟨(hsame _ _ (H.rP i hi) (by simp) (by simp) (by simp) (by simp) (by simp)).trans h1, row_same h2 fun b hb => hsame _ _ (H.rT i hi b hb) (by simp) (by simp) (by simp) (by simp) (by simp), h3⟩
  · obtain ⟨h1, h2, h3⟩ := H.ws hn
    exact ⟨h1, hext _ _ h2, h3.same (hsame _ _ h2 (by simp) (by simp) (by simp) (by simp) (by simp))⟩
theorem RTh.at (H : RTh g ps k x w κ ats tas tcs) (d : Nat) : RTh g ps k x (w.at d) κ ats tas tcs :=
  H.frame (fun _ _ h => h) H.lt fun _ _ _ _ _ _ _ _ => rfl
theorem ownX_stands (codes : List Cd) (nw : Nat) : ∀ (k : Nat) (t : Th), (ownX codes nw k t).1 = false → ∃ (cd : Cd) (m : Nat), (ownX codes nw k t).2.pc = m ∧ codes[m]? = some cd ∧ isStepX nw cd = true
  | 0, t, h => by
    unfold ownX at h ⊢
    cases e : codeAt codes t.pc with
    | none => rw [e] at h; simp at h
    | some c =>
      rw [e] at h
      obtain ⟨m, h1, _, h3⟩ := codeAt_some e
      exact ⟨c, m, h1, h3, by simpa using h⟩
  | k + 1, t, h => by
    unfold ownX at h ⊢
    cases e : codeAt codes t.pc with
    | none => rw [e] at h; simp at h
    | some c =>
      rw [e] at h
      simp only [] at h ⊢
      by_cases hs : isStepX nw c = true
      · rw [if_pos hs] at h ⊢
        obtain ⟨m, h1, _, h3⟩ := codeAt_some e
        exact ⟨c, m, h1, h3, hs⟩
      · rw [if_neg hs] at h ⊢
        exact ownX_stands codes nw k _ h
theorem codeAt_of {codes : List Cd} {pc : Int} {m : Nat} {cd : Cd} (h : pc = m) (hc : codes[m]? = some cd) : codeAt codes pc = some cd := by
  subst h
  unfold codeAt
  rw [if_neg (by omega)]
  simpa using hc
theorem some_bool (b : Bool) : (if b then some false else none : Option Bool).isSome = b := by cases b <;> rfl
theorem RTh.settle {i kk cnt' : Nat} {words' : Nat → Int} {t1 : Th} {at' : Int} {ta' : Option Addr} {tc' : Nat} {b0 : Option Nat} (H : RTh g ps k x w κ ats tas tcs) (hi : i < kk) (hkk : ∀ j, j < kk → j ≠ i → j < k)
    (hP : κ (ps i) = some (.th i) ∨ (∀ j, j < k → j ≠ i) ∧ b0 = some (ps i) ∧ w.heap.size ≤ ps i ∧ ps i < w'.heap.size)
    (hsz : w.heap.size ≤ w'.heap.size) (hb0 : ∀ b, b0 = some b → b = ps i)
    (hsame : ∀ b r, κ b = some r → r ≠ .tu → r ≠ .od → r ≠ .er → r ≠ .lr → r ≠ .sc → r ≠ .ws → r ≠ .th i → r ≠ .td i → w'.heap[b]? = w.heap[b]?)
    (hws : 0 < g.nw → WsR g.sw g.nw words' w') (hcnt : x.cnt ≤ cnt') (htold : t1.told.length + 4096 ≤ 4096 * (cnt' + 1))
    (hR : RtIs (ps i) (g.cv i) at' (ownX (g.progs i) g.nw 4096 t1).2 (ownX (g.progs i) g.nw 4096 t1).1 ta' tc' w') (hat : AtOf (g.progs i).length (ownX (g.progs i) g.nw 4096 t1).2.pc at')
    (hrow : ∀ b, (Value.slice ta' (ownX (g.progs i) g.nw 4096 t1).2.told.length tc').ownBlock = some b → (∀ r, κ b = some r → r = .td i) ∧ (i < k ∨ b ≠ ps i)) :
    ∃ κ', (∀ b r, κ b = some r → κ' b = some r) ∧ RTh g ps kk { words := words', th := upd x.th i (ownX (g.progs i) g.nw 4096 t1).2, out := upd x.out i (if (ownX (g.progs i) g.nw 4096 t1).1 then some false else none), cnt := cnt' } w' κ' (upd ats i at') (upd tas i ta') (upd tcs i tc') := by
  have hnt : ps i ∉ (Value.slice ta' (ownX (g.progs i) g.nw 4096 t1).2.told.length tc').ownBlock := fun e => hR.own e
  refine ⟨ext (ext κ b0 (.th i)) (Value.slice ta' (ownX (g.progs i) g.nw 4096 t1).2.told.length tc').ownBlock (.td i), fun b r h => ext_keep (ext_keep h), ?_⟩
  have keep : ∀ {b r}, κ b = some r → ext (ext κ b0 (.th i)) (Value.slice ta' (ownX (g.progs i) g.nw 4096 t1).2.told.length tc').ownBlock (.td i) b = some r := fun h => ext_keep (ext_keep h)
  have hji : ∀ j, j ≠ i → (RR.th j ≠ .th i ∧ RR.td j ≠ .td i) := fun j hj => ⟨fun e => hj (by cases e; rfl), fun e => hj (by cases e; rfl)⟩
  refine ⟨fun b r h => ?_, fun b hb => ?_, ⟨keep H.res.1, ?_⟩, fun j hj => ?_, fun j hj => ?_, fun j hj => ?_, fun j hj b hb => ?_, fun hn => ?_, fun j hj => ?_, fun j hj hout => ?_⟩
  · refine ext_lt h (fun r' h' => ext_lt h' (fun r'' h'' => by have := H.lt b r'' h''; omega) fun e => ?_) fun e => (hR.row.lt b e).2
    rw [hb0 b e]
    exact hR.lt
  · obtain ⟨h1, h2⟩ := H.old b hb
    exact ⟨keep h1, (hsame b _ h1 (by simp) (by simp) (by simp) (by simp) (by simp) (by simp) (by simp) (by simp)).trans h2⟩
  · exact (hsame _ _ H.res.1 (by simp) (by simp) (by simp) (by simp) (by simp) (by simp) (by simp) (by simp)).trans H.res.2
  · by_cases e : j = i
    · subst e
      rcases hP with h | ⟨_, h, h2, _⟩
      · exact keep h
      · exact ext_keep (ext_new h fun r' e' => by have := H.lt _ _ e'; omega)
    · exact keep (H.rP j (hkk j hj e))
  · by_cases e : j = i
    · subst e
      simp only [upd_same, some_bool]
      exact hR
    · obtain ⟨h1, h2, h3⟩ := H.th j (hkk j hj e)
      obtain ⟨e1, e2⟩ := hji j e
      simp only [upd_ne _ _ e]
      exact ⟨(hsame _ _ (H.rP j (hkk j hj e)) (by simp) (by simp) (by simp) (by simp) (by simp) (by simp) e1 (by simp)).trans h1, row_same h2 fun b hb => hsame _ _ (H.rT j (hkk j hj e) b hb) (by simp) (by simp) (by simp) (by simp) (by simp) (by simp) (by simp) e2, h3⟩
  · by_cases e : j = i
    · subst e; simp only [upd_same]; exact hat
    · simp only [upd_ne _ _ e]; exact H.at_ j (hkk j hj e)
  · by_cases e : j = i
    · subst e
      simp only [upd_same] at hb
      refine ext_new hb fun r' h' => ?_
      have hne : b ≠ ps j := fun e => hR.own (by rw [hb, e])
      have : κ b = some r' := by
        unfold ext at h'
        cases e : κ b with
        | none =>
          rw [e] at h'
          have : ¬ b0 = some b := fun e => hne (hb0 b e)
          simp [this] at h'
        | some r'' => rw [e] at h'; exact h'
      exact (hrow b hb).1 r' this
    · simp only [upd_ne _ _ e] at hb
      exact keep (H.rT j (hkk j hj e) b hb)
  · obtain ⟨h1, h2, _⟩ := H.ws hn
    exact ⟨h1, keep h2, hws hn⟩
  · by_cases e : j = i
    · subst e
      simp only [upd_same]
      have := ownX_told (g.progs j) g.nw 4096 t1
      omega
    · simp only [upd_ne _ _ e]
      have := H.told j (hkk j hj e)
      have : 4096 * (x.cnt + 1) ≤ 4096 * (cnt' + 1) := Nat.mul_le_mul_left _ (by omega)
      omega
  · by_cases e : j = i
    · subst e
      simp only [upd_same] at hout ⊢
      refine ownX_stands _ _ _ _ ?_
      revert hout
      cases (ownX (g.progs j) g.nw 4096 t1).1 <;> simp
    · simp only [upd_ne _ _ e] at hout ⊢
      exact H.stands j (hkk j hj e) hout
end
end Go.Proofs.Ytgiiicdpbdfemaa
end

section
namespace Go.Proofs.Ytgiiicdpbdfemaa
open Go.Conc Go.RowKit Go.Relay
open Go.ConcN (upd upd_ne upd_same)
structure RL where
  la : Option Addr
  lc : Nat
  ea : Option Addr
  ec : Nat
  tu : Nat
  va : Option Addr
  vc : Nat
  sl : List Int
  most : Int
structure RInv (g : RG) (L : RL) (ps : Nat → Nat) (x : PX) (ord : List Nat) (p rd : Nat) (oa : Option Addr) (oc : Nat) (w : World) (κ : Nat → Option RR) (ats : Nat → Int) (tas : Nat → Option Addr) (tcs : Nat → Nat) : Prop where
  T : RTh g ps g.n x w κ ats tas tcs
  lr : 0 < g.n → ∃ b arr, L.la = some ⟨b, 0, none⟩ ∧ κ b = some .lr ∧ w.heap[b]? = some (.cells arr 102 (0, 0)) ∧ ∀ i, i < g.n → arr[i]? = some (.pointer (some ⟨ps i, 0, none⟩))
  er : 0 < g.n → ∃ b arr, L.ea = some ⟨b, 0, none⟩ ∧ κ b = some .er ∧ w.heap[b]? = some (.cells arr 4 (0, 0)) ∧ ∀ i, i < g.n → arr[i]? = some (.bool (x.out i).isSome)
  rE : ∀ b o, L.ea = some ⟨b, o, none⟩ → κ b = some .er
  rU : κ L.tu = some .tu
  tu : TuIs L.tu L.va L.vc L.sl L.most p rd oa oc ord w
  sc : ∀ (j : Nat) (z : Int), L.sl[j]? = some z → ∃ s so, L.va = some ⟨s, so, none⟩ ∧ κ s = some .sc
  od : ∀ b, (Value.slice oa ord.length oc).ownBlock = some b → κ b = some .od
section
variable {g : RG} {L : RL} {ps : Nat → Nat} {x : PX} {ord : List Nat} {p rd : Nat} {oa : Option Addr} {oc : Nat} {w w' : World} {κ : Nat → Option RR} {ats : Nat → Int} {tas : Nat → Option Addr} {tcs : Nat → Nat}
theorem RInv.at (H : RInv g L ps x ord p rd oa oc w κ ats tas tcs) (d : Nat) : RInv g L ps x ord p rd oa oc (w.at d) κ ats tas tcs :=
  ⟨H.T.at d, H.lr, H.er, H.rE, H.rU, H.tu.at d, H.sc, H.od⟩
theorem RInv.bools (H : RInv g L ps x ord p rd oa oc w κ ats tas tcs) : BoolsAt L.ea g.n (fun i => (x.out i).isSome) w := fun i hi => by
  obtain ⟨b, arr, h1, _, h3, h4⟩ := H.er (by omega)
  exact ⟨b, 0, h1, by rw [Nat.zero_add]; exact (cell_of h3 i).trans (h4 i hi)⟩
theorem RInv.picked {i p' rd' : Nat} (H : RInv g L ps x ord p rd oa oc w κ ats tas tcs) (K : Picked L.tu (.slice L.va L.sl.length L.vc) L.most p' rd' oa oc ord i w w') :
    ∃ oa' oc' κ', (∀ b r, κ b = some r → κ' b = some r) ∧ RInv g L ps x (ord ++ [i]) p' rd' oa' oc' w' κ' ats tas tcs := by
  obtain ⟨oa', oc', h1, h2, h3, h4⟩ := K.all
  have hk := K.keep
  have hne : ∀ b r, κ b = some r → r ≠ .tu → r ≠ .od → w'.heap[b]? = w.heap[b]? := fun b r h e1 e2 =>
    hk.same b (H.T.lt b r h) (role_two h H.rU e1) (fun e => role_two h (H.od b e) e2 rfl)
  refine ⟨oa', oc', ext κ (Value.slice oa' (ord ++ [i]).length oc').ownBlock .od, fun b r h => ext_keep h, ?_⟩
  refine ⟨H.T.frame (fun b r h => ext_keep h) (fun b r h => ext_lt h (fun r' h' => by have := H.T.lt b r' h'; have := hk.size; omega) fun e => (h2.lt b e).2) (fun b r h e1 e2 _ _ _ => hne b r h e1 e2), fun hn => ?_, fun hn => ?_, fun b o e => ext_keep (H.rE b o e), ext_keep H.rU, ⟨h1, h2, h3, fun j z hz => ?_⟩, fun j z hz => ?_, fun b hb => ?_⟩
  · obtain ⟨b, arr, e1, e2, e3, e4⟩ := H.lr hn
    exact ⟨b, arr, e1, ext_keep e2, (hne b _ e2 (by simp) (by simp)).trans e3, e4⟩
  · obtain ⟨b, arr, e1, e2, e3, e4⟩ := H.er hn
    exact ⟨b, arr, e1, ext_keep e2, (hne b _ e2 (by simp) (by simp)).trans e3, e4⟩
  · obtain ⟨s, so, e1, e2, e3⟩ := H.tu.lst j z hz
    obtain ⟨s', so', e1', e2'⟩ := H.sc j z hz
    rw [e1] at e1'
    cases e1'
    exact ⟨s, so, e1, (World.cell?_of_block (a := ⟨s, so + j, none⟩) (hne s _ e2' (by simp) (by simp))).trans e2, e3⟩
  · obtain ⟨s, so, e1, e2⟩ := H.sc j z hz
    exact ⟨s, so, e1, ext_keep e2⟩
  · refine ext_new hb fun r' h' => ?_
    rcases h4 b hb with h | h
    · have := H.od b h
      rw [this] at h'
      exact (Option.some.inj h').symm
    · have := H.T.new h
      rw [this] at h'; cases h'
theorem RTh.size {k : Nat} (H : RTh g ps k x w κ ats tas tcs) : g.W.heap.size ≤ w.heap.size := by
  rcases Nat.lt_or_ge w.heap.size g.W.heap.size with h | h
  · have := H.lt _ _ (H.old _ h).1
    omega
  · exact h
theorem RTh.codes {k : Nat} (H : RTh g ps k x w κ ats tas tcs) {i : Nat} (h : CodesIn (g.ca i) (g.progs i) g.W) : CodesIn (g.ca i) (g.progs i) w := h.old ⟨H.size, fun b hb => (H.old b hb).2⟩
theorem RTh.code_old {k : Nat} (H : RTh g ps k x w κ ats tas tcs) {i : Nat} (h : CodesIn (g.ca i) (g.progs i) g.W) (hL : 0 < (g.progs i).length) {cb co : Nat} (e : g.ca i = some ⟨cb, co, none⟩) : κ cb = some .old := by
  obtain ⟨cb', co', e', hc⟩ := h 0 _ (List.getElem?_eq_getElem hL)
  rw [e] at e'
  cases e'
  exact (H.old cb (cell_lt g.W (hc 0 _ rfl))).1
theorem RInv.steps {i : Nat} {main : Bool} (H : RInv g L ps x ord p rd oa oc w κ ats tas tcs) (hi : i < g.n) (hout : x.out i = none) (hC : CodesIn (g.ca i) (g.progs i) g.W) (hL : (g.progs i).length ≤ 4398046511104) (hcnt : x.cnt ≤ 1048576) :
    ∃ cd, codeAt (g.progs i) (x.th i).pc = some cd ∧ 0 < g.nw ∧ g.sa = some ⟨g.sw, 0, none⟩ ∧ CallW Try.prog main (fun _ => none) 49 #[.pointer (some ⟨ps i, 0, none⟩), .slice (some ⟨g.sw, 0, none⟩) g.nw g.sc] w (fun v w' => v = .tuple #[] ∧ Stepped (ps i) g.sw g.nw (g.cc i) (g.ca i) (g.progs i) { (reachX cd x.words (x.th i)).2 with pc := (x.th i).pc + 1 } (reachX cd x.words (x.th i)).1 (tas i) (x.th i).told.length (tcs i) w w') := by
  obtain ⟨cd, m, hpc, hm, hs⟩ := H.T.stands i hi hout
  have hml := (List.getElem?_eq_some_iff.1 hm).1
  have hnw : 0 < g.nw := by
    unfold isStepX at hs
    simp only [Bool.and_eq_true, decide_eq_true_eq] at hs
    omega
  obtain ⟨w1, w2, w3⟩ := H.T.ws hnw
  have hat : ats i = m := by
    rcases H.T.at_ i hi with h | ⟨_, h⟩
    · rw [h, hpc]
    · omega
  have hR := H.T.th i hi
  rw [hout] at hR
  unfold RG.cv at hR
  rw [hat] at hR
  have ht := H.T.told i hi
  have h4 : 4096 * (x.cnt + 1) ≤ 4096 * 1048577 := Nat.mul_le_mul_left _ (by omega)
  refine ⟨cd, codeAt_of hpc hm, hnw, w1, ?_⟩
  exact step49_w (ps i) g.sw g.nw g.sc (g.cc i) m hL hR hpc hm hs (H.T.codes hC) w3 (role_two w2 (H.T.rP i hi) (by simp)) (fun e => role_two w2 (H.T.rT i hi _ e) (by simp) rfl) (fun cb co e => by
    have h := H.T.code_old hC (by omega) e
    exact ⟨H.T.lt _ _ h, role_two h (H.T.rP i hi) (by simp), role_two h w2 (by simp), fun e' => role_two h (H.T.rT i hi _ e') (by simp) rfl⟩) (by omega)
theorem next_is {n : Nat} {most : Int} {nw : Nat} {progs : Nat → List Cd} {i : Nat} {cd : Cd} (h : codeAt (progs i) (x.th i).pc = some cd) : (absP n most nw progs).next x i = { words := (reachX cd x.words (x.th i)).1, th := upd x.th i (ownX (progs i) nw 4096 { (reachX cd x.words (x.th i)).2 with pc := (x.th i).pc + 1 }).2, out := upd x.out i (if (ownX (progs i) nw 4096 { (reachX cd x.words (x.th i)).2 with pc := (x.th i).pc + 1 }).1 then some false else none), cnt := x.cnt + 1 } := by
  show nextP _ x i = _
  unfold nextP
  rw [h]
  rfl
theorem RInv.stepped {i : Nat} {cd : Cd} {b : Bool} {w1 : World} (H : RInv g L ps x ord p rd oa oc w κ ats tas tcs) (hi : i < g.n) (hcd : codeAt (g.progs i) (x.th i).pc = some cd) (hnw : 0 < g.nw)
    (S : Stepped (ps i) g.sw g.nw (g.cc i) (g.ca i) (g.progs i) { (reachX cd x.words (x.th i)).2 with pc := (x.th i).pc + 1 } (reachX cd x.words (x.th i)).1 (tas i) (x.th i).told.length (tcs i) w w1) (hb : w1.cell? ⟨ps i, 7, none⟩ = some (.bool b)) {eb : Nat} (hea : L.ea = some ⟨eb, 0, none⟩) {most : Int} :
    ∃ κ' ats' tas' tcs', RInv g L ps ((absP g.n most g.nw g.progs).next x i) ord p rd oa oc (w1.setCell ⟨eb, i, none⟩ (.bool b)) κ' ats' tas' tcs' := by
  obtain ⟨w0e, w2, w3⟩ := H.T.ws hnw
  have hpi := H.T.rP i hi
  rw [next_is hcd]
  obtain ⟨at', ta', tc', hat, hR, hg⟩ := S.is
  generalize ht1 : ({ (reachX cd x.words (x.th i)).2 with pc := (x.th i).pc + 1 } : Th) = t1 at *
  generalize (reachX cd x.words (x.th i)).1 = words1 at *
  have hlen : t1.told.length ≤ (x.th i).told.length := by
    rw [← ht1]
    show (reachX cd x.words (x.th i)).2.told.length ≤ _
    rw [(reachX_keeps cd x.words (x.th i)).1]
    exact Nat.le_refl _
  have hsame1 : ∀ b r, κ b = some r → r ≠ .ws → r ≠ .th i → r ≠ .td i → w1.heap[b]? = w.heap[b]? := fun b r h e1 e2 e3 =>
    S.same b (H.T.lt b r h) (role_two h hpi e2) (role_two h w2 e1) (fun e => role_two h (H.T.rT i hi b e) e3 rfl)
  obtain ⟨eb', arr, e1, e2, e3, e4⟩ := H.er (by omega)
  rw [hea] at e1
  cases e1
  have he1 : w1.heap[eb]? = some (.cells arr 4 (0, 0)) := (hsame1 eb _ e2 (by simp) (by simp) (by simp)).trans e3
  have hsz : (w1.setCell ⟨eb, i, none⟩ (.bool b)).heap.size = w1.heap.size := size_set ..
  have hset : ∀ c, c ≠ eb → (w1.setCell ⟨eb, i, none⟩ (.bool b)).heap[c]? = w1.heap[c]? := fun c hc => heap_set_other _ _ _ _ hc
  have hbo : (ownX (g.progs i) g.nw 4096 t1).1 = b := by
    have := (cell_of hR.blk 7).symm.trans hb
    simpa [rtArr] using this
  have hpe : ps i ≠ eb := role_two hpi e2 (by simp)
  have hrow : ∀ c, (Value.slice ta' (ownX (g.progs i) g.nw 4096 t1).2.told.length tc').ownBlock = some c → (∀ r, κ c = some r → r = .td i) ∧ (i < g.n ∨ c ≠ ps i) := fun c hc => by
    refine ⟨fun r hr => ?_, .inl hi⟩
    rcases hg c hc with h | h
    · have := H.T.rT i hi c h
      rw [this] at hr
      exact (Option.some.inj hr).symm
    · rw [H.T.new h] at hr; cases hr
  have hce : ∀ c, (Value.slice ta' (ownX (g.progs i) g.nw 4096 t1).2.told.length tc').ownBlock = some c → c ≠ eb := fun c hc e => by
    have := (hrow c hc).1 _ (e ▸ e2)
    cases this
  have hR2 : RtIs (ps i) (g.cv i) at' (ownX (g.progs i) g.nw 4096 t1).2 (ownX (g.progs i) g.nw 4096 t1).1 ta' tc' (w1.setCell ⟨eb, i, none⟩ (.bool b)) :=
    ⟨(hset _ hpe).trans hR.blk, row_same hR.row fun c hc => hset c (hce c hc), hR.own⟩
  obtain ⟨κ', hx, hT⟩ := H.T.settle (w' := w1.setCell ⟨eb, i, none⟩ (.bool b)) (kk := g.n) (b0 := none) hi (fun j hj _ => hj) (.inl hpi) (by rw [hsz]; exact S.size) (fun b hb => by cases hb) (fun c r h _ _ h3 _ _ h6 h7 h8 => (hset c (role_two h e2 h3)).trans (hsame1 c r h h6 h7 h8))
    (fun _ => S.ws.same (hset _ (role_two w2 e2 (by simp)))) (Nat.le_succ x.cnt) (by have := H.T.told i hi; omega) hR2 hat hrow
  have hstay : ∀ c r, κ c = some r → r ≠ .er → r ≠ .ws → r ≠ .th i → r ≠ .td i → (w1.setCell ⟨eb, i, none⟩ (.bool b)).heap[c]? = w.heap[c]? := fun c r h h1 h2 h3 h4 => (hset c (role_two h e2 h1)).trans (hsame1 c r h h2 h3 h4)
  refine ⟨κ', _, _, _, hT, fun hn => ?_, fun hn => ?_, fun b o e => hx _ _ (H.rE b o e), hx _ _ H.rU, ⟨(hstay _ _ H.rU (by simp) (by simp) (by simp) (by simp)).trans H.tu.blk, row_same H.tu.row fun c hc => hstay c _ (H.od c hc) (by simp) (by simp) (by simp) (by simp), H.tu.own, fun j z hz => ?_⟩, fun j z hz => ?_, fun c hc => hx _ _ (H.od c hc)⟩
  · obtain ⟨c, a2, f1, f2, f3, f4⟩ := H.lr hn
    exact ⟨c, a2, f1, hx _ _ f2, (hstay c _ f2 (by simp) (by simp) (by simp) (by simp)).trans f3, f4⟩
  · refine ⟨eb, _, hea, hx _ _ e2, heap_set_self _ _ he1, fun j hj => ?_⟩
    by_cases e : j = i
    · subst e
      have hlt : j < arr.size := by
        have := e4 j hj
        exact (Array.getElem?_eq_some_iff.1 this).1
      rw [Array.getElem?_setIfInBounds_self_of_lt hlt]
      simp only [upd_same, some_bool, hbo]
    · rw [Array.getElem?_setIfInBounds_ne (Ne.symm e)]
      simp only [upd_ne _ _ e]
      exact e4 j hj
  · obtain ⟨s, so, f1, f2, f3⟩ := H.tu.lst j z hz
    obtain ⟨s', so', f1', f2'⟩ := H.sc j z hz
    rw [f1] at f1'
    cases f1'
    exact ⟨s, so, f1, (World.cell?_of_block (a := ⟨s, so + j, none⟩) (hstay s _ f2' (by simp) (by simp) (by simp) (by simp))).trans f2, f3⟩
  · obtain ⟨s, so, f1, f2⟩ := H.sc j z hz
    exact ⟨s, so, f1, hx _ _ f2⟩
end
section
variable {main : Bool} {g : RG} {L : RL} {ps : Nat → Nat} {F : PX × List Nat}
theorem play17_one (hn2 : g.n ≤ 64) (hm0 : L.most ≤ 1048576) (hsl : L.sl.length ≤ 17592186044416) (hC : ∀ i, i < g.n → CodesIn (g.ca i) (g.progs i) g.W) (hL : ∀ i, i < g.n → (g.progs i).length ≤ 4398046511104) (cs : List Frame)
    (p rd : Nat) (oa : Option Addr) (oc : Nat) (st : PX × List Nat) (u : Nat → Value) (w : World) (κ : Nat → Option RR) (ats : Nat → Int) (tas : Nat → Option Addr) (tcs : Nat → Nat) (hcnt : st.1.cnt = st.2.length) (hrd : rd ≤ g.n) (H : RInv g L ps st.1 st.2 p rd oa oc w κ ats tas tcs) (A : Ahead (absP g.n L.most g.nw g.progs) F L.sl p rd st) :
    Walk Try.prog main (DR (fun _ => none)) (fun g0 w' => (overA (absP g.n L.most g.nw g.progs) st = true ∧ (∃ u', g0 = G (at17a g.r (.slice g.sa g.nw g.sc) (.slice L.la g.n L.lc) (.slice L.ea g.n L.ec) L.tu u') cs) ∧ ∃ d, w' = w.at d) ∨
        (overA (absP g.n L.most g.nw g.progs) st = false ∧ (∃ u', g0 = G (hd17b g.r (.slice g.sa g.nw g.sc) (.slice L.la g.n L.lc) (.slice L.ea g.n L.ec) L.tu u') cs) ∧ ∃ i p' rd' oa' oc' κ' ats' tas' tcs', RInv g L ps ((absP g.n L.most g.nw g.progs).next st.1 i) (st.2 ++ [i]) p' rd' oa' oc' w' κ' ats' tas' tcs' ∧ ((absP g.n L.most g.nw g.progs).next st.1 i).cnt = st.2.length + 1 ∧ rd' ≤ g.n ∧ Ahead (absP g.n L.most g.nw g.progs) F L.sl p' rd' ((absP g.n L.most g.nw g.progs).next st.1 i, st.2 ++ [i])))
      (G (hd17b g.r (.slice g.sa g.nw g.sc) (.slice L.la g.n L.lc) (.slice L.ea g.n L.ec) L.tu u) cs) w := by
  have hshort : (st.2.length : Int) ≤ L.most := A.short
  have hord : st.2.length ≤ 1048576 := by omega
  refine (play17_pick g.r (.slice g.sa g.nw g.sc) (.slice L.la g.n L.lc) L.ea g.n L.ec L.tu (fun w' => overA (absP g.n L.most g.nw g.progs) st = true ∧ ∃ d, w' = w.at d)
    (fun i w' => overA (absP g.n L.most g.nw g.progs) st = false ∧ ∃ p' rd', i < g.n ∧ st.1.out i = none ∧ Ahead (absP g.n L.most g.nw g.progs) F L.sl p' rd' ((absP g.n L.most g.nw g.progs).next st.1 i, st.2 ++ [i]) ∧ rd' ≤ g.n ∧ Picked L.tu (.slice L.va L.sl.length L.vc) L.most p' rd' oa oc st.2 i w w') u cs w ?_).then ?_
  · intro fr cs'
    refine (pick48_w (main := main) (A := absP g.n L.most g.nw g.progs) (F := F) (st := st) (f := fun i => (st.1.out i).isSome) (c := fr) (cs := cs') (ec := L.ec) (fun i _ => rfl) (fun b o e => role_two (H.rE b o e) H.rU (by simp)) (show g.n ≤ 1048576 by omega) hord hsl hrd H.tu H.bools A).mono ?_
    rintro g0 w' (⟨h1, h2, h3⟩ | ⟨h1, i, p', rd', h2, h3, h4, h5, h6, h7⟩)
    · exact ⟨_, .inl ⟨rfl, h1, h3⟩, h2⟩
    · exact ⟨_, .inr ⟨i, rfl, h1, p', rd', h2, h3, h5, h6, h7⟩, h4⟩
  rintro g0 w0 (⟨w1, d, ⟨hov, d1, rfl⟩, rfl, u', rfl⟩ | ⟨i, w1, d, ⟨hov, p', rd', hi, hout, hA, hrd', hP⟩, rfl, u', rfl⟩)
  · exact .stop fun d2 => .inl ⟨hov, ⟨u', rfl⟩, d2, rfl⟩
  refine Walk.back ?_ d
  obtain ⟨oa', oc', κ', hx, H1⟩ := H.picked hP
  have hlt : (st.2.length : Int) < L.most := (over_len hov).1
  obtain ⟨cd, hcd, hnw, hsa, hst⟩ := H1.steps (main := main) hi hout (hC i hi) (hL i hi) (by omega)
  obtain ⟨lb, larr, la1, la2, la3, la4⟩ := H1.lr (by omega)
  obtain ⟨eb, earr, ea1, ea2, ea3, ea4⟩ := H1.er (by omega)
  have hstep := play17_step (main := main) g.r g.sw g.nw g.sc lb g.n L.lc eb g.n L.ec L.tu i (ps i) _ u' cs w1 hi hi ((cell_of la3 i).trans (la4 i hi)) hst ⟨fun v w2 hq => ?_⟩
  · rw [← hsa, ← la1, ← ea1] at hstep
    refine hstep.mono ?_
    rintro g1 w' ⟨⟨u2, rfl⟩, v, w2, b, d2, ⟨_, hS⟩, hb, rfl⟩
    obtain ⟨κ2, ats2, tas2, tcs2, H2⟩ := H1.stepped hi hcd hnw hS hb ea1 (most := L.most)
    refine .inr ⟨hov, ⟨u2, rfl⟩, i, p', rd', oa', oc', κ2, ats2, tas2, tcs2, H2.at d2, ?_, hrd', hA⟩
    rw [next_is hcd]
    show st.1.cnt + 1 = _
    rw [hcnt]
  · obtain ⟨rfl, hS⟩ := hq
    obtain ⟨at', ta', tc', _, hR, _⟩ := hS.is
    obtain ⟨_, q2, _⟩ := H1.T.ws hnw
    have hs : ∀ b r, κ' b = some r → r ≠ .ws → r ≠ .th i → r ≠ .td i → w2.heap[b]? = w1.heap[b]? := fun b r h e1 e2 e3 =>
      hS.same b (H1.T.lt b r h) (role_two h (H1.T.rP i hi) e2) (role_two h q2 e1) (fun e => role_two h (H1.T.rT i hi b e) e3 rfl)
    have he := (hs eb _ ea2 (by simp) (by simp) (by simp)).trans ea3
    exact ⟨rfl, (cell_of ((hs lb _ la2 (by simp) (by simp) (by simp)).trans la3) i).trans (la4 i hi), ⟨_, (cell_of hR.blk 7).trans rfl⟩, ⟨_, (cell_of he i).trans (ea4 i hi)⟩, frozen_of he i⟩
theorem play17_run (hn2 : g.n ≤ 64) (hm0 : L.most ≤ 1048576) (hsl : L.sl.length ≤ 17592186044416) (hC : ∀ i, i < g.n → CodesIn (g.ca i) (g.progs i) g.W) (hL : ∀ i, i < g.n → (g.progs i).length ≤ 4398046511104) (cs : List Frame) :
    ∀ (k p rd : Nat) (oa : Option Addr) (oc : Nat) (st : PX × List Nat) (u : Nat → Value) (w : World) (κ : Nat → Option RR) (ats : Nat → Int) (tas : Nat → Option Addr) (tcs : Nat → Nat), L.most ≤ (st.2.length + k : Nat) → st.1.cnt = st.2.length → rd ≤ g.n → RInv g L ps st.1 st.2 p rd oa oc w κ ats tas tcs → Ahead (absP g.n L.most g.nw g.progs) F L.sl p rd st →
    Walk Try.prog main (DR (fun _ => none)) (fun g0 w' => (∃ u', g0 = G (at17a g.r (.slice g.sa g.nw g.sc) (.slice L.la g.n L.lc) (.slice L.ea g.n L.ec) L.tu u') cs) ∧ F.1.cnt = F.2.length ∧ (F.2.length : Int) ≤ L.most ∧ ∃ p rd oa oc κ ats tas tcs, RInv g L ps F.1 F.2 p rd oa oc w' κ ats tas tcs)
      (G (hd17b g.r (.slice g.sa g.nw g.sc) (.slice L.la g.n L.lc) (.slice L.ea g.n L.ec) L.tu u) cs) w := by
  intro k
  induction k with
  | zero =>
    intro p rd oa oc st u w κ ats tas tcs hk hcnt hrd H A
    have hov : overA (absP g.n L.most g.nw g.progs) st = true := by
      unfold overA
      simp only [Bool.or_eq_true, decide_eq_true_eq]
      exact .inr (show L.most ≤ (st.2.length : Int) by simpa using hk)
    refine (play17_one hn2 hm0 hsl hC hL cs p rd oa oc st u w κ ats tas tcs hcnt hrd H A).mono ?_
    rintro g0 w' (⟨_, hu, d, rfl⟩ | ⟨h, _⟩)
    · rw [A.done hov]
      exact ⟨hu, hcnt, A.short, p, rd, oa, oc, κ, ats, tas, tcs, H.at d⟩
    · rw [hov] at h; cases h
  | succ k ih =>
    intro p rd oa oc st u w κ ats tas tcs hk hcnt hrd H A
    refine (play17_one hn2 hm0 hsl hC hL cs p rd oa oc st u w κ ats tas tcs hcnt hrd H A).then ?_
    rintro g0 w' (⟨hov, ⟨u', rfl⟩, d, rfl⟩ | ⟨_, ⟨u', rfl⟩, i, p', rd', oa', oc', κ', ats', tas', tcs', H', hc', hrd', A'⟩)
    · rw [A.done hov]
      exact .stop fun d2 => ⟨⟨u', rfl⟩, hcnt, A.short, p, rd, oa, oc, κ, ats, tas, tcs, H.at d2⟩
    · refine ih p' rd' oa' oc' ((absP g.n L.most g.nw g.progs).next st.1 i, st.2 ++ [i]) u' w' κ' ats' tas' tcs' ?_ (by rw [hc']; simp) hrd' H' A'
      simp only [List.length_append, List.length_singleton]
      omega
end
end Go.Proofs.Ytgiiicdpbdfemaa
end

section
namespace Go.Proofs.Ytgiiicdpbdfemaa
open Go.Conc Go.RowKit Go.Relay
open Go.ConcN (upd upd_ne upd_same)
def ptrs (ps : Nat → Nat) (k : Nat) : List Value := (List.range k).map fun j => .pointer (some ⟨ps j, 0, none⟩)
def ends (x : PX) (k : Nat) : List Value := (List.range k).map fun j => .bool (x.out j).isSome
theorem ptrs_snoc (ps : Nat → Nat) (k p : Nat) : ptrs (upd ps k p) (k + 1) = ptrs ps k ++ [.pointer (some ⟨p, 0, none⟩)] := by
  unfold ptrs
  rw [List.range_succ, List.map_append]
  simp only [List.map_cons, List.map_nil, upd_same]
  congr 1
  refine List.map_congr_left fun j hj => ?_
  have := List.mem_range.1 hj
  rw [upd_ne _ _ (by omega)]
theorem row_raise {w : World} {base base' : Nat} {e : TypeId} {size : Nat} {v : Value} {n : Nat} {xs : List Value} (h : w.ownsRow base e size v n xs) (hb : ∀ g, v.ownBlock = some g → base' ≤ g) : w.ownsRow base' e size v n xs := by
  refine ⟨h.1, ?_⟩
  rcases h.2 with z | ⟨g, cap, cur, h0, h1, h2⟩
  · exact .inl z
  · exact .inr ⟨g, cap, cur, h0, hb g (by rw [h0]; rfl), h2⟩
theorem row_arr {w : World} {base : Nat} {e : TypeId} {a : Option Addr} {n cap : Nat} {xs : List Value} (h : w.ownsRow base e 1 (.slice a n cap) n xs) (hn : 0 < n) : ∃ b arr, a = some ⟨b, 0, none⟩ ∧ w.heap[b]? = some (.cells arr e (0, 0)) ∧ ∀ (i : Nat) (x : Value), xs[i]? = some x → arr[i]? = some x := by
  rcases h.2 with ⟨_, e⟩ | ⟨g, cap', cur, e', _, h2, _, _, _, h6⟩
  · rcases e with rfl
    have := h.1
    simp at this
    omega
  · injection e' with e1 _ _
    refine ⟨g, cur, e1, h2, fun i x hx => ?_⟩
    have hx' := hx
    rw [← h6, List.getElem?_take] at hx'
    split at hx'
    · simpa using hx'
    · cases hx'
structure RMake (g : RG) (ps : Nat → Nat) (i : Nat) (x : PX) (la : Option Addr) (lc : Nat) (ea : Option Addr) (ec : Nat) (w : World) (κ : Nat → Option RR) (ats : Nat → Int) (tas : Nat → Option Addr) (tcs : Nat → Nat) : Prop where
  T : RTh g ps i x w κ ats tas tcs
  rl : w.ownsRow 0 102 1 (.slice la i lc) i (ptrs ps i)
  re : w.ownsRow 0 4 1 (.slice ea i ec) i (ends x i)
  kl : ∀ b, (Value.slice la i lc).ownBlock = some b → κ b = some .lr
  ke : ∀ b, (Value.slice ea i ec).ownBlock = some b → κ b = some .er
  new : ∀ j, i ≤ j → x.th j = th0
  cnt : x.cnt = 0
theorem RTh.ps_eq {g : RG} {ps ps' : Nat → Nat} {k : Nat} {x : PX} {w : World} {κ : Nat → Option RR} {ats : Nat → Int} {tas : Nat → Option Addr} {tcs : Nat → Nat} (H : RTh g ps k x w κ ats tas tcs) (h : ∀ j, j < k → ps' j = ps j) : RTh g ps' k x w κ ats tas tcs :=
  ⟨H.lt, H.old, H.res, fun i hi => by rw [h i hi]; exact H.rP i hi, fun i hi => by rw [h i hi]; exact H.th i hi, H.at_, H.rT, H.ws, H.told, H.stands⟩
section
variable {main : Bool} {g : RG}
theorem born_is {n : Nat} {most : Int} {nw : Nat} {progs : Nat → List Cd} {x : PX} {i : Nat} : (absP n most nw progs).born x i = { words := x.words, th := upd x.th i (ownX (progs i) nw 4096 (x.th i)).2, out := upd x.out i (if (ownX (progs i) nw 4096 (x.th i)).1 then some false else none), cnt := x.cnt } := rfl
theorem play17_made (pa : Option Addr) (n pc : Nat) (wv sv : Value) (most most' : Int) (hm : min (n : Int) 64 = (g.n : Nat)) (hmn : g.n ≤ n) (hm64 : g.n ≤ 64) (hpr : ∀ i, i < g.n → ∃ pb po, pa = some ⟨pb, po, none⟩ ∧ g.W.cell? ⟨pb, po + i, none⟩ = some (g.cv i)) (hC : ∀ i, i < g.n → CodesIn (g.ca i) (g.progs i) g.W) (hL : ∀ i, i < g.n → (g.progs i).length ≤ 4398046511104) (cs : List Frame) (X : PX) :
    ∀ (r i : Nat) (ps : Nat → Nat) (x : PX) (la ea : Option Addr) (lc ec : Nat) (u : Nat → Value) (w : World) (κ : Nat → Option RR) (ats : Nat → Int) (tas : Nat → Option Addr) (tcs : Nat → Nat), i + r = g.n → X = bornsA (absP g.n most' g.nw g.progs) r i x → RMake g ps i x la lc ea ec w κ ats tas tcs →
    Walk Try.prog main (DR (fun _ => none)) (fun g0 w' => ∃ ps la ea lc ec κ ats tas tcs, (∃ u', g0 = G (hd17 g.r wv (.slice pa n pc) sv most (.slice g.sa g.nw g.sc) (.slice la g.n lc) (.slice ea g.n ec) g.n u') cs) ∧ RMake g ps g.n X la lc ea ec w' κ ats tas tcs)
      (G (hd17 g.r wv (.slice pa n pc) sv most (.slice g.sa g.nw g.sc) (.slice la i lc) (.slice ea i ec) i u) cs) w := by
  intro r
  induction r with
  | zero =>
    intro i ps x la ea lc ec u w κ ats tas tcs hi hX M
    have hi : i = g.n := hi
    subst hi
    have hX : X = x := hX
    subst hX
    exact .stop fun d => ⟨ps, la, ea, lc, ec, κ, ats, tas, tcs, ⟨u, rfl⟩, ⟨M.T.at d, M.rl, M.re, M.kl, M.ke, M.new, M.cnt⟩⟩
  | succ r ih =>
    intro i ps x la ea lc ec u w κ ats tas tcs hi hX M
    have hin : i < g.n := by omega
    obtain ⟨pb, po, rfl, hpc⟩ := hpr i hin
    have T := M.T
    have hnp : κ w.heap.size = none := T.new (Nat.le_refl _)
    have hpcW : w.cell? ⟨pb, po + i, none⟩ = some (g.cv i) := (World.cell?_of_block (a := ⟨pb, po + i, none⟩) (T.old pb (cell_lt g.W hpc)).2).trans hpc
    have hO := old_alloc w (.cells (rtArr (g.cv i) 0 (fun _ => 0) (.slice none 0 0) false) 105)
    have hsA : (w.alloc (.cells (rtArr (g.cv i) 0 (fun _ => 0) (.slice none 0 0) false) 105)).heap.size = w.heap.size + 1 := by simp
    have hR0 : RtIs w.heap.size (.slice (g.ca i) (g.progs i).length (g.cc i)) 0 th0 false none 0 (w.alloc (.cells (rtArr (g.cv i) 0 (fun _ => 0) (.slice none 0 0) false) 105)) := ⟨heap_alloc_new w _, row_nil _ _ _ _, by simp [Value.ownBlock]⟩
    have hgo := go46_w (main := main) w.heap.size g.nw (g.cc i) (hL i hin) hR0 (.inl rfl) ((T.codes (hC i hin)).old hO) (fun hl cb co e => by
      have h := T.code_old (hC i hin) hl e
      have := T.lt _ _ h
      exact ⟨by omega, by omega, by simp [Value.ownBlock]⟩) (by simp [th0])
    have hlrP : ∀ b, (Value.slice la i lc).ownBlock = some b → b < w.heap.size := fun b h => T.lt _ _ (M.kl b h)
    have herP : ∀ b, (Value.slice ea i ec).ownBlock = some b → b < w.heap.size := fun b h => T.lt _ _ (M.ke b h)
    have hkeep1 : ∀ {cv : Value} {at' : Int} {t' : Th} {e : Bool} {w1 : World}, RtTo w.heap.size cv at' t' e none 0 0 (w.alloc (.cells (rtArr (g.cv i) 0 (fun _ => 0) (.slice none 0 0) false) 105)) w1 → ∀ b, b < w.heap.size → w1.heap[b]? = w.heap[b]? := fun h b hb =>
      (h.keep.same b (by omega) (by omega) (by simp [Value.ownBlock])).trans (hO.same b hb)
    refine (play17_make (main := main) g.r g.nw g.sc n pb po pc g.n i lc ec (g.progs i).length (g.cc i) g.sa la ea (g.ca i) wv sv most (ptrs ps i) (ends x i) _ u cs w hm hmn hm64 hin hpcW hgo ⟨fun v w1 hq => ?_, fun e => by have := hlrP _ e; omega, fun b h1 h2 => role_two (M.ke b h1) (M.kl b h2) (by simp) rfl⟩).then ?_
    · obtain ⟨rfl, at', _, hT⟩ := hq
      obtain ⟨ta', tc', hR, _⟩ := hT.is
      exact ⟨rfl, row_same M.rl fun b h => hkeep1 hT b (hlrP b h), row_same M.re fun b h => hkeep1 hT b (herP b h), ⟨_, (cell_of hR.blk 7).trans rfl⟩⟩
    rintro g0 w' ⟨v, w1, b, gl, cap, w3, ge, cap', w5, ⟨_, at', hat, hT⟩, hb, ⟨u', rfl⟩, ⟨d, rfl⟩, hown, hg, hgat, hown5, hg5, hgat5⟩
    refine Walk.back ?_ d
    obtain ⟨ta', tc', hR, hgr⟩ := hT.is
    have hk1 := hkeep1 hT
    have hsz1 : w.heap.size < w1.heap.size := by have := hT.keep.size; omega
    have hxi : x.th i = th0 := M.new i (Nat.le_refl _)
    have hbo : (ownX (g.progs i) g.nw 4096 th0).1 = b := by
      have := (cell_of hR.blk 7).symm.trans hb
      simpa [rtArr] using this
    obtain ⟨κ1, hx1, T1⟩ := (T.ps_eq (ps' := upd ps i w.heap.size) (fun j hj => upd_ne _ _ (by omega))).settle (i := i) (kk := i + 1) (w' := w1) (words' := x.words) (cnt' := x.cnt) (t1 := th0) (at' := at') (ta' := ta') (tc' := tc') (b0 := some w.heap.size) (Nat.lt_succ_self i) (fun j hj hne => by omega)
      (.inr ⟨fun j hj => by omega, by rw [upd_same], by rw [upd_same]; exact Nat.le_refl _, by rw [upd_same]; exact hsz1⟩) (Nat.le_of_lt hsz1) (fun b hb => by rw [upd_same]; cases hb; rfl)
      (fun b r h _ _ _ _ _ _ _ _ => hk1 b (T.lt b r h)) (fun hn => (T.ws hn).2.2.same (hk1 _ (T.lt _ _ (T.ws hn).2.1))) (Nat.le_refl _) (by simp [th0]; omega) (by rw [upd_same]; exact hR) hat
      (fun c hc => by
        rcases hgr c hc with h | h
        · simp [Value.ownBlock] at h
        · refine ⟨fun r hr => ?_, .inr (by rw [upd_same]; omega)⟩
          have := T.lt c r hr
          omega)
    have hs1 : (w1.alloc (.cells #[.pointer (some ⟨w.heap.size, 0, none⟩)] 102)).heap.size = w1.heap.size + 1 := by simp
    have hs3 : (w3.alloc (.cells #[.bool b] 4)).heap.size = w3.heap.size + 1 := by simp
    have hs13 := hg.size
    have hs35 := hg5.size
    have hk3 : ∀ c, c < w1.heap.size → (Value.slice la i lc).ownBlock ≠ some c → w3.heap[c]? = w1.heap[c]? := fun c hc hne => (hg.block c (by omega) (fun e => hne e.symm)).trans (heap_new_lt w1 _ hc)
    have hk5 : ∀ c, c < w3.heap.size → (Value.slice ea i ec).ownBlock ≠ some c → w5.heap[c]? = w3.heap[c]? := fun c hc hne => (hg5.block c (by omega) (fun e => hne e.symm)).trans (heap_new_lt w3 _ hc)
    have hgl : κ1 gl = some .lr ∨ (κ1 gl = none ∧ w1.heap.size ≤ gl) := by
      rcases hgat with h | h
      · exact .inl (hx1 _ _ (M.kl gl h))
      · exact .inr ⟨T1.new (by omega), by omega⟩
    have hge : κ1 ge = some .er ∨ (κ1 ge = none ∧ w3.heap.size < ge) := by
      rcases hgat5 with h | h
      · exact .inl (hx1 _ _ (M.ke ge h))
      · exact .inr ⟨T1.new (by omega), by omega⟩
    have hgl3 := (hown.lt gl rfl).2
    have hge5 := (hown5.lt ge rfl).2
    have hgle : gl ≠ ge := fun e => by
      rcases hgl with h | ⟨_, h⟩ <;> rcases hge with h' | ⟨_, h'⟩
      · rw [e, h'] at h; cases h
      · omega
      · have := T1.lt _ _ h'; omega
      · omega
    have hcl : ∀ c, ext (ext κ1 (some gl) .lr) (some ge) .er c = some .lr → True := fun _ _ => trivial
    have T5 : RTh g (upd ps i w.heap.size) (i + 1) _ w5 (ext (ext κ1 (some gl) .lr) (some ge) .er) _ _ _ := T1.frame (κ' := ext (ext κ1 (some gl) .lr) (some ge) .er) (w' := w5) (fun c r h => ext_keep (ext_keep h))
      (fun c r h => ext_lt h (fun r' h' => ext_lt h' (fun r'' h'' => by have := T1.lt c r'' h''; omega) fun e => by cases e; omega) fun e => by cases e; omega)
      (fun c r h _ _ e3 e4 _ => by
        have hc1 := T1.lt c r h
        refine (hk5 c (by omega) fun e => ?_).trans (hk3 c hc1 fun e => ?_)
        · have := hx1 _ _ (M.ke c e)
          rw [h] at this
          exact e3 (Option.some.inj this)
        · have := hx1 _ _ (M.kl c e)
          rw [h] at this
          exact e4 (Option.some.inj this))
    have hborn := born_is (n := g.n) (most := most') (nw := g.nw) (progs := g.progs) (x := x) (i := i)
    rw [hxi] at hborn
    rw [← hborn] at T5
    refine ih (i + 1) (upd ps i w.heap.size) _ (some ⟨gl, 0, none⟩) (some ⟨ge, 0, none⟩) cap cap' u' w5 _ _ _ _ (by omega) hX ⟨T5, ?_, ?_, fun c hc => ?_, fun c hc => ?_, fun j hj => ?_, ?_⟩
    · rw [ptrs_snoc]
      refine row_same hown fun c hc => ?_
      cases hc
      refine hk5 gl hgl3 fun e => ?_
      have := M.ke gl e
      have := hx1 _ _ this
      rcases hgl with h | ⟨h, _⟩
      · rw [this] at h; cases h
      · rw [this] at h; cases h
    · have : ends ((absP g.n most' g.nw g.progs).born x i) (i + 1) = ends x i ++ [.bool b] := by
        unfold ends
        rw [List.range_succ, List.map_append, hborn]
        simp only [List.map_cons, List.map_nil, upd_same, some_bool, hbo]
        congr 1
        refine List.map_congr_left fun j hj => ?_
        have := List.mem_range.1 hj
        rw [upd_ne _ _ (by omega)]
      rw [this]
      exact hown5
    · cases hc
      refine ext_keep (ext_new rfl fun r' h' => ?_)
      rcases hgl with h | ⟨h, _⟩
      · rw [h] at h'; exact (Option.some.inj h').symm
      · rw [h] at h'; cases h'
    · cases hc
      refine ext_new rfl fun r' h' => ?_
      unfold ext at h'
      rcases hge with h | ⟨h, _⟩
      · rw [h] at h'; exact (Option.some.inj h').symm
      · rw [h] at h'
        simp [hgle] at h'
    · rw [hborn]
      show upd x.th i _ j = th0
      rw [upd_ne _ _ (by omega)]
      exact M.new j (by omega)
    · rw [hborn]; exact M.cnt
end
end Go.Proofs.Ytgiiicdpbdfemaa
end

section
namespace Go.Proofs.Ytgiiicdpbdfemaa
open Go.Conc Go.RowKit Go.Relay
open Go.ConcN (upd upd_ne upd_same)
theorem row_words {w : World} {base : Nat} {a : Option Addr} {cap : Nat} {zs : List Int} (h : w.ownsRow base 2 1 (.slice a zs.length cap) zs.length (ints zs)) : ∃ sw, 0 < zs.length → a = some ⟨sw, 0, none⟩ ∧ base ≤ sw ∧ sw < w.heap.size ∧ WsR sw zs.length (fun j => zs.getD j 0) w := by
  rcases Nat.eq_zero_or_pos zs.length with h0 | h0
  · exact ⟨0, fun h => by omega⟩
  · obtain ⟨b, arr, e, hb, hx⟩ := row_arr h h0
    have hl := h.lt b (by rw [e]; rfl)
    refine ⟨b, fun _ => ⟨e, hl.1, hl.2, arr, hb, fun j hj => hx j _ ?_⟩⟩
    simp [ints, hj]
theorem make_start {W w1 : World} {sa : Option Addr} {sc sw : Nat} {zs : List Int} (progs : Nat → List Cd) (ca : Nat → Option Addr) (cc : Nat → Nat) (n : Nat) (O : Old W w1) (hr : w1.heap[W.heap.size]? = some zerosT) (hsw : 0 < zs.length → sa = some ⟨sw, 0, none⟩ ∧ W.heap.size + 1 ≤ sw ∧ sw < w1.heap.size ∧ WsR sw zs.length (fun j => zs.getD j 0) w1) :
    ∃ κ, RMake ⟨W, n, zs.length, W.heap.size, sa, sw, sc, progs, ca, cc⟩ (fun _ => 0) 0 (px0 zs) none 0 none 0 w1 κ (fun _ => 0) (fun _ => none) (fun _ => 0) := by
  have hrl := (Array.getElem?_eq_some_iff.1 hr).1
  refine ⟨fun b => if b < W.heap.size then some .old else if b = W.heap.size then some .res else if 0 < zs.length ∧ b = sw then some .ws else none, ⟨⟨fun b r h => ?_, fun b hb => ⟨if_pos hb, O.same b hb⟩, ⟨by simp, hr⟩, fun i hi => absurd hi (Nat.not_lt_zero _), fun i hi => absurd hi (Nat.not_lt_zero _), fun i hi => absurd hi (Nat.not_lt_zero _), fun i hi => absurd hi (Nat.not_lt_zero _), fun hn => ?_, fun i hi => absurd hi (Nat.not_lt_zero _), fun i hi => absurd hi (Nat.not_lt_zero _)⟩, row_nil _ _ _ _, row_nil _ _ _ _, fun b h => by simp [Value.ownBlock] at h, fun b h => by simp [Value.ownBlock] at h, fun j _ => rfl, rfl⟩⟩
  · have hs := O.size
    split at h
    · omega
    · split at h
      · omega
      · split at h
        · next h1 => have := (hsw h1.1).2.2.1; omega
        · cases h
  · obtain ⟨h1, h2, h3, h4⟩ := hsw hn
    refine ⟨h1, ?_, h4⟩
    show (if sw < W.heap.size then some RR.old else if sw = W.heap.size then some .res else if 0 < zs.length ∧ sw = sw then some .ws else none) = some .ws
    rw [if_neg (by omega), if_neg (by omega), if_pos ⟨hn, rfl⟩]
theorem RMake.turns {g : RG} {ps : Nat → Nat} {x : PX} {la ea : Option Addr} {lc ec : Nat} {w w' : World} {κ : Nat → Option RR} {ats : Nat → Int} {tas : Nat → Option Addr} {tcs : Nat → Nat} {B : Nat} {sl : List Int} {most : Int} (M : RMake g ps g.n x la lc ea ec w κ ats tas tcs) (K : Kept B sl most w w') :
    ∃ va vc κ', RInv g ⟨la, lc, ea, ec, B, va, vc, sl, min (max most 0) 1048576⟩ ps x [] 0 0 none 0 w' κ' ats tas tcs := by
  obtain ⟨va, vc, h1, h2, h3⟩ := K.all
  have hO := K.old
  have hBl := (Array.getElem?_eq_some_iff.1 h1).1
  have hB := K.lt
  have T := M.T
  have hnB : κ B = none := T.new hB
  have hrow : ∀ b, (Value.slice va sl.length vc).ownBlock = some b → κ b = none ∧ b ≠ B := fun b hb => ⟨T.new (h2.lt b hb).1, fun e => h3 (by rw [hb, e])⟩
  refine ⟨va, vc, ext (ext κ (some B) .tu) (Value.slice va sl.length vc).ownBlock .sc, ?_⟩
  have keep : ∀ {b r}, κ b = some r → ext (ext κ (some B) .tu) (Value.slice va sl.length vc).ownBlock .sc b = some r := fun h => ext_keep (ext_keep h)
  have hsc : ∀ b, (Value.slice va sl.length vc).ownBlock = some b → ext (ext κ (some B) .tu) (Value.slice va sl.length vc).ownBlock .sc b = some .sc := fun b hb => ext_new hb fun r' h' => by
    obtain ⟨e1, e2⟩ := hrow b hb
    unfold ext at h'
    rw [e1] at h'
    simp [Ne.symm e2] at h'
  refine ⟨T.frame (fun b r h => keep h) (fun b r h => ext_lt h (fun r' h' => ext_lt h' (fun r'' h'' => by have := T.lt b r'' h''; have := hO.size; omega) fun e => by cases e; exact hBl) fun e => (h2.lt b e).2) (fun b r h _ _ _ _ _ => hO.same b (T.lt b r h)), fun hn => ?_, fun hn => ?_, fun b o e => ?_, ext_keep (ext_new rfl fun r' h' => by rw [hnB] at h'; cases h'), ⟨h1, row_nil _ _ _ _, by simp [Value.ownBlock], fun j z hz => ?_⟩, fun j z hz => ?_, fun b hb => by simp [Value.ownBlock] at hb⟩
  · obtain ⟨b, arr, e1, e2, e3⟩ := row_arr M.rl hn
    have hk := M.kl b (by rw [e1]; rfl)
    refine ⟨b, arr, e1, keep hk, (hO.same b (T.lt b _ hk)).trans e2, fun i hi => e3 i _ ?_⟩
    simp [ptrs, hi]
  · obtain ⟨b, arr, e1, e2, e3⟩ := row_arr M.re hn
    have hk := M.ke b (by rw [e1]; rfl)
    refine ⟨b, arr, e1, keep hk, (hO.same b (T.lt b _ hk)).trans e2, fun i hi => e3 i _ ?_⟩
    simp [ends, hi]
  · have e : ea = some ⟨b, o, none⟩ := e
    refine keep (M.ke b ?_)
    rcases M.re.2 with ⟨e', _⟩ | ⟨c, cap, cur, e', _⟩
    · rw [e] at e'; cases e'
    · rw [e] at e'
      injection e' with e1 _ _
      injection e1 with e1
      injection e1 with e1 e2 _
      rw [e, e1, e2]
      rfl
  · obtain ⟨s, cap, e, _, _, _, hc⟩ := row_cell h2 (j := j) (x := .int .i64 z) (by unfold ints; rw [List.getElem?_map]; exact congrArg _ hz)
    injection e with e1 _ _
    exact ⟨s, 0, e1, by rw [Nat.zero_add]; exact hc, (hrow s (by rw [e1]; rfl)).2⟩
  · obtain ⟨s, cap, e, _, _, _, hc⟩ := row_cell h2 (j := j) (x := .int .i64 z) (by unfold ints; rw [List.getElem?_map]; exact congrArg _ hz)
    injection e with e1 _ _
    exact ⟨s, 0, e1, hsc s (by rw [e1]; rfl)⟩
def stepsA (n : Nat) (most : Int) (nw : Nat) (progs : Nat → List Cd) (zs sl : List Int) : PX × List Nat := followA (absP n (min (max most 0) 1048576) nw progs) (bornsA (absP n (min (max most 0) 1048576) nw progs) n 0 (px0 zs), []) sl
theorem play17_steps {main : Bool} (wa : Option Addr) (wc : Nat) (zs : List Int) (pa : Option Addr) (N pc n : Nat) (va : Option Addr) (vc : Nat) (sl : List Int) (most : Int) (progs : Nat → List Cd) (ca : Nat → Option Addr) (cc : Nat → Nat) (cs : List Frame) (W : World)
    (hz : zs.length ≤ 17592186044416) (hnil : wa = none → zs = [] ∧ wc = 0) (hs : ∀ (j : Nat) (z : Int), zs[j]? = some z → ∃ s so, wa = some ⟨s, so, none⟩ ∧ W.cell? ⟨s, so + j, none⟩ = some (.int .i64 z))
    (hsl : sl.length ≤ 17592186044416) (hvn : va = none → sl = [] ∧ vc = 0) (hv : ∀ (j : Nat) (z : Int), sl[j]? = some z → ∃ s so, va = some ⟨s, so, none⟩ ∧ W.cell? ⟨s, so + j, none⟩ = some (.int .i64 z))
    (hm : min (N : Int) 64 = (n : Nat)) (hpr : ∀ i, i < n → ∃ pb po, pa = some ⟨pb, po, none⟩ ∧ W.cell? ⟨pb, po + i, none⟩ = some (.slice (ca i) (progs i).length (cc i))) (hC : ∀ i, i < n → CodesIn (ca i) (progs i) W) (hL : ∀ i, i < n → (progs i).length ≤ 4398046511104) :
    Walk Try.prog main (DR (fun _ => none)) (fun g0 w' => ∃ g L ps p rd oa oc κ ats tas tcs u', g0 = G (at17a W.heap.size (.slice g.sa zs.length g.sc) (.slice L.la n L.lc) (.slice L.ea n L.ec) L.tu u') cs ∧ g.W = W ∧ g.n = n ∧ g.nw = zs.length ∧ g.r = W.heap.size ∧ (stepsA n most zs.length progs zs sl).1.cnt = (stepsA n most zs.length progs zs sl).2.length ∧ (stepsA n most zs.length progs zs sl).2.length ≤ 1048576 ∧ RInv g L ps (stepsA n most zs.length progs zs sl).1 (stepsA n most zs.length progs zs sl).2 p rd oa oc w' κ ats tas tcs)
      (G (Frame.enter Try.prog 17 #[.slice wa zs.length wc, .slice pa N pc, .slice va sl.length vc, .int .i64 most] .normal) cs) W := by
  have hmn : n ≤ N := by omega
  have hm64 : n ≤ 64 := by omega
  refine (play17_in wa wc zs (.slice pa N pc) (.slice va sl.length vc) most cs W hz hnil hs).then ?_
  rintro g0 w1 ⟨sa, sc, ⟨u1, rfl⟩, O1, hr1, hrow⟩
  obtain ⟨sw, hsw⟩ := row_words hrow
  obtain ⟨κ0, M0⟩ := make_start (sc := sc) progs ca cc n O1 hr1 hsw
  refine (play17_made (g := ⟨W, n, zs.length, W.heap.size, sa, sw, sc, progs, ca, cc⟩) pa N pc (.slice wa zs.length wc) (.slice va sl.length vc) most (min (max most 0) 1048576) hm hmn hm64 hpr hC hL cs _ n 0 _ _ _ _ _ _ u1 w1 κ0 _ _ _ (by simp) rfl M0).then ?_
  rintro g0 w2 ⟨ps, la, ea, lc, ec, κ, ats, tas, tcs, ⟨u2, rfl⟩, M⟩
  have hv2 : ∀ (j : Nat) (z : Int), sl[j]? = some z → ∃ s so, va = some ⟨s, so, none⟩ ∧ w2.cell? ⟨s, so + j, none⟩ = some (.int .i64 z) := fun j z h => by
    obtain ⟨s, so, e, hc⟩ := hv j z h
    exact ⟨s, so, e, (World.cell?_of_block (a := ⟨s, so + j, none⟩) (M.T.old s (cell_lt W hc)).2).trans hc⟩
  refine (play17_begin W.heap.size zs.length sc N pc n lc ec sa la ea va vc sl (.slice wa zs.length wc) most u2 cs w2 hm hsl hvn hv2 pa).then ?_
  rintro g0 w3 ⟨B, ⟨u3, rfl⟩, hK⟩
  obtain ⟨va', vc', κ3, hR⟩ := M.turns hK
  refine (play17_run (main := main) (g := ⟨W, n, zs.length, W.heap.size, sa, sw, sc, progs, ca, cc⟩) (L := ⟨la, lc, ea, ec, B, va', vc', sl, min (max most 0) 1048576⟩) (F := stepsA n most zs.length progs zs sl) hm64 (by show min (max most 0) 1048576 ≤ (1048576 : Int); omega) hsl hC hL cs (min (max most 0) 1048576).toNat 0 0 none 0 (_, []) u3 w3 κ3 ats tas tcs ?_ M.cnt (Nat.zero_le _) hR (ahead_start (by show (0 : Int) ≤ min (max most 0) 1048576; omega) _)).mono ?_
  · show min (max most 0) 1048576 ≤ ((0 + (min (max most 0) 1048576).toNat : Nat) : Int)
    omega
  · rintro g0 w4 ⟨⟨u4, rfl⟩, hc4, hs4, p, rd, oa, oc, κ4, ats4, tas4, tcs4, H⟩
    have hs4 : ((stepsA n most zs.length progs zs sl).2.length : Int) ≤ min (max most 0) 1048576 := hs4
    exact ⟨_, _, ps, p, rd, oa, oc, κ4, ats4, tas4, tcs4, u4, rfl, rfl, rfl, rfl, rfl, hc4, by omega, H⟩
end Go.Proofs.Ytgiiicdpbdfemaa
end

section
namespace Go.Proofs.Ytgiiicdpbdfemaa
open Go.Conc Go.RowKit Go.Relay
open Go.ConcN (upd upd_ne upd_same)
def tells (x : PX) (tas : Nat → Option Addr) (tcs : Nat → Nat) (i : Nat) : List Value := (List.range i).map fun j => .slice (tas j) (x.th j).told.length (tcs j)
theorem tells_snoc (x : PX) (tas : Nat → Option Addr) (tcs : Nat → Nat) (i : Nat) : tells x tas tcs (i + 1) = tells x tas tcs i ++ [.slice (tas i) (x.th i).told.length (tcs i)] := by
  unfold tells
  rw [List.range_succ, List.map_append]
  rfl
section
variable {main : Bool}
theorem play17_tells (r o lb n lc : Nat) (x : PX) (tas : Nat → Option Addr) (tcs ps : Nat → Nat) (rest4 : List Value) (hn : n ≤ 1048576) (cs : List Frame) (wE : World) (hoE : wE.heap.size = o) (hlp : ∀ i, i < n → wE.cell? ⟨lb, i, none⟩ = some (.pointer (some ⟨ps i, 0, none⟩)) ∧ wE.cell? ⟨ps i, 6, none⟩ = some (.slice (tas i) (x.th i).told.length (tcs i))) :
    ∀ (k i : Nat) (aa : Option Addr) (ac : Nat) (u : Nat → Value) (w : World), i + k = n → Old wE w → w.heap[o]? = some (.cells (Value.slice aa i ac :: rest4).toArray 28) → w.ownsRow (o + 1) 36 1 (.slice aa i ac) i (tells x tas tcs i) →
    Walk Try.prog main (DR (fun _ => none)) (fun g' w' => ∃ aa ac, (∃ u', g' = G (hd17c r (.slice (some ⟨lb, 0, none⟩) n lc) o n u') cs) ∧ Old wE w' ∧ w'.heap[o]? = some (.cells (Value.slice aa n ac :: rest4).toArray 28) ∧ w'.ownsRow (o + 1) 36 1 (.slice aa n ac) n (tells x tas tcs n))
      (G (hd17c r (.slice (some ⟨lb, 0, none⟩) n lc) o i u) cs) w := by
  intro k
  induction k with
  | zero =>
    intro i aa ac u w hi O ho hrow
    have hi : i = n := hi
    subst hi
    exact .stop fun d => ⟨aa, ac, ⟨u, rfl⟩, ⟨O.size, O.same⟩, ho, hrow⟩
  | succ k ih =>
    intro i aa ac u w hi O ho hrow
    have hin : i < n := by omega
    obtain ⟨h1, h2⟩ := hlp i hin
    have hl := cell_lt wE h1
    have hp := cell_lt wE h2
    have hol := (Array.getElem?_eq_some_iff.1 ho).1
    have hge : ∀ b, (Value.slice aa i ac).ownBlock = some b → o + 1 ≤ b := fun b h => (hrow.lt b h).1
    refine (play17_tell (main := main) r o lb n lc i (ps i) aa ac (tas i) (x.th i).told.length (tcs i) (tells x tas tcs i) rest4 u cs w ho (row_mono hrow (Nat.zero_le _)) (fun e => by have := hge _ e; omega) (fun e => by have := hge _ e; have : lb < wE.heap.size := hl; omega) (fun e => by have := hge _ e; have : ps i < wE.heap.size := hp; omega) hin hn (old_cell O h1) (old_cell O h2)).then ?_
    rintro g0 w' ⟨g, cap, w3, ⟨u', rfl⟩, ⟨d, rfl⟩, hown, hg, hat⟩
    refine Walk.back ?_ d
    have hs1 : (w.alloc (.cells #[.slice (tas i) (x.th i).told.length (tcs i)] 36)).heap.size = w.heap.size + 1 := by simp
    have hgo : o + 1 ≤ g := by
      rcases hat with h | h
      · exact hge g h
      · omega
    have hgs := hg.size
    have hk : ∀ b, b < w.heap.size → (Value.slice aa i ac).ownBlock ≠ some b → w3.heap[b]? = w.heap[b]? := fun b hb hne => (hg.block b (by omega) (fun e => hne e.symm)).trans (heap_new_lt w _ hb)
    have ho3 := (hk o hol (fun e => by have := hge _ e; omega)).trans ho
    refine ih (i + 1) (some ⟨g, 0, none⟩) cap u' _ (by omega) ⟨by rw [size_set]; have := O.size; omega, fun b hb => ?_⟩ ?_ ?_
    · rw [heap_set_other _ _ _ _ (by show b ≠ o; omega)]
      exact (hk b (by have := O.size; omega) (fun e => by have := hge _ e; omega)).trans (O.same b hb)
    · rw [heap_set_self _ _ ho3]
      simp
    · rw [tells_snoc]
      refine row_same (row_raise hown fun b hb => by cases hb; exact hgo) fun b hb => heap_set_other _ _ _ _ ?_
      cases hb
      show g ≠ o
      omega
theorem told_row {w : World} {base : Nat} {a : Option Addr} {cap : Nat} {l : List Int} (h : w.ownsRow base 38 3 (.slice a l.length cap) l.length (ansCells l)) : ToldAt a l.length (fun i => l.getD i 0) w := fun i hi => by
  have hget : ∀ (l : List Int) (i m : Nat) (x v : _), l[i]? = some x → ([.bool true, .int .i64 x, .slice none 0 0] : List Value)[m]? = some v → (ansCells l)[i * 3 + m]? = some v := by
    intro l
    induction l with
    | nil => intro i m x v h; simp at h
    | cons y l ih =>
      intro i m x v h hm
      have hml : m < 3 := (List.getElem?_eq_some_iff.1 hm).1
      cases i with
      | zero =>
        have h : y = x := by simpa using h
        subst h
        simp only [ansCells, List.flatMap_cons, Nat.zero_mul, Nat.zero_add]
        rw [List.getElem?_append_left (by simpa using hml)]
        exact hm
      | succ i =>
        have h : l[i]? = some x := by simpa using h
        have := ih i m x v h hm
        simp only [ansCells, List.flatMap_cons]
        rw [List.getElem?_append_right (by simp; omega)]
        simp only [List.length_cons, List.length_nil]
        have e : (i + 1) * 3 + m - (0 + 1 + 1 + 1) = i * 3 + m := by omega
        rw [e]
        exact this
  have hx := List.getElem?_eq_getElem hi
  have hd : l.getD i 0 = l[i] := by rw [List.getD_eq_getElem?_getD, hx]; rfl
  obtain ⟨g, c, e, _, _, _, h0⟩ := row_cell h (hget l i 0 _ _ hx rfl)
  obtain ⟨g1, _, e1, _, _, _, h1⟩ := row_cell h (hget l i 1 _ _ hx rfl)
  obtain ⟨g2, _, e2, _, _, _, h2⟩ := row_cell h (hget l i 2 _ _ hx rfl)
  rw [e] at e1 e2
  injection e with e _ _
  injection e1 with e1 _ _
  injection e2 with e2 _ _
  cases e1
  cases e2
  refine ⟨g, 0, e, by rw [Nat.zero_add]; exact h0, by rw [Nat.zero_add]; show _ = some (Value.int .i64 (l.getD i 0)); rw [hd]; exact h1, by rw [Nat.zero_add]; exact h2⟩
end
def TraceOut (n nw : Nat) (F : PX × List Nat) (v : Value) (w : World) : Prop := ∃ aa ac oa oc sa sc, v = .agg (trArr aa n ac oa F.2.length oc sa nw sc (!(List.range n).all fun i => (F.1.out i).isSome)) ∧ NumsAt oa F.2.length (fun i => (F.2.getD i 0 : Nat)) w ∧ NumsAt sa nw F.1.words w ∧ TellsAt aa n (fun i => (F.1.th i).told.length) (fun i j => (F.1.th i).told.getD j 0) w ∧ F.2.length ≤ 1048576 ∧ ∀ i, i < n → (F.1.th i).told.length ≤ 17592186044416
theorem TraceOut.old {n nw : Nat} {F : PX × List Nat} {v : Value} {w w' : World} (H : TraceOut n nw F v w) (O : Old w w') : TraceOut n nw F v w' := by
  obtain ⟨aa, ac, oa, oc, sa, sc, h1, h2, h3, h4, h5⟩ := H
  exact ⟨aa, ac, oa, oc, sa, sc, h1, h2.old O, h3.old O, h4.old O, h5⟩
end Go.Proofs.Ytgiiicdpbdfemaa
end

section
namespace Go.Proofs.Ytgiiicdpbdfemaa
open Go.Conc Go.RowKit Go.Relay
open Go.ConcN (upd upd_ne upd_same)
theorem play17_w {main : Bool} (wa : Option Addr) (wc : Nat) (zs : List Int) (pa : Option Addr) (N pc n : Nat) (va : Option Addr) (vc : Nat) (sl : List Int) (most : Int) (progs : Nat → List Cd) (ca : Nat → Option Addr) (cc : Nat → Nat) (W : World)
    (hz : zs.length ≤ 17592186044416) (hnil : wa = none → zs = [] ∧ wc = 0) (hs : ∀ (j : Nat) (z : Int), zs[j]? = some z → ∃ s so, wa = some ⟨s, so, none⟩ ∧ W.cell? ⟨s, so + j, none⟩ = some (.int .i64 z))
    (hsl : sl.length ≤ 17592186044416) (hvn : va = none → sl = [] ∧ vc = 0) (hv : ∀ (j : Nat) (z : Int), sl[j]? = some z → ∃ s so, va = some ⟨s, so, none⟩ ∧ W.cell? ⟨s, so + j, none⟩ = some (.int .i64 z))
    (hm : min (N : Int) 64 = (n : Nat)) (hpr : ∀ i, i < n → ∃ pb po, pa = some ⟨pb, po, none⟩ ∧ W.cell? ⟨pb, po + i, none⟩ = some (.slice (ca i) (progs i).length (cc i))) (hC : ∀ i, i < n → CodesIn (ca i) (progs i) W) (hL : ∀ i, i < n → (progs i).length ≤ 4398046511104) :
    CallW Try.prog main (fun _ => none) 17 #[.slice wa zs.length wc, .slice pa N pc, .slice va sl.length vc, .int .i64 most] W (fun v w' => TraceOut n zs.length (stepsA n most zs.length progs zs sl) v w' ∧ Old W w') := by
  intro fr cs
  refine (play17_steps wa wc zs pa N pc n va vc sl most progs ca cc (fr :: cs) W hz hnil hs hsl hvn hv hm hpr hC hL).then ?_
  rintro g0 w1 ⟨g, L, ps, p, rd, oa, oc, κ, ats, tas, tcs, u1, rfl, hgW, hgn, hgnw, hgr, hcn, hln, H⟩
  generalize stepsA n most zs.length progs zs sl = F at *
  have hn64 : n ≤ 64 := by omega
  have T := H.T
  have hb := H.bools
  rw [hgn] at hb
  rw [← hgr]
  refine (play17_end (main := main) g.r g.sa zs.length g.sc (.slice L.la n L.lc) L.ea n L.ec L.tu oa F.2.length oc (fun i => (F.1.out i).isSome) u1 (fr :: cs) w1 ((cell_of H.tu.blk 4).trans rfl) (by omega) hb).then ?_
  rintro g0 w2 ⟨⟨u2, rfl⟩, d2, rfl⟩
  refine Walk.back ?_ d2
  generalize hk : (!(List.range n).all fun i => (F.1.out i).isSome) = k at *
  have hO2 := old_alloc w1 (.cells (trArr none 0 0 oa F.2.length oc g.sa zs.length g.sc k) 28)
  have ho2 := heap_alloc_new w1 (.cells (trArr none 0 0 oa F.2.length oc g.sa zs.length g.sc k) 28)
  generalize w1.alloc (.cells (trArr none 0 0 oa F.2.length oc g.sa zs.length g.sc k) 28) = w2 at *
  have htell : Walk Try.prog main (DR (fun _ => none)) (fun g' w' => ∃ aa ac, (∃ u', g' = G (hd17c g.r (.slice L.la n L.lc) w1.heap.size n u') (fr :: cs)) ∧ Old w1 w' ∧ w'.heap[w1.heap.size]? = some (.cells (Value.slice aa n ac :: [.slice oa F.2.length oc, .slice g.sa zs.length g.sc, .bool k]).toArray 28) ∧ w'.ownsRow (w1.heap.size + 1) 36 1 (.slice aa n ac) n (tells F.1 tas tcs n))
      (G (hd17c g.r (.slice L.la n L.lc) w1.heap.size 0 u2) (fr :: cs)) w2 := by
    rcases Nat.eq_zero_or_pos n with h0 | h0
    · subst h0
      exact .stop fun d => ⟨none, 0, ⟨u2, rfl⟩, ⟨hO2.size, hO2.same⟩, ho2, row_nil _ _ _ _⟩
    · obtain ⟨lb, arr, e1, e2, e3, e4⟩ := H.lr (by omega)
      rw [e1]
      exact play17_tells g.r w1.heap.size lb n L.lc F.1 tas tcs ps [.slice oa F.2.length oc, .slice g.sa zs.length g.sc, .bool k] (by omega) (fr :: cs) w1 rfl (fun i hi => ⟨(cell_of e3 i).trans (e4 i (by omega)), (cell_of (T.th i (by omega)).blk 6).trans rfl⟩) n 0 none 0 u2 w2 (by omega) hO2 ho2 (row_nil _ _ _ _)
  refine htell.then ?_
  rintro g0 w3 ⟨aa, ac, ⟨u3, rfl⟩, O3, ho3, hrow⟩
  have hrl := T.lt _ _ T.res.1
  have hr3 := (O3.same g.r hrl).trans T.res.2
  refine (play17_out (main := main) g.r w1.heap.size n L.lc L.la (.slice aa n ac) (.slice oa F.2.length oc) (.slice g.sa zs.length g.sc) (.bool k) (.slice none 0 0) (.slice none 0 0) (.slice none 0 0) (.bool false) u3 fr cs w3 ho3 hr3 (by simp [Value.oneCell'])).mono ?_
  rintro g0 w' ⟨rfl, d, rfl⟩
  refine ⟨_, ⟨?_, ?_⟩, rfl⟩
  · have hsame : ∀ b, b < w1.heap.size → b ≠ g.r → (w3.setRow g.r #[.slice aa n ac, .slice oa F.2.length oc, .slice g.sa zs.length g.sc, .bool k]).heap[b]? = w1.heap[b]? := fun b hb hne => (setRow_other _ _ _ _ hne).trans (O3.same b hb)
    refine ⟨aa, ac, oa, oc, g.sa, g.sc, by rw [hk]; rfl, ?_, fun i hi => ?_, fun i hi => ?_, hln, fun i hi => ?_⟩
    · refine nums_row (row_same H.tu.row fun b hb => hsame b (T.lt _ _ (H.od b hb)) (role_two (H.od b hb) T.res.1 (by simp))) _ fun i hi => ⟨_, List.getElem?_eq_getElem hi, ?_⟩
      rw [List.getD_eq_getElem?_getD, List.getElem?_eq_getElem hi]
      rfl
    · obtain ⟨e1, e2, e3⟩ := T.ws (by omega)
      refine ⟨g.sw, 0, e1, ?_⟩
      rw [Nat.zero_add]
      exact (World.cell?_of_block (a := ⟨g.sw, i, none⟩) (hsame g.sw (T.lt _ _ e2) (role_two e2 T.res.1 (by simp)))).trans (e3.cell (by omega))
    · have hin : i < g.n := by omega
      obtain ⟨c, cap, e, _, _, _, hc⟩ := row_cell hrow (j := i) (x := .slice (tas i) (F.1.th i).told.length (tcs i)) (by simp [tells, hi])
      injection e with e1 _ _
      have hcr : w1.heap.size + 1 ≤ c := (hrow.lt c (by rw [e1]; rfl)).1
      refine ⟨c, 0, tas i, tcs i, e1, ?_, told_row (row_same (T.th i hin).row fun b hb => hsame b (T.lt _ _ (T.rT i hin b hb)) (role_two (T.rT i hin b hb) T.res.1 (by simp)))⟩
      rw [Nat.zero_add]
      exact (World.cell?_of_block (a := ⟨c, i, none⟩) (setRow_other _ _ _ _ (show c ≠ g.r by omega))).trans hc
    · have h1 := T.told i (by omega)
      rw [hcn] at h1
      have : 4096 * (F.2.length + 1) ≤ 4096 * 1048577 := Nat.mul_le_mul_left _ (by omega)
      omega
  · refine Old.at ⟨?_, fun b hb => ?_⟩ d
    · have h1 := T.size
      rw [hgW] at h1
      have := O3.size
      simp [World.setRow]
      omega
    · have h := T.old b (by rw [hgW]; exact hb)
      rw [hgW] at h
      exact (setRow_other _ _ _ _ (role_two h.1 T.res.1 (by simp))).trans ((O3.same b (T.lt _ _ h.1)).trans h.2)
end Go.Proofs.Ytgiiicdpbdfemaa
end

section
namespace Go.Proofs.Ytgiiicdpbdfemaa
open Go.Conc Go.RowKit Go.Relay
open Go.ConcN (upd upd_ne upd_same)
theorem codes_nil {main : Bool} {V : Nat → Option Wait} (pa : Option Addr) (pc : Nat) (w : World) : CallV Try.prog main V 15 #[.slice pa 0 pc] w (.slice none 0 0) w := by
  intro fr cs
  refine (codes_in _ (fr :: cs) w).then ?_
  rintro g1 w1 ⟨⟨u1, rfl⟩, d1, rfl⟩
  refine Walk.back ?_ d1
  refine (codes_out pa 0 pc none 0 u1 fr cs w).mono ?_
  rintro g w' ⟨rfl, d, rfl⟩
  exact ⟨_, ⟨rfl, d, rfl⟩, rfl⟩
theorem codes_any {main : Bool} {V : Nat → Option Wait} (pa : Option Addr) (pc : Nat) (l : List Sl) (Ps : List (List Cd)) (w : World) (hS : Src pa l Ps w) (hn : Ps.length ≤ 5864062014805) (hm : ∀ c ∈ Ps, c.length ≤ 3518437208883) (hA : ∀ b, w.heap.size ≤ b → Apart V b) :
    CallW Try.prog main V 15 #[.slice pa Ps.length pc] w (fun v w' => ∃ fa fc ls, v = .slice fa Ps.length fc ∧ Coded w w' Ps fa fc Ps.length ls ∧ (Ps.length = 0 → fa = none ∧ fc = 0)) := by
  rcases Nat.eq_zero_or_pos Ps.length with h0 | h0
  · intro fr cs
    rw [h0]
    refine ((codes_nil (main := main) (V := V) pa pc w) fr cs).mono ?_
    rintro g w' ⟨v, ⟨rfl, d, rfl⟩, hg⟩
    refine ⟨_, ⟨none, 0, [], rfl, ⟨(Old.refl w).at d, rfl, row_nil _ _ _ _, fun j p c h => by simp at h⟩, fun _ => ⟨rfl, rfl⟩⟩, hg⟩
  · intro fr cs
    refine ((codes_w (main := main) (V := V) pa pc l Ps w hS hn hm hA) fr cs).mono ?_
    rintro g w' ⟨v, ⟨fa, fc, ls, hv, M⟩, hg⟩
    exact ⟨v, ⟨fa, fc, ls, hv, M, fun h => by omega⟩, hg⟩
theorem playA_nil (ws : List Int) (most : Int) (sl : List Int) : playA [] ws most sl = (px0 ws, []) := by
  have hov : ∀ st : PX × List Nat, overA (absP ([] : List (List Cd)).length (min (max most 0) 1048576) ws.length (fun i => ([] : List (List Cd)).getD i [])) st = true := fun st => by
    unfold overA goingA absP
    simp
  unfold playA runA followA
  show restA _ _ (List.foldl _ (px0 ws, []) sl) = _
  rw [over_folds (hov _)]
  generalize (absP ([] : List (List Cd)).length (min (max most 0) 1048576) ws.length (fun i => ([] : List (List Cd)).getD i [])).most.toNat = k
  cases k with
  | zero => rfl
  | succ k => exact rest_off _ (hov _)
theorem play_any {w0 wc : World} {Ps : List (List Cd)} {fa : Option Addr} {fc : Nat} {ls : List Sl} (M : Coded w0 wc Ps fa fc Ps.length ls) (h0 : Ps.length = 0 → fa = none ∧ fc = 0) (hm : ∀ c ∈ Ps, c.length ≤ 3518437208883) (wa : Option Addr) (cap : Nat) (sa : Option Addr) (sc : Nat) (most : Int) (ws sl : List Int) (w : World) (O : Old wc w) (hws : ws.length ≤ 17592186044416) (hsl : sl.length ≤ 17592186044416)
    (hw : IntsAt wa ws w) (hsc : IntsAt sa sl w) (hsb : ∀ s, sa = some ⟨s, 0, none⟩ → s < w.heap.size) (c : Frame) (cs : List Frame) :
    Runs (fun g w' => ∃ cells, PlayOut (Ps.take 64) ws most sl cells w' ∧ Old w w' ∧ g = G (c.finish (.agg cells)) cs) (G (Frame.enter Try.prog 14 #[.slice wa ws.length cap, .slice fa Ps.length fc, .slice sa sl.length sc, .int .i64 most] .normal) (c :: cs)) w := by
  rcases Nat.eq_zero_or_pos Ps.length with hp | hp
  · obtain ⟨rfl, rfl⟩ := h0 hp
    have hPs : Ps = [] := List.eq_nil_of_length_eq_zero hp
    subst hPs
    refine Runs.walk (play_none wa cap ws sa sl.length sc most c cs w hws hw fun h => ?_) fun g w' h => Runs.now ?_
    · obtain ⟨s, e, hc⟩ := hsc 0 _ (List.getElem?_eq_getElem h)
      exact ⟨s, 0, _, e, hc⟩
    · obtain ⟨a, s, hO, hc, hg⟩ := h
      refine ⟨_, ⟨none, 0, a, s, fun _ => none, fun _ => 0, rfl, ?_, ?_, ?_⟩, hO, ?_⟩
      · have e : playA (List.take 64 []) ws most sl = (px0 ws, []) := playA_nil ws most sl
        rw [e]
        exact row_nil _ _ _ _
      · intro j hj
        show w'.cell? _ = some (.int .i64 ((playA [] ws most sl).1.words j))
        rw [playA_nil]
        exact hc j hj
      · intro i hi
        exact absurd hi (Nat.not_lt_zero _)
      · rw [hg]
        have e : playA (List.take 64 []) ws most sl = (px0 ws, []) := playA_nil ws most sl
        rw [e]
        rfl
  · exact play_coded M hp (fun c hc => by have := hm c hc; omega) wa cap sa sc most ws sl w O hws hsl hw hsc hsb c cs
theorem stuck_is (progs : List (List Cd)) (x : PX) : stuckA progs x = !(List.range progs.length).all fun i => (x.out i).isSome := by
  unfold stuckA
  rw [Bool.eq_iff_iff]
  simp only [decide_eq_true_eq, List.countP_pos_iff, Bool.not_eq_true', List.all_eq_false]
  constructor
  · rintro ⟨i, hi, h⟩
    refine ⟨i, hi, ?_⟩
    cases e : x.out i with
    | none => simp
    | some b => rw [e] at h; cases h
  · rintro ⟨i, hi, h⟩
    refine ⟨i, hi, ?_⟩
    cases e : x.out i with
    | none => rfl
    | some b => rw [e] at h; simp at h
end Go.Proofs.Ytgiiicdpbdfemaa
end

section
namespace Go.Proofs.Ytgiiicdpbdfemaa
open Go.Conc Go.RowKit Go.Relay
open Go.ConcN (upd upd_ne upd_same)
noncomputable def reg3_0 : Array Oper := match Try.f3.body with | some (.seq (.region _ ops _) _) => ops | _ => #[]
theorem size3_0 : reg3_0.size = 1 := by kernel_rfl
noncomputable def reg3_1 : Array Oper := match Try.f3.body with | some (.seq _ (.seq (.seq (.region _ ops _) _) _)) => ops | _ => #[]
theorem size3_1 : reg3_1.size = 2 := by kernel_rfl
noncomputable def reg3_2 : Array Oper := match Try.f3.body with | some (.seq _ (.seq (.seq _ (.cond _ (.seq (.region _ ops _) _) _)) _)) => ops | _ => #[]
theorem size3_2 : reg3_2.size = 1 := by kernel_rfl
noncomputable def reg3_3 : Array Oper := match Try.f3.body with | some (.seq _ (.seq _ (.seq (.region _ ops _) _))) => ops | _ => #[]
theorem size3_3 : reg3_3.size = 4 := by kernel_rfl
noncomputable def reg3_4 : Array Oper := match Try.f3.body with | some (.seq _ (.seq _ (.seq _ (.seq (.region _ ops _) _)))) => ops | _ => #[]
theorem size3_4 : reg3_4.size = 10 := by kernel_rfl
noncomputable def reg3_5 : Array Oper := match Try.f3.body with | some (.seq _ (.seq _ (.seq _ (.seq _ (.seq (.region _ ops _) _))))) => ops | _ => #[]
theorem size3_5 : reg3_5.size = 13 := by kernel_rfl
theorem code3_is : Try.f3.body = some (.seq (.region 0 reg3_0 false) (.seq (.seq (.region 1 reg3_1 false) (.cond (.tmp 12 ) (.seq (.region 2 reg3_2 false) (.ret)) (.skip))) (.seq (.region 3 reg3_3 false) (.seq (.region 4 reg3_4 false) (.seq (.region 5 reg3_5 true) (.ret)))))) := by kernel_rfl
def tm3 (wv pv sv mo inv : Value) (X : Nat) (u : Nat → Value) : Array Value := #[wv, pv, sv, mo, u 4, u 5, u 6, u 7, u 8, inv, .pointer (some ⟨X, 0, none⟩), u 11, u 12, u 13, u 14, u 15, u 16, u 17, u 18, u 19, u 20, u 21, u 22, u 23, u 24, u 25, u 26, u 27, u 28, u 29, u 30, u 31, u 32, u 33, u 34, u 35]
theorem PlayOut.trace {PL : List (List Cd)} {ws : List Int} {most : Int} {sl : List Int} {cells : Array Value} {w : World} (H : PlayOut PL ws most sl cells w) : ∃ aa ac oa oc sa sc, cells = trArr aa PL.length ac oa (playA PL ws most sl).2.length oc sa ws.length sc (!(List.range PL.length).all fun i => ((playA PL ws most sl).1.out i).isSome) ∧ NumsAt oa (playA PL ws most sl).2.length (fun i => ((playA PL ws most sl).2.getD i 0 : Nat)) w ∧ NumsAt sa ws.length (playA PL ws most sl).1.words w ∧ TellsAt aa PL.length (fun i => ((playA PL ws most sl).1.th i).told.length) (fun i j => ((playA PL ws most sl).1.th i).told.getD j 0) w := by
  obtain ⟨oa, oc, a, s, tas, tcs, h1, h2, h3, h4⟩ := H
  refine ⟨some ⟨a, 0, none⟩, PL.length, oa, oc, some ⟨s, 0, none⟩, ws.length, ?_, ?_, fun j hj => ⟨s, 0, rfl, by rw [Nat.zero_add]; exact h3 j hj⟩, fun i hi => ?_⟩
  · rw [h1, stuck_is]; rfl
  · refine nums_row (l := (playA PL ws most sl).2) h2 _ fun i hi => ⟨_, List.getElem?_eq_getElem hi, ?_⟩
    rw [List.getD_eq_getElem?_getD, List.getElem?_eq_getElem hi]
    rfl
  · obtain ⟨e1, e2⟩ := h4 i hi
    exact ⟨a, 0, tas i, tcs i, rfl, by rw [Nat.zero_add]; exact e1, told_row e2⟩
set_option maxHeartbeats 8000000 in
set_option maxRecDepth 100000 in
theorem plays_last {main : Bool} (wv pv sv mo inv : Value) (X nw n : Nat) (F : PX × List Nat) (cells : Array Value) (w0 : World) (hX : w0.heap[X]? = some (.cells cells 28)) (aa : Option Addr) (ac : Nat) (oa : Option Addr) (oc : Nat) (sa : Option Addr) (sc : Nat) (hcells : cells = trArr aa n ac oa F.2.length oc sa nw sc (!(List.range n).all fun i => (F.1.out i).isSome))
    (o1 : NumsAt oa F.2.length (fun i => (F.2.getD i 0 : Nat)) w0) (s1 : NumsAt sa nw F.1.words w0) (a1 : TellsAt aa n (fun i => (F.1.th i).told.length) (fun i j => (F.1.th i).told.getD j 0) w0) (hn : n ≤ 64) (hnw : nw ≤ 17592186044416)
    (h17 : ∀ w1, Old w0 w1 → CallW Try.prog main (fun _ => none) 17 #[wv, pv, sv, mo] w1 (fun v w' => TraceOut n nw F v w' ∧ Old w1 w')) (h18 : ∀ w1, Old w0 w1 → CallV Try.prog main (fun _ => none) 18 #[inv, wv] w1 (.bool true) w1) (k : List Item) (cs : List Frame) (u0 : Nat → Value)
    {Stop : Goroutine → World → Prop} (hk : ∀ (u : Nat → Value) (w' : World), u 8 = .bool true → Old w0 w' → Walk Try.prog main (DR (fun _ => none)) Stop (G ((base 3).at ⟨tm3 wv pv sv mo inv X u, []⟩ (.inRegion reg3_5 [] :: k)) cs) w') :
    Walk Try.prog main (DR (fun _ => none)) Stop (G ((base 3).at ⟨tm3 wv pv sv mo inv X u0, []⟩ (.code (.region 5 reg3_5 true) :: k)) cs) w0 := by
  refine Walk.drawnJ (Inv := fun f a w' => ∃ u vA, a = ⟨tm3 wv pv sv mo inv X u, []⟩ ∧ Facts [24, 25, 26, 27, 28, 29, 30, 31, 32, 33, 34, 35, 8] [.agg cells, wv, pv, sv, mo, vA, .bool true, .bool true, inv, wv, .bool true, .bool true, .bool true] f u ∧ Old w0 w' ∧ (f 5 = true → TraceOut n nw F vA w')) (by kernel_rfl) (by kernel_rfl) (fun d => ⟨u0, undef, rfl, Facts.none _ _ _, (Old.refl w0).at d, fun h => by cases h⟩) ?_ ?_
  · rintro f i o a w' ⟨u, vA, rfl, F0, O, hT⟩ hC hfi ho hdeps rest hr
    have hi : i < 13 := by have := (Array.getElem?_eq_some_iff.1 ho).1; rw [size3_5] at this; exact this
    match i, hi with
    | 0, _ =>
      have hX' := (O.same X (Array.getElem?_eq_some_iff.1 hX).1).trans hX
      have hc : ∀ (j : Nat) (v : Value), cells.toList[j]? = some v → w'.cell? ⟨X, 0 + j, none⟩ = some v := fun j v hv => by
        rw [Nat.zero_add, cell_of hX']
        simpa using hv
      obtain ⟨fs, hu⟩ := und28
      have hsz : cells.toList.length = 4 := by rw [hcells]; rfl
      clear hdeps hC hX'
      simp only [tm3] at hr ⊢
      refine Walk.loadS 28 (.tmp 10) (ho_of (by conv => lhs; whnf) (by kernel_rfl)) (by rfl) (by decide) rfl X 0 cells.toList _ rfl hc hu rfl (by rw [hsz]; kernel_rfl) ?_
      clear hc
      walk_nrm
      refine hr _ _ ⟨upd u 24 (.agg cells), vA, ?_, F0.set (by decide) rfl rfl, O, fun h => hT (by rwa [upd_ne _ _ (by decide)] at h)⟩
      simp [upd]
    | 1, _ =>
      clear hdeps hC
      simp only [tm3] at hr ⊢
      (refine Walk.oq ?_; try walk_nrm)
      refine hr _ _ ⟨upd u 25 wv, vA, ?_, F0.set (by decide) rfl rfl, O, fun h => hT (by rwa [upd_ne _ _ (by decide)] at h)⟩
      simp [upd]
    | 2, _ =>
      clear hdeps hC
      simp only [tm3] at hr ⊢
      (refine Walk.oq ?_; try walk_nrm)
      refine hr _ _ ⟨upd u 26 pv, vA, ?_, F0.set (by decide) rfl rfl, O, fun h => hT (by rwa [upd_ne _ _ (by decide)] at h)⟩
      simp [upd]
    | 3, _ =>
      clear hdeps hC
      simp only [tm3] at hr ⊢
      (refine Walk.oq ?_; try walk_nrm)
      refine hr _ _ ⟨upd u 27 sv, vA, ?_, F0.set (by decide) rfl rfl, O, fun h => hT (by rwa [upd_ne _ _ (by decide)] at h)⟩
      simp [upd]
    | 4, _ =>
      clear hdeps hC
      simp only [tm3] at hr ⊢
      (refine Walk.oq ?_; try walk_nrm)
      refine hr _ _ ⟨upd u 28 mo, vA, ?_, F0.set (by decide) rfl rfl, O, fun h => hT (by rwa [upd_ne _ _ (by decide)] at h)⟩
      simp [upd]
    | 5, _ =>
      have hd := deps_of (l := [1, 2, 3, 4]) (by kernel_rfl) ho hdeps
      have e25 := F0 1 25 _ (hd 1 (by simp)) rfl rfl
      have e26 := F0 2 26 _ (hd 2 (by simp)) rfl rfl
      have e27 := F0 3 27 _ (hd 3 (by simp)) rfl rfl
      have e28 := F0 4 28 _ (hd 4 (by simp)) rfl rfl
      have h17' := h17 w' O
      have h6 : f 6 = false := by
        cases h : f 6 with
        | false => rfl
        | true => have := hC.deps (i := 6) (l := [5]) h (by kernel_rfl) 5 (by simp); rw [hfi] at this; cases this
      have hset : ∀ v, Facts [24, 25, 26, 27, 28, 29, 30, 31, 32, 33, 34, 35, 8] [.agg cells, wv, pv, sv, mo, v, .bool true, .bool true, inv, wv, .bool true, .bool true, .bool true] (upd f 5 true) (upd u 29 v) := fun v => by
        refine Facts.set (fun j d x hj hd hx => ?_) (by decide) rfl rfl
        have hj5 : j ≠ 5 := fun e => by rw [e, hfi] at hj; cases hj
        refine F0 j d x hj hd ?_
        match j, hj5, hx with
        | 0, _, hx => exact hx
        | 1, _, hx => exact hx
        | 2, _, hx => exact hx
        | 3, _, hx => exact hx
        | 4, _, hx => exact hx
        | j + 6, _, hx => exact hx
      clear hdeps hC hT h17 h18
      simp only [tm3] at hr ⊢
      simp only [e25, e26, e27, e28]
      refine Walk.callW (Post := fun v w2 => TraceOut n nw F v w2 ∧ Old w' w2) ?_ (ho_of (by conv => lhs; whnf) (by kernel_rfl)) (by rfl) (by decide) rfl Try.func17 (by kernel_rfl) (by rfl) ?_
      · walk_nrm
        exact h17'
      rintro v w2 ⟨hv, O2⟩
      walk_nrm
      refine hr _ _ ⟨upd u 29 v, v, ?_, hset v, O.trans O2, fun _ => hv⟩
      simp [upd, e25, e26, e27, e28]
    | 6, _ =>
      have hd := deps_of (l := [0, 5]) (by kernel_rfl) ho hdeps
      have e24 := F0 0 24 _ (hd 0 (by simp)) rfl rfl
      have e29 := F0 5 29 _ (hd 5 (by simp)) rfl rfl
      have hT5 := hT (hd 5 (by simp))
      obtain ⟨ba, bc, pa, pc, ra, rc, rfl, q2, q3, q4, q5, q6⟩ := id hT5
      have h16 := same16_w (main := main) aa n ac oa F.2.length oc sa nw sc (!(List.range n).all fun i => (F.1.out i).isSome) ba bc pa pc ra rc _ _ _ _ w' (by omega) (by omega) hnw q6 (o1.old O) q2 (s1.old O) q3 (a1.old O) q4
      rw [← hcells] at h16
      clear hdeps hC hT h17 h18
      simp only [tm3] at hr ⊢
      simp only [e24, e29]
      refine Walk.callW (Post := fun v w2 => v = .bool true ∧ Old w' w2) ?_ (ho_of (by conv => lhs; whnf) (by kernel_rfl)) (by rfl) (by decide) rfl Try.func16 (by kernel_rfl) (by rfl) ?_
      · walk_nrm
        exact h16
      rintro v w2 ⟨rfl, O2⟩
      walk_nrm
      refine hr _ _ ⟨upd u 30 (.bool true), _, ?_, F0.set (by decide) rfl rfl, O.trans O2, fun _ => hT5.old O2⟩
      simp [upd, e24, e29]
    | 7, _ =>
      have hd := deps_of (l := [6]) (by kernel_rfl) ho hdeps
      have e30 := F0 6 30 _ (hd 6 (by simp)) rfl rfl
      clear hdeps hC
      simp only [tm3] at hr ⊢
      simp only [e30]
      (refine Walk.oq ?_; try walk_nrm)
      refine hr _ _ ⟨upd u 31 (.bool true), vA, ?_, F0.set (by decide) rfl rfl, O, fun h => hT (by rwa [upd_ne _ _ (by decide)] at h)⟩
      simp [upd, e30]
    | 8, _ =>
      have hd := deps_of (l := [7]) (by kernel_rfl) ho hdeps
      have e31 := F0 7 31 _ (hd 7 (by simp)) rfl rfl
      clear hdeps hC
      simp only [tm3] at hr ⊢
      simp only [e31]
      (refine Walk.oq ?_; try walk_nrm)
      refine hr _ _ ⟨upd u 32 inv, vA, ?_, F0.set (by decide) rfl rfl, O, fun h => hT (by rwa [upd_ne _ _ (by decide)] at h)⟩
      simp [upd, e31]
    | 9, _ =>
      have hd := deps_of (l := [7]) (by kernel_rfl) ho hdeps
      have e31 := F0 7 31 _ (hd 7 (by simp)) rfl rfl
      clear hdeps hC
      simp only [tm3] at hr ⊢
      simp only [e31]
      (refine Walk.oq ?_; try walk_nrm)
      refine hr _ _ ⟨upd u 33 wv, vA, ?_, F0.set (by decide) rfl rfl, O, fun h => hT (by rwa [upd_ne _ _ (by decide)] at h)⟩
      simp [upd, e31]
    | 10, _ =>
      have hd := deps_of (l := [7, 8, 9]) (by kernel_rfl) ho hdeps
      have e31 := F0 7 31 _ (hd 7 (by simp)) rfl rfl
      have e32 := F0 8 32 _ (hd 8 (by simp)) rfl rfl
      have e33 := F0 9 33 _ (hd 9 (by simp)) rfl rfl
      have h18' := h18 w' O
      clear hdeps hC h17 h18
      simp only [tm3] at hr ⊢
      simp only [e31, e32, e33]
      refine Walk.callV (x := .bool true) (W := w') ?_ (ho_of (by conv => lhs; whnf) (by kernel_rfl)) (by rfl) (by decide) rfl Try.func18 (by kernel_rfl) (by rfl) ?_
      · walk_nrm
        exact h18'
      walk_nrm
      refine hr _ _ ⟨upd u 34 (.bool true), vA, ?_, F0.set (by decide) rfl rfl, O, fun h => hT (by rwa [upd_ne _ _ (by decide)] at h)⟩
      simp [upd, e31, e32, e33]
    | 11, _ =>
      have hd := deps_of (l := [7, 10]) (by kernel_rfl) ho hdeps
      have e31 := F0 7 31 _ (hd 7 (by simp)) rfl rfl
      have e34 := F0 10 34 _ (hd 10 (by simp)) rfl rfl
      clear hdeps hC
      simp only [tm3] at hr ⊢
      simp only [e31, e34]
      (refine Walk.oq ?_; try walk_nrm)
      refine hr _ _ ⟨upd u 35 (.bool true), vA, ?_, F0.set (by decide) rfl rfl, O, fun h => hT (by rwa [upd_ne _ _ (by decide)] at h)⟩
      simp [upd, e31, e34]
    | 12, _ =>
      have hd := deps_of (l := [11]) (by kernel_rfl) ho hdeps
      have e35 := F0 11 35 _ (hd 11 (by simp)) rfl rfl
      clear hdeps hC
      simp only [tm3] at hr ⊢
      simp only [e35]
      (refine Walk.oq ?_; try walk_nrm)
      refine hr _ _ ⟨upd u 8 (.bool true), vA, ?_, F0.set (by decide) rfl rfl, O, fun h => hT (by rwa [upd_ne _ _ (by decide)] at h)⟩
      simp [upd, e35]
  · rintro f a w' ⟨u, vA, rfl, F0, O, hT⟩ hall
    exact hk u w' (F0 12 8 _ (hall 12 (by rw [size3_5]; decide)) rfl rfl) O
end Go.Proofs.Ytgiiicdpbdfemaa
end
