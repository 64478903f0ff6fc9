/- Part 7. -/
import Derived.Test.YtgiiicdpbdfemaaC6
import Derived.Deep.AppendLies
import Derived.Test.YtgiiicdpbdfemaaProg
import Derived.KernelRfl
import Derived.Handy
set_option linter.unusedSimpArgs false
/- Package turn's firstThreads, in company. -/
section
namespace Go.Proofs.Ytgiiicdpbdfemaa
open Go.Conc Go.RowKit Go.Relay

variable {main : Bool} {V : Nat → Option Wait}

section
variable {P : Program} {t e : TypeId} {ti : TypeInfo}
theorem run_sl_of (hu : P.underlying t = some (.slice e)) (hi : P.info? e = some ti) (tb m cap x : Nat) (hx : x ≤ cap) (w : World) (es : Array Event) : (Instr.sliceAt t (.slice (some ⟨tb, 0, none⟩) m cap) none (some (.int .i64 x)) none).run P w = .ok (.slice (some ⟨tb, 0, none⟩) x cap) w ∧
    (Instr.sliceAt t (.slice (some ⟨tb, 0, none⟩) m cap) none (some (.int .i64 x)) none).events P w es = es := by
  have h1 : (x : Int) ≤ cap := by omega
  constructor <;> simp [Instr.sliceAt, Instr.slice, run_underlying hu, Instr.sliceBounds, Instr.sliceBound, asIntOf, sizeOf, typeInfo, hi, h1, hx, Addr.add]
theorem run_sl0_of (hu : P.underlying t = some (.slice e)) (hi : P.info? e = some ti) (w : World) (es : Array Event) : (Instr.sliceAt t (.slice none 0 0) none (some (.int .i64 0)) none).run P w = .ok (.slice none 0 0) w ∧
    (Instr.sliceAt t (.slice none 0 0) none (some (.int .i64 0)) none).events P w es = es := by
  constructor <;> simp [Instr.sliceAt, Instr.slice, run_underlying hu, Instr.sliceBounds, Instr.sliceBound, asIntOf, sizeOf, typeInfo, hi]
end
theorem hu53 : Try.prog.underlying 53 = some (.slice 67) := by kernel_rfl

set_option maxHeartbeats 8000000 in
set_option maxRecDepth 100000 in
theorem first_some (tb m tcap : Nat) (w : World) (hm : m ≤ tcap) : CallV Try.prog main V 52 #[.slice (some ⟨tb, 0, none⟩) m tcap] w (.slice (some ⟨tb, 0, none⟩) (min m 64) tcap) w := by
  refine callW_in Try.func52 rfl fun fr cs => ?_
  simp only [Try.ntmps52, List.size_toArray, List.length_cons, List.length_nil, Nat.reduceAdd, Nat.reduceSub, Array.replicate_succ, Array.replicate_zero, List.push_toArray, List.append_toArray, List.nil_append, List.cons_append]
  have hmn := @events_min_ints Try.prog
  repeat (first | (refine Walk.c rfl ?_) | (refine Walk.cReg ?_; simp only [List.size_toArray, List.length_cons, List.length_nil, Nat.reduceAdd, Nat.zero_add, List.range, List.range.loop]) | (refine Walk.cRet ?_) | (refine Walk.cEnd ?_) | (refine Walk.opq (ho_of (by conv => lhs; whnf) (by kernel_rfl)) (by rfl) (by decide) (fun dd e he => ?_) (fun dd K hK => ?_); (· (simp [go_sem, *] at he; try (subst he; exact evR_read _ _))); go_simp; refine hK _ ?_; clear hK K; try walk_nrm) | (refine Walk.ctl rfl (fun w => stepG_unwanted (ho_of (by conv => lhs; whnf) (by kernel_rfl)) (by rfl)) ?_; walk_nrm))
  have hmin : min (m : Int) 64 = ((min m 64 : Nat) : Int) := by omega
  rw [hmin]
  have hxl : min m 64 ≤ tcap := by omega
  generalize min m 64 = x at hxl ⊢
  have hi := Option.some_get (show (Try.prog.info? 67).isSome = true by kernel_rfl)
  have hs := fun w => (run_sl_of hu53 hi.symm tb m tcap x hxl w #[]).1
  have hse := fun w es => (run_sl_of hu53 hi.symm tb m tcap x hxl w es).2
  clear hi
  repeat (first | (refine Walk.c rfl ?_) | (refine Walk.cReg ?_; simp only [List.size_toArray, List.length_cons, List.length_nil, Nat.reduceAdd, Nat.zero_add, List.range, List.range.loop]) | (refine Walk.cRet ?_) | (refine Walk.cEnd ?_) | (refine Walk.opq (ho_of (by conv => lhs; whnf) (by kernel_rfl)) (by rfl) (by decide) (fun dd e he => ?_) (fun dd K hK => ?_); (· (simp [go_sem, *] at he; try (subst he; exact evR_read _ _))); go_simp; refine hK _ ?_; clear hK K; try walk_nrm) | (refine Walk.ctl rfl (fun w => stepG_unwanted (ho_of (by conv => lhs; whnf) (by kernel_rfl)) (by rfl)) ?_; walk_nrm))
  exact Walk.ret1 rfl rfl Try.func52 rfl fun d => ⟨by simp, d, rfl⟩


set_option maxHeartbeats 8000000 in
set_option maxRecDepth 100000 in
theorem first_none (w : World) : CallV Try.prog main V 52 #[.slice none 0 0] w (.slice none 0 0) w := by
  refine callW_in Try.func52 rfl fun fr cs => ?_
  simp only [Try.ntmps52, List.size_toArray, List.length_cons, List.length_nil, Nat.reduceAdd, Nat.reduceSub, Array.replicate_succ, Array.replicate_zero, List.push_toArray, List.append_toArray, List.nil_append, List.cons_append]
  have hmn := @events_min_ints Try.prog
  have hi := Option.some_get (show (Try.prog.info? 67).isSome = true by kernel_rfl)
  have hs := fun w => (run_sl0_of hu53 hi.symm w #[]).1
  have hse := fun w es => (run_sl0_of hu53 hi.symm w es).2
  clear hi
  have hmin : min (0 : Int) 64 = 0 := by decide
  repeat (first | (refine Walk.c rfl ?_) | (refine Walk.cReg ?_; simp only [List.size_toArray, List.length_cons, List.length_nil, Nat.reduceAdd, Nat.zero_add, List.range, List.range.loop]) | (refine Walk.cRet ?_) | (refine Walk.cEnd ?_) | (refine Walk.opq (ho_of (by conv => lhs; whnf) (by kernel_rfl)) (by rfl) (by decide) (fun dd e he => ?_) (fun dd K hK => ?_); (· (simp [go_sem, *] at he; try (subst he; exact evR_read _ _))); go_simp; refine hK _ ?_; clear hK K; try walk_nrm) | (refine Walk.ctl rfl (fun w => stepG_unwanted (ho_of (by conv => lhs; whnf) (by kernel_rfl)) (by rfl)) ?_; walk_nrm))
  simp only [hmin]
  repeat (first | (refine Walk.c rfl ?_) | (refine Walk.cReg ?_; simp only [List.size_toArray, List.length_cons, List.length_nil, Nat.reduceAdd, Nat.zero_add, List.range, List.range.loop]) | (refine Walk.cRet ?_) | (refine Walk.cEnd ?_) | (refine Walk.opq (ho_of (by conv => lhs; whnf) (by kernel_rfl)) (by rfl) (by decide) (fun dd e he => ?_) (fun dd K hK => ?_); (· (simp [go_sem, *] at he; try (subst he; exact evR_read _ _))); go_simp; refine hK _ ?_; clear hK K; try walk_nrm) | (refine Walk.ctl rfl (fun w => stepG_unwanted (ho_of (by conv => lhs; whnf) (by kernel_rfl)) (by rfl)) ?_; walk_nrm))
  exact Walk.ret1 rfl rfl Try.func52 rfl fun d => ⟨by simp, d, rfl⟩
end Go.Proofs.Ytgiiicdpbdfemaa
end

/- Package turn's Play: newWalkers. -/
section
namespace Go.Proofs.Ytgiiicdpbdfemaa
open Go.Conc Go.RowKit Go.Relay
open Go.ConcN (upd upd_ne upd_same)

variable {main : Bool} {V : Nat → Option Wait}

theorem hu30 : Try.prog.underlying 30 = some (.slice 94) := by kernel_rfl
set_option maxHeartbeats 8000000 in
set_option maxRecDepth 100000 in
theorem first70_some (tb m tcap : Nat) (w : World) (hm : m ≤ tcap) : CallV Try.prog main V 70 #[.slice (some ⟨tb, 0, none⟩) m tcap] w (.slice (some ⟨tb, 0, none⟩) (min m 64) tcap) w := by
  refine callW_in Try.func70 rfl fun fr cs => ?_
  simp only [Try.ntmps70, List.size_toArray, List.length_cons, List.length_nil, Nat.reduceAdd, Nat.reduceSub, Array.replicate_succ, Array.replicate_zero, List.push_toArray, List.append_toArray, List.nil_append, List.cons_append]
  have hmn := @events_min_ints Try.prog
  repeat (first | (refine Walk.c rfl ?_) | (refine Walk.cReg ?_; simp only [List.size_toArray, List.length_cons, List.length_nil, Nat.reduceAdd, Nat.zero_add, List.range, List.range.loop]) | (refine Walk.cRet ?_) | (refine Walk.cEnd ?_) | (refine Walk.opq (ho_of (by conv => lhs; whnf) (by kernel_rfl)) (by rfl) (by decide) (fun dd e he => ?_) (fun dd K hK => ?_); (· (simp [go_sem, *] at he; try (subst he; exact evR_read _ _))); go_simp; refine hK _ ?_; clear hK K; try walk_nrm) | (refine Walk.ctl rfl (fun w => stepG_unwanted (ho_of (by conv => lhs; whnf) (by kernel_rfl)) (by rfl)) ?_; walk_nrm))
  have hmin : min (m : Int) 64 = ((min m 64 : Nat) : Int) := by omega
  rw [hmin]
  have hxl : min m 64 ≤ tcap := by omega
  generalize min m 64 = x at hxl ⊢
  have hi := Option.some_get (show (Try.prog.info? 94).isSome = true by kernel_rfl)
  have hs := fun w => (run_sl_of hu30 hi.symm tb m tcap x hxl w #[]).1
  have hse := fun w es => (run_sl_of hu30 hi.symm tb m tcap x hxl w es).2
  clear hi
  repeat (first | (refine Walk.c rfl ?_) | (refine Walk.cReg ?_; simp only [List.size_toArray, List.length_cons, List.length_nil, Nat.reduceAdd, Nat.zero_add, List.range, List.range.loop]) | (refine Walk.cRet ?_) | (refine Walk.cEnd ?_) | (refine Walk.opq (ho_of (by conv => lhs; whnf) (by kernel_rfl)) (by rfl) (by decide) (fun dd e he => ?_) (fun dd K hK => ?_); (· (simp [go_sem, *] at he; try (subst he; exact evR_read _ _))); go_simp; refine hK _ ?_; clear hK K; try walk_nrm) | (refine Walk.ctl rfl (fun w => stepG_unwanted (ho_of (by conv => lhs; whnf) (by kernel_rfl)) (by rfl)) ?_; walk_nrm))
  exact Walk.ret1 rfl rfl Try.func70 rfl fun d => ⟨by simp, d, rfl⟩



noncomputable def body40 : Code := match Try.f40.body with | some (.seq _ (.seq _ (.seq (.seq _ (.block _ (.loop c))) _))) => c | _ => .skip
noncomputable def rest40 : Code := match Try.f40.body with | some (.seq _ (.seq _ (.seq _ c))) => c | _ => .skip
noncomputable def hd40 (sw nw : Nat) (pv fv : Value) (wa : Option Addr) (wc n j : Nat) (u : Nat → Value) : Frame :=
  (base 40).at { tmps := #[.slice (some ⟨sw, 0, none⟩) nw nw, pv, undef, undef, .slice none 0 0, .slice wa j wc, undef, u 7, pv, fv, .int .i64 n, .int .i64 j, u 12, u 13, u 14, u 15, u 16, u 17, u 18, u 19, u 20, u 21, u 22, u 23], defers := [] } [.code body40, .inLoop body40, .inBlock 0, .code rest40]

set_option maxHeartbeats 8000000 in
set_option maxRecDepth 100000 in
theorem walkers_in (sw nw : Nat) (pv : Value) (fa : Option Addr) (n fc : Nat) (cs : List Frame) (w : World) (hp : CallV Try.prog main V 70 #[pv] w (.slice fa n fc) w) :
    Walk Try.prog main (DR V) (fun g w' => g = G (hd40 sw nw pv (.slice fa n fc) none 0 n 0 (fun _ => undef)) cs ∧ ∃ d, w' = w.at d) (G (Frame.enter Try.prog 40 #[.slice (some ⟨sw, 0, none⟩) nw nw, pv] .normal) cs) w := by
  rw [enter_at _ Try.func40 rfl]
  simp only [Try.f40, List.size_toArray, List.length_cons, List.length_nil, Nat.reduceAdd, Nat.reduceSub, Array.replicate_succ, Array.replicate_zero, List.push_toArray, List.append_toArray, List.nil_append, List.cons_append]
  repeat (first | (refine Walk.c rfl ?_) | (refine Walk.cReg ?_; simp only [List.size_toArray, List.length_cons, List.length_nil, Nat.reduceAdd, Nat.zero_add, List.range, List.range.loop]) | (refine Walk.cRet ?_) | (refine Walk.cEnd ?_) | (refine Walk.opq (ho_of (by conv => lhs; whnf) (by kernel_rfl)) (by rfl) (by decide) (fun dd e he => ?_) (fun dd K hK => ?_); (· (simp [go_sem, *] at he; try (subst he; exact evR_read _ _))); go_simp; refine hK _ ?_; clear hK K; try walk_nrm) | (refine Walk.ctl rfl (fun w => stepG_unwanted (ho_of (by conv => lhs; whnf) (by kernel_rfl)) (by rfl)) ?_; walk_nrm))
  refine Walk.callV (x := .slice fa n fc) (W := w) ?_ rfl (by rfl) (by decide) rfl Try.func70 (by kernel_rfl) (by rfl) ?_
  · walk_nrm
    exact hp
  walk_nrm
  repeat (first | (refine Walk.c rfl ?_) | (refine Walk.cReg ?_; simp only [List.size_toArray, List.length_cons, List.length_nil, Nat.reduceAdd, Nat.zero_add, List.range, List.range.loop]) | (refine Walk.cRet ?_) | (refine Walk.cEnd ?_) | (refine Walk.opq (ho_of (by conv => lhs; whnf) (by kernel_rfl)) (by rfl) (by decide) (fun dd e he => ?_) (fun dd K hK => ?_); (· (simp [go_sem, *] at he; try (subst he; exact evR_read _ _))); go_simp; refine hK _ ?_; clear hK K; try walk_nrm) | (refine Walk.ctl rfl (fun w => stepG_unwanted (ho_of (by conv => lhs; whnf) (by kernel_rfl)) (by rfl)) ?_; walk_nrm))
  refine Walk.ctl rfl (fun w => stepG_loop) ?_
  refine .stop fun d => ⟨?_, d, rfl⟩
  simp only [hd40, body40, rest40, Try.f40]
  rfl

def wkCells (sw nw : Nat) (ca : Option Addr) (cl cc : Nat) : Array Value := #[.slice (some ⟨sw, 0, none⟩) nw nw, .slice ca cl cc, .int .i64 0, .int .i64 0, .int .i64 0, .int .i64 0, .slice none 0 0]
def wkW (w : World) (sw nw : Nat) (ca : Option Addr) (cl cc : Nat) : World := (w.alloc (.cells (wkCells sw nw ca cl cc) 156)).alloc (.cells #[.pointer (some ⟨w.heap.size, 0, none⟩)] 91)

set_option maxHeartbeats 8000000 in
set_option maxRecDepth 100000 in
theorem walkers_go (sw nw : Nat) (pv : Value) (fb n fc wc j n0 : Nat) (wa : Option Addr) (ca : Option Addr) (cl cc : Nat) (xs : List Value) (u : Nat → Value) (cs : List Frame) (w : World) (hj : j < n) (hn : n ≤ 64) (hx : w.cell? ⟨fb, j, none⟩ = some (.slice ca cl cc)) (hrow : w.ownsRow n0 91 1 (.slice wa j wc) j xs) (hb : n0 ≤ w.heap.size) (hap : ∀ g, (Value.slice wa j wc).ownBlock = some g → Apart V g) :
    Walk Try.prog main (DR V) (fun g' w' => ∃ g cap w3 u', g' = G (hd40 sw nw pv (.slice (some ⟨fb, 0, none⟩) n fc) (some ⟨g, 0, none⟩) cap n (j + 1) u') cs ∧ (∃ d, w' = w3.at d) ∧ w3.ownsRow n0 91 1 (.slice (some ⟨g, 0, none⟩) (j + 1) cap) (j + 1) (xs ++ [.pointer (some ⟨w.heap.size, 0, none⟩)]) ∧ (wkW w sw nw ca cl cc).grownBy w3 (Value.slice wa j wc).ownBlock ∧ ((Value.slice wa j wc).ownBlock = some g ∨ g = (wkW w sw nw ca cl cc).heap.size) ∧ g < w3.heap.size)
      (G (hd40 sw nw pv (.slice (some ⟨fb, 0, none⟩) n fc) wa wc n j u) cs) w := by
  have hw1 : IntKind.wrap .i64 ((j : Int) + 1) = (j : Int) + 1 := by rw [IntKind.wrap_i64]; omega
  conv => arg 5; unfold hd40; simp only [body40, Try.f40]
  repeat (first | (refine Walk.c rfl ?_) | (refine Walk.cReg ?_; simp only [List.size_toArray, List.length_cons, List.length_nil, Nat.reduceAdd, Nat.zero_add, List.range, List.range.loop]) | (refine Walk.cRet ?_) | (refine Walk.cEnd ?_) | (refine Walk.opq (ho_of (by conv => lhs; whnf) (by kernel_rfl)) (by rfl) (by decide) (fun dd e he => ?_) (fun dd K hK => ?_); (· (simp [go_sem, *] at he; try (subst he; exact evR_read _ _))); go_simp; refine hK _ ?_; clear hK K; try walk_nrm) | (refine Walk.ctl rfl (fun w => stepG_unwanted (ho_of (by conv => lhs; whnf) (by kernel_rfl)) (by rfl)) ?_; walk_nrm))
  (co_applyP Walk.opw (ho_of (by conv => lhs; whnf) (by kernel_rfl)) (by rfl) (by decide) ?wev1 ?wdr1 ?wrun1; (case' wrun1 => (intro dd K hK; go_simp; simp only [alloc_at', setCell_at']; refine hK _ ?wmore1; clear hK K)); (case wdr1 => exact fun dd es hes => DR.alloc' dd es hes); (case wev1 => (intro dd e he; simp [go_sem, *] at he)); try walk_nrm)
  repeat (first | (refine Walk.c rfl ?_) | (refine Walk.cReg ?_; simp only [List.size_toArray, List.length_cons, List.length_nil, Nat.reduceAdd, Nat.zero_add, List.range, List.range.loop]) | (refine Walk.cRet ?_) | (refine Walk.cEnd ?_) | (refine Walk.opq (ho_of (by conv => lhs; whnf) (by kernel_rfl)) (by rfl) (by decide) (fun dd e he => ?_) (fun dd K hK => ?_); (· (simp [go_sem, *] at he; try (subst he; exact evR_read _ _))); go_simp; refine hK _ ?_; clear hK K; try walk_nrm) | (refine Walk.ctl rfl (fun w => stepG_unwanted (ho_of (by conv => lhs; whnf) (by kernel_rfl)) (by rfl)) ?_; walk_nrm))
  (co_applyP Walk.opw (ho_of (by conv => lhs; whnf) (by kernel_rfl)) (by rfl) (by decide) ?wev2 ?wdr2 ?wrun2; (case' wrun2 => (intro dd K hK; go_simp; simp only [alloc_at', setCell_at']; refine hK _ ?wmore2; clear hK K)); (case wdr2 => exact fun dd es hes => DR.alloc' dd es hes); (case wev2 => (intro dd e he; simp [go_sem, *] at he)); try walk_nrm)
  have hi91 := Option.some_get (show (Try.prog.info? 91).isSome = true by kernel_rfl)
  have hs2 : (wkW w sw nw ca cl cc).heap.size = w.heap.size + 2 := by simp [wkW]
  have hrow2 : (wkW w sw nw ca cl cc).ownsRow n0 91 1 (.slice wa j wc) j xs := (hrow.kept (World.grownBy_alloc w _ none) (by cases (Value.slice wa j wc).ownBlock <;> simp)).kept (World.grownBy_alloc _ _ none) (by cases (Value.slice wa j wc).ownBlock <;> simp)
  have hnew : (wkW w sw nw ca cl cc).cell? ((⟨w.heap.size + 1, 0, none⟩ : Addr).add 0) = some (.pointer (some ⟨w.heap.size, 0, none⟩)) := by
    simp [Addr.add, wkW]
  refine Walk.append (.tmp 15) (.tmp 20) 89 rfl (by rfl) (by decide) rfl n0 91 _ (.pointer none) 1 8 (by kernel_rfl) hi91.symm (by rfl) (by rfl) (by rfl) (by rfl) (by decide) (.slice wa j wc) j xs rfl hrow2 ⟨w.heap.size + 1, 0, none⟩ 1 1 [.pointer (some ⟨w.heap.size, 0, none⟩)] ?_ (by rfl) (fun y v hv => ?_) (by simp [Value.oneCell']) (by decide) (by simp [maxLen]; omega) (by omega) (show n0 ≤ (wkW w sw nw ca cl cc).heap.size by omega) hap (fun g cap w3 hown hg hat hlt => ?_)
  · simp [Act.eval]
  · obtain rfl : y = 0 := by rcases y with _ | y <;> simp at hv ⊢
    simp at hv; subst hv; exact hnew
  clear hi91
  walk_nrm
  repeat (first | (refine Walk.c rfl ?_) | (refine Walk.cReg ?_; simp only [List.size_toArray, List.length_cons, List.length_nil, Nat.reduceAdd, Nat.zero_add, List.range, List.range.loop]) | (refine Walk.cRet ?_) | (refine Walk.cEnd ?_) | (refine Walk.opq (ho_of (by conv => lhs; whnf) (by kernel_rfl)) (by rfl) (by decide) (fun dd e he => ?_) (fun dd K hK => ?_); (· (simp [go_sem, *] at he; try (subst he; exact evR_read _ _))); go_simp; refine hK _ ?_; clear hK K; try walk_nrm) | (refine Walk.ctl rfl (fun w => stepG_unwanted (ho_of (by conv => lhs; whnf) (by kernel_rfl)) (by rfl)) ?_; walk_nrm))
  refine Walk.ctl rfl (fun w => stepG_inLoop) ?_
  refine .stop fun d' => ⟨g, cap, w3, fun k => ([undef, undef, undef, undef, undef, undef, undef, .slice ca cl cc, undef, undef, undef, undef, .bool true, .pointer (some ⟨fb, j, none⟩), .slice ca cl cc, .slice wa j wc, .slice (some ⟨sw, 0, none⟩) nw nw, .slice ca cl cc, .agg (wkCells sw nw ca cl cc), .pointer (some ⟨w.heap.size, 0, none⟩), .slice (some ⟨w.heap.size + 1, 0, none⟩) 1 1, .slice (some ⟨g, 0, none⟩) (j + 1) cap, .int .i64 ((j : Int) + 1), u 23] : List Value).getD k undef, ?_, ⟨d', rfl⟩, hown, hg, hat, hlt⟩
  have hc : ((j + 1 : Nat) : Int) = (j : Int) + 1 := by simp
  simp only [hd40, body40, Try.f40, hc]
  rfl

set_option maxHeartbeats 8000000 in
set_option maxRecDepth 100000 in
theorem walkers_out (sw nw n wc : Nat) (pv fv : Value) (wa : Option Addr) (u : Nat → Value) (c : Frame) (cs : List Frame) (w : World) :
    Walk Try.prog main (DR V) (fun g w' => g = G (c.finish (.slice wa n wc)) cs ∧ ∃ d, w' = w.at d) (G (hd40 sw nw pv fv wa wc n n u) (c :: cs)) w := by
  unfold hd40
  simp only [body40, rest40, Try.f40]
  repeat (first | (refine Walk.c rfl ?_) | (refine Walk.cReg ?_; simp only [List.size_toArray, List.length_cons, List.length_nil, Nat.reduceAdd, Nat.zero_add, List.range, List.range.loop]) | (refine Walk.cRet ?_) | (refine Walk.cEnd ?_) | (refine Walk.opq (ho_of (by conv => lhs; whnf) (by kernel_rfl)) (by rfl) (by decide) (fun dd e he => ?_) (fun dd K hK => ?_); (· (simp [go_sem, *] at he; try (subst he; exact evR_read _ _))); go_simp; refine hK _ ?_; clear hK K; try walk_nrm) | (refine Walk.ctl rfl (fun w => stepG_unwanted (ho_of (by conv => lhs; whnf) (by kernel_rfl)) (by rfl)) ?_; walk_nrm))
  exact (Walk.ret1 (Post := fun v w' => v = .slice wa n wc ∧ ∃ d, w' = w.at d) rfl rfl Try.func40 rfl fun d => ⟨rfl, d, rfl⟩).mono fun g w' ⟨v, ⟨hv, hd⟩, hg⟩ => ⟨by rw [hg, hv], hd⟩
end Go.Proofs.Ytgiiicdpbdfemaa
end

/- Package turn's Play: newWalkers' contract. -/
section
namespace Go.Proofs.Ytgiiicdpbdfemaa
open Go.Conc Go.RowKit Go.Relay
open Go.ConcN (upd upd_ne upd_same)

variable {main : Bool} {V : Nat → Option Wait}

/-- The walkers that have been made: their blocks, each with the words and its codes. -/
structure Made (sw nw : Nat) (l : List (Option Addr × Nat × Nat)) (w0 w : World) (wa : Option Addr) (wc j : Nat) (Ws : List Nat) : Prop where
  old : Old w0 w
  len : Ws.length = j
  row : w.ownsRow w0.heap.size 91 1 (.slice wa j wc) j (Ws.map fun W => Value.pointer (some ⟨W, 0, none⟩))
  at_ : ∀ (i W : Nat) (p : Option Addr × Nat × Nat), Ws[i]? = some W → l[i]? = some p → w.heap[W]? = some (.cells (wkCells sw nw p.1 p.2.1 p.2.2) 156)
  lo : ∀ W ∈ Ws, w0.heap.size ≤ W ∧ W < w.heap.size
  nodup : Ws.Nodup

theorem walkers_loop (sw nw fb fc : Nat) (pv : Value) (l : List (Option Addr × Nat × Nat)) (hn : l.length ≤ 64) (w0 : World) (hl : ∀ j p, l[j]? = some p → w0.cell? ⟨fb, j, none⟩ = some (.slice p.1 p.2.1 p.2.2)) (hA : ∀ b, w0.heap.size ≤ b → Apart V b) (c : Frame) (cs : List Frame) :
    ∀ (r j : Nat) (wa : Option Addr) (wc : Nat) (Ws : List Nat) (u : Nat → Value) (w : World), j + r = l.length → Made sw nw l w0 w wa wc j Ws →
    Walk Try.prog main (DR V) (fun g w' => ∃ wa' wc' Ws', g = G (c.finish (.slice wa' l.length wc')) cs ∧ Made sw nw l w0 w' wa' wc' l.length Ws') (G (hd40 sw nw pv (.slice (some ⟨fb, 0, none⟩) l.length fc) wa wc l.length j u) (c :: cs)) w := by
  intro r
  induction r with
  | zero =>
    intro j wa wc Ws u w hj M
    have hj : j = l.length := hj
    subst hj
    refine (walkers_out sw nw l.length wc pv _ wa u c cs w).mono ?_
    rintro g w' ⟨rfl, d, rfl⟩
    exact ⟨wa, wc, Ws, rfl, ⟨⟨M.old.size, M.old.same⟩, M.len, M.row, M.at_, M.lo, M.nodup⟩⟩
  | succ r ih =>
    intro j wa wc Ws u w hj M
    have hjl : j < l.length := by omega
    have hx := List.getElem?_eq_getElem hjl
    generalize l[j] = p at hx
    have hc := hl j p hx
    have hfb : w.cell? ⟨fb, j, none⟩ = some (.slice p.1 p.2.1 p.2.2) := (World.cell?_of_block (a := ⟨fb, j, none⟩) (M.old.same fb (cell_lt w0 hc))).trans hc
    refine (walkers_go sw nw pv fb l.length fc wc j w0.heap.size wa p.1 p.2.1 p.2.2 _ u (c :: cs) w hjl hn hfb M.row M.old.size (fun g hg => hA g (M.row.lt g hg).1)).then ?_
    rintro g' w1 ⟨g, cap, w3, u', rfl, ⟨d, rfl⟩, hown, hg, hat, hlt⟩
    refine Walk.back ?_ d
    have hs2 : (wkW w sw nw p.1 p.2.1 p.2.2).heap.size = w.heap.size + 2 := by simp [wkW]
    have hrow : ∀ b, (Value.slice wa j wc).ownBlock = some b → w0.heap.size ≤ b ∧ b < w.heap.size ∧ ∀ W ∈ Ws, W ≠ b := fun b hb => by
      refine ⟨(M.row.lt b hb).1, (M.row.lt b hb).2, fun W hW e => ?_⟩
      subst e
      obtain ⟨i, hi⟩ := List.getElem?_of_mem hW
      have hil : i < l.length := by
        have := (List.getElem?_eq_some_iff.1 hi).1
        have := M.len
        omega
      have h1 := M.at_ i W _ hi (List.getElem?_eq_getElem hil)
      rcases M.row.2 with ⟨hv, _⟩ | ⟨gg, cc, cur, hv, _, hh, _⟩
      · rw [hv] at hb; simp [Value.ownBlock] at hb
      · rw [hv] at hb
        simp only [Value.ownBlock, Option.some.injEq] at hb
        subst hb
        rw [h1] at hh
        cases hh
    have hkeep : ∀ b, b < w.heap.size → (Value.slice wa j wc).ownBlock ≠ some b → w3.heap[b]? = w.heap[b]? := fun b hb hne =>
      (hg.block b (by omega) (fun e => hne e.symm)).trans ((heap_new_lt _ _ (by simp; omega)).trans (heap_new_lt w _ hb))
    have hnew : w3.heap[w.heap.size]? = some (.cells (wkCells sw nw p.1 p.2.1 p.2.2) 156) := by
      refine (hg.block w.heap.size (by omega) (fun e => ?_)).trans ((heap_new_lt _ _ (by simp)).trans (heap_alloc_new w _))
      have := (hrow _ e.symm).2.1
      omega
    have hs3 : w.heap.size + 2 ≤ w3.heap.size := hs2 ▸ hg.size
    refine ih (j + 1) (some ⟨g, 0, none⟩) cap (Ws ++ [w.heap.size]) u' w3 (by omega) ⟨⟨by have := M.old.size; omega, fun b hb => ?_⟩, by simp [M.len], by simpa using hown, fun i W q hW hq => ?_, fun W hW => ?_, ?_⟩
    · refine (hkeep b (by have := M.old.size; omega) (fun e => ?_)).trans (M.old.same b hb)
      have := (hrow b e).1
      omega
    · by_cases hi : i < Ws.length
      · rw [List.getElem?_append_left hi] at hW
        have hWm := List.mem_of_getElem? hW
        exact (hkeep W (M.lo W hWm).2 (fun e => (hrow W e).2.2 W hWm rfl)).trans (M.at_ i W q hW hq)
      · rw [List.getElem?_append_right (by omega)] at hW
        have hi0 : i - Ws.length = 0 := by
          have := (List.getElem?_eq_some_iff.1 hW).1
          simp at this
          omega
        rw [hi0] at hW
        simp at hW
        subst hW
        have : i = j := by have := M.len; omega
        subst this
        rw [hx] at hq
        cases hq
        exact hnew
    · rcases List.mem_append.1 hW with h | h
      · have := M.lo W h; omega
      · have := List.mem_singleton.1 h
        have := M.old.size
        omega
    · rw [List.nodup_append]
      refine ⟨M.nodup, by simp, fun a ha b hb e => ?_⟩
      have h1 := (M.lo a ha).2
      have h2 := List.mem_singleton.1 hb
      omega

/-- newWalkers: a walker for each of the first programs. -/
theorem newWalkers_w (sw nw fb fc : Nat) (pv : Value) (l : List (Option Addr × Nat × Nat)) (hn : l.length ≤ 64) (w : World) (hp : CallV Try.prog main V 70 #[pv] w (.slice (some ⟨fb, 0, none⟩) l.length fc) w) (hl : ∀ j p, l[j]? = some p → w.cell? ⟨fb, j, none⟩ = some (.slice p.1 p.2.1 p.2.2)) (hA : ∀ b, w.heap.size ≤ b → Apart V b) :
    CallW Try.prog main V 40 #[.slice (some ⟨sw, 0, none⟩) nw nw, pv] w (fun v w' => ∃ wa wc Ws, v = .slice wa l.length wc ∧ Made sw nw l w w' wa wc l.length Ws) := by
  intro fr cs
  refine (walkers_in sw nw pv (some ⟨fb, 0, none⟩) l.length fc (fr :: cs) w hp).then ?_
  rintro g w1 ⟨rfl, d, rfl⟩
  refine Walk.back ?_ d
  refine (walkers_loop sw nw fb fc pv l hn w hl hA fr cs l.length 0 none 0 [] (fun _ => undef) w (by omega) ⟨Old.refl w, rfl, World.ownsRow_nil .., fun i W p h => by simp at h, fun W h => by simp at h, List.nodup_nil⟩).mono ?_
  rintro g w2 ⟨wa, wc, Ws, rfl, M⟩
  exact ⟨_, ⟨wa, wc, Ws, rfl, M⟩, rfl⟩
end Go.Proofs.Ytgiiicdpbdfemaa
end

/- Package turn's Play: the threads, and Over. -/
section
namespace Go.Proofs.Ytgiiicdpbdfemaa
open Go.Conc Go.RowKit Go.Relay
open Go.ConcN (upd upd_ne upd_same)

variable {main : Bool} {V : Nat → Option Wait}

set_option maxHeartbeats 8000000 in
set_option maxRecDepth 100000 in
theorem play_go (wv pv sv : Value) (most : Int) (T sw nw wb wc tb n j W : Nat) (y : Value) (u : Nat → Value) (cs : List Frame) (w : World) (hj : j < n) (hn : n ≤ 64) (hp : w.cell? ⟨wb, j, none⟩ = some (.pointer (some ⟨W, 0, none⟩))) (hy : w.cell? ⟨tb, j, none⟩ = some y) (hz : w.frozen? ⟨tb, j, none⟩ = false) (hf : Free V ⟨tb, j, none⟩) :
    Walk Try.prog main (DR V) (fun g w' => (∃ u', g = G (hd14 wv pv sv most T sw nw wb wc tb n (j + 1) u') cs) ∧ ∃ d, w' = (w.setCell ⟨tb, j, none⟩ (.func (.func 41) #[.pointer (some ⟨W, 0, none⟩)] #[])).at d) (G (hd14 wv pv sv most T sw nw wb wc tb n j u) cs) w := by
  have hst : ∀ d, (store ⟨tb, j, none⟩ (.func (.func 41) #[.pointer (some ⟨W, 0, none⟩)] #[])).run Try.prog (w.at d) = .ok () ((w.setCell ⟨tb, j, none⟩ (.func (.func 41) #[.pointer (some ⟨W, 0, none⟩)] #[])).at d) := fun d => by
    have hy' : (w.at d).cell? ⟨tb, j, none⟩ = some y := hy
    have hz' : (w.at d).frozen? ⟨tb, j, none⟩ = false := hz
    rw [run_store Try.prog (w.at d) _ _ _ rfl, hy']
    simp only [hz', Bool.false_eq_true, if_false]
    rfl
  have hse : ∀ d es, (store ⟨tb, j, none⟩ (.func (.func 41) #[.pointer (some ⟨W, 0, none⟩)] #[])).events Try.prog (w.at d) es = es.push ⟨.cell ⟨tb, j, none⟩, true, false⟩ := fun d es => by
    have hy' : (w.at d).cell? ⟨tb, j, none⟩ = some y := hy
    have hz' : (w.at d).frozen? ⟨tb, j, none⟩ = false := hz
    rw [events_store Try.prog (w.at d) es _ _ _ rfl, hy']
    simp only [hz', Bool.false_eq_true, if_false]
    rfl
  have hw1 : IntKind.wrap .i64 ((j : Int) + 1) = (j : Int) + 1 := by rw [IntKind.wrap_i64]; omega
  conv => arg 5; unfold hd14; simp only [body14, Try.f14]
  repeat (first | (refine Walk.c rfl ?_) | (refine Walk.cReg ?_; simp only [List.size_toArray, List.length_cons, List.length_nil, Nat.reduceAdd, Nat.zero_add, List.range, List.range.loop]) | (refine Walk.cRet ?_) | (refine Walk.cEnd ?_) | (refine Walk.opq (ho_of (by conv => lhs; whnf) (by kernel_rfl)) (by rfl) (by decide) (fun dd e he => ?_) (fun dd K hK => ?_); (· (simp [go_sem, *] at he; try (subst he; exact evR_read _ _))); go_simp; refine hK _ ?_; clear hK K; try walk_nrm) | (refine Walk.ctl rfl (fun w => stepG_unwanted (ho_of (by conv => lhs; whnf) (by kernel_rfl)) (by rfl)) ?_; walk_nrm))
  refine Walk.opw (W := w.setCell ⟨tb, j, none⟩ (.func (.func 41) #[.pointer (some ⟨W, 0, none⟩)] #[])) rfl (by rfl) (by decide) (fun dd e he => ?_) (fun dd es hes => DR.set' hf hy dd es hes) (fun dd K hK => ?_)
  · simp [go_sem, storedEv, *] at he
    subst he
    exact evR_write _ _ hf
  · go_simp
    try rw [hst dd]
    refine hK _ ?_
    clear hK K hst hse
    try walk_nrm
    repeat (first | (refine Walk.c rfl ?_) | (refine Walk.cReg ?_; simp only [List.size_toArray, List.length_cons, List.length_nil, Nat.reduceAdd, Nat.zero_add, List.range, List.range.loop]) | (refine Walk.cRet ?_) | (refine Walk.cEnd ?_) | (refine Walk.opq (ho_of (by conv => lhs; whnf) (by kernel_rfl)) (by rfl) (by decide) (fun dd e he => ?_) (fun dd K hK => ?_); (· (simp [go_sem, *] at he; try (subst he; exact evR_read _ _))); go_simp; refine hK _ ?_; clear hK K; try walk_nrm) | (refine Walk.ctl rfl (fun w => stepG_unwanted (ho_of (by conv => lhs; whnf) (by kernel_rfl)) (by rfl)) ?_; walk_nrm))
    refine Walk.ctl rfl (fun w => stepG_inLoop) ?_
    refine .stop fun d' => ⟨⟨fun k => ([undef, undef, undef, undef, undef, undef, undef, undef, undef, undef, undef, undef, .int .i64 j, .pointer (some ⟨W, 0, none⟩), undef, undef, undef, undef, undef, undef, undef, undef, undef, undef, undef, undef, undef, undef, .bool true, .int .i64 j, .pointer (some ⟨wb, j, none⟩), .pointer (some ⟨W, 0, none⟩), .slice (some ⟨tb, 0, none⟩) n n, .int .i64 j, .pointer (some ⟨W, 0, none⟩), .func (.func 41) #[.pointer (some ⟨W, 0, none⟩)] #[], .pointer (some ⟨tb, j, none⟩), .int .i64 ((j : Int) + 1), u 38, u 39, u 40, u 41, u 42, u 43, u 44, u 45, u 46, u 47, u 48, u 49, u 50, u 51, u 52] : List Value).getD k undef, ?_⟩, d', rfl⟩
    have hc : ((j + 1 : Nat) : Int) = (j : Int) + 1 := by simp
    simp only [hd14, body14, Try.f14, hc]
    rfl
end Go.Proofs.Ytgiiicdpbdfemaa
end

/- Package turn's Play: values. -/
section
namespace Go.Proofs.Ytgiiicdpbdfemaa
open Go.Conc Go.RowKit Go.Relay
open Go.ConcN (upd upd_ne upd_same)

variable {main : Bool} {V : Nat → Option Wait}

noncomputable def body43 : Code := match Try.f43.body with | some (.seq _ (.seq _ (.seq (.seq _ (.block _ (.loop c))) _))) => c | _ => .skip
noncomputable def rest43 : Code := match Try.f43.body with | some (.seq _ (.seq _ (.seq _ c))) => c | _ => .skip
noncomputable def hd43 (sw q n j : Nat) (u : Nat → Value) : Frame :=
  (base 43).at { tmps := #[.slice (some ⟨sw, 0, none⟩) n n, undef, .slice none 0 0, .slice (some ⟨q, 0, none⟩) n n, u 4, .slice (some ⟨sw, 0, none⟩) n n, .int .i64 n, .slice (some ⟨q, 0, none⟩) n n, .slice (some ⟨sw, 0, none⟩) n n, .int .i64 n, .int .i64 j, u 11, u 12, u 13, u 14, u 15, u 16, u 17, u 18, u 19, u 20, u 21], defers := [] } [.code body43, .inLoop body43, .inBlock 0, .code rest43]

set_option maxHeartbeats 8000000 in
set_option maxRecDepth 100000 in
theorem values_in (sw n : Nat) (cs : List Frame) (w : World) (hn : n ≤ 1048576) :
    Walk Try.prog main (DR V) (fun g w' => g = G (hd43 sw w.heap.size n 0 (fun _ => undef)) cs ∧ ∃ d, w' = (w.alloc (.cells (madeCells #[.int .i64 0] n) 2)).at d) (G (Frame.enter Try.prog 43 #[.slice (some ⟨sw, 0, none⟩) n n] .normal) cs) w := by
  rw [enter_at _ Try.func43 rfl]
  simp only [Try.f43, List.size_toArray, List.length_cons, List.length_nil, Nat.reduceAdd, Nat.reduceSub, Array.replicate_succ, Array.replicate_zero, List.push_toArray, List.append_toArray, List.nil_append, List.cons_append]
  repeat (first | (refine Walk.c rfl ?_) | (refine Walk.cReg ?_; simp only [List.size_toArray, List.length_cons, List.length_nil, Nat.reduceAdd, Nat.zero_add, List.range, List.range.loop]) | (refine Walk.cRet ?_) | (refine Walk.cEnd ?_) | (refine Walk.opq (ho_of (by conv => lhs; whnf) (by kernel_rfl)) (by rfl) (by decide) (fun dd e he => ?_) (fun dd K hK => ?_); (· (simp [go_sem, *] at he; try (subst he; exact evR_read _ _))); go_simp; refine hK _ ?_; clear hK K; try walk_nrm) | (refine Walk.ctl rfl (fun w => stepG_unwanted (ho_of (by conv => lhs; whnf) (by kernel_rfl)) (by rfl)) ?_; walk_nrm))
  have hi2 := Option.some_get (show (Try.prog.info? 2).isSome = true by kernel_rfl)
  refine Walk.make 22 (.tmp 6) (.tmp 6) rfl (by rfl) (by decide) rfl 2 _ (.int .i64 0) 1 8 (by kernel_rfl) hi2.symm (by kernel_rfl) (by kernel_rfl) (by kernel_rfl) n rfl rfl (by omega) hn ?_
  clear hi2
  walk_nrm
  simp only [Value.cells, Nat.mul_one]
  repeat (first | (refine Walk.c rfl ?_) | (refine Walk.cReg ?_; simp only [List.size_toArray, List.length_cons, List.length_nil, Nat.reduceAdd, Nat.zero_add, List.range, List.range.loop]) | (refine Walk.cRet ?_) | (refine Walk.cEnd ?_) | (refine Walk.opq (ho_of (by conv => lhs; whnf) (by kernel_rfl)) (by rfl) (by decide) (fun dd e he => ?_) (fun dd K hK => ?_); (· (simp [go_sem, *] at he; try (subst he; exact evR_read _ _))); go_simp; refine hK _ ?_; clear hK K; try walk_nrm) | (refine Walk.ctl rfl (fun w => stepG_unwanted (ho_of (by conv => lhs; whnf) (by kernel_rfl)) (by rfl)) ?_; walk_nrm))
  refine Walk.ctl rfl (fun w => stepG_loop) ?_
  refine .stop fun d => ⟨?_, d, rfl⟩
  simp only [hd43, body43, rest43, Try.f43]
  rfl

set_option maxHeartbeats 8000000 in
set_option maxRecDepth 100000 in
theorem values_go (sw q n j : Nat) (x : Int) (y : Value) (u : Nat → Value) (cs : List Frame) (w : World) (hj : j < n) (hn : n ≤ 1048576) (hx : w.cell? ⟨sw, j, none⟩ = some (.int .i64 x)) (hy : w.cell? ⟨q, j, none⟩ = some y) (hz : w.frozen? ⟨q, j, none⟩ = false) (hf : Free V ⟨q, j, none⟩) :
    Walk Try.prog main (DR V) (fun g w' => (∃ u', g = G (hd43 sw q n (j + 1) u') cs) ∧ ∃ d, w' = (w.setCell ⟨q, j, none⟩ (.int .i64 x)).at d) (G (hd43 sw q n j u) cs) w := by
  have hw1 : IntKind.wrap .i64 ((j : Int) + 1) = (j : Int) + 1 := by rw [IntKind.wrap_i64]; omega
  conv => arg 5; unfold hd43; simp only [body43, Try.f43]
  repeat (first | (refine Walk.c rfl ?_) | (refine Walk.cReg ?_; simp only [List.size_toArray, List.length_cons, List.length_nil, Nat.reduceAdd, Nat.zero_add, List.range, List.range.loop]) | (refine Walk.cRet ?_) | (refine Walk.cEnd ?_) | (refine Walk.opq (ho_of (by conv => lhs; whnf) (by kernel_rfl)) (by rfl) (by decide) (fun dd e he => ?_) (fun dd K hK => ?_); (· (simp [go_sem, *] at he; try (subst he; exact evR_read _ _))); go_simp; refine hK _ ?_; clear hK K; try walk_nrm) | (refine Walk.ctl rfl (fun w => stepG_unwanted (ho_of (by conv => lhs; whnf) (by kernel_rfl)) (by rfl)) ?_; walk_nrm))
  refine Walk.callV (x := .int .i64 x) (W := w) ?_ rfl (by rfl) (by decide) rfl Try.func63 (by kernel_rfl) (by rfl) ?_
  · walk_nrm
    exact load63 _ x w hx
  walk_nrm
  repeat (first | (refine Walk.c rfl ?_) | (refine Walk.cReg ?_; simp only [List.size_toArray, List.length_cons, List.length_nil, Nat.reduceAdd, Nat.zero_add, List.range, List.range.loop]) | (refine Walk.cRet ?_) | (refine Walk.cEnd ?_) | (refine Walk.opq (ho_of (by conv => lhs; whnf) (by kernel_rfl)) (by rfl) (by decide) (fun dd e he => ?_) (fun dd K hK => ?_); (· (simp [go_sem, *] at he; try (subst he; exact evR_read _ _))); go_simp; refine hK _ ?_; clear hK K; try walk_nrm) | (refine Walk.ctl rfl (fun w => stepG_unwanted (ho_of (by conv => lhs; whnf) (by kernel_rfl)) (by rfl)) ?_; walk_nrm))
  (co_applyP Walk.opw (ho_of (by conv => lhs; whnf) (by kernel_rfl)) (by rfl) (by decide) ?wev1 ?wdr1 ?wrun1; (case' wrun1 => (intro dd K hK; go_simp; simp only [alloc_at', setCell_at']; refine hK _ ?wmore1; clear hK K)); (case wdr1 => exact fun dd es hes => DR.set' hf hy dd es hes); (case wev1 => (intro dd e he; simp [go_sem, storedEv, ev_store_bool, ev_store_int, ev_store_slice, ev_store_pointer, *] at he; subst he; exact evR_write _ _ hf)); try walk_nrm)
  repeat (first | (refine Walk.c rfl ?_) | (refine Walk.cReg ?_; simp only [List.size_toArray, List.length_cons, List.length_nil, Nat.reduceAdd, Nat.zero_add, List.range, List.range.loop]) | (refine Walk.cRet ?_) | (refine Walk.cEnd ?_) | (refine Walk.opq (ho_of (by conv => lhs; whnf) (by kernel_rfl)) (by rfl) (by decide) (fun dd e he => ?_) (fun dd K hK => ?_); (· (simp [go_sem, *] at he; try (subst he; exact evR_read _ _))); go_simp; refine hK _ ?_; clear hK K; try walk_nrm) | (refine Walk.ctl rfl (fun w => stepG_unwanted (ho_of (by conv => lhs; whnf) (by kernel_rfl)) (by rfl)) ?_; walk_nrm))
  refine Walk.ctl rfl (fun w => stepG_inLoop) ?_
  refine .stop fun d' => ⟨⟨fun k => ([undef, undef, undef, undef, .int .i64 j, undef, undef, undef, undef, undef, undef, .bool true, .int .i64 j, .slice (some ⟨q, 0, none⟩) n n, .int .i64 j, .slice (some ⟨sw, 0, none⟩) n n, .int .i64 j, .pointer (some ⟨sw, j, none⟩), .int .i64 x, .pointer (some ⟨q, j, none⟩), .int .i64 ((j : Int) + 1), u 21] : List Value).getD k undef, ?_⟩, d', rfl⟩
  have hc : ((j + 1 : Nat) : Int) = (j : Int) + 1 := by simp
  simp only [hd43, body43, Try.f43, hc]
  rfl

set_option maxHeartbeats 8000000 in
set_option maxRecDepth 100000 in
theorem values_out (sw q n : Nat) (u : Nat → Value) (c : Frame) (cs : List Frame) (w : World) :
    Walk Try.prog main (DR V) (fun g w' => g = G (c.finish (.slice (some ⟨q, 0, none⟩) n n)) cs ∧ ∃ d, w' = w.at d) (G (hd43 sw q n n u) (c :: cs)) w := by
  unfold hd43
  simp only [body43, rest43, Try.f43]
  repeat (first | (refine Walk.c rfl ?_) | (refine Walk.cReg ?_; simp only [List.size_toArray, List.length_cons, List.length_nil, Nat.reduceAdd, Nat.zero_add, List.range, List.range.loop]) | (refine Walk.cRet ?_) | (refine Walk.cEnd ?_) | (refine Walk.opq (ho_of (by conv => lhs; whnf) (by kernel_rfl)) (by rfl) (by decide) (fun dd e he => ?_) (fun dd K hK => ?_); (· (simp [go_sem, *] at he; try (subst he; exact evR_read _ _))); go_simp; refine hK _ ?_; clear hK K; try walk_nrm) | (refine Walk.ctl rfl (fun w => stepG_unwanted (ho_of (by conv => lhs; whnf) (by kernel_rfl)) (by rfl)) ?_; walk_nrm))
  exact (Walk.ret1 (Post := fun v w' => v = .slice (some ⟨q, 0, none⟩) n n ∧ ∃ d, w' = w.at d) rfl rfl Try.func43 rfl fun d => ⟨rfl, d, rfl⟩).mono fun g w' ⟨v, ⟨hv, hd⟩, hg⟩ => ⟨by rw [hg, hv], hd⟩
end Go.Proofs.Ytgiiicdpbdfemaa
end

/- Package turn's Play: told. -/
section
namespace Go.Proofs.Ytgiiicdpbdfemaa
open Go.Conc Go.RowKit Go.Relay
open Go.ConcN (upd upd_ne upd_same)

variable {main : Bool} {V : Nat → Option Wait}

noncomputable def body42 : Code := match Try.f42.body with | some (.seq _ (.seq _ (.seq (.seq _ (.block _ (.loop c))) _))) => c | _ => .skip
noncomputable def rest42 : Code := match Try.f42.body with | some (.seq _ (.seq _ (.seq _ c))) => c | _ => .skip
noncomputable def hd42 (wa : Option Addr) (cap q n j : Nat) (u : Nat → Value) : Frame :=
  (base 42).at { tmps := #[.slice wa n cap, undef, .slice none 0 0, .slice (some ⟨q, 0, none⟩) n n, u 4, u 5, .slice wa n cap, .int .i64 n, .slice (some ⟨q, 0, none⟩) n n, .slice wa n cap, .int .i64 n, .int .i64 j, u 12, u 13, u 14, u 15, u 16, u 17, u 18, u 19, u 20, u 21, u 22, u 23, u 24], defers := [] } [.code body42, .inLoop body42, .inBlock 0, .code rest42]

set_option maxHeartbeats 8000000 in
set_option maxRecDepth 100000 in
theorem told_in (wa : Option Addr) (cap n : Nat) (cs : List Frame) (w : World) (hn : n ≤ 1048576) :
    Walk Try.prog main (DR V) (fun g w' => g = G (hd42 wa cap w.heap.size n 0 (fun _ => undef)) cs ∧ ∃ d, w' = (w.alloc (.cells (madeCells #[.slice none 0 0] n) 36)).at d) (G (Frame.enter Try.prog 42 #[.slice wa n cap] .normal) cs) w := by
  rw [enter_at _ Try.func42 rfl]
  simp only [Try.f42, List.size_toArray, List.length_cons, List.length_nil, Nat.reduceAdd, Nat.reduceSub, Array.replicate_succ, Array.replicate_zero, List.push_toArray, List.append_toArray, List.nil_append, List.cons_append]
  repeat (first | (refine Walk.c rfl ?_) | (refine Walk.cReg ?_; simp only [List.size_toArray, List.length_cons, List.length_nil, Nat.reduceAdd, Nat.zero_add, List.range, List.range.loop]) | (refine Walk.cRet ?_) | (refine Walk.cEnd ?_) | (refine Walk.opq (ho_of (by conv => lhs; whnf) (by kernel_rfl)) (by rfl) (by decide) (fun dd e he => ?_) (fun dd K hK => ?_); (· (simp [go_sem, *] at he; try (subst he; exact evR_read _ _))); go_simp; refine hK _ ?_; clear hK K; try walk_nrm) | (refine Walk.ctl rfl (fun w => stepG_unwanted (ho_of (by conv => lhs; whnf) (by kernel_rfl)) (by rfl)) ?_; walk_nrm))
  have hi36 := Option.some_get (show (Try.prog.info? 36).isSome = true by kernel_rfl)
  refine Walk.make 26 (.tmp 7) (.tmp 7) rfl (by rfl) (by decide) rfl 36 _ (.slice none 0 0) 1 24 (by kernel_rfl) hi36.symm (by kernel_rfl) (by kernel_rfl) (by kernel_rfl) n rfl rfl (by omega) hn ?_
  clear hi36
  walk_nrm
  simp only [Value.cells, Nat.mul_one]
  repeat (first | (refine Walk.c rfl ?_) | (refine Walk.cReg ?_; simp only [List.size_toArray, List.length_cons, List.length_nil, Nat.reduceAdd, Nat.zero_add, List.range, List.range.loop]) | (refine Walk.cRet ?_) | (refine Walk.cEnd ?_) | (refine Walk.opq (ho_of (by conv => lhs; whnf) (by kernel_rfl)) (by rfl) (by decide) (fun dd e he => ?_) (fun dd K hK => ?_); (· (simp [go_sem, *] at he; try (subst he; exact evR_read _ _))); go_simp; refine hK _ ?_; clear hK K; try walk_nrm) | (refine Walk.ctl rfl (fun w => stepG_unwanted (ho_of (by conv => lhs; whnf) (by kernel_rfl)) (by rfl)) ?_; walk_nrm))
  refine Walk.ctl rfl (fun w => stepG_loop) ?_
  refine .stop fun d => ⟨?_, d, rfl⟩
  simp only [hd42, body42, rest42, Try.f42]
  rfl

set_option maxHeartbeats 8000000 in
set_option maxRecDepth 100000 in
theorem told_go (wb cap q n j W : Nat) (ta : Option Addr) (tn tc : Nat) (y : Value) (u : Nat → Value) (cs : List Frame) (w : World) (hj : j < n) (hn : n ≤ 1048576) (hp : w.cell? ⟨wb, j, none⟩ = some (.pointer (some ⟨W, 0, none⟩))) (hx : w.cell? ⟨W, 6, none⟩ = some (.slice ta tn tc)) (hy : w.cell? ⟨q, j, none⟩ = some y) (hz : w.frozen? ⟨q, j, none⟩ = false) (hf : Free V ⟨q, j, none⟩) :
    Walk Try.prog main (DR V) (fun g w' => (∃ u', g = G (hd42 (some ⟨wb, 0, none⟩) cap q n (j + 1) u') cs) ∧ ∃ d, w' = (w.setCell ⟨q, j, none⟩ (.slice ta tn tc)).at d) (G (hd42 (some ⟨wb, 0, none⟩) cap q n j u) cs) w := by
  have hw1 : IntKind.wrap .i64 ((j : Int) + 1) = (j : Int) + 1 := by rw [IntKind.wrap_i64]; omega
  conv => arg 5; unfold hd42; simp only [body42, Try.f42]
  repeat (first | (refine Walk.c rfl ?_) | (refine Walk.cReg ?_; simp only [List.size_toArray, List.length_cons, List.length_nil, Nat.reduceAdd, Nat.zero_add, List.range, List.range.loop]) | (refine Walk.cRet ?_) | (refine Walk.cEnd ?_) | (refine Walk.opq (ho_of (by conv => lhs; whnf) (by kernel_rfl)) (by rfl) (by decide) (fun dd e he => ?_) (fun dd K hK => ?_); (· (simp [go_sem, *] at he; try (subst he; exact evR_read _ _))); go_simp; refine hK _ ?_; clear hK K; try walk_nrm) | (refine Walk.ctl rfl (fun w => stepG_unwanted (ho_of (by conv => lhs; whnf) (by kernel_rfl)) (by rfl)) ?_; walk_nrm))
  (co_applyP Walk.opw (ho_of (by conv => lhs; whnf) (by kernel_rfl)) (by rfl) (by decide) ?wev1 ?wdr1 ?wrun1; (case' wrun1 => (intro dd K hK; go_simp; simp only [alloc_at', setCell_at']; refine hK _ ?wmore1; clear hK K)); (case wdr1 => exact fun dd es hes => DR.set' hf hy dd es hes); (case wev1 => (intro dd e he; simp [go_sem, storedEv, ev_store_bool, ev_store_int, ev_store_slice, ev_store_pointer, *] at he; subst he; exact evR_write _ _ hf)); try walk_nrm)
  repeat (first | (refine Walk.c rfl ?_) | (refine Walk.cReg ?_; simp only [List.size_toArray, List.length_cons, List.length_nil, Nat.reduceAdd, Nat.zero_add, List.range, List.range.loop]) | (refine Walk.cRet ?_) | (refine Walk.cEnd ?_) | (refine Walk.opq (ho_of (by conv => lhs; whnf) (by kernel_rfl)) (by rfl) (by decide) (fun dd e he => ?_) (fun dd K hK => ?_); (· (simp [go_sem, *] at he; try (subst he; exact evR_read _ _))); go_simp; refine hK _ ?_; clear hK K; try walk_nrm) | (refine Walk.ctl rfl (fun w => stepG_unwanted (ho_of (by conv => lhs; whnf) (by kernel_rfl)) (by rfl)) ?_; walk_nrm))
  refine Walk.ctl rfl (fun w => stepG_inLoop) ?_
  refine .stop fun d' => ⟨⟨fun k => ([undef, undef, undef, undef, .int .i64 j, .pointer (some ⟨W, 0, none⟩), undef, undef, undef, undef, undef, undef, .bool true, .int .i64 j, .pointer (some ⟨wb, j, none⟩), .pointer (some ⟨W, 0, none⟩), .slice (some ⟨q, 0, none⟩) n n, .int .i64 j, .pointer (some ⟨W, 0, none⟩), .pointer (some ⟨W, 0, none⟩), .pointer (some ⟨W, 6, none⟩), .slice ta tn tc, .pointer (some ⟨q, j, none⟩), .int .i64 ((j : Int) + 1), u 24] : List Value).getD k undef, ?_⟩, d', rfl⟩
  have hc : ((j + 1 : Nat) : Int) = (j : Int) + 1 := by simp
  simp only [hd42, body42, Try.f42, hc]
  rfl

set_option maxHeartbeats 8000000 in
set_option maxRecDepth 100000 in
theorem told_out (wa : Option Addr) (cap q n : Nat) (u : Nat → Value) (c : Frame) (cs : List Frame) (w : World) :
    Walk Try.prog main (DR V) (fun g w' => g = G (c.finish (.slice (some ⟨q, 0, none⟩) n n)) cs ∧ ∃ d, w' = w.at d) (G (hd42 wa cap q n n u) (c :: cs)) w := by
  unfold hd42
  simp only [body42, rest42, Try.f42]
  repeat (first | (refine Walk.c rfl ?_) | (refine Walk.cReg ?_; simp only [List.size_toArray, List.length_cons, List.length_nil, Nat.reduceAdd, Nat.zero_add, List.range, List.range.loop]) | (refine Walk.cRet ?_) | (refine Walk.cEnd ?_) | (refine Walk.opq (ho_of (by conv => lhs; whnf) (by kernel_rfl)) (by rfl) (by decide) (fun dd e he => ?_) (fun dd K hK => ?_); (· (simp [go_sem, *] at he; try (subst he; exact evR_read _ _))); go_simp; refine hK _ ?_; clear hK K; try walk_nrm) | (refine Walk.ctl rfl (fun w => stepG_unwanted (ho_of (by conv => lhs; whnf) (by kernel_rfl)) (by rfl)) ?_; walk_nrm))
  exact (Walk.ret1 (Post := fun v w' => v = .slice (some ⟨q, 0, none⟩) n n ∧ ∃ d, w' = w.at d) rfl rfl Try.func42 rfl fun d => ⟨rfl, d, rfl⟩).mono fun g w' ⟨v, ⟨hv, hd⟩, hg⟩ => ⟨by rw [hg, hv], hd⟩
end Go.Proofs.Ytgiiicdpbdfemaa
end

/- Package turn's Play: the contracts of values and told. -/
section
namespace Go.Proofs.Ytgiiicdpbdfemaa
open Go.Conc Go.RowKit Go.Relay
open Go.ConcN (upd upd_ne upd_same)

variable {main : Bool} {V : Nat → Option Wait}

/-- A new row, written cell by cell: j of n cells are laid. -/
structure Laid (w0 w : World) (ty : TypeId) (n j : Nat) (f : Nat → Value) : Prop where
  old : Old w0 w
  lt : w0.heap.size < w.heap.size
  row : ∃ arr, w.heap[w0.heap.size]? = some (.cells arr ty (0, 0)) ∧ arr.size = n ∧ ∀ i, i < j → arr[i]? = some (f i)

theorem Laid.set {w0 w : World} {ty : TypeId} {n j : Nat} {f : Nat → Value} (H : Laid w0 w ty n j f) (hj : j < n) : Laid w0 (w.setCell ⟨w0.heap.size, j, none⟩ (f j)) ty n (j + 1) f := by
  obtain ⟨arr, h1, h2, h3⟩ := H.row
  refine ⟨⟨by rw [size_set]; exact H.old.size, fun b hb => (heap_set_other _ _ _ _ (by show b ≠ w0.heap.size; omega)).trans (H.old.same b hb)⟩, by rw [size_set]; exact H.lt, _, heap_set_self _ _ h1, by simpa using h2, fun i hi => ?_⟩
  by_cases e : i = j
  · subst e; rw [Array.getElem?_setIfInBounds_self_of_lt (by omega)]
  · rw [Array.getElem?_setIfInBounds_ne (Ne.symm e)]; exact h3 i (by omega)
theorem Laid.cell {w0 w : World} {ty : TypeId} {n j : Nat} {f : Nat → Value} (H : Laid w0 w ty n j f) {i : Nat} (hi : i < n) : (∃ y, w.cell? ⟨w0.heap.size, i, none⟩ = some y) ∧ w.frozen? ⟨w0.heap.size, i, none⟩ = false := by
  obtain ⟨arr, h1, h2, _⟩ := H.row
  exact ⟨⟨arr[i], (cell_of h1 i).trans (Array.getElem?_eq_getElem (by omega))⟩, frozen_of h1 i⟩
theorem Laid.new (w : World) (z : Value) (ty : TypeId) (n : Nat) (f : Nat → Value) : Laid w (w.alloc (.cells (madeCells #[z] n) ty)) ty n 0 f :=
  ⟨⟨by simp, fun b hb => heap_new_lt w _ hb⟩, by simp, _, heap_alloc_new w _, by simp [size_madeCells], fun i hi => absurd hi (Nat.not_lt_zero _)⟩
theorem Laid.at {w0 w : World} {ty : TypeId} {n j : Nat} {f : Nat → Value} (H : Laid w0 w ty n j f) (d : Nat) : Laid w0 (w.at d) ty n j f := ⟨⟨H.old.size, H.old.same⟩, H.lt, H.row⟩

theorem values_loop (sw n : Nat) (words : Nat → Int) (hn : n ≤ 1048576) (w0 : World) (hl : WsIs sw n words w0) (hA : Apart V w0.heap.size) (c : Frame) (cs : List Frame) : ∀ (r j : Nat) (u : Nat → Value) (w : World), j + r = n → Laid w0 w 2 n j (fun i => .int .i64 (words i)) →
    Walk Try.prog main (DR V) (fun g w' => g = G (c.finish (.slice (some ⟨w0.heap.size, 0, none⟩) n n)) cs ∧ Laid w0 w' 2 n n (fun i => .int .i64 (words i))) (G (hd43 sw w0.heap.size n j u) (c :: cs)) w := by
  intro r
  induction r with
  | zero =>
    intro j u w hj H
    have hj : j = n := hj
    subst hj
    refine (values_out sw w0.heap.size j u c cs w).mono ?_
    rintro g w' ⟨rfl, d, rfl⟩
    exact ⟨rfl, H.at d⟩
  | succ r ih =>
    intro j u w hj H
    have hjn : j < n := by omega
    obtain ⟨arr, ha, hb⟩ := hl
    have hx : w.cell? ⟨sw, j, none⟩ = some (.int .i64 (words j)) := (cell_of ((H.old.same sw (Array.getElem?_eq_some_iff.1 ha).1).trans ha) j).trans (hb j hjn)
    obtain ⟨⟨y, hy⟩, hz⟩ := H.cell hjn
    refine (values_go sw w0.heap.size n j (words j) y u (c :: cs) w hjn hn hx hy hz (hA.1 _ rfl)).then ?_
    rintro g w' ⟨⟨u', rfl⟩, d, rfl⟩
    exact Walk.back (ih (j + 1) u' _ (by omega) (H.set hjn)) d

theorem values_w (sw n : Nat) (words : Nat → Int) (hn : n ≤ 1048576) (w : World) (hl : WsIs sw n words w) (hA : Apart V w.heap.size) :
    CallW Try.prog main V 43 #[.slice (some ⟨sw, 0, none⟩) n n] w (fun v w' => v = .slice (some ⟨w.heap.size, 0, none⟩) n n ∧ Laid w w' 2 n n (fun i => .int .i64 (words i))) := by
  intro fr cs
  refine (values_in sw n (fr :: cs) w hn).then ?_
  rintro g w1 ⟨rfl, d, rfl⟩
  refine Walk.back ?_ d
  refine (values_loop sw n words hn w hl hA fr cs n 0 (fun _ => undef) _ (by omega) (Laid.new w _ 2 n _)).mono ?_
  rintro g w2 ⟨rfl, H⟩
  exact ⟨_, ⟨rfl, H⟩, rfl⟩

theorem told_loop (wb cap n : Nat) (Ws : Nat → Nat) (tv : Nat → Option Addr × Nat × Nat) (hn : n ≤ 1048576) (w0 : World) (hp : ∀ j, j < n → w0.cell? ⟨wb, j, none⟩ = some (.pointer (some ⟨Ws j, 0, none⟩))) (ht : ∀ j, j < n → w0.cell? ⟨Ws j, 6, none⟩ = some (.slice (tv j).1 (tv j).2.1 (tv j).2.2)) (hA : Apart V w0.heap.size) (c : Frame) (cs : List Frame) :
    ∀ (r j : Nat) (u : Nat → Value) (w : World), j + r = n → Laid w0 w 36 n j (fun i => .slice (tv i).1 (tv i).2.1 (tv i).2.2) →
    Walk Try.prog main (DR V) (fun g w' => g = G (c.finish (.slice (some ⟨w0.heap.size, 0, none⟩) n n)) cs ∧ Laid w0 w' 36 n n (fun i => .slice (tv i).1 (tv i).2.1 (tv i).2.2)) (G (hd42 (some ⟨wb, 0, none⟩) cap w0.heap.size n j u) (c :: cs)) w := by
  intro r
  induction r with
  | zero =>
    intro j u w hj H
    have hj : j = n := hj
    subst hj
    refine (told_out (some ⟨wb, 0, none⟩) cap w0.heap.size j u c cs w).mono ?_
    rintro g w' ⟨rfl, d, rfl⟩
    exact ⟨rfl, H.at d⟩
  | succ r ih =>
    intro j u w hj H
    have hjn : j < n := by omega
    have hx := (World.cell?_of_block (a := ⟨wb, j, none⟩) (H.old.same wb (cell_lt w0 (hp j hjn)))).trans (hp j hjn)
    have hy6 := (World.cell?_of_block (a := ⟨Ws j, 6, none⟩) (H.old.same (Ws j) (cell_lt w0 (ht j hjn)))).trans (ht j hjn)
    obtain ⟨⟨y, hy⟩, hz⟩ := H.cell hjn
    refine (told_go wb cap w0.heap.size n j (Ws j) (tv j).1 (tv j).2.1 (tv j).2.2 y u (c :: cs) w hjn hn hx hy6 hy hz (hA.1 _ rfl)).then ?_
    rintro g w' ⟨⟨u', rfl⟩, d, rfl⟩
    exact Walk.back (ih (j + 1) u' _ (by omega) (H.set hjn)) d

theorem told_w (wb cap n : Nat) (Ws : Nat → Nat) (tv : Nat → Option Addr × Nat × Nat) (hn : n ≤ 1048576) (w : World) (hp : ∀ j, j < n → w.cell? ⟨wb, j, none⟩ = some (.pointer (some ⟨Ws j, 0, none⟩))) (ht : ∀ j, j < n → w.cell? ⟨Ws j, 6, none⟩ = some (.slice (tv j).1 (tv j).2.1 (tv j).2.2)) (hA : Apart V w.heap.size) :
    CallW Try.prog main V 42 #[.slice (some ⟨wb, 0, none⟩) n cap] w (fun v w' => v = .slice (some ⟨w.heap.size, 0, none⟩) n n ∧ Laid w w' 36 n n (fun i => .slice (tv i).1 (tv i).2.1 (tv i).2.2)) := by
  intro fr cs
  refine (told_in (some ⟨wb, 0, none⟩) cap n (fr :: cs) w hn).then ?_
  rintro g w1 ⟨rfl, d, rfl⟩
  refine Walk.back ?_ d
  refine (told_loop wb cap n Ws tv hn w hp ht hA fr cs n 0 (fun _ => undef) _ (by omega) (Laid.new w _ 36 n _)).mono ?_
  rintro g w2 ⟨rfl, H⟩
  exact ⟨_, ⟨rfl, H⟩, rfl⟩
end Go.Proofs.Ytgiiicdpbdfemaa
end

/- Package turn's Play: from its beginning to Over's call. -/
section
namespace Go.Proofs.Ytgiiicdpbdfemaa
open Go.Conc Go.RowKit Go.Relay
open Go.ConcN (upd upd_ne upd_same)

variable {main : Bool} {V : Nat → Option Wait}

def thF (Ws : Nat → Nat) (i : Nat) : Value := .func (.func 41) #[.pointer (some ⟨Ws i, 0, none⟩)] #[]

theorem play_loop {Stop : Goroutine → World → Prop} (wv pv sv : Value) (most : Int) (T sw nw wb wc n : Nat) (Ws : Nat → Nat) (hn : n ≤ 64) (cs : List Frame) (w2 : World) (hp : ∀ j, j < n → w2.cell? ⟨wb, j, none⟩ = some (.pointer (some ⟨Ws j, 0, none⟩))) (hA : Apart V w2.heap.size)
    (hk : ∀ u w', Laid w2 w' 67 n n (thF Ws) → Walk Try.prog main (DR V) Stop (G (Frame.enter Try.prog 23 #[.slice (some ⟨w2.heap.size, 0, none⟩) n n, sv, .int .i64 most] .normal) (fr14 wv pv sv most T sw nw wb wc w2.heap.size n u :: cs)) w') :
    ∀ (r j : Nat) (u : Nat → Value) (w : World), j + r = n → Laid w2 w 67 n j (thF Ws) → Walk Try.prog main (DR V) Stop (G (hd14 wv pv sv most T sw nw wb wc w2.heap.size n j u) cs) w := by
  intro r
  induction r with
  | zero =>
    intro j u w hj H
    have hj : j = n := hj
    subst hj
    exact play_over wv pv sv most T sw nw wb wc w2.heap.size j u cs w fun u' => hk u' w H
  | succ r ih =>
    intro j u w hj H
    have hjn : j < n := by omega
    have hx := (World.cell?_of_block (a := ⟨wb, j, none⟩) (H.old.same wb (cell_lt w2 (hp j hjn)))).trans (hp j hjn)
    obtain ⟨⟨y, hy⟩, hz⟩ := H.cell hjn
    refine (play_go wv pv sv most T sw nw wb wc w2.heap.size n j (Ws j) y u cs w hjn hn hx hy hz (hA.1 _ rfl)).then ?_
    rintro g w' ⟨⟨u', rfl⟩, d, rfl⟩
    exact Walk.back (ih (j + 1) u' _ (by omega) (H.set (f := thF Ws) hjn)) d

/-- Play from its beginning to Over's call: the words, the walkers, the threads are laid. -/
theorem play_top {Stop : Goroutine → World → Prop} (wa : Option Addr) (cap fb fc : Nat) (pv sv : Value) (most : Int) (ws : List Int) (l : List (Option Addr × Nat × Nat)) (hws : ws.length ≤ 1048576) (hl64 : l.length ≤ 64) (cs : List Frame) (w : World) (hw : IntsAt wa ws w)
    (hp : ∀ w', Old w w' → CallV Try.prog main V 70 #[pv] w' (.slice (some ⟨fb, 0, none⟩) l.length fc) w') (hl : ∀ j p, l[j]? = some p → w.cell? ⟨fb, j, none⟩ = some (.slice p.1 p.2.1 p.2.2)) (hA : ∀ b, w.heap.size ≤ b → Apart V b)
    (hk : ∀ sw w1 wb wc Ws w2 u w3, w.heap.size < sw → Old w w1 → sw < w1.heap.size → WsIs sw ws.length (fun j => ws.getD j 0) w1 → Made sw ws.length l w1 w2 (some ⟨wb, 0, none⟩) wc l.length Ws → Laid w2 w3 67 l.length l.length (thF fun i => Ws.getD i 0) → w1.heap[w.heap.size]? = some (.cells #[.slice none 0 0, .slice none 0 0, .slice none 0 0, .bool false] 28) →
      Walk Try.prog main (DR V) Stop (G (Frame.enter Try.prog 23 #[.slice (some ⟨w2.heap.size, 0, none⟩) l.length l.length, sv, .int .i64 most] .normal) (fr14 (.slice wa ws.length cap) pv sv most w.heap.size sw ws.length wb wc w2.heap.size l.length u :: cs)) w3) (hl1 : 1 ≤ l.length) :
    Walk Try.prog main (DR V) Stop (G (Frame.enter Try.prog 14 #[.slice wa ws.length cap, pv, sv, .int .i64 most] .normal) cs) w := by
  have hold : Old w (w.alloc (.cells #[.slice none 0 0, .slice none 0 0, .slice none 0 0, .bool false] 28)) := ⟨by simp, fun b hb => heap_new_lt w _ hb⟩
  have hs1 : (w.alloc (.cells #[.slice none 0 0, .slice none 0 0, .slice none 0 0, .bool false] 28)).heap.size = w.heap.size + 1 := by simp
  refine play_in (.slice wa ws.length cap) pv sv most (w.heap.size + 1) ws.length (fun w1 => Old w w1 ∧ w.heap.size + 1 < w1.heap.size ∧ WsIs (w.heap.size + 1) ws.length (fun j => ws.getD j 0) w1 ∧ w1.heap[w.heap.size]? = some (.cells #[.slice none 0 0, .slice none 0 0, .slice none 0 0, .bool false] 28))
    (fun wb n wc w2 => ∃ w1 Ws, (Old w w1 ∧ w.heap.size + 1 < w1.heap.size ∧ WsIs (w.heap.size + 1) ws.length (fun j => ws.getD j 0) w1 ∧ w1.heap[w.heap.size]? = some (.cells #[.slice none 0 0, .slice none 0 0, .slice none 0 0, .bool false] 28)) ∧ n = l.length ∧ Made (w.heap.size + 1) ws.length l w1 w2 (some ⟨wb, 0, none⟩) wc l.length Ws) cs w ?_ ?_ ?_
  · intro fr cs'
    refine ((share_w (main := main) (V := V) wa cap ws hws _ (hw.old fun b hb => heap_new_lt w _ hb) (by rw [hs1]; exact hA _ (Nat.le_succ _))) fr cs').mono ?_
    rintro g w' ⟨v, ⟨hv, h1, h2, h3⟩, hg⟩
    rw [hs1] at hv h2 h3
    exact ⟨v, ⟨hv, hold.trans h1, h2, h3, (h1.same _ (by rw [hs1]; exact Nat.lt_succ_self _)).trans (heap_alloc_new w _)⟩, hg⟩
  · rintro w1 ⟨h1, h2, h3, h4⟩ fr cs'
    refine ((newWalkers_w (main := main) (V := V) (w.heap.size + 1) ws.length fb fc pv l hl64 w1 (hp w1 h1) (fun j p hj => (World.cell?_of_block (a := ⟨fb, j, none⟩) (h1.same fb (cell_lt w (hl j p hj)))).trans (hl j p hj)) (fun b hb => hA b (Nat.le_trans h1.size hb))) fr cs').mono ?_
    rintro g w' ⟨v, ⟨wa', wc, Ws, hv, M⟩, hg⟩
    obtain ⟨wb, rfl⟩ : ∃ wb, wa' = some ⟨wb, 0, none⟩ := by
      rcases M.row.2 with ⟨_, e⟩ | ⟨gg, cc, cur, e, _⟩
      · omega
      · cases e; exact ⟨gg, rfl⟩
    exact ⟨v, ⟨wb, l.length, wc, hv, ⟨w1, Ws, ⟨h1, h2, h3, h4⟩, rfl, M⟩, hl64⟩, hg⟩
  · rintro wb n wc w2 ⟨w1, Ws, ⟨h1, h2, h3, h4⟩, rfl, M⟩ hn
    refine play_loop (.slice wa ws.length cap) pv sv most w.heap.size (w.heap.size + 1) ws.length wb wc l.length (fun i => Ws.getD i 0) hn cs w2 (fun j hj => ?_) (hA _ (Nat.le_trans h1.size M.old.size)) (fun u w3 H => hk _ w1 wb wc Ws w2 u w3 (Nat.lt_succ_self _) h1 h2 h3 M H h4) l.length 0 _ _ (by omega) (Laid.new w2 _ 67 _ _)
    rcases M.row with ⟨_, ⟨_, e⟩ | ⟨gg, cc, cur, e, _, hh, hcap, _, hsz, ht⟩⟩
    · omega
    · cases e
      have hjw : j < Ws.length := by have := M.len; omega
      have h1 : (cur.toList.take (l.length * 1))[j]? = cur[j]? := by rw [List.getElem?_take, if_pos (by omega)]; simp
      rw [cell_of hh j, ← h1, ht, List.getElem?_map, List.getElem?_eq_getElem hjw]
      simp only [Option.map_some]
      rw [List.getD_eq_getElem?_getD, List.getElem?_eq_getElem hjw, Option.getD_some]
end Go.Proofs.Ytgiiicdpbdfemaa
end

/- Package turn's stand.Step, in company: to the send, from there to the receive, and what is done behind it. -/
section
namespace Go.Proofs.Ytgiiicdpbdfemaa
open Go.Conc Go.RowKit Go.Relay

variable {main : Bool} {V : Nat → Option Wait}

noncomputable def ops139 : Array Oper := match Try.f139.body with | some (.seq (.region _ ops _) _) => ops | _ => #[]
noncomputable def rest139 : Code := match Try.f139.body with | some (.seq _ c) => c | _ => .skip
noncomputable def ops139r : Array Oper := match rest139 with | .seq (.region _ ops _) _ => ops | _ => #[]
noncomputable def rest139r : Code := match rest139 with | .seq _ c => c | _ => .skip
/-- Where Step's send stands; and where its receive stands. -/
noncomputable def rec139s (p r : Nat) (cs : List Frame) : Goroutine :=
  G ((base 139).at { tmps := #[.pointer (some ⟨p, 0, none⟩), undef, undef, undef, .pointer (some ⟨p, 0, none⟩), .pointer (some ⟨p, 0, none⟩), .pointer (some ⟨p, 1, none⟩), .chan (some r), .agg #[], undef, undef, undef, undef, undef, undef, undef, undef, undef, undef, undef, undef], defers := [] } [.inRegion ops139 [5], .code rest139]) cs
noncomputable def rec139r (p r t : Nat) (cs : List Frame) : Goroutine :=
  G ((base 139).at { tmps := #[.pointer (some ⟨p, 0, none⟩), undef, undef, undef, .pointer (some ⟨p, 0, none⟩), .pointer (some ⟨p, 0, none⟩), .pointer (some ⟨p, 1, none⟩), .chan (some r), .agg #[], undef, .pointer (some ⟨p, 0, none⟩), .pointer (some ⟨p, 0, none⟩), .pointer (some ⟨p, 0, none⟩), .chan (some t), undef, undef, undef, undef, undef, undef, undef], defers := [] } [.inRegion ops139r [4, 5, 6, 7, 8, 9, 10], .code rest139r]) cs

set_option maxHeartbeats 4000000 in
set_option maxRecDepth 100000 in
/-- Into Step, up to its send. -/
theorem step_send {Stop : Goroutine → World → Prop} (p r : Nat) (cs : List Frame) (w : World) (h1 : w.cell? ⟨p, 1, none⟩ = some (.chan (some r))) (hk : Walk Try.prog main (DR V) Stop (rec139s p r cs) w) :
    Walk Try.prog main (DR V) Stop (G (Frame.enter Try.prog 139 #[.pointer (some ⟨p, 0, none⟩)] .normal) cs) w := by
  rw [enter_at _ Try.func139 rfl]
  unfold rec139s at hk
  simp only [ops139, rest139, Try.f139] at hk
  simp only [Try.f139, Option.getD_some, List.size_toArray, List.length_cons, List.length_nil, Nat.reduceAdd, Nat.reduceSub, Array.replicate_succ, Array.replicate_zero, List.push_toArray, List.append_toArray, List.nil_append, List.cons_append]
  repeat (first | (refine Walk.c rfl ?_) | (refine Walk.cReg ?_; simp only [List.size_toArray, List.length_cons, List.length_nil, Nat.reduceAdd, Nat.zero_add, List.range, List.range.loop]) | (refine Walk.cRet ?_) | (refine Walk.cEnd ?_) | (refine Walk.opq (ho_of (by conv => lhs; whnf) (by kernel_rfl)) (by rfl) (by decide) (fun dd e he => ?_) (fun dd K hK => ?_); (· (simp [go_sem, *] at he; try (subst he; exact evR_read _ _))); go_simp; refine hK _ ?_; clear hK K; try walk_nrm) | (refine Walk.ctl rfl (fun w => stepG_unwanted (ho_of (by conv => lhs; whnf) (by kernel_rfl)) (by rfl)) ?_; walk_nrm))
  exact hk

theorem send139 (p r : Nat) (cs : List Frame) (w : World) : ∃ z' es, (∀ e ∈ es, EvR V e) ∧ ∀ d, stepG Try.prog main (rec139s p r cs) (w.at d) = .comm (rec139s p r cs) #[scase r (.agg #[]) z'] true .send (w.at d) es := by
  refine ⟨.tuple #[], #[], by simp, fun d => ?_⟩
  unfold rec139s
  simp only [ops139, rest139, Try.f139]
  rw [stepG_comm (cases := #[scase r (.agg #[]) (.tuple #[])]) (blocking := true) (shape := .send) (w' := w.at d) rfl (by rfl) (by decide) (by simp [execOp, scase, Act.eval]), listed_none (by simp [go_sem, execOp, Act.eval])]

set_option maxHeartbeats 4000000 in
set_option maxRecDepth 100000 in
/-- Behind the send: on the way to the receive. -/
theorem way139 (p r t : Nat) (cs : List Frame) (v : Wait) (hch : v.ch = t) (hz : v.z = .agg #[]) (hok : v.ok = true) (hf : v.f ⟨p, 0, none⟩ = some (.chan (some t))) (hh : v.home (rec139r p r t cs)) : Yonder Try.prog main v (Go.Conc.served (rec139s p r cs) undef) := by
  unfold rec139r at hh
  simp only [ops139r, rest139r, rest139, Try.f139] at hh
  unfold rec139s
  rw [served_fr, Frame.finish_at]
  simp only [ops139, rest139, Try.f139]
  walk_nrm
  try (first | (refine Yonder.ctl rfl (fun w => stepG_seq) ?_) | (refine Yonder.ctl rfl (fun w => stepG_region) ?_; simp only [List.size_toArray, List.length_cons, List.length_nil, Nat.reduceAdd, Nat.zero_add, List.range, List.range.loop]) | (refine Yonder.ctl rfl (fun w => stepG_region_end) ?_) | (refine Yonder.ctl rfl (fun w => stepG_block) ?_) | (refine Yonder.ctl rfl (fun w => stepG_skip) ?_) | (refine Yonder.ctl rfl (fun w => stepG_inBlock) ?_) | (refine Yonder.ctl rfl (fun w => stepG_ret') ?_) | (refine Yonder.ctl rfl (fun w => stepG_end) ?_) | (refine Yonder.ctl rfl (fun w => stepG_exit rfl) ?_) | (refine Yonder.ctl rfl (fun w => stepG_cond (t := true) rfl) ?_; simp only [if_true, if_false, reduceIte, Bool.false_eq_true]) | (refine Yonder.ctl rfl (fun w => stepG_cond (t := false) rfl) ?_; simp only [if_true, if_false, reduceIte, Bool.false_eq_true]) | (co_applyP Yonder.opq rfl (by rfl) (by decide) ?krun3 ?kev3 ?krest3; (case krun3 => (intro w hw K hK; go_simp; exact hK)); (case kev3 => (intro w hw e he; simp [go_sem, *] at he)); try walk_nrm))
  try (first | (refine Yonder.ctl rfl (fun w => stepG_seq) ?_) | (refine Yonder.ctl rfl (fun w => stepG_region) ?_; simp only [List.size_toArray, List.length_cons, List.length_nil, Nat.reduceAdd, Nat.zero_add, List.range, List.range.loop]) | (refine Yonder.ctl rfl (fun w => stepG_region_end) ?_) | (refine Yonder.ctl rfl (fun w => stepG_block) ?_) | (refine Yonder.ctl rfl (fun w => stepG_skip) ?_) | (refine Yonder.ctl rfl (fun w => stepG_inBlock) ?_) | (refine Yonder.ctl rfl (fun w => stepG_ret') ?_) | (refine Yonder.ctl rfl (fun w => stepG_end) ?_) | (refine Yonder.ctl rfl (fun w => stepG_exit rfl) ?_) | (refine Yonder.ctl rfl (fun w => stepG_cond (t := true) rfl) ?_; simp only [if_true, if_false, reduceIte, Bool.false_eq_true]) | (refine Yonder.ctl rfl (fun w => stepG_cond (t := false) rfl) ?_; simp only [if_true, if_false, reduceIte, Bool.false_eq_true]) | (co_applyP Yonder.opq rfl (by rfl) (by decide) ?krun4 ?kev4 ?krest4; (case krun4 => (intro w hw K hK; go_simp; exact hK)); (case kev4 => (intro w hw e he; simp [go_sem, *] at he)); try walk_nrm))
  try (first | (refine Yonder.ctl rfl (fun w => stepG_seq) ?_) | (refine Yonder.ctl rfl (fun w => stepG_region) ?_; simp only [List.size_toArray, List.length_cons, List.length_nil, Nat.reduceAdd, Nat.zero_add, List.range, List.range.loop]) | (refine Yonder.ctl rfl (fun w => stepG_region_end) ?_) | (refine Yonder.ctl rfl (fun w => stepG_block) ?_) | (refine Yonder.ctl rfl (fun w => stepG_skip) ?_) | (refine Yonder.ctl rfl (fun w => stepG_inBlock) ?_) | (refine Yonder.ctl rfl (fun w => stepG_ret') ?_) | (refine Yonder.ctl rfl (fun w => stepG_end) ?_) | (refine Yonder.ctl rfl (fun w => stepG_exit rfl) ?_) | (refine Yonder.ctl rfl (fun w => stepG_cond (t := true) rfl) ?_; simp only [if_true, if_false, reduceIte, Bool.false_eq_true]) | (refine Yonder.ctl rfl (fun w => stepG_cond (t := false) rfl) ?_; simp only [if_true, if_false, reduceIte, Bool.false_eq_true]) | (co_applyP Yonder.opq rfl (by rfl) (by decide) ?krun5 ?kev5 ?krest5; (case krun5 => (intro w hw K hK; go_simp; exact hK)); (case kev5 => (intro w hw e he; simp [go_sem, *] at he)); try walk_nrm))
  try (first | (refine Yonder.ctl rfl (fun w => stepG_seq) ?_) | (refine Yonder.ctl rfl (fun w => stepG_region) ?_; simp only [List.size_toArray, List.length_cons, List.length_nil, Nat.reduceAdd, Nat.zero_add, List.range, List.range.loop]) | (refine Yonder.ctl rfl (fun w => stepG_region_end) ?_) | (refine Yonder.ctl rfl (fun w => stepG_block) ?_) | (refine Yonder.ctl rfl (fun w => stepG_skip) ?_) | (refine Yonder.ctl rfl (fun w => stepG_inBlock) ?_) | (refine Yonder.ctl rfl (fun w => stepG_ret') ?_) | (refine Yonder.ctl rfl (fun w => stepG_end) ?_) | (refine Yonder.ctl rfl (fun w => stepG_exit rfl) ?_) | (refine Yonder.ctl rfl (fun w => stepG_cond (t := true) rfl) ?_; simp only [if_true, if_false, reduceIte, Bool.false_eq_true]) | (refine Yonder.ctl rfl (fun w => stepG_cond (t := false) rfl) ?_; simp only [if_true, if_false, reduceIte, Bool.false_eq_true]) | (co_applyP Yonder.opq rfl (by rfl) (by decide) ?krun6 ?kev6 ?krest6; (case krun6 => (intro w hw K hK; go_simp; exact hK)); (case kev6 => (intro w hw e he; simp [go_sem, *] at he)); try walk_nrm))
  try (first | (refine Yonder.ctl rfl (fun w => stepG_seq) ?_) | (refine Yonder.ctl rfl (fun w => stepG_region) ?_; simp only [List.size_toArray, List.length_cons, List.length_nil, Nat.reduceAdd, Nat.zero_add, List.range, List.range.loop]) | (refine Yonder.ctl rfl (fun w => stepG_region_end) ?_) | (refine Yonder.ctl rfl (fun w => stepG_block) ?_) | (refine Yonder.ctl rfl (fun w => stepG_skip) ?_) | (refine Yonder.ctl rfl (fun w => stepG_inBlock) ?_) | (refine Yonder.ctl rfl (fun w => stepG_ret') ?_) | (refine Yonder.ctl rfl (fun w => stepG_end) ?_) | (refine Yonder.ctl rfl (fun w => stepG_exit rfl) ?_) | (refine Yonder.ctl rfl (fun w => stepG_cond (t := true) rfl) ?_; simp only [if_true, if_false, reduceIte, Bool.false_eq_true]) | (refine Yonder.ctl rfl (fun w => stepG_cond (t := false) rfl) ?_; simp only [if_true, if_false, reduceIte, Bool.false_eq_true]) | (co_applyP Yonder.opq rfl (by rfl) (by decide) ?krun7 ?kev7 ?krest7; (case krun7 => (intro w hw K hK; go_simp; exact hK)); (case kev7 => (intro w hw e he; simp [go_sem, *] at he)); try walk_nrm))
  try (first | (refine Yonder.ctl rfl (fun w => stepG_seq) ?_) | (refine Yonder.ctl rfl (fun w => stepG_region) ?_; simp only [List.size_toArray, List.length_cons, List.length_nil, Nat.reduceAdd, Nat.zero_add, List.range, List.range.loop]) | (refine Yonder.ctl rfl (fun w => stepG_region_end) ?_) | (refine Yonder.ctl rfl (fun w => stepG_block) ?_) | (refine Yonder.ctl rfl (fun w => stepG_skip) ?_) | (refine Yonder.ctl rfl (fun w => stepG_inBlock) ?_) | (refine Yonder.ctl rfl (fun w => stepG_ret') ?_) | (refine Yonder.ctl rfl (fun w => stepG_end) ?_) | (refine Yonder.ctl rfl (fun w => stepG_exit rfl) ?_) | (refine Yonder.ctl rfl (fun w => stepG_cond (t := true) rfl) ?_; simp only [if_true, if_false, reduceIte, Bool.false_eq_true]) | (refine Yonder.ctl rfl (fun w => stepG_cond (t := false) rfl) ?_; simp only [if_true, if_false, reduceIte, Bool.false_eq_true]) | (co_applyP Yonder.opq rfl (by rfl) (by decide) ?krun8 ?kev8 ?krest8; (case krun8 => (intro w hw K hK; go_simp; exact hK)); (case kev8 => (intro w hw e he; simp [go_sem, *] at he)); try walk_nrm))
  co_applyP Yonder.ld _ hf rfl (by rfl) (by decide) ?krun9 ?kev9 ?krest9; (case krun9 => (intro w hw K hK; have hcx := hw _ _ hf; go_simp; exact hK)); (case kev9 => (intro w hw e he; have hcx := hw _ _ hf; simp [go_sem, *] at he; exact he)); try walk_nrm
  exact Yonder.there rfl (by rfl) (by decide) (fun w => by simp [go_sem, execOp, rcase, Act.eval, hch, hz, hok]) (fun w => by simp [go_sem, execOp, Act.eval]) hh

set_option maxHeartbeats 4000000 in
set_option maxRecDepth 100000 in
/-- Served with a value, Step returns. -/
theorem serve139 (p r t : Nat) (c : Frame) (cs : List Frame) (w : World) :
    Walk Try.prog main (DR V) (fun g w' => g = G (c.finish (.tuple #[])) cs ∧ ∃ d, w' = (w.alloc (.cells #[] 129)).at d) (Go.Conc.served (rec139r p r t (c :: cs)) (recvd true (.agg #[]) true)) w := by
  unfold rec139r
  rw [served_fr, Frame.finish_at]
  simp only [ops139r, rest139r, rest139, Try.f139, recvd, if_true]
  walk_nrm
  repeat (first | (refine Walk.c rfl ?_) | (refine Walk.cReg ?_; simp only [List.size_toArray, List.length_cons, List.length_nil, Nat.reduceAdd, Nat.zero_add, List.range, List.range.loop]) | (refine Walk.cRet ?_) | (refine Walk.cEnd ?_) | (refine Walk.opq (ho_of (by conv => lhs; whnf) (by kernel_rfl)) (by rfl) (by decide) (fun dd e he => ?_) (fun dd K hK => ?_); (· (simp [go_sem, *] at he; try (subst he; exact evR_read _ _))); go_simp; refine hK _ ?_; clear hK K; try walk_nrm) | (refine Walk.ctl rfl (fun w => stepG_unwanted (ho_of (by conv => lhs; whnf) (by kernel_rfl)) (by rfl)) ?_; walk_nrm))
  (co_applyP Walk.opw (ho_of (by conv => lhs; whnf) (by kernel_rfl)) (by rfl) (by decide) ?wev1 ?wdr1 ?wrun1; (case' wrun1 => (intro dd K hK; go_simp; simp only [alloc_at', setCell_at']; refine hK _ ?wmore1; clear hK K)); (case wdr1 => exact fun dd es hes => DR.alloc' dd es hes); (case wev1 => (intro dd e he; simp [go_sem, *] at he)); try walk_nrm)
  repeat (first | (refine Walk.c rfl ?_) | (refine Walk.cReg ?_; simp only [List.size_toArray, List.length_cons, List.length_nil, Nat.reduceAdd, Nat.zero_add, List.range, List.range.loop]) | (refine Walk.cRet ?_) | (refine Walk.cEnd ?_) | (refine Walk.opq (ho_of (by conv => lhs; whnf) (by kernel_rfl)) (by rfl) (by decide) (fun dd e he => ?_) (fun dd K hK => ?_); (· (simp [go_sem, *] at he; try (subst he; exact evR_read _ _))); go_simp; refine hK _ ?_; clear hK K; try walk_nrm) | (refine Walk.ctl rfl (fun w => stepG_unwanted (ho_of (by conv => lhs; whnf) (by kernel_rfl)) (by rfl)) ?_; walk_nrm))
  exact Walk.ctl rfl (fun w => stepG_leave rfl rfl Try.func139 (results_none rfl _ _ w) (events_results_none rfl _ _)) (.stop fun d => ⟨rfl, d, rfl⟩)

/-- Step's frame where it has panicked with the turnstile's own value. -/
noncomputable def rec139p (p r t N : Nat) (cs : List Frame) : Goroutine :=
  G { (base 139).at { tmps := #[.pointer (some ⟨p, 0, none⟩), undef, .pointer (some ⟨N, 0, none⟩), .bool false, .pointer (some ⟨p, 0, none⟩), .pointer (some ⟨p, 0, none⟩), .pointer (some ⟨p, 1, none⟩), .chan (some r), .agg #[], .tuple #[.agg #[], .bool false], .pointer (some ⟨p, 0, none⟩), .pointer (some ⟨p, 0, none⟩), .pointer (some ⟨p, 0, none⟩), .chan (some t), .tuple #[.agg #[], .bool false], .agg #[], .bool false, .bool false, .bool true, .agg #[], .iface 147 (.agg #[])], defers := [] }
    [.inRegion (match rest139r with | .seq _ (.cond _ (.region _ ops _) _) => ops | _ => #[]) [2]] with mode := .panicking [{ v := .iface 147 (.agg #[]), recovered := false }] } cs

theorem run_iface147 (w : World) : (Instr.makeInterface 147 (.agg #[])).run Try.prog w = .ok (.iface 147 (.agg #[])) w := by
  simp [Instr.makeInterface, run_underlying (show Try.prog.underlying 147 = some (.struct #[]) by kernel_rfl)]
theorem ev_iface147 (w : World) (es : Array Event) : (Instr.makeInterface 147 (.agg #[])).events Try.prog w es = es := by
  simp [Instr.makeInterface, run_underlying (show Try.prog.underlying 147 = some (.struct #[]) by kernel_rfl)]

set_option maxHeartbeats 4000000 in
set_option maxRecDepth 100000 in
/-- Served with the close, Step panics with the turnstile's own value. -/
theorem stop139 (p r t : Nat) (cs : List Frame) (w : World) :
    Walk Try.prog main (DR V) (fun g w' => g = rec139p p r t w.heap.size cs ∧ ∃ d, w' = (w.alloc (.cells #[] 129)).at d) (Go.Conc.served (rec139r p r t cs) (recvd true (.agg #[]) false)) w := by
  unfold rec139r
  rw [served_fr, Frame.finish_at]
  simp only [ops139r, rest139r, rest139, Try.f139, recvd, if_true]
  walk_nrm
  repeat (first | (refine Walk.c rfl ?_) | (refine Walk.cReg ?_; simp only [List.size_toArray, List.length_cons, List.length_nil, Nat.reduceAdd, Nat.zero_add, List.range, List.range.loop]) | (refine Walk.cRet ?_) | (refine Walk.cEnd ?_) | (refine Walk.opq (ho_of (by conv => lhs; whnf) (by kernel_rfl)) (by rfl) (by decide) (fun dd e he => ?_) (fun dd K hK => ?_); (· (simp [go_sem, *] at he; try (subst he; exact evR_read _ _))); go_simp; refine hK _ ?_; clear hK K; try walk_nrm) | (refine Walk.ctl rfl (fun w => stepG_unwanted (ho_of (by conv => lhs; whnf) (by kernel_rfl)) (by rfl)) ?_; walk_nrm))
  (co_applyP Walk.opw (ho_of (by conv => lhs; whnf) (by kernel_rfl)) (by rfl) (by decide) ?wev2 ?wdr2 ?wrun2; (case' wrun2 => (intro dd K hK; go_simp; simp only [alloc_at', setCell_at']; refine hK _ ?wmore2; clear hK K)); (case wdr2 => exact fun dd es hes => DR.alloc' dd es hes); (case wev2 => (intro dd e he; simp [go_sem, *] at he)); try walk_nrm)
  have hi1 := run_iface147
  have hi2 := ev_iface147
  repeat (first | (refine Walk.c rfl ?_) | (refine Walk.cReg ?_; simp only [List.size_toArray, List.length_cons, List.length_nil, Nat.reduceAdd, Nat.zero_add, List.range, List.range.loop]) | (refine Walk.cRet ?_) | (refine Walk.cEnd ?_) | (refine Walk.opq (ho_of (by conv => lhs; whnf) (by kernel_rfl)) (by rfl) (by decide) (fun dd e he => ?_) (fun dd K hK => ?_); (· (simp [go_sem, *] at he; try (subst he; exact evR_read _ _))); go_simp; refine hK _ ?_; clear hK K; try walk_nrm) | (refine Walk.ctl rfl (fun w => stepG_unwanted (ho_of (by conv => lhs; whnf) (by kernel_rfl)) (by rfl)) ?_; walk_nrm))
  refine Walk.ctl rfl (fun w => stepG_raise (x := .iface 147 (.agg #[])) rfl (by rfl) (by decide) (by simp [go_sem, execOp, Act.eval, Instr.panic]) (by simp [go_sem, execOp, Act.eval, Instr.panic])) ?_
  refine .stop fun d => ⟨?_, d, rfl⟩
  simp only [rec139p, rest139r, rest139, Try.f139]
end Go.Proofs.Ytgiiicdpbdfemaa
end

/- Who waits how while main works, and while a thread works; a thread hands the work back, by a step or by its end. -/
section
namespace Go.Proofs.Ytgiiicdpbdfemaa
open Go.Conc Go.RowKit Go.Relay
open Go.ConcN (upd upd_ne upd_same)

/-- What stands below a thread's own frames. -/
noncomputable def bot (S : Stile) (N j : Nat) : List Frame := [fr60 N (S.F j) (.iface 161 (.pointer (some ⟨S.p j, 0, none⟩))), fr78 (S.p j) (S.r j) (S.F j), bornfr]

open Classical in
/-- A thread that stands at a step. -/
noncomputable def wT (S : Stile) (D : Dyn) (i : Nat) : Wait where
  ch := S.t i
  z := .agg #[]
  ok := true
  home := fun g => g = rec139r (S.p i) (S.r i) (S.t i) (D.cs i ++ bot S (D.N i) i)
  f := fun a => if a = ⟨S.p i, 0, none⟩ then some (.chan (some (S.t i))) else none

/-- Who waits: main as m says; every thread that is hired and hasn't ended, but for x. -/
noncomputable def VV (S : Stile) (D : Dyn) (m : Option Wait) (x : Option Nat) : Nat → Option Wait := fun g =>
  if g = 0 then m else if S.g0 ≤ g ∧ g < S.g0 + D.k ∧ D.e (g - S.g0) = false ∧ x ≠ some (g - S.g0) then some (wT S D (g - S.g0)) else none

/-- main's wait for thread j. -/
structure MW (S : Stile) (j : Nat) (v : Wait) : Prop where
  ch : v.ch = S.r j
  z : v.z = .agg #[]
  ok : v.ok = true
  f : ∀ a, v.f a ≠ none → a = ⟨S.B, 0, none⟩ ∨ (∃ i, a = ⟨S.sb, i, none⟩) ∨ a = ⟨S.p j, 1, none⟩ ∨ a = ⟨S.p j, 2, none⟩

section
variable {S : Stile} {n0 : Nat} {D D' : Dyn} {w w' : World} {j nG : Nat} {mw : Wait} {m : Machine} {T : Trace} {l : List Frame}

theorem upd_eq {α : Type} (f : Nat → α) {j : Nat} {v : α} (h : f j = v) : upd f j v = f := by
  funext i
  by_cases e : i = j
  · subst e; rw [upd_same, h]
  · exact upd_ne _ _ e

theorem ite_iff {α : Type} {c d : Prop} [Decidable c] [Decidable d] {a b : α} (h : c ↔ d) : (if c then a else b) = if d then a else b := by
  by_cases hd : d
  · rw [if_pos hd, if_pos (h.2 hd)]
  · rw [if_neg hd, if_neg (fun z => hd (h.1 z))]
theorem VV_zero (o : Option Wait) (x : Option Nat) : VV S D o x 0 = o := by simp [VV]
theorem VV_at {o : Option Wait} {x : Option Nat} (hg : 1 ≤ S.g0) {i : Nat} (hi : i < D.k) (he : D.e i = false) (hx : x ≠ some i) : VV S D o x (S.g0 + i) = some (wT S D i) := by
  have h0 : S.g0 + i ≠ 0 := by omega
  have h1 : S.g0 + i - S.g0 = i := by omega
  unfold VV
  rw [if_neg h0, h1, if_pos ⟨by omega, by omega, he, hx⟩]
theorem VV_some {o : Option Wait} {x : Option Nat} {g : Nat} {v : Wait} (h : VV S D o x g = some v) : (g = 0 ∧ o = some v) ∨ ∃ i, i < D.k ∧ D.e i = false ∧ x ≠ some i ∧ g = S.g0 + i ∧ v = wT S D i := by
  unfold VV at h
  by_cases h0 : g = 0
  · rw [if_pos h0] at h; exact .inl ⟨h0, h⟩
  · rw [if_neg h0] at h
    by_cases hc : S.g0 ≤ g ∧ g < S.g0 + D.k ∧ D.e (g - S.g0) = false ∧ x ≠ some (g - S.g0)
    · rw [if_pos hc] at h
      cases h
      exact .inr ⟨g - S.g0, by omega, hc.2.2.1, hc.2.2.2, by omega, rfl⟩
    · rw [if_neg hc] at h; cases h

/-- Two layouts that differ at nobody who waits. -/
theorem VV_eq {o : Option Wait} {x : Option Nat} (hk : D'.k = D.k) (he : ∀ i, i < D.k → x ≠ some i → D'.e i = D.e i ∧ D'.cs i = D.cs i ∧ D'.N i = D.N i) : VV S D' o x = VV S D o x := by
  funext g
  unfold VV
  by_cases h0 : g = 0
  · rw [if_pos h0, if_pos h0]
  · rw [if_neg h0, if_neg h0, hk]
    by_cases hc : S.g0 ≤ g ∧ g < S.g0 + D.k ∧ x ≠ some (g - S.g0)
    · obtain ⟨h1, h2, h3⟩ := he (g - S.g0) (by omega) hc.2.2
      have : wT S D' (g - S.g0) = wT S D (g - S.g0) := by simp only [wT, h2, h3]
      rw [h1, this]
    · rw [if_neg (fun z => hc ⟨z.1, z.2.1, z.2.2.2⟩), if_neg (fun z => hc ⟨z.1, z.2.1, z.2.2.2⟩)]

theorem after_main : after (VV S D none none) 0 (S.g0 + j) (some mw) = VV S D (some mw) (some j) ∨ S.g0 + j = 0 := by
  by_cases hz : S.g0 + j = 0
  · exact .inr hz
  refine .inl (funext fun g => ?_)
  unfold after VV
  by_cases e1 : g = S.g0 + j
  · subst e1
    rw [upd_same, if_neg hz, if_neg]
    rintro ⟨_, _, _, h⟩
    exact h (by rw [Nat.add_sub_cancel_left])
  · rw [upd_ne _ _ e1]
    by_cases e0 : g = 0
    · subst e0; rw [upd_same, if_pos rfl]
    · rw [upd_ne _ _ e0, if_neg e0, if_neg e0]
      refine ite_iff ⟨fun h => ⟨h.1, h.2.1, h.2.2.1, fun z => ?_⟩, fun h => ⟨h.1, h.2.1, h.2.2.1, by simp⟩⟩
      have := Option.some.inj z; omega

theorem after_back {D' : Dyn} {new : Option Wait} (hj : j < D.k) (hk : D'.k = D.k) (he : ∀ i, i < D.k → i ≠ j → D'.e i = D.e i ∧ D'.cs i = D.cs i ∧ D'.N i = D.N i) (hn : new = if D'.e j = false then some (wT S D' j) else none) :
    after (VV S D (some mw) (some j)) (S.g0 + j) 0 new = VV S D' none none := by
  rw [← VV_eq (D' := D') hk fun i hi hx => he i hi fun e => hx (e ▸ rfl)]
  funext g
  unfold after VV
  by_cases e0 : g = 0
  · subst e0; rw [upd_same, if_pos rfl]
  · rw [upd_ne _ _ e0, if_neg e0]
    by_cases e1 : g = S.g0 + j
    · subst e1
      rw [upd_same, hn, Nat.add_sub_cancel_left]
      by_cases hd : D'.e j = false
      · rw [if_pos hd, if_pos ⟨by omega, by omega, hd, by simp⟩]
      · rw [if_neg hd, if_neg (fun z => hd z.2.2.1)]
    · rw [upd_ne _ _ e1, if_neg e0]
      refine ite_iff ⟨fun h => ⟨h.1, h.2.1, h.2.2.1, by simp⟩, fun h => ⟨h.1, h.2.1, h.2.2.1, fun z => ?_⟩⟩
      have := Option.some.inj z; omega

theorem upd_hire (hk : D'.k = D.k + 1) (he : ∀ i, i < D.k → D'.e i = D.e i ∧ D'.cs i = D.cs i ∧ D'.N i = D.N i) : upd (VV S D none none) 0 (some mw) = VV S D' (some mw) (some D.k) := by
  funext g
  unfold VV
  by_cases e0 : g = 0
  · subst e0; rw [upd_same, if_pos rfl]
  · rw [upd_ne _ _ e0, if_neg e0, if_neg e0]
    by_cases hc : S.g0 ≤ g ∧ g < S.g0 + D.k
    · obtain ⟨h1, h2, h3⟩ := he (g - S.g0) (by omega)
      have : wT S D' (g - S.g0) = wT S D (g - S.g0) := by simp only [wT, h2, h3]
      rw [this, h1]
      refine ite_iff ⟨fun h => ⟨h.1, by omega, h.2.2.1, fun z => ?_⟩, fun h => ⟨h.1, by omega, h.2.2.1, by simp⟩⟩
      have := Option.some.inj z; omega
    · rw [if_neg (fun z => hc ⟨z.1, z.2.1⟩), if_neg]
      rintro ⟨h1, h2, _, h4⟩
      exact h4 (congrArg some (by omega))

/-- A cell that nobody reads on its way. -/
theorem VV_free {o : Option Wait} {x : Option Nat} {a : Addr} (hm : ∀ v, o = some v → v.f a = none) (ha : ∀ i, i < D.k → a ≠ ⟨S.p i, 0, none⟩) : Free (VV S D o x) a := by
  intro g v h
  rcases VV_some h with ⟨_, h⟩ | ⟨i, hi, _, _, _, rfl⟩
  · exact hm v h
  · simp only [wT]; rw [if_neg (ha i hi)]

theorem MW.free (hm : MW S j mw) {a : Addr} (h1 : a ≠ ⟨S.B, 0, none⟩) (h2 : ∀ i, a ≠ ⟨S.sb, i, none⟩) (h3 : a ≠ ⟨S.p j, 1, none⟩) (h4 : a ≠ ⟨S.p j, 2, none⟩) : mw.f a = none := by
  refine Classical.byContradiction fun h => ?_
  rcases hm.f a h with z | ⟨i, z⟩ | z | z
  · exact h1 z
  · exact h2 i z
  · exact h3 z
  · exact h4 z

/-- Nobody waits at, or reads on the way, a block that isn't owned. -/
theorem VV_apart {x : Option Nat} {o : Option Wait} (H : Sys S n0 D w) (hj : j < S.n) (hm : ∀ v, o = some v → MW S j v) {b : Nat} (hb : D.own b = none) : Apart (VV S D o x) b := by
  have hne : ∀ b' x, D.own b' = some x → b ≠ b' := fun b' x h e => by subst e; rw [hb] at h; cases h
  refine ⟨fun a ha => VV_free (fun v hv => (hm v hv).free ?_ ?_ ?_ ?_) ?_, fun g u h => ?_⟩
  · rintro rfl; exact hne _ _ H.oB ha.symm
  · rintro i rfl; exact hne _ _ H.oS ha.symm
  · rintro rfl; exact hne _ _ (H.op j hj) ha.symm
  · rintro rfl; exact hne _ _ (H.op j hj) ha.symm
  · rintro i hi rfl; exact hne _ _ (H.op i (Nat.lt_of_lt_of_le hi H.kn)) ha.symm
  · rcases VV_some h with ⟨_, h⟩ | ⟨i, hi, _, _, _, rfl⟩
    · rw [(hm u h).ch]; exact (hne _ _ (H.or j hj)).symm
    · exact (hne _ _ (H.ot i (Nat.lt_of_lt_of_le hi H.kn))).symm

theorem thr_main (H : Sys S n0 D w) (j : Nat) : (S.g0 + j == 0) = false := by
  have := H.hg0
  simp; omega

/-- A thread at the send of its step: main has the work again, and the thread waits. -/
theorem give_back (H : Sys S n0 D w) (hj : j < D.k) (he : D.e j = false) (hn : 0 < nG) (hm : MW S j mw) (A : At Try.prog (VV S D (some mw) (some j)) (S.g0 + j) nG (rec139s (S.p j) (S.r j) (l ++ bot S (D.N j) j)) w m T) :
    Relay.Comes Try.prog (fun m' T' => ∃ g₂ d k, mw.home g₂ ∧ w.heap[S.r j]? = some (.chan 0 #[] false k k false) ∧ At Try.prog (VV S { D with cs := upd D.cs j l } none none) 0 nG (Go.Conc.served g₂ (recvd true (.agg #[]) true)) ((w.at d).setChan (S.r j) 0 #[] false (k + 1) (k + 1) false) m' T') m T := by
  have hjn : j < S.n := Nat.lt_of_lt_of_le hj H.kn
  have hg0 := H.hg0
  obtain ⟨z', es, hes, hs⟩ := send139 (main := S.g0 + j == 0) (V := VV S D (some mw) (some j)) (S.p j) (S.r j) (l ++ bot S (D.N j) j) w
  refine (A.give (v := mw) (x := .agg #[]) (j := 0) (new := some (wT S { D with cs := upd D.cs j l } j)) (by omega) hn (VV_zero _ _) rfl (by rw [hm.ch]; exact hs) hes ⟨?_, ?_, ?_, ?_⟩).mono ?_
  · intro a y hy
    simp only [wT] at hy
    by_cases ea : a = ⟨S.p j, 0, none⟩
    · rw [if_pos ea] at hy; cases hy; subst ea; exact H.p0 hjn
    · rw [if_neg ea] at hy; cases hy
  · exact H.good _ _ (H.ot j hjn) he
  · intro i u hi hu
    rcases VV_some hu with ⟨z, _⟩ | ⟨i', hi', _, hx, _, rfl⟩
    · exact absurd z hi
    · exact H.two (H.ot i' (Nat.lt_of_lt_of_le hi' H.kn)) (H.ot j hjn) fun e => hx (by cases e; rfl)
  · refine (way139 (S.p j) (S.r j) (S.t j) (l ++ bot S (D.N j) j) _ rfl rfl rfl (by simp [wT]) ?_).waits
    simp only [wT, upd_same]
  · rintro m' T' ⟨g₂, d, k, hh, hc, A'⟩
    refine ⟨g₂, d, k, hh, hm.ch ▸ hc, ?_⟩
    rw [after_back (D' := { D with cs := upd D.cs j l }) hj rfl (fun i _ hi => ⟨rfl, upd_ne _ _ hi, rfl⟩) (by rw [if_pos he]), hm.ch, hm.ok] at A'
    exact A'

/-- A thread at run's close: main has the work again, and the thread only leaves. -/
theorem shut_back (H : Sys S n0 D w) (hj : j < D.k) (he : D.e j = true) (hn : 0 < nG) (hm : MW S j mw) {F : Value} {bk br : Bool} (A : At Try.prog (VV S D (some mw) (some j)) (S.g0 + j) nG (rec78 (S.p j) (S.r j) F bk br) w m T) :
    Relay.Comes Try.prog (fun m' T' => ∃ g₂ d k, mw.home g₂ ∧ At Try.prog (VV S D none none) 0 nG (Go.Conc.served g₂ (recvd true (.agg #[]) false)) ((w.at d).setChan (S.r j) 0 #[] true k k false) m' T') m T := by
  have hg0 := H.hg0
  refine (A.shut (v := mw) (j := 0) (new := none) (a' := G { (rec78 (S.p j) (S.r j) F bk br).frame with defers := [] } [bornfr]) (by omega) hn (VV_zero _ _) rfl (wake78 ..) rfl (fun d k hk => ?_) ⟨by omega, 2, quit78 ..⟩).mono ?_
  · rw [hm.ch] at hk ⊢
    exact close78 _ _ _ _ _ _ k hk
  · rintro m' T' ⟨g₂, d, k, hh, A'⟩
    refine ⟨g₂, d, k, hh, ?_⟩
    rw [after_back (D' := D) hj rfl (fun i _ hi => ⟨rfl, rfl, rfl⟩) (by rw [he]; rfl), hm.ch, hm.ok, hm.z] at A'
    exact A'
end
end Go.Proofs.Ytgiiicdpbdfemaa
end

/- What is asked of the threads of a run, in company; and a thread that has worked hands the work back. -/
section
namespace Go.Proofs.Ytgiiicdpbdfemaa
open Go.Conc Go.RowKit Go.Relay
open Go.ConcN (upd upd_ne upd_same)

/-- From o, w to o', w': what isn't owned stands, and isn't taken. -/
structure Keeps (o o' : Nat → Option Role) (w w' : World) : Prop where
  size : w.heap.size ≤ w'.heap.size
  same : ∀ b, b < w.heap.size → o b = none → o' b = none ∧ w'.heap[b]? = w.heap[b]?
theorem Keeps.refl (o : Nat → Option Role) (w : World) : Keeps o o w w := ⟨Nat.le_refl _, fun _ _ h => ⟨h, rfl⟩⟩
theorem Keeps.trans {o o' o'' : Nat → Option Role} {w w' w'' : World} (h : Keeps o o' w w') (k : Keeps o' o'' w' w'') : Keeps o o'' w w'' :=
  ⟨Nat.le_trans h.size k.size, fun b hb ho => by
    obtain ⟨h1, h2⟩ := h.same b hb ho
    obtain ⟨k1, k2⟩ := k.same b (Nat.lt_of_lt_of_le hb h.size) h1
    exact ⟨k1, k2.trans h2⟩⟩
theorem Keeps.at {o o' : Nat → Option Role} {w w' : World} (h : Keeps o o' w w') (d : Nat) : Keeps o o' w (w'.at d) := ⟨h.size, h.same⟩
theorem Keeps.alloc (o : Nat → Option Role) (w : World) (x : Obj) : Keeps o o w (w.alloc x) := ⟨by simp, fun b hb ho => ⟨ho, heap_new_lt w x hb⟩⟩
theorem Keeps.set {o : Nat → Option Role} {w : World} {a : Addr} {r : Role} (v : Value) (h : o a.block = some r) : Keeps o o w (w.setCell a v) :=
  ⟨Nat.le_of_eq (size_set ..).symm, fun b _ ho => ⟨ho, heap_set_other w a b v fun e => by subst e; rw [h] at ho; cases ho⟩⟩
theorem Keeps.chan {o : Nat → Option Role} {w : World} {c : Nat} {r : Role} (h : o c = some r) (cl : Bool) (k : Nat) : Keeps o o w (w.setChan c 0 #[] cl k k false) :=
  ⟨by simp [World.setChan], fun b _ ho => ⟨ho, heap_setChan_ne w _ _ _ _ _ _ fun e => by subst e; rw [h] at ho; cases ho⟩⟩

/-- A frame that a panic leaves at once. -/
def Plain (f : Frame) : Prop := f.defers = [] ∧ f.mode = .run ∧ ∃ fn, Try.prog.funcs[f.fn]? = some fn

/-- A thread's work is done for now: it stands at its next step, or its function has returned, or panicked; no owned block has turned. -/
def Fin {X : Type} (inv : Nat → (Nat → Option Role) → X → (Nat → List Frame) → World → Prop) (out : X → Nat → Option Bool) (S : Stile) (k : Nat) (o : Nat → Option Role) (x : X) (cs : Nat → List Frame) (i : Nat) (f : Frame) (fs : List Frame) (w : World) (g : Goroutine) (w' : World) : Prop :=
  w.heap.size ≤ w'.heap.size ∧ (∀ b r, o b = some r → w'.heap[b]? = w.heap[b]?) ∧ ∃ l, inv k o x (upd cs i l) w' ∧
    ((out x i = none ∧ g = G (Frame.enter Try.prog 139 #[.pointer (some ⟨S.p i, 0, none⟩)] .normal) (l ++ f :: fs)) ∨
     (out x i = some false ∧ g = G (f.finish (.tuple #[])) fs) ∨
     (out x i = some true ∧ ∃ t v, t ≠ 147 ∧ g = G (f.raise [{ v := .iface t v, recovered := false }]) fs))

/-- What is asked of a run's threads: x tells where they stand, and what they have done. -/
structure Crew (S : Stile) (X : Type) where
  inv : Nat → (Nat → Option Role) → X → (Nat → List Frame) → World → Prop
  born : X → Nat → X
  next : X → Nat → X
  out : X → Nat → Option Bool
  cnt : X → Nat
  cntBorn : ∀ x i, cnt (born x i) = cnt x
  cntNext : ∀ x i, cnt (next x i) = cnt x + 1
  keep : ∀ {k : Nat} {o o' : Nat → Option Role} {x : X} {cs : Nat → List Frame} {w w' : World}, inv k o x cs w → Keeps o o' w w' → inv k o' x cs w'
  bornOut : ∀ x i j, j ≠ i → out (born x i) j = out x j
  nextOut : ∀ x i j, j ≠ i → out (next x i) j = out x j
  shape : ∀ {k : Nat} {o : Nat → Option Role} {x : X} {cs : Nat → List Frame} {w : World} {i : Nat}, inv k o x cs w → i < k → out x i = none → (∃ c l, cs i = c :: l) ∧ ∀ f ∈ cs i, Plain f
  thr : ∀ {k : Nat} {o : Nat → Option Role} {x : X} {cs : Nat → List Frame} {w : World} {i : Nat}, inv k o x cs w → k ≤ i → i < S.n → w.cell? ⟨S.tb, i, none⟩ = some (S.F i)
  sch : ∀ {k : Nat} {o : Nat → Option Role} {x : X} {cs : Nat → List Frame} {w : World} {j : Nat} {z : Int}, inv k o x cs w → S.sl[j]? = some z → ∃ s so, S.sa = some ⟨s, so, none⟩ ∧ w.cell? ⟨s, so + j, none⟩ = some (.int .i64 z)
  start : ∀ {k : Nat} {o : Nat → Option Role} {x : X} {cs : Nat → List Frame} {w : World} {V : Nat → Option Wait} (f : Frame) (fs : List Frame), inv k o x cs w → k < S.n → cnt x < 1048576 → (∀ b, o b = none → Apart V b) → (∀ b r, o b = some r → b < w.heap.size) →
    (∃ fi fn first cap, S.F k = .func (.func fi) first cap ∧ Try.prog.funcs[fi]? = some fn ∧ (fn.name == "runtime.NumGoroutine") = false ∧ fn.body.isNone = false ∧
      Walk Try.prog false (DR V) (Fin inv out S (k + 1) o (born x k) cs k f fs w) (G (Frame.enter Try.prog fi (first ++ #[.iface 161 (.pointer (some ⟨S.p k, 0, none⟩))] ++ cap) .normal) (f :: fs)) w) ∨
    (S.F k = .nilFunc ∧ out (born x k) k = some false ∧ inv (k + 1) o (born x k) (upd cs k []) w)
  go : ∀ {k : Nat} {o : Nat → Option Role} {x : X} {cs : Nat → List Frame} {w : World} {V : Nat → Option Wait} {i : Nat} {c : Frame} {l : List Frame} (f : Frame) (fs : List Frame), inv k o x cs w → i < k → out x i = none → cs i = c :: l → cnt x < 1048576 → (∀ b, o b = none → Apart V b) → (∀ b r, o b = some r → b < w.heap.size) →
    Walk Try.prog false (DR V) (Fin inv out S k o (next x i) cs i f fs w) (G (c.finish (.tuple #[])) (l ++ f :: fs)) w

def handed (D : Dyn) (j : Nat) (l : List Frame) (o : Option Bool) : Dyn := { D with cs := upd D.cs j l, e := upd D.e j o.isSome, b := upd D.b j (o == some true) }

section
variable {S : Stile} {n0 : Nat} {D D' : Dyn} {w w' : World} {j nG : Nat} {mw : Wait} {m : Machine} {T : Trace} {l : List Frame}

theorem Sys.cs (H : Sys S n0 D w) (c : Nat → List Frame) : Sys S n0 { D with cs := c } w :=
  H.put rfl rfl rfl rfl rfl rfl (Nat.le_refl _) (fun b x _ h => by cases x <;> exact h) fun _ _ => rfl

theorem free_thr (H : Sys S n0 D w) (hj : j < S.n) (hm : MW S j mw) {b i : Nat} {r : Role} (hb : D.own b = some r) (hr : (∃ a, r = .nn a) ∨ (r = .p j ∧ i = 3)) : Free (VV S D (some mw) (some j)) ⟨b, i, none⟩ := by
  have hne : ∀ b' x i', D.own b' = some x → r ≠ x → (⟨b, i, none⟩ : Addr) ≠ ⟨b', i', none⟩ := fun b' x i' h hx e => H.two hb h hx (congrArg Addr.block e)
  have hoff : r = .p j ∧ i = 3 → ∀ b' i', i' ≠ 3 → (⟨b, i, none⟩ : Addr) ≠ ⟨b', i', none⟩ := fun h b' i' h' e => h' ((congrArg Addr.off e).symm.trans h.2)
  refine VV_free (fun v hv => ?_) fun i' hi' => ?_
  · cases hv
    refine hm.free ?_ ?_ ?_ ?_
    · exact hne _ _ _ H.oB (by rcases hr with ⟨a, rfl⟩ | ⟨rfl, _⟩ <;> simp)
    · exact fun i' => hne _ _ _ H.oS (by rcases hr with ⟨a, rfl⟩ | ⟨rfl, _⟩ <;> simp)
    · rcases hr with ⟨a, rfl⟩ | h
      · exact hne _ _ _ (H.op j hj) (by simp)
      · exact hoff h _ _ (by omega)
    · rcases hr with ⟨a, rfl⟩ | h
      · exact hne _ _ _ (H.op j hj) (by simp)
      · exact hoff h _ _ (by omega)
  · rcases hr with ⟨a, rfl⟩ | h
    · exact hne _ _ _ (H.op i' (Nat.lt_of_lt_of_le hi' H.kn)) (by simp)
    · exact hoff h _ _ (by omega)

/-- A thread's function has been left, and ride has told how: run's end, and main has the work again. -/
theorem ended_back (H : Sys S n0 D w) (hj : j < D.k) (hn : 0 < nG) (hm : MW S j mw) (br : Bool) {g : Goroutine} {W : World} (hKW : Keeps D.own D.own w W) (HW : Sys S n0 { D with e := upd D.e j true } W)
    (hW : Walk Try.prog (S.g0 + j == 0) (DR (VV S D (some mw) (some j))) (fun g w' => ∃ bk, g = G ((fr78 (S.p j) (S.r j) (S.F j)).finish (.tuple #[.bool bk, .bool br])) [bornfr] ∧ ∃ d, w' = W.at d) g w)
    (A : At Try.prog (VV S D (some mw) (some j)) (S.g0 + j) nG g w m T) (l : List Frame) :
    Relay.Comes Try.prog (fun m' T' => ∃ g₂ w', mw.home g₂ ∧ At Try.prog (VV S (handed D j l (some br)) none none) 0 nG (Go.Conc.served g₂ (recvd true (.agg #[]) false)) w' m' T' ∧ Sys S n0 (handed D j l (some br)) w' ∧ Keeps D.own D.own w w') m T := by
  have hjn : j < S.n := Nat.lt_of_lt_of_le hj H.kn
  refine (At.walk (Stop := fun g w' => ∃ bk d, g = rec78 (S.p j) (S.r j) (S.F j) bk br ∧ w' = (W.setCell ⟨S.p j, 3, none⟩ (.bool br)).at d) (hW.then ?_) A).bind ?_
  · rintro g' w' ⟨bk, rfl, d, rfl⟩
    refine Walk.back ?_ d
    refine (run_out (S.p j) (S.r j) (S.F j) bk br (D.b j) W (HW.p3 hjn) (HW.pz hjn 3) (free_thr H hjn hm (H.op j hjn) (.inr ⟨rfl, rfl⟩))).mono ?_
    rintro g w' ⟨rfl, d, rfl⟩
    exact ⟨bk, d, rfl, rfl⟩
  · rintro m' T' ⟨g', w', ⟨bk, d, rfl, rfl⟩, A'⟩
    have hb : (some br == some true) = br := by cases br <;> rfl
    have H2 : Sys S n0 (handed D j l (some br)) ((W.setCell ⟨S.p j, 3, none⟩ (.bool br)).at d) := by
      have := ((HW.brk hjn br).cs (upd D.cs j l)).at d
      simpa only [handed, Option.isSome_some, hb] using this
    have hV : VV S (handed D j l (some br)) (some mw) (some j) = VV S D (some mw) (some j) := VV_eq rfl fun i _ hx => by
      have : i ≠ j := fun e => hx (e ▸ rfl)
      simp only [handed, upd_ne _ _ this, and_self]
    rw [← hV] at A'
    refine (shut_back H2 hj (by simp only [handed, upd_same, Option.isSome_some]) hn hm A').mono ?_
    rintro m2 T2 ⟨g₂, d2, k, hh, A2⟩
    refine ⟨g₂, _, hh, A2, (H2.at d2).shut (j := j) (by simp only [handed, upd_same, Option.isSome_some]) (.inr (H.or j hjn)), ?_⟩
    exact hKW.trans (((Keeps.set _ (H.op j hjn)).at d).trans ((Keeps.at (Keeps.refl _ _) d2).trans (Keeps.chan (H.or j hjn) true k)))
end

section
variable {S : Stile} {X : Type} {C : Crew S X} {n0 : Nat} {D D' : Dyn} {w w' : World} {j nG : Nat} {mw : Wait} {m : Machine} {T : Trace} {l : List Frame} {x : X}

/-- A thread has worked; main has the work again. -/
theorem fin_back {w0 : World} {g : Goroutine} (H : Sys S n0 D w) (hj : j < D.k) (he : D.e j = false) (hb : D.b j = false) (hn : 0 < nG) (hm : MW S j mw)
    (hF : Fin C.inv C.out S D.k D.own x D.cs j (fr60 (D.N j) (S.F j) (.iface 161 (.pointer (some ⟨S.p j, 0, none⟩)))) [fr78 (S.p j) (S.r j) (S.F j), bornfr] w0 g w)
    (A : At Try.prog (VV S D (some mw) (some j)) (S.g0 + j) nG g w m T) :
    Relay.Comes Try.prog (fun m' T' => ∃ g₂ w' l, mw.home g₂ ∧ At Try.prog (VV S (handed D j l (C.out x j)) none none) 0 nG (Go.Conc.served g₂ (recvd true (.agg #[]) (C.out x j).isNone)) w' m' T' ∧ Sys S n0 (handed D j l (C.out x j)) w' ∧ C.inv D.k D.own x (upd D.cs j l) w') m T := by
  have hjn : j < S.n := Nat.lt_of_lt_of_le hj H.kn
  obtain ⟨_, _, l, hI, hF⟩ := hF
  have hN := (cell_of (H.good _ _ (H.oN j hj) he) 0)
  have hNz := frozen_of (H.good _ _ (H.oN j hj) he) 0
  have hfN : Free (VV S D (some mw) (some j)) ⟨D.N j, 0, none⟩ := free_thr H hjn hm (H.oN j hj) (.inl ⟨_, rfl⟩)
  rcases hF with ⟨ho, rfl⟩ | ⟨ho, rfl⟩ | ⟨ho, t, v, ht, rfl⟩
  · refine (At.walk (Stop := fun g w' => g = rec139s (S.p j) (S.r j) (l ++ bot S (D.N j) j) ∧ ∃ d, w' = w.at d) (step_send _ _ _ _ (H.p1 hjn) (.stop fun d => ⟨rfl, d, rfl⟩)) A).bind ?_
    rintro m' T' ⟨g', w', ⟨rfl, d, rfl⟩, A'⟩
    refine (give_back (H.at d) hj he hn hm A').mono ?_
    rintro m2 T2 ⟨g₂, d2, k, hh, hc, A2⟩
    have hD : handed D j l (C.out x j) = { D with cs := upd D.cs j l } := by
      rw [ho]; simp only [handed, Option.isSome_none]
      rw [upd_eq _ he, show ((none : Option Bool) == some true) = false from rfl, upd_eq _ hb]
    refine ⟨g₂, _, l, hh, by rw [hD, ho]; exact A2, ?_, C.keep hI ((Keeps.at (Keeps.refl _ _) d).trans ((Keeps.at (Keeps.refl _ _) d2).trans (Keeps.chan (H.or j hjn) false (k + 1))))⟩
    rw [hD]
    exact (((H.at d).at d2).chan hc ⟨j, .inr (H.or j hjn)⟩).cs _
  · refine (ended_back H hj hn hm false (Keeps.set (.bool false) (H.oN j hj)) (H.ride hj (.bool false)) (g := G ((fr60 (D.N j) (S.F j) (.iface 161 (.pointer (some ⟨S.p j, 0, none⟩)))).finish (.tuple #[])) [fr78 (S.p j) (S.r j) (S.F j), bornfr]) ?_ A l).mono ?_
    · refine (ride_done (D.N j) _ _ _ _ w false hN hNz hfN).mono ?_
      rintro g w' ⟨rfl, d, rfl⟩
      exact ⟨true, rfl, d, rfl⟩
    · rintro m2 T2 ⟨g₂, w', hh, A2, H2, K2⟩
      rw [ho]
      exact ⟨g₂, w', l, hh, A2, H2, C.keep hI K2⟩
  · refine (ended_back H hj hn hm true ((Keeps.alloc _ w (.cells #[] 147)).trans (Keeps.set (.bool true) (H.oN j hj))) ((H.alloc (.cells #[] 147)).ride hj (.bool true)) (g := G ((fr60 (D.N j) (S.F j) (.iface 161 (.pointer (some ⟨S.p j, 0, none⟩)))).raise [{ v := .iface t v, recovered := false }]) [fr78 (S.p j) (S.r j) (S.F j), bornfr]) ?_ A l).mono ?_
    · refine (ride_broke (D.N j) _ _ t v ht _ _ w false hN hNz hfN).mono ?_
      rintro g w' ⟨rfl, d, rfl⟩
      exact ⟨false, rfl, d, rfl⟩
    · rintro m2 T2 ⟨g₂, w', hh, A2, H2, K2⟩
      rw [ho]
      exact ⟨g₂, w', l, hh, A2, H2, C.keep hI K2⟩
end
end Go.Proofs.Ytgiiicdpbdfemaa
end
