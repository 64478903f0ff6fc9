/- Part 8. -/
import Derived.Test.YtflcclneedldoaaJ3
import Derived.Test.YtflcclneedldoaaJ4
import Derived.Deep.Heap
set_option linter.unusedSimpArgs false
set_option linter.unusedVariables false
set_option maxHeartbeats 8000000
set_option maxRecDepth 100000
namespace Go.Proofs.Ytflcclneedldoaa
open Go.Conc Go.RowKit Go.Relay Try
open Go.ConcN (upd upd_ne upd_same)
section
variable {main : Bool} {V : Nat -> Option Wait}
noncomputable def code23 (i : Nat) : Code := match f127.body with
 | some (.seq _ (.seq a1 (.seq a2 (.seq a3 (.seq a4 (.seq a5 (.seq a6 c))))))) => [a1, a2, a3, a4, a5, a6, c].getD i .skip
 | _ => .skip
noncomputable def tail23 (i : Nat) : Code := match f127.body with
 | some (.seq _ (.seq _ c1)) => match c1 with
  | .seq _ c2 => match c2 with
   | .seq _ c3 => match c3 with
    | .seq _ c4 => match c4 with
     | .seq _ c5 => match c5 with
      | .seq _ c6 => [.skip, c1, c2, c3, c4, c5, c6].getD i .skip
      | _ => .skip
     | _ => .skip
    | _ => .skip
   | _ => .skip
  | _ => .skip
 | _ => .skip
noncomputable def ops23 (i : Nat) : Array Oper := match code23 i with | .region _ ops _ => ops | _ => #[]
noncomputable def fr23t (n tcap m c : Nat) (ta sa : Option Addr) (og : Value) (most : Int) : Frame := (base 127).at { tmps := #[.slice ta n tcap, .slice sa m c, .int .i64 most, undef, undef, undef, .slice none 0 0, .bool false, .slice none 0 0, undef, og, .slice ta n tcap, .slice ta n tcap, .int .i64 most, undef, undef, undef, undef, undef, undef, undef, undef, undef, undef, undef, undef, undef, undef, undef, undef, undef, undef, undef, undef], defers := [] } [.inRegion (ops23 1) [2, 3], .code (tail23 2)]
noncomputable def fr23a (B : Nat) (n tcap m c : Nat) (ta sa : Option Addr) (og : Value) (most : Int) : Frame := (base 127).at { tmps := #[.slice ta n tcap, .slice sa m c, .int .i64 most, undef, undef, undef, .slice none 0 0, .bool false, .slice none 0 0, .pointer (some ⟨B, 0, none⟩), og, .slice ta n tcap, .slice ta n tcap, .int .i64 most, .pointer (some ⟨B, 0, none⟩), .pointer (some ⟨B, 0, none⟩), .slice ta n tcap, undef, undef, undef, undef, undef, undef, undef, undef, undef, undef, undef, undef, undef, undef, undef, undef, undef], defers := [] } [.inRegion (ops23 2) [2], .code (tail23 3)]
noncomputable def fr23b (B : Nat) (n tcap m c : Nat) (ta sa : Option Addr) (og : Value) (most : Int) : Frame := (base 127).at { tmps := #[.slice ta n tcap, .slice sa m c, .int .i64 most, undef, undef, undef, .slice none 0 0, .bool false, .slice none 0 0, .pointer (some ⟨B, 0, none⟩), og, .slice ta n tcap, .slice ta n tcap, .int .i64 most, .pointer (some ⟨B, 0, none⟩), .pointer (some ⟨B, 0, none⟩), .slice ta n tcap, .tuple #[], .pointer (some ⟨B, 0, none⟩), .slice sa m c, undef, undef, undef, undef, undef, undef, undef, undef, undef, undef, undef, undef, undef, undef], defers := [] } [.inRegion (ops23 3) [2], .code (tail23 4)]
noncomputable def fr23c (B : Nat) (n tcap m c : Nat) (ta sa : Option Addr) (og : Value) (most : Int) (going : Int) : Frame := (base 127).at { tmps := #[.slice ta n tcap, .slice sa m c, .int .i64 most, undef, undef, undef, .slice none 0 0, .bool (decide (0 < going)), .slice none 0 0, .pointer (some ⟨B, 0, none⟩), og, .slice ta n tcap, .slice ta n tcap, .int .i64 most, .pointer (some ⟨B, 0, none⟩), .pointer (some ⟨B, 0, none⟩), .slice ta n tcap, .tuple #[], .pointer (some ⟨B, 0, none⟩), .slice sa m c, .tuple #[], .pointer (some ⟨B, 0, none⟩), .pointer (some ⟨B, 0, none⟩), .pointer (some ⟨B, 1, none⟩), .int .i64 going, .bool (decide (0 < going)), .pointer (some ⟨B, 0, none⟩), undef, undef, undef, undef, undef, undef, undef], defers := [] } [.inRegion (ops23 5) [1, 2], .code (tail23 6)]
theorem over_in {Stop : Goroutine -> World -> Prop} (n tcap m c : Nat) (ta sa : Option Addr) (og : Value) (most : Int) (cs : List Frame) (w : World) (hog : Aw prog main V 167 #[og] w (.slice ta n tcap) w)
  (hk : Walk prog main (DR V) Stop (G (Frame.enter prog 168 #[.slice ta n tcap, .int .i64 most] .normal) (fr23t n tcap m c ta sa og most :: cs)) w) :
  Walk prog main (DR V) Stop (G (Frame.enter prog 127 #[og, .slice sa m c, .int .i64 most] .normal) cs) w := by
 simp only [fr23t, ops23, code23, tail23, f127, List.getD_cons_succ, List.getD_cons_zero] at hk
 rw [enter_at _ func127 rfl]
 simp only [f127, ez, Nat.reduceAdd, Nat.reduceSub]
 refine Ae ?_
 refine Walk.callV (x := .slice ta n tcap) (W := w) ?_ rfl (by rfl) (by decide) rfl func167 (by kernel_rfl) (by rfl) ?_
 ·walk_nrm
  exact hog
 walk_nrm
 refine Ae ?_
 refine Walk.callE rfl (by rfl) (by decide) rfl func168 (by kernel_rfl) (by rfl) ?_
 walk_nrm
 exact hk
theorem Nw {Stop : Goroutine -> World -> Prop} (B : Nat) (n tcap m c : Nat) (ta sa : Option Addr) (og : Value) (most : Int) (cs : List Frame) (w : World)
  (hk : Walk prog main (DR V) Stop (G (Frame.enter prog 169 #[.pointer (some ⟨B, 0, none⟩), .slice ta n tcap] .normal) (fr23a B n tcap m c ta sa og most :: cs)) w) :
  Walk prog main (DR V) Stop (G ((fr23t n tcap m c ta sa og most).finish (.pointer (some ⟨B, 0, none⟩))) cs) w := by
 simp only [fr23a, ops23, code23, tail23, f127, List.getD_cons_succ, List.getD_cons_zero] at hk
 unfold fr23t
 rw [Frame.finish_at]
 simp only [ops23, code23, tail23, f127, List.getD_cons_succ, List.getD_cons_zero]
 walk_nrm
 refine Ae ?_
 refine Walk.callE rfl (by rfl) (by decide) rfl func169 (by kernel_rfl) (by rfl) ?_
 walk_nrm
 exact hk
theorem Ma {Stop : Goroutine -> World -> Prop} (B : Nat) (n tcap m c : Nat) (ta sa : Option Addr) (og : Value) (most : Int) (cs : List Frame) (w : World)
  (hk : Walk prog main (DR V) Stop (G (Frame.enter prog 170 #[.pointer (some ⟨B, 0, none⟩), .slice sa m c] .normal) (fr23b B n tcap m c ta sa og most :: cs)) w) :
  Walk prog main (DR V) Stop (G ((fr23a B n tcap m c ta sa og most).finish (.tuple #[])) cs) w := by
 simp only [fr23b, ops23, code23, tail23, f127, List.getD_cons_succ, List.getD_cons_zero] at hk
 unfold fr23a
 rw [Frame.finish_at]
 simp only [ops23, code23, tail23, f127, List.getD_cons_succ, List.getD_cons_zero]
 walk_nrm
 refine Ae ?_
 refine Walk.callE rfl (by rfl) (by decide) rfl func170 (by kernel_rfl) (by rfl) ?_
 walk_nrm
 exact hk
theorem over_end {Stop : Goroutine -> World -> Prop} (B : Nat) (n tcap m c : Nat) (ta sa : Option Addr) (og : Value) (most : Int) (going : Int) (cs : List Frame) (w : World) (h1 : w.cell? ⟨B, 1, none⟩ = some (.int .i64 going))
  (hk : Walk prog main (DR V) Stop (G (Frame.enter prog 171 #[.pointer (some ⟨B, 0, none⟩)] .normal) (fr23c B n tcap m c ta sa og most going :: cs)) w) :
  Walk prog main (DR V) Stop (G ((fr23b B n tcap m c ta sa og most).finish (.tuple #[])) cs) w := by
 simp only [fr23c, ops23, code23, tail23, f127, List.getD_cons_succ, List.getD_cons_zero] at hk
 unfold fr23b
 rw [Frame.finish_at]
 simp only [ops23, code23, tail23, f127, List.getD_cons_succ, List.getD_cons_zero]
 walk_nrm
 refine Ae ?_
 refine Walk.callE rfl (by rfl) (by decide) rfl func171 (by kernel_rfl) (by rfl) ?_
 walk_nrm
 exact hk
theorem results23 (tmps : Array Value) (x y z : Value) (w : World) (h6 : tmps.getD 6 undef = x) (h7 : tmps.getD 7 undef = y) (h8 : tmps.getD 8 undef = z) :
  (results f127 tmps).run prog w = .ok (.tuple #[x, y, z]) w /\ (results f127 tmps).events prog w #[] = #[] := by
 subst h6; subst h7; subst h8
 constructor
 ·simp [results, f127]
 ·simp [results, f127]
theorem over_out (B q : Nat) (n tcap m c : Nat) (ta sa : Option Addr) (og : Value) (most : Int) (going : Int) (oa : Option Addr) (on oc : Nat) (c' : Frame) (cs : List Frame) (w : World) (h3 : w.cell? ⟨B, 3, none⟩ = some (.slice oa on oc)) :
  Walk prog main (DR V) (fun g w' => g = G (c'.finish (.tuple #[.slice oa on oc, .bool (decide (0 < going)), .slice (some ⟨q, 0, none⟩) n n])) cs /\ ∃ d, w' = w.at d) (G ((fr23c B n tcap m c ta sa og most going).finish (.slice (some ⟨q, 0, none⟩) n n)) (c' :: cs)) w := by
 unfold fr23c
 rw [Frame.finish_at]
 simp only [ops23, code23, tail23, f127, List.getD_cons_succ, List.getD_cons_zero]
 walk_nrm
 refine Ae ?_
 exact Walk.ctl rfl (fun w => stepG_leave rfl rfl func127 (results23 _ _ _ _ w rfl rfl rfl).1 (results23 _ _ _ _ w rfl rfl rfl).2) (.stop fun d => ⟨rfl, d, rfl⟩)
noncomputable def chan0 : Obj := .chan 0 #[] false 0 0 false
noncomputable def standW (w : World) (t r : Nat) : World := ((w.alloc chan0).alloc chan0).alloc (.cells #[.chan (some t), .chan (some r), .bool false, .bool false] 292)
theorem Ey {o : Oper} (ho : o.op = .makeChan 290 (.const (.int .i64 0))) (fn : FuncId) (a : Act) (w : World) (d : Nat) : (execOp a.eval o).run prog (w.at d) = .ok (.value (.chan (some w.heap.size))) ((w.alloc chan0).at d) /\ DR V (w.at d) ((w.alloc chan0).at d) (listed prog fn a o (w.at d)) := by
 have hi := Option.some_get (show (prog.info? 68).isSome = true by kernel_rfl)
 have ht : ∃ dir, prog.underlying 290 = some (.chan dir 68) := ⟨.both, by kernel_rfl⟩
 obtain ⟨dir, ht⟩ := ht
 have hr := run_makeChan (P := prog) (w := w.at d) ht hi.symm .i64 0 (by decide) (by simp)
 have he := events_makeChan (P := prog) (w := w.at d) ht hi.symm .i64 0 (by decide) (by simp) #[]
 simp only [Int.ofNat_zero, Int.natCast_zero, Int.cast_ofNat_Int] at hr he
 have hn : a.eval (.const (.int .i64 0)) = .int .i64 0 := rfl
 have hv : (execOp a.eval o).events prog (w.at d) #[] = #[] := by
  simp only [execOp, ho, hn, Sem.events_bind, hr, he]
  rfl
 refine ⟨?_, Fk d _ fun ev hm => ?_⟩
 ·simp only [execOp, ho, hn, Sem.run_bind, hr]
  rfl
 ·have hm' := mem_listed hm
  rw [hv] at hm'
  exact absurd hm' (by simp)
theorem stand_new (w : World) :
  CallW prog main V 202 #[] w (fun v w' => ∃ t r, v = .pointer (some ⟨w.heap.size + 2, 0, none⟩) /\ ((t = w.heap.size /\ r = w.heap.size + 1) ∨ (t = w.heap.size + 1 /\ r = w.heap.size)) /\ ∃ d, w' = (standW w t r).at d) := by
 refine Aq func202 rfl fun fr cs => ?_
 simp only [ntmps202, ez, Nat.reduceAdd, Nat.reduceSub]
 refine Ae ?_
 refine Walk.drawn (by kernel_rfl) (by decide) (Q := fun a' w' => (∃ t r, a'.tmps.getD 0 undef = .pointer (some ⟨w.heap.size + 2, 0, none⟩) /\ ((t = w.heap.size /\ r = w.heap.size + 1) ∨ (t = w.heap.size + 1 /\ r = w.heap.size)) /\ ∃ d, w' = (standW w t r).at d) /\ a'.defers = []) (fun d => ?_) ?_
 ·simp only [List.size_toArray, List.length_cons, List.length_nil, Nat.reduceAdd, Nat.zero_add]
  refine anyCH_all (rs := [0, 1]) (by first | kernel_rfl | decide +kernel) (by simp) ?_
  intro i hi
  have hs1 : (w.alloc chan0).heap.size = w.heap.size + 1 := by simp
  obtain rfl | rfl : i = 0 ∨ i = 1 := by simpa using hi
  ·refine Ev (w := w) (W := (w).alloc chan0) rfl (by rfl) (fun d => (Ey (V := V) rfl 202 _ _ d).1) (fun d => (Ey rfl 202 _ _ d).2) (fun d => ⟨trivial, ?_⟩)
   walk_nrm
   refine anyCH_all (rs := [1]) (by first | kernel_rfl | decide +kernel) (by simp) (fun i hi => ?_)
   obtain rfl : i = 1 := by simpa using hi
   refine Ev (w := w.alloc chan0) (W := (w.alloc chan0).alloc chan0) rfl (by rfl) (fun d => (Ey (V := V) rfl 202 _ _ d).1) (fun d => (Ey rfl 202 _ _ d).2) (fun d => ⟨trivial, ?_⟩)
   walk_nrm
   simp only [hs1]
   refine anyCH_all (rs := [2]) (by first | kernel_rfl | decide +kernel) (by simp) (fun i hi => ?_)
   obtain rfl : i = 2 := by simpa using hi
   refine Ev (w := (w.alloc chan0).alloc chan0) (W := (w.alloc chan0).alloc chan0) (x := .agg #[.chan (some w.heap.size), .chan (some (w.heap.size + 1)), .bool false, .bool false]) rfl (by rfl) (fun d => run_eq_of (fun K hK => by go_simp; exact hK)) (fun d => DR.quiet (fun e he => by have hm := mem_listed he; simp [go_sem, *] at hm)) (fun d => ⟨trivial, ?_⟩)
   walk_nrm
   refine anyCH_all (rs := [3]) (by first | kernel_rfl | decide +kernel) (by simp) (fun i hi => ?_)
   obtain rfl : i = 3 := by simpa using hi
   refine Ev (w := (w.alloc chan0).alloc chan0) (W := standW w w.heap.size (w.heap.size + 1)) (x := .pointer (some ⟨w.heap.size + 2, 0, none⟩)) rfl (by rfl) (fun d => run_eq_of (fun K hK => by go_simp; exact hK)) (fun d => Fk d _ (fun e he => by have hm := mem_listed he; simp [go_sem, *] at hm)) (fun d => ⟨trivial, ?_⟩)
   walk_nrm
   refine anyCH_all (rs := [4]) (by first | kernel_rfl | decide +kernel) (by simp) (fun i hi => ?_)
   obtain rfl : i = 4 := by simpa using hi
   refine Ev (w := standW w w.heap.size (w.heap.size + 1)) (W := standW w w.heap.size (w.heap.size + 1)) (x := .pointer (some ⟨w.heap.size + 2, 0, none⟩)) rfl (by rfl) (fun d => run_eq_of (fun K hK => by go_simp; exact hK)) (fun d => DR.quiet (fun e he => by have hm := mem_listed he; simp [go_sem, *] at hm)) (fun d => ⟨trivial, ?_⟩)
   walk_nrm
   refine anyCH_done (by first | kernel_rfl | decide +kernel) ⟨rfl, ⟨_, _, ?_, .inl ⟨rfl, rfl⟩, _, rfl⟩, rfl⟩ _
   simp
  ·refine Ev (w := w) (W := (w).alloc chan0) rfl (by rfl) (fun d => (Ey (V := V) rfl 202 _ _ d).1) (fun d => (Ey rfl 202 _ _ d).2) (fun d => ⟨trivial, ?_⟩)
   walk_nrm
   refine anyCH_all (rs := [0]) (by first | kernel_rfl | decide +kernel) (by simp) (fun i hi => ?_)
   obtain rfl : i = 0 := by simpa using hi
   refine Ev (w := w.alloc chan0) (W := (w.alloc chan0).alloc chan0) rfl (by rfl) (fun d => (Ey (V := V) rfl 202 _ _ d).1) (fun d => (Ey rfl 202 _ _ d).2) (fun d => ⟨trivial, ?_⟩)
   walk_nrm
   simp only [hs1]
   refine anyCH_all (rs := [2]) (by first | kernel_rfl | decide +kernel) (by simp) (fun i hi => ?_)
   obtain rfl : i = 2 := by simpa using hi
   refine Ev (w := (w.alloc chan0).alloc chan0) (W := (w.alloc chan0).alloc chan0) (x := .agg #[.chan (some (w.heap.size + 1)), .chan (some w.heap.size), .bool false, .bool false]) rfl (by rfl) (fun d => run_eq_of (fun K hK => by go_simp; exact hK)) (fun d => DR.quiet (fun e he => by have hm := mem_listed he; simp [go_sem, *] at hm)) (fun d => ⟨trivial, ?_⟩)
   walk_nrm
   refine anyCH_all (rs := [3]) (by first | kernel_rfl | decide +kernel) (by simp) (fun i hi => ?_)
   obtain rfl : i = 3 := by simpa using hi
   refine Ev (w := (w.alloc chan0).alloc chan0) (W := standW w (w.heap.size + 1) w.heap.size) (x := .pointer (some ⟨w.heap.size + 2, 0, none⟩)) rfl (by rfl) (fun d => run_eq_of (fun K hK => by go_simp; exact hK)) (fun d => Fk d _ (fun e he => by have hm := mem_listed he; simp [go_sem, *] at hm)) (fun d => ⟨trivial, ?_⟩)
   walk_nrm
   refine anyCH_all (rs := [4]) (by first | kernel_rfl | decide +kernel) (by simp) (fun i hi => ?_)
   obtain rfl : i = 4 := by simpa using hi
   refine Ev (w := standW w (w.heap.size + 1) w.heap.size) (W := standW w (w.heap.size + 1) w.heap.size) (x := .pointer (some ⟨w.heap.size + 2, 0, none⟩)) rfl (by rfl) (fun d => run_eq_of (fun K hK => by go_simp; exact hK)) (fun d => DR.quiet (fun e he => by have hm := mem_listed he; simp [go_sem, *] at hm)) (fun d => ⟨trivial, ?_⟩)
   walk_nrm
   refine anyCH_done (by first | kernel_rfl | decide +kernel) ⟨rfl, ⟨_, _, ?_, .inr ⟨rfl, rfl⟩, _, rfl⟩, rfl⟩ _
   simp
 ·rintro a' w' ⟨⟨t, r, h, ht, d, rfl⟩, hd⟩
  refine Ae ?_
  exact Ar rfl hd func202 rfl fun d' => ⟨t, r, h, ht, d', rfl⟩
noncomputable def reg168_0 := rk f168.body 0
noncomputable def reg168_1 := rk f168.body 1
noncomputable def reg168_2 := rk f168.body 2
noncomputable def reg168_3 := rk f168.body 3
noncomputable def reg168_4 := rk f168.body 4
theorem size168_4 : reg168_4.size = 11 := by kernel_rfl
noncomputable def reg168_5 := rk f168.body 5
noncomputable def reg168_6 := rk f168.body 6
theorem z168 : reg168_0.size = 1 /\ reg168_1.size = 7 /\ reg168_2.size = 3 /\ reg168_3.size = 1 /\ reg168_4.size = 11 /\ reg168_5.size = 2 /\ reg168_6.size = 2 := by and_intros <;> kernel_rfl
theorem code168_is : f168.body = some (.seq (.region 0 reg168_0 false) (.seq (.region 1 reg168_1 false) (.seq (.seq (.region 2 reg168_2 false) (.block 0 (.loop (.seq (.region 3 reg168_3 false) (.seq (.cond (.tmp 15 ) (.skip) (.exit 0)) (.seq (.block 1 (.region 4 reg168_4 true)) (.region 5 reg168_5 false))))))) (.seq (.region 6 reg168_6 false) (.ret))))) := by kernel_rfl
noncomputable def nt53 (B j n : Nat) (u : Nat -> Value) : Array Value := #[u 0, u 1, u 2, u 3, u 4, .pointer (some ⟨B, 0, none⟩), u 6, u 7, u 8, u 9, u 10, u 11, u 12, .int .i64 n, .int .i64 j, u 15, u 16, u 17, u 18, u 19, u 20, u 21, u 22, u 23, u 24, u 25, u 26, u 27]
def TR (w : World) (t r : Nat) : Prop := (t = w.heap.size /\ r = w.heap.size + 1) ∨ (t = w.heap.size + 1 /\ r = w.heap.size)
structure NT (V : Nat -> Option Wait) (B : Nat) (oa : Option Addr) (on oc n0 : Nat) (xs : List Value) (w : World) : Prop where
 h0 : w.cell? ⟨B, 0, none⟩ = some (.slice oa on oc)
 hz : w.frozen? ⟨B, 0, none⟩ = false
 hf : Dm V ⟨B, 0, none⟩
 own : w.ownsRow n0 286 1 (.slice oa on oc) on xs
 hn0 : n0 <= w.heap.size
 hon : on <= 64
 hap : ∀ g, (Value.slice oa on oc).ownBlock = some g -> Az V g /\ g ≠ B
noncomputable def newW (w : World) (t r : Nat) : World := (standW w t r).alloc (.cells #[.pointer (some ⟨w.heap.size + 2, 0, none⟩)] 286)
structure NT7 (B : Nat) (oa : Option Addr) (on oc n0 : Nat) (xs : List Value) (w : World) (t r g cap : Nat) (w' : World) : Prop where
 own : w'.ownsRow n0 286 1 (.slice (some ⟨g, 0, none⟩) (on + 1) cap) (on + 1) (xs ++ [.pointer (some ⟨w.heap.size + 2, 0, none⟩)])
 grown : (newW w t r).grownBy w' (Value.slice oa on oc).ownBlock
 hat : (Value.slice oa on oc).ownBlock = some g ∨ g = (newW w t r).heap.size
 hlt : g < w'.heap.size
 h0 : w'.cell? ⟨B, 0, none⟩ = some (.slice oa on oc)
 hz : w'.frozen? ⟨B, 0, none⟩ = false
section
variable {B : Nat} {oa : Option Addr} {on oc n0 : Nat} {xs : List Value} {w : World}
theorem NT.stand (H : NT V B oa on oc n0 xs w) (t r : Nat) : (standW w t r).cell? ⟨B, 0, none⟩ = some (.slice oa on oc) /\ (standW w t r).frozen? ⟨B, 0, none⟩ = false :=
 ⟨Aj _ _ (Aj _ _ (Aj _ _ H.h0)), Bp _ _ (Aj _ _ (Aj _ _ H.h0)) (Bp _ _ (Aj _ _ H.h0) (Bp _ _ H.h0 H.hz))⟩
theorem NT.new (H : NT V B oa on oc n0 xs w) (t r : Nat) : (newW w t r).cell? ⟨B, 0, none⟩ = some (.slice oa on oc) /\ (newW w t r).frozen? ⟨B, 0, none⟩ = false :=
 ⟨Aj _ _ (H.stand t r).1, Bp _ _ (H.stand t r).1 (H.stand t r).2⟩
theorem Dy (w : World) (t r : Nat) : (newW w t r).heap.size = w.heap.size + 4 := by simp [newW, standW]
theorem Hu (w : World) (t r : Nat) : (standW w t r).heap.size = w.heap.size + 3 := by simp [standW]
theorem newW_new (w : World) (t r : Nat) : (newW w t r).cell? ((⟨w.heap.size + 3, 0, none⟩ : Addr).add 0) = some (.pointer (some ⟨w.heap.size + 2, 0, none⟩)) := by
 have h := World.cell?_alloc_at (w := standW w t r) #[.pointer (some ⟨w.heap.size + 2, 0, none⟩)] 286 (w.heap.size + 3) 0 (Hu w t r).symm
 simpa [Addr.add, newW] using h
theorem stand_new' (f : Operand -> Value) (w : World) : CallW prog main V 202 (Array.map f #[]) w (fun v w' => ∃ t r, v = .pointer (some ⟨w.heap.size + 2, 0, none⟩) /\ TR w t r /\ ∃ d, w' = (standW w t r).at d) := by
 rw [Array.map_empty]; exact stand_new w
theorem NT.owned (H : NT V B oa on oc n0 xs w) (t r : Nat) : (newW w t r).ownsRow n0 286 1 (.slice oa on oc) on xs :=
 (((H.own.alloc _).alloc _).alloc _).alloc _
end
def ds53 : List Nat := [16, 17, 18, 19, 20, 21, 22, 23, 24, 25]
def vs53 (w : World) (B : Nat) (oa : Option Addr) (on oc g cap : Nat) : List Value := [.pointer (some ⟨B, 0, none⟩), .pointer (some ⟨B, 0, none⟩), .pointer (some ⟨B, 0, none⟩), .pointer (some ⟨B, 0, none⟩), .slice oa on oc, .pointer (some ⟨w.heap.size + 2, 0, none⟩), .slice (some ⟨w.heap.size + 3, 0, none⟩) 1 1, .slice (some ⟨g, 0, none⟩) (on + 1) cap, .pointer (some ⟨B, 0, none⟩), .pointer (some ⟨B, 0, none⟩)]
structure St53 (w : World) (B : Nat) (oa : Option Addr) (on oc n0 : Nat) (xs : List Value) (t r g cap : Nat) (w' : World) (f : Nat -> Bool) (x : World) : Prop where
 s0 : f 5 = false -> ∃ d, x = w.at d
 s5 : f 5 = true -> TR w t r /\ (f 6 = false -> ∃ d, x = (standW w t r).at d)
 s6 : f 6 = true -> f 7 = false -> ∃ d, x = (newW w t r).at d
 s7 : f 7 = true -> NT7 B oa on oc n0 xs w t r g cap w' /\ (f 10 = false -> ∃ d, x = w'.at d)
 s10 : f 10 = true -> ∃ d, x = (w'.setCell ⟨B, 0, none⟩ (.slice (some ⟨g, 0, none⟩) (on + 1) cap)).at d
section
variable {w : World} {B : Nat} {oa : Option Addr} {on oc n0 : Nat} {xs : List Value} {t r g cap : Nat} {w' : World} {f : Nat -> Bool} {x : World}
theorem St53.quiet (h : St53 w B oa on oc n0 xs t r g cap w' f x) {i : Nat} (h5 : i ≠ 5 := by decide) (h6 : i ≠ 6 := by decide) (h7 : i ≠ 7 := by decide) (h10 : i ≠ 10 := by decide) : St53 w B oa on oc n0 xs t r g cap w' (upd f i true) x := by
 refine ⟨?_, ?_, ?_, ?_, ?_⟩
 ·rw [upd_ne _ _ (Ne.symm h5)]; exact h.s0
 ·rw [upd_ne _ _ (Ne.symm h5), upd_ne _ _ (Ne.symm h6)]; exact h.s5
 ·rw [upd_ne _ _ (Ne.symm h6), upd_ne _ _ (Ne.symm h7)]; exact h.s6
 ·rw [upd_ne _ _ (Ne.symm h7), upd_ne _ _ (Ne.symm h10)]; exact h.s7
 ·rw [upd_ne _ _ (Ne.symm h10)]; exact h.s10
theorem facts_keep {dsts : List Nat} {vals : List Value} {u : Nat -> Value} (F : Facts dsts vals f u) {i : Nat} (hd : dsts[i]? = none) : Facts dsts vals (upd f i true) u := by
 intro j d v hf hj hv
 by_cases e : j = i
 ·rw [e, hd] at hj; cases hj
 ·rw [upd_ne _ _ e] at hf
  exact F j d v hf hj hv
theorem facts_turn {dsts : List Nat} {vals vals' : List Value} {u : Nat -> Value} (F : Facts dsts vals f u) (h : ∀ j v, f j = true -> vals'[j]? = some v -> vals[j]? = some v) : Facts dsts vals' f u := fun j d v hf hd hv => F j d v hf hd (h j v hf hv)
end
variable {Stop : Goroutine -> World -> Prop} {k : List Item} {cs : List Frame}
theorem nt_reg (B j n : Nat) (oa : Option Addr) (on oc n0 : Nat) (xs : List Value) (w : World) (H : NT V B oa on oc n0 xs w) {act : Act} (ha : ∃ u, act = ⟨nt53 B j n u, []⟩)
  (hend : ∀ t r g cap w' d u, TR w t r -> NT7 B oa on oc n0 xs w t r g cap w' -> Walk prog main (DR V) Stop (G ((base 168).at ⟨nt53 B j n u, []⟩ (.inRegion reg168_4 [] :: k)) cs) ((w'.setCell ⟨B, 0, none⟩ (.slice (some ⟨g, 0, none⟩) (on + 1) cap)).at d)) :
  Walk prog main (DR V) Stop (G ((base 168).at act (.code (.region 4 reg168_4 true) :: k)) cs) w := by
 obtain ⟨u0, rfl⟩ := ha
 refine Cv (Inv := fun f ac' x => ∃ u t r g cap w', ac' = ⟨nt53 B j n u, []⟩ /\ Facts ds53 (vs53 w B oa on oc g cap) f u /\ St53 w B oa on oc n0 xs t r g cap w' f x) (by kernel_rfl) (by kernel_rfl) (fun d => ⟨u0, 0, 0, 0, 0, w, rfl, Facts.none _ _ _, fun _ => ⟨d, rfl⟩, fun h => (by cases h), fun h => (by cases h), fun h => (by cases h), fun h => (by cases h)⟩) ?_ ?_
 ·rintro f i op act x ⟨u, t, r, g, cap, w', rfl, F0, S⟩ hC hfi ho hdeps rest hr
  have hi : i < 11 := by have := (aEs ho).1; rw [size168_4] at this; exact this
  have no : ∀ {a b : Nat} {l : List Nat}, depB reg168_4 a l = true -> b ∈ l -> f b = false -> f a = false := fun {a b l} h1 h2 h3 => by
   cases h : f a with
   | false => rfl
   | true => rw [hC.deps h h1 b h2] at h3; cases h3
  match i, hi with
  | 0, _ =>
   clear hdeps hC ho no hend
   simp only [nt53] at hr ⊢
   (refine Wq ?_; try walk_nrm)
   refine hr _ _ ⟨upd u 16 (.pointer (some ⟨B, 0, none⟩)), t, r, g, cap, w', ?_, F0.set, S.quiet⟩
   simp [nt53, upd]
  | 1, _ =>
   clear hdeps hC ho no hend
   simp only [nt53] at hr ⊢
   (refine Wq ?_; try walk_nrm)
   refine hr _ _ ⟨upd u 17 (.pointer (some ⟨B, 0, none⟩)), t, r, g, cap, w', ?_, F0.set, S.quiet⟩
   simp [nt53, upd]
  | 2, _ =>
   have hd := qD [1] ho hdeps
   have e17 := F0.g hd 1
   clear hdeps hC ho no hend
   simp only [nt53] at hr ⊢
   simp only [e17]
   (refine Wq ?_; try walk_nrm)
   refine hr _ _ ⟨upd u 18 (.pointer (some ⟨B, 0, none⟩)), t, r, g, cap, w', ?_, F0.set, S.quiet⟩
   simp [nt53, upd, e17]
  | 3, _ =>
   have hd := qD [2] ho hdeps
   have e18 := F0.g hd 2
   clear hdeps hC ho no hend
   simp only [nt53] at hr ⊢
   simp only [e18]
   (refine Wq ?_; try walk_nrm)
   refine hr _ _ ⟨upd u 19 (.pointer (some ⟨B, 0, none⟩)), t, r, g, cap, w', ?_, F0.set, S.quiet⟩
   simp [nt53, upd, e18]
  | 4, _ =>
   have hd := qD [3] ho hdeps
   have e19 := F0.g hd 3
   have c0 : x.cell? ⟨B, 0, none⟩ = some (.slice oa on oc) := by
    have h7 := no (a := 7) (b := 4) (l := [4, 5, 6]) (by kernel_rfl) (by simp) hfi
    cases h5 : f 5 with
    | false => obtain ⟨d, rfl⟩ := S.s0 h5; exact H.h0
    | true =>
     cases h6 : f 6 with
     | false => obtain ⟨d, rfl⟩ := (S.s5 h5).2 h6; exact (H.stand t r).1
     | true => obtain ⟨d, rfl⟩ := S.s6 h6 h7; exact (H.new t r).1
   clear hdeps hC ho no hend
   simp only [nt53] at hr ⊢
   simp only [e19]
   (refine Wq ?_; try walk_nrm)
   refine hr _ _ ⟨upd u 20 (.slice oa on oc), t, r, g, cap, w', ?_, F0.set, S.quiet⟩
   simp [nt53, upd, e19]
  | 5, _ =>
   obtain ⟨d, rfl⟩ := S.s0 hfi
   have h6 := no (a := 6) (b := 5) (l := [5]) (by kernel_rfl) (by simp) hfi
   have h7 := no (a := 7) (b := 5) (l := [4, 5, 6]) (by kernel_rfl) (by simp) hfi
   have h10 := no (a := 10) (b := 7) (l := [9, 7]) (by kernel_rfl) (by simp) h7
   refine Walk.back ?_ d
   clear hdeps hC ho no hend
   simp only [nt53] at hr ⊢
   refine Af (stand_new' _ w) Ah (by rfl) (by decide) rfl func202 (by kernel_rfl) (by rfl) ?_
   rintro v w₁ ⟨t, r, rfl, ht, d₁, rfl⟩
   walk_nrm
   refine hr _ _ ⟨upd u 21 (.pointer (some ⟨w.heap.size + 2, 0, none⟩)), t, r, g, cap, w', ?_, F0.set, fun h => ?_, fun _ => ⟨ht, fun _ => ⟨d₁, rfl⟩⟩, fun h => ?_, fun h => ?_, fun h => ?_⟩
   ·simp [nt53, upd]
   ·rw [upd_same] at h; cases h
   ·rw [upd_ne _ _ (by decide), h6] at h; cases h
   ·rw [upd_ne _ _ (by decide), h7] at h; cases h
   ·rw [upd_ne _ _ (by decide), h10] at h; cases h
  | 6, _ =>
   have hd := qD [5] ho hdeps
   have e21 := F0.g hd 5
   obtain ⟨ht, h5⟩ := S.s5 (hd 5 (by simp))
   obtain ⟨d, rfl⟩ := h5 hfi
   have h5 := hd 5 (by simp)
   have h7 := no (a := 7) (b := 6) (l := [4, 5, 6]) (by kernel_rfl) (by simp) hfi
   have h10 := no (a := 10) (b := 7) (l := [9, 7]) (by kernel_rfl) (by simp) h7
   have hsz := Hu w t r
   refine Walk.back ?_ d
   clear hdeps hC ho no hend
   simp only [nt53] at hr ⊢
   simp only [e21]
   (refine Wa ?_; try walk_nrm)
   try simp only [hsz]
   refine hr _ (newW w t r) ⟨upd u 22 (.slice (some ⟨w.heap.size + 3, 0, none⟩) 1 1), t, r, g, cap, w', ?_, F0.set, fun h => ?_, fun _ => ⟨ht, fun h => ?_⟩, fun _ _ => ⟨(newW w t r).drawn, rfl⟩, fun h => ?_, fun h => ?_⟩
   ·simp [nt53, upd, e21]
   ·rw [upd_ne _ _ (by decide), h5] at h; cases h
   ·rw [upd_same] at h; cases h
   ·rw [upd_ne _ _ (by decide), h7] at h; cases h
   ·rw [upd_ne _ _ (by decide), h10] at h; cases h
  | 7, _ =>
   have hd := qD [4, 5, 6] ho hdeps
   have e20 := F0.g hd 4
   have e22 := F0.g hd 6
   obtain ⟨d, rfl⟩ := S.s6 (hd 6 (by simp)) hfi
   have ht := (S.s5 (hd 5 (by simp))).1
   have h5 := hd 5 (by simp)
   have h6 := hd 6 (by simp)
   have h10 := no (a := 10) (b := 7) (l := [9, 7]) (by kernel_rfl) (by simp) hfi
   refine Walk.back ?_ d
   clear hdeps hC ho no hend
   simp only [nt53] at hr ⊢
   simp only [e20, e22]
   have hi161 := Option.some_get (show (prog.info? 286).isSome = true by kernel_rfl)
   refine Walk.append (.tmp 20) (.tmp 22) 251 Ah (by rfl) (by decide) rfl n0 286 _ (.pointer none) 1 8 (by kernel_rfl) hi161.symm (by rfl) (by rfl) (by rfl) (by rfl) (by decide) (.slice oa on oc) on xs rfl (H.owned t r) ⟨w.heap.size + 3, 0, none⟩ 1 1 [.pointer (some ⟨w.heap.size + 2, 0, none⟩)] rfl (by rfl) (fun y v hv => ?_) (by simp [Value.oneCell']) (by decide) (by have := H.hon; simp [maxLen]; omega) (by have := H.hon; omega) (by have := H.hn0; rw [Dy]; omega) (fun g hg => (H.hap g hg).1) (fun g cap w' hown hg hat hlt => ?_)
   ·obtain rfl : y = 0 := by rcases y with _ | y <;> simp at hv ⊢
    simp at hv; subst hv; exact newW_new w t r
   have hB : some B ≠ (Value.slice oa on oc).ownBlock := fun e => (H.hap B e.symm).2 rfl
   have hn := H.new t r
   walk_nrm
   refine hr _ _ ⟨upd u 23 (.slice (some ⟨g, 0, none⟩) (on + 1) cap), t, r, g, cap, w', ?_, Facts.set (facts_turn F0 fun j v hf hv => ?_) (by decide) rfl rfl, fun h => ?_, fun _ => ⟨ht, fun h => ?_⟩, fun _ h => ?_, fun _ => ⟨⟨hown, hg, hat, hlt, (hg.cell_far _ (Cn _ hn.1) hB).trans hn.1, (hg.frozen_far _ (Cn _ hn.1) hB).trans hn.2⟩, fun _ => ⟨w'.drawn, rfl⟩⟩, fun h => ?_⟩
   ·simp [nt53, upd, e20, e22]
   ·exact match j, hf, hv with
     | 0, _, hv => hv
     | 1, _, hv => hv
     | 2, _, hv => hv
     | 3, _, hv => hv
     | 4, _, hv => hv
     | 5, _, hv => hv
     | 6, _, hv => hv
     | 7, hf, hv => by rw [hfi] at hf; cases hf
     | 8, _, hv => hv
     | 9, _, hv => hv
     | j + 10, _, hv => hv
   ·rw [upd_ne _ _ (by decide), h5] at h; cases h
   ·rw [upd_ne _ _ (by decide), h6] at h; cases h
   ·rw [upd_same] at h; cases h
   ·rw [upd_ne _ _ (by decide), h10] at h; cases h
  | 8, _ =>
   have hd := qD [0] ho hdeps
   have e16 := F0.g hd 0
   clear hdeps hC ho no hend
   simp only [nt53] at hr ⊢
   simp only [e16]
   (refine Wq ?_; try walk_nrm)
   refine hr _ _ ⟨upd u 24 (.pointer (some ⟨B, 0, none⟩)), t, r, g, cap, w', ?_, F0.set, S.quiet⟩
   simp [nt53, upd, e16]
  | 9, _ =>
   have hd := qD [8] ho hdeps
   have e24 := F0.g hd 8
   clear hdeps hC ho no hend
   simp only [nt53] at hr ⊢
   simp only [e24]
   (refine Wq ?_; try walk_nrm)
   refine hr _ _ ⟨upd u 25 (.pointer (some ⟨B, 0, none⟩)), t, r, g, cap, w', ?_, F0.set, S.quiet⟩
   simp [nt53, upd, e24]
  | 10, _ =>
   have hd := qD [9, 7] ho hdeps
   have e25 := F0.g hd 9
   have e23 := F0.g hd 7
   obtain ⟨h7, h⟩ := S.s7 (hd 7 (by simp))
   obtain ⟨d, rfl⟩ := h hfi
   have f7 := hd 7 (by simp)
   have f6 := hC.deps f7 (l := [4, 5, 6]) (by kernel_rfl) 6 (by simp)
   have f5 := hC.deps f7 (l := [4, 5, 6]) (by kernel_rfl) 5 (by simp)
   have ht := (S.s5 f5).1
   have hcf := H.hf
   have hc := h7.h0
   have hcz := h7.hz
   refine Walk.back ?_ d
   clear hdeps hC ho no hend
   simp only [nt53] at hr ⊢
   simp only [e25, e23]
   (refine Ws hcf hc ?_; try walk_nrm)
   refine hr _ _ ⟨u, t, r, g, cap, w', ?_, facts_keep F0 rfl, fun h => ?_, fun _ => ⟨ht, fun h => ?_⟩, fun _ h => ?_, fun _ => ⟨h7, fun h => ?_⟩, fun _ => ⟨(w'.setCell ⟨B, 0, none⟩ (.slice (some ⟨g, 0, none⟩) (on + 1) cap)).drawn, rfl⟩⟩
   ·simp [nt53, e25, e23]
   ·rw [upd_ne _ _ (by decide), f5] at h; cases h
   ·rw [upd_ne _ _ (by decide), f6] at h; cases h
   ·rw [upd_ne _ _ (by decide), f7] at h; cases h
   ·rw [upd_same] at h; cases h
 ·rintro f act x ⟨u, t, r, g, cap, w', rfl, F0, S⟩ hall
  have g : ∀ j, j < 11 -> f j = true := fun j hj => hall j (by rw [size168_4]; exact hj)
  obtain ⟨d, rfl⟩ := S.s10 (g 10 (by decide))
  exact hend _ _ _ _ _ _ _ (S.s5 (g 5 (by decide))).1 (S.s7 (g 7 (by decide))).1
end
section
variable {main : Bool} {V : Nat -> Option Wait}
noncomputable def hd53 (B j n : Nat) (u : Nat -> Value) : Frame :=
 (base 168).at { tmps := #[u 0, u 1, u 2, u 3, u 4, .pointer (some ⟨B, 0, none⟩), u 6, u 7, u 8, u 9, u 10, u 11, u 12, .int .i64 n, .int .i64 j, u 15, u 16, u 17, u 18, u 19, u 20, u 21, u 22, u 23, u 24, u 25, u 26, u 27], defers := [] } [.code (.seq (.region 3 reg168_3 false) (.seq (.cond (.tmp 15 ) (.skip) (.exit 0)) (.seq (.block 1 (.region 4 reg168_4 true)) (.region 5 reg168_5 false)))), .inLoop (.seq (.region 3 reg168_3 false) (.seq (.cond (.tmp 15 ) (.skip) (.exit 0)) (.seq (.block 1 (.region 4 reg168_4 true)) (.region 5 reg168_5 false)))), .inBlock 0, .code (.seq (.region 6 reg168_6 false) (.ret))]
theorem slots53 {b : Frame} {A : Array Value} {todo : List Item} {cs : List Frame} {F : (Nat -> Value) -> Goroutine} (h : G (b.at ⟨A, []⟩ todo) cs = F (fun k => A.getD k undef)) : ∃ u, G (b.at ⟨A, []⟩ todo) cs = F u := ⟨_, h⟩
theorem act53 {A : Array Value} {T : (Nat -> Value) -> Array Value} (h : A = T (fun k => A.getD k undef)) : ∃ u, (⟨A, []⟩ : Act) = ⟨T u, []⟩ := ⟨_, congrArg (fun x => (⟨x, []⟩ : Act)) h⟩
noncomputable def turnW (w : World) (n : Nat) (most : Int) : World := w.alloc (.cells #[.slice none 0 0, .int .i64 n, .int .i64 (min (max most 0) 1048576), .slice none 0 0] 253)
theorem nt_in (n tcap : Nat) (ta : Option Addr) (most : Int) (cs : List Frame) (w : World) :
  Walk prog main (DR V) (fun g w' => (∃ u, g = G (hd53 w.heap.size 0 n u) cs) /\ ∃ d, w' = (turnW w n most).at d) (G (Frame.enter prog 168 #[.slice ta n tcap, .int .i64 most] .normal) cs) w := by
 rw [enter_at _ func168 code168_is]
 simp only [ntmps168, ez, Nat.reduceAdd, Nat.reduceSub]
 refine Aa z168 ?_
 refine qV (x := .int .i64 (min (max most 0) 1048576)) (W := w) func201 ?_ ?_
 ·walk_nrm
  exact clampMost_w most w
 walk_nrm
 refine Aa z168 ?_
 (refine Wa ?_; try walk_nrm)
 refine Aa z168 ?_
 refine cLp ?_
 refine .stop fun d => ⟨slots53 ?_, d, rfl⟩
 simp only [hd53]
 rfl
theorem nt_go (B j n : Nat) (oa : Option Addr) (on oc n0 : Nat) (xs : List Value) (u : Nat -> Value) (cs : List Frame) (w : World) (hj : j < n) (hn : n <= 64) (H : NT V B oa on oc n0 xs w) :
  Walk prog main (DR V) (fun g w'' => ∃ t r g' cap w', TR w t r /\ NT7 B oa on oc n0 xs w t r g' cap w' /\ (∃ u', g = G (hd53 B (j + 1) n u') cs) /\ ∃ d, w'' = (w'.setCell ⟨B, 0, none⟩ (.slice (some ⟨g', 0, none⟩) (on + 1) cap)).at d) (G (hd53 B j n u) cs) w := by
 have hi1 : decide ((j : Int) < n) = true := by simp; omega
 have hi3 : decide (j < n) = true := by simp; omega
 have hw1 := wI ((j : Int) + 1)
 have hc : ((j + 1 : Nat) : Int) = (j : Int) + 1 := by simp
 conv => arg 5; unfold hd53
 refine Aa z168 ?_
 refine nt_reg B j n oa on oc n0 xs w H (act53 (by simp only [nt53]; rfl)) fun t r g cap w' d u ht h7 => ?_
 refine Walk.back ?_ d
 simp only [nt53]
 refine Aa z168 ?_
 refine cIL ?_
 refine .stop fun d' => ⟨t, r, g, cap, w', ht, h7, slots53 ?_, d', rfl⟩
 simp only [hd53, hc]
 rfl
theorem nt_out (B n : Nat) (u : Nat -> Value) (c : Frame) (cs : List Frame) (w : World) :
  Walk prog main (DR V) (fun g w' => g = G (c.finish (.pointer (some ⟨B, 0, none⟩))) cs /\ ∃ d, w' = w.at d) (G (hd53 B n n u) (c :: cs)) w := by
 have hi1 : decide ((n : Int) < n) = false := by simp
 have hi3 : decide (n < n) = false := by simp
 conv => arg 5; unfold hd53
 refine Aa z168 ?_
 exact (Ar (Post := fun v w' => v = .pointer (some ⟨B, 0, none⟩) /\ ∃ d, w' = w.at d) rfl rfl func168 rfl fun d => ⟨by simp, d, rfl⟩).mono fun g w' ⟨v, ⟨e, d, e'⟩, hg⟩ => ⟨by rw [hg, e], d, e'⟩
end
section
variable {V : Nat -> Option Wait} {B : Nat} {oa : Option Addr} {on oc n0 : Nat} {xs : List Value} {w : World} {t r g cap : Nat} {w' : World}
noncomputable def ntW (B on g cap : Nat) (w' : World) : World := w'.setCell ⟨B, 0, none⟩ (.slice (some ⟨g, 0, none⟩) (on + 1) cap)
theorem NT7.ne (H : NT V B oa on oc n0 xs w) (h7 : NT7 B oa on oc n0 xs w t r g cap w') : g ≠ B := fun e => by
 rcases h7.hat with h | h
 ·exact (H.hap g h).2 e
 ·have := Cn w H.h0; rw [Dy] at h; simp only at this; omega
theorem NT7.size (h7 : NT7 B oa on oc n0 xs w t r g cap w') : w.heap.size + 4 <= (ntW B on g cap w').heap.size := by
 have h := h7.grown.size
 rw [Dy] at h
 unfold ntW
 rw [Go.Deep.nblk_setCell]
 exact h
theorem NT.next (H : NT V B oa on oc n0 xs w) (hlt : on < 64) (hA : ∀ b, w.heap.size <= b -> Az V b) (h7 : NT7 B oa on oc n0 xs w t r g cap w') :
  NT V B (some ⟨g, 0, none⟩) (on + 1) cap n0 (xs ++ [.pointer (some ⟨w.heap.size + 2, 0, none⟩)]) (ntW B on g cap w') := by
 refine ⟨World.cell?_setCell_same w' ⟨B, 0, none⟩ _ h7.h0, (World.frozen?_setCell ..).trans h7.hz, H.hf, h7.own.kept (row := some B) ⟨rfl, rfl, rfl, Nat.le_of_eq (Go.Deep.nblk_setCell ..).symm, fun b _ hb => Go.Deep.blk_setCell_other _ _ _ b (fun e => hb (by rw [e]))⟩ (.inr (by simp [Value.ownBlock, h7.ne H])), ?_, by omega, fun b hb => ?_⟩
 ·have := h7.size; have := H.hn0; omega
 ·obtain rfl : g = b := by simpa [Value.ownBlock] using hb
  refine ⟨?_, h7.ne H⟩
  rcases h7.hat with h | h
  ·exact (H.hap _ h).1
  ·exact hA _ (by rw [Dy] at h; omega)
theorem NT7.block (h7 : NT7 B oa on oc n0 xs w t r g cap w') {b : Nat} (hb : b < w.heap.size) (hbB : b ≠ B) (hbo : some b ≠ (Value.slice oa on oc).ownBlock) : (ntW B on g cap w').heap[b]? = w.heap[b]? := by
 have e4 : (newW w t r).heap[b]? = w.heap[b]? := by
  unfold newW standW
  rw [Below.heap_alloc _ _ _ (by simp; omega), Below.heap_alloc _ _ _ (by simp; omega), Below.heap_alloc _ _ _ (by simp; omega), Below.heap_alloc _ _ _ hb]
 exact (Go.Deep.blk_setCell_other _ _ _ b hbB).trans ((h7.grown.block b (by rw [Dy]; omega) hbo).trans e4)
theorem NT7.stand (h7 : NT7 B oa on oc n0 xs w t r g cap w') (hB : B < w.heap.size) (hown : ∀ b, (Value.slice oa on oc).ownBlock = some b -> b < w.heap.size) {b : Nat} (hb : w.heap.size <= b) (hb2 : b < w.heap.size + 3) : (ntW B on g cap w').heap[b]? = (standW w t r).heap[b]? := by
 have e4 : (newW w t r).heap[b]? = (standW w t r).heap[b]? := by
  unfold newW
  exact Below.heap_alloc _ _ _ (by rw [Hu]; exact hb2)
 exact (Go.Deep.blk_setCell_other _ _ _ b (by simp only; omega)).trans ((h7.grown.block b (by rw [Dy]; omega) (fun e => by have := hown b e.symm; omega)).trans e4)
structure StandIs (w : World) (n0 : Nat) (s : Nat × Nat × Nat) : Prop where
 c0 : w.heap[s.1]? = some chan0
 c1 : w.heap[s.1 + 1]? = some chan0
 cells : w.heap[s.1 + 2]? = some (.cells #[.chan (some s.2.1), .chan (some s.2.2), .bool false, .bool false] 292)
 tr : (s.2.1 = s.1 /\ s.2.2 = s.1 + 1) ∨ (s.2.1 = s.1 + 1 /\ s.2.2 = s.1)
 lo : n0 <= s.1
 hi : s.1 + 3 <= w.heap.size
structure Built (w : World) (B n0 : Nat) (v : Value) (sts : List (Nat × Nat × Nat)) : Prop where
 all : ∀ s ∈ sts, StandIs w n0 s
 apart : sts.Pairwise (fun s s' => s.1 + 3 <= s'.1)
 list : ∀ b, v.ownBlock = some b -> b < w.heap.size /\ n0 <= b /\ ∀ s ∈ sts, b < s.1 ∨ s.1 + 3 <= b
 low : B < n0
theorem standW_blocks (w : World) (t r : Nat) : (standW w t r).heap[w.heap.size]? = some chan0 /\ (standW w t r).heap[w.heap.size + 1]? = some chan0 /\ (standW w t r).heap[w.heap.size + 2]? = some (.cells #[.chan (some t), .chan (some r), .bool false, .bool false] 292) := by
 have e1 : (w.alloc chan0).heap.size = w.heap.size + 1 := by simp
 have e2 : ((w.alloc chan0).alloc chan0).heap.size = w.heap.size + 2 := by simp
 unfold standW
 refine ⟨?_, ?_, ?_⟩
 ·rw [Below.heap_alloc _ _ _ (by omega), Below.heap_alloc _ _ _ (by omega)]; exact hAw w _
 ·rw [Below.heap_alloc _ _ _ (by omega), <- e1]; exact hAw _ _
 ·rw [<- e2]; exact hAw _ _
theorem Built.next {sts : List (Nat × Nat × Nat)} (H : NT V B oa on oc n0 xs w) (hT : TR w t r) (h7 : NT7 B oa on oc n0 xs w t r g cap w') (hb : Built w B n0 (.slice oa on oc) sts) :
  Built (ntW B on g cap w') B n0 (.slice (some ⟨g, 0, none⟩) (on + 1) cap) (sts ++ [(w.heap.size, t, r)]) := by
 have hn := H.hn0
 have hB := hb.low
 have hs := h7.size
 have hg : (Value.slice oa on oc).ownBlock = some g ∨ g = w.heap.size + 4 := by have h := h7.hat; rwa [Dy] at h
 have hlt : g < (ntW B on g cap w').heap.size := by unfold ntW; rw [Go.Deep.nblk_setCell]; exact h7.hlt
 have hold : ∀ s ∈ sts, ∀ b, s.1 <= b -> b < s.1 + 3 -> (ntW B on g cap w').heap[b]? = w.heap[b]? := fun s hm b h1 h2 => by
  have hi := hb.all s hm
  have := hi.lo; have := hi.hi
  refine h7.block (by omega) (by omega) fun e => ?_
  rcases (hb.list b e.symm).2.2 s hm with h | h <;> omega
 have hnew : ∀ b, w.heap.size <= b -> b < w.heap.size + 3 -> (ntW B on g cap w').heap[b]? = (standW w t r).heap[b]? := fun b h1 h2 => h7.stand (by omega) (fun b e => (hb.list b e).1) h1 h2
 obtain ⟨q0, q1, q2⟩ := standW_blocks w t r
 refine ⟨fun s hm => ?_, ?_, fun b e => ?_, hB⟩
 ·rcases List.mem_append.1 hm with hm | hm
  ·have hi := hb.all s hm
   have := hi.lo; have := hi.hi
   exact ⟨(hold s hm _ (by omega) (by omega)).trans hi.c0, (hold s hm _ (by omega) (by omega)).trans hi.c1, (hold s hm _ (by omega) (by omega)).trans hi.cells, hi.tr, hi.lo, by omega⟩
  ·obtain rfl : s = (w.heap.size, t, r) := by simpa using hm
   exact ⟨(hnew _ (by simp) (by simp)).trans q0, (hnew _ (by simp) (by simp)).trans q1, (hnew _ (by simp) (by simp)).trans q2, hT, hn, by simp only; omega⟩
 ·refine List.pairwise_append.2 ⟨hb.apart, by simp, fun s hm s' hm' => ?_⟩
  obtain rfl : s' = (w.heap.size, t, r) := by simpa using hm'
  exact (hb.all s hm).hi
 ·obtain rfl : g = b := by simpa [Value.ownBlock] using e
  refine ⟨hlt, ?_, fun s hm => ?_⟩
  ·rcases hg with h | h
   ·exact (hb.list _ h).2.1
   ·omega
  ·rcases List.mem_append.1 hm with hm | hm
   ·rcases hg with h | h
    ·exact (hb.list _ h).2.2 s hm
    ·have := (hb.all s hm).hi; omega
   ·obtain rfl : s = (w.heap.size, t, r) := by simpa using hm
    rcases hg with h | h
    ·have := (hb.list _ h).1; simp only; omega
    ·simp only; omega
end
section
variable {main : Bool} {V : Nat -> Option Wait} {B n0 : Nat}
def sp (s : Nat × Nat × Nat) : Value := .pointer (some ⟨s.1 + 2, 0, none⟩)
structure Rest53 (B n0 : Nat) (w w0 : World) : Prop where
 low : ∀ b, b < n0 -> b ≠ B -> w0.heap[b]? = w.heap[b]?
 cell : ∀ i, i ≠ 0 -> w0.cell? ⟨B, i, none⟩ = w.cell? ⟨B, i, none⟩ /\ w0.frozen? ⟨B, i, none⟩ = w.frozen? ⟨B, i, none⟩
 size : w.heap.size <= w0.heap.size
theorem rest_one {oa : Option Addr} {on oc t r g cap : Nat} {xs : List Value} {w w' : World} {sts : List (Nat × Nat × Nat)} (H : NT V B oa on oc n0 xs w) (h7 : NT7 B oa on oc n0 xs w t r g cap w') (hb : Built w B n0 (.slice oa on oc) sts) : Rest53 B n0 w (ntW B on g cap w') := by
 have hn := H.hn0
 have hB := hb.low
 have hs := h7.size
 refine ⟨fun b hlt hne => h7.block (by omega) hne fun e => ?_, fun i hi => ?_, by omega⟩
 ·have := (hb.list b e.symm).2.1; omega
 ·have hBo : some B ≠ (Value.slice oa on oc).ownBlock := fun e => (H.hap B e.symm).2 rfl
  have e4 : (newW w t r).heap[B]? = w.heap[B]? := by
   unfold newW standW
   rw [Below.heap_alloc _ _ _ (by simp; omega), Below.heap_alloc _ _ _ (by simp; omega), Below.heap_alloc _ _ _ (by simp; omega), Below.heap_alloc _ _ _ (by omega)]
  have e5 : w'.heap[B]? = w.heap[B]? := (h7.grown.block B (by rw [Dy]; omega) hBo).trans e4
  exact ⟨(World.cell?_setCell_other w' ⟨B, 0, none⟩ ⟨B, i, none⟩ _ (by simp [Ne.symm hi])).trans (cBk e5), (World.frozen?_setCell ..).trans (World.frozen?_of_block e5)⟩
theorem Rest53.trans {a b c : World} (h : Rest53 B n0 a b) (k : Rest53 B n0 b c) : Rest53 B n0 a c :=
 ⟨fun x h1 h2 => (k.low x h1 h2).trans (h.low x h1 h2), fun i hi => ⟨(k.cell i hi).1.trans (h.cell i hi).1, (k.cell i hi).2.trans (h.cell i hi).2⟩, Nat.le_trans h.size k.size⟩
theorem nt_loop (n : Nat) (hn : n <= 64) (hA : ∀ b, n0 <= b -> Az V b) (cs : List Frame) : ∀ (k j : Nat), j + k = n -> ∀ (oa : Option Addr) (oc : Nat) (sts : List (Nat × Nat × Nat)) (u : Nat -> Value) (w : World),
  NT V B oa j oc n0 (sts.map sp) w -> Built w B n0 (.slice oa j oc) sts -> sts.length = j ->
  Walk prog main (DR V) (fun g w' => ∃ oa' oc' sts' u' w0 d, w' = w0.at d /\ g = G (hd53 B n n u') cs /\ NT V B oa' n oc' n0 (sts'.map sp) w0 /\ Built w0 B n0 (.slice oa' n oc') sts' /\ sts'.length = n /\ Rest53 B n0 w w0) (G (hd53 B j n u) cs) w := by
 intro k
 induction k with
 | zero =>
  intro j hj oa oc sts u w H hb hl
  obtain rfl : j = n := by omega
  exact .stop fun d => ⟨oa, oc, sts, u, w, d, rfl, rfl, H, hb, hl, ⟨fun _ _ _ => rfl, fun _ _ => ⟨rfl, rfl⟩, Nat.le_refl _⟩⟩
 | succ k ih =>
  intro j hj oa oc sts u w H hb hl
  refine (nt_go B j n oa j oc n0 (sts.map sp) u cs w (by omega) hn H).then ?_
  rintro _ _ ⟨t, r, g', cap, w', ht, h7, ⟨u', rfl⟩, d, rfl⟩
  refine Walk.back ?_ d
  have H' := NT.next H (by omega) (fun b hb' => hA b (Nat.le_trans H.hn0 hb')) h7
  have hb' := Built.next H ht h7 hb
  have hr := rest_one H h7 hb
  have hm : sts.map sp ++ [.pointer (some ⟨w.heap.size + 2, 0, none⟩)] = (sts ++ [(w.heap.size, t, r)]).map sp := by simp [sp]
  rw [hm] at H'
  refine (ih (j + 1) (by omega) _ _ _ u' _ H' hb' (by simp [hl])).mono ?_
  rintro g w1 ⟨oa', oc', sts', u'', w0, d', e, eg, h1, h2, h3, h4⟩
  exact ⟨oa', oc', sts', u'', w0, d', e, eg, h1, h2, h3, hr.trans h4⟩
end
section
variable {main : Bool} {V : Nat -> Option Wait}
theorem nt_all (n tcap : Nat) (ta : Option Addr) (most : Int) (hn : n <= 64) (w : World) (hA : ∀ b, w.heap.size <= b -> Az V b) (c : Frame) (cs : List Frame) :
  Walk prog main (DR V) (fun g w' => ∃ oa oc sts w0 d, w' = w0.at d /\ g = G (c.finish (.pointer (some ⟨w.heap.size, 0, none⟩))) cs /\ NT V w.heap.size oa n oc (w.heap.size + 1) (sts.map sp) w0 /\ Built w0 w.heap.size (w.heap.size + 1) (.slice oa n oc) sts /\ sts.length = n /\ Rest53 w.heap.size (w.heap.size + 1) (turnW w n most) w0)
   (G (Frame.enter prog 168 #[.slice ta n tcap, .int .i64 most] .normal) (c :: cs)) w := by
 refine (nt_in n tcap ta most (c :: cs) w).then ?_
 rintro _ _ ⟨⟨u0, rfl⟩, d, rfl⟩
 refine Walk.back ?_ d
 have hs : (turnW w n most).heap.size = w.heap.size + 1 := by simp [turnW]
 have H : NT V w.heap.size none 0 0 (w.heap.size + 1) (([] : List (Nat × Nat × Nat)).map sp) (turnW w n most) := by
  refine ⟨?_, ?_, (hA _ (Nat.le_refl _)).1 _ rfl, World.ownsRow_nil .., by omega, by omega, fun g hg => by simp [Value.ownBlock] at hg⟩
  ·exact World.cell?_alloc_at (w := w) #[.slice none 0 0, .int .i64 n, .int .i64 (min (max most 0) 1048576), .slice none 0 0] 253 w.heap.size 0 rfl
  ·exact World.frozen?_alloc_at (w := w) #[.slice none 0 0, .int .i64 n, .int .i64 (min (max most 0) 1048576), .slice none 0 0] 253 w.heap.size 0 rfl
 have hb : Built (turnW w n most) w.heap.size (w.heap.size + 1) (.slice none 0 0) [] := ⟨by simp, by simp, fun b e => by simp [Value.ownBlock] at e, by omega⟩
 refine (nt_loop n hn (fun b hb => hA b (by omega)) (c :: cs) n 0 (by omega) none 0 [] u0 _ H hb rfl).then ?_
 rintro _ _ ⟨oa, oc, sts, u, w0, d', rfl, rfl, h1, h2, h3, h4⟩
 refine Walk.back ?_ d'
 refine (nt_out w.heap.size n u c cs w0).mono ?_
 rintro g w1 ⟨rfl, d2, rfl⟩
 exact ⟨oa, oc, sts, w0, d2, rfl, rfl, h1, h2, h3, h4⟩
end
end Go.Proofs.Ytflcclneedldoaa
