/- Part 29. -/
import Derived.Test.YtjenoiekfkhafaaJ9
import Derived.Test.YtjenoiekfkhafaaJ12
import Derived.Test.YtjenoiekfkhafaaJ13
import Derived.Test.YtjenoiekfkhafaaJ27
import Derived.Test.YtjenoiekfkhafaaJ28
import Derived.Test.YtjenoiekfkhafaaRows
import Derived.Conc.LeavingOf
import Derived.Lib.SmallJoins
import Derived.Handy
import Derived.SizedLaws
import Derived.Carry
import Derived.Deep.Slices
import Derived.Deep.Fields
set_option linter.unusedSimpArgs false
set_option linter.unusedVariables false
set_option linter.unusedVariables false
set_option maxHeartbeats 8000000
set_option maxRecDepth 100000
namespace Go.Proofs.Ytjenoiekfkhafaa
open Go.Conc Go.RowKit Go.Relay
open Go.ConcN (upd upd_ne upd_same)
structure Closing (f : FuncId) (t : Tmp) (v : Value) (g : Goroutine) : Prop where
 all : ∃ fr, g = G fr [] ∧ fr.mode = .returning ∧ fr.kind = .normal ∧ fr.defers = [] ∧ fr.fn = f ∧ fr.tmps.getD t undef = v
theorem fixed_run (c : Frame) (cs : List Frame) (w : World) : Runs (fun g w' => g = G (c.finish (.bool true)) cs ∧ (∀ b, b < w.heap.size → w'.heap[b]? = w.heap[b]?) ∧ w.heap.size ≤ w'.heap.size) (G (Frame.enter Try.prog 12 #[] .normal) (c :: cs)) w := by
 refine Runs.walk (fixed_in c cs w) ?_
 rintro _ w1 ⟨fr, rfl, O1, Z1, ha1, hw1, I1, hs1, hB⟩
 refine Runs.then (splay_any _ [1, 2] (by decide) (.slice (some ⟨w.heap.size + 3, 0, none⟩) 2 2) 99 (some ⟨w.heap.size + 3, 0, none⟩) (w.heap.size + 3) 0 2 2 (fun _ => rfl) (by decide) _ _ _ _ (some ⟨w.heap.size + 4, 0, none⟩) 9 fxSl (by decide) fr (c :: cs) w1 (fx_lsR hw1) I1 (fun j z hz => ⟨_, 0, rfl, hs1 j z hz⟩) (fun w' _ => firstOps_some _ 2 2 w' (by decide) (.inr ⟨_, rfl⟩))) ?_
 rintro _ w2 ⟨cells, H, rfl⟩
 have O2 := H.old
 have Z2 := H.size
 have hT := H.tr.tr
 rw [fx_state] at hT
 have l1 := (Array.getElem?_eq_some_iff.1 ha1).1
 refine Runs.walk (hB cells _ _ _ w2 hT (fx_run _) ((O2 _ l1).trans ha1)) ?_
 rintro _ w3 ⟨fr2, b, o, ac, b0, o0, tc0, sb, so, sc, v1, rfl, O3, Z3, C3, hw3, I3, hs3, hB3⟩
 refine Runs.then (splay_any _ [1, 2] (by decide) (.slice (some ⟨w2.heap.size + 3, 0, none⟩) 2 2) 99 (some ⟨w2.heap.size + 3, 0, none⟩) (w2.heap.size + 3) 0 2 2 (fun _ => rfl) (by decide) _ _ _ _ (some ⟨w2.heap.size + 4, 0, none⟩) 7 fySl (by decide) fr2 (c :: cs) w3 (fx_lsR hw3) I3 (fun j z hz => ⟨_, 0, rfl, hs3 j z hz⟩) (fun w' _ => firstOps_some _ 2 2 w' (by decide) (.inr ⟨_, rfl⟩))) ?_
 rintro _ w4 ⟨cells4, H4, rfl⟩
 have O4 := H4.old
 have Z4 := H4.size
 refine Runs.walk (hB3 cells4 _ _ _ _ w4 (C3.old O4) H4.tr.tr (fy_run _)) ?_
 rintro _ w5 ⟨rfl, O5, Z5⟩
 exact .now ⟨rfl, fun b hb => (O5 b (by omega)).trans ((O4 b (by omega)).trans ((O3 b (by omega)).trans ((O2 b (by omega)).trans (O1 b hb)))), by omega⟩
section
section
variable {b : Frame} {k : List Item} {cs : List Frame} {ops : Array Oper} {Post : Goroutine → World → Prop}
theorem Runs.drawnR {id : Nat} {a : Act} {w : World} {Inv : (Nat → Bool) → Act → World → Prop} (hm : Try.prog.follows .mixedOrders = true) (hlow : lowW ops = true) (h0 : ∀ d, Inv (fun _ => false) a (w.at d))
  (hop : ∀ f i o a w, Inv f a w → Closed ops f → f i = false → ops[i]? = some o → (∀ x ∈ o.after, Region.binds .any x = true → f x.on = true) → ∀ rest, (∀ a' w', Inv (upd f i true) a' w' → Runs Post (G (b.at a' (.inRegion ops rest :: k)) cs) w') → Runs Post (G (b.at a (.inRegion ops (i :: rest) :: k)) cs) w)
  (hend : ∀ f a w, Inv f a w → (∀ i, i < ops.size → f i = true) → Runs Post (G (b.at a (.inRegion ops [] :: k)) cs) w) : Runs Post (G (b.at a (.code (.region id ops true) :: k)) cs) w := by
 have hu : upTo (Array.replicate ops.size false) = fun _ => false := by
  funext j
  unfold upTo
  rw [Array.getD_eq_getD_getElem?, Array.getElem?_replicate]
  split <;> rfl
 refine Runs.walk (Stop := fun g w' => ∃ t d, g = G (b.at a (.inRegion ops (Region.linearise .any ops t) :: k)) cs ∧ w' = w.at d) ?_ ?_
 ·refine Walk.step rfl (fun d => G (b.at a (.inRegion ops (Region.linearise .any ops (w.tape d (.order b.fn id))) :: k)) cs) (fun d => w.at (d + 1)) (fun _ => #[]) (fun d => ?_) (fun d => drawsR _) (fun d => .stop fun d' => ⟨w.tape d (.order b.fn id), d', rfl, rfl⟩)
  rw [stepG_region_draw]
  simp only [Region.schedule, hm, Bool.true_or, if_true]
  rfl
 ·rintro _ _ ⟨t, d, rfl, rfl⟩
  refine anyE (E := World) (Good := fun rest a w => Runs Post (G (b.at a (.inRegion ops rest :: k)) cs) w) hlow hop hend ops.size _ _ a (w.at d) (by simp) (by rw [hu]; exact h0 d) (by rw [hu]; intro _ _ _ h; cases h) ?_
  unfold Go.Relay.leftOf
  exact Nat.le_trans List.countP_le_length (by simp)
end
noncomputable def reg3_0 := rg Try.f3.body [0]
noncomputable def reg3_1 := rg Try.f3.body [1, 0, 0]
noncomputable def reg3_2 := rg Try.f3.body [1, 0, 1, 0, 0]
noncomputable def reg3_3 := rg Try.f3.body [1, 1, 0]
theorem size3_3 : reg3_3.size = 20 := by kernel_rfl
theorem z3 : List.range reg3_0.size = [0, 1] ∧ List.range reg3_1.size = [0, 1] ∧ List.range reg3_2.size = [0] ∧ List.range reg3_3.size = [0, 1, 2, 3, 4, 5, 6, 7, 8, 9, 10, 11, 12, 13, 14, 15, 16, 17, 18, 19] := by refine ⟨?_, ?_, ?_, ?_⟩ <;> kernel_rfl
theorem code3_is : Try.f3.body = some (.seq (.region 0 reg3_0 false) (.seq (.seq (.region 1 reg3_1 false) (.cond (.tmp 4 ) (.seq (.region 2 reg3_2 false) (.ret)) (.skip))) (.seq (.region 3 reg3_3 true) (.ret)))) := by kernel_rfl
noncomputable def tmSP (S : Value) (X : Nat) (u : Nat → Value) : Array Value := #[S, .pointer (some ⟨X, 0, none⟩), u 2, u 3, u 4, u 5, u 6, u 7, u 8, u 9, u 10, u 11, u 12, u 13, u 14, u 15, u 16, u 17, u 18, u 19, u 20, u 21, u 22, u 23]
def OldW (w0 w : World) : Prop := w0.heap.size ≤ w.heap.size ∧ ∀ b, b < w0.heap.size → w.heap[b]? = w0.heap[b]?
theorem OldW.chg {w0 w : World} (h : OldW w0 w) : Chg (fun _ => False) w0 w := ⟨h.1, fun b hb _ => h.2 b hb⟩
theorem OldW.trans {w0 w1 w2 : World} (h1 : OldW w0 w1) (h2 : OldW w1 w2) : OldW w0 w2 := ⟨Nat.le_trans h1.1 h2.1, fun b hb => (h2.2 b (Nat.lt_of_lt_of_le hb h1.1)).trans (h1.2 b hb)⟩
theorem OldW.of {w0 w : World} (h : Chg (fun _ => False) w0 w) : OldW w0 w := ⟨h.size, fun b hb => h.same b hb id⟩
theorem sp_last (S xv tv sv : Value) (most : Int) (X n : Nat) (Fa : Nat → List Ans) (ord : List Nat) (sts : List Int) (kk : Bool) (w0 : World) (hX : w0.heap[X]? = some (.cells #[xv, tv, sv, .int .i64 most] 26)) (hn : n ≤ 64) (hord : ord.length ≤ 1048576) (hst : sts.length ≤ 1048576)
  (hP : ∀ d, ∀ fr : Frame, Runs (fun g w' => ∃ cells, g = G (fr.finish (.agg cells)) [] ∧ TrA cells n Fa ord sts kk w' ∧ OldW w0 w') (G (Frame.enter Try.prog 14 #[xv, tv, sv, .int .i64 most] .normal) [fr]) (w0.at d))
  (hR : ∀ w1, OldW w0 w1 → CallW Try.prog true (fun _ => none) 15 #[xv, tv, sv, .int .i64 most] w1 (fun v w' => ∃ cells, v = .agg cells ∧ TrA cells n Fa ord sts kk w' ∧ (∀ i, i < n → (Fa i).length ≤ 65536) ∧ OldW w1 w')) (u0 : Nat → Value) (kx : List Item)
  {Post : Goroutine → World → Prop} (hk : ∀ (u : Nat → Value) (w' : World), u 2 = .bool true → OldW w0 w' → Runs Post (G ((base 3).at ⟨tmSP S X u, []⟩ (.inRegion reg3_3 [] :: kx)) []) w') :
  Runs Post (G ((base 3).at ⟨tmSP S X u0, []⟩ (.code (.region 3 reg3_3 true) :: kx)) []) w0 := by
 refine Runs.drawnR (Inv := fun f a w' => ∃ u vA vB, a = ⟨tmSP S X u, []⟩ ∧ Facts [5, 6, 7, 8, 9, 10, 11, 12, 13, 14, 15, 16, 17, 18, 19, 20, 21, 22, 23, 2] [.pointer (some ⟨X, 0, none⟩), xv, .pointer (some ⟨X, 1, none⟩), tv, .pointer (some ⟨X, 2, none⟩), sv, .pointer (some ⟨X, 3, none⟩), .int .i64 most, vA, .pointer (some ⟨X, 0, none⟩), xv, .pointer (some ⟨X, 1, none⟩), tv, .pointer (some ⟨X, 2, none⟩), sv, .pointer (some ⟨X, 3, none⟩), .int .i64 most, vB, .bool true, .bool true] f u ∧ OldW w0 w' ∧ (f 8 = true → ∃ cells, vA = .agg cells ∧ TrA cells n Fa ord sts kk w') ∧ (f 17 = true → ∃ cells, vB = .agg cells ∧ TrA cells n Fa ord sts kk w' ∧ (∀ i, i < n → (Fa i).length ≤ 65536)) ∧ (f 8 = false → ∃ d, w' = w0.at d)) (by kernel_rfl) (by kernel_rfl) (fun d => ⟨u0, undef, undef, rfl, Facts.none _ _ _, ⟨Nat.le_refl _, fun _ _ => rfl⟩, fun h => (by cases h), fun h => (by cases h), fun _ => ⟨d, rfl⟩⟩) ?_ ?_
 ·rintro f i o a w' ⟨u, vA, vB, rfl, F0, O, hA, hB, hD⟩ hC hfi ho hdeps rest hr0
  have hi : i < 20 := by have := (Array.getElem?_eq_some_iff.1 ho).1; rw [size3_3] at this; exact this
  have hX' := (O.2 X (Array.getElem?_eq_some_iff.1 hX).1).trans hX
  have c0 : w'.cell? ⟨X, 0, none⟩ = some xv := (cell_of hX' 0).trans rfl
  have c1 : w'.cell? ⟨X, 1, none⟩ = some tv := (cell_of hX' 1).trans rfl
  have c2 : w'.cell? ⟨X, 2, none⟩ = some sv := (cell_of hX' 2).trans rfl
  have c3 : w'.cell? ⟨X, 3, none⟩ = some (.int .i64 most) := (cell_of hX' 3).trans rfl
  clear hX'
  by_cases e8 : i = 8
  ·subst e8
   have hd := deps_of (l := [1, 3, 5, 7]) (by kernel_rfl) ho hdeps
   have e6 := F0 1 6 _ (hd 1 (by simp)) rfl rfl
   have e8 := F0 3 8 _ (hd 3 (by simp)) rfl rfl
   have e10 := F0 5 10 _ (hd 5 (by simp)) rfl rfl
   have e12 := F0 7 12 _ (hd 7 (by simp)) rfl rfl
   have h17 : f 17 = false := by
    cases h : f 17 with
    | false => rfl
    | true => have := hC.deps (i := 17) (l := [8]) h (by kernel_rfl) 8 (by simp); rw [hfi] at this; cases this
   have hset : ∀ v, Facts [5, 6, 7, 8, 9, 10, 11, 12, 13, 14, 15, 16, 17, 18, 19, 20, 21, 22, 23, 2] (([.pointer (some ⟨X, 0, none⟩), xv, .pointer (some ⟨X, 1, none⟩), tv, .pointer (some ⟨X, 2, none⟩), sv, .pointer (some ⟨X, 3, none⟩), .int .i64 most, vA, .pointer (some ⟨X, 0, none⟩), xv, .pointer (some ⟨X, 1, none⟩), tv, .pointer (some ⟨X, 2, none⟩), sv, .pointer (some ⟨X, 3, none⟩), .int .i64 most, vB, .bool true, .bool true] : List Value).set 8 v) (upd f 8 true) (upd u 13 v) := fun v => by
    refine Facts.set (fun j d x hj hd hx => ?_) (by decide) rfl rfl
    have hj8 : j ≠ 8 := fun e => by rw [e, hfi] at hj; cases hj
    exact F0 j d x hj hd (by rw [List.getElem?_set_ne (Ne.symm hj8)] at hx; exact hx)
   refine Runs.walk (Stop := fun g w'' => ∃ d fr, w'' = w'.at d ∧ g = G (Frame.enter Try.prog 14 #[xv, tv, sv, .int .i64 most] .normal) [fr] ∧ ∀ (cells : Array Value) (w3 : World), (∀ x, Runs Post (G ((base 3).at ⟨tmSP S X (upd u 13 (.agg cells)), []⟩ (.inRegion reg3_3 rest :: kx)) []) (w3.at x)) → Runs Post (G (fr.finish (.agg cells)) []) w3) ?_ ?_
   ·clear hdeps hC hA hB hP hR hr0 hk
    simp only [tmSP]
    refine Walk.callE hoA (by rfl) (by decide) rfl Try.func14 (by kernel_rfl) (by rfl) ?_
    walk_nrm
    simp only [e6, e8, e10, e12]
    refine .stop fun d => ⟨d, _, rfl, rfl, fun cells w3 hh => ?_⟩
    refine Runs.walk (Stop := fun g w4 => ∃ x, g = G ((base 3).at ⟨tmSP S X (upd u 13 (.agg cells)), []⟩ (.inRegion reg3_3 rest :: kx)) [] ∧ w4 = w3.at x) ?_ ?_
    ·refine Walk.finish hoA ?_
     walk_nrm
     refine .stop fun x => ⟨x, ?_, rfl⟩
     simp [tmSP, upd, e6, e8, e10, e12]
    ·rintro _ _ ⟨x, rfl, rfl⟩
     exact hh x
   ·rintro _ _ ⟨d, fr, rfl, rfl, hfr⟩
    obtain ⟨e, rfl⟩ := hD hfi
    refine Runs.then (hP d fr) ?_
    rintro _ w3 ⟨cells, rfl, hT, O3⟩
    refine hfr cells w3 fun x => hr0 _ _ ⟨upd u 13 (.agg cells), .agg cells, vB, rfl, hset _, O3, fun _ => ⟨cells, rfl, hT.chg ⟨Nat.le_refl _, fun _ _ _ => rfl⟩⟩, fun h => ?_, fun h => ?_⟩
    ·rw [upd_ne _ _ (by decide), h17] at h
     cases h
    ·rw [upd_same] at h
     cases h
  ·refine Runs.walk (Stop := fun g w'' => ∃ a', g = G ((base 3).at a' (.inRegion reg3_3 rest :: kx)) [] ∧ ∃ u vA vB, a' = ⟨tmSP S X u, []⟩ ∧ Facts [5, 6, 7, 8, 9, 10, 11, 12, 13, 14, 15, 16, 17, 18, 19, 20, 21, 22, 23, 2] [.pointer (some ⟨X, 0, none⟩), xv, .pointer (some ⟨X, 1, none⟩), tv, .pointer (some ⟨X, 2, none⟩), sv, .pointer (some ⟨X, 3, none⟩), .int .i64 most, vA, .pointer (some ⟨X, 0, none⟩), xv, .pointer (some ⟨X, 1, none⟩), tv, .pointer (some ⟨X, 2, none⟩), sv, .pointer (some ⟨X, 3, none⟩), .int .i64 most, vB, .bool true, .bool true] (upd f i true) u ∧ OldW w0 w'' ∧ (upd f i true 8 = true → ∃ cells, vA = .agg cells ∧ TrA cells n Fa ord sts kk w'') ∧ (upd f i true 17 = true → ∃ cells, vB = .agg cells ∧ TrA cells n Fa ord sts kk w'' ∧ (∀ i, i < n → (Fa i).length ≤ 65536)) ∧ (upd f i true 8 = false → ∃ d, w'' = w0.at d)) ?_ ?_
   rotate_left
   ·rintro _ w3 ⟨a', rfl, h⟩
    exact hr0 a' w3 h
   have hr : ∀ a' w'', (∃ u vA vB, a' = ⟨tmSP S X u, []⟩ ∧ Facts [5, 6, 7, 8, 9, 10, 11, 12, 13, 14, 15, 16, 17, 18, 19, 20, 21, 22, 23, 2] [.pointer (some ⟨X, 0, none⟩), xv, .pointer (some ⟨X, 1, none⟩), tv, .pointer (some ⟨X, 2, none⟩), sv, .pointer (some ⟨X, 3, none⟩), .int .i64 most, vA, .pointer (some ⟨X, 0, none⟩), xv, .pointer (some ⟨X, 1, none⟩), tv, .pointer (some ⟨X, 2, none⟩), sv, .pointer (some ⟨X, 3, none⟩), .int .i64 most, vB, .bool true, .bool true] (upd f i true) u ∧ OldW w0 w'' ∧ (upd f i true 8 = true → ∃ cells, vA = .agg cells ∧ TrA cells n Fa ord sts kk w'') ∧ (upd f i true 17 = true → ∃ cells, vB = .agg cells ∧ TrA cells n Fa ord sts kk w'' ∧ (∀ i, i < n → (Fa i).length ≤ 65536)) ∧ (upd f i true 8 = false → ∃ d, w'' = w0.at d)) → Walk Try.prog true (DR (fun _ => none)) (fun g w'' => ∃ a', g = G ((base 3).at a' (.inRegion reg3_3 rest :: kx)) [] ∧ ∃ u vA vB, a' = ⟨tmSP S X u, []⟩ ∧ Facts [5, 6, 7, 8, 9, 10, 11, 12, 13, 14, 15, 16, 17, 18, 19, 20, 21, 22, 23, 2] [.pointer (some ⟨X, 0, none⟩), xv, .pointer (some ⟨X, 1, none⟩), tv, .pointer (some ⟨X, 2, none⟩), sv, .pointer (some ⟨X, 3, none⟩), .int .i64 most, vA, .pointer (some ⟨X, 0, none⟩), xv, .pointer (some ⟨X, 1, none⟩), tv, .pointer (some ⟨X, 2, none⟩), sv, .pointer (some ⟨X, 3, none⟩), .int .i64 most, vB, .bool true, .bool true] (upd f i true) u ∧ OldW w0 w'' ∧ (upd f i true 8 = true → ∃ cells, vA = .agg cells ∧ TrA cells n Fa ord sts kk w'') ∧ (upd f i true 17 = true → ∃ cells, vB = .agg cells ∧ TrA cells n Fa ord sts kk w'' ∧ (∀ i, i < n → (Fa i).length ≤ 65536)) ∧ (upd f i true 8 = false → ∃ d, w'' = w0.at d)) (G ((base 3).at a' (.inRegion reg3_3 rest :: kx)) []) w'' := by
    rintro a' w'' ⟨u, vA, vB, h1, h2, h3, h4, h5, h6⟩
    have hc : ∀ d, Chg (fun _ => False) w'' (w''.at d) := fun d => ⟨Nat.le_refl _, fun _ _ _ => rfl⟩
    exact .stop fun d => ⟨a', rfl, u, vA, vB, h1, h2, h3, fun h => (h4 h).imp fun c h => ⟨h.1, h.2.chg (hc d)⟩, fun h => (h5 h).imp fun c h => ⟨h.1, h.2.1.chg (hc d), h.2.2⟩, fun h => by obtain ⟨e, rfl⟩ := h6 h; exact ⟨d, rfl⟩⟩
   clear hr0
   have h20 : i = 0 ∨ i = 1 ∨ i = 2 ∨ i = 3 ∨ i = 4 ∨ i = 5 ∨ i = 6 ∨ i = 7 ∨ i = 9 ∨ i = 10 ∨ i = 11 ∨ i = 12 ∨ i = 13 ∨ i = 14 ∨ i = 15 ∨ i = 16 ∨ i = 17 ∨ i = 18 ∨ i = 19 := by omega
   rcases h20 with rfl | rfl | rfl | rfl | rfl | rfl | rfl | rfl | rfl | rfl | rfl | rfl | rfl | rfl | rfl | rfl | rfl | rfl | rfl
   ·clear hdeps hC ho
    simp only [tmSP] at hr ⊢
    (refine Walk.oq ?_; try walk_nrm)
    refine hr _ _ ⟨upd u 5 (.pointer (some ⟨X, 0, none⟩)), vA, vB, ?_, F0.set (by decide) rfl rfl, O, fun h => hA (by rwa [upd_ne _ _ (by decide)] at h), fun h => hB (by rwa [upd_ne _ _ (by decide)] at h), fun h => hD (by rwa [upd_ne _ _ (by decide)] at h)⟩
    simp [upd]
   ·have hd := deps_of (l := [0]) (by kernel_rfl) ho hdeps
    have e5 := F0 0 5 _ (hd 0 (by simp)) rfl rfl
    clear hdeps hC ho
    simp only [tmSP] at hr ⊢
    simp only [e5]
    (refine Walk.oq ?_; try walk_nrm)
    refine hr _ _ ⟨upd u 6 (xv), vA, vB, ?_, F0.set (by decide) rfl rfl, O, fun h => hA (by rwa [upd_ne _ _ (by decide)] at h), fun h => hB (by rwa [upd_ne _ _ (by decide)] at h), fun h => hD (by rwa [upd_ne _ _ (by decide)] at h)⟩
    simp [upd, e5]
   ·clear hdeps hC ho
    simp only [tmSP] at hr ⊢
    (refine Walk.oq ?_; try walk_nrm)
    refine hr _ _ ⟨upd u 7 (.pointer (some ⟨X, 1, none⟩)), vA, vB, ?_, F0.set (by decide) rfl rfl, O, fun h => hA (by rwa [upd_ne _ _ (by decide)] at h), fun h => hB (by rwa [upd_ne _ _ (by decide)] at h), fun h => hD (by rwa [upd_ne _ _ (by decide)] at h)⟩
    simp [upd]
   ·have hd := deps_of (l := [2]) (by kernel_rfl) ho hdeps
    have e7 := F0 2 7 _ (hd 2 (by simp)) rfl rfl
    clear hdeps hC ho
    simp only [tmSP] at hr ⊢
    simp only [e7]
    (refine Walk.oq ?_; try walk_nrm)
    refine hr _ _ ⟨upd u 8 (tv), vA, vB, ?_, F0.set (by decide) rfl rfl, O, fun h => hA (by rwa [upd_ne _ _ (by decide)] at h), fun h => hB (by rwa [upd_ne _ _ (by decide)] at h), fun h => hD (by rwa [upd_ne _ _ (by decide)] at h)⟩
    simp [upd, e7]
   ·clear hdeps hC ho
    simp only [tmSP] at hr ⊢
    (refine Walk.oq ?_; try walk_nrm)
    refine hr _ _ ⟨upd u 9 (.pointer (some ⟨X, 2, none⟩)), vA, vB, ?_, F0.set (by decide) rfl rfl, O, fun h => hA (by rwa [upd_ne _ _ (by decide)] at h), fun h => hB (by rwa [upd_ne _ _ (by decide)] at h), fun h => hD (by rwa [upd_ne _ _ (by decide)] at h)⟩
    simp [upd]
   ·have hd := deps_of (l := [4]) (by kernel_rfl) ho hdeps
    have e9 := F0 4 9 _ (hd 4 (by simp)) rfl rfl
    clear hdeps hC ho
    simp only [tmSP] at hr ⊢
    simp only [e9]
    (refine Walk.oq ?_; try walk_nrm)
    refine hr _ _ ⟨upd u 10 (sv), vA, vB, ?_, F0.set (by decide) rfl rfl, O, fun h => hA (by rwa [upd_ne _ _ (by decide)] at h), fun h => hB (by rwa [upd_ne _ _ (by decide)] at h), fun h => hD (by rwa [upd_ne _ _ (by decide)] at h)⟩
    simp [upd, e9]
   ·clear hdeps hC ho
    simp only [tmSP] at hr ⊢
    (refine Walk.oq ?_; try walk_nrm)
    refine hr _ _ ⟨upd u 11 (.pointer (some ⟨X, 3, none⟩)), vA, vB, ?_, F0.set (by decide) rfl rfl, O, fun h => hA (by rwa [upd_ne _ _ (by decide)] at h), fun h => hB (by rwa [upd_ne _ _ (by decide)] at h), fun h => hD (by rwa [upd_ne _ _ (by decide)] at h)⟩
    simp [upd]
   ·have hd := deps_of (l := [6]) (by kernel_rfl) ho hdeps
    have e11 := F0 6 11 _ (hd 6 (by simp)) rfl rfl
    clear hdeps hC ho
    simp only [tmSP] at hr ⊢
    simp only [e11]
    (refine Walk.oq ?_; try walk_nrm)
    refine hr _ _ ⟨upd u 12 (.int .i64 most), vA, vB, ?_, F0.set (by decide) rfl rfl, O, fun h => hA (by rwa [upd_ne _ _ (by decide)] at h), fun h => hB (by rwa [upd_ne _ _ (by decide)] at h), fun h => hD (by rwa [upd_ne _ _ (by decide)] at h)⟩
    simp [upd, e11]
   ·clear hdeps hC ho
    simp only [tmSP] at hr ⊢
    (refine Walk.oq ?_; try walk_nrm)
    refine hr _ _ ⟨upd u 14 (.pointer (some ⟨X, 0, none⟩)), vA, vB, ?_, F0.set (by decide) rfl rfl, O, fun h => hA (by rwa [upd_ne _ _ (by decide)] at h), fun h => hB (by rwa [upd_ne _ _ (by decide)] at h), fun h => hD (by rwa [upd_ne _ _ (by decide)] at h)⟩
    simp [upd]
   ·have hd := deps_of (l := [9]) (by kernel_rfl) ho hdeps
    have e14 := F0 9 14 _ (hd 9 (by simp)) rfl rfl
    clear hdeps hC ho
    simp only [tmSP] at hr ⊢
    simp only [e14]
    (refine Walk.oq ?_; try walk_nrm)
    refine hr _ _ ⟨upd u 15 (xv), vA, vB, ?_, F0.set (by decide) rfl rfl, O, fun h => hA (by rwa [upd_ne _ _ (by decide)] at h), fun h => hB (by rwa [upd_ne _ _ (by decide)] at h), fun h => hD (by rwa [upd_ne _ _ (by decide)] at h)⟩
    simp [upd, e14]
   ·clear hdeps hC ho
    simp only [tmSP] at hr ⊢
    (refine Walk.oq ?_; try walk_nrm)
    refine hr _ _ ⟨upd u 16 (.pointer (some ⟨X, 1, none⟩)), vA, vB, ?_, F0.set (by decide) rfl rfl, O, fun h => hA (by rwa [upd_ne _ _ (by decide)] at h), fun h => hB (by rwa [upd_ne _ _ (by decide)] at h), fun h => hD (by rwa [upd_ne _ _ (by decide)] at h)⟩
    simp [upd]
   ·have hd := deps_of (l := [11]) (by kernel_rfl) ho hdeps
    have e16 := F0 11 16 _ (hd 11 (by simp)) rfl rfl
    clear hdeps hC ho
    simp only [tmSP] at hr ⊢
    simp only [e16]
    (refine Walk.oq ?_; try walk_nrm)
    refine hr _ _ ⟨upd u 17 (tv), vA, vB, ?_, F0.set (by decide) rfl rfl, O, fun h => hA (by rwa [upd_ne _ _ (by decide)] at h), fun h => hB (by rwa [upd_ne _ _ (by decide)] at h), fun h => hD (by rwa [upd_ne _ _ (by decide)] at h)⟩
    simp [upd, e16]
   ·clear hdeps hC ho
    simp only [tmSP] at hr ⊢
    (refine Walk.oq ?_; try walk_nrm)
    refine hr _ _ ⟨upd u 18 (.pointer (some ⟨X, 2, none⟩)), vA, vB, ?_, F0.set (by decide) rfl rfl, O, fun h => hA (by rwa [upd_ne _ _ (by decide)] at h), fun h => hB (by rwa [upd_ne _ _ (by decide)] at h), fun h => hD (by rwa [upd_ne _ _ (by decide)] at h)⟩
    simp [upd]
   ·have hd := deps_of (l := [13]) (by kernel_rfl) ho hdeps
    have e18 := F0 13 18 _ (hd 13 (by simp)) rfl rfl
    clear hdeps hC ho
    simp only [tmSP] at hr ⊢
    simp only [e18]
    (refine Walk.oq ?_; try walk_nrm)
    refine hr _ _ ⟨upd u 19 (sv), vA, vB, ?_, F0.set (by decide) rfl rfl, O, fun h => hA (by rwa [upd_ne _ _ (by decide)] at h), fun h => hB (by rwa [upd_ne _ _ (by decide)] at h), fun h => hD (by rwa [upd_ne _ _ (by decide)] at h)⟩
    simp [upd, e18]
   ·clear hdeps hC ho
    simp only [tmSP] at hr ⊢
    (refine Walk.oq ?_; try walk_nrm)
    refine hr _ _ ⟨upd u 20 (.pointer (some ⟨X, 3, none⟩)), vA, vB, ?_, F0.set (by decide) rfl rfl, O, fun h => hA (by rwa [upd_ne _ _ (by decide)] at h), fun h => hB (by rwa [upd_ne _ _ (by decide)] at h), fun h => hD (by rwa [upd_ne _ _ (by decide)] at h)⟩
    simp [upd]
   ·have hd := deps_of (l := [15]) (by kernel_rfl) ho hdeps
    have e20 := F0 15 20 _ (hd 15 (by simp)) rfl rfl
    clear hdeps hC ho
    simp only [tmSP] at hr ⊢
    simp only [e20]
    (refine Walk.oq ?_; try walk_nrm)
    refine hr _ _ ⟨upd u 21 (.int .i64 most), vA, vB, ?_, F0.set (by decide) rfl rfl, O, fun h => hA (by rwa [upd_ne _ _ (by decide)] at h), fun h => hB (by rwa [upd_ne _ _ (by decide)] at h), fun h => hD (by rwa [upd_ne _ _ (by decide)] at h)⟩
    simp [upd, e20]
   ·have hd := deps_of (l := [10, 12, 14, 16, 8]) (by kernel_rfl) ho hdeps
    have e15 := F0 10 15 _ (hd 10 (by simp)) rfl rfl
    have e17 := F0 12 17 _ (hd 12 (by simp)) rfl rfl
    have e19 := F0 14 19 _ (hd 14 (by simp)) rfl rfl
    have e21 := F0 16 21 _ (hd 16 (by simp)) rfl rfl
    have hA8 := hA (hd 8 (by simp))
    have h18 : f 18 = false := by
     cases h : f 18 with
     | false => rfl
     | true => have := hC.deps (i := 18) (l := [17]) h (by kernel_rfl) 17 (by simp); rw [hfi] at this; cases this
    have hset : ∀ v, Facts [5, 6, 7, 8, 9, 10, 11, 12, 13, 14, 15, 16, 17, 18, 19, 20, 21, 22, 23, 2] (([.pointer (some ⟨X, 0, none⟩), xv, .pointer (some ⟨X, 1, none⟩), tv, .pointer (some ⟨X, 2, none⟩), sv, .pointer (some ⟨X, 3, none⟩), .int .i64 most, vA, .pointer (some ⟨X, 0, none⟩), xv, .pointer (some ⟨X, 1, none⟩), tv, .pointer (some ⟨X, 2, none⟩), sv, .pointer (some ⟨X, 3, none⟩), .int .i64 most, vB, .bool true, .bool true] : List Value).set 17 v) (upd f 17 true) (upd u 22 v) := fun v => by
     refine Facts.set (fun j d x hj hd hx => ?_) (by decide) rfl rfl
     have hj8 : j ≠ 17 := fun e => by rw [e, hfi] at hj; cases hj
     exact F0 j d x hj hd (by rw [List.getElem?_set_ne (Ne.symm hj8)] at hx; exact hx)
    have hR' := hR w' O
    clear hdeps hC ho hA hB hP hR hk
    simp only [tmSP] at hr ⊢
    simp only [e15, e17, e19, e21]
    refine Walk.callW (Post := fun v w2 => ∃ cells, v = .agg cells ∧ TrA cells n Fa ord sts kk w2 ∧ (∀ i, i < n → (Fa i).length ≤ 65536) ∧ OldW w' w2) ?_ hoA (by rfl) (by decide) rfl Try.func15 (by kernel_rfl) (by rfl) ?_
    ·walk_nrm
     exact hR'
    rintro v w2 ⟨cells, rfl, hT, hLF, O2⟩
    walk_nrm
    refine hr _ _ ⟨upd u 22 (.agg cells), vA, .agg cells, ?_, hset _, O.trans O2, fun _ => hA8.imp fun c h => ⟨h.1, h.2.chg O2.chg⟩, fun _ => ⟨cells, rfl, hT, hLF⟩, fun h => by rw [upd_ne _ _ (by decide), hd 8 (by simp)] at h; cases h⟩
    simp [upd, e15, e17, e19, e21]
   ·have hd := deps_of (l := [8, 17]) (by kernel_rfl) ho hdeps
    have e13 := F0 8 13 _ (hd 8 (by simp)) rfl rfl
    have e22 := F0 17 22 _ (hd 17 (by simp)) rfl rfl
    obtain ⟨ca, rfl, hT1⟩ := hA (hd 8 (by simp))
    obtain ⟨cb, rfl, hT2, hF⟩ := hB (hd 17 (by simp))
    have hS := sm_w (main := true) ca cb n Fa ord sts kk w' hn hord hst hF hT1 hT2
    clear hdeps hC ho hA hB hP hR hk
    simp only [tmSP] at hr ⊢
    simp only [e13, e22]
    refine Walk.callW (Post := fun v w2 => v = .bool true ∧ Chg (fun _ => False) w' w2) ?_ hoA (by rfl) (by decide) rfl Try.func13 (by kernel_rfl) (by rfl) ?_
    ·walk_nrm
     exact hS
    rintro v w2 ⟨rfl, O2⟩
    walk_nrm
    refine hr _ _ ⟨upd u 23 (.bool true), _, _, ?_, F0.set (by decide) rfl rfl, O.trans (.of O2), fun _ => ⟨ca, rfl, hT1.chg O2⟩, fun _ => ⟨cb, rfl, hT2.chg O2, hF⟩, fun h => by rw [upd_ne _ _ (by decide), hd 8 (by simp)] at h; cases h⟩
    simp [upd, e13, e22]
   ·have hd := deps_of (l := [18]) (by kernel_rfl) ho hdeps
    have e23 := F0 18 23 _ (hd 18 (by simp)) rfl rfl
    clear hdeps hC ho
    simp only [tmSP] at hr ⊢
    simp only [e23]
    (refine Walk.oq ?_; try walk_nrm)
    refine hr _ _ ⟨upd u 2 (.bool true), vA, vB, ?_, F0.set (by decide) rfl rfl, O, fun h => hA (by rwa [upd_ne _ _ (by decide)] at h), fun h => hB (by rwa [upd_ne _ _ (by decide)] at h), fun h => hD (by rwa [upd_ne _ _ (by decide)] at h)⟩
    simp [upd, e23]
 ·rintro f a w' ⟨u, vA, vB, rfl, F0, O, _, _, _⟩ hall
  exact hk u w' (F0 19 2 _ (hall 19 (by rw [size3_3]; decide)) rfl rfl) O
end
noncomputable def mdSP (S : Value) (X : Nat) (u : Nat → Value) : Frame :=
 (base 3).at { tmps := #[S, .pointer (some ⟨X, 0, none⟩), u 2, u 3, u 4, u 5, u 6, u 7, u 8, u 9, u 10, u 11, u 12, u 13, u 14, u 15, u 16, u 17, u 18, u 19, u 20, u 21, u 22, u 23], defers := [] } [.code (.region 3 reg3_3 true), .code (.ret)]
theorem sp_in (xv tv sv : Value) (most : Int) (h1 : (#[xv, tv, sv, .int .i64 most] : Array Value).all (·.oneCell') = true) (w : World) : Walk Try.prog true (DR (fun _ => none)) (fun g w' => ∃ fr, g = G (Frame.enter Try.prog 12 #[] .normal) [fr] ∧ (∃ d, w' = (w.alloc (.cells #[xv, tv, sv, .int .i64 most] 26)).at d) ∧
   ∀ w1, Walk Try.prog true (DR (fun _ => none)) (fun g w' => (∃ u, g = G (mdSP (.agg #[xv, tv, sv, .int .i64 most]) w.heap.size u) []) ∧ ∃ d, w' = w1.at d) (G (fr.finish (.bool true)) []) w1)
  (G (Frame.enter Try.prog 3 #[.agg #[xv, tv, sv, .int .i64 most]] .normal) []) w := by
 rw [enter_at _ Try.func3 code3_is]
 simp only [Try.ntmps3, ez, Nat.reduceAdd, Nat.reduceSub]
 refine Walk.gz z3 ?_
 (refine Walk.oa ?_; try walk_nrm)
 generalize w.alloc (.cells #[xv, tv, sv, .int .i64 most] 26) = w1 at *
 generalize w.heap.size = X at *
 refine Walk.gz z3 ?_
 refine Walk.callE hoA (by rfl) (by decide) rfl Try.func12 (by kernel_rfl) (by rfl) ?_
 walk_nrm
 refine .stop fun d => ⟨_, rfl, ⟨d, rfl⟩, ?_⟩
 intro w2
 refine Walk.finish hoA ?_
 walk_nrm
 refine Walk.gz z3 ?_
 refine .stop fun d => ⟨at_slots ?_, d, rfl⟩
 simp only [mdSP]
 rfl
theorem sp_code (S : Value) (X : Nat) (u : Nat → Value) : G (mdSP S X u) [] = G ((base 3).at ⟨tmSP S X u, []⟩ (.code (.region 3 reg3_3 true) :: [.code .ret])) [] := rfl
theorem sp_out (S : Value) (X : Nat) (u : Nat → Value) (h : u 2 = .bool true) (w : World) : Walk Try.prog true (DR (fun _ => none)) (fun g w' => Closing 3 2 (.bool true) g ∧ ∃ d, w' = w.at d) (G ((base 3).at ⟨tmSP S X u, []⟩ (.inRegion reg3_3 [] :: [.code .ret])) []) w := by
 simp only [tmSP, h]
 refine Walk.gz z3 ?_
 exact .stop fun d => ⟨⟨_, rfl, rfl, rfl, rfl, rfl, rfl⟩, d, rfl⟩
theorem spp_all (xa : Option Addr) (xs : List Int) (xc : Nat) (hxn : xs.length ≤ 17592186044416) (most : Int) (ta : Option Addr) (n0 tc tb toff : Nat) (oa : Nat → Option Addr) (ln oc : Nat → Nat) (ops : Nat → List OpV) (sa : Option Addr) (sc : Nat) (sl : List Int) (W : World) (hx : SlIn xa xs W) (hxl : LsR (.slice xa xs.length xc) xs W)
  (I : OpsIn tb toff (min n0 64) oa ln oc ops W) (hta : 0 < n0 → ta = some ⟨tb, toff, none⟩) (had : ta = none ∧ tc = 0 ∨ ∃ p, ta = some p) (hcap : n0 ≤ tc)
  (hsl : sl.length ≤ 17592186044416) (hs : ∀ (j : Nat) (z : Int), sl[j]? = some z → ∃ s so, sa = some ⟨s, so, none⟩ ∧ W.cell? ⟨s, so + j, none⟩ = some (.int .i64 z)) :
  Runs (fun g w' => Closing 3 2 (.bool true) g ∧ ∀ b, b < W.heap.size → w'.heap[b]? = W.heap[b]?) (G (Frame.enter Try.prog 3 #[.agg #[.slice xa xs.length xc, .slice ta n0 tc, .slice sa sl.length sc, .int .i64 most]] .normal) []) W := by
 refine Runs.walk (sp_in _ _ _ most (by simp [Value.oneCell']) W) ?_
 rintro _ _ ⟨fr1, rfl, ⟨d1, rfl⟩, hB1⟩
 have hsz : (W.alloc (.cells #[.slice xa xs.length xc, .slice ta n0 tc, .slice sa sl.length sc, .int .i64 most] 26)).heap.size = W.heap.size + 1 := by simp
 have O0 : ∀ b, b < W.heap.size → (W.alloc (.cells #[.slice xa xs.length xc, .slice ta n0 tc, .slice sa sl.length sc, .int .i64 most] 26)).heap[b]? = W.heap[b]? := fun b hb => heap_new_lt _ _ hb
 have dX := heap_alloc_new W (.cells #[.slice xa xs.length xc, .slice ta n0 tc, .slice sa sl.length sc, .int .i64 most] 26)
 generalize W.alloc (.cells #[.slice xa xs.length xc, .slice ta n0 tc, .slice sa sl.length sc, .int .i64 most] 26) = w0 at *
 refine Runs.then (fixed_run fr1 [] (w0.at d1)) ?_
 rintro _ w1 ⟨rfl, O1, Z1⟩
 have O1 : ∀ b, b < w0.heap.size → w1.heap[b]? = w0.heap[b]? := O1
 have Z1 : w0.heap.size ≤ w1.heap.size := Z1
 refine Runs.walk (hB1 w1) ?_
 rintro _ _ ⟨⟨u, rfl⟩, d2, rfl⟩
 have O2 : ∀ b, b < W.heap.size → (w1.at d2).heap[b]? = W.heap[b]? := fun b hb => (O1 b (by omega)).trans (O0 b hb)
 have Z2 : W.heap.size + 1 ≤ (w1.at d2).heap.size := by show _ ≤ w1.heap.size; omega
 have dX2 : (w1.at d2).heap[W.heap.size]? = some (.cells #[.slice xa xs.length xc, .slice ta n0 tc, .slice sa sl.length sc, .int .i64 most] 26) := (O1 _ (by omega)).trans dX
 generalize w1.at d2 = w2 at *
 have hta' : 0 < min n0 64 → ta = some ⟨tb, toff, none⟩ := fun h => hta (by omega)
 have up : ∀ w3, OldW w2 w3 → ∀ b, b < W.heap.size → w3.heap[b]? = W.heap[b]? := fun w3 h b hb => (h.2 b (by omega)).trans (O2 b hb)
 have hs3 : ∀ w3, OldW w2 w3 → ∀ (j : Nat) (z : Int), sl[j]? = some z → ∃ s so, sa = some ⟨s, so, none⟩ ∧ w3.cell? ⟨s, so + j, none⟩ = some (.int .i64 z) := fun w3 h j z hz => by
  obtain ⟨s, so, e, hc⟩ := hs j z hz
  exact ⟨s, so, e, (World.cell?_of_block (a := ⟨s, so + j, none⟩) (up w3 h s (cell_lt' hc))).trans hc⟩
 have hKK := (sqK_le xs.length).1
 have hK := fun w3 (h3 : OldW w2 w3) => rplay_w (main := true) (w2.heap.size + 1) xa xs xc hxn tb toff n0 tc (min n0 64) rfl ta hta' oa ln oc ops sa sc sl most w3 (hx.old (up w3 h3)) (I.old (up w3 h3)) hsl (hs3 w3 h3)
 have hQ := fun d fr => splay_any (.slice xa xs.length xc) xs hxn (.slice ta n0 tc) most ta tb toff tc (min n0 64) hta' (by omega) oa ln oc ops sa sc sl hsl fr [] (w2.at d) (hxl.same O2) (I.old O2) (hs3 (w2.at d) ⟨Nat.le_refl _, fun _ _ => rfl⟩) fun w' _ => firstOps_some ta n0 tc w' hcap had
 have hF := playO_short (sqLa (w2.heap.size + 1) (sqK xs.length)) (sq0 xs) ops (min n0 64) most sl
 have hQ' : ∀ d fr, Runs (fun g w' => ∃ cells, SPAny (min n0 64) (sqLa (w2.heap.size + 1) (sqK xs.length)) (stL (sqK xs.length)) (playO (sqLa (w2.heap.size + 1) (sqK xs.length)) (sq0 xs) ops (min n0 64) most sl) (w2.at d) w' cells ∧ g = G (fr.finish (.agg cells)) []) (G (Frame.enter Try.prog 14 #[.slice xa xs.length xc, .slice ta n0 tc, .slice sa sl.length sc, .int .i64 most] .normal) [fr]) (w2.at d) := hQ
 have hm := stL_len (sqK xs.length) (playO (sqLa (w2.heap.size + 1) (sqK xs.length)) (sq0 xs) ops (min n0 64) most sl).1.s
 have hK' : ∀ w3, OldW w2 w3 → CallW Try.prog true (fun _ => none) 15 #[.slice xa xs.length xc, .slice ta n0 tc, .slice sa sl.length sc, .int .i64 most] w3 (RPl (min n0 64) (sqLa (w2.heap.size + 1) (sqK xs.length)) (stL (sqK xs.length)) w3 (playO (sqLa (w2.heap.size + 1) (sqK xs.length)) (sq0 xs) ops (min n0 64) most sl)) := hK
 clear hK hQ
 generalize playO (sqLa (w2.heap.size + 1) (sqK xs.length)) (sq0 xs) ops (min n0 64) most sl = F at *
 rw [sp_code]
 refine sp_last _ _ _ _ most W.heap.size (min n0 64) (fun i => (F.1.th i).ans) F.2 (stL (sqK xs.length) F.1.s) (stuckO (min n0 64) F.1) w2 dX2 (by omega) hF (Nat.le_trans (Nat.le_of_eq hm) (by omega)) (fun d fr => Runs.then (hQ' d fr) ?_) (fun w3 h3 c' cs' => (hK' w3 h3 c' cs').mono ?_) u [.code .ret] fun u' w' hu hO => ?_
 ·rintro _ w3 ⟨cells, H, rfl⟩
  exact .now ⟨cells, rfl, H.tr.tr, H.size, H.old⟩
 ·rintro g w' ⟨v, ⟨cells, rfl, h1, h2, h3⟩, hg⟩
  exact ⟨_, ⟨cells, rfl, h1, h3, .of h2⟩, hg⟩
 refine Runs.walk (sp_out _ _ u' hu w') ?_
 rintro g _ ⟨hC, d, rfl⟩
 exact .now ⟨hC, fun b hb => (hO.2 b (by omega)).trans (O2 b hb)⟩
section
open Go.ChangeShapes Go.WideShapes Go.ChangeAt Go.Joins Go.Deep
theorem prog_own : ownKnob Try.prog.godebug = none := by kernel_rfl
def Left (W : World) (v : Value) (w' : World) : Prop := v = .bool true ∧ w'.os = W.os ∧ w'.output = W.output ∧ ∀ b, b < W.heap.size → w'.heap[b]? = W.heap[b]?
theorem Left.kept {W w' : World} {v : Value} (h : Left W v w') (may : MemPlace → Prop) : W.keptBut w' may := by
 refine ⟨h.2.1, h.2.2.1, fun i hi => ?_⟩
 rw [h.2.2.2 i hi]
 split <;> simp_all
theorem und4_is : Try.prog.underlying 4 = some .bool := by kernel_rfl
theorem stepG_done {P : Program} {fr : Frame} {w : World} {fn : Func} {v : Value} (hm : fr.mode = .returning) (hn : fr.kind = .normal) (hd : fr.defers = []) (hf : P.funcs[fr.fn]? = some fn) (hr : (results fn fr.tmps).run P w = .ok v w) (he : (results fn fr.tmps).events P w #[] = #[]) (hi : P.inits.idxOf? fr.fn = none) :
  stepG P true (G fr []) w = .ended (.done v) w #[] := by
 simp [G, stepG, unwind, doReturn, hm, hd, hn, hf, hr, he, hi, GStep.after, seen_none]
theorem run_claim {f : FuncId} {fn : Func} {args : Array Value} {W : World} {Post : Value → World → Prop} {v : Value} {t : Tmp} (hf : Try.prog.funcs[f]? = some fn) (hres : fn.results = #[.tmp t]) (hi : Try.prog.inits.idxOf? f = none)
  (h : Runs (fun g w' => Closing f t v g ∧ (OsSame W w' → ∀ d, Post v (w'.at d))) (G (Frame.enter Try.prog f args .normal) []) W) :
  ∃ M last o w' t', runNT Try.prog (M + 1) (solo (G (Frame.enter Try.prog f args .normal) []) W) #[] = (.ended o w', t') ∧ Go.runN Try.prog M (solo (G (Frame.enter Try.prog f args .normal) []) W) = .next last ∧ step Try.prog last = .ended o w' ∧ Go.Conc.Good Try.prog Post last o w' t' := by
 rw [solo_eq_crowd]
 have A0 := at_begin (P := Try.prog) (gs := #[G (Frame.enter Try.prog f args .normal) []]) (a := G (Frame.enter Try.prog f args .normal) []) (sl := none) (w := W) rfl (leavers_one Try.prog _) past_nil
 obtain ⟨N1, m1, T1, r1, ⟨nG, g1, w1, _, ⟨⟨fr, rfl, hm, hn, hd, hfn, hv⟩, hP⟩, A1⟩, ho⟩ := h 1 _ _ (Nat.le_refl _) A0
 obtain ⟨gs, sl, q, B, rfl, _, hg0, hL, hPast⟩ := A1.ends (fun _ => rfl)
 have hP := hP ho
 have hs : ∀ d, stepG Try.prog true (G fr []) (w1.at d) = .ended (.done v) (w1.at d) #[] := fun d =>
  stepG_done hm hn hd (by rw [hfn]; exact hf) (by rw [results_tmp hres, hv]) (events_results_tmp hres _ _) (by rw [hfn]; exact hi)
 have hG : Goes Try.prog true AtRel (fun _ _ es => ∀ e ∈ es, EvL (fun _ => False) B e) (AtEnd Try.prog (fun _ => False) B Post) 0 (G fr []) w1 := by
  rintro _ ⟨d, rfl⟩
  exact ⟨rfl, v, #[], hs d, by simp, hP d⟩
 obtain ⟨M8, last, o, w', t', e1, e2, e3, e4⟩ := beside_ends (P := Try.prog) (Post := Post) (sl := sl) (fun _ _ _ h => h) hg0 hL hPast hG
 refine ⟨N1 + M8, last, o, w', t', ?_, ?_, e3, e4⟩
 ·rw [Nat.add_assoc, runNT_add, r1]; exact e1
 ·rw [Go.runN_add, ← runNT_fst Try.prog _ _ #[], r1]; exact e2
end
section
open Go.Conc Go.RowKit Go.Relay Go.ChangeShapes Go.WideShapes Go.ChangeAt Go.Joins Go.Deep
theorem und3_is : Try.prog.underlying 3 = some (.int .i64) := by kernel_rfl
theorem und2_is : Try.prog.underlying 2 = some (.int .i64) := by kernel_rfl
theorem laid_out : laidOutB Try.prog = true := by kernel_rfl
section
variable {H : Type} {enc : TypeId × Value → H} {W w' : World}
theorem Left.stays {r : Value} {t : TypeId} {v : Value} {d : DataW H} {ps : List MemPlace} (K : Left W r w') (hr : Try.prog.readableRec t = true) (hrow : t < Try.prog.types.size) (h : DataW.Trod enc Try.prog W 0 (fun _ => true) true t v d ps) (hlt : ∀ x ∈ ps, x.block < W.heap.size) :
  DataW.Trod enc Try.prog w' 0 (fun b => decide (b < W.heap.size)) true t v d ps :=
 WideElems.Trod_stays laid_out hr hrow h (fun x hx => by
  have hb := K.2.2.2 x.block (hlt x hx)
  cases x with
  | cell b o => exact World.cell?_of_block (w := W) (a := ⟨b, o, none⟩) hb
  | map b => exact hb) (fun x hx => by simpa using hlt x hx)
theorem addr_form {w : World} {a : Addr} {v : Value} (h : w.cell? a = some v) : a = ⟨a.block, a.off, none⟩ := by
 obtain ⟨b, o, s⟩ := a
 cases s with
 | none => rfl
 | some s =>
  unfold World.cell? at h
  split at h
  ·simp at h
  ·cases h
end
section
variable {H : Type} {enc : TypeId × Value → H} {W : World}
theorem lit_wraps {z : Int} (h : (Lit.int .i64 z).wf = true) : IntKind.i64.wrap z = z := by
 simp [Lit.wf, IntKind.min, IntKind.max, IntKind.signed, IntKind.bits] at h
 rw [IntKind.wrap_i64]
 omega
theorem open_numsT {t e : TypeId} {n : Nat} {v : Value} {x : DataW H × List MemPlace} (hu : Try.prog.underlying t = some (.slice e)) (he : Try.prog.underlying e = some (.int .i64)) (hc3 : Try.prog.cellsOf e = 1) (hb3 : Try.prog.bytesOf e = 8) (h : DataW.trod enc Try.prog W 0 (fun _ => true) true n t [v] = some x)
  {ts : List TypeId} {ds : List (DataW H)} {j : Nat} (hsz : (DataW.weightsEach Try.prog ts ds).all (· ≤ reachBytes) = true) (ht : ts[j]? = some t) (hd : ds[j]? = some x.1) :
  ∃ (a : Option Addr) (cap : Nat) (zs : List Int), v = .slice a zs.length cap ∧ zs.length ≤ 17592186044416 ∧ (∀ (i : Nat) (z : Int), zs[i]? = some z → IntKind.i64.wrap z = z ∧ ∃ s so, a = some ⟨s, so, none⟩ ∧ W.cell? ⟨s, so + i, none⟩ = some (.int .i64 z)) ∧ zs.length ≤ cap ∧ (a = none ∧ cap = 0 ∨ ∃ p, a = some p) := by
 rcases open_ints hu he hc3 h with ⟨e, _⟩ | ⟨a', len', cap', zs, e, _, hl, _, hzl, hx, hcell, hwf⟩
 ·have e : [v] = [.slice none 0 0] := e
  injection e with e _
  subst e
  exact ⟨none, 0, [], rfl, Nat.zero_le _, fun i z h => by simp at h, Nat.zero_le _, .inl ⟨rfl, rfl⟩⟩
 ·have e : [v] = [.slice (some a') len' cap'] := e
  injection e with e _
  subst e
  have hzl : zs.length = cap' := by simpa using hzl
  subst hx
  have hs := sized_slice hsz ht hd hu
  rw [hb3] at hs
  have hs2 : ((lits .i64 (zs.take len') : List (DataW H)).length + (lits .i64 (zs.drop len') : List (DataW H)).length) = cap' := by simp [lits]; omega
  rw [hs2] at hs
  have hr := reachBytes_lt
  have htl : (zs.take len').length = len' := by rw [List.length_take]; omega
  refine ⟨some a', cap', zs.take len', by rw [htl], by omega, fun i z hz => ?_, by omega, .inr ⟨_, rfl⟩⟩
  have hi : i < len' := by have := (List.getElem?_eq_some_iff.1 hz).1; omega
  have h0 := hcell 0 (by omega)
  have ha : a'.add 0 = a' := by simp [Addr.add]
  rw [ha] at h0
  have hform := addr_form h0
  have hci := hcell i (by omega)
  rw [hform] at hci
  have hz' : zs[i]? = some z := by
   rw [List.getElem?_take, if_pos hi] at hz
   exact hz
  refine ⟨lit_wraps (hwf z (List.mem_of_getElem? hz')), _, _, congrArg some hform, ?_⟩
  rw [add_none] at hci
  rw [hci]
  rw [List.getD_eq_getElem?_getD, hz']
  rfl
theorem numsT_lsR {a : Option Addr} {cap : Nat} {zs : List Int} (h1 : ∀ (i : Nat) (z : Int), zs[i]? = some z → IntKind.i64.wrap z = z ∧ ∃ s so, a = some ⟨s, so, none⟩ ∧ W.cell? ⟨s, so + i, none⟩ = some (.int .i64 z)) (h2 : zs.length ≤ cap) (h3 : a = none ∧ cap = 0 ∨ ∃ p, a = some p) : LsR (.slice a zs.length cap) zs W :=
 have hn : a = none → cap = 0 := fun e => by
  rcases h3 with h | ⟨p, h⟩
  ·exact h.2
  ·rw [h] at e; cases e
 ⟨a, cap, rfl, h2, hn, fun j z hz => (h1 j z hz).2⟩
variable {base : Nat} {spare : Nat → Bool} {held : Bool}
end
end
section
open Go.Conc Go.RowKit Go.Relay Go.ChangeShapes Go.WideShapes Go.ChangeAt Go.Joins Go.Deep
noncomputable def fldsOp : Array Field := match Try.prog.underlying 47 with | some (.struct fs) => fs | _ => #[]
theorem undOp_is : Try.prog.underlying 47 = some (.struct fldsOp) := by kernel_rfl
theorem fldsOp_four : ∃ f0 f1 f2 f3, fldsOp = #[f0, f1, f2, f3] ∧ f0.type = 3 ∧ f1.type = 2 ∧ f2.type = 2 ∧ f3.type = 2 := by
 have hs : fldsOp.size = 4 := by kernel_rfl
 have h0 : (fldsOp[0]?).map (·.type) = some 3 := by kernel_rfl
 have h1 : (fldsOp[1]?).map (·.type) = some 2 := by kernel_rfl
 have h2 : (fldsOp[2]?).map (·.type) = some 2 := by kernel_rfl
 have h3 : (fldsOp[3]?).map (·.type) = some 2 := by kernel_rfl
 generalize fldsOp = F at *
 obtain ⟨l⟩ := F
 match l, hs with
 | [f0, f1, f2, f3], _ => exact ⟨f0, f1, f2, f3, rfl, by simpa using h0, by simpa using h1, by simpa using h2, by simpa using h3⟩
section
variable {H : Type} {enc : TypeId × Value → H} {W : World} {base : Nat} {spare : Nat → Bool} {held : Bool}
theorem trod_struct4 {P : Program} {t : TypeId} {f0 f1 f2 f3 : Field} {fuel : Nat} {cs : List Value} {x : DataW H × List MemPlace} (ht : P.underlying t = some (.struct #[f0, f1, f2, f3])) (h : DataW.trod enc P W base spare held fuel t cs = some x) :
  ∃ y0 y1 y2 y3 n, cs.length = P.cellsOf t ∧ DataW.trod enc P W base spare held n f0.type ((cs.drop f0.offset).take (P.cellsOf f0.type)) = some y0 ∧
   DataW.trod enc P W base spare held n f1.type ((cs.drop f1.offset).take (P.cellsOf f1.type)) = some y1 ∧ DataW.trod enc P W base spare held n f2.type ((cs.drop f2.offset).take (P.cellsOf f2.type)) = some y2 ∧
   DataW.trod enc P W base spare held n f3.type ((cs.drop f3.offset).take (P.cellsOf f3.type)) = some y3 := by
 obtain ⟨xs, n, _, rfl, hl, hlen, hf⟩ := DataW.trod_struct ht h
 match xs, hlen with
 | [y0, y1, y2, y3], _ => exact ⟨y0, y1, y2, y3, n, hl, by simpa using hf 0 f0 rfl, by simpa using hf 1 f1 rfl, by simpa using hf 2 f2 rfl, by simpa using hf 3 f3 rfl⟩
structure ThIn (W : World) (v : Value) (a : Option Addr) (ln oc : Nat) (l : List OpV) : Prop where
 is : v = .slice a ln oc
 len : l.length = ln
 cap : ln ≤ oc
 ad : (a = none ∧ oc = 0) ∨ ∃ p, a = some p
 ops : ∀ (k : Nat) (o : OpV), l[k]? = some o → ∃ b off, a = some ⟨b, off, none⟩ ∧ W.cell? ⟨b, off + k * 4, none⟩ = some (.int .i64 o.k) ∧ W.cell? ⟨b, off + k * 4 + 1, none⟩ = some (.int .i64 o.a) ∧ W.cell? ⟨b, off + k * 4 + 2, none⟩ = some (.int .i64 o.b) ∧ W.cell? ⟨b, off + k * 4 + 3, none⟩ = some (.int .i64 o.c)
theorem open_ops {n : Nat} {v : Value} {x : DataW H × List MemPlace} (hu : Try.prog.underlying 34 = some (.slice 47)) (h : DataW.trod enc Try.prog W base (fun _ => true) held n 34 [v] = some x) :
  ∃ (q : (Option Addr × Nat × Nat) × List OpV), ThIn W v q.1.1 q.1.2.1 q.1.2.2 q.2 := by
 have hC : Try.prog.cellsOf 47 = 4 := by kernel_rfl
 obtain ⟨f0, f1, f2, f3, ef, t0, t1, t2, t3⟩ := fldsOp_four
 have hst : Try.prog.underlying 47 = some (.struct #[f0, f1, f2, f3]) := by rw [undOp_is, ef]
 have hone : oneCellFields Try.prog #[f0, f1, f2, f3] = true := by rw [← ef]; kernel_rfl
 rcases open_slice hu h with ⟨e, _⟩ | ⟨a', len', cap', m, n', D, Pl, e, _, hl, _, hm, hx, hel⟩
 ·injection e with e _
  exact ⟨((none, 0, 0), []), e, rfl, Nat.le_refl _, .inl ⟨rfl, rfl⟩, fun k o h => by simp at h⟩
 ·injection e with e _
  have hm : m = cap' := by simpa using hm
  have key : ∀ i, i < len' → ∃ o : OpV, ∀ k v, ([.int .i64 o.k, .int .i64 o.a, .int .i64 o.b, .int .i64 o.c] : List Value)[k]? = some v → W.cell? ((a'.add (i * 4)).add k) = some v := fun i hi => by
   obtain ⟨cs', h1, h2⟩ := hel i (by omega)
   rw [hC] at h1
   obtain ⟨_, hlen, hcell⟩ := World.cells?_some h1
   obtain ⟨y0, y1, y2, y3, k, _, u0, u1, u2, u3⟩ := trod_struct4 hst h2
   obtain ⟨o0, k0⟩ := hone_of hone 0 f0 rfl
   obtain ⟨o1, k1⟩ := hone_of hone 1 f1 rfl
   obtain ⟨o2, k2⟩ := hone_of hone 2 f2 rfl
   obtain ⟨o3, k3⟩ := hone_of hone 3 f3 rfl
   match cs', hlen with
   | [c0, c1, c2, c3], _ =>
    rw [o0, k0, t0] at u0
    rw [o1, k1, t1] at u1
    rw [o2, k2, t2] at u2
    rw [o3, k3, t3] at u3
    obtain ⟨z0, e0, _, _⟩ := DataW.trod_int und3_is u0
    obtain ⟨z1, e1, _, _⟩ := DataW.trod_int und2_is u1
    obtain ⟨z2, e2, _, _⟩ := DataW.trod_int und2_is u2
    obtain ⟨z3, e3, _, _⟩ := DataW.trod_int und2_is u3
    simp at e0 e1 e2 e3
    subst e0 e1 e2 e3
    refine ⟨⟨z0, z1, z2, z3⟩, fun k v hv => ?_⟩
    have hk4 : k < 4 := (List.getElem?_eq_some_iff.1 hv).1
    have hc := hcell k (by simpa using hk4)
    rw [hc]
    exact hv
  have hI : Inhabited OpV := ⟨⟨0, 0, 0, 0⟩⟩
  obtain ⟨f, hf'⟩ := choose_lt (α := OpV) key
  refine ⟨((some a', len', cap'), (List.range len').map f), e, by simp, hl, .inr ⟨_, rfl⟩, fun k o hd => ?_⟩
  have hk : k < len' := by simpa using (List.getElem?_eq_some_iff.1 hd).1
  have hd : f k = o := by simpa [hk] using hd
  have hf := hf' k hk
  rw [hd] at hf
  have h0 := hf' 0 (by omega) 0 _ rfl
  have ha : (a'.add (0 * 4)).add 0 = a' := by simp [Addr.add]
  rw [ha] at h0
  have hform := addr_form h0
  have hc : ∀ (m : Nat) (v : Value), ([.int .i64 o.k, .int .i64 o.a, .int .i64 o.b, .int .i64 o.c] : List Value)[m]? = some v → W.cell? ⟨a'.block, a'.off + k * 4 + m, none⟩ = some v := fun m v hv => by
   have := hf m v hv
   rw [hform, add_none, add_none] at this
   exact this
  exact ⟨a'.block, a'.off, congrArg some hform, hc 0 _ rfl, hc 1 _ rfl, hc 2 _ rfl, hc 3 _ rfl⟩
end
section
variable {H : Type} {enc : TypeId × Value → H} {W : World}
theorem trodAll_one {P : Program} {base : Nat} {spare : Nat → Bool} {held : Bool} {t : TypeId} {args : Array Value} {ds : List (DataW H)} {ps : List MemPlace} (h : DataW.TrodAll enc P W base spare held [t] args.toList ds ps) : ∃ v d, args = #[v] ∧ ds = [d] ∧ DataW.Trod enc P W base spare held t v d ps := by
 obtain ⟨v, vs, d, ds1, p, q, hargs, rfl, rfl, hd, hrest⟩ := trodAll_cons h
 obtain ⟨rfl, rfl, rfl⟩ := trodAll_nil hrest
 exact ⟨v, d, by cases args; simp_all, rfl, by simpa using hd⟩
end
end
end Go.Proofs.Ytjenoiekfkhafaa
