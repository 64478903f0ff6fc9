/- Part 16. -/
import Derived.Test.YtnnakajldnaldaaK1
import Derived.Test.YtnnakajldnaldaaK2
import Derived.Test.YtnnakajldnaldaaK5
import Derived.Test.YtnnakajldnaldaaK15
set_option linter.unusedSimpArgs false
set_option linter.unusedVariables false
set_option maxHeartbeats 8000000
set_option maxRecDepth 100000
namespace Go.Proofs.Ytnnakajldnaldaa
open Go.Conc Go.RowKit Go.Relay
open Go.ConcN (upd upd_ne upd_same)
section
noncomputable def reg15_0 : Array Oper := match Try.f15.body with | some (.seq (.region _ ops _) _) => ops | _ => #[]
theorem size15_0 : reg15_0.size = 1 := by kernel_rfl
noncomputable def reg15_1 : Array Oper := match Try.f15.body with | some (.seq _ (.seq (.region _ ops _) _)) => ops | _ => #[]
theorem size15_1 : reg15_1.size = 7 := by kernel_rfl
theorem code15_is : Try.f15.body = some (.seq (.region 0 reg15_0 false) (.seq (.region 1 reg15_1 false) (.ret))) := by kernel_rfl
def RPl (n : Nat) (L : La) (stx : L.Sg → List Int) (W : World) (F : OX L × List Nat) (v : Value) (w' : World) : Prop := ∃ cells, v = .agg cells ∧ TrA cells n (fun i => (F.1.th i).ans) F.2 (stx F.1.s) (stuckO n F.1) w' ∧ Chg (fun _ => False) W w' ∧ ∀ i, i < n → (F.1.th i).ans.length ≤ 65536
section
variable {main : Bool}
theorem rplay_in (xa : Option Addr) (xs : List Int) (xc : Nat) (tv sv : Value) (most : Int) (Y : Nat → World → World → Prop) (cs : List Frame) (c : Frame) (W : World) (Z : Array Value → World → Prop)
    (hnew : ∀ w1, w1 = W.alloc zTr → CallW Try.prog main (fun _ => none) 33 #[.slice xa xs.length xc] w1 (fun v w' => v = .pointer (some ⟨w1.heap.size, 0, none⟩) ∧ Y w1.heap.size w1 w'))
    (hrun : ∀ w1 w2, w1 = W.alloc zTr → Y w1.heap.size w1 w2 → CallW Try.prog main (fun _ => none) 34 #[.pointer (some ⟨w1.heap.size, 0, none⟩), tv, sv, .int .i64 most] w2 (fun v w' => ∃ x0 x1 x2 x3, v = .agg #[x0, x1, x2, x3] ∧ w'.heap[W.heap.size]? = some zTr ∧ (#[x0, x1, x2, x3] : Array Value).all (·.oneCell') = true ∧ Z #[x0, x1, x2, x3] w')) :
    Walk Try.prog main (DR (fun _ => none)) (fun g w' => ∃ cells w3 d, g = G (c.finish (.agg cells)) cs ∧ Z cells w3 ∧ w' = (w3.setRow W.heap.size cells).at d) (G (Frame.enter Try.prog 15 #[.slice xa xs.length xc, tv, sv, .int .i64 most] .normal) (c :: cs)) W := by
  rw [enter_at _ Try.func15 code15_is]
  simp only [Try.ntmps15, List.size_toArray, List.length_cons, List.length_nil, Nat.reduceAdd, Nat.reduceSub, Array.replicate_succ, Array.replicate_zero, List.push_toArray, List.append_toArray, List.nil_append, List.cons_append]
  repeat (first | refine Walk.c rfl ?_ | refine Walk.cRet ?_ | refine Walk.cEnd ?_ | (refine Walk.cReg ?_; simp only [size15_0, size15_1, List.range, List.range.loop]) | (refine Walk.oq ?_; try walk_nrm) | (refine Walk.un ?_; walk_nrm))
  (refine Walk.oa ?_; try walk_nrm)
  have e1 : W.alloc (.cells #[.slice none 0 0, .slice none 0 0, .slice none 0 0, .bool false] 31) = W.alloc zTr := rfl
  try rw [e1]
  clear e1
  have hnew := hnew _ rfl
  have hrun := fun w2 => hrun _ w2 rfl
  generalize W.alloc zTr = w1 at *
  generalize hR : W.heap.size = R at *
  repeat (first | refine Walk.c rfl ?_ | refine Walk.cRet ?_ | refine Walk.cEnd ?_ | (refine Walk.cReg ?_; simp only [size15_0, size15_1, List.range, List.range.loop]) | (refine Walk.oq ?_; try walk_nrm) | (refine Walk.un ?_; walk_nrm))
  refine Walk.callW (Post := fun v w' => v = .pointer (some ⟨w1.heap.size, 0, none⟩) ∧ Y w1.heap.size w1 w') ?_ (ho_of (by conv => lhs; whnf) (by kernel_rfl)) (by rfl) (by decide) rfl Try.func33 (by kernel_rfl) (by rfl) ?_
  · walk_nrm
    exact hnew
  rintro v w2 ⟨rfl, hY⟩
  have hrun := hrun w2 hY
  walk_nrm
  repeat (first | (refine Walk.oq ?_; try walk_nrm) | (refine Walk.un ?_; walk_nrm))
  refine Walk.callW (Post := fun v w' => ∃ x0 x1 x2 x3, v = .agg #[x0, x1, x2, x3] ∧ w'.heap[R]? = some zTr ∧ (#[x0, x1, x2, x3] : Array Value).all (·.oneCell') = true ∧ Z #[x0, x1, x2, x3] w') ?_ (ho_of (by conv => lhs; whnf) (by kernel_rfl)) (by rfl) (by decide) rfl Try.func34 (by kernel_rfl) (by rfl) ?_
  · walk_nrm
    exact hrun
  rintro v w3 ⟨x0, x1, x2, x3, rfl, hr, h1, hZ⟩
  have hT := setRow_self (cells := #[x0, x1, x2, x3]) hr
  walk_nrm
  repeat (first | (refine Walk.oq ?_; try walk_nrm) | (refine Walk.un ?_; walk_nrm))
  refine Walk.storeS 31 (.tmp 8) (.tmp 14) (ho_of (by conv => lhs; whnf) (by kernel_rfl)) (by rfl) (by decide) rfl R #[x0, x1, x2, x3] #[.slice none 0 0, .slice none 0 0, .slice none 0 0, .bool false] 31 rfl rfl hr (by kernel_rfl) rfl h1 (ap0 _) ?_
  have he : w3.setRow R #[x0, x1, x2, x3] = w3.setRow R #[x0, x1, x2, x3] := rfl
  generalize hw4 : w3.setRow R #[x0, x1, x2, x3] = w4 at hT ⊢
  try walk_nrm
  repeat (first | refine Walk.c rfl ?_ | refine Walk.cRet ?_ | refine Walk.cEnd ?_ | (refine Walk.cReg ?_; simp only [size15_0, size15_1, List.range, List.range.loop]) | (refine Walk.oq ?_; try walk_nrm) | (refine Walk.un ?_; walk_nrm))
  refine Walk.onCell (T := R) rfl rfl rfl Try.func15 rfl (by rfl) hT (by kernel_rfl) (by kernel_rfl) (.stop fun d => ⟨#[x0, x1, x2, x3], w3, d, rfl, hZ, ?_⟩)
  rw [hw4]
theorem rplay_w (cb rb rc : Nat) (ra : Option Addr) (xa : Option Addr) (xs : List Int) (xc : Nat) (hxn : xs.length ≤ 17592186044416) (b off n0 tcc N : Nat) (hN : N = min n0 64) (va : Option Addr) (hv : 0 < N → va = some ⟨b, off, none⟩) (oa : Nat → Option Addr) (ln oc : Nat → Nat) (ops : Nat → List OpV) (sa : Option Addr) (sc : Nat) (sl : List Int) (most : Int) (W : World) (hx : SlIn xa xs W) (O : OpsIn b off N oa ln oc ops W)
    (hsl : sl.length ≤ 17592186044416) (hs : ∀ (j : Nat) (z : Int), sl[j]? = some z → ∃ s so, sa = some ⟨s, so, none⟩ ∧ W.cell? ⟨s, so + j, none⟩ = some (.int .i64 z)) :
    CallW Try.prog main (fun _ => none) 15 #[.slice xa xs.length xc, .slice va n0 tcc, .slice sa sl.length sc, .int .i64 most] W (RPl N (spLa cb rb (stN xs.length) ra rc) (fun s => stL s (stN xs.length)) W (playO (spLa cb rb (stN xs.length) ra rc) (spJ xs (min xs.length 64)) ops N most sl)) := by
  obtain ⟨q1, q2, q3⟩ := stN_le xs.length
  intro c cs
  have hO1 : ∀ b, b < W.heap.size → (W.alloc zTr).heap[b]? = W.heap[b]? := fun b hb => heap_new_lt _ _ hb
  have hsz : (W.alloc zTr).heap.size = W.heap.size + 1 := by simp
  have hs1 : ∀ (j : Nat) (z : Int), sl[j]? = some z → ∃ s so, sa = some ⟨s, so, none⟩ ∧ (W.alloc zTr).cell? ⟨s, so + j, none⟩ = some (.int .i64 z) := fun j z hz => by
    obtain ⟨s, so, e, hc⟩ := hs j z hz
    exact ⟨s, so, e, cell_alloc _ _ hc⟩
  have hnew := rnew_w (main := main) xa xs xc hxn (fun _ => R5.new none 0 0 0 []) (W.alloc zTr) (hx.old hO1)
  have hz : (W.alloc zTr).heap[W.heap.size]? = some zTr := heap_alloc_new _ _
  refine (rplay_in (main := main) xa xs xc (.slice va n0 tcc) (.slice sa sl.length sc) most (fun M w1 w' => ∃ cg cc, M5 M M cg cc 0 0 0 (stN xs.length) none (spJ xs (min xs.length 64)) (fun _ => R5.new none 0 0 0 []) w' ∧ Chg (fun _ => False) w1 w') cs c W
    (fun cells w' => (∀ w'' : World, (∀ b, W.heap.size + 1 ≤ b → b < w'.heap.size → w''.heap[b]? = w'.heap[b]?) → TrA cells N (fun i => ((playO (spLa cb rb (stN xs.length) ra rc) (spJ xs (min xs.length 64)) ops N most sl).1.th i).ans) (playO (spLa cb rb (stN xs.length) ra rc) (spJ xs (min xs.length 64)) ops N most sl).2 (stL (playO (spLa cb rb (stN xs.length) ra rc) (spJ xs (min xs.length 64)) ops N most sl).1.s (stN xs.length)) (stuckO N (playO (spLa cb rb (stN xs.length) ra rc) (spJ xs (min xs.length 64)) ops N most sl).1) w'') ∧ (∀ b, b < W.heap.size → w'.heap[b]? = W.heap[b]?) ∧ W.heap.size ≤ w'.heap.size ∧ ∀ i, i < N → ((playO (spLa cb rb (stN xs.length) ra rc) (spJ xs (min xs.length 64)) ops N most sl).1.th i).ans.length ≤ 65536) ?_ ?_).mono ?_
  · rintro w1 rfl c' cs'
    refine (hnew c' cs').mono ?_
    rintro g w' ⟨v, ⟨rfl, cg, cc, I, hC⟩, hg⟩
    exact ⟨_, ⟨rfl, cg, cc, I, hC⟩, hg⟩
  · rintro w1 w2 rfl ⟨cg, cc, I, hC⟩ c' cs'
    have hC2 := hC.size
    have hold : ∀ b, b < (W.alloc zTr).heap.size → w2.heap[b]? = (W.alloc zTr).heap[b]? := fun b hb => hC.same b hb id
    refine (run_w (main := main) (cb := cb) (rb := rb) (rc := rc) (ra := ra) (W := W.alloc zTr) (by omega) (by omega) (spJ xs (min xs.length 64)) _ b off n0 tcc N hN va hv oa ln oc ops sa sc sl most rfl (O.old hO1) hsl hs1 w2 I hold hC2 c' cs').mono ?_
    rintro g w' ⟨v, ⟨cells, rfl, e2, e3, e4, e5⟩, hg⟩
    obtain ⟨aa, ac, oa', oc', sa', sc', rfl, _⟩ := (e2 w' fun _ _ _ => rfl).all
    refine ⟨_, ⟨_, _, _, _, rfl, (e3 _ (by omega)).trans hz, by simp [Value.oneCell'], fun w'' h => e2 w'' fun b hb => h b (by omega), fun b hb => (e3 b (by omega)).trans (hO1 b hb), by omega, e5⟩, hg⟩
  · rintro g w' ⟨cells, w3, d, rfl, ⟨z1, z2, z3, z4⟩, rfl⟩
    refine ⟨_, ⟨cells, rfl, z1 _ fun b hb _ => setRow_other _ _ (by omega), ⟨?_, fun b hb _ => (setRow_other _ _ (by omega)).trans (z2 b hb)⟩, z4⟩, rfl⟩
    show W.heap.size ≤ (w3.setRow W.heap.size cells).heap.size
    rw [setRow_size]
    exact z3
end
end
end Go.Proofs.Ytnnakajldnaldaa
