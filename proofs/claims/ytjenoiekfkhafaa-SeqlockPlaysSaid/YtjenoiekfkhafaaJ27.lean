/- Part 27. -/
import Derived.Test.YtjenoiekfkhafaaJ3
import Derived.Test.YtjenoiekfkhafaaJ13
import Derived.Test.YtjenoiekfkhafaaJ26
set_option linter.unusedSimpArgs false
set_option linter.unusedVariables false
set_option linter.unusedVariables false
set_option maxHeartbeats 8000000
set_option maxRecDepth 100000
namespace Go.Proofs.Ytjenoiekfkhafaa
open Go.Conc Go.RowKit Go.Relay
open Go.ConcN (upd upd_ne upd_same)
section
section
variable {main : Bool}
theorem rnew_w (xa : Option Addr) (xs : List Int) (xc : Nat) (hxn : xs.length ≤ 17592186044416) (T : Nat → R8) (w : World) (hx : SlIn xa xs w) : CallW Try.prog main (fun _ => none) 36 #[.slice xa xs.length xc] w (NewR xs T w) := by
 intro c cs
 refine (rnew_in xa xs.length xc (c :: cs) w).then ?_
 rintro _ _ ⟨u, w1, rfl, I, d, rfl⟩
 refine Walk.back ?_ d
 by_cases h0 : xs.length = 0
 ·have hnil : xs = [] := List.eq_nil_of_length_eq_zero h0
  subst hnil
  refine (rnew_end0 xa xc w.heap.size T w w1 rfl I u c cs).mono ?_
  rintro g w' ⟨rfl, cg, cc, I2, hC⟩
  exact ⟨_, ⟨rfl, cg, cc, I2, hC⟩, rfl⟩
 ·have loop : ∀ (r j : Nat) (cv : Value) (w2 : World) (u : Nat → Value), j + r = min xs.length 16 → NwR w.heap.size xs j cv w w2 →
    Walk Try.prog main (DR (fun _ => none)) (fun g w' => g = G (c.finish (.pointer (some ⟨w.heap.size, 0, none⟩))) cs ∧ ∃ cg cc, M8 w.heap.size w.heap.size cg cc 0 0 0 ((sqK xs.length + 1)) none (sq0 xs) T w' ∧ Chg (fun _ => False) w w') (G (hdNew8 (.slice xa xs.length xc) w.heap.size j u) (c :: cs)) w2 := by
   intro r
   induction r with
   | zero =>
    intro j cv w2 u hj I2
    have hj' : j = min xs.length 16 := hj
    have := rnew_end1 (main := main) xa xs xc j w.heap.size T cv hj' (by omega) w w2 rfl I2 u c cs
    rw [hj'] at this ⊢
    exact this
   | succ r ih =>
    intro j cv w2 u hj I2
    refine (rnew_go xa xs xc j w.heap.size cv (by omega) (by omega) hxn w w2 rfl hx I2 u (c :: cs)).then ?_
    rintro _ _ ⟨u3, w3, cv', rfl, I3, d, rfl⟩
    exact Walk.back (ih (j + 1) cv' w3 u3 (by omega) I3) d
  refine (loop (min xs.length 16) 0 (.slice none 0 0) w1 u (by omega) ⟨I.hd, by simpa using I.row, I.old, I.lt⟩).mono ?_
  rintro g w' ⟨rfl, cg, cc, I2, hC⟩
  exact ⟨_, ⟨rfl, cg, cc, I2, hC⟩, rfl⟩
end
end
section
noncomputable def reg15_0 := rg Try.f15.body [0]
noncomputable def reg15_1 := rg Try.f15.body [1, 0]
theorem z15 : List.range reg15_0.size = [0] ∧ List.range reg15_1.size = [0, 1, 2, 3, 4, 5, 6] := by refine ⟨?_, ?_⟩ <;> kernel_rfl
theorem code15_is : Try.f15.body = some (.seq (.region 0 reg15_0 false) (.seq (.region 1 reg15_1 false) (.ret))) := by kernel_rfl
def RPl (n : Nat) (L : La) (stx : L.Sg → List Int) (W : World) (F : OX L × List Nat) (v : Value) (w' : World) : Prop := ∃ cells, v = .agg cells ∧ TrA cells n (fun i => (F.1.th i).ans) F.2 (stx F.1.s) (stuckO n F.1) w' ∧ Chg (fun _ => False) W w' ∧ ∀ i, i < n → (F.1.th i).ans.length ≤ 65536
section
variable {main : Bool}
theorem rplay_in (xa : Option Addr) (xs : List Int) (xc : Nat) (tv sv : Value) (most : Int) (Y : Nat → World → World → Prop) (cs : List Frame) (c : Frame) (W : World) (Z : Array Value → World → Prop)
  (hnew : ∀ w1, w1 = W.alloc zTr → CallW Try.prog main (fun _ => none) 36 #[.slice xa xs.length xc] w1 (fun v w' => v = .pointer (some ⟨w1.heap.size, 0, none⟩) ∧ Y w1.heap.size w1 w'))
  (hrun : ∀ w1 w2, w1 = W.alloc zTr → Y w1.heap.size w1 w2 → CallW Try.prog main (fun _ => none) 37 #[.pointer (some ⟨w1.heap.size, 0, none⟩), tv, sv, .int .i64 most] w2 (fun v w' => ∃ x0 x1 x2 x3, v = .agg #[x0, x1, x2, x3] ∧ w'.heap[W.heap.size]? = some zTr ∧ (#[x0, x1, x2, x3] : Array Value).all (·.oneCell') = true ∧ Z #[x0, x1, x2, x3] w')) :
  Walk Try.prog main (DR (fun _ => none)) (fun g w' => ∃ cells w3 d, g = G (c.finish (.agg cells)) cs ∧ Z cells w3 ∧ w' = (w3.setRow W.heap.size cells).at d) (G (Frame.enter Try.prog 15 #[.slice xa xs.length xc, tv, sv, .int .i64 most] .normal) (c :: cs)) W := by
 rw [enter_at _ Try.func15 code15_is]
 simp only [Try.ntmps15, ez, Nat.reduceAdd, Nat.reduceSub]
 refine Walk.gz z15 ?_
 (refine Walk.oa ?_; try walk_nrm)
 have e1 : W.alloc (.cells #[.slice none 0 0, .slice none 0 0, .slice none 0 0, .bool false] 31) = W.alloc zTr := rfl
 try rw [e1]
 clear e1
 have hnew := hnew _ rfl
 have hrun := fun w2 => hrun _ w2 rfl
 generalize W.alloc zTr = w1 at *
 generalize hR : W.heap.size = R at *
 refine Walk.gz z15 ?_
 refine Walk.callW (Post := fun v w' => v = .pointer (some ⟨w1.heap.size, 0, none⟩) ∧ Y w1.heap.size w1 w') ?_ hoA (by rfl) (by decide) rfl Try.func36 (by kernel_rfl) (by rfl) ?_
 ·walk_nrm
  exact hnew
 rintro v w2 ⟨rfl, hY⟩
 have hrun := hrun w2 hY
 walk_nrm
 repeat (first | (refine Walk.oq ?_; try walk_nrm) | (refine Walk.un ?_; walk_nrm))
 refine Walk.callW (Post := fun v w' => ∃ x0 x1 x2 x3, v = .agg #[x0, x1, x2, x3] ∧ w'.heap[R]? = some zTr ∧ (#[x0, x1, x2, x3] : Array Value).all (·.oneCell') = true ∧ Z #[x0, x1, x2, x3] w') ?_ hoA (by rfl) (by decide) rfl Try.func37 (by kernel_rfl) (by rfl) ?_
 ·walk_nrm
  exact hrun
 rintro v w3 ⟨x0, x1, x2, x3, rfl, hr, h1, hZ⟩
 have hT := setRow_self (cells := #[x0, x1, x2, x3]) hr
 walk_nrm
 repeat (first | (refine Walk.oq ?_; try walk_nrm) | (refine Walk.un ?_; walk_nrm))
 refine Walk.storeS 31 (.tmp 8) (.tmp 14) hoA (by rfl) (by decide) rfl R #[x0, x1, x2, x3] #[.slice none 0 0, .slice none 0 0, .slice none 0 0, .bool false] 31 rfl rfl hr (by kernel_rfl) rfl h1 (ap0 _) ?_
 have he : w3.setRow R #[x0, x1, x2, x3] = w3.setRow R #[x0, x1, x2, x3] := rfl
 generalize hw4 : w3.setRow R #[x0, x1, x2, x3] = w4 at hT ⊢
 try walk_nrm
 refine Walk.gz z15 ?_
 refine Walk.onCell (T := R) rfl rfl rfl Try.func15 rfl (by rfl) hT (by kernel_rfl) (by kernel_rfl) (.stop fun d => ⟨#[x0, x1, x2, x3], w3, d, rfl, hZ, ?_⟩)
 rw [hw4]
theorem rplay_w (lb : Nat) (xa : Option Addr) (xs : List Int) (xc : Nat) (hxn : xs.length ≤ 17592186044416) (b off n0 tcc N : Nat) (hN : N = min n0 64) (va : Option Addr) (hv : 0 < N → va = some ⟨b, off, none⟩) (oa : Nat → Option Addr) (ln oc : Nat → Nat) (ops : Nat → List OpV) (sa : Option Addr) (sc : Nat) (sl : List Int) (most : Int) (W : World) (hx : SlIn xa xs W) (O : OpsIn b off N oa ln oc ops W)
  (hsl : sl.length ≤ 17592186044416) (hs : ∀ (j : Nat) (z : Int), sl[j]? = some z → ∃ s so, sa = some ⟨s, so, none⟩ ∧ W.cell? ⟨s, so + j, none⟩ = some (.int .i64 z)) :
  CallW Try.prog main (fun _ => none) 15 #[.slice xa xs.length xc, .slice va n0 tcc, .slice sa sl.length sc, .int .i64 most] W (RPl N (sqLa lb (sqK xs.length)) (stM (sqK xs.length + 1)) W (playO (sqLa lb (sqK xs.length)) (sq0 xs) ops N most sl)) := by
 have q1 := (sqK_le xs.length).1
 intro c cs
 have hO1 : ∀ b, b < W.heap.size → (W.alloc zTr).heap[b]? = W.heap[b]? := fun b hb => heap_new_lt _ _ hb
 have hsz : (W.alloc zTr).heap.size = W.heap.size + 1 := by simp
 have hs1 : ∀ (j : Nat) (z : Int), sl[j]? = some z → ∃ s so, sa = some ⟨s, so, none⟩ ∧ (W.alloc zTr).cell? ⟨s, so + j, none⟩ = some (.int .i64 z) := fun j z hz => by
  obtain ⟨s, so, e, hc⟩ := hs j z hz
  exact ⟨s, so, e, cell_alloc _ _ hc⟩
 have hnew := rnew_w (main := main) xa xs xc hxn (fun _ => R8.new none 0 0 0 []) (W.alloc zTr) (hx.old hO1)
 have hz : (W.alloc zTr).heap[W.heap.size]? = some zTr := heap_alloc_new _ _
 refine (rplay_in (main := main) xa xs xc (.slice va n0 tcc) (.slice sa sl.length sc) most (fun M w1 w' => ∃ cg cc, M8 M M cg cc 0 0 0 (sqK xs.length + 1) none (sq0 xs) (fun _ => R8.new none 0 0 0 []) w' ∧ Chg (fun _ => False) w1 w') cs c W
  (fun cells w' => (∀ w'' : World, (∀ b, W.heap.size + 1 ≤ b → b < w'.heap.size → w''.heap[b]? = w'.heap[b]?) → TrA cells N (fun i => ((playO (sqLa lb (sqK xs.length)) (sq0 xs) ops N most sl).1.th i).ans) (playO (sqLa lb (sqK xs.length)) (sq0 xs) ops N most sl).2 (stM (sqK xs.length + 1) (playO (sqLa lb (sqK xs.length)) (sq0 xs) ops N most sl).1.s) (stuckO N (playO (sqLa lb (sqK xs.length)) (sq0 xs) ops N most sl).1) w'') ∧ (∀ b, b < W.heap.size → w'.heap[b]? = W.heap[b]?) ∧ W.heap.size ≤ w'.heap.size ∧ ∀ i, i < N → ((playO (sqLa lb (sqK xs.length)) (sq0 xs) ops N most sl).1.th i).ans.length ≤ 65536) ?_ ?_).mono ?_
 ·rintro w1 rfl c' cs'
  refine (hnew c' cs').mono ?_
  rintro g w' ⟨v, ⟨rfl, cg, cc, I, hC⟩, hg⟩
  exact ⟨_, ⟨rfl, cg, cc, I, hC⟩, hg⟩
 ·rintro w1 w2 rfl ⟨cg, cc, I, hC⟩ c' cs'
  have hC2 := hC.size
  have hold : ∀ b, b < (W.alloc zTr).heap.size → w2.heap[b]? = (W.alloc zTr).heap[b]? := fun b hb => hC.same b hb id
  refine (run_w (main := main) (lb := lb) (W := W.alloc zTr) (by omega) (by omega) (sq0 xs) _ b off n0 tcc N hN va hv oa ln oc ops sa sc sl most rfl (O.old hO1) hsl hs1 w2 I hold hC2 c' cs').mono ?_
  rintro g w' ⟨v, ⟨cells, rfl, e2, e3, e4, e5⟩, hg⟩
  obtain ⟨aa, ac, oa', oc', sa', sc', rfl, _⟩ := (e2 w' fun _ _ _ => rfl).all
  refine ⟨_, ⟨_, _, _, _, rfl, (e3 _ (by omega)).trans hz, by simp [Value.oneCell'], fun w'' h => e2 w'' fun b hb => h b (by omega), fun b hb => (e3 b (by omega)).trans (hO1 b hb), by omega, e5⟩, hg⟩
 ·rintro g w' ⟨cells, w3, d, rfl, ⟨z1, z2, z3, z4⟩, rfl⟩
  refine ⟨_, ⟨cells, rfl, z1 _ fun b hb _ => setRow_other _ _ (by omega), ⟨?_, fun b hb _ => (setRow_other _ _ (by omega)).trans (z2 b hb)⟩, z4⟩, rfl⟩
  show W.heap.size ≤ (w3.setRow W.heap.size cells).heap.size
  rw [setRow_size]
  exact z3
end
end
section
section
variable {P : Program}
theorem eqInB (d : Nat) (t : TypeId) (x y : Bool) (w : World) (es : Array Event) (hu : P.underlying t = some .bool) : (Op.equalIn (d + 1) t (.bool x) (.bool y)).run P w = .ok (x == y) w ∧ (Op.equalIn (d + 1) t (.bool x) (.bool y)).events P w es = es := by
 constructor <;> simp [Op.equalIn, run_underlying hu]
theorem run_neqB (t : TypeId) (hu : P.underlying t = some .bool) (x y : Bool) (w : World) : (binOp .neq t (.bool x) (.bool y)).run P w = .ok (.bool (x != y)) w := by
 simp only [binOp]
 simp [Op.equal, Op.maxDepth, (eqInB 9999 t x y w #[] hu).1, bne]
theorem ev_neqB (t : TypeId) (hu : P.underlying t = some .bool) (x y : Bool) (w : World) (es : Array Event) : (binOp .neq t (.bool x) (.bool y)).events P w es = es := by
 simp only [binOp]
 simp [Op.equal, Op.maxDepth, (eqInB 9999 t x y w #[] hu).1, (eqInB 9999 t x y w es hu).2]
end
theorem und4B : Try.prog.underlying 4 = some .bool := by kernel_rfl
noncomputable def reg21_0 := rg Try.f21.body [0]
noncomputable def reg21_1 := rg Try.f21.body [1, 0, 0]
noncomputable def reg21_2 := rg Try.f21.body [1, 0, 1, 0, 0]
noncomputable def reg21_3 := rg Try.f21.body [1, 1, 0, 0]
noncomputable def reg21_4 := rg Try.f21.body [1, 1, 0, 1, 0, 0, 0, 0]
noncomputable def reg21_6 := rg Try.f21.body [1, 1, 0, 1, 0, 0, 1, 0, 0, 0]
theorem size21_6 : reg21_6.size = 9 := by kernel_rfl
noncomputable def reg21_7 := rg Try.f21.body [1, 1, 0, 1, 0, 0, 1, 0, 0, 1, 0, 0]
noncomputable def reg21_5 := rg Try.f21.body [1, 1, 0, 1, 0, 0, 1, 1]
noncomputable def reg21_8 := rg Try.f21.body [1, 1, 1, 0]
theorem z21 : List.range reg21_0.size = [0] ∧ List.range reg21_1.size = [0, 1, 2, 3, 4] ∧ List.range reg21_2.size = [0] ∧ List.range reg21_3.size = [0] ∧ List.range reg21_4.size = [0, 1, 2, 3] ∧ List.range reg21_5.size = [0, 1, 2] ∧ List.range reg21_6.size = [0, 1, 2, 3, 4, 5, 6, 7, 8] ∧ List.range reg21_7.size = [0] ∧ List.range reg21_8.size = [0] := by refine ⟨?_, ?_, ?_, ?_, ?_, ?_, ?_, ?_, ?_⟩ <;> kernel_rfl
theorem code21_is : Try.f21.body = some (.seq (.region 0 reg21_0 false) (.seq (.seq (.region 1 reg21_1 false) (.cond (.tmp 10 ) (.seq (.region 2 reg21_2 false) (.ret)) (.skip))) (.seq (.seq (.region 3 reg21_3 false) (.block 0 (.loop (.seq (.seq (.region 4 reg21_4 false) (.cond (.tmp 14 ) (.skip) (.exit 0))) (.seq (.block 1 (.seq (.region 6 reg21_6 true) (.cond (.tmp 25 ) (.seq (.region 7 reg21_7 false) (.ret)) (.skip)))) (.region 5 reg21_5 false)))))) (.seq (.region 8 reg21_8 false) (.ret))))) := by kernel_rfl
noncomputable def hdSame (av bv : Value) (i : Nat) (u : Nat → Value) : Frame :=
 (base 21).at { tmps := #[av, bv, u 2, u 3, u 4, .int .i64 i, u 6, u 7, u 8, u 9, u 10, u 11, u 12, u 13, u 14, u 15, u 16, u 17, u 18, u 19, u 20, u 21, u 22, u 23, u 24, u 25], defers := [] } [.code (.seq (.seq (.region 4 reg21_4 false) (.cond (.tmp 14 ) (.skip) (.exit 0))) (.seq (.block 1 (.seq (.region 6 reg21_6 true) (.cond (.tmp 25 ) (.seq (.region 7 reg21_7 false) (.ret)) (.skip)))) (.region 5 reg21_5 false))), .inLoop (.seq (.seq (.region 4 reg21_4 false) (.cond (.tmp 14 ) (.skip) (.exit 0))) (.seq (.block 1 (.seq (.region 6 reg21_6 true) (.cond (.tmp 25 ) (.seq (.region 7 reg21_7 false) (.ret)) (.skip)))) (.region 5 reg21_5 false))), .inBlock 0, .code (.seq (.region 8 reg21_8 false) (.ret))]
noncomputable def reg32_0 := rg Try.f32.body [0]
noncomputable def reg32_1 := rg Try.f32.body [1, 0, 0]
noncomputable def reg32_2 := rg Try.f32.body [1, 0, 1, 0, 0]
noncomputable def reg32_3 := rg Try.f32.body [1, 1, 0, 0]
noncomputable def reg32_4 := rg Try.f32.body [1, 1, 0, 1, 0, 0, 0, 0]
noncomputable def reg32_6 := rg Try.f32.body [1, 1, 0, 1, 0, 0, 1, 0, 0, 0]
theorem size32_6 : reg32_6.size = 9 := by kernel_rfl
noncomputable def reg32_7 := rg Try.f32.body [1, 1, 0, 1, 0, 0, 1, 0, 0, 1, 0, 0]
noncomputable def reg32_5 := rg Try.f32.body [1, 1, 0, 1, 0, 0, 1, 1]
noncomputable def reg32_8 := rg Try.f32.body [1, 1, 1, 0]
theorem z32 : List.range reg32_0.size = [0] ∧ List.range reg32_1.size = [0, 1, 2, 3, 4] ∧ List.range reg32_2.size = [0] ∧ List.range reg32_3.size = [0] ∧ List.range reg32_4.size = [0, 1, 2, 3] ∧ List.range reg32_5.size = [0, 1, 2] ∧ List.range reg32_6.size = [0, 1, 2, 3, 4, 5, 6, 7, 8] ∧ List.range reg32_7.size = [0] ∧ List.range reg32_8.size = [0] := by refine ⟨?_, ?_, ?_, ?_, ?_, ?_, ?_, ?_, ?_⟩ <;> kernel_rfl
theorem code32_is : Try.f32.body = some (.seq (.region 0 reg32_0 false) (.seq (.seq (.region 1 reg32_1 false) (.cond (.tmp 10 ) (.seq (.region 2 reg32_2 false) (.ret)) (.skip))) (.seq (.seq (.region 3 reg32_3 false) (.block 0 (.loop (.seq (.seq (.region 4 reg32_4 false) (.cond (.tmp 14 ) (.skip) (.exit 0))) (.seq (.block 1 (.seq (.region 6 reg32_6 true) (.cond (.tmp 25 ) (.seq (.region 7 reg32_7 false) (.ret)) (.skip)))) (.region 5 reg32_5 false)))))) (.seq (.region 8 reg32_8 false) (.ret))))) := by kernel_rfl
noncomputable def hdSameI (av bv : Value) (i : Nat) (u : Nat → Value) : Frame :=
 (base 32).at { tmps := #[av, bv, u 2, u 3, u 4, .int .i64 i, u 6, u 7, u 8, u 9, u 10, u 11, u 12, u 13, u 14, u 15, u 16, u 17, u 18, u 19, u 20, u 21, u 22, u 23, u 24, u 25], defers := [] } [.code (.seq (.seq (.region 4 reg32_4 false) (.cond (.tmp 14 ) (.skip) (.exit 0))) (.seq (.block 1 (.seq (.region 6 reg32_6 true) (.cond (.tmp 25 ) (.seq (.region 7 reg32_7 false) (.ret)) (.skip)))) (.region 5 reg32_5 false))), .inLoop (.seq (.seq (.region 4 reg32_4 false) (.cond (.tmp 14 ) (.skip) (.exit 0))) (.seq (.block 1 (.seq (.region 6 reg32_6 true) (.cond (.tmp 25 ) (.seq (.region 7 reg32_7 false) (.ret)) (.skip)))) (.region 5 reg32_5 false))), .inBlock 0, .code (.seq (.region 8 reg32_8 false) (.ret))]
section
variable {main : Bool} {V : Nat → Option Wait}
theorem sn_in (a b : Option Addr) (n ca cb : Nat) (cs : List Frame) (w : World) :
  Walk Try.prog main (DR V) (fun g w' => (∃ u, g = G (hdSame (.slice a n ca) (.slice b n cb) 0 u) cs) ∧ ∃ d, w' = w.at d) (G (Frame.enter Try.prog 21 #[.slice a n ca, .slice b n cb] .normal) cs) w := by
 rw [enter_at _ Try.func21 code21_is]
 simp only [Try.ntmps21, ez, Nat.reduceAdd, Nat.reduceSub]
 refine Walk.gz z21 ?_
 refine Walk.ctl rfl (fun w => stepG_loop) ?_
 refine .stop fun d => ⟨at_slots ?_, d, rfl⟩
 simp only [hdSame]
 rfl
theorem sn_out (a b : Option Addr) (n ca cb : Nat) (u : Nat → Value) (c : Frame) (cs : List Frame) (w : World) :
  Walk Try.prog main (DR V) (fun g w' => g = G (c.finish (.bool true)) cs ∧ ∃ d, w' = w.at d) (G (hdSame (.slice a n ca) (.slice b n cb) n u) (c :: cs)) w := by
 unfold hdSame
 refine Walk.gz z21 ?_
 exact Walk.on1 rfl rfl Try.func21 rfl (.stop fun d => ⟨rfl, d, rfl⟩)
theorem sn_go (ab ao n ca bb bo cb i : Nat) (x : Int) (u : Nat → Value) (cs : List Frame) (w : World) (hi : i < n) (hn : n ≤ 17592186044416) (ha : w.cell? ⟨ab, ao + i, none⟩ = some (.int .i64 x)) (hb : w.cell? ⟨bb, bo + i, none⟩ = some (.int .i64 x)) :
  Walk Try.prog main (DR V) (fun g w' => (∃ u', g = G (hdSame (.slice (some ⟨ab, ao, none⟩) n ca) (.slice (some ⟨bb, bo, none⟩) n cb) (i + 1) u') cs) ∧ ∃ d, w' = w.at d) (G (hdSame (.slice (some ⟨ab, ao, none⟩) n ca) (.slice (some ⟨bb, bo, none⟩) n cb) i u) cs) w := by
 have hw1 : IntKind.wrap .i64 ((i : Int) + 1) = (i : Int) + 1 := by rw [IntKind.wrap_i64]; omega
 conv => arg 5; unfold hdSame
 refine Walk.gz z21 ?_
 (refine Walk.drawnC (by kernel_rfl) size21_6 (by kernel_rfl) (by kernel_rfl) (by decide) ?_; simp only [List.range, List.range.loop]; repeat (first | (refine Cm.oq ?_) | (refine Cm.unw hoA (by rfl) ?_; walk_nrm)))
 refine Cm.done ?_
 refine Walk.gz z21 ?_
 refine Walk.ctl rfl (fun w => stepG_inLoop) ?_
 refine .stop fun d' => ⟨at_slots ?_, d', rfl⟩
 have hc : ((i + 1 : Nat) : Int) = (i : Int) + 1 := by simp
 simp only [hdSame, hc]
 rfl
theorem sn_loop (a b : Option Addr) (l : List Int) (ca cb : Nat) (hn : l.length ≤ 17592186044416) (c : Frame) (cs : List Frame) (w : World) (ha : NumA a l w) (hb : NumA b l w) : ∀ (r i : Nat) (u : Nat → Value), i + r = l.length →
  Walk Try.prog main (DR V) (fun g w' => g = G (c.finish (.bool true)) cs ∧ ∃ d, w' = w.at d) (G (hdSame (.slice a l.length ca) (.slice b l.length cb) i u) (c :: cs)) w := by
 intro r
 induction r with
 | zero =>
  intro i u hi
  have hi : i = l.length := hi
  subst hi
  exact sn_out a b l.length ca cb u c cs w
 | succ r ih =>
  intro i u hi
  have hin : i < l.length := by omega
  have hx := List.getElem?_eq_getElem hin
  obtain ⟨ab, ao, rfl, h1⟩ := ha i _ hx
  obtain ⟨bb, bo, rfl, h2⟩ := hb i _ hx
  refine (sn_go ab ao l.length ca bb bo cb i _ u (c :: cs) w hin hn h1 h2).then ?_
  rintro g w' ⟨⟨u', rfl⟩, d, rfl⟩
  exact Walk.back (ih (i + 1) u' (by omega)) d
theorem sn_w (a b : Option Addr) (l : List Int) (ca cb : Nat) (hn : l.length ≤ 17592186044416) (w : World) (ha : NumA a l w) (hb : NumA b l w) : CallV Try.prog main V 21 #[.slice a l.length ca, .slice b l.length cb] w (.bool true) w := by
 intro fr cs
 refine (sn_in a b l.length ca cb (fr :: cs) w).then ?_
 rintro g w1 ⟨⟨u, rfl⟩, d, rfl⟩
 refine Walk.back ?_ d
 refine (sn_loop a b l ca cb hn fr cs w ha hb l.length 0 u (by omega)).mono ?_
 rintro g w' ⟨rfl, d, rfl⟩
 exact ⟨_, ⟨rfl, d, rfl⟩, rfl⟩
theorem si_in (a b : Option Addr) (n ca cb : Nat) (cs : List Frame) (w : World) :
  Walk Try.prog main (DR V) (fun g w' => (∃ u, g = G (hdSameI (.slice a n ca) (.slice b n cb) 0 u) cs) ∧ ∃ d, w' = w.at d) (G (Frame.enter Try.prog 32 #[.slice a n ca, .slice b n cb] .normal) cs) w := by
 rw [enter_at _ Try.func32 code32_is]
 simp only [Try.ntmps32, ez, Nat.reduceAdd, Nat.reduceSub]
 refine Walk.gz z32 ?_
 refine Walk.ctl rfl (fun w => stepG_loop) ?_
 refine .stop fun d => ⟨at_slots ?_, d, rfl⟩
 simp only [hdSameI]
 rfl
theorem si_out (a b : Option Addr) (n ca cb : Nat) (u : Nat → Value) (c : Frame) (cs : List Frame) (w : World) :
  Walk Try.prog main (DR V) (fun g w' => g = G (c.finish (.bool true)) cs ∧ ∃ d, w' = w.at d) (G (hdSameI (.slice a n ca) (.slice b n cb) n u) (c :: cs)) w := by
 unfold hdSameI
 refine Walk.gz z32 ?_
 exact Walk.on1 rfl rfl Try.func32 rfl (.stop fun d => ⟨rfl, d, rfl⟩)
theorem si_go (ab ao n ca bb bo cb i : Nat) (x : Int) (u : Nat → Value) (cs : List Frame) (w : World) (hi : i < n) (hn : n ≤ 17592186044416) (ha : w.cell? ⟨ab, ao + i, none⟩ = some (.int .i64 x)) (hb : w.cell? ⟨bb, bo + i, none⟩ = some (.int .i64 x)) :
  Walk Try.prog main (DR V) (fun g w' => (∃ u', g = G (hdSameI (.slice (some ⟨ab, ao, none⟩) n ca) (.slice (some ⟨bb, bo, none⟩) n cb) (i + 1) u') cs) ∧ ∃ d, w' = w.at d) (G (hdSameI (.slice (some ⟨ab, ao, none⟩) n ca) (.slice (some ⟨bb, bo, none⟩) n cb) i u) cs) w := by
 have hw1 : IntKind.wrap .i64 ((i : Int) + 1) = (i : Int) + 1 := by rw [IntKind.wrap_i64]; omega
 conv => arg 5; unfold hdSameI
 refine Walk.gz z32 ?_
 (refine Walk.drawnC (by kernel_rfl) size32_6 (by kernel_rfl) (by kernel_rfl) (by decide) ?_; simp only [List.range, List.range.loop]; repeat (first | (refine Cm.oq ?_) | (refine Cm.unw hoA (by rfl) ?_; walk_nrm)))
 refine Cm.done ?_
 refine Walk.gz z32 ?_
 refine Walk.ctl rfl (fun w => stepG_inLoop) ?_
 refine .stop fun d' => ⟨at_slots ?_, d', rfl⟩
 have hc : ((i + 1 : Nat) : Int) = (i : Int) + 1 := by simp
 simp only [hdSameI, hc]
 rfl
theorem si_loop (a b : Option Addr) (l : List Int) (ca cb : Nat) (hn : l.length ≤ 17592186044416) (c : Frame) (cs : List Frame) (w : World) (ha : NumA a l w) (hb : NumA b l w) : ∀ (r i : Nat) (u : Nat → Value), i + r = l.length →
  Walk Try.prog main (DR V) (fun g w' => g = G (c.finish (.bool true)) cs ∧ ∃ d, w' = w.at d) (G (hdSameI (.slice a l.length ca) (.slice b l.length cb) i u) (c :: cs)) w := by
 intro r
 induction r with
 | zero =>
  intro i u hi
  have hi : i = l.length := hi
  subst hi
  exact si_out a b l.length ca cb u c cs w
 | succ r ih =>
  intro i u hi
  have hin : i < l.length := by omega
  have hx := List.getElem?_eq_getElem hin
  obtain ⟨ab, ao, rfl, h1⟩ := ha i _ hx
  obtain ⟨bb, bo, rfl, h2⟩ := hb i _ hx
  refine (si_go ab ao l.length ca bb bo cb i _ u (c :: cs) w hin hn h1 h2).then ?_
  rintro g w' ⟨⟨u', rfl⟩, d, rfl⟩
  exact Walk.back (ih (i + 1) u' (by omega)) d
theorem si_w (a b : Option Addr) (l : List Int) (ca cb : Nat) (hn : l.length ≤ 17592186044416) (w : World) (ha : NumA a l w) (hb : NumA b l w) : CallV Try.prog main V 32 #[.slice a l.length ca, .slice b l.length cb] w (.bool true) w := by
 intro fr cs
 refine (si_in a b l.length ca cb (fr :: cs) w).then ?_
 rintro g w1 ⟨⟨u, rfl⟩, d, rfl⟩
 refine Walk.back ?_ d
 refine (si_loop a b l ca cb hn fr cs w ha hb l.length 0 u (by omega)).mono ?_
 rintro g w' ⟨rfl, d, rfl⟩
 exact ⟨_, ⟨rfl, d, rfl⟩, rfl⟩
noncomputable def reg20_0 := rg Try.f20.body [0]
noncomputable def reg20_1 := rg Try.f20.body [1, 0, 0]
noncomputable def reg20_2 := rg Try.f20.body [1, 0, 1, 0, 0]
noncomputable def reg20_3 := rg Try.f20.body [1, 1, 0, 0]
noncomputable def reg20_4 := rg Try.f20.body [1, 1, 0, 1, 0, 0, 0, 0]
noncomputable def reg20_6 := rg Try.f20.body [1, 1, 0, 1, 0, 0, 1, 0, 0, 0]
theorem size20_6 : reg20_6.size = 38 := by kernel_rfl
noncomputable def reg20_7 := rg Try.f20.body [1, 1, 0, 1, 0, 0, 1, 0, 0, 1, 0, 0]
noncomputable def reg20_5 := rg Try.f20.body [1, 1, 0, 1, 0, 0, 1, 1]
noncomputable def reg20_8 := rg Try.f20.body [1, 1, 1, 0]
theorem z20 : List.range reg20_0.size = [0] ∧ List.range reg20_1.size = [0, 1, 2, 3, 4] ∧ List.range reg20_2.size = [0] ∧ List.range reg20_3.size = [0] ∧ List.range reg20_4.size = [0, 1, 2, 3] ∧ List.range reg20_5.size = [0, 1, 2] ∧ List.range reg20_6.size = [0, 1, 2, 3, 4, 5, 6, 7, 8, 9, 10, 11, 12, 13, 14, 15, 16, 17, 18, 19, 20, 21, 22, 23, 24, 25, 26, 27, 28, 29, 30, 31, 32, 33, 34, 35, 36, 37] ∧ List.range reg20_7.size = [0] ∧ List.range reg20_8.size = [0] := by refine ⟨?_, ?_, ?_, ?_, ?_, ?_, ?_, ?_, ?_⟩ <;> kernel_rfl
theorem code20_is : Try.f20.body = some (.seq (.region 0 reg20_0 false) (.seq (.seq (.region 1 reg20_1 false) (.cond (.tmp 10 ) (.seq (.region 2 reg20_2 false) (.ret)) (.skip))) (.seq (.seq (.region 3 reg20_3 false) (.block 0 (.loop (.seq (.seq (.region 4 reg20_4 false) (.cond (.tmp 14 ) (.skip) (.exit 0))) (.seq (.block 1 (.seq (.region 6 reg20_6 true) (.cond (.tmp 54 ) (.seq (.region 7 reg20_7 false) (.ret)) (.skip)))) (.region 5 reg20_5 false)))))) (.seq (.region 8 reg20_8 false) (.ret))))) := by kernel_rfl
noncomputable def hdSA (a b : Value) (i : Nat) (u : Nat → Value) : Frame :=
 (base 20).at { tmps := #[a, b, u 2, u 3, u 4, .int .i64 i, u 6, u 7, u 8, u 9, u 10, u 11, u 12, u 13, u 14, u 15, u 16, u 17, u 18, u 19, u 20, u 21, u 22, u 23, u 24, u 25, u 26, u 27, u 28, u 29, u 30, u 31, u 32, u 33, u 34, u 35, u 36, u 37, u 38, u 39, u 40, u 41, u 42, u 43, u 44, u 45, u 46, u 47, u 48, u 49, u 50, u 51, u 52, u 53, u 54], defers := [] } [.code (.seq (.seq (.region 4 reg20_4 false) (.cond (.tmp 14 ) (.skip) (.exit 0))) (.seq (.block 1 (.seq (.region 6 reg20_6 true) (.cond (.tmp 54 ) (.seq (.region 7 reg20_7 false) (.ret)) (.skip)))) (.region 5 reg20_5 false))), .inLoop (.seq (.seq (.region 4 reg20_4 false) (.cond (.tmp 14 ) (.skip) (.exit 0))) (.seq (.block 1 (.seq (.region 6 reg20_6 true) (.cond (.tmp 54 ) (.seq (.region 7 reg20_7 false) (.ret)) (.skip)))) (.region 5 reg20_5 false))), .inBlock 0, .code (.seq (.region 8 reg20_8 false) (.ret))]
theorem sa_in (a b : Option Addr) (n ca cb : Nat) (cs : List Frame) (w : World) :
  Walk Try.prog main (DR V) (fun g w' => (∃ u, g = G (hdSA (.slice a n ca) (.slice b n cb) 0 u) cs) ∧ ∃ d, w' = w.at d) (G (Frame.enter Try.prog 20 #[.slice a n ca, .slice b n cb] .normal) cs) w := by
 rw [enter_at _ Try.func20 code20_is]
 simp only [Try.ntmps20, ez, Nat.reduceAdd, Nat.reduceSub]
 refine Walk.gz z20 ?_
 refine Walk.ctl rfl (fun w => stepG_loop) ?_
 refine .stop fun d => ⟨at_slots ?_, d, rfl⟩
 simp only [hdSA]
 rfl
theorem sa_out (a b : Option Addr) (n ca cb : Nat) (u : Nat → Value) (c : Frame) (cs : List Frame) (w : World) :
  Walk Try.prog main (DR V) (fun g w' => g = G (c.finish (.bool true)) cs ∧ ∃ d, w' = w.at d) (G (hdSA (.slice a n ca) (.slice b n cb) n u) (c :: cs)) w := by
 unfold hdSA
 refine Walk.gz z20 ?_
 exact Walk.on1 rfl rfl Try.func20 rfl (.stop fun d => ⟨rfl, d, rfl⟩)
theorem sa_go (ab ao n ca bb bo cb i : Nat) (y : Bool) (x : Int) (la lb : Option Addr) (lc ld : Nat) (xl : List Int) (hxl : xl.length ≤ 1048576) (u : Nat → Value) (cs : List Frame) (w : World) (hi : i < n) (hn : n ≤ 17592186044416) (a0 : w.cell? ⟨ab, ao + i * 3, none⟩ = some (.bool y)) (a1 : w.cell? ⟨ab, ao + i * 3 + 1, none⟩ = some (.int .i64 x)) (a2 : w.cell? ⟨ab, ao + i * 3 + 2, none⟩ = some (.slice la xl.length lc)) (b0 : w.cell? ⟨bb, bo + i * 3, none⟩ = some (.bool y)) (b1 : w.cell? ⟨bb, bo + i * 3 + 1, none⟩ = some (.int .i64 x)) (b2 : w.cell? ⟨bb, bo + i * 3 + 2, none⟩ = some (.slice lb xl.length ld)) (n1 : NumA la xl w) (n2 : NumA lb xl w) :
  Walk Try.prog main (DR V) (fun g w' => (∃ u', g = G (hdSA (.slice (some ⟨ab, ao, none⟩) n ca) (.slice (some ⟨bb, bo, none⟩) n cb) (i + 1) u') cs) ∧ ∃ d, w' = w.at d) (G (hdSA (.slice (some ⟨ab, ao, none⟩) n ca) (.slice (some ⟨bb, bo, none⟩) n cb) i u) cs) w := by
 have hw1 : IntKind.wrap .i64 ((i : Int) + 1) = (i : Int) + 1 := by rw [IntKind.wrap_i64]; omega
 have qb := run_neqB (P := Try.prog) 4 und4B y y
 have qe := ev_neqB (P := Try.prog) 4 und4B y y
 have qy : (y != y) = false := by cases y <;> rfl
 have hq := sn_w (main := main) (V := V) la lb xl lc ld (by omega) w n1 n2
 clear n1 n2
 generalize xl.length = m at *
 rw [qy] at qb
 conv => arg 5; unfold hdSA
 refine Walk.gz z20 ?_
 (refine Walk.drawnC (by kernel_rfl) size20_6 (by kernel_rfl) (by kernel_rfl) (by decide) ?_; simp only [List.range, List.range.loop]; repeat (first | (refine Cm.oq ?_) | (refine Cm.unw hoA (by rfl) ?_; walk_nrm)))
 refine Cm.callV (x := .bool true) ?_ hoA (by rfl) rfl Try.func21 (by kernel_rfl) (by rfl) ?_
 ·intro w' e
  subst e
  walk_nrm
  exact hq
 walk_nrm
 repeat (first | (refine Cm.oq ?_) | (refine Cm.unw hoA (by rfl) ?_; walk_nrm))
 refine Cm.done ?_
 refine Walk.gz z20 ?_
 refine Walk.ctl rfl (fun w => stepG_inLoop) ?_
 refine .stop fun d' => ⟨at_slots ?_, d', rfl⟩
 have hc : ((i + 1 : Nat) : Int) = (i : Int) + 1 := by simp
 simp only [hdSA, hc]
 rfl
theorem sa_loop (a b : Option Addr) (l : List Ans) (ca cb : Nat) (hn : l.length ≤ 17592186044416) (c : Frame) (cs : List Frame) (w : World) (ha : AnsA a l w) (hb : AnsA b l w) : ∀ (r i : Nat) (u : Nat → Value), i + r = l.length →
  Walk Try.prog main (DR V) (fun g w' => g = G (c.finish (.bool true)) cs ∧ ∃ d, w' = w.at d) (G (hdSA (.slice a l.length ca) (.slice b l.length cb) i u) (c :: cs)) w := by
 intro r
 induction r with
 | zero =>
  intro i u hi
  have hi : i = l.length := hi
  subst hi
  exact sa_out a b l.length ca cb u c cs w
 | succ r ih =>
  intro i u hi
  have hin : i < l.length := by omega
  have hx := List.getElem?_eq_getElem hin
  generalize l[i] = x at hx
  obtain ⟨ab, ao, la, lc, rfl, h1, h2, h3, h4, h5⟩ := ha i _ hx
  obtain ⟨bb, bo, lb, ld, rfl, k1, k2, k3, k4, _⟩ := hb i _ hx
  refine (sa_go ab ao l.length ca bb bo cb i x.ok x.n la lb lc ld x.l h5 u (c :: cs) w hin hn h1 h2 h3 k1 k2 k3 h4 k4).then ?_
  rintro g w' ⟨⟨u', rfl⟩, d, rfl⟩
  exact Walk.back (ih (i + 1) u' (by omega)) d
theorem sa_w (a b : Option Addr) (l : List Ans) (ca cb : Nat) (hn : l.length ≤ 17592186044416) (w : World) (ha : AnsA a l w) (hb : AnsA b l w) : CallV Try.prog main V 20 #[.slice a l.length ca, .slice b l.length cb] w (.bool true) w := by
 intro fr cs
 refine (sa_in a b l.length ca cb (fr :: cs) w).then ?_
 rintro g w1 ⟨⟨u, rfl⟩, d, rfl⟩
 refine Walk.back ?_ d
 refine (sa_loop a b l ca cb hn fr cs w ha hb l.length 0 u (by omega)).mono ?_
 rintro g w' ⟨rfl, d, rfl⟩
 exact ⟨_, ⟨rfl, d, rfl⟩, rfl⟩
end
section
variable {main : Bool}
noncomputable def reg13_0 := rg Try.f13.body [0]
noncomputable def reg13_1 := rg Try.f13.body [1, 0, 0]
noncomputable def reg13_2 := rg Try.f13.body [1, 0, 1, 0, 0]
noncomputable def reg13_3 := rg Try.f13.body [1, 1, 0, 0]
noncomputable def reg13_4 := rg Try.f13.body [1, 1, 0, 1, 0, 0, 0, 0]
noncomputable def reg13_6 := rg Try.f13.body [1, 1, 0, 1, 0, 0, 1, 0, 0, 0]
theorem size13_6 : reg13_6.size = 12 := by kernel_rfl
noncomputable def reg13_7 := rg Try.f13.body [1, 1, 0, 1, 0, 0, 1, 0, 0, 1, 0, 0]
noncomputable def reg13_5 := rg Try.f13.body [1, 1, 0, 1, 0, 0, 1, 1]
noncomputable def reg13_8 := rg Try.f13.body [1, 1, 1, 0]
theorem z13 : List.range reg13_0.size = [0, 1, 2] ∧ List.range reg13_1.size = [0, 1, 2, 3, 4, 5, 6, 7, 8, 9, 10, 11, 12, 13, 14, 15, 16, 17, 18, 19, 20, 21, 22, 23, 24, 25, 26, 27, 28, 29] ∧ List.range reg13_2.size = [0] ∧ List.range reg13_3.size = [0] ∧ List.range reg13_4.size = [0, 1, 2, 3, 4] ∧ List.range reg13_5.size = [0, 1, 2] ∧ List.range reg13_6.size = [0, 1, 2, 3, 4, 5, 6, 7, 8, 9, 10, 11] ∧ List.range reg13_7.size = [0] ∧ List.range reg13_8.size = [0] := by refine ⟨?_, ?_, ?_, ?_, ?_, ?_, ?_, ?_, ?_⟩ <;> kernel_rfl
theorem code13_is : Try.f13.body = some (.seq (.region 0 reg13_0 false) (.seq (.seq (.region 1 reg13_1 false) (.cond (.tmp 35 ) (.seq (.region 2 reg13_2 false) (.ret)) (.skip))) (.seq (.seq (.region 3 reg13_3 false) (.block 0 (.loop (.seq (.seq (.region 4 reg13_4 false) (.cond (.tmp 40 ) (.skip) (.exit 0))) (.seq (.block 1 (.seq (.region 6 reg13_6 true) (.cond (.tmp 54 ) (.seq (.region 7 reg13_7 false) (.ret)) (.skip)))) (.region 5 reg13_5 false)))))) (.seq (.region 8 reg13_8 false) (.ret))))) := by kernel_rfl
noncomputable def hdSm (X Y i : Nat) (u : Nat → Value) : Frame :=
 (base 13).at { tmps := #[u 0, u 1, .pointer (some ⟨X, 0, none⟩), .pointer (some ⟨Y, 0, none⟩), u 4, .int .i64 i, u 6, u 7, u 8, u 9, u 10, u 11, u 12, u 13, u 14, u 15, u 16, u 17, u 18, u 19, u 20, u 21, u 22, u 23, u 24, u 25, u 26, u 27, u 28, u 29, u 30, u 31, u 32, u 33, u 34, u 35, u 36, u 37, u 38, u 39, u 40, u 41, u 42, u 43, u 44, u 45, u 46, u 47, u 48, u 49, u 50, u 51, u 52, u 53, u 54], defers := [] } [.code (.seq (.seq (.region 4 reg13_4 false) (.cond (.tmp 40 ) (.skip) (.exit 0))) (.seq (.block 1 (.seq (.region 6 reg13_6 true) (.cond (.tmp 54 ) (.seq (.region 7 reg13_7 false) (.ret)) (.skip)))) (.region 5 reg13_5 false))), .inLoop (.seq (.seq (.region 4 reg13_4 false) (.cond (.tmp 40 ) (.skip) (.exit 0))) (.seq (.block 1 (.seq (.region 6 reg13_6 true) (.cond (.tmp 54 ) (.seq (.region 7 reg13_7 false) (.ret)) (.skip)))) (.region 5 reg13_5 false))), .inBlock 0, .code (.seq (.region 8 reg13_8 false) (.ret))]
theorem sm_in (aa : Option Addr) (n ac : Nat) (oa : Option Addr) (ord : List Int) (oc : Nat) (sa : Option Addr) (sts : List Int) (sc : Nat) (k : Bool) (ba : Option Addr) (bc : Nat) (pa : Option Addr) (pc : Nat) (ra : Option Addr) (rc : Nat) (cs : List Frame) (w : World) (hsn : sts.length ≤ 17592186044416) (s1 : NumA sa sts w) (s2 : NumA ra sts w) (hon : ord.length ≤ 17592186044416) (t1 : NumA oa ord w) (t2 : NumA pa ord w) :
  Walk Try.prog main (DR (fun _ => none)) (fun g w' => (∃ u, g = G (hdSm w.heap.size (w.heap.size + 1) 0 u) cs) ∧ Chg (fun _ => False) w w' ∧ w'.heap[w.heap.size]? = some (.cells (trC (.slice aa n ac) (.slice oa ord.length oc) (.slice sa sts.length sc) k) 31) ∧ w'.heap[w.heap.size + 1]? = some (.cells (trC (.slice ba n bc) (.slice pa ord.length pc) (.slice ra sts.length rc) k) 31))
   (G (Frame.enter Try.prog 13 #[.agg (trC (.slice aa n ac) (.slice oa ord.length oc) (.slice sa sts.length sc) k), .agg (trC (.slice ba n bc) (.slice pa ord.length pc) (.slice ra sts.length rc) k)] .normal) cs) w := by
 have qb := run_neqB (P := Try.prog) 4 und4B k k
 have qe := ev_neqB (P := Try.prog) 4 und4B k k
 have qk : (k != k) = false := by cases k <;> rfl
 rw [qk] at qb
 rw [enter_at _ Try.func13 code13_is]
 simp only [Try.ntmps13, ez, Nat.reduceAdd, Nat.reduceSub]
 refine Walk.gz z13 ?_
 (refine Walk.oa ?_; try walk_nrm)
 have hO : Chg (fun _ => False) w (w.alloc (.cells (trC (.slice aa n ac) (.slice oa ord.length oc) (.slice sa sts.length sc) k) 31)) := Chg.alloc
 have hX := heap_alloc_new w (.cells (trC (.slice aa n ac) (.slice oa ord.length oc) (.slice sa sts.length sc) k) 31)
 have hsz : (w.alloc (.cells (trC (.slice aa n ac) (.slice oa ord.length oc) (.slice sa sts.length sc) k) 31)).heap.size = w.heap.size + 1 := by simp
 generalize w.alloc (.cells (trC (.slice aa n ac) (.slice oa ord.length oc) (.slice sa sts.length sc) k) 31) = w1 at *
 repeat (first | (refine Walk.oq ?_; try walk_nrm) | (refine Walk.un ?_; walk_nrm))
 (refine Walk.oa ?_; try walk_nrm)
 have hO2 : Chg (fun _ => False) w (w1.alloc (.cells (trC (.slice ba n bc) (.slice pa ord.length pc) (.slice ra sts.length rc) k) 31)) := hO.trans (S' := fun _ => False) Chg.alloc fun _ _ h => h
 have hY := heap_alloc_new w1 (.cells (trC (.slice ba n bc) (.slice pa ord.length pc) (.slice ra sts.length rc) k) 31)
 have hX2 := (heap_new_lt w1 (.cells (trC (.slice ba n bc) (.slice pa ord.length pc) (.slice ra sts.length rc) k) 31) (by rw [hsz]; exact Nat.lt_succ_self _)).trans hX
 rw [hsz] at hY
 clear hX hO hsz
 generalize w1.alloc (.cells (trC (.slice ba n bc) (.slice pa ord.length pc) (.slice ra sts.length rc) k) 31) = w2 at *
 have h17 := si_w (main := main) (V := fun _ => none) oa pa ord oc pc hon w2 (t1.chg hO2) (t2.chg hO2)
 have h18 := sn_w (main := main) (V := fun _ => none) sa ra sts sc rc hsn w2 (s1.chg hO2) (s2.chg hO2)
 generalize w.heap.size = X at *
 have x0 : w2.cell? ⟨X, 0, none⟩ = some (.slice aa n ac) := (cell_of hX2 0).trans rfl
 have x1 : w2.cell? ⟨X, 1, none⟩ = some (.slice oa ord.length oc) := (cell_of hX2 1).trans rfl
 have x2 : w2.cell? ⟨X, 2, none⟩ = some (.slice sa sts.length sc) := (cell_of hX2 2).trans rfl
 have x3 : w2.cell? ⟨X, 3, none⟩ = some (.bool k) := (cell_of hX2 3).trans rfl
 have y0 : w2.cell? ⟨X + 1, 0, none⟩ = some (.slice ba n bc) := (cell_of hY 0).trans rfl
 have y1 : w2.cell? ⟨X + 1, 1, none⟩ = some (.slice pa ord.length pc) := (cell_of hY 1).trans rfl
 have y2 : w2.cell? ⟨X + 1, 2, none⟩ = some (.slice ra sts.length rc) := (cell_of hY 2).trans rfl
 have y3 : w2.cell? ⟨X + 1, 3, none⟩ = some (.bool k) := (cell_of hY 3).trans rfl
 clear s1 s2 t1 t2
 refine Walk.gz z13 ?_
 refine Walk.callV (x := .bool true) (W := w2) ?_ hoA (by rfl) (by decide) rfl Try.func32 (by kernel_rfl) (by rfl) ?_
 ·walk_nrm
  exact h17
 walk_nrm
 refine Walk.gz z13 ?_
 refine Walk.callV (x := .bool true) (W := w2) ?_ hoA (by rfl) (by decide) rfl Try.func21 (by kernel_rfl) (by rfl) ?_
 ·walk_nrm
  exact h18
 walk_nrm
 refine Walk.gz z13 ?_
 refine Walk.ctl rfl (fun w => stepG_loop) ?_
 refine .stop fun d => ⟨at_slots ?_, hO2.at d, hX2, hY⟩
 simp only [hdSm]
 rfl
theorem sm_go (X Y n i ab ao ac bb bo bc : Nat) (ta tb : Option Addr) (l : List Ans) (tc td : Nat) (u : Nat → Value) (cs : List Frame) (w : World) (hi : i < n) (hn : n ≤ 17592186044416) (htl : l.length ≤ 17592186044416) (x0 : w.cell? ⟨X, 0, none⟩ = some (.slice (some ⟨ab, ao, none⟩) n ac)) (y0 : w.cell? ⟨Y, 0, none⟩ = some (.slice (some ⟨bb, bo, none⟩) n bc))
  (ha : w.cell? ⟨ab, ao + i, none⟩ = some (.slice ta l.length tc)) (hb : w.cell? ⟨bb, bo + i, none⟩ = some (.slice tb l.length td)) (h1 : AnsA ta l w) (h2 : AnsA tb l w) :
  Walk Try.prog main (DR (fun _ => none)) (fun g w' => (∃ u', g = G (hdSm X Y (i + 1) u') cs) ∧ ∃ d, w' = w.at d) (G (hdSm X Y i u) cs) w := by
 have hw1 : IntKind.wrap .i64 ((i : Int) + 1) = (i : Int) + 1 := by rw [IntKind.wrap_i64]; omega
 have hq := sa_w (main := main) (V := fun _ => none) ta tb l tc td htl w h1 h2
 clear h1 h2
 conv => arg 5; unfold hdSm
 refine Walk.gz z13 ?_
 (refine Walk.drawnC (by kernel_rfl) size13_6 (by kernel_rfl) (by kernel_rfl) (by decide) ?_; simp only [List.range, List.range.loop]; repeat (first | (refine Cm.oq ?_) | (refine Cm.unw hoA (by rfl) ?_; walk_nrm)))
 refine Cm.callV (x := .bool true) ?_ hoA (by rfl) rfl Try.func20 (by kernel_rfl) (by rfl) ?_
 ·intro w' e
  subst e
  walk_nrm
  exact hq
 walk_nrm
 repeat (first | (refine Cm.oq ?_) | (refine Cm.unw hoA (by rfl) ?_; walk_nrm))
 refine Cm.done ?_
 refine Walk.gz z13 ?_
 refine Walk.ctl rfl (fun w => stepG_inLoop) ?_
 refine .stop fun d' => ⟨at_slots ?_, d', rfl⟩
 have hc : ((i + 1 : Nat) : Int) = (i : Int) + 1 := by simp
 simp only [hdSm, hc]
 rfl
theorem sm_out (X Y n : Nat) (aa : Option Addr) (ac : Nat) (u : Nat → Value) (c : Frame) (cs : List Frame) (w : World) (x0 : w.cell? ⟨X, 0, none⟩ = some (.slice aa n ac)) :
  Walk Try.prog main (DR (fun _ => none)) (fun g w' => g = G (c.finish (.bool true)) cs ∧ ∃ d, w' = w.at d) (G (hdSm X Y n u) (c :: cs)) w := by
 unfold hdSm
 refine Walk.gz z13 ?_
 exact Walk.on1 rfl rfl Try.func13 rfl (.stop fun d => ⟨rfl, d, rfl⟩)
theorem sm_w (ca cb : Array Value) (n : Nat) (F : Nat → List Ans) (ord : List Nat) (sts : List Int) (k : Bool) (w : World) (hn : n ≤ 64) (hord : ord.length ≤ 1048576) (hsn : sts.length ≤ 1048576) (hF : ∀ i, i < n → (F i).length ≤ 65536) (h1 : TrA ca n F ord sts k w) (h2 : TrA cb n F ord sts k w) :
  CallW Try.prog main (fun _ => none) 13 #[.agg ca, .agg cb] w (fun v w' => v = .bool true ∧ Chg (fun _ => False) w w') := by
 obtain ⟨aa, ac, oa, oc, sa, sc, rfl, n1, n2, n3⟩ := h1.all
 obtain ⟨ba, bc, pa, pc, ra, rc, rfl, m1, m2, m3⟩ := h2.all
 have olen : (ord.map fun i => ((i : Nat) : Int)).length = ord.length := by simp
 intro fr cs
 have hin := sm_in (main := main) aa n ac oa (ord.map fun i => ((i : Nat) : Int)) oc sa sts sc k ba bc pa pc ra rc (fr :: cs) w (by omega) n2 m2 (by omega) n1 m1
 rw [olen] at hin
 refine hin.then ?_
 rintro g w1 ⟨⟨u, rfl⟩, hC, hX, hY⟩
 have x0 : w1.cell? ⟨w.heap.size, 0, none⟩ = some (.slice aa n ac) := (cell_of hX 0).trans rfl
 have y0 : w1.cell? ⟨w.heap.size + 1, 0, none⟩ = some (.slice ba n bc) := (cell_of hY 0).trans rfl
 have hcell : ∀ {x j : Nat} {v : Value}, w.cell? ⟨x, j, none⟩ = some v → w1.cell? ⟨x, j, none⟩ = some v := fun {x j v} h => (World.cell?_of_block (a := ⟨x, j, none⟩) (hC.same x (cell_lt' h) id)).trans h
 have loop : ∀ (r i : Nat) (u : Nat → Value), i + r = n → Walk Try.prog main (DR (fun _ => none)) (fun g w' => g = G (fr.finish (.bool true)) cs ∧ ∃ d, w' = w1.at d) (G (hdSm w.heap.size (w.heap.size + 1) i u) (fr :: cs)) w1 := by
  intro r
  induction r with
  | zero =>
   intro i u hi
   obtain rfl : i = n := hi
   exact sm_out _ _ i aa ac u fr cs w1 x0
  | succ r ih =>
   intro i u hi
   obtain ⟨ab, ao, ta, tc, rfl, k1, k2⟩ := n3 i (by omega)
   obtain ⟨bb, bo, tb, td, rfl, j1, j2⟩ := m3 i (by omega)
   refine (sm_go _ _ n i ab ao ac bb bo bc ta tb (F i) tc td u (fr :: cs) w1 (by omega) (by omega) (by have := hF i (by omega); omega) x0 y0 (hcell k1) (hcell j1) (k2.chg hC) (j2.chg hC)).then ?_
   rintro g w' ⟨⟨u', rfl⟩, d, rfl⟩
   exact Walk.back (ih (i + 1) u' (by omega)) d
 refine (loop n 0 u (by omega)).mono ?_
 rintro g w' ⟨rfl, d, rfl⟩
 exact ⟨_, ⟨rfl, hC.at d⟩, rfl⟩
end
end
end Go.Proofs.Ytjenoiekfkhafaa
