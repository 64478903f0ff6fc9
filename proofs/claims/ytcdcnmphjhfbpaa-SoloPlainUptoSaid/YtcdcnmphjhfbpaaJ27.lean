/-
For all sizes, numbers of readers and lists of acts that hold together at most 1048576 values: SoloPlain returns true on every schedule of the goroutines, without a data race, and what was there stands. Conditions: the arguments' bulk is at most 1048576 (a list of 2^45 / 16 acts of 16 values each would make a slice of more than 2^48 bytes).
-/
import Derived.Test.YtcdcnmphjhfbpaaJ10
import Derived.Test.YtcdcnmphjhfbpaaJ20
import Derived.Test.YtcdcnmphjhfbpaaJ23
import Derived.Test.YtcdcnmphjhfbpaaJ26
import Derived.Test.YtcdcnmphjhfbpaaRows
import Derived.Conc.LeavingOf
import Derived.Lib.SmallJoins
import Derived.Handy
import Derived.SizedLaws
import Derived.Carry
import Derived.Deep.Slices
import Derived.Deep.Fields
import Derived.JoinedCond
import Derived.JoinedOf
import Derived.Conc.Holds
set_option linter.unusedSimpArgs false
set_option linter.unusedVariables false
set_option linter.unusedVariables false
set_option maxHeartbeats 8000000
set_option maxRecDepth 100000
namespace Go.Proofs.Ytcdcnmphjhfbpaa
open Go.Conc Go.RowKit Go.Relay
open Go.ConcN (upd upd_ne upd_same)
section
theorem tmod_nat {x : Int} (hx : 0 ≤ x) (m : Nat) (hm : 0 < m) : ∃ c : Nat, x.tmod (m : Int) = c ∧ c < m := by
  obtain ⟨y, rfl⟩ := Int.eq_ofNat_of_zero_le hx
  exact ⟨y % m, rfl, Nat.mod_lt _ hm⟩
theorem u64_nonneg (b : Int) : 0 ≤ IntKind.wrap .u64 b := by rw [IntKind.wrap_u64]; omega
def ActsIn (W : World) (sb' so L : Nat) : Prop := ∀ i, i < L → ∃ wv kd a b cx : Int, 0 ≤ wv ∧ wv < 256 ∧ ∀ (y : Nat) (v : Value), ([.int .u8 wv, .int .i64 kd, .int .i64 a, .int .i64 b, .int .i64 cx] : List Value)[y]? = some v → W.cell? ⟨sb', so + i * 5 + y, none⟩ = some v
section
variable {W : World} {n k rb sb ob qb tb base : Nat}
theorem pa_loop (sb' so sc L : Nat) (hk : k ≤ 2) (hn : n ≤ 16) (hn1 : 1 ≤ n) (hL : L ≤ 1048576) (hin : ActsIn W sb' so L) :
    ∀ (r i : Nat) (g : Goroutine) (w : World), i + r = L → NextP W n k rb sb ob qb tb base (16 * i) (.slice (some ⟨sb', so, none⟩) L sc) L i g w →
    Walk Try.prog true (DR (fun _ => none)) (NextP W n k rb sb ob qb tb base (16 * L) (.slice (some ⟨sb', so, none⟩) L sc) L L) g w := by
  intro r
  induction r with
  | zero =>
    intro i g w hi hN
    have hi : i = L := hi
    subst hi
    obtain ⟨all, pt, s, aa, ac, hu, hP, hl⟩ := hN
    exact .stop fun d => ⟨all, pt, s, aa, ac, hu, hP.at d, hl⟩
  | succ r ih =>
    intro i g w hi hN
    obtain ⟨all, pt, s, aa, ac, ⟨u, rfl⟩, hP, hl⟩ := hN
    obtain ⟨wv, kd, a, b, cx, h1, h2, h3⟩ := hin i (by omega)
    have hcs : ∀ (y : Nat) (v : Value), ([.int .u8 wv, .int .i64 kd, .int .i64 a, .int .i64 b, .int .i64 cx] : List Value)[y]? = some v → w.cell? ⟨sb', so + i * 5 + y, none⟩ = some v := fun y v hv =>
      (World.cell?_of_block (a := ⟨sb', so + i * 5 + y, none⟩) (hP.old sb' (cell_lt' (h3 y v hv)))).trans (h3 y v hv)
    obtain ⟨q, hq, hqk⟩ := tmod_nat h1 (k + 1) (by omega)
    have hq : wv.tmod ((k : Int) + 1) = q := hq
    cases q with
    | zero =>
      obtain ⟨c, hc, hcn⟩ := tmod_nat (u64_nonneg b) (n + 2) (by omega)
      refine (pw_act sb' so sc L i wv kd a b cx c (16 * i) hk hn hn1 h1 h2 hq (u64_nonneg b) hc (by omega) (by omega) (by omega) (by omega) w hcs hP hl u).then ?_
      intro g' w' h
      exact ih (i + 1) g' w' (by omega) (by rw [Nat.mul_succ]; exact h)
    | succ q =>
      obtain ⟨mo, hm, hmo⟩ := tmod_nat (u64_nonneg a) 5 (by omega)
      have hle := hP.M.le q (by omega)
      have hq : wv.tmod ((k : Int) + 1) = (q : Int) + 1 := hq
      have hnx : ∀ g' w', NextP W n k rb sb ob qb tb base (16 * i) (.slice (some ⟨sb', so, none⟩) L sc) L (i + 1) g' w' → NextP W n k rb sb ob qb tb base (16 * (i + 1)) (.slice (some ⟨sb', so, none⟩) L sc) L (i + 1) g' w' := fun g' w' ⟨all, pt, s, aa, ac, hu, hP, hl⟩ => ⟨all, pt, s, aa, ac, hu, hP, by omega⟩
      by_cases he : pt q = all.length
      · refine (pb_actN sb' so sc L i wv kd a b cx q mo (16 * i) hk (by omega) h1 h2 hq (u64_nonneg a) hm (by omega) (by omega) (by omega) (by omega) w hcs hP hl he u).then ?_
        intro g' w' h
        exact ih (i + 1) g' w' (by omega) (hnx g' w' h)
      · refine (pb_actS sb' so sc L i wv kd a b cx q mo (16 * i) hk (by omega) h1 h2 hq (u64_nonneg a) hm (by omega) (by omega) (by omega) (by omega) w hcs hP hl (by omega) u).then ?_
        intro g' w' h
        exact ih (i + 1) g' w' (by omega) (hnx g' w' h)
theorem pf_loop (k tb nb : Nat) (pt : Nat → Nat) (hk : k ≤ 2) (hb : ∀ q, q < k → pt q ≤ 1099511627776) (w : World) (h1 : ∀ q, q < k → w.cell? ⟨tb, q, none⟩ = some (.int .i64 (pt q : Nat))) (h2 : ∀ q, q < k → w.cell? ⟨nb, q, none⟩ = some (.int .i64 ((pt q : Int) - 1))) :
    ∀ (r y : Nat) (u : Nat → Value) (d : Nat), y + r = k → Walk Try.prog true (DR (fun _ => none)) (fun g w' => Closing 9 6 (.bool true) g ∧ ∃ d, w' = w.at d) (G (hdPf k y (.slice (some ⟨tb, 0, none⟩) k k) (.slice (some ⟨nb, 0, none⟩) k k) u) []) (w.at d) := by
  intro r
  induction r with
  | zero =>
    intro y u d hy
    have hy : y = k := hy
    subst hy
    exact pf_end y _ _ (w.at d) u
  | succ r ih =>
    intro y u d hy
    refine (pf_round k y tb nb (pt y : Nat) (by omega) (by have := hb y (by omega); omega) (by omega) (by omega) (w.at d) (h1 y (by omega)) (h2 y (by omega)) [] u).then ?_
    rintro _ _ ⟨⟨u', rfl⟩, d', rfl⟩
    exact ih (y + 1) u' d' (by omega)
theorem pa_close (sv : Value) (L bound : Nat) (hk : k ≤ 2) (hb : bound ≤ 1099511627776) (g : Goroutine) (w : World) (hN : NextP W n k rb sb ob qb tb base bound sv L L g w) :
    Walk Try.prog true (DR (fun _ => none)) (fun g w' => Closing 9 6 (.bool true) g ∧ ∀ b, b < W.heap.size → w'.heap[b]? = W.heap[b]?) g w := by
  obtain ⟨all, pt, s, aa, ac, ⟨u, rfl⟩, hP, hl⟩ := hN
  refine (pa_end all pt aa ac tb sv L w hP.I hP.M [] u).then ?_
  rintro _ w1 ⟨⟨u1, rfl⟩, _, hB, ho, hz⟩
  obtain ⟨l1, l2, l3⟩ := hP.lo
  have hbs := hP.size
  have e1 : ∀ q, q < k → w1.cell? ⟨tb, q, none⟩ = some (.int .i64 (pt q : Nat)) := fun q hq => (World.cell?_of_block (a := ⟨tb, q, none⟩) (ho tb (by omega))).trans (hP.pcell hq)
  have e2 : ∀ q, q < k → w1.cell? ⟨w.heap.size, q, none⟩ = some (.int .i64 ((pt q : Int) - 1)) := fun q hq => by
    refine (cell_of hB q).trans ?_
    simp [hq, hP.M.nm q hq]
  have hle : ∀ q, q < k → pt q ≤ 1099511627776 := fun q hq => by have := hP.M.le q hq; omega
  have key := pf_loop k tb w.heap.size pt hk hle w1 e1 e2 k 0 u1 w1.drawn (Nat.zero_add _)
  refine (show Walk Try.prog true (DR (fun _ => none)) _ _ w1 from key).mono ?_
  rintro g w' ⟨hC, d, rfl⟩
  exact ⟨hC, fun b hb => (ho b (by omega)).trans (hP.old b hb)⟩
end
theorem sp_all (sz rd : Int) (h1 : 0 ≤ sz) (h2 : 0 ≤ rd) (sa : Option Addr) (L sc : Nat) (hL : L ≤ 1048576) (W : World) (hin : 0 < L → ∃ sb' so, sa = some ⟨sb', so, none⟩ ∧ ActsIn W sb' so L) :
    Walk Try.prog true (DR (fun _ => none)) (fun g w' => Closing 9 6 (.bool true) g ∧ ∀ b, b < W.heap.size → w'.heap[b]? = W.heap[b]?) (G (Frame.enter Try.prog 9 #[.int .u8 sz, .int .u8 rd, .slice sa L sc] .normal) []) W := by
  obtain ⟨e, he, he5⟩ := tmod_nat h1 5 (by omega)
  obtain ⟨k, hk, hk3⟩ := tmod_nat h2 3 (by omega)
  have hk2 : k ≤ 2 := by omega
  have go : ∀ n ob, 1 ≤ n → n ≤ 16 → ∀ g w, BegP n k ob (.slice sa L sc) L W g w → Walk Try.prog true (DR (fun _ => none)) (fun g w' => Closing 9 6 (.bool true) g ∧ ∀ b, b < W.heap.size → w'.heap[b]? = W.heap[b]?) g w := by
    rintro n ob hn1 hn g w ⟨rb, sb, qb, tb, base, hu, hP⟩
    have hN : NextP W n k rb sb ob qb tb base (16 * 0) (.slice sa L sc) L 0 g w := ⟨[], fun _ => 0, soJ n k, none, 0, hu, hP, Nat.zero_le _⟩
    by_cases h0 : L = 0
    · subst h0
      exact pa_close _ 0 0 hk2 (by omega) g w hN
    · obtain ⟨sb', so, rfl, hA⟩ := hin (by omega)
      refine (pa_loop sb' so sc L hk2 hn hn1 hL hA L 0 g w (Nat.zero_add _) hN).then ?_
      intro g' w' h
      exact pa_close _ L (16 * L) hk2 (by omega) g' w' h
  have hin0 : ∀ n, 1 ≤ n → n ≤ 16 → Walk Try.prog true (DR (fun _ => none)) (fun g w' => ∃ ob, BegP n k ob (.slice sa L sc) L W g w') (G (Frame.enter Try.prog 9 #[.int .u8 sz, .int .u8 rd, .slice sa L sc] .normal) []) W → Walk Try.prog true (DR (fun _ => none)) (fun g w' => Closing 9 6 (.bool true) g ∧ ∀ b, b < W.heap.size → w'.heap[b]? = W.heap[b]?) (G (Frame.enter Try.prog 9 #[.int .u8 sz, .int .u8 rd, .slice sa L sc] .normal) []) W := fun n hn1 hn h =>
    h.then fun g w ⟨ob, hB⟩ => go n ob hn1 hn g w hB
  match e, he5 with
  | 0, _ => exact hin0 1 (by omega) (by omega) (plain_in0 sz rd k he hk hk2 sa L sc W)
  | 1, _ => exact hin0 2 (by omega) (by omega) (plain_in1 sz rd k he hk hk2 sa L sc W)
  | 2, _ => exact hin0 4 (by omega) (by omega) (plain_in2 sz rd k he hk hk2 sa L sc W)
  | 3, _ => exact hin0 8 (by omega) (by omega) (plain_in3 sz rd k he hk hk2 sa L sc W)
  | 4, _ => exact hin0 16 (by omega) (by omega) (plain_in4 sz rd k he hk hk2 sa L sc W)
end
section
open Go.ChangeShapes Go.WideShapes Go.ChangeAt Go.Joins Go.Deep
theorem prog_own : ownKnob Try.prog.godebug = none := by kernel_rfl
def Left (W : World) (v : Value) (w' : World) : Prop := v = .bool true ∧ w'.os = W.os ∧ w'.output = W.output ∧ ∀ b, b < W.heap.size → w'.heap[b]? = W.heap[b]?
theorem Left.kept {W w' : World} {v : Value} (h : Left W v w') (may : MemPlace → Prop) : W.keptBut w' may := by
  refine ⟨h.2.1, h.2.2.1, fun i hi => ?_⟩
  rw [h.2.2.2 i hi]
  split <;> simp_all
theorem und4_is : Try.prog.underlying 4 = some .bool := by kernel_rfl
theorem stepG_done {P : Program} {fr : Frame} {w : World} {fn : Func} {v : Value} (hm : fr.mode = .returning) (hn : fr.kind = .normal) (hd : fr.defers = []) (hf : P.funcs[fr.fn]? = some fn) (hr : (results fn fr.tmps).run P w = .ok v w) (he : (results fn fr.tmps).events P w #[] = #[]) (hi : P.inits.idxOf? fr.fn = none) :
    stepG P true (G fr []) w = .ended (.done v) w #[] := by
  simp [G, stepG, unwind, doReturn, hm, hd, hn, hf, hr, he, hi, GStep.after, seen_none]
theorem run_claim {f : FuncId} {fn : Func} {args : Array Value} {W : World} {Post : Value → World → Prop} {v : Value} {t : Tmp} (hf : Try.prog.funcs[f]? = some fn) (hres : fn.results = #[.tmp t]) (hi : Try.prog.inits.idxOf? f = none)
    (h : Runs (fun g w' => Closing f t v g ∧ (OsSame W w' → ∀ d, Post v (w'.at d))) (G (Frame.enter Try.prog f args .normal) []) W) :
    ∃ M last o w' t', runNT Try.prog (M + 1) (solo (G (Frame.enter Try.prog f args .normal) []) W) #[] = (.ended o w', t') ∧ Go.runN Try.prog M (solo (G (Frame.enter Try.prog f args .normal) []) W) = .next last ∧ step Try.prog last = .ended o w' ∧ Go.Conc.Good Try.prog Post last o w' t' := by
  rw [solo_eq_crowd]
  have A0 := at_begin (P := Try.prog) (gs := #[G (Frame.enter Try.prog f args .normal) []]) (a := G (Frame.enter Try.prog f args .normal) []) (sl := none) (w := W) rfl (leavers_one Try.prog _) past_nil
  obtain ⟨N1, m1, T1, r1, ⟨nG, g1, w1, _, ⟨⟨fr, rfl, hm, hn, hd, hfn, hv⟩, hP⟩, A1⟩, ho⟩ := h 1 _ _ (Nat.le_refl _) A0
  obtain ⟨gs, sl, q, B, rfl, _, hg0, hL, hPast⟩ := A1.ends (fun _ => rfl)
  have hP := hP ho
  have hs : ∀ d, stepG Try.prog true (G fr []) (w1.at d) = .ended (.done v) (w1.at d) #[] := fun d =>
    stepG_done hm hn hd (by rw [hfn]; exact hf) (by rw [results_tmp hres, hv]) (events_results_tmp hres _ _) (by rw [hfn]; exact hi)
  have hG : Goes Try.prog true AtRel (fun _ _ es => ∀ e ∈ es, EvL (fun _ => False) B e) (AtEnd Try.prog (fun _ => False) B Post) 0 (G fr []) w1 := by
    rintro _ ⟨d, rfl⟩
    exact ⟨rfl, v, #[], hs d, by simp, hP d⟩
  obtain ⟨M8, last, o, w', t', e1, e2, e3, e4⟩ := beside_ends (P := Try.prog) (Post := Post) (sl := sl) (fun _ _ _ h => h) hg0 hL hPast hG
  refine ⟨N1 + M8, last, o, w', t', ?_, ?_, e3, e4⟩
  · rw [Nat.add_assoc, runNT_add, r1]; exact e1
  · rw [Go.runN_add, ← runNT_fst Try.prog _ _ #[], r1]; exact e2
end
section
open Go.Conc Go.RowKit Go.Relay Go.ChangeShapes Go.WideShapes Go.ChangeAt Go.Joins Go.Deep
theorem und3_is : Try.prog.underlying 3 = some (.int .i64) := by kernel_rfl
theorem und2_is : Try.prog.underlying 2 = some (.int .i64) := by kernel_rfl
theorem laid_out : laidOutB Try.prog = true := by kernel_rfl
section
variable {H : Type} {enc : TypeId × Value → H} {W w' : World}
theorem Left.stays {r : Value} {t : TypeId} {v : Value} {d : DataW H} {ps : List MemPlace} (K : Left W r w') (hr : Try.prog.readableRec t = true) (hrow : t < Try.prog.types.size) (h : DataW.Trod enc Try.prog W 0 (fun _ => true) true t v d ps) (hlt : ∀ x ∈ ps, x.block < W.heap.size) :
    DataW.Trod enc Try.prog w' 0 (fun b => decide (b < W.heap.size)) true t v d ps :=
  WideElems.Trod_stays laid_out hr hrow h (fun x hx => by
    have hb := K.2.2.2 x.block (hlt x hx)
    cases x with
    | cell b o => exact World.cell?_of_block (w := W) (a := ⟨b, o, none⟩) hb
    | map b => exact hb) (fun x hx => by simpa using hlt x hx)
theorem addr_form {w : World} {a : Addr} {v : Value} (h : w.cell? a = some v) : a = ⟨a.block, a.off, none⟩ := by
  obtain ⟨b, o, s⟩ := a
  cases s with
  | none => rfl
  | some s =>
    unfold World.cell? at h
    split at h
    · simp at h
    · cases h
end
section
variable {H : Type} {enc : TypeId × Value → H} {W : World}
variable {base : Nat} {spare : Nat → Bool} {held : Bool}
theorem trodAll_three {P : Program} {t t1 t2 : TypeId} {args : Array Value} {ds : List (DataW H)} {ps : List MemPlace} (h : DataW.TrodAll enc P W base spare held [t, t1, t2] args.toList ds ps) :
    ∃ v v1 v2 d d1 d2 p p1 p2, args = #[v, v1, v2] ∧ ds = [d, d1, d2] ∧ ps = p ++ p1 ++ p2 ∧ DataW.Trod enc P W base spare held t v d p ∧ DataW.Trod enc P W base spare held t1 v1 d1 p1 ∧ DataW.Trod enc P W base spare held t2 v2 d2 p2 := by
  obtain ⟨v, vs, d, ds1, p, q, hargs, rfl, rfl, hd, hrest⟩ := trodAll_cons h
  obtain ⟨v1, vs1, d1, ds2, p1, q1, rfl, rfl, rfl, hd1, hrest1⟩ := trodAll_cons hrest
  obtain ⟨v2, vs2, d2, ds3, p2, q2, rfl, rfl, rfl, hd2, hrest2⟩ := trodAll_cons hrest1
  obtain ⟨rfl, rfl, rfl⟩ := trodAll_nil hrest2
  exact ⟨v, v1, v2, d, d1, d2, p, p1, p2, by cases args; simp_all, rfl, by simp, hd, hd1, hd2⟩
end
end
section
open Go.Conc Go.RowKit Go.Relay Go.ChangeShapes Go.WideShapes Go.ChangeAt Go.Joins Go.Deep
noncomputable def fldsOp : Array Field := match Try.prog.underlying 49 with | some (.struct fs) => fs | _ => #[]
theorem undOp_is : Try.prog.underlying 49 = some (.struct fldsOp) := by kernel_rfl
theorem fldsOp_four : ∃ f0 f1 f2 f3, fldsOp = #[f0, f1, f2, f3] ∧ f0.type = 3 ∧ f1.type = 2 ∧ f2.type = 2 ∧ f3.type = 2 := by
  have hs : fldsOp.size = 4 := by kernel_rfl
  have h0 : (fldsOp[0]?).map (·.type) = some 3 := by kernel_rfl
  have h1 : (fldsOp[1]?).map (·.type) = some 2 := by kernel_rfl
  have h2 : (fldsOp[2]?).map (·.type) = some 2 := by kernel_rfl
  have h3 : (fldsOp[3]?).map (·.type) = some 2 := by kernel_rfl
  generalize fldsOp = F at *
  obtain ⟨l⟩ := F
  match l, hs with
  | [f0, f1, f2, f3], _ => exact ⟨f0, f1, f2, f3, rfl, by simpa using h0, by simpa using h1, by simpa using h2, by simpa using h3⟩
section
variable {H : Type} {enc : TypeId × Value → H} {W : World} {base : Nat} {spare : Nat → Bool} {held : Bool}
theorem trod_struct4 {P : Program} {t : TypeId} {f0 f1 f2 f3 : Field} {fuel : Nat} {cs : List Value} {x : DataW H × List MemPlace} (ht : P.underlying t = some (.struct #[f0, f1, f2, f3])) (h : DataW.trod enc P W base spare held fuel t cs = some x) :
    ∃ y0 y1 y2 y3 n, cs.length = P.cellsOf t ∧ DataW.trod enc P W base spare held n f0.type ((cs.drop f0.offset).take (P.cellsOf f0.type)) = some y0 ∧
      DataW.trod enc P W base spare held n f1.type ((cs.drop f1.offset).take (P.cellsOf f1.type)) = some y1 ∧ DataW.trod enc P W base spare held n f2.type ((cs.drop f2.offset).take (P.cellsOf f2.type)) = some y2 ∧
      DataW.trod enc P W base spare held n f3.type ((cs.drop f3.offset).take (P.cellsOf f3.type)) = some y3 := by
  obtain ⟨xs, n, _, rfl, hl, hlen, hf⟩ := DataW.trod_struct ht h
  match xs, hlen with
  | [y0, y1, y2, y3], _ => exact ⟨y0, y1, y2, y3, n, hl, by simpa using hf 0 f0 rfl, by simpa using hf 1 f1 rfl, by simpa using hf 2 f2 rfl, by simpa using hf 3 f3 rfl⟩
end
end
section
open Go.Conc Go.RowKit Go.Relay Go.ChangeShapes Go.WideShapes Go.ChangeAt Go.Joins
theorem upto_runs {H : Type} {enc : TypeId × Value → H} {C : Checked} {os : Os} {f : FuncId} {fn : Func} {s : OpenSpec} {k : (H : Type) → List (DataW H) → Bool} (hk : s.cond = some k) {F : Stop.Interp} {conds : List PathCond} {apart fresh handsOn again : Bool}
    (own : ownKnob C.prog.godebug = none) (started : os.Started) (hfn : C.prog.funcs[f]? = some fn)
    (wit : ∃ (w : World) (tape : Tape) (i : Input), w.os = os ∧ (w.forCall tape i).Shaped C.prog ∧ i.vars = [] ∧ Input.okWide C.prog (w.forCall tape i) .any w.heap.size f i ∧ s.pre6 enc C.prog fn conds apart (w.forCall tape i).memory i.args ∧ ({} : Assume).holds C.prog (lone (Frame.enter C.prog f i.args .normal) [] (w.forCall tape i)))
    (run : ∀ (W : World) (base : Nat) (args : Array Value) (ds gs : List (DataW H)) (ps : List MemPlace), (∀ (j : Nat) t v, fn.params[j]? = some t → args[j]? = some v → Value.okWide C.prog W .any base t v) → DataW.Whole enc C.prog fn.params.toList s.vars apart W args.toList ds gs ps → k H (ds ++ gs) = true →
      ∃ M last o w' t', runNT C.prog (M + 1) (solo (G (Frame.enter C.prog f args .normal) []) W) #[] = (.ended o w', t') ∧ Go.runN C.prog M (solo (G (Frame.enter C.prog f args .normal) []) W) = .next last ∧ step C.prog last = .ended o w' ∧ Go.Conc.Good C.prog (fun v W' => (s.at F).post enc C.prog fn apart fresh handsOn again W args v W') last o w' t') :
    ReturnsInLeavingWide {} C os f .any (s.pre6 enc C.prog fn conds apart) ((s.at F).post enc C.prog fn apart fresh handsOn again) := by
  refine returnsInLeavingWide_of_good own started wit fun w tape i _ _ _ hok hpre _ => ?_
  obtain ⟨_, _, _, fn', hfn', _, _, _, _, hval⟩ := hok
  obtain rfl := Option.some.inj (hfn'.symm.trans hfn)
  obtain ⟨ds, gs, ps, hW, _, hsmall⟩ := (OpenSpec.pre_some hk conds apart _ _).1 hpre.1
  have hW' := DataW.Whole.of_heap (w' := w.forCall tape i) (by rfl) hW
  obtain ⟨M, last, o, w', t', r1, r2, r3, r4⟩ := run (w.forCall tape i) w.heap.size i.args ds gs ps hval hW' hsmall
  exact ⟨M, last, o, w', t', r1, r2, r3, r4.mono fun v => ChangeSpec.post_blind⟩
theorem upto_holds {p : Pinned} {s : OpenSpec} {c : OpenClaim} (f : FuncId) (fn : Func) (name : c.program = p.name ∧ c.sum = p.sum ∧ c.spec = s.name)
    (plain : c.start = .entering ∧ c.outside = [] ∧ c.inits = [] ∧ c.under = none ∧ c.noBlocks = false ∧ c.leaving = true ∧ c.followed = none ∧ c.still = false) (ini : c.initsInPlace = [] ∧ c.initsUnfollowed = false ∧ c.initsRecurse = false ∧ c.initsNamed = [] ∧ c.initsPassed = []) (nar : c.narrowed = s.cond.isSome)
    (named : p.checked.prog.funcNamed c.func = some f) (isf : p.checked.prog.funcs[f]? = some fn) (facts : joinedFacts p.checked.prog f fn s.bare c = true) (inst : fn.isInstance p.checked.prog c.origin c.targs) (wrp : fn.isWrapper p.checked.prog c.wrapper c.mainSum)
    (call : ∀ os : Os, os.Started → ∀ (H : Type) (enc : TypeId × Value → H), (∀ a b, enc a = enc b → a = b) → ∀ F : Stop.Interp, ReturnsInLeavingWide c.assume p.checked os f .any (c.pre enc p.checked.prog fn s) ((s.at F).post enc p.checked.prog fn c.apart c.fresh c.handsOn c.again)) : c.holds p s := by
  obtain ⟨st, outs, inis, und, blk, lv, fol, stl⟩ := plain
  simp only [joinedFacts, Bool.and_eq_true, beq_iff_eq, Array.all_eq_true_iff_forall_mem, List.all_eq_true, decide_eq_true_eq, and_assoc] at facts
  obtain ⟨wf, laid, rowed, pars, tie, cs, ps, ck, pk, ipl, unf, rec, nmd, mps, ifs, mpo, lps, wdk, vrs, res, ifo, lpo, x1, x2, x3, x4, x5, x6, x7, x8, x9, x10⟩ := facts
  have quiet : ∀ os : Os, Stop.quiet p.checked.prog os := fun os k hk => by rw [pk] at hk; cases hk
  unfold OpenClaim.holds
  refine ⟨wf, name.1, name.2.1, name.2.2, laid, rowed, ?start, ?told, f, fn, named, isf, ⟨pars, res⟩, fun h => ?blocks, ?list, inst, wrp, cs.trans ps.symm, ⟨ck.trans pk.symm, ?word, ?heard⟩, ipl, unf, rec, nmd, mps, ?_, ?_, ?_, ?_, ?short, fun n hn => varReadable_some (vrs n hn), ?world, [], ?lists, fun os hos _ H enc inj => ?main⟩
  case start => unfold OpenClaim.startFits; rw [st]; exact x4
  case told => unfold OpenClaim.startTold; rw [st]; exact ⟨inis, und, ini⟩
  case blocks => rw [blk] at h; cases h
  case list => unfold OpenClaim.namedList; rw [fol]; exact tie
  case word => unfold Program.envWorded; rw [pk]; rfl
  case heard => exact x3
  case refine_1 => exact ⟨ifs, x9, x10⟩
  case refine_2 => exact ⟨mpo, ifo⟩
  case refine_3 => exact ⟨lps, lpo, x7, x8⟩
  case refine_4 => exact ⟨x1, x5, x6, wdk⟩
  case short =>
    have hs : c.shortTexts = none := Option.isNone_iff_eq_none.1 x2
    rw [outs, nar, hs]
    simp
  case world => exact ⟨_, by unfold OpenClaim.world; rw [outs, st]; exact WideRow.started_initial, quiet _⟩
  case lists => unfold OpenClaim.lists; rw [fol]
  case main =>
    have hos' : os.Started := by unfold OpenClaim.world at hos; rw [outs, st] at hos; exact hos
    have ok : c.okInput = Input.okWide := by unfold OpenClaim.okInput; rw [blk]
    have ret : c.atReturn p.checked.prog = leavingAtReturn p.checked.prog := by unfold OpenClaim.atReturn; rw [lv]
    have alw : c.always p.checked.prog [] = nothingAlways := by unfold OpenClaim.always; rw [fol]
    rw [OpenClaim.post_not_still stl]
    unfold OpenClaim.form
    rw [st, cs]
    intro F
    have pst : s.post enc p.checked.prog fn F c.outside c.apart c.fresh c.handsOn c.again = (s.at F).post enc p.checked.prog fn c.apart c.fresh c.handsOn c.again := by rw [outs]; rfl
    rw [ok, ret, alw]
    show ReturnsInOpen _ _ _ _ _ _ _ _ (s.post enc p.checked.prog fn F c.outside c.apart c.fresh c.handsOn c.again) _ _
    rw [pst]
    exact call os hos' H enc inj F x4
end
section
open Go.ChangeShapes Go.WideShapes Go.ChangeAt Go.Joins Go.Deep
theorem und5_is : Try.prog.underlying 5 = some (.int .u8) := by kernel_rfl
noncomputable def fldsAct : Array Field := match Try.prog.underlying 80 with | some (.struct fs) => fs | _ => #[]
theorem undAct_is : Try.prog.underlying 80 = some (.struct fldsAct) := by kernel_rfl
theorem fldsAct_two : ∃ f0 f1, fldsAct = #[f0, f1] ∧ f0.type = 5 ∧ f0.offset = 0 ∧ f1.type = 49 ∧ f1.offset = 1 := by
  have hs : fldsAct.size = 2 := by kernel_rfl
  have h0 : (fldsAct[0]?).map (·.type) = some 5 := by kernel_rfl
  have h1 : (fldsAct[1]?).map (·.type) = some 49 := by kernel_rfl
  have h2 : (fldsAct[0]?).map (·.offset) = some 0 := by kernel_rfl
  have h3 : (fldsAct[1]?).map (·.offset) = some 1 := by kernel_rfl
  generalize fldsAct = F at *
  obtain ⟨l⟩ := F
  match l, hs with
  | [f0, f1], _ => exact ⟨f0, f1, rfl, by simpa using h0, by simpa using h2, by simpa using h1, by simpa using h3⟩
theorem u8_range {z : Int} (h : (Lit.int .u8 z).wf = true) : 0 ≤ z ∧ z < 256 := by
  simp [Lit.wf, IntKind.min, IntKind.max, IntKind.signed, IntKind.bits] at h
  omega
theorem bulk_pos {H : Type} (d : DataW H) : 1 ≤ Rows.uptoBulk d := by
  cases d with
  | lit l => cases l <;> simp only [Rows.uptoBulk] <;> omega
  | _ => simp only [Rows.uptoBulk] <;> omega
theorem bulk_len {H : Type} : ∀ l : List (DataW H), l.length ≤ Rows.uptoBulkAll l
  | [] => Nat.zero_le _
  | d :: l => by
    have h1 := bulk_pos d
    have h2 := bulk_len l
    simp only [Rows.uptoBulkAll, List.length_cons]
    omega
section
variable {H : Type} {enc : TypeId × Value → H} {W : World}
theorem open_acts {base : Nat} {v : Value} {d : DataW H} {ps : List MemPlace} (hval : Value.okWide Try.prog W .any base 75 v) (h : DataW.Trod enc Try.prog W 0 (fun _ => true) true 75 v d ps) :
    ∃ (a : Option Addr) (L c : Nat), v = .slice a L c ∧ L ≤ Rows.uptoBulk d ∧ (0 < L → ∃ sb' so, a = some ⟨sb', so, none⟩ ∧ ActsIn W sb' so L) := by
  have hu : Try.prog.underlying 75 = some (.slice 80) := by kernel_rfl
  have hC : Try.prog.cellsOf 80 = 5 := by kernel_rfl
  have hC5 : Try.prog.cellsOf 5 = 1 := by kernel_rfl
  have hCO : Try.prog.cellsOf 49 = 4 := by kernel_rfl
  obtain ⟨f0, f1, ef, t0, of0, t1, of1⟩ := fldsAct_two
  have hst : Try.prog.underlying 80 = some (.struct #[f0, f1]) := by rw [undAct_is, ef]
  obtain ⟨e0, e1, e2, e3, eg, s0, s1, s2, s3⟩ := fldsOp_four
  have hstO : Try.prog.underlying 49 = some (.struct #[e0, e1, e2, e3]) := by rw [undOp_is, eg]
  have hone : oneCellFields Try.prog #[e0, e1, e2, e3] = true := by rw [← eg]; kernel_rfl
  obtain ⟨sa, sl, sc, rfl⟩ := okWide_slice hu hval
  obtain ⟨fuel, hf⟩ := h
  have hf : DataW.trod enc Try.prog W 0 (fun _ => true) true fuel 75 [.slice sa sl sc] = some (d, ps) := hf
  rcases open_slice hu hf with ⟨e, _⟩ | ⟨a', len', cap', m, n', D, Pl, e, _, hl, _, hm, hx, hel⟩
  · have e : [Value.slice sa sl sc] = [.slice none 0 0] := e
    injection e with e _
    injection e with e4 e5 e6
    subst e4 e5 e6
    exact ⟨none, 0, 0, rfl, Nat.zero_le _, fun h => absurd h (Nat.lt_irrefl 0)⟩
  · have e : [Value.slice sa sl sc] = [.slice (some a') len' cap'] := e
    injection e with e _
    injection e with e4 e5 e6
    subst e4 e5 e6
    have hm : m = sc := by simpa using hm
    refine ⟨some a', sl, sc, rfl, ?_, fun h0 => ?_⟩
    · injection hx with hx _
      subst hx
      have := bulk_len (H := H) ((List.range sl).map D)
      simp only [List.length_map, List.length_range] at this
      simp only [Rows.uptoBulk]
      omega
    · have hform : a' = ⟨a'.block, a'.off, none⟩ := by
        obtain ⟨cs', h1, _⟩ := hel 0 (by omega)
        rw [hC] at h1
        obtain ⟨_, hlen, hcell⟩ := World.cells?_some h1
        have := hcell 0 (by omega)
        have ha : (a'.add (0 * 5)).add 0 = a' := by simp [Addr.add]
        rw [ha] at this
        exact addr_form (this.trans (List.getElem?_eq_getElem (by omega)))
      refine ⟨a'.block, a'.off, congrArg some hform, fun i hi => ?_⟩
      obtain ⟨cs', h1, h2⟩ := hel i (by omega)
      rw [hC] at h1
      obtain ⟨_, hlen, hcell⟩ := World.cells?_some h1
      obtain ⟨xs, n, _, _, _, hlx, hg⟩ := DataW.trod_struct hst h2
      have g0 := hg 0 f0 rfl
      have g1 := hg 1 f1 rfl
      rw [t0, of0, hC5] at g0
      rw [t1, of1, hCO] at g1
      match xs, hlx with
      | [y0, y1], _ =>
        have g0 : DataW.trod enc Try.prog W 0 (fun _ => true) true n 5 ((cs'.drop 0).take 1) = some y0 := g0
        have g1 : DataW.trod enc Try.prog W 0 (fun _ => true) true n 49 ((cs'.drop 1).take 4) = some y1 := g1
        match cs', hlen with
        | [c0, c1, c2, c3, c4], _ =>
          obtain ⟨z0, q0, _, r0⟩ := DataW.trod_int und5_is g0
          obtain ⟨w0, w1, w2, w3, n2, _, u0, u1, u2, u3⟩ := trod_struct4 hstO g1
          obtain ⟨o0, k0⟩ := hone_of hone 0 e0 rfl
          obtain ⟨o1, k1⟩ := hone_of hone 1 e1 rfl
          obtain ⟨o2, k2⟩ := hone_of hone 2 e2 rfl
          obtain ⟨o3, k3⟩ := hone_of hone 3 e3 rfl
          rw [o0, k0, s0] at u0
          rw [o1, k1, s1] at u1
          rw [o2, k2, s2] at u2
          rw [o3, k3, s3] at u3
          obtain ⟨z1, q1, _, _⟩ := DataW.trod_int und3_is u0
          obtain ⟨z2, q2, _, _⟩ := DataW.trod_int und2_is u1
          obtain ⟨z3, q3, _, _⟩ := DataW.trod_int und2_is u2
          obtain ⟨z4, q4, _, _⟩ := DataW.trod_int und2_is u3
          simp at q0 q1 q2 q3 q4
          subst q0 q1 q2 q3 q4
          obtain ⟨p1, p2⟩ := u8_range r0
          refine ⟨z0, z1, z2, z3, z4, p1, p2, fun y v hv => ?_⟩
          have hy : y < 5 := (List.getElem?_eq_some_iff.1 hv).1
          have hc := hcell y (by simpa using hy)
          rw [hform, add_none, add_none] at hc
          exact hc.trans hv
end
theorem soloPlain_lifted (os : Os) (started : os.Started) (H : Type) (enc : TypeId × Value → H) (F : Stop.Interp) :
    ReturnsInLeavingWide {} Try.checked os 9 .any ((Rows.OpenSpec.upto Rows.soloPlainSpec).pre6 enc Try.prog Try.f9 Rows.soloPlainUptoRow.domain false) (((Rows.OpenSpec.upto Rows.soloPlainSpec).at F).post enc Try.prog Try.f9 false true false false) := by
  refine upto_runs (C := Try.checked) (s := Rows.OpenSpec.upto Rows.soloPlainSpec) (k := Rows.uptoSmall) rfl prog_own started Try.func9
    (OpenSpec.witness (enc := enc) (C := Try.checked) (s := Rows.OpenSpec.upto Rows.soloPlainSpec) (k := Rows.uptoSmall) rfl false ⟨#[], #[.int .u8 0, .int .u8 0, .slice none 0 0], []⟩ 8 (by kernel_rfl) (by kernel_rfl) (by kernel_rfl)
      (x := ([.lit (.int .u8 0), .lit (.int .u8 0), .nil], [], [])) (by kernel_rfl) rfl (by kernel_rfl)) ?_
  intro W base args ds gs before hval0 hW hsmall
  have hval : ∀ (j : Nat) t v, Try.f9.params[j]? = some t → args[j]? = some v → Value.okWide Try.prog W .any base t v := hval0
  have hW' := hW
  obtain ⟨p, q, hA0, hV, rfl, _, _⟩ := hW
  have hA : DataW.TrodAll enc Try.prog W 0 (fun _ => true) true Try.f9.params.toList args.toList ds p := hA0
  rw [Try.params9] at hA hval
  obtain ⟨v0, v1, v2, d0, d1, d2, p0, p1, p2, rfl, rfl, rfl, h0, h1, h2⟩ := trodAll_three hA
  obtain ⟨rfl, rfl⟩ := trodVars_none hV
  have hlt := hW'.lt
  obtain ⟨sz, rfl, rfl, rfl, wsz⟩ := open_int und5_is (hval 0 5 v0 rfl rfl) h0
  obtain ⟨rd, rfl, rfl, rfl, wrd⟩ := open_int und5_is (hval 1 5 v1 rfl rfl) h1
  obtain ⟨sa, L, sc, rfl, hL, hin⟩ := open_acts (hval 2 75 v2 rfl rfl) h2
  have hb : Rows.uptoBulkAll ([.lit (.int .u8 sz), .lit (.int .u8 rd), d2] ++ []) ≤ 1048576 := of_decide_eq_true hsmall
  have hL : L ≤ 1048576 := by
    simp only [List.append_nil, Rows.uptoBulkAll] at hb
    omega
  clear hA0 hval0 hsmall hb
  simp only [List.append_nil, List.nil_append] at hW' hlt
  obtain ⟨M, last, o, w', t', r1, r2, r3, r4⟩ := run_claim (Post := Left W) (t := 6) Try.func9 rfl (by kernel_rfl) (Runs.walk (sp_all sz rd (u8_range wsz).1 (u8_range wrd).1 sa L sc hL W hin) fun g w' ⟨hC, hO⟩ => .now ⟨hC, fun ho d => ⟨rfl, ho.1, ho.2, hO⟩⟩)
  refine ⟨M, last, o, w', t', r1, r2, r3, r4.mono fun v hF => ?_⟩
  have hk : Left W (.bool true) w' := ⟨rfl, hF.2⟩
  obtain rfl : v = .bool true := hF.1
  exact ⟨_, _, _, [], _, [], hW', trodAll_mk1 (shut_bool und4_is true), trodAll_cons_mk (shut_int und5_is wsz) (trodAll_cons_mk (shut_int und5_is wrd) (trodAll_mk1 (hk.stays (by kernel_rfl) (of_decide_eq_true (by kernel_rfl)) h2 fun x hx => hlt x (by simp [hx])))), rfl, hk.kept _, fun h => by cases h⟩
theorem soloPlain_holds : Rows.SoloPlainUptoSaid :=
  upto_holds 9 Try.f9 ⟨rfl, rfl, rfl⟩ ⟨rfl, rfl, rfl, rfl, rfl, rfl, rfl, rfl⟩ ⟨rfl, rfl, rfl, rfl, rfl⟩ rfl (by kernel_rfl) Try.func9 (by kernel_rfl)
    (of_decide_eq_true (by kernel_rfl)) (by unfold Func.isWrapper; first | (rw [if_pos (by decide +kernel)]; kernel_rfl) | (rw [if_neg (by decide +kernel)]; exact ⟨rfl, rfl⟩))
    (fun os started H enc _ F => soloPlain_lifted os started H enc F)
end
end Go.Proofs.Ytcdcnmphjhfbpaa
