/-
For all sizes and all lists of operations: StackAlone returns true on every schedule of the goroutines, without a data race, and what was there stands. Conditions: none beyond the statement's own.
-/
import Derived.Test.YtdmpmoggacjgcaaJ13
import Derived.Test.YtdmpmoggacjgcaaJ30
import Derived.Test.YtdmpmoggacjgcaaRows
import Derived.Conc.LeavingOf
import Derived.Lib.SmallJoins
import Derived.Handy
import Derived.SizedLaws
import Derived.Carry
import Derived.Deep.Slices
import Derived.Deep.Fields
set_option linter.unusedSimpArgs false
set_option linter.unusedVariables false
set_option maxHeartbeats 8000000
set_option maxRecDepth 100000
namespace Go.Proofs.Ytdmpmoggacjgcaa
open Go.Conc Go.RowKit Go.Relay
open Go.ConcN (upd upd_ne upd_same)
theorem sal_end (R kb lb p : Nat) (hA tA fA gA : Int) (st : Value) (u : Nat → Value) (h4 : u 4 = .bool true) (W w : World) (ho : ∀ b, b < W.heap.size → w.heap[b]? = W.heap[b]?) :
  Walk Try.prog true (DR (fun _ => none)) (fun g w' => Closing 5 4 (.bool true) g ∧ ∀ b, b < W.heap.size → w'.heap[b]? = W.heap[b]?) (G ((base 5).at ⟨tmY R kb lb p hA tA fA gA st u, []⟩ (.inRegion reg5_17 [] :: [.code .ret])) []) w := by
 simp only [tmY, h4]
 refine Walk.gz z5 ?_
 exact .stop fun d => ⟨⟨_, rfl, rfl, rfl, rfl, rfl, rfl⟩, ho⟩
theorem sal_all (sz : Int) (ta : Option Addr) (n0 tc tb toff : Nat) (ops : List OpV) (W : World) (hlen : ops.length = min n0 65536) (hcap : n0 ≤ tc) (had : (ta = none ∧ tc = 0) ∨ ∃ p, ta = some p) (hn0 : n0 ≤ 17592186044416) (hta : 0 < n0 → ta = some ⟨tb, toff, none⟩)
  (hop : ∀ (j : Nat) (o : OpV), ops[j]? = some o → W.cell? ⟨tb, toff + j * 4, none⟩ = some (.int .i64 o.k) ∧ W.cell? ⟨tb, toff + j * 4 + 1, none⟩ = some (.int .i64 o.a) ∧ W.cell? ⟨tb, toff + j * 4 + 2, none⟩ = some (.int .i64 o.b) ∧ W.cell? ⟨tb, toff + j * 4 + 3, none⟩ = some (.int .i64 o.c)) :
  Runs (fun g w' => Closing 5 4 (.bool true) g ∧ ∀ b, b < W.heap.size → w'.heap[b]? = W.heap[b]?) (G (Frame.enter Try.prog 5 #[.int .i64 sz, .slice ta n0 tc] .normal) []) W := by
 have hN := (sizeN_le sz).2.1
 refine Runs.then (sal_mid sz ta n0 tc tb toff ops W hlen hcap had hn0 hta hop) ?_
 rintro g w1 (⟨hC, hO⟩ | ⟨R, S, U, c2, az, ord, cells, sa, sc, M, u, rfl⟩)
 ·exact .now ⟨hC, hO⟩
 ·obtain ⟨aa, ac, oa, oc, sb, sd, rfl, h1, h2, h3⟩ := M.is.all
  obtain rfl := M.len
  have hsl : (stateX (sizeN sz) S).length ≤ 17592186044416 := by
   have := valsX_len S (sizeN sz) (nodeX S.hd)
   simp only [stateX, List.length_append, List.length_cons, List.length_nil]
   omega
  have hlt : ∀ b, b < W.heap.size → b < w1.heap.size := fun b hb => by
   have h0 := M.old b hb
   rw [Array.getElem?_eq_getElem hb] at h0
   exact (Array.getElem?_eq_some_iff.1 h0).1
  rw [tmZ_Y M.sim]
  refine Runs.walk (alone_last (Stop := fun g w' => Closing 5 4 (.bool true) g ∧ ∀ b, b < w1.heap.size → w'.heap[b]? = w1.heap[b]?) R (R + 2) (R + 1) (R + 4) (R + 3) (sizeN sz) (R + 5) S U ord.length hN (by omega) (by omega) w1 M.ik M.il M.sim (nodeX S.hd) (tagX S.hd) (nodeX S.fr) (tagX S.fr) M.cn (.slice aa 1 ac) false oa sa sb oc sc sd (stateX (sizeN sz) S) M.tr M.st h2 hsl [.code .ret] [] _ (fun u w h4 ho => ?_)) ?_
  ·exact sal_end R (R + 2) (R + 4) (R + 5) (nodeX S.hd) (tagX S.hd) (nodeX S.fr) (tagX S.fr) _ u h4 w1 w ho
  ·rintro g w' ⟨hC, ho⟩
   exact .now ⟨hC, fun b hb => (ho b (hlt b hb)).trans (M.old b hb)⟩
section
open Go.ChangeShapes Go.WideShapes Go.ChangeAt Go.Joins Go.Deep
theorem prog_own : ownKnob Try.prog.godebug = none := by kernel_rfl
def Left (W : World) (v : Value) (w' : World) : Prop := v = .bool true ∧ w'.os = W.os ∧ w'.output = W.output ∧ ∀ b, b < W.heap.size → w'.heap[b]? = W.heap[b]?
theorem Left.kept {W w' : World} {v : Value} (h : Left W v w') (may : MemPlace → Prop) : W.keptBut w' may := by
 refine ⟨h.2.1, h.2.2.1, fun i hi => ?_⟩
 rw [h.2.2.2 i hi]
 split <;> simp_all
theorem und4_is : Try.prog.underlying 4 = some .bool := by kernel_rfl
theorem stepG_done {P : Program} {fr : Frame} {w : World} {fn : Func} {v : Value} (hm : fr.mode = .returning) (hn : fr.kind = .normal) (hd : fr.defers = []) (hf : P.funcs[fr.fn]? = some fn) (hr : (results fn fr.tmps).run P w = .ok v w) (he : (results fn fr.tmps).events P w #[] = #[]) (hi : P.inits.idxOf? fr.fn = none) :
  stepG P true (G fr []) w = .ended (.done v) w #[] := by
 simp [G, stepG, unwind, doReturn, hm, hd, hn, hf, hr, he, hi, GStep.after, seen_none]
theorem run_claim {f : FuncId} {fn : Func} {args : Array Value} {W : World} {Post : Value → World → Prop} {v : Value} {t : Tmp} (hf : Try.prog.funcs[f]? = some fn) (hres : fn.results = #[.tmp t]) (hi : Try.prog.inits.idxOf? f = none)
  (h : Runs (fun g w' => Closing f t v g ∧ (OsSame W w' → ∀ d, Post v (w'.at d))) (G (Frame.enter Try.prog f args .normal) []) W) :
  ∃ M last o w' t', runNT Try.prog (M + 1) (solo (G (Frame.enter Try.prog f args .normal) []) W) #[] = (.ended o w', t') ∧ Go.runN Try.prog M (solo (G (Frame.enter Try.prog f args .normal) []) W) = .next last ∧ step Try.prog last = .ended o w' ∧ Go.Conc.Good Try.prog Post last o w' t' := by
 rw [solo_eq_crowd]
 have A0 := at_begin (P := Try.prog) (gs := #[G (Frame.enter Try.prog f args .normal) []]) (a := G (Frame.enter Try.prog f args .normal) []) (sl := none) (w := W) rfl (leavers_one Try.prog _) past_nil
 obtain ⟨N1, m1, T1, r1, ⟨nG, g1, w1, _, ⟨⟨fr, rfl, hm, hn, hd, hfn, hv⟩, hP⟩, A1⟩, ho⟩ := h 1 _ _ (Nat.le_refl _) A0
 obtain ⟨gs, sl, q, B, rfl, _, hg0, hL, hPast⟩ := A1.ends (fun _ => rfl)
 have hP := hP ho
 have hs : ∀ d, stepG Try.prog true (G fr []) (w1.at d) = .ended (.done v) (w1.at d) #[] := fun d =>
  stepG_done hm hn hd (by rw [hfn]; exact hf) (by rw [results_tmp hres, hv]) (events_results_tmp hres _ _) (by rw [hfn]; exact hi)
 have hG : Goes Try.prog true AtRel (fun _ _ es => ∀ e ∈ es, EvL (fun _ => False) B e) (AtEnd Try.prog (fun _ => False) B Post) 0 (G fr []) w1 := by
  rintro _ ⟨d, rfl⟩
  exact ⟨rfl, v, #[], hs d, by simp, hP d⟩
 obtain ⟨M8, last, o, w', t', e1, e2, e3, e4⟩ := beside_ends (P := Try.prog) (Post := Post) (sl := sl) (fun _ _ _ h => h) hg0 hL hPast hG
 refine ⟨N1 + M8, last, o, w', t', ?_, ?_, e3, e4⟩
 ·rw [Nat.add_assoc, runNT_add, r1]; exact e1
 ·rw [Go.runN_add, ← runNT_fst Try.prog _ _ #[], r1]; exact e2
end
section
open Go.Conc Go.RowKit Go.Relay Go.ChangeShapes Go.WideShapes Go.ChangeAt Go.Joins Go.Deep
theorem und3_is : Try.prog.underlying 3 = some (.int .i64) := by kernel_rfl
theorem und2_is : Try.prog.underlying 2 = some (.int .i64) := by kernel_rfl
theorem laid_out : laidOutB Try.prog = true := by kernel_rfl
section
variable {H : Type} {enc : TypeId × Value → H} {W w' : World}
theorem Left.stays {r : Value} {t : TypeId} {v : Value} {d : DataW H} {ps : List MemPlace} (K : Left W r w') (hr : Try.prog.readableRec t = true) (hrow : t < Try.prog.types.size) (h : DataW.Trod enc Try.prog W 0 (fun _ => true) true t v d ps) (hlt : ∀ x ∈ ps, x.block < W.heap.size) :
  DataW.Trod enc Try.prog w' 0 (fun b => decide (b < W.heap.size)) true t v d ps :=
 WideElems.Trod_stays laid_out hr hrow h (fun x hx => by
  have hb := K.2.2.2 x.block (hlt x hx)
  cases x with
  | cell b o => exact World.cell?_of_block (w := W) (a := ⟨b, o, none⟩) hb
  | map b => exact hb) (fun x hx => by simpa using hlt x hx)
theorem addr_form {w : World} {a : Addr} {v : Value} (h : w.cell? a = some v) : a = ⟨a.block, a.off, none⟩ := by
 obtain ⟨b, o, s⟩ := a
 cases s with
 | none => rfl
 | some s =>
  unfold World.cell? at h
  split at h
  ·simp at h
  ·cases h
end
noncomputable def fldsOp : Array Field := match Try.prog.underlying 45 with | some (.struct fs) => fs | _ => #[]
theorem undOp_is : Try.prog.underlying 45 = some (.struct fldsOp) := by kernel_rfl
theorem fldsOp_four : ∃ f0 f1 f2 f3, fldsOp = #[f0, f1, f2, f3] ∧ f0.type = 3 ∧ f1.type = 2 ∧ f2.type = 2 ∧ f3.type = 2 := by
 have hs : fldsOp.size = 4 := by kernel_rfl
 have h0 : (fldsOp[0]?).map (·.type) = some 3 := by kernel_rfl
 have h1 : (fldsOp[1]?).map (·.type) = some 2 := by kernel_rfl
 have h2 : (fldsOp[2]?).map (·.type) = some 2 := by kernel_rfl
 have h3 : (fldsOp[3]?).map (·.type) = some 2 := by kernel_rfl
 generalize fldsOp = F at *
 obtain ⟨l⟩ := F
 match l, hs with
 | [f0, f1, f2, f3], _ => exact ⟨f0, f1, f2, f3, rfl, by simpa using h0, by simpa using h1, by simpa using h2, by simpa using h3⟩
section
variable {H : Type} {enc : TypeId × Value → H} {W : World} {base : Nat} {spare : Nat → Bool} {held : Bool}
theorem trod_struct4 {P : Program} {t : TypeId} {f0 f1 f2 f3 : Field} {fuel : Nat} {cs : List Value} {x : DataW H × List MemPlace} (ht : P.underlying t = some (.struct #[f0, f1, f2, f3])) (h : DataW.trod enc P W base spare held fuel t cs = some x) :
  ∃ y0 y1 y2 y3 n, cs.length = P.cellsOf t ∧ DataW.trod enc P W base spare held n f0.type ((cs.drop f0.offset).take (P.cellsOf f0.type)) = some y0 ∧
   DataW.trod enc P W base spare held n f1.type ((cs.drop f1.offset).take (P.cellsOf f1.type)) = some y1 ∧ DataW.trod enc P W base spare held n f2.type ((cs.drop f2.offset).take (P.cellsOf f2.type)) = some y2 ∧
   DataW.trod enc P W base spare held n f3.type ((cs.drop f3.offset).take (P.cellsOf f3.type)) = some y3 := by
 obtain ⟨xs, n, _, rfl, hl, hlen, hf⟩ := DataW.trod_struct ht h
 match xs, hlen with
 | [y0, y1, y2, y3], _ => exact ⟨y0, y1, y2, y3, n, hl, by simpa using hf 0 f0 rfl, by simpa using hf 1 f1 rfl, by simpa using hf 2 f2 rfl, by simpa using hf 3 f3 rfl⟩
structure ThIn (W : World) (v : Value) (a : Option Addr) (ln oc : Nat) (l : List OpV) : Prop where
 is : v = .slice a ln oc
 len : l.length = ln
 cap : ln ≤ oc
 ad : (a = none ∧ oc = 0) ∨ ∃ p, a = some p
 ops : ∀ (k : Nat) (o : OpV), l[k]? = some o → ∃ b off, a = some ⟨b, off, none⟩ ∧ W.cell? ⟨b, off + k * 4, none⟩ = some (.int .i64 o.k) ∧ W.cell? ⟨b, off + k * 4 + 1, none⟩ = some (.int .i64 o.a) ∧ W.cell? ⟨b, off + k * 4 + 2, none⟩ = some (.int .i64 o.b) ∧ W.cell? ⟨b, off + k * 4 + 3, none⟩ = some (.int .i64 o.c)
theorem open_ops {n : Nat} {v : Value} {x : DataW H × List MemPlace} (hu : Try.prog.underlying 37 = some (.slice 45)) (h : DataW.trod enc Try.prog W base (fun _ => true) held n 37 [v] = some x) :
  ∃ (q : (Option Addr × Nat × Nat) × List OpV), ThIn W v q.1.1 q.1.2.1 q.1.2.2 q.2 := by
 have hC : Try.prog.cellsOf 45 = 4 := by kernel_rfl
 obtain ⟨f0, f1, f2, f3, ef, t0, t1, t2, t3⟩ := fldsOp_four
 have hst : Try.prog.underlying 45 = some (.struct #[f0, f1, f2, f3]) := by rw [undOp_is, ef]
 have hone : oneCellFields Try.prog #[f0, f1, f2, f3] = true := by rw [← ef]; kernel_rfl
 rcases open_slice hu h with ⟨e, _⟩ | ⟨a', len', cap', m, n', D, Pl, e, _, hl, _, hm, hx, hel⟩
 ·injection e with e _
  exact ⟨((none, 0, 0), []), e, rfl, Nat.le_refl _, .inl ⟨rfl, rfl⟩, fun k o h => by simp at h⟩
 ·injection e with e _
  have hm : m = cap' := by simpa using hm
  have key : ∀ i, i < len' → ∃ o : OpV, ∀ k v, ([.int .i64 o.k, .int .i64 o.a, .int .i64 o.b, .int .i64 o.c] : List Value)[k]? = some v → W.cell? ((a'.add (i * 4)).add k) = some v := fun i hi => by
   obtain ⟨cs', h1, h2⟩ := hel i (by omega)
   rw [hC] at h1
   obtain ⟨_, hlen, hcell⟩ := World.cells?_some h1
   obtain ⟨y0, y1, y2, y3, k, _, u0, u1, u2, u3⟩ := trod_struct4 hst h2
   obtain ⟨o0, k0⟩ := hone_of hone 0 f0 rfl
   obtain ⟨o1, k1⟩ := hone_of hone 1 f1 rfl
   obtain ⟨o2, k2⟩ := hone_of hone 2 f2 rfl
   obtain ⟨o3, k3⟩ := hone_of hone 3 f3 rfl
   match cs', hlen with
   | [c0, c1, c2, c3], _ =>
    rw [o0, k0, t0] at u0
    rw [o1, k1, t1] at u1
    rw [o2, k2, t2] at u2
    rw [o3, k3, t3] at u3
    obtain ⟨z0, e0, _, _⟩ := DataW.trod_int und3_is u0
    obtain ⟨z1, e1, _, _⟩ := DataW.trod_int und2_is u1
    obtain ⟨z2, e2, _, _⟩ := DataW.trod_int und2_is u2
    obtain ⟨z3, e3, _, _⟩ := DataW.trod_int und2_is u3
    simp at e0 e1 e2 e3
    subst e0 e1 e2 e3
    refine ⟨⟨z0, z1, z2, z3⟩, fun k v hv => ?_⟩
    have hk4 : k < 4 := (List.getElem?_eq_some_iff.1 hv).1
    have hc := hcell k (by simpa using hk4)
    rw [hc]
    exact hv
  have hI : Inhabited OpV := ⟨⟨0, 0, 0, 0⟩⟩
  obtain ⟨f, hf'⟩ := choose_lt (α := OpV) key
  refine ⟨((some a', len', cap'), (List.range len').map f), e, by simp, hl, .inr ⟨_, rfl⟩, fun k o hd => ?_⟩
  have hk : k < len' := by simpa using (List.getElem?_eq_some_iff.1 hd).1
  have hd : f k = o := by simpa [hk] using hd
  have hf := hf' k hk
  rw [hd] at hf
  have h0 := hf' 0 (by omega) 0 _ rfl
  have ha : (a'.add (0 * 4)).add 0 = a' := by simp [Addr.add]
  rw [ha] at h0
  have hform := addr_form h0
  have hc : ∀ (m : Nat) (v : Value), ([.int .i64 o.k, .int .i64 o.a, .int .i64 o.b, .int .i64 o.c] : List Value)[m]? = some v → W.cell? ⟨a'.block, a'.off + k * 4 + m, none⟩ = some v := fun m v hv => by
   have := hf m v hv
   rw [hform, add_none, add_none] at this
   exact this
  exact ⟨a'.block, a'.off, congrArg some hform, hc 0 _ rfl, hc 1 _ rfl, hc 2 _ rfl, hc 3 _ rfl⟩
end
end
section
open Go.ChangeShapes Go.WideShapes Go.ChangeAt Go.Joins Go.Deep
section
variable {H : Type} {enc : TypeId × Value → H} {W : World}
theorem open_oplist {base : Nat} {v : Value} {d : DataW H} {ps : List MemPlace} (hu : Try.prog.underlying 37 = some (.slice 45)) (hval : Value.okWide Try.prog W .any base 37 v) (h : DataW.Trod enc Try.prog W 0 (fun _ => true) true 37 v d ps)
  {ts : List TypeId} {ds : List (DataW H)} {j : Nat} (hsz : (DataW.weightsEach Try.prog ts ds).all (· ≤ reachBytes) = true) (ht : ts[j]? = some 37) (hd : ds[j]? = some d) :
  ∃ (a : Option Addr) (n0 tc tb toff : Nat) (ops : List OpV), v = .slice a n0 tc ∧ ops.length = min n0 65536 ∧ n0 ≤ tc ∧ (a = none ∧ tc = 0 ∨ ∃ p, a = some p) ∧ n0 ≤ 17592186044416 ∧ (0 < n0 → a = some ⟨tb, toff, none⟩) ∧
   ∀ (j : Nat) (o : OpV), ops[j]? = some o → W.cell? ⟨tb, toff + j * 4, none⟩ = some (.int .i64 o.k) ∧ W.cell? ⟨tb, toff + j * 4 + 1, none⟩ = some (.int .i64 o.a) ∧ W.cell? ⟨tb, toff + j * 4 + 2, none⟩ = some (.int .i64 o.b) ∧ W.cell? ⟨tb, toff + j * 4 + 3, none⟩ = some (.int .i64 o.c) := by
 obtain ⟨sa, sl, sc, rfl⟩ := okWide_slice hu hval
 obtain ⟨fuel, hf⟩ := h
 have hf : DataW.trod enc Try.prog W 0 (fun _ => true) true fuel 37 [.slice sa sl sc] = some (d, ps) := hf
 generalize hv : Value.slice sa sl sc = v at *
 obtain ⟨⟨⟨a, n0, tc⟩, l⟩, I⟩ := open_ops hu hf
 have hb : n0 ≤ 17592186044416 := by
  have hB : Try.prog.bytesOf 45 = 32 := by kernel_rfl
  have hr := reachBytes_lt
  rcases open_slice hu hf with ⟨e, _⟩ | ⟨a', len', cap', m, n', D, Pl, e, _, hl, _, hm, hx, _⟩
  ·have e : [v] = [.slice none 0 0] := e
   injection e with e _
   rw [I.is] at e
   injection e with _ e _
   have e : n0 = 0 := e
   omega
  ·have e : [v] = [.slice (some a') len' cap'] := e
   injection e with e _
   rw [I.is] at e
   injection e with _ e _
   have e : n0 = len' := e
   injection hx with hx _
   subst hx
   have hs := sized_slice hsz ht hd hu
   rw [hB] at hs
   simp only [List.length_map, List.length_range] at hs
   omega
 have hlt : (l.take 65536).length = min n0 65536 := by rw [List.length_take, I.len]; exact Nat.min_comm _ _
 cases hl : l with
 | nil =>
  have hl0 := I.len
  rw [hl] at hl0
  have hl0 : n0 = 0 := hl0.symm
  exact ⟨a, n0, tc, 0, 0, l.take 65536, I.is, hlt, I.cap, I.ad, hb, fun h => by omega, fun j o ho => by rw [hl] at ho; simp at ho⟩
 | cons o0 l0 =>
  obtain ⟨b, off, e, _⟩ := I.ops 0 o0 (by show l[0]? = _; rw [hl]; rfl)
  refine ⟨a, n0, tc, b, off, l.take 65536, I.is, hlt, I.cap, I.ad, hb, fun _ => e, fun j o ho => ?_⟩
  rw [List.getElem?_take] at ho
  split at ho
  ·obtain ⟨b', off', e', k⟩ := I.ops j o ho
   have e : a = some ⟨b, off, none⟩ := e
   have e' : a = some ⟨b', off', none⟩ := e'
   rw [e] at e'
   cases e'
   exact k
  ·cases ho
end
theorem stackAlone_lifted (os : Os) (started : os.Started) (H : Type) (enc : TypeId × Value → H) :
  ReturnsInLeavingWide {} Try.checked os 5 .any (Rows.stackAloneSpec.pre6 enc Try.prog Try.f5 Rows.stackAloneRow.domain false) (Rows.stackAloneSpec.post enc Try.prog Try.f5 false true false false) := by
 refine returnsInLeavingWide_of_change_sized (C := Try.checked) prog_own started Try.func5
  (ChangeSpec.witness6 (enc := enc) (C := Try.checked) false ⟨#[], #[.int .i64 0, .slice none 0 0], []⟩ 8 (by kernel_rfl) (by kernel_rfl) (by kernel_rfl) (by kernel_rfl)) ?_
 intro W base args ds gs before hval0 hW _ hsz0 _
 have hval : ∀ (j : Nat) t v, Try.f5.params[j]? = some t → args[j]? = some v → Value.okWide Try.prog W .any base t v := hval0
 have hW' := hW
 obtain ⟨p, q, hA0, hV, rfl, _, _⟩ := hW
 have hA : DataW.TrodAll enc Try.prog W 0 (fun _ => true) true Try.f5.params.toList args.toList ds p := hA0
 rw [Try.params5] at hA hval
 have hsz : (DataW.weightsEach Try.prog (Try.f5.params.toList ++ Rows.stackAloneSpec.plain.varTypes Try.prog) (ds ++ gs)).all (· ≤ reachBytes) = true := hsz0
 rw [Try.params5] at hsz
 obtain ⟨v0, v1, d0, d1, p0, p1, rfl, rfl, rfl, h0, h1⟩ := trodAll_two hA
 obtain ⟨rfl, rfl⟩ := trodVars_none hV
 have hlt := hW'.lt
 obtain ⟨sz, rfl, rfl, rfl, wsz⟩ := open_int und3_is (hval 0 3 v0 rfl rfl) h0
 obtain ⟨ta, n0, tc, tb, toff, ops, rfl, hlen, hcap, had, hn0, hta, hop⟩ := open_oplist (by kernel_rfl) (hval 1 37 v1 rfl rfl) h1 (j := 1) hsz rfl rfl
 clear hA0 hval0 hsz0 hsz
 simp only [List.append_nil, List.nil_append] at hW' hlt
 obtain ⟨M, last, o, w', t', r1, r2, r3, r4⟩ := run_claim (Post := Left W) (t := 4) Try.func5 rfl (by kernel_rfl) (Runs.then (sal_all sz ta n0 tc tb toff ops W hlen hcap had hn0 hta hop) fun g w' ⟨hC, hO⟩ => .now ⟨hC, fun ho d => ⟨rfl, ho.1, ho.2, hO⟩⟩)
 refine ⟨M, last, o, w', t', r1, r2, r3, r4.mono fun v hF => ?_⟩
 have hk : Left W (.bool true) w' := ⟨rfl, hF.2⟩
 obtain rfl : v = .bool true := hF.1
 exact ⟨_, _, _, [], _, [], hW', trodAll_mk1 (shut_bool und4_is true), trodAll_mk2 (shut_int und3_is wsz) (hk.stays (by kernel_rfl) (of_decide_eq_true (by kernel_rfl)) h1 fun x hx => hlt x (by simp [hx])), rfl, hk.kept _, fun h => by cases h⟩
theorem stackAlone_holds : Rows.StackAloneSaid :=
 OpenClaim.holds_of_wide_leaving 5 Try.f5 rfl rfl rfl rfl rfl rfl rfl ⟨rfl, rfl, rfl, rfl, rfl⟩ rfl rfl rfl rfl rfl (by kernel_rfl) Try.func5 (by kernel_rfl)
  (of_decide_eq_true (by kernel_rfl)) (by unfold Func.isWrapper; first | (rw [if_pos (by decide +kernel)]; kernel_rfl) | (rw [if_neg (by decide +kernel)]; exact ⟨rfl, rfl⟩))
  (fun os started H enc _ => stackAlone_lifted os started H enc)
end
end Go.Proofs.Ytdmpmoggacjgcaa
