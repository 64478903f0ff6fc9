/-
For all numbers to begin with, for all threads of operations, schedules and every most: SlotsPlays returns true on every schedule of the goroutines, without a data race, and what was there stands. Conditions: none beyond the statement's own.
-/
import Derived.Test.YtcdcnmphjhfbpaaJ12
import Derived.Test.YtcdcnmphjhfbpaaJ13
import Derived.Test.YtcdcnmphjhfbpaaJ32
import Derived.Test.YtcdcnmphjhfbpaaRows
import Derived.Conc.LeavingOf
import Derived.Lib.SmallJoins
import Derived.Handy
import Derived.SizedLaws
import Derived.Carry
import Derived.Deep.Slices
import Derived.Deep.Fields
set_option linter.unusedSimpArgs false
set_option linter.unusedVariables false
set_option maxHeartbeats 8000000
set_option maxRecDepth 100000
namespace Go.Proofs.Ytcdcnmphjhfbpaa
open Go.Conc Go.RowKit Go.Relay
open Go.ConcN (upd upd_ne upd_same)
open Go.ChangeShapes Go.WideShapes Go.ChangeAt Go.Joins Go.Deep
section
theorem Qau : ownKnob Try.prog.godebug = none := by kernel_rfl
def Left (W : World) (v : Value) (w' : World) : Prop := v = .bool true /\ w'.os = W.os /\ w'.output = W.output /\ ∀ b, b < W.heap.size -> w'.heap[b]? = W.heap[b]?
theorem Left.kept {W w' : World} {v : Value} (h : Left W v w') (may : MemPlace -> Prop) : W.keptBut w' may := by
 refine ⟨h.2.1, h.2.2.1, fun i hi => ?_⟩
 rw [h.2.2.2 i hi]
 split <;> simp_all
theorem Qbw : Try.prog.underlying 4 = some .bool := by kernel_rfl
theorem Zl {P : Program} {fr : Frame} {w : World} {fn : Func} {v : Value} (hm : fr.mode = .returning) (hn : fr.kind = .normal) (hd : fr.defers = []) (hf : P.funcs[fr.fn]? = some fn) (hr : (results fn fr.tmps).run P w = .ok v w) (he : (results fn fr.tmps).events P w #[] = #[]) (hi : P.inits.idxOf? fr.fn = none) :
  stepG P true (G fr []) w = .ended (.done v) w #[] := by
 simp [G, stepG, unwind, doReturn, hm, hd, hn, hf, hr, he, hi, GStep.after, seen_none]
theorem Yq {f : FuncId} {fn : Func} {args : Array Value} {W : World} {Post : Value -> World -> Prop} {v : Value} {t : Tmp} (hf : Try.prog.funcs[f]? = some fn) (hres : fn.results = #[.tmp t]) (hi : Try.prog.inits.idxOf? f = none)
  (h : Runs (fun g w' => Closing f t v g /\ (OsSame W w' -> ∀ d, Post v (w'.at d))) (G (Frame.enter Try.prog f args .normal) []) W) :
  ∃ M last o w' t', runNT Try.prog (M + 1) (solo (G (Frame.enter Try.prog f args .normal) []) W) #[] = (.ended o w', t') /\ Go.runN Try.prog M (solo (G (Frame.enter Try.prog f args .normal) []) W) = .next last /\ step Try.prog last = .ended o w' /\ Go.Conc.Good Try.prog Post last o w' t' := by
 rw [solo_eq_crowd]
 have A0 := at_begin (P := Try.prog) (gs := #[G (Frame.enter Try.prog f args .normal) []]) (a := G (Frame.enter Try.prog f args .normal) []) (sl := none) (w := W) rfl (leavers_one Try.prog _) past_nil
 obtain ⟨N1, m1, T1, r1, ⟨nG, g1, w1, _, ⟨⟨fr, rfl, hm, hn, hd, hfn, hv⟩, hP⟩, A1⟩, ho⟩ := h 1 _ _ (Nat.le_refl _) A0
 obtain ⟨gs, sl, q, B, rfl, _, hg0, hL, hPast⟩ := A1.ends (fun _ => rfl)
 have hP := hP ho
 have hs : ∀ d, stepG Try.prog true (G fr []) (w1.at d) = .ended (.done v) (w1.at d) #[] := fun d =>
  Zl hm hn hd (by rw [hfn]; exact hf) (by rw [results_tmp hres, hv]) (events_results_tmp hres _ _) (by rw [hfn]; exact hi)
 have hG : Goes Try.prog true AtRel (fun _ _ es => ∀ e ∈ es, EvL (fun _ => False) B e) (AtEnd Try.prog (fun _ => False) B Post) 0 (G fr []) w1 := by
  rintro _ ⟨d, rfl⟩
  exact ⟨rfl, v, #[], hs d, by simp, hP d⟩
 obtain ⟨M8, last, o, w', t', e1, e2, e3, e4⟩ := beside_ends (P := Try.prog) (Post := Post) (sl := sl) (fun _ _ _ h => h) hg0 hL hPast hG
 refine ⟨N1 + M8, last, o, w', t', ?_, ?_, e3, e4⟩
 ·rw [Nat.add_assoc, runNT_add, r1]; exact e1
 ·rw [Go.runN_add, <- runNT_fst Try.prog _ _ #[], r1]; exact e2
end
section
open Go.Conc Go.RowKit Go.Relay Go.ChangeShapes Go.WideShapes Go.ChangeAt Go.Joins Go.Deep
theorem Nj : Try.prog.underlying 3 = some (.int .i64) := by kernel_rfl
theorem Kz : Try.prog.underlying 2 = some (.int .i64) := by kernel_rfl
theorem Qbm : laidOutB Try.prog = true := by kernel_rfl
section
variable {H : Type} {enc : TypeId × Value -> H} {W w' : World}
theorem Left.stays {r : Value} {t : TypeId} {v : Value} {d : DataW H} {ps : List MemPlace} (K : Left W r w') (hr : Try.prog.readableRec t = true) (hrow : t < Try.prog.types.size) (h : DataW.Trod enc Try.prog W 0 (fun _ => true) true t v d ps) (hlt : ∀ x ∈ ps, x.block < W.heap.size) :
  DataW.Trod enc Try.prog w' 0 (fun b => decide (b < W.heap.size)) true t v d ps :=
 WideElems.Trod_stays Qbm hr hrow h (fun x hx => by
  have hb := K.2.2.2 x.block (hlt x hx)
  cases x with
  | cell b o => exact World.cell?_of_block (w := W) (a := ⟨b, o, none⟩) hb
  | map b => exact hb) (fun x hx => by simpa using hlt x hx)
theorem Kd {w : World} {a : Addr} {v : Value} (h : w.cell? a = some v) : a = ⟨a.block, a.off, none⟩ := by
 obtain ⟨b, o, s⟩ := a
 cases s with
 | none => rfl
 | some s =>
  unfold World.cell? at h
  split at h
  ·simp at h
  ·cases h
end
section
variable {H : Type} {enc : TypeId × Value -> H} {W : World}
theorem Gi {z : Int} (h : (Lit.int .i64 z).wf = true) : IntKind.i64.wrap z = z := by
 simp [Lit.wf, IntKind.min, IntKind.max, IntKind.signed, IntKind.bits] at h
 rw [IntKind.wrap_i64]
 omega
theorem Me {t e : TypeId} {n : Nat} {v : Value} {x : DataW H × List MemPlace} (hu : Try.prog.underlying t = some (.slice e)) (he : Try.prog.underlying e = some (.int .i64)) (hc3 : Try.prog.cellsOf e = 1) (hb3 : Try.prog.bytesOf e = 8) (h : DataW.trod enc Try.prog W 0 (fun _ => true) true n t [v] = some x)
  {ts : List TypeId} {ds : List (DataW H)} {j : Nat} (hsz : (DataW.weightsEach Try.prog ts ds).all (· <= reachBytes) = true) (ht : ts[j]? = some t) (hd : ds[j]? = some x.1) :
  ∃ (a : Option Addr) (cap : Nat) (zs : List Int), v = .slice a zs.length cap /\ zs.length <= 17592186044416 /\ (∀ (i : Nat) (z : Int), zs[i]? = some z -> IntKind.i64.wrap z = z /\ ∃ s so, a = some ⟨s, so, none⟩ /\ W.cell? ⟨s, so + i, none⟩ = some (.int .i64 z)) /\ zs.length <= cap /\ (a = none /\ cap = 0 ∨ ∃ p, a = some p) := by
 rcases open_ints hu he hc3 h with ⟨e, _⟩ | ⟨a', len', cap', zs, e, _, hl, _, hzl, hx, hcell, hwf⟩
 ·have e : [v] = [.slice none 0 0] := e
  injection e with e _
  subst e
  exact ⟨none, 0, [], rfl, Nat.zero_le _, fun i z h => by simp at h, Nat.zero_le _, .inl ⟨rfl, rfl⟩⟩
 ·have e : [v] = [.slice (some a') len' cap'] := e
  injection e with e _
  subst e
  have hzl : zs.length = cap' := by simpa using hzl
  subst hx
  have hs := sized_slice hsz ht hd hu
  rw [hb3] at hs
  have hs2 : ((lits .i64 (zs.take len') : List (DataW H)).length + (lits .i64 (zs.drop len') : List (DataW H)).length) = cap' := by simp [lits]; omega
  rw [hs2] at hs
  have hr := reachBytes_lt
  have htl : (zs.take len').length = len' := by rw [List.length_take]; omega
  refine ⟨some a', cap', zs.take len', by rw [htl], by omega, fun i z hz => ?_, by omega, .inr ⟨_, rfl⟩⟩
  have hi : i < len' := by have := (List.getElem?_eq_some_iff.1 hz).1; omega
  have h0 := hcell 0 (by omega)
  have ha : a'.add 0 = a' := by simp [Addr.add]
  rw [ha] at h0
  have hform := Kd h0
  have hci := hcell i (by omega)
  rw [hform] at hci
  have hz' : zs[i]? = some z := by
   rw [List.getElem?_take, if_pos hi] at hz
   exact hz
  refine ⟨Gi (hwf z (List.mem_of_getElem? hz')), _, _, congrArg some hform, ?_⟩
  rw [Bm] at hci
  rw [hci]
  rw [List.getD_eq_getElem?_getD, hz']
  rfl
theorem Yr {a : Option Addr} {cap : Nat} {zs : List Int} (h1 : ∀ (i : Nat) (z : Int), zs[i]? = some z -> IntKind.i64.wrap z = z /\ ∃ s so, a = some ⟨s, so, none⟩ /\ W.cell? ⟨s, so + i, none⟩ = some (.int .i64 z)) (h2 : zs.length <= cap) (h3 : a = none /\ cap = 0 ∨ ∃ p, a = some p) : LsR (.slice a zs.length cap) zs W :=
 have hn : a = none -> cap = 0 := fun e => by
  rcases h3 with h | ⟨p, h⟩
  ·exact h.2
  ·rw [h] at e; cases e
 ⟨a, cap, rfl, h2, hn, fun j z hz => (h1 j z hz).2⟩
variable {base : Nat} {sp : Nat -> Bool} {held : Bool}
end
end
section
open Go.Conc Go.RowKit Go.Relay Go.ChangeShapes Go.WideShapes Go.ChangeAt Go.Joins Go.Deep
noncomputable def fldsOp : Array Field := match Try.prog.underlying 49 with | some (.struct fs) => fs | _ => #[]
theorem Qah : Try.prog.underlying 49 = some (.struct fldsOp) := by kernel_rfl
theorem Zj : ∃ f0 f1 f2 f3, fldsOp = #[f0, f1, f2, f3] /\ f0.type = 3 /\ f1.type = 2 /\ f2.type = 2 /\ f3.type = 2 := by
 have hs : fldsOp.size = 4 := by kernel_rfl
 have h0 : (fldsOp[0]?).map (·.type) = some 3 := by kernel_rfl
 have h1 : (fldsOp[1]?).map (·.type) = some 2 := by kernel_rfl
 have h2 : (fldsOp[2]?).map (·.type) = some 2 := by kernel_rfl
 have h3 : (fldsOp[3]?).map (·.type) = some 2 := by kernel_rfl
 generalize fldsOp = F at *
 obtain ⟨l⟩ := F
 match l, hs with
 | [f0, f1, f2, f3], _ => exact ⟨f0, f1, f2, f3, rfl, by simpa using h0, by simpa using h1, by simpa using h2, by simpa using h3⟩
section
variable {H : Type} {enc : TypeId × Value -> H} {W : World} {base : Nat} {sp : Nat -> Bool} {held : Bool}
theorem Qe {P : Program} {t : TypeId} {f0 f1 f2 f3 : Field} {fuel : Nat} {cs : List Value} {x : DataW H × List MemPlace} (ht : P.underlying t = some (.struct #[f0, f1, f2, f3])) (h : DataW.trod enc P W base sp held fuel t cs = some x) :
  ∃ y0 y1 y2 y3 n, x.1 = .agg [y0.1, y1.1, y2.1, y3.1] /\ cs.length = P.cellsOf t /\ DataW.trod enc P W base sp held n f0.type ((cs.drop f0.offset).take (P.cellsOf f0.type)) = some y0 /\
   DataW.trod enc P W base sp held n f1.type ((cs.drop f1.offset).take (P.cellsOf f1.type)) = some y1 /\ DataW.trod enc P W base sp held n f2.type ((cs.drop f2.offset).take (P.cellsOf f2.type)) = some y2 /\
   DataW.trod enc P W base sp held n f3.type ((cs.drop f3.offset).take (P.cellsOf f3.type)) = some y3 := by
 obtain ⟨xs, n, _, rfl, hl, hlen, hf⟩ := DataW.trod_struct ht h
 match xs, hlen with
 | [y0, y1, y2, y3], _ => exact ⟨y0, y1, y2, y3, n, rfl, hl, by simpa using hf 0 f0 rfl, by simpa using hf 1 f1 rfl, by simpa using hf 2 f2 rfl, by simpa using hf 3 f3 rfl⟩
structure ThIn (W : World) (v : Value) (a : Option Addr) (ln oc : Nat) (l : List OpV) : Prop where
 is : v = .slice a ln oc
 len : l.length = ln
 cap : ln <= oc
 ad : (a = none /\ oc = 0) ∨ ∃ p, a = some p
 ops : ∀ (k : Nat) (o : OpV), l[k]? = some o -> ∃ b off, a = some ⟨b, off, none⟩ /\ W.cell? ⟨b, off + k * 4, none⟩ = some (.int .i64 o.k) /\ W.cell? ⟨b, off + k * 4 + 1, none⟩ = some (.int .i64 o.a) /\ W.cell? ⟨b, off + k * 4 + 2, none⟩ = some (.int .i64 o.b) /\ W.cell? ⟨b, off + k * 4 + 3, none⟩ = some (.int .i64 o.c)
 wr : ∀ (k : Nat) (o : OpV), l[k]? = some o -> IntKind.i64.wrap o.k = o.k /\ IntKind.i64.wrap o.a = o.a /\ IntKind.i64.wrap o.b = o.b /\ IntKind.i64.wrap o.c = o.c
theorem Qaw {n : Nat} {v : Value} {x : DataW H × List MemPlace} (hu : Try.prog.underlying 34 = some (.slice 49)) (h : DataW.trod enc Try.prog W base (fun _ => true) held n 34 [v] = some x) :
  ∃ (q : (Option Addr × Nat × Nat) × List OpV), ThIn W v q.1.1 q.1.2.1 q.1.2.2 q.2 := by
 have hC : Try.prog.cellsOf 49 = 4 := by kernel_rfl
 obtain ⟨f0, f1, f2, f3, ef, t0, t1, t2, t3⟩ := Zj
 have hst : Try.prog.underlying 49 = some (.struct #[f0, f1, f2, f3]) := by rw [Qah, ef]
 have hone : oneCellFields Try.prog #[f0, f1, f2, f3] = true := by rw [<- ef]; kernel_rfl
 rcases open_slice hu h with ⟨e, _⟩ | ⟨a', len', cap', m, n', D, Pl, e, _, hl, _, hm, hx, hel⟩
 ·injection e with e _
  exact ⟨((none, 0, 0), []), e, rfl, Nat.le_refl _, .inl ⟨rfl, rfl⟩, fun k o h => (by simp at h), fun k o h => (by simp at h)⟩
 ·injection e with e _
  have hm : m = cap' := by simpa using hm
  have key : ∀ i, i < len' -> ∃ o : OpV, (IntKind.i64.wrap o.k = o.k /\ IntKind.i64.wrap o.a = o.a /\ IntKind.i64.wrap o.b = o.b /\ IntKind.i64.wrap o.c = o.c) /\ ∀ k v, ([.int .i64 o.k, .int .i64 o.a, .int .i64 o.b, .int .i64 o.c] : List Value)[k]? = some v -> W.cell? ((a'.add (i * 4)).add k) = some v := fun i hi => by
   obtain ⟨cs', h1, h2⟩ := hel i (by omega)
   rw [hC] at h1
   obtain ⟨_, hlen, hcell⟩ := World.cells?_some h1
   obtain ⟨y0, y1, y2, y3, k, _, _, u0, u1, u2, u3⟩ := Qe hst h2
   obtain ⟨o0, k0⟩ := hone_of hone 0 f0 rfl
   obtain ⟨o1, k1⟩ := hone_of hone 1 f1 rfl
   obtain ⟨o2, k2⟩ := hone_of hone 2 f2 rfl
   obtain ⟨o3, k3⟩ := hone_of hone 3 f3 rfl
   match cs', hlen with
   | [c0, c1, c2, c3], _ =>
    rw [o0, k0, t0] at u0
    rw [o1, k1, t1] at u1
    rw [o2, k2, t2] at u2
    rw [o3, k3, t3] at u3
    obtain ⟨z0, e0, _, q0⟩ := DataW.trod_int Nj u0
    obtain ⟨z1, e1, _, q1⟩ := DataW.trod_int Kz u1
    obtain ⟨z2, e2, _, q2⟩ := DataW.trod_int Kz u2
    obtain ⟨z3, e3, _, q3⟩ := DataW.trod_int Kz u3
    simp at e0 e1 e2 e3
    subst e0 e1 e2 e3
    refine ⟨⟨z0, z1, z2, z3⟩, ⟨Gi q0, Gi q1, Gi q2, Gi q3⟩, fun k v hv => ?_⟩
    have hk4 : k < 4 := (List.getElem?_eq_some_iff.1 hv).1
    have hc := hcell k (by simpa using hk4)
    rw [hc]
    exact hv
  have hI : Inhabited OpV := ⟨⟨0, 0, 0, 0⟩⟩
  obtain ⟨f, hf'⟩ := choose_lt (α := OpV) key
  refine ⟨((some a', len', cap'), (List.range len').map f), e, by simp, hl, .inr ⟨_, rfl⟩, fun k o hd => ?_, fun k o hd => ?_⟩
  rotate_left
  ·have hk : k < len' := by simpa using (List.getElem?_eq_some_iff.1 hd).1
   have hd : f k = o := by simpa [hk] using hd
   have hf := (hf' k hk).1
   rwa [hd] at hf
  have hk : k < len' := by simpa using (List.getElem?_eq_some_iff.1 hd).1
  have hd : f k = o := by simpa [hk] using hd
  have hf := (hf' k hk).2
  rw [hd] at hf
  have h0 := (hf' 0 (by omega)).2 0 _ rfl
  have ha : (a'.add (0 * 4)).add 0 = a' := by simp [Addr.add]
  rw [ha] at h0
  have hform := Kd h0
  have hc : ∀ (m : Nat) (v : Value), ([.int .i64 o.k, .int .i64 o.a, .int .i64 o.b, .int .i64 o.c] : List Value)[m]? = some v -> W.cell? ⟨a'.block, a'.off + k * 4 + m, none⟩ = some v := fun m v hv => by
   have := hf m v hv
   rw [hform, Bm, Bm] at this
   exact this
  exact ⟨a'.block, a'.off, congrArg some hform, hc 0 _ rfl, hc 1 _ rfl, hc 2 _ rfl, hc 3 _ rfl⟩
end
section
variable {H : Type} {enc : TypeId × Value -> H} {W : World}
theorem Qy {P : Program} {base : Nat} {sp : Nat -> Bool} {held : Bool} {t : TypeId} {args : Array Value} {ds : List (DataW H)} {ps : List MemPlace} (h : DataW.TrodAll enc P W base sp held [t] args.toList ds ps) : ∃ v d, args = #[v] /\ ds = [d] /\ DataW.Trod enc P W base sp held t v d ps := by
 obtain ⟨v, vs, d, ds1, p, q, hargs, rfl, rfl, hd, hrest⟩ := trodAll_cons h
 obtain ⟨rfl, rfl, rfl⟩ := trodAll_nil hrest
 exact ⟨v, d, by cases args; simp_all, rfl, by simpa using hd⟩
end
end
section
section
variable {H : Type} {enc : TypeId × Value -> H} {W : World} {base : Nat} {sp : Nat -> Bool} {held : Bool}
theorem Qk {t : TypeId} {n : Nat} {v : Value} {x : DataW H × List MemPlace} (hu : Try.prog.underlying t = some (.slice 34)) (hu2 : Try.prog.underlying 34 = some (.slice 49)) (h : DataW.trod enc Try.prog W 0 (fun _ => true) true n t [v] = some x) :
  ∃ (a : Option Addr) (n0 cap tb toff : Nat) (oa : Nat -> Option Addr) (ln oc : Nat -> Nat) (ops : Nat -> List OpV), v = .slice a n0 cap /\ OpsIn tb toff (min n0 64) oa ln oc ops W /\ (∀ k, k < min n0 64 -> ∀ o, o ∈ ops k -> -9223372036854775808 <= o.a) /\  (0 < n0 -> a = some ⟨tb, toff, none⟩) /\ (a = none /\ cap = 0 ∨ ∃ p, a = some p) /\ n0 <= cap := by
 have hC : Try.prog.cellsOf 34 = 1 := by kernel_rfl
 rcases open_slice1 hu hC h with ⟨e, _⟩ | ⟨a', len, cap, m, n', V, D, Pl, e, _, hl, _, hm, hx, hel⟩
 ·have e : [v] = [.slice none 0 0] := e
  injection e with e _
  subst e
  exact ⟨none, 0, 0, 0, 0, fun _ => none, fun _ => 0, fun _ => 0, fun _ => [], rfl, ⟨fun i h => absurd h (by omega), fun i h => absurd h (by omega), fun i h => absurd h (by omega), fun i h => absurd h (by omega), fun i h => absurd h (by omega)⟩, fun i h => absurd h (by omega), fun h => absurd h (Nat.lt_irrefl _), .inl ⟨rfl, rfl⟩, Nat.le_refl _⟩
 ·have e : [v] = [.slice (some a') len cap] := e
  injection e with e _
  subst e
  have hm : m = cap := by simpa using hm
  have key : ∀ i, i < len -> ∃ q : (Option Addr × Nat × Nat) × List OpV, ThIn W (V i) q.1.1 q.1.2.1 q.1.2.2 q.2 := fun i hi => Qaw hu2 (hel i (by omega)).2
  have hI : Inhabited ((Option Addr × Nat × Nat) × List OpV) := ⟨((none, 0, 0), [])⟩
  obtain ⟨f, hf'⟩ := choose_lt (α := (Option Addr × Nat × Nat) × List OpV) key
  have hform : 0 < len -> a' = ⟨a'.block, a'.off, none⟩ := fun h => by
   have h0 := (hel 0 (by omega)).1
   have ha : a'.add 0 = a' := by simp [Addr.add]
   rw [ha] at h0
   exact Kd h0
  refine ⟨some a', len, cap, a'.block, a'.off, fun i => (f i).1.1, fun i => (f i).1.2.1, fun i => (f i).1.2.2, fun i => (f i).2.take 65536, rfl, ⟨fun i hi => ?_, fun i hi => (hf' i (by omega)).cap, fun i hi => (hf' i (by omega)).ad, fun i hi => ?_, fun i hi j o ho => ?_⟩, fun i hi o ho => ?_, fun h => congrArg some (hform h), .inr ⟨_, rfl⟩, hl⟩
  ·have hci := (hel i (by omega)).1
   rw [(hf' i (by omega)).is, hform (by omega), Bm] at hci
   exact hci
  ·rw [List.length_take, (hf' i (by omega)).len]
   omega
  ·refine (hf' i (by omega)).ops j o ?_
   rw [List.getElem?_take] at ho
   split at ho
   ·exact ho
   ·cases ho
  ·obtain ⟨j, hj⟩ := List.mem_iff_getElem?.1 (List.mem_of_mem_take ho)
   have := ((hf' i (by omega)).wr j o hj).2.1
   rw [IntKind.wrap_i64] at this
   omega
end
noncomputable def fldsSc : Array Field := match Try.prog.underlying 26 with | some (.struct fs) => fs | _ => #[]
theorem Qag : Try.prog.underlying 26 = some (.struct fldsSc) := by kernel_rfl
theorem Zi : ∃ f0 f1 f2 f3, fldsSc = #[f0, f1, f2, f3] /\ f0.type = 22 /\ f1.type = 23 /\ f2.type = 24 /\ f3.type = 3 := by
 have hs : fldsSc.size = 4 := by kernel_rfl
 have h0 : (fldsSc[0]?).map (·.type) = some 22 := by kernel_rfl
 have h1 : (fldsSc[1]?).map (·.type) = some 23 := by kernel_rfl
 have h2 : (fldsSc[2]?).map (·.type) = some 24 := by kernel_rfl
 have h3 : (fldsSc[3]?).map (·.type) = some 3 := by kernel_rfl
 generalize fldsSc = F at *
 obtain ⟨l⟩ := F
 match l, hs with
 | [f0, f1, f2, f3], _ => exact ⟨f0, f1, f2, f3, rfl, by simpa using h0, by simpa using h1, by simpa using h2, by simpa using h3⟩
section
variable {H : Type} {enc : TypeId × Value -> H} {W : World}
theorem Zg {base : Nat} {v : Value} {d : DataW H} {ps : List MemPlace} (hval : Value.okWide Try.prog W .any base 26 v) (h : DataW.Trod enc Try.prog W 0 (fun _ => true) true 26 v d ps) {ts : List TypeId} {ds : List (DataW H)} {j : Nat} (hsz : (DataW.weightsEach Try.prog ts ds).all (· <= reachBytes) = true) (ht : ts[j]? = some 26) (hd : ds[j]? = some d) :
  ∃ (xa : Option Addr) (xc : Nat) (xs : List Int) (ta : Option Addr) (n0 tc tb toff : Nat) (oa : Nat -> Option Addr) (ln oc : Nat -> Nat) (ops : Nat -> List OpV) (sa : Option Addr) (sc : Nat) (sl : List Int) (mo : Int), v = .agg #[.slice xa xs.length xc, .slice ta n0 tc, .slice sa sl.length sc, .int .i64 mo] /\
   xs.length <= 17592186044416 /\ (∀ (i : Nat) (z : Int), xs[i]? = some z -> ∃ s so, xa = some ⟨s, so, none⟩ /\ W.cell? ⟨s, so + i, none⟩ = some (.int .i64 z)) /\ LsR (.slice xa xs.length xc) xs W /\ OpsIn tb toff (min n0 64) oa ln oc ops W /\ (∀ k, k < min n0 64 -> ∀ o, o ∈ ops k -> -9223372036854775808 <= o.a) /\  (0 < n0 -> ta = some ⟨tb, toff, none⟩) /\ (ta = none /\ tc = 0 ∨ ∃ p, ta = some p) /\ n0 <= tc /\ sl.length <= 17592186044416 /\ ∀ (i : Nat) (z : Int), sl[i]? = some z -> ∃ s so, sa = some ⟨s, so, none⟩ /\ W.cell? ⟨s, so + i, none⟩ = some (.int .i64 z) := by
 obtain ⟨f0, f1, f2, f3, ef, t0, t1, t2, t3⟩ := Zi
 have hst : Try.prog.underlying 26 = some (.struct #[f0, f1, f2, f3]) := by rw [Qag, ef]
 have hone : oneCellFields Try.prog #[f0, f1, f2, f3] = true := by rw [<- ef]; kernel_rfl
 have hC : Try.prog.cellsOf 26 = 4 := by kernel_rfl
 obtain ⟨cs, rfl, hcs⟩ := okWide_struct hst hval
 rw [hC] at hcs
 obtain ⟨fuel, hf⟩ := h
 have hf : DataW.trod enc Try.prog W 0 (fun _ => true) true fuel 26 cs.toList = some (d, ps) := hf
 obtain ⟨y0, y1, y2, y3, n, hag, _, u0, u1, u2, u3⟩ := Qe hst hf
 obtain ⟨o0, k0⟩ := hone_of hone 0 f0 rfl
 obtain ⟨o1, k1⟩ := hone_of hone 1 f1 rfl
 obtain ⟨o2, k2⟩ := hone_of hone 2 f2 rfl
 obtain ⟨o3, k3⟩ := hone_of hone 3 f3 rfl
 have hag : d = .agg [y0.1, y1.1, y2.1, y3.1] := hag
 subst hag
 have hsz2 : (DataW.weightsEach Try.prog [22, 23, 24, 3] [y0.1, y1.1, y2.1, y3.1]).all (· <= reachBytes) = true := by
  rw [List.all_eq_true] at hsz ⊢
  intro m hm
  refine hsz m (DataW.weights_mem_each ht hd m ?_)
  rw [DataW.weights, hst]
  simp only [List.map_cons, List.map_nil, t0, t1, t2, t3]
  exact hm
 obtain ⟨cl⟩ := cs
 match cl, hcs with
 | [c0, c1, c2, c3], _ =>
  rw [o0, k0, t0] at u0
  rw [o1, k1, t1] at u1
  rw [o2, k2, t2] at u2
  rw [o3, k3, t3] at u3
  have u0 : DataW.trod enc Try.prog W 0 (fun _ => true) true n 22 [c0] = some y0 := u0
  have u1 : DataW.trod enc Try.prog W 0 (fun _ => true) true n 23 [c1] = some y1 := u1
  have u2 : DataW.trod enc Try.prog W 0 (fun _ => true) true n 24 [c2] = some y2 := u2
  have u3 : DataW.trod enc Try.prog W 0 (fun _ => true) true n 3 [c3] = some y3 := u3
  obtain ⟨xa, xc, xs, rfl, g1, g2, g3, g4⟩ := Me (e := 2) (by kernel_rfl) Kz (by kernel_rfl) (by kernel_rfl) u0 (j := 0) hsz2 rfl rfl
  obtain ⟨ta, n0, tc, tb, toff, oa, ln, oc, ops, rfl, g5, gw, g6, g7, g8⟩ := Qk (by kernel_rfl) (by kernel_rfl) u1
  obtain ⟨sa, sc, sl, rfl, g9, g10, g11, g12⟩ := Me (e := 3) (by kernel_rfl) Nj (by kernel_rfl) (by kernel_rfl) u2 (j := 2) hsz2 rfl rfl
  obtain ⟨z, e, _, _⟩ := DataW.trod_int Nj u3
  simp at e
  subst e
  exact ⟨xa, xc, xs, ta, n0, tc, tb, toff, oa, ln, oc, ops, sa, sc, sl, z, rfl, g1, (fun i z hz => (g2 i z hz).2), Yr g2 g3 g4, g5, gw, g6, g7, g8, g9, fun i z hz => (g10 i z hz).2⟩
end
end
section
theorem Qf (os : Os) (started : os.Started) (H : Type) (enc : TypeId × Value -> H) :
  ReturnsInLeavingWide {} Try.checked os 3 .any (Rows.slotsPlaysSpec.pre6 enc Try.prog Try.f3 Rows.slotsPlaysRow.domain false) (Rows.slotsPlaysSpec.post enc Try.prog Try.f3 false true false false) := by
 refine returnsInLeavingWide_of_change_sized (C := Try.checked) Qau started Try.func3
  (ChangeSpec.witness6 (enc := enc) (C := Try.checked) false ⟨#[], #[.agg #[.slice none 0 0, .slice none 0 0, .slice none 0 0, .int .i64 0]], []⟩ 8 (by kernel_rfl) (by kernel_rfl) (by kernel_rfl) (by kernel_rfl)) ?_
 intro W base args ds gs before hval0 hW _ hsz0 _
 have hval : ∀ (j : Nat) t v, Try.f3.params[j]? = some t -> args[j]? = some v -> Value.okWide Try.prog W .any base t v := hval0
 have hW' := hW
 obtain ⟨p, q, hA0, hV, rfl, _, _⟩ := hW
 have hA : DataW.TrodAll enc Try.prog W 0 (fun _ => true) true Try.f3.params.toList args.toList ds p := hA0
 rw [Try.params3] at hA hval
 have hsz : (DataW.weightsEach Try.prog (Try.f3.params.toList ++ Rows.slotsPlaysSpec.plain.varTypes Try.prog) (ds ++ gs)).all (· <= reachBytes) = true := hsz0
 rw [Try.params3] at hsz
 obtain ⟨v0, d0, rfl, rfl, h0⟩ := Qy hA
 obtain ⟨rfl, rfl⟩ := trodVars_none hV
 have hlt := hW'.lt
 obtain ⟨xa, xc, xs, ta, n0, tc, tb, toff, oa, ln, oc, ops, sa, sc, sl, mo, rfl, g1, g2, g3, g5, gw, g6, g7, g8, g9, g10⟩ := Zg (hval 0 26 v0 rfl rfl) h0 (j := 0) hsz rfl rfl
 clear hA0 hval0 hsz0 hsz
 simp only [List.append_nil] at hW' hlt
 obtain ⟨M, last, o, w', t', r1, r2, r3, r4⟩ := Yq (Post := Left W) (t := 2) Try.func3 rfl (by kernel_rfl) (Runs.then (Qbx xa xs xc g1 mo ta n0 tc tb toff oa ln oc ops sa sc sl W g3 gw g5 g6 g7 g8 g9 g10) fun g w' ⟨hC, hO⟩ => .now ⟨hC, fun ho d => ⟨rfl, ho.1, ho.2, hO⟩⟩)
 refine ⟨M, last, o, w', t', r1, r2, r3, r4.mono fun v hF => ?_⟩
 have hk : Left W (.bool true) w' := ⟨rfl, hF.2⟩
 obtain rfl : v = .bool true := hF.1
 exact ⟨_, _, _, [], _, [], hW', trodAll_mk1 (shut_bool Qbw true), trodAll_mk1 (hk.stays (by kernel_rfl) (of_decide_eq_true (by kernel_rfl)) h0 fun x hx => hlt x (by simp [hx])), rfl, hk.kept _, fun h => by cases h⟩
theorem slotsPlays_holds : Rows.SlotsPlaysSaid :=
 OpenClaim.holds_of_wide_leaving 3 Try.f3 rfl rfl rfl rfl rfl rfl rfl ⟨rfl, rfl, rfl, rfl, rfl⟩ rfl rfl rfl rfl rfl (by kernel_rfl) Try.func3 (by kernel_rfl)
  (of_decide_eq_true (by kernel_rfl)) (by unfold Func.isWrapper; first | (rw [if_pos (by decide +kernel)]; kernel_rfl) | (rw [if_neg (by decide +kernel)]; exact ⟨rfl, rfl⟩))
  (fun os started H enc _ => Qf os started H enc)
end
end Go.Proofs.Ytcdcnmphjhfbpaa
