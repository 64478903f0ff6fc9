/-
For all sizes and all lists of operations: SlotsCalls returns true on every schedule of the goroutines, without a data race, and what was there stands. Conditions: none beyond the statement's own.
-/
import Derived.Test.YtflcclneedldoaaJ14
import Derived.Test.YtflcclneedldoaaJ15
import Derived.Test.YtflcclneedldoaaJ27
import Derived.Test.YtflcclneedldoaaJ28
import Derived.Test.YtflcclneedldoaaJ29
import Derived.Test.YtflcclneedldoaaJ31
import Derived.Test.YtflcclneedldoaaRows
import Derived.Conc.LeavingOf
import Derived.Lib.SmallJoins
import Derived.Handy
import Derived.SizedLaws
import Derived.Carry
import Derived.Deep.Slices
import Derived.Deep.Fields
set_option linter.unusedSimpArgs false
set_option linter.unusedVariables false
set_option maxHeartbeats 8000000
set_option maxRecDepth 100000
namespace Go.Proofs.Ytflcclneedldoaa
open Go.Conc Go.RowKit Go.Relay Go.Proofs.Try
open Go.ConcN (upd upd_ne upd_same)
theorem sc_no (sz : Int) (hok : ¬ Qw sz) (ov : Value) (w : World) : Walk prog true (DR (fun _ => none)) (fun g w' => ∃ fr, g = G (Frame.enter prog 13 #[] .normal) [fr] /\ (∃ d, w' = w.at d) /\ ∀ w1, Walk prog true (DR (fun _ => none)) (fun g w' => Closing 3 4 (.bool true) g /\ ∃ d, w' = w1.at d) (G (fr.finish (.bool true)) []) w1)
  (G (Frame.enter prog 3 #[.int .i64 sz, ov] .normal) []) w := by
 have hn := fun w => new_no (main := true) (V := fun _ => none) sz hok w
 have hr := fun w => Mp (main := true) (V := fun _ => none) sz w
 have hp : Kg sz = false := by rw [Mr]; exact decide_eq_false hok
 rw [hp] at hr
 have hp1 := fun w => Ce (P := prog) 24 Dr none w
 have hp2 := fun w es => Cp (P := prog) 24 Dr none w es
 simp only [Option.isNone_none] at hp1
 clear hp
 rw [enter_at _ func3 code3_is]
 simp only [ntmps3, ez, Nat.reduceAdd, Nat.reduceSub]
 refine Aa z3 ?_
 refine Walk.callE Ah (by rfl) (by decide) rfl func13 (by kernel_rfl) (by rfl) ?_
 walk_nrm
 refine .stop fun d => ⟨_, rfl, ⟨d, rfl⟩, ?_⟩
 intro w1
 refine Walk.finish Ah ?_
 walk_nrm
 refine Aa z3 ?_
 refine qV (x := .tuple #[.pointer none, .int .i64 1]) (W := w1) func14 ?_ ?_
 ·walk_nrm
  exact hn w1
 walk_nrm
 refine Aa z3 ?_
 refine qV (x := .tuple #[.pointer none, .int .i64 1]) (W := w1) func14 ?_ ?_
 ·walk_nrm
  exact hn w1
 walk_nrm
 refine Aa z3 ?_
 refine qV (x := .bool false) (W := w1) func15 ?_ ?_
 ·walk_nrm
  exact hr w1
 walk_nrm
 refine Aa z3 ?_
 exact .stop fun d => ⟨⟨_, rfl, rfl, rfl, rfl, rfl, rfl⟩, d, rfl⟩
theorem sc_in (n sn : Nat) (hok : Qw (n : Int)) (ov : Value) (w : World) : Walk prog true (DR (fun _ => none)) (fun g w' => ∃ fr, g = G (Frame.enter prog 13 #[] .normal) [fr] /\ (∃ d, w' = w.at d) /\ ∀ w1 (oa : Option Addr) (n0 tc : Nat) (Y : World -> Array Value -> World -> Prop), ov = .slice oa n0 tc ->
   (∀ (w2 : World) (X T : Nat), (∀ b, b < w1.heap.size -> w2.heap[b]? = w1.heap[b]?) -> w1.heap.size <= w2.heap.size -> w2.heap[X]? = some (.cells #[.int .i64 n] 2) -> w2.heap[T]? = some (.cells #[ov] 22) -> CallW prog true (fun _ => none) 16 #[.slice (some ⟨X, 0, none⟩) 1 1, .slice (some ⟨T, 0, none⟩) 1 1, .slice none 0 0, .int .i64 1048576] w2 (fun v w' => ∃ x0 x1 za zc x3, v = .agg #[x0, x1, .slice za sn zc, .bool x3] /\ (#[x0, x1, .slice za sn zc, .bool x3] : Array Value).all (·.oneCell') = true /\ Y w2 #[x0, x1, .slice za sn zc, .bool x3] w' /\ (∀ b, b < w2.heap.size -> w'.heap[b]? = w2.heap[b]?) /\ w2.heap.size <= w'.heap.size)) ->
   Walk prog true (DR (fun _ => none)) (fun g w' => ∃ x0 x1 za zc x3 w2 w3 Q, Y w2 #[x0, x1, .slice za sn zc, .bool x3] w3 /\ Q = w3.heap.size /\ (∀ b, b < w1.heap.size -> w'.heap[b]? = w1.heap[b]?) /\ w1.heap.size <= w2.heap.size /\ w2.heap.size <= Q /\ w'.heap[Q]? = some (.cells #[x0, x1, .slice za sn zc, .bool x3] 33) /\ (∀ b, b < Q -> w'.heap[b]? = w3.heap[b]?) /\
    ((x3 = true /\ Closing 3 4 (.bool true) g) ∨ (x3 = false /\ ∃ kb ks lb ls p, (∃ u, g = G (Jg ov Q kb lb p n 0 u) []) /\ w1.heap.size <= ks /\ ks < kb /\ kb < ls /\ ls < lb /\ lb < w2.heap.size /\ Q < p /\ CalQ kb ks lb ls n p (Ho n) 0 w' w'))) (G (fr.finish (.bool true)) []) w1)
  (G (Frame.enter prog 3 #[.int .i64 n, ov] .normal) []) w := by
 have hA : ∀ b, Az (fun _ => none) b := Ov
 have hn := fun w => new_w (main := true) (V := fun _ => none) (n : Int) hok w fun b _ => hA b
 have htn : (n : Int).toNat = n := by simp
 rw [htn] at hn
 have hr := fun w => Mp (main := true) (V := fun _ => none) (n : Int) w
 have hp : Kg (n : Int) = true := by rw [Mr]; exact decide_eq_true hok
 rw [hp] at hr
 clear hp htn
 rw [enter_at _ func3 code3_is]
 simp only [ntmps3, ez, Nat.reduceAdd, Nat.reduceSub]
 refine Aa z3 ?_
 refine Walk.callE Ah (by rfl) (by decide) rfl func13 (by kernel_rfl) (by rfl) ?_
 walk_nrm
 refine .stop fun d => ⟨_, rfl, ⟨d, rfl⟩, ?_⟩
 rintro w1 oa n0 tc Y rfl hPlay
 refine Walk.finish Ah ?_
 walk_nrm
 refine Aa z3 ?_
 refine qW (Post := fun v w' => v = .tuple #[.pointer (some ⟨w1.heap.size + 1, 0, none⟩), .int .i64 0] /\ NwR w1 (w1.heap.size + 1) w1.heap.size n n w') func14 ?_ ?_
 ·walk_nrm
  exact hn w1
 rintro v wa ⟨rfl, Na⟩
 have Ia := Na.I
 have Oa := Na.old
 have ga := Ia.lt
 clear Na
 generalize hks : w1.heap.size = ks at *
 generalize hkb : ks + 1 = kb at *
 walk_nrm
 refine Aa z3 ?_
 refine qW (Post := fun v w' => v = .tuple #[.pointer (some ⟨wa.heap.size + 1, 0, none⟩), .int .i64 0] /\ NwR wa (wa.heap.size + 1) wa.heap.size n n w') func14 ?_ ?_
 ·walk_nrm
  exact hn wa
 rintro v wb ⟨rfl, Nb⟩
 have Ib := Nb.I
 have Ob := Nb.old
 have gb := Ib.lt
 clear Nb hn
 generalize hls : wa.heap.size = ls at *
 generalize hlb : ls + 1 = lb at *
 have Ia2 : RgI kb ks n (Ho n) wb := Ia.old (Ob kb ga.1) (Ob ks ga.2)
 have O2 : ∀ b, b < ks -> wb.heap[b]? = w1.heap[b]? := fun b hb => (Ob b (by omega)).trans (Oa b hb)
 clear Ia Oa Ob
 walk_nrm
 refine Aa z3 ?_
 refine qV (x := .bool true) (W := wb) func15 ?_ ?_
 ·walk_nrm
  exact hr wb
 walk_nrm
 clear hr
 refine Aa z3 ?_
 (refine Wa ?_; try walk_nrm)
 have s3 : (wb.alloc (.cells #[.int .i64 n] 2)).heap.size = wb.heap.size + 1 := by simp
 have o3 : ∀ b, b < wb.heap.size -> (wb.alloc (.cells #[.int .i64 n] 2)).heap[b]? = wb.heap[b]? := fun b hb => Ad _ _ hb
 have d3 := hAw wb (.cells #[.int .i64 n] 2)
 generalize hX : wb.heap.size = X at *
 generalize wb.alloc (.cells #[.int .i64 n] 2) = wc at *
 repeat (first | (refine Wq ?_; try walk_nrm) | (refine Bh ?_; walk_nrm))
 (refine Wa ?_; try walk_nrm)
 have s4 : (wc.alloc (.cells #[.slice oa n0 tc] 22)).heap.size = X + 2 := by simp [s3]
 have o4 : ∀ b, b < X + 1 -> (wc.alloc (.cells #[.slice oa n0 tc] 22)).heap[b]? = wc.heap[b]? := fun b hb => Ad _ _ (by omega)
 have d4 : (wc.alloc (.cells #[.slice oa n0 tc] 22)).heap[X + 1]? = some (.cells #[.slice oa n0 tc] 22) := s3 ▸ hAw wc (.cells #[.slice oa n0 tc] 22)
 try simp only [s3]
 generalize wc.alloc (.cells #[.slice oa n0 tc] 22) = w2 at *
 have o24 : ∀ b, b < X -> w2.heap[b]? = wb.heap[b]? := fun b hb => (o4 b (by omega)).trans (o3 b hb)
 have hP := hPlay w2 X (X + 1) (fun b hb => (o24 b (by omega)).trans (O2 b hb)) (by omega) ((o4 X (by omega)).trans d3) d4
 clear hPlay d3 d4 s3 o3 o4
 repeat (first | (refine Wq ?_; try walk_nrm) | (refine Bh ?_; walk_nrm))
 refine qW (Post := fun v w' => ∃ x0 x1 za zc x3, v = .agg #[x0, x1, .slice za sn zc, .bool x3] /\ (#[x0, x1, .slice za sn zc, .bool x3] : Array Value).all (·.oneCell') = true /\ Y w2 #[x0, x1, .slice za sn zc, .bool x3] w' /\ (∀ b, b < w2.heap.size -> w'.heap[b]? = w2.heap[b]?) /\ w2.heap.size <= w'.heap.size) func16 ?_ ?_
 ·walk_nrm
  exact hP
 rintro v w3 ⟨y0, y1, za, zc, y3, rfl, hone, hY, hO3, hZ3⟩
 clear hP
 walk_nrm
 repeat (first | (refine Wq ?_; try walk_nrm) | (refine Bh ?_; walk_nrm))
 (refine Wa ?_; try walk_nrm)
 have e4 : w3.alloc (.cells #[.slice none 0 0, .slice none 0 0, .slice none 0 0, .bool false] 33) = w3.alloc Fl := rfl
 try rw [e4]
 clear e4
 have s5 : (w3.alloc Fl).heap.size = w3.heap.size + 1 := by simp
 have o5 : ∀ b, b < w3.heap.size -> (w3.alloc Fl).heap[b]? = w3.heap[b]? := fun b hb => Ad _ _ hb
 have d5 := hAw w3 Fl
 generalize hQ : w3.heap.size = Q at *
 generalize w3.alloc Fl = w5 at *
 unfold Fl at d5
 repeat (first | (refine Wq ?_; try walk_nrm) | (refine Bh ?_; walk_nrm))
 refine Am 33 (.tmp 9) (.tmp 49) Ah (by rfl) (by decide) rfl Q #[y0, y1, .slice za sn zc, .bool y3] _ 33 rfl rfl d5 (by kernel_rfl) (by rfl) hone (Ov _) ?_
 have d6 := Ba (cells := #[y0, y1, .slice za sn zc, .bool y3]) d5
 have o6 : ∀ b, b < Q -> (w5.setRow Q #[y0, y1, .slice za sn zc, .bool y3]).heap[b]? = w3.heap[b]? := fun b hb => (Ap _ _ (by omega)).trans (o5 b hb)
 have s6 := (Ay w5 Q #[y0, y1, .slice za sn zc, .bool y3]).trans s5
 clear d5 o5 s5
 generalize w5.setRow Q #[y0, y1, .slice za sn zc, .bool y3] = w6 at *
 have s6a : Q < w6.heap.size := by omega
 clear s6
 walk_nrm
 refine Aa z3 ?_
 (refine Wa ?_; try walk_nrm)
 have s7 : (w6.alloc (.cells #[.int .i64 0] 38)).heap.size = w6.heap.size + 1 := by simp
 have o7 : ∀ b, b < w6.heap.size -> (w6.alloc (.cells #[.int .i64 0] 38)).heap[b]? = w6.heap[b]? := fun b hb => Ad _ _ hb
 have d7 := hAw w6 (.cells #[.int .i64 0] 38)
 generalize hp : w6.heap.size = p at *
 generalize w6.alloc (.cells #[.int .i64 0] 38) = w7 at *
 have lowQ : ∀ b, b < Q -> w7.heap[b]? = w3.heap[b]? := fun b hb => (o7 b (by omega)).trans (o6 b hb)
 have low2 : ∀ b, b < X -> w7.heap[b]? = wb.heap[b]? := fun b hb => (lowQ b (by omega)).trans ((hO3 b (by omega)).trans (o24 b hb))
 have dQ : w7.heap[Q]? = some (.cells #[y0, y1, .slice za sn zc, .bool y3] 33) := (o7 Q (by omega)).trans d6
 have Ik : RgI kb ks n (Ho n) w7 := Ia2.old (low2 kb (by omega)) (low2 ks (by omega))
 have Il : RgI lb ls n (Ho n) w7 := Ib.old (low2 lb (by omega)) (low2 ls (by omega))
 have c3 : w7.cell? ⟨Q, 3, none⟩ = some (.bool y3) := (Ab dQ 3).trans rfl
 have hp1 := fun w => Ce (P := prog) 24 Dr (some ⟨kb, 0, none⟩) w
 have hp2 := fun w es => Cp (P := prog) 24 Dr (some ⟨kb, 0, none⟩) w es
 have hp3 := fun w => Ce (P := prog) 24 Dr (some ⟨lb, 0, none⟩) w
 have hp4 := fun w es => Cp (P := prog) 24 Dr (some ⟨lb, 0, none⟩) w es
 simp only [Option.isNone_some] at hp1 hp3
 have hsz := Gw (main := true) (V := fun _ => none) w7 Ik
 have hbn : ((n : Int) != n) = false := by simp
 have low1 : ∀ b, b < ks -> w7.heap[b]? = w1.heap[b]? := fun b hb => (low2 b (by omega)).trans (O2 b hb)
 have hcal : ∀ d, CalQ kb ks lb ls n p (Ho n) 0 (w7.at d) (w7.at d) := fun d => ⟨Ik.old rfl rfl, Il.old rfl rfl, d7, fun _ _ _ => rfl, Nat.le_refl _⟩
 have hord : ks <= w2.heap.size /\ w2.heap.size <= Q /\ ks < kb /\ kb < ls /\ ls < lb /\ lb < w2.heap.size /\ Q < p := ⟨by omega, by omega, by omega, by omega, by omega, by omega, by omega⟩
 clear low2 o24 O2 Ia2 Ib Ik Il o6 o7 d6 d7 hO3 hone
 try walk_nrm
 refine Aa z3 ?_
 refine qV (x := .int .i64 (n : Nat)) (W := w7) func17 ?_ ?_
 ·walk_nrm
  exact hsz
 walk_nrm
 clear hsz
 cases y3 with
 | true =>
  refine Aa z3 ?_
  exact .stop fun d => ⟨y0, y1, za, zc, true, w2, w3, Q, hY, hQ.symm, fun b hb => low1 b (by omega), by omega, hord.2.1, dQ, lowQ, .inl ⟨rfl, ⟨_, rfl, rfl, rfl, rfl, rfl, rfl⟩⟩⟩
 | false =>
  refine Aa z3 ?_
  refine cLp ?_
  refine .stop fun d => ⟨y0, y1, za, zc, false, w2, w3, Q, hY, hQ.symm, fun b hb => low1 b (by omega), by omega, hord.2.1, dQ, lowQ, .inr ⟨rfl, kb, ks, lb, ls, p, Ak ?_, by omega, hord.2.2.1, hord.2.2.2.1, hord.2.2.2.2.1, hord.2.2.2.2.2.1, hord.2.2.2.2.2.2, hcal d⟩⟩
  simp only [Jg]
  rfl
def RPf (n : Nat) (L : La) (stx : L.Sg -> List Int) (W : World) (F : OX L × List Nat) (v : Value) (w' : World) : Prop := ∃ cells, v = .agg cells /\ (∀ w'' : World, (∀ b, W.heap.size <= b -> b < w'.heap.size -> w''.heap[b]? = w'.heap[b]?) -> TrA cells n (fun i => (F.1.th i).ans) F.2 (stx F.1.s) (Du n F.1) w'') /\ Chg (fun _ => False) W w' /\ (∀ i, i < n -> (F.1.th i).ans.length <= 65536) /\ CapS cells
def dkW (S : Nat) (w : World) : World := { w with heap := w.heap.mapIdx fun i o => if i < S then .cells #[] 0 else o }
theorem dkW_new {S b : Nat} {w : World} (h : S <= b) : (dkW S w).heap[b]? = w.heap[b]? := by
 unfold dkW
 simp only [Array.getElem?_mapIdx]
 cases w.heap[b]? with
 | none => rfl
 | some o => simp; omega
theorem dkW_cell {S x y : Nat} {w : World} {v : Value} (h : (dkW S w).cell? ⟨x, y, none⟩ = some v) : S <= x /\ x < w.heap.size /\ w.cell? ⟨x, y, none⟩ = some v := by
 by_cases hx : S <= x
 ·have h2 := (cBk (a := ⟨x, y, none⟩) (dkW_new (w := w) hx)).symm.trans h
  exact ⟨hx, Al h2, h2⟩
 ·exfalso
  have hl := Al h
  have hs : (dkW S w).heap.size = w.heap.size := by simp [dkW]
  have e : (dkW S w).heap[x]? = some (.cells #[] 0) := by
   unfold dkW
   simp only [Array.getElem?_mapIdx]
   rw [Array.getElem?_eq_getElem (by omega)]
   simp
   omega
  rw [Ab e] at h
  simp at h
section
variable {main : Bool}
theorem rplay_far (xa : Option Addr) (xs : List Int) (xc : Nat) (hxn : xs.length <= 17592186044416) (b off n0 tcc N : Nat) (hN : N = min n0 64) (va : Option Addr) (hv : 0 < N -> va = some ⟨b, off, none⟩) (oa : Nat -> Option Addr) (ln oc : Nat -> Nat) (ops : Nat -> List OpV) (sa : Option Addr) (sc : Nat) (sl : List Int) (most : Int) (W : World) (hx : LsR (.slice xa xs.length xc) xs W) (O : OpsIn b off N oa ln oc ops W) (hwr : ∀ k, k < N -> ∀ o, o ∈ ops k -> -9223372036854775808 <= o.a)
  (hsl : sl.length <= 17592186044416) (hs : ∀ (j : Nat) (z : Int), sl[j]? = some z -> ∃ s so, sa = some ⟨s, so, none⟩ /\ W.cell? ⟨s, so + j, none⟩ = some (.int .i64 z)) :
  CallW prog main (fun _ => none) 16 #[.slice xa xs.length xc, .slice va n0 tcc, .slice sa sl.length sc, .int .i64 most] W (RPf N (Cr (szZ xs)) (It (szZ xs)) W (Ca (Cr (szZ xs)) (r0Z xs) ops N most sl)) := by
 have hm : szZ xs <= 65536 := by
  by_cases h : Qx xs
  ·rw [Mm h]
   obtain ⟨x, l, rfl, h1, h2⟩ := h
   show (max x 0).toNat <= _
   omega
  ·rw [szZ_no h]
   omega
 intro c cs
 have hO1 : ∀ b, b < W.heap.size -> (W.alloc Fl).heap[b]? = W.heap[b]? := fun b hb => Ad _ _ hb
 have hsz : (W.alloc Fl).heap.size = W.heap.size + 1 := by simp
 have hs1 : ∀ (j : Nat) (z : Int), sl[j]? = some z -> ∃ s so, sa = some ⟨s, so, none⟩ /\ (W.alloc Fl).cell? ⟨s, so + j, none⟩ = some (.int .i64 z) := fun j z hz => by
  obtain ⟨s, so, e, hc⟩ := hs j z hz
  exact ⟨s, so, e, Aj _ _ hc⟩
 have hnew := rnew_w (main := main) xa xs xc hxn (fun _ => R11.new none 0 0 0 []) (W.alloc Fl) (hx.same hO1)
 have hz : (W.alloc Fl).heap[W.heap.size]? = some Fl := hAw _ _
 obtain ⟨m, hme⟩ : ∃ m, szZ xs = m := ⟨_, rfl⟩
 obtain ⟨r0, hre⟩ : ∃ r0, r0Z xs = r0 := ⟨_, rfl⟩
 unfold NewR at hnew
 rw [hme, hre] at hnew ⊢
 rw [hme] at hm
 refine (rplay_in (main := main) xa xs xc (.slice va n0 tcc) (.slice sa sl.length sc) most (fun M w1 w' => ∃ cb, (m = 0 -> cb.sc = 0 /\ cb.vc = 0) /\ M11 M M cb 0 0 0 m none r0 (fun _ => R11.new none 0 0 0 []) w' /\ Chg (fun _ => False) w1 w') cs c W
  (fun cells w' => (∀ w'' : World, (∀ b, W.heap.size + 1 <= b -> b < w'.heap.size -> w''.heap[b]? = w'.heap[b]?) -> TrA cells N (fun i => ((Ca (Cr m) r0 ops N most sl).1.th i).ans) (Ca (Cr m) r0 ops N most sl).2 (It m (Ca (Cr m) r0 ops N most sl).1.s) (Du N (Ca (Cr m) r0 ops N most sl).1) w'') /\ (∀ b, b < W.heap.size -> w'.heap[b]? = W.heap[b]?) /\ W.heap.size <= w'.heap.size /\ (∀ i, i < N -> ((Ca (Cr m) r0 ops N most sl).1.th i).ans.length <= 65536) /\ CapS cells) ?_ ?_).mono ?_
 ·rintro w1 rfl c' cs'
  refine (hnew c' cs').mono ?_
  rintro g w' ⟨v, ⟨rfl, cb, hz, I, hC⟩, hg⟩
  exact ⟨_, ⟨rfl, cb, hz, I, hC⟩, hg⟩
 ·rintro w1 w2 rfl ⟨cb, hz0, I, hC⟩ c' cs'
  have hC2 := hC.size
  have hold : ∀ b, b < (W.alloc Fl).heap.size -> w2.heap[b]? = (W.alloc Fl).heap[b]? := fun b hb => hC.same b hb id
  refine (run_w (main := main) (W := W.alloc Fl) hm hz0 r0 _ b off n0 tcc N hN va hv oa ln oc ops sa sc sl most rfl (O.old hO1) hwr hsl hs1 w2 I hold hC2 c' cs').mono ?_
  rintro g w' ⟨v, ⟨cells, rfl, e2, e3, e4, e5⟩, hg⟩
  obtain ⟨aa, ac, oa', oc', sa', sc', rfl, _⟩ := (e2 w' fun _ _ _ => rfl).all
  refine ⟨_, ⟨_, _, _, _, rfl, (e3 _ (by omega)).trans hz, by simp [Value.oneCell'], fun w'' h => e2 w'' fun b hb => h b (by omega), fun b hb => (e3 b (by omega)).trans (hO1 b hb), by omega, e5⟩, hg⟩
 ·rintro g w' ⟨cells, w3, d, rfl, ⟨z1, z2, z3, z4⟩, rfl⟩
  have hsz3 : ((w3.setRow W.heap.size cells).at d).heap.size = w3.heap.size := Ay _ _ _
  refine ⟨_, ⟨cells, rfl, fun w'' h => z1 w'' fun b hb hb2 => (h b (by omega) (by omega)).trans (Ap _ _ (by omega)), ⟨?_, fun b hb _ => (Ap _ _ (by omega)).trans (z2 b hb)⟩, z4⟩, rfl⟩
  show W.heap.size <= (w3.setRow W.heap.size cells).heap.size
  rw [Ay]
  exact z3
end
theorem szZ_one {n : Nat} (hok : Qw (n : Int)) : szZ [(n : Int)] = n /\ r0Z [(n : Int)] = Ho n := by
 have hir : Qx [(n : Int)] := (Oe _ _).2 hok
 have hsz : Lv [(n : Int)] = n := by
  show (max (n : Int) 0).toNat = n
  omega
 refine ⟨(Mm hir).trans hsz, (r0Z_yes hir).trans ?_⟩
 unfold r0R
 rw [hsz]
 rfl
theorem sc_all (sz : Int) (oa0 : Option Addr) (n0 tc : Nat) (hcap : n0 <= tc) (had : (oa0 = none /\ tc = 0) ∨ ∃ p, oa0 = some p) (hn0 : n0 <= 17592186044416) (l : List OpV) (hl : l.length = min n0 65536) (hwr : ∀ o, o ∈ l -> -9223372036854775808 <= o.a) (W : World)
  (hop : ∀ (j : Nat) (o : OpV), l[j]? = some o -> ∃ b off, oa0 = some ⟨b, off, none⟩ /\ W.cell? ⟨b, off + j * 4, none⟩ = some (.int .i64 o.k) /\ W.cell? ⟨b, off + j * 4 + 1, none⟩ = some (.int .i64 o.a) /\ W.cell? ⟨b, off + j * 4 + 2, none⟩ = some (.int .i64 o.b) /\ W.cell? ⟨b, off + j * 4 + 3, none⟩ = some (.int .i64 o.c)) :
  Runs (fun g w' => Closing 3 4 (.bool true) g /\ ∀ b, b < W.heap.size -> w'.heap[b]? = W.heap[b]?) (G (Frame.enter prog 3 #[.int .i64 sz, .slice oa0 n0 tc] .normal) []) W := by
 by_cases hno : ¬ Qw sz
 ·refine Runs.walk (sc_no sz hno (.slice oa0 n0 tc) W) ?_
  rintro _ _ ⟨fr, rfl, ⟨d, rfl⟩, hB⟩
  refine Runs.then (fixed_run fr [] (W.at d)) ?_
  rintro _ w1 ⟨rfl, O1, Z1⟩
  refine Runs.walk (hB w1) ?_
  rintro g _ ⟨hC, d2, rfl⟩
  exact .now ⟨hC, fun b hb => O1 b hb⟩
 have hok : Qw sz := Classical.not_not.1 hno
 clear hno
 obtain ⟨n, rfl⟩ : ∃ n : Nat, sz = n := ⟨sz.toNat, by have := hok.1; omega⟩
 have hn1 : 0 < n := by have := hok.1; omega
 have hn6 : n <= 65536 := by have := hok.2.1; omega
 obtain ⟨hs1, hs2⟩ := szZ_one hok
 have hal := alone_R hn1 (Ho n) (fun _ => l) 1048576
 have hpl := fun (X T : Nat) (w2 : World) (hx : LsR (.slice (some ⟨X, 0, none⟩) 1 1) [(n : Int)] w2) (O : OpsIn T 0 1 (fun _ => oa0) (fun _ => n0) (fun _ => tc) (fun _ => l) w2) => rplay_far (main := true) (some ⟨X, 0, none⟩) [(n : Int)] 1 (by simp) T 0 1 1 1 rfl (some ⟨T, 0, none⟩) (fun _ => rfl) (fun _ => oa0) (fun _ => n0) (fun _ => tc) (fun _ => l) none 0 [] 1048576 w2 hx O (fun k _ o ho => hwr o ho) (Nat.zero_le _) (fun j z hj => by simp at hj)
 rw [hs1, hs2] at hpl
 refine Runs.walk (sc_in n (n + n) hok (.slice oa0 n0 tc) W) ?_
 rintro _ _ ⟨fr, rfl, ⟨d, rfl⟩, hB⟩
 refine Runs.then (fixed_run fr [] (W.at d)) ?_
 rintro _ w1 ⟨rfl, O1, Z1⟩
 have O1 : ∀ b, b < W.heap.size -> w1.heap[b]? = W.heap[b]? := O1
 have Z1 : W.heap.size <= w1.heap.size := Z1
 generalize Ca (Cr n) (Ho n) (fun _ => l) 1 1048576 [] = F at *
 refine Runs.walk (hB w1 oa0 n0 tc (fun w2 cells w => (∀ w'' : World, (∀ b, w2.heap.size <= b -> b < w.heap.size -> w''.heap[b]? = w.heap[b]?) -> TrA cells 1 (fun i => (F.1.th i).ans) F.2 (It n F.1.s) (Du 1 F.1) w'') /\ CapS cells) rfl fun w2 X T hO2 hZ2 hX hT => ?_) ?_
 ·have up2 : ∀ b, b < W.heap.size -> w2.heap[b]? = W.heap[b]? := fun b hb => (hO2 b (by omega)).trans (O1 b hb)
  have O : OpsIn T 0 1 (fun _ => oa0) (fun _ => n0) (fun _ => tc) (fun _ => l) w2 := by
   refine ⟨fun i hi => ?_, fun _ _ => hcap, fun _ _ => had, fun _ _ => hl, fun i hi j o ho => ?_⟩
   ·have hi : i = 0 := by omega
    subst hi
    exact (Ab hT 0).trans rfl
   ·obtain ⟨b, off, e, c0, c1, c2, c3⟩ := hop j o ho
    have hb := up2 b (Al c0)
    exact ⟨b, off, e, (cBk (a := ⟨b, _, none⟩) hb).trans c0, (cBk (a := ⟨b, _, none⟩) hb).trans c1, (cBk (a := ⟨b, _, none⟩) hb).trans c2, (cBk (a := ⟨b, _, none⟩) hb).trans c3⟩
  have hx : NumB w2 X [(n : Int)] := hX
  intro c' cs'
  refine (hpl X T w2 hx.lsR O c' cs').mono ?_
  rintro g w' ⟨v, ⟨cells, rfl, hT', hC, _, hcs⟩, hg⟩
  obtain ⟨aa, ac, oa', oc', sa', sc', e, _⟩ := id (hT' w' fun _ _ _ => rfl).all
  have hlen : (It n F.1.s).length = n + n := Mo _ _
  rw [hlen] at e
  subst e
  exact ⟨_, ⟨_, _, _, _, _, rfl, by simp [Value.oneCell'], ⟨hT', hcs⟩, fun b hb => hC.same b hb id, hC.size⟩, hg⟩
 rintro g w4 ⟨x0, x1, za, zc, x3, w2, w3, Q, hY, hQ, up4, hZ2, hZQ, dQ, lowQ, hcase⟩
 have up : ∀ b, b < W.heap.size -> w4.heap[b]? = W.heap[b]? := fun b hb => (up4 b (by omega)).trans (O1 b hb)
 rcases hcase with ⟨_, hC⟩ | ⟨rfl, kb, ks, lb, ls, p, ⟨u, rfl⟩, z1, z2, z3, z4, z5, z6, I⟩
 ·exact .now ⟨hC, up⟩
 have hTd := hY.1 (dkW w2.heap.size w3) fun b hb _ => dkW_new hb
 obtain ⟨aa, ac, oa', oc', sa', sc', e, n1, n2, n3⟩ := hTd.all
 have hzc : n + n <= zc := hY.2 za (n + n) zc rfl
 have e : x0 = .slice aa 1 ac /\ x1 = .slice oa' F.2.length oc' /\ Value.slice za (n + n) zc = .slice sa' (It n F.1.s).length sc' /\ false = Du 1 F.1 := by
  simp only [Pc, Array.mk.injEq, List.cons.injEq, Value.bool.injEq] at e
  exact ⟨e.1, e.2.1, e.2.2.1, e.2.2.2.1⟩
 obtain ⟨rfl, rfl, es, hst⟩ := e
 obtain ⟨rfl, _, rfl⟩ := Value.slice.inj es
 clear es
 obtain ⟨a1, a2, a3⟩ := hal hst.symm
 have a2 : (F.1.th 0).ans = azR n (Ho n) l l.length := a2
 obtain ⟨ab, ao, ta, tc1, rfl, k1, k2⟩ := n3 0 (by decide)
 have k1 : (dkW w2.heap.size w3).cell? ⟨ab, ao + 0, none⟩ = some (.slice ta (F.1.th 0).ans.length tc1) := k1
 have k2 : AnsA ta (F.1.th 0).ans (dkW w2.heap.size w3) := k2
 rw [a2] at k1 k2
 rw [azR_len, Nat.add_zero] at k1
 have a1 : F.1.s = (prR n (Ho n) l l.length).1 := a1
 have a3 : F.2.length = (prR n (Ho n) l l.length).2 := a3
 rw [a3] at dQ
 have hsm : (It n F.1.s) = It n (prR n (Ho n) l l.length).1 := congrArg (It n) a1
 rw [hsm] at n2
 have hQ4 : Q < w4.heap.size := (aEs dQ).1
 have offQ : ∀ b, w2.heap.size <= b -> b <= Q -> Ez kb ks lb ls p b := fun b hb hb2 => ⟨by omega, by omega, by omega, by omega, by omega⟩
 have offW : ∀ b, b < W.heap.size -> Ez kb ks lb ls p b := fun b hb => ⟨by omega, by omega, by omega, by omega, by omega⟩
 have hcl : ∀ {x y : Nat} {v : Value}, (dkW w2.heap.size w3).cell? ⟨x, y, none⟩ = some v -> Ez kb ks lb ls p x /\ w4.cell? ⟨x, y, none⟩ = some v := fun {x y v} h => by
  obtain ⟨h1, h2, h3⟩ := dkW_cell h
  exact ⟨offQ x h1 (by omega), (cBk (a := ⟨x, y, none⟩) (lowQ x (by omega))).trans h3⟩
 obtain ⟨sb, so, rfl, hsb⟩ : ∃ sb so, za = some ⟨sb, so, none⟩ /\ Ez kb ks lb ls p sb := by
  have h0 : ∃ z, (It n (prR n (Ho n) l l.length).1)[0]? = some z := by
   have hlen : 0 < (It n (prR n (Ho n) l l.length).1).length := by rw [Mo]; omega
   exact ⟨_, List.getElem?_eq_getElem hlen⟩
  obtain ⟨z, hz⟩ := h0
  obtain ⟨b, o, e, h⟩ := n2 0 _ hz
  exact ⟨b, o, e, (hcl h).1⟩
 have hst4 : NumA (some ⟨sb, so, none⟩) (It n (prR n (Ho n) l l.length).1) w4 := fun j x hx => by
  obtain ⟨b, o, e, h⟩ := n2 j x hx
  exact ⟨b, o, e, (hcl h).2⟩
 have hl6 : l.length <= 65536 := by rw [hl]; exact Nat.min_le_right _ _
 have hfew : (prR n (Ho n) l l.length).2 <= 9223372036854 := Nat.le_trans (prR_le (n := n) (Ho n) l l.length) (Ny hl6 hn6)
 have t5 : Five kb ks lb ls p := ⟨⟨by omega, by omega, by omega, by omega⟩, ⟨by omega, by omega, by omega⟩, by omega, by omega, by omega⟩
 have fQ := offQ Q hZQ (Nat.le_refl _)
 refine Runs.walk (Stop := fun g w' => Closing 3 4 (.bool true) g /\ ∀ b, b < w4.heap.size -> Ez kb ks lb ls p b -> w'.heap[b]? = w4.heap[b]?) ((cal_loop (n := n) oa0 n0 tc Q ab ao ac tc1 ta (Ho n) l hl hn0 hn6 w4 t5 (fun i hi => ?_) (fun j o ho => ?_) fQ (hcl k1).1 ((Ab dQ 0).trans rfl) (hcl k1).2 (fun i hi => ?_) [] l.length 0 w4 u (by omega) (by rw [prR_zero]; exact I)).then ?_) ?_
 ·obtain ⟨b, o, la, lc, e, g1, g2, g3, g4, g5⟩ := k2 i _ (azR_get (Ho n) l l.length i hi)
  exact g5
 ·obtain ⟨b, off, e, c0, c1, c2, c3⟩ := hop j o ho
  have hbW := Al c0
  have hb := up b hbW
  exact ⟨b, off, e, offW b hbW, (cBk (a := ⟨b, _, none⟩) hb).trans c0, (cBk (a := ⟨b, _, none⟩) hb).trans c1, (cBk (a := ⟨b, _, none⟩) hb).trans c2, (cBk (a := ⟨b, _, none⟩) hb).trans c3⟩
 ·obtain ⟨b, o, la, lc, e, g1, g2, g3, g4, g5⟩ := k2 i _ (azR_get (Ho n) l l.length i hi)
  refine ⟨b, o, la, lc, e, (hcl g1).1, (hcl g1).2, (hcl g2).2, (hcl g3).2, fun j z hz => ?_, fun b' x e' hne => ?_⟩
  ·obtain ⟨b', o', e', hc⟩ := g4 j z hz
   exact ⟨b', o', e', (hcl hc).2⟩
  ·obtain ⟨z, hz⟩ : ∃ z, (anR n (Ho n) l i).l[0]? = some z := by
    cases hh : (anR n (Ho n) l i).l with
    | nil => exact absurd hh hne
    | cons z zs => exact ⟨z, rfl⟩
   obtain ⟨b'', o', e'', hc⟩ := g4 0 z hz
   rw [e'] at e''
   cases e''
   exact (hcl hc).1
 ·rintro g w5 ⟨⟨u', rfl⟩, I5⟩
  exact sc_tail Q (n + n) oa' oc' sb so zc (prR n (Ho n) l l.length).1 (prR n (Ho n) l l.length).2 w4 (Nat.le_refl _) (Nat.le_refl _) hzc hfew fQ hsb ((Ab dQ 1).trans rfl) ((Ab dQ 2).trans rfl) hst4 w5 u' I5
 ·rintro g w6 ⟨hC, hO⟩
  exact .now ⟨hC, fun b hb => (hO b (by omega) (offW b hb)).trans (up b hb)⟩
section
open Go.ChangeShapes Go.WideShapes Go.ChangeAt Go.Joins Go.Deep
theorem prog_own : ownKnob prog.godebug = none := by kernel_rfl
def Left (W : World) (v : Value) (w' : World) : Prop := v = .bool true /\ w'.os = W.os /\ w'.output = W.output /\ ∀ b, b < W.heap.size -> w'.heap[b]? = W.heap[b]?
theorem Left.kept {W w' : World} {v : Value} (h : Left W v w') (may : MemPlace -> Prop) : W.keptBut w' may := by
 refine ⟨h.2.1, h.2.2.1, fun i hi => ?_⟩
 rw [h.2.2.2 i hi]
 split <;> simp_all
theorem und4_is : prog.underlying 4 = some .bool := by kernel_rfl
theorem stepG_done {P : Program} {fr : Frame} {w : World} {fn : Func} {v : Value} (hm : fr.mode = .returning) (hn : fr.kind = .normal) (hd : fr.defers = []) (hf : P.funcs[fr.fn]? = some fn) (hr : (results fn fr.tmps).run P w = .ok v w) (he : (results fn fr.tmps).events P w #[] = #[]) (hi : P.inits.idxOf? fr.fn = none) :
  stepG P true (G fr []) w = .ended (.done v) w #[] := by
 simp [G, stepG, unwind, doReturn, hm, hd, hn, hf, hr, he, hi, GStep.after, seen_none]
theorem run_claim {f : FuncId} {fn : Func} {args : Array Value} {W : World} {Post : Value -> World -> Prop} {v : Value} {t : Tmp} (hf : prog.funcs[f]? = some fn) (hres : fn.results = #[.tmp t]) (hi : prog.inits.idxOf? f = none)
  (h : Runs (fun g w' => Closing f t v g /\ (OsSame W w' -> ∀ d, Post v (w'.at d))) (G (Frame.enter prog f args .normal) []) W) :
  ∃ M last o w' t', runNT prog (M + 1) (solo (G (Frame.enter prog f args .normal) []) W) #[] = (.ended o w', t') /\ Go.runN prog M (solo (G (Frame.enter prog f args .normal) []) W) = .next last /\ step prog last = .ended o w' /\ Go.Conc.Good prog Post last o w' t' := by
 rw [solo_eq_crowd]
 have A0 := at_begin (P := prog) (gs := #[G (Frame.enter prog f args .normal) []]) (a := G (Frame.enter prog f args .normal) []) (sl := none) (w := W) rfl (leavers_one prog _) past_nil
 obtain ⟨N1, m1, T1, r1, ⟨nG, g1, w1, _, ⟨⟨fr, rfl, hm, hn, hd, hfn, hv⟩, hP⟩, A1⟩, ho⟩ := h 1 _ _ (Nat.le_refl _) A0
 obtain ⟨gs, sl, q, B, rfl, _, hg0, hL, hPast⟩ := A1.ends (fun _ => rfl)
 have hP := hP ho
 have hs : ∀ d, stepG prog true (G fr []) (w1.at d) = .ended (.done v) (w1.at d) #[] := fun d =>
  stepG_done hm hn hd (by rw [hfn]; exact hf) (by rw [results_tmp hres, hv]) (events_results_tmp hres _ _) (by rw [hfn]; exact hi)
 have hG : Goes prog true AtRel (fun _ _ es => ∀ e ∈ es, EvL (fun _ => False) B e) (AtEnd prog (fun _ => False) B Post) 0 (G fr []) w1 := by
  rintro _ ⟨d, rfl⟩
  exact ⟨rfl, v, #[], hs d, by simp, hP d⟩
 obtain ⟨M8, last, o, w', t', e1, e2, e3, e4⟩ := beside_ends (P := prog) (Post := Post) (sl := sl) (fun _ _ _ h => h) hg0 hL hPast hG
 refine ⟨N1 + M8, last, o, w', t', ?_, ?_, e3, e4⟩
 ·rw [Nat.add_assoc, runNT_add, r1]; exact e1
 ·rw [Go.runN_add, <- runNT_fst prog _ _ #[], r1]; exact e2
end
section
open Go.Conc Go.RowKit Go.Relay Go.ChangeShapes Go.WideShapes Go.ChangeAt Go.Joins Go.Deep
theorem Pn : prog.underlying 3 = some (.int .i64) := by kernel_rfl
theorem Po : prog.underlying 2 = some (.int .i64) := by kernel_rfl
theorem laid_out : laidOutB prog = true := by kernel_rfl
section
variable {H : Type} {enc : TypeId × Value -> H} {W w' : World}
theorem Left.stays {r : Value} {t : TypeId} {v : Value} {d : DataW H} {ps : List MemPlace} (K : Left W r w') (hr : prog.readableRec t = true) (hrow : t < prog.types.size) (h : DataW.Trod enc prog W 0 (fun _ => true) true t v d ps) (hlt : ∀ x ∈ ps, x.block < W.heap.size) :
  DataW.Trod enc prog w' 0 (fun b => decide (b < W.heap.size)) true t v d ps :=
 WideElems.Trod_stays laid_out hr hrow h (fun x hx => by
  have hb := K.2.2.2 x.block (hlt x hx)
  cases x with
  | cell b o => exact cBk (w := W) (a := ⟨b, o, none⟩) hb
  | map b => exact hb) (fun x hx => by simpa using hlt x hx)
theorem addr_form {w : World} {a : Addr} {v : Value} (h : w.cell? a = some v) : a = ⟨a.block, a.off, none⟩ := by
 obtain ⟨b, o, s⟩ := a
 cases s with
 | none => rfl
 | some s =>
  unfold World.cell? at h
  split at h
  ·simp at h
  ·cases h
end
section
variable {H : Type} {enc : TypeId × Value -> H} {W : World}
theorem Iy {z : Int} (h : (Lit.int .i64 z).wf = true) : IntKind.i64.wrap z = z := by
 simp [Lit.wf, IntKind.min, IntKind.max, IntKind.signed, IntKind.bits] at h
 rw [IntKind.wrap_i64]
 omega
variable {base : Nat} {spare : Nat -> Bool} {held : Bool}
end
end
section
open Go.Conc Go.RowKit Go.Relay Go.ChangeShapes Go.WideShapes Go.ChangeAt Go.Joins Go.Deep
noncomputable def fldsOp : Array Field := match prog.underlying 45 with | some (.struct fs) => fs | _ => #[]
theorem undOp_is : prog.underlying 45 = some (.struct fldsOp) := by kernel_rfl
theorem fldsOp_four : ∃ f0 f1 f2 f3, fldsOp = #[f0, f1, f2, f3] /\ f0.type = 3 /\ f1.type = 2 /\ f2.type = 2 /\ f3.type = 2 := by
 have hs : fldsOp.size = 4 := by kernel_rfl
 have h0 : (fldsOp[0]?).map (·.type) = some 3 := by kernel_rfl
 have h1 : (fldsOp[1]?).map (·.type) = some 2 := by kernel_rfl
 have h2 : (fldsOp[2]?).map (·.type) = some 2 := by kernel_rfl
 have h3 : (fldsOp[3]?).map (·.type) = some 2 := by kernel_rfl
 generalize fldsOp = F at *
 obtain ⟨l⟩ := F
 match l, hs with
 | [f0, f1, f2, f3], _ => exact ⟨f0, f1, f2, f3, rfl, by simpa using h0, by simpa using h1, by simpa using h2, by simpa using h3⟩
section
variable {H : Type} {enc : TypeId × Value -> H} {W : World} {base : Nat} {spare : Nat -> Bool} {held : Bool}
theorem trod_struct4 {P : Program} {t : TypeId} {f0 f1 f2 f3 : Field} {fuel : Nat} {cs : List Value} {x : DataW H × List MemPlace} (ht : P.underlying t = some (.struct #[f0, f1, f2, f3])) (h : DataW.trod enc P W base spare held fuel t cs = some x) :
  ∃ y0 y1 y2 y3 n, cs.length = P.cellsOf t /\ DataW.trod enc P W base spare held n f0.type ((cs.drop f0.offset).take (P.cellsOf f0.type)) = some y0 /\
   DataW.trod enc P W base spare held n f1.type ((cs.drop f1.offset).take (P.cellsOf f1.type)) = some y1 /\ DataW.trod enc P W base spare held n f2.type ((cs.drop f2.offset).take (P.cellsOf f2.type)) = some y2 /\
   DataW.trod enc P W base spare held n f3.type ((cs.drop f3.offset).take (P.cellsOf f3.type)) = some y3 := by
 obtain ⟨xs, n, _, rfl, hl, hlen, hf⟩ := DataW.trod_struct ht h
 match xs, hlen with
 | [y0, y1, y2, y3], _ => exact ⟨y0, y1, y2, y3, n, hl, by simpa using hf 0 f0 rfl, by simpa using hf 1 f1 rfl, by simpa using hf 2 f2 rfl, by simpa using hf 3 f3 rfl⟩
structure ThIn (W : World) (v : Value) (a : Option Addr) (ln oc : Nat) (l : List OpV) : Prop where
 is : v = .slice a ln oc
 len : l.length = ln
 cap : ln <= oc
 ad : (a = none /\ oc = 0) ∨ ∃ p, a = some p
 ops : ∀ (k : Nat) (o : OpV), l[k]? = some o -> ∃ b off, a = some ⟨b, off, none⟩ /\ W.cell? ⟨b, off + k * 4, none⟩ = some (.int .i64 o.k) /\ W.cell? ⟨b, off + k * 4 + 1, none⟩ = some (.int .i64 o.a) /\ W.cell? ⟨b, off + k * 4 + 2, none⟩ = some (.int .i64 o.b) /\ W.cell? ⟨b, off + k * 4 + 3, none⟩ = some (.int .i64 o.c)
 wr : ∀ (k : Nat) (o : OpV), l[k]? = some o -> IntKind.i64.wrap o.k = o.k /\ IntKind.i64.wrap o.a = o.a /\ IntKind.i64.wrap o.b = o.b /\ IntKind.i64.wrap o.c = o.c
theorem open_ops {n : Nat} {v : Value} {x : DataW H × List MemPlace} (hu : prog.underlying 22 = some (.slice 45)) (h : DataW.trod enc prog W base (fun _ => true) held n 22 [v] = some x) :
  ∃ (q : (Option Addr × Nat × Nat) × List OpV), ThIn W v q.1.1 q.1.2.1 q.1.2.2 q.2 := by
 have hC : prog.cellsOf 45 = 4 := by kernel_rfl
 obtain ⟨f0, f1, f2, f3, ef, t0, t1, t2, t3⟩ := fldsOp_four
 have hst : prog.underlying 45 = some (.struct #[f0, f1, f2, f3]) := by rw [undOp_is, ef]
 have hone : oneCellFields prog #[f0, f1, f2, f3] = true := by rw [<- ef]; kernel_rfl
 rcases open_slice hu h with ⟨e, _⟩ | ⟨a', len', cap', m, n', D, Pl, e, _, hl, _, hm, hx, hel⟩
 ·injection e with e _
  exact ⟨((none, 0, 0), []), e, rfl, Nat.le_refl _, .inl ⟨rfl, rfl⟩, fun k o h => (by simp at h), fun k o h => (by simp at h)⟩
 ·injection e with e _
  have hm : m = cap' := by simpa using hm
  have key : ∀ i, i < len' -> ∃ o : OpV, (IntKind.i64.wrap o.k = o.k /\ IntKind.i64.wrap o.a = o.a /\ IntKind.i64.wrap o.b = o.b /\ IntKind.i64.wrap o.c = o.c) /\ ∀ k v, ([.int .i64 o.k, .int .i64 o.a, .int .i64 o.b, .int .i64 o.c] : List Value)[k]? = some v -> W.cell? ((a'.add (i * 4)).add k) = some v := fun i hi => by
   obtain ⟨cs', h1, h2⟩ := hel i (by omega)
   rw [hC] at h1
   obtain ⟨_, hlen, hcell⟩ := World.cells?_some h1
   obtain ⟨y0, y1, y2, y3, k, _, u0, u1, u2, u3⟩ := trod_struct4 hst h2
   obtain ⟨o0, k0⟩ := hone_of hone 0 f0 rfl
   obtain ⟨o1, k1⟩ := hone_of hone 1 f1 rfl
   obtain ⟨o2, k2⟩ := hone_of hone 2 f2 rfl
   obtain ⟨o3, k3⟩ := hone_of hone 3 f3 rfl
   match cs', hlen with
   | [c0, c1, c2, c3], _ =>
    rw [o0, k0, t0] at u0
    rw [o1, k1, t1] at u1
    rw [o2, k2, t2] at u2
    rw [o3, k3, t3] at u3
    obtain ⟨z0, e0, _, q0⟩ := DataW.trod_int Pn u0
    obtain ⟨z1, e1, _, q1⟩ := DataW.trod_int Po u1
    obtain ⟨z2, e2, _, q2⟩ := DataW.trod_int Po u2
    obtain ⟨z3, e3, _, q3⟩ := DataW.trod_int Po u3
    simp at e0 e1 e2 e3
    subst e0 e1 e2 e3
    refine ⟨⟨z0, z1, z2, z3⟩, ⟨Iy q0, Iy q1, Iy q2, Iy q3⟩, fun k v hv => ?_⟩
    have hk4 : k < 4 := (lEs hv).1
    have hc := hcell k (by simpa using hk4)
    rw [hc]
    exact hv
  have hI : Inhabited OpV := ⟨⟨0, 0, 0, 0⟩⟩
  obtain ⟨f, hf'⟩ := choose_lt (α := OpV) key
  refine ⟨((some a', len', cap'), (List.range len').map f), e, by simp, hl, .inr ⟨_, rfl⟩, fun k o hd => ?_, fun k o hd => ?_⟩
  rotate_left
  ·have hk : k < len' := by simpa using (lEs hd).1
   have hd : f k = o := by simpa [hk] using hd
   have hf := (hf' k hk).1
   rwa [hd] at hf
  have hk : k < len' := by simpa using (lEs hd).1
  have hd : f k = o := by simpa [hk] using hd
  have hf := (hf' k hk).2
  rw [hd] at hf
  have h0 := (hf' 0 (by omega)).2 0 _ rfl
  have ha : (a'.add (0 * 4)).add 0 = a' := by simp [Addr.add]
  rw [ha] at h0
  have hform := addr_form h0
  have hc : ∀ (m : Nat) (v : Value), ([.int .i64 o.k, .int .i64 o.a, .int .i64 o.b, .int .i64 o.c] : List Value)[m]? = some v -> W.cell? ⟨a'.block, a'.off + k * 4 + m, none⟩ = some v := fun m v hv => by
   have := hf m v hv
   rw [hform, Bs, Bs] at this
   exact this
  exact ⟨a'.block, a'.off, congrArg some hform, hc 0 _ rfl, hc 1 _ rfl, hc 2 _ rfl, hc 3 _ rfl⟩
end
section
variable {H : Type} {enc : TypeId × Value -> H} {W : World}
theorem open_opsW {base : Nat} {v : Value} {d : DataW H} {ps : List MemPlace} (hu : prog.underlying 22 = some (.slice 45)) (hval : Value.okWide prog W .any base 22 v) (h : DataW.Trod enc prog W 0 (fun _ => true) true 22 v d ps)
  {ts : List TypeId} {ds : List (DataW H)} {j : Nat} (hsz : (DataW.weightsEach prog ts ds).all (· <= reachBytes) = true) (ht : ts[j]? = some 22) (hd : ds[j]? = some d) :
  ∃ (a : Option Addr) (n0 tc : Nat) (ops : List OpV), v = .slice a n0 tc /\ ops.length = n0 /\ n0 <= tc /\ (a = none /\ tc = 0 ∨ ∃ p, a = some p) /\ n0 <= 17592186044416 /\
   ∀ (j : Nat) (o : OpV), ops[j]? = some o -> ∃ b off, a = some ⟨b, off, none⟩ /\ W.cell? ⟨b, off + j * 4, none⟩ = some (.int .i64 o.k) /\ W.cell? ⟨b, off + j * 4 + 1, none⟩ = some (.int .i64 o.a) /\ W.cell? ⟨b, off + j * 4 + 2, none⟩ = some (.int .i64 o.b) /\ W.cell? ⟨b, off + j * 4 + 3, none⟩ = some (.int .i64 o.c) /\ IntKind.i64.wrap o.k = o.k /\ IntKind.i64.wrap o.a = o.a /\ IntKind.i64.wrap o.b = o.b /\ IntKind.i64.wrap o.c = o.c := by
 obtain ⟨sa, sl, sc, rfl⟩ := okWide_slice hu hval
 obtain ⟨fuel, hf⟩ := h
 have hf : DataW.trod enc prog W 0 (fun _ => true) true fuel 22 [.slice sa sl sc] = some (d, ps) := hf
 generalize hv : Value.slice sa sl sc = v at *
 obtain ⟨⟨⟨a, n0, tc⟩, l⟩, I⟩ := open_ops hu hf
 have hb : n0 <= 17592186044416 := by
  have hB : prog.bytesOf 45 = 32 := by kernel_rfl
  have hr := reachBytes_lt
  rcases open_slice hu hf with ⟨e, _⟩ | ⟨a', len', cap', m, n', D, Pl, e, _, hl, _, hm, hx, _⟩
  ·have e : [v] = [.slice none 0 0] := e
   injection e with e _
   rw [I.is] at e
   injection e with _ e _
   have e : n0 = 0 := e
   omega
  ·have e : [v] = [.slice (some a') len' cap'] := e
   injection e with e _
   rw [I.is] at e
   injection e with _ e _
   have e : n0 = len' := e
   injection hx with hx _
   subst hx
   have hs := sized_slice hsz ht hd hu
   rw [hB] at hs
   simp only [List.length_map, List.length_range] at hs
   omega
 exact ⟨a, n0, tc, l, I.is, I.len, I.cap, I.ad, hb, fun j o ho => by
  obtain ⟨b, off, e, c0, c1, c2, c3⟩ := I.ops j o ho
  exact ⟨b, off, e, c0, c1, c2, c3, I.wr j o ho⟩⟩
end
end
section
open Go.Conc Go.RowKit Go.Relay Go.ChangeShapes Go.WideShapes Go.ChangeAt Go.Joins Go.Deep
section
variable {H : Type} {enc : TypeId × Value -> H} {W : World} {base : Nat} {spare : Nat -> Bool} {held : Bool}
theorem trodAll_two {P : Program} {t t1 : TypeId} {args : Array Value} {ds : List (DataW H)} {ps : List MemPlace} (h : DataW.TrodAll enc P W base spare held [t, t1] args.toList ds ps) :
  ∃ v v1 d d1 p q, args = #[v, v1] /\ ds = [d, d1] /\ ps = p ++ q /\ DataW.Trod enc P W base spare held t v d p /\ DataW.Trod enc P W base spare held t1 v1 d1 q := by
 obtain ⟨v, vs, d, ds1, p, q, hargs, rfl, rfl, hd, hrest⟩ := trodAll_cons h
 obtain ⟨v1, vs1, d1, ds2, p1, q1, rfl, rfl, rfl, hd1, hrest1⟩ := trodAll_cons hrest
 obtain ⟨rfl, rfl, rfl⟩ := trodAll_nil hrest1
 exact ⟨v, v1, d, d1, p, p1, by cases args; simp_all, rfl, by simp, hd, hd1⟩
end
end
section
open Go.ChangeShapes Go.WideShapes Go.ChangeAt Go.Joins Go.Deep
theorem slotsCalls_lifted (os : Os) (started : os.Started) (H : Type) (enc : TypeId × Value -> H) :
  ReturnsInLeavingWide {} Try.checked os 3 .any (Rows.slotsCallsSpec.pre6 enc prog f3 Rows.slotsCallsRow.domain false) (Rows.slotsCallsSpec.post enc prog f3 false true false false) := by
 refine returnsInLeavingWide_of_change_sized (C := Try.checked) prog_own started func3
  (ChangeSpec.witness6 (enc := enc) (C := Try.checked) false ⟨#[], #[.int .i64 0, .slice none 0 0], []⟩ 8 (by kernel_rfl) (by kernel_rfl) (by kernel_rfl) (by kernel_rfl)) ?_
 intro W base args ds gs before hval0 hW _ hsz0 _
 have hval : ∀ (j : Nat) t v, f3.params[j]? = some t -> args[j]? = some v -> Value.okWide prog W .any base t v := hval0
 have hW' := hW
 obtain ⟨p, q, hA0, hV, rfl, _, _⟩ := hW
 have hA : DataW.TrodAll enc prog W 0 (fun _ => true) true f3.params.toList args.toList ds p := hA0
 rw [Try.params3] at hA hval
 have hsz : (DataW.weightsEach prog (f3.params.toList ++ Rows.slotsCallsSpec.plain.varTypes prog) (ds ++ gs)).all (· <= reachBytes) = true := hsz0
 rw [Try.params3] at hsz
 obtain ⟨v0, v1, d0, d1, p0, p1, rfl, rfl, rfl, h0, h1⟩ := trodAll_two hA
 obtain ⟨rfl, rfl⟩ := trodVars_none hV
 have hlt := hW'.lt
 obtain ⟨sz, rfl, rfl, rfl, wsz⟩ := open_int Pn (hval 0 3 v0 rfl rfl) h0
 obtain ⟨ta, n0, tc, ops, rfl, hlen, hcap, had, hn0, hop⟩ := open_opsW (by kernel_rfl) (hval 1 22 v1 rfl rfl) h1 (j := 1) hsz rfl rfl
 have htk : ∀ (j : Nat) (o : OpV), (ops.take 65536)[j]? = some o -> ops[j]? = some o := fun j o ho => by
  rw [List.getElem?_take] at ho
  split at ho
  ·exact ho
  ·cases ho
 have hwr : ∀ o, o ∈ ops.take 65536 -> -9223372036854775808 <= o.a := fun o ho => by
  obtain ⟨j, hj⟩ := List.mem_iff_getElem?.1 ho
  obtain ⟨b, off, _, _, _, _, _, _, w1, _⟩ := hop j o (htk j o hj)
  rw [IntKind.wrap_i64] at w1
  omega
 clear hA0 hval0 hsz0 hsz
 simp only [List.append_nil, List.nil_append] at hW' hlt
 obtain ⟨M, last, o, w', t', r1, r2, r3, r4⟩ := run_claim (Post := Left W) (t := 4) func3 rfl (by kernel_rfl) (Runs.then (sc_all sz ta n0 tc hcap had hn0 (ops.take 65536) (by rw [List.length_take, hlen]; exact Nat.min_comm _ _) hwr W (fun j o ho => by
  obtain ⟨b, off, e, c0, c1, c2, c3, _⟩ := hop j o (htk j o ho)
  exact ⟨b, off, e, c0, c1, c2, c3⟩)) fun g w' ⟨hC, hO⟩ => .now ⟨hC, fun ho d => ⟨rfl, ho.1, ho.2, hO⟩⟩)
 refine ⟨M, last, o, w', t', r1, r2, r3, r4.mono fun v hF => ?_⟩
 have hk : Left W (.bool true) w' := ⟨rfl, hF.2⟩
 obtain rfl : v = .bool true := hF.1
 exact ⟨_, _, _, [], _, [], hW', trodAll_mk1 (shut_bool und4_is true), trodAll_mk2 (shut_int Pn wsz) (hk.stays (by kernel_rfl) (of_decide_eq_true (by kernel_rfl)) h1 fun x hx => hlt x (by simp [hx])), rfl, hk.kept _, fun h => by cases h⟩
theorem slotsCalls_holds : Rows.SlotsCallsSaid :=
 OpenClaim.holds_of_wide_leaving 3 f3 rfl rfl rfl rfl rfl rfl rfl ⟨rfl, rfl, rfl, rfl, rfl⟩ rfl rfl rfl rfl rfl (by kernel_rfl) func3 (by kernel_rfl)
  (of_decide_eq_true (by kernel_rfl)) (by unfold Func.isWrapper; first | (rw [if_pos (by decide +kernel)]; kernel_rfl) | (rw [if_neg (by decide +kernel)]; exact ⟨rfl, rfl⟩))
  (fun os started H enc _ => slotsCalls_lifted os started H enc)
end
end Go.Proofs.Ytflcclneedldoaa
