/- Part 27. -/
import Derived.Test.YtjenoiekfkhafaaJ16
import Derived.Test.YtjenoiekfkhafaaJ19
import Derived.Test.YtjenoiekfkhafaaJ21
import Derived.Test.YtjenoiekfkhafaaJ22
import Derived.Test.YtjenoiekfkhafaaJ26
set_option linter.unusedSimpArgs false
set_option linter.unusedVariables false
set_option linter.unusedVariables false
set_option maxHeartbeats 8000000
set_option maxRecDepth 100000
namespace Go.Proofs.Ytjenoiekfkhafaa
open Go.Conc Go.RowKit Go.Relay
open Go.ConcN (upd upd_ne upd_same)
theorem LsR.rwR {sl : Value} {l : List Int} {w : World} (h : LsR sl l w) : RwR sl l.length (l.map fun z => .int .i64 z) w := by
 obtain ⟨a, c, h1, h2, h3, h4⟩ := h
 refine ⟨a, c, h1, fun j u hj => ?_⟩
 rw [List.getElem?_map, Option.map_eq_some_iff] at hj
 obtain ⟨y, hy, rfl⟩ := hj
 exact h4 j y hy
theorem row_lsP {w : World} {base g n cap : Nat} {l : List Int} {xs : List Value} (h : w.ownsRow base 2 1 (.slice (some ⟨g, 0, none⟩) n cap) n xs) (hl : ∀ (j : Nat) (z : Int), l[j]? = some z -> xs[j]? = some (.int .i64 z)) (hn : l.length <= n) : LsR (.slice (some ⟨g, 0, none⟩) l.length cap) l w := by
 refine ⟨_, _, rfl, ?_, fun e => (by cases e), fun j z hj => ?_⟩
 ·rcases h.2 with ⟨e, _⟩ | ⟨g', cap', cur, e, _, _, hle, _⟩
  ·cases e
  ·injection e with _ _ e
   omega
 ·obtain ⟨g', e, _, _, hc⟩ := Jh h (hl j z hj)
  cases e
  exact ⟨g, 0, rfl, by rw [Nat.zero_add]; exact hc⟩
theorem row_cap {w : World} {base g n cap size : Nat} {e : TypeId} {xs : List Value} (h : w.ownsRow base e size (.slice (some ⟨g, 0, none⟩) n cap) n xs) : n <= cap := by
 rcases h.2 with ⟨e, _⟩ | ⟨g', cap', cur, e, _, _, hle, _⟩
 ·cases e
 ·injection e with _ _ e
  omega
theorem sc_in (xa : Option Addr) (xs : List Int) (xc : Nat) (hxn : xs.length <= 17592186044415) (k sn y : Nat) (hk : Da xs.length = k) (hs1 : sn <= y + 1) (hs2 : y + 1 <= sn) (hy1 : y <= k + 1) (hy2 : k + 1 <= y) (ov : Value) (w : World) : Walk Try.prog true (DR (fun _ => none)) (fun g w' => ∃ fr, g = G (Frame.enter Try.prog 12 #[] .normal) [fr] /\ (∃ d, w' = w.at d) /\ ∀ w1 (oa : Option Addr) (n0 tc : Nat) (Y : Array Value -> World -> Prop), ov = .slice oa n0 tc -> LsR (.slice xa xs.length xc) xs w1 ->
   (∀ (w2 : World) (T : Nat), (∀ b, b < w1.heap.size -> w2.heap[b]? = w1.heap[b]?) -> w1.heap.size <= w2.heap.size -> w1.heap.size <= T -> w2.heap[T]? = some (.cells #[ov] 34) -> CallW Try.prog true (fun _ => none) 15 #[.slice xa xs.length xc, .slice (some ⟨T, 0, none⟩) 1 1, .slice none 0 0, .int .i64 1048576] w2 (fun v w' => ∃ x0 x1 za zc x3, v = .agg #[x0, x1, .slice za sn zc, .bool x3] /\ (#[x0, x1, .slice za sn zc, .bool x3] : Array Value).all (·.oneCell') = true /\ Y #[x0, x1, .slice za sn zc, .bool x3] w' /\ (∀ b, b < w1.heap.size -> w'.heap[b]? = w1.heap[b]?) /\ w1.heap.size <= w'.heap.size)) ->
   Walk Try.prog true (DR (fun _ => none)) (fun g w' => ∃ x0 x1 za zc x3 w3 Q, Y #[x0, x1, .slice za sn zc, .bool x3] w3 /\ Q = w3.heap.size /\ (∀ b, b < w1.heap.size -> w3.heap[b]? = w1.heap[b]?) /\ w1.heap.size <= w3.heap.size /\ w'.heap[Q]? = some (.cells #[x0, x1, .slice za sn zc, .bool x3] 31) /\ (∀ b, b < Q -> w'.heap[b]? = w3.heap[b]?) /\
    ((x3 = true /\ Closing 4 4 (.bool true) g) ∨ (x3 = false /\ ∃ iv kb lb p, (∃ u, g = G (Kh (.slice xa xs.length xc) iv ov Q kb lb p y 0 u) []) /\ Q < kb /\ kb < lb /\ lb < p /\ CalQ kb lb k p (Ef xs) 0 w' w'))) (G (fr.finish (.bool true)) []) w1)
  (G (Frame.enter Try.prog 4 #[.slice xa xs.length xc, ov] .normal) []) w := by
 have hA : ∀ b, Ay (fun _ => none) b := Oi
 have hk15 : k <= 15 := by rw [<- hk]; exact (Mr _).1
 have hiI := Option.some_get (show (Try.prog.info? 2).isSome = true by kernel_rfl)
 rw [enter_at _ Try.func4 code4_is]
 simp only [Try.ntmps4, ez, Nat.reduceAdd, Nat.reduceSub]
 refine Aa z4 ?_
 refine Walk.callE Ao (by rfl) (by decide) rfl Try.func12 (by kernel_rfl) (by rfl) ?_
 walk_nrm
 refine .stop fun d => ⟨_, rfl, ⟨d, rfl⟩, ?_⟩
 rintro w1 oa n0 tc Y rfl hx hPlay
 refine Walk.finish Ao ?_
 walk_nrm
 refine Aa z4 ?_
 (refine Walk.oa ?_; try walk_nrm)
 have s3 : (w1.alloc (.cells #[.slice oa n0 tc] 34)).heap.size = w1.heap.size + 1 := by simp
 have o3 : ∀ b, b < w1.heap.size -> (w1.alloc (.cells #[.slice oa n0 tc] 34)).heap[b]? = w1.heap[b]? := fun b hb => Ab _ _ hb
 have d3 := heap_alloc_new w1 (.cells #[.slice oa n0 tc] 34)
 have hP := hPlay _ w1.heap.size o3 (by omega) (Nat.le_refl _) d3
 generalize hT : w1.heap.size = T at *
 generalize w1.alloc (.cells #[.slice oa n0 tc] 34) = x3 at *
 clear hPlay d3 s3 o3
 generalize hln : xs.length = ln at *
 repeat (first | (refine Walk.oq ?_; try walk_nrm) | (refine Ax ?_; walk_nrm))
 refine Ah (Post := fun v w' => ∃ x0 x1 za zc x3, v = .agg #[x0, x1, .slice za sn zc, .bool x3] /\ (#[x0, x1, .slice za sn zc, .bool x3] : Array Value).all (·.oneCell') = true /\ Y #[x0, x1, .slice za sn zc, .bool x3] w' /\ (∀ b, b < T -> w'.heap[b]? = w1.heap[b]?) /\ T <= w'.heap.size) ?_ Ao (by rfl) (by decide) rfl Try.func15 (by kernel_rfl) (by rfl) ?_
 ·walk_nrm
  exact hP
 rintro v w3 ⟨y0, y1, za, zc, y3, rfl, hone, hY, hO3, hZ3⟩
 clear hP
 walk_nrm
 repeat (first | (refine Walk.oq ?_; try walk_nrm) | (refine Ax ?_; walk_nrm))
 (refine Walk.oa ?_; try walk_nrm)
 have e4 : w3.alloc (.cells #[.slice none 0 0, .slice none 0 0, .slice none 0 0, .bool false] 31) = w3.alloc Fq := rfl
 try rw [e4]
 clear e4
 have s4 : (w3.alloc Fq).heap.size = w3.heap.size + 1 := by simp
 have o4 : ∀ b, b < w3.heap.size -> (w3.alloc Fq).heap[b]? = w3.heap[b]? := fun b hb => Ab _ _ hb
 have d4 := heap_alloc_new w3 Fq
 generalize hQ : w3.heap.size = Q at *
 generalize w3.alloc Fq = w4 at *
 unfold Fq at d4
 repeat (first | (refine Walk.oq ?_; try walk_nrm) | (refine Ax ?_; walk_nrm))
 refine Ap 31 (.tmp 5) (.tmp 19) Ao (by rfl) (by decide) rfl Q #[y0, y1, .slice za sn zc, .bool y3] _ 31 rfl rfl d4 (by kernel_rfl) (by rfl) hone (Oi _) ?_
 have d5 := setRow_self (cells := #[y0, y1, .slice za sn zc, .bool y3]) d4
 have o5 : ∀ b, b < Q -> (w4.setRow Q #[y0, y1, .slice za sn zc, .bool y3]).heap[b]? = w3.heap[b]? := fun b hb => (Aq _ _ (by omega)).trans (o4 b hb)
 have s5 := (Az w4 Q #[y0, y1, .slice za sn zc, .bool y3]).trans s4
 clear d4 o4 s4
 generalize w4.setRow Q #[y0, y1, .slice za sn zc, .bool y3] = w5 at *
 have hx5 : LsR (.slice xa ln xc) xs w5 := hx.same fun b hb => (o5 b (by omega)).trans (hO3 b (by omega))
 walk_nrm
 refine Aa z4 ?_
 (refine Walk.oa ?_; try walk_nrm)
 have s6 : (w5.alloc (.cells #[] 2)).heap.size = Q + 2 := by simp [s5]
 have o6 : ∀ b, b < Q + 1 -> (w5.alloc (.cells #[] 2)).heap[b]? = w5.heap[b]? := fun b hb => Ab _ _ (by omega)
 have d6 : (w5.alloc (.cells #[] 2)).heap[Q + 1]? = some (.cells #[] 2) := s5 ▸ heap_alloc_new w5 (.cells #[] 2)
 have hx6 : LsR (.slice xa ln xc) xs (w5.alloc (.cells #[] 2)) := hx5.same fun b hb => o6 b (by omega)
 try simp only [s5]
 generalize w5.alloc (.cells #[] 2) = w6 at *
 repeat (first | (refine Walk.oq ?_; try walk_nrm) | (refine Ax ?_; walk_nrm))
 have hrw := hx6.rwR
 rw [hln] at hrw
 refine Walk.copiedT (.tmp 20) (.tmp 21) 22 2 _ (.int .i64 0) 1 8 (by kernel_rfl) hiI.symm (by rfl) (by rfl) (by rfl) (by rfl) (by decide) Ao (by rfl) (by decide) rfl (Q + 1) d6 (hA _) (.slice xa ln xc) ln (xs.map fun z => .int .i64 z) hrw (by simp [hln]) (fun u hu => by obtain ⟨y, _, rfl⟩ := List.mem_map.1 hu; rfl) (by simp [maxLen]; omega) (by omega) rfl rfl (fun g cap w7 hown hO7 hZ7 => ?_)
 clear hrw d6
 have d7 : w7.heap[Q]? = some (.cells #[y0, y1, .slice za sn zc, .bool y3] 31) := (hO7 Q (by omega) (by omega)).trans ((o6 Q (by omega)).trans d5)
 have low7 : ∀ b, b < Q -> w7.heap[b]? = w3.heap[b]? := fun b hb => (hO7 b (by omega) (by omega)).trans ((o6 b (by omega)).trans (o5 b hb))
 have hx7 : LsR (.slice xa ln xc) xs w7 := hx.same fun b hb => (low7 b (by omega)).trans (hO3 b (by omega))
 clear o6 hO7 hx6 hx5 o5 d5 s5
 walk_nrm
 repeat (first | (refine Walk.oq ?_; try walk_nrm) | (refine Ax ?_; walk_nrm))
 (refine Walk.oa ?_; try walk_nrm)
 have s8 : (w7.alloc (.cells #[.int .i64 77] 2)).heap.size = w7.heap.size + 1 := by simp
 have o8 : ∀ b, b < w7.heap.size -> (w7.alloc (.cells #[.int .i64 77] 2)).heap[b]? = w7.heap[b]? := fun b hb => Ab _ _ hb
 have d8 := heap_alloc_new w7 (.cells #[.int .i64 77] 2)
 have hown8 := Aw hown (w' := w7.alloc (.cells #[.int .i64 77] 2)) fun b hb => o8 b (hown.lt b hb).2
 generalize hE8 : w7.heap.size = E8 at *
 generalize w7.alloc (.cells #[.int .i64 77] 2) = w8 at *
 repeat (first | (refine Walk.oq ?_; try walk_nrm) | (refine Ax ?_; walk_nrm))
 refine Walk.append (.tmp 22) (.tmp 23) 22 Ao (by rfl) (by decide) rfl (Q + 1) 2 _ (.int .i64 0) 1 8 (by kernel_rfl) hiI.symm (by rfl) (by rfl) (by rfl) (by rfl) (by decide) (.slice (some ⟨g, 0, none⟩) ln cap) ln (xs.map fun z => .int .i64 z) rfl hown8 ⟨E8, 0, none⟩ 1 1 [.int .i64 77] rfl (by rfl) (fun j u hu => ?_) (by simp [Value.oneCell']) (by decide) (by simp [maxLen]; omega) (by omega) (by omega) (fun g _ => hA g) (fun g2 cap2 w9 hown9 hg9 hat9 hlt9 => ?_)
 ·rw [Bj, Nat.zero_add]
  refine (Ad d8 j).trans ?_
  simpa using hu
 have hgq : Q + 1 <= g := (hown.lt g rfl).1
 have hO9 : ∀ b, b < Q + 1 -> w9.heap[b]? = w7.heap[b]? := fun b hb => (hg9.block b (by omega) (fun e => by simp only [Value.ownBlock, Option.some.injEq] at e; omega)).trans (o8 b (by omega))
 have hs9 := hg9.size
 have hx9 : LsR (.slice xa ln xc) xs w9 := hx.same fun b hb => (hO9 b (by omega)).trans ((low7 b (by omega)).trans (hO3 b (by omega)))
 have hcap := row_cap hown9
 have hin : LsR (.slice (some ⟨g2, 0, none⟩) ln cap2) xs w9 := by
  have h := row_lsP (l := xs) hown9 (fun j z hz => by
   have hj := (List.getElem?_eq_some_iff.1 hz).1
   rw [List.getElem?_append_left (by simp; exact hj), List.getElem?_map, hz]
   rfl) (by omega)
  rw [hln] at h
  exact h
 have h77 : w9.cell? ⟨g2, ln, none⟩ = some (.int .i64 77) := by
  obtain ⟨g', e, _, _, hc⟩ := Jh hown9 (j := ln) (x := .int .i64 77) (by rw [List.getElem?_append_right (by simp [hln])]; simp [hln])
  cases e
  exact hc
 have d9 : w9.heap[Q]? = some (.cells #[y0, y1, .slice za sn zc, .bool y3] 31) := (hO9 Q (by omega)).trans d7
 have low9 : ∀ b, b < Q -> w9.heap[b]? = w3.heap[b]? := fun b hb => (hO9 b (by omega)).trans (low7 b hb)
 have hg2 : g2 < w9.heap.size := hlt9
 clear hO9 hg9 hat9 hown9 d8 hown8 o8 s8 hown hx7 d7 low7 hlt9
 have hs := fun w => (Fy Ff hiI.symm (some ⟨g2, 0, none⟩) (ln + 1) cap2 ln (by omega) (.inr ⟨_, rfl⟩) w #[]).1
 have hse := fun w es => (Fy Ff hiI.symm (some ⟨g2, 0, none⟩) (ln + 1) cap2 ln (by omega) (.inr ⟨_, rfl⟩) w es).2
 have hn1 := new_w (main := true) (V := fun _ => none) w9 _ xs hin (by omega) (fun b _ => hA b)
 rw [hln, hk] at hn1
 have hQ9 : Q < w9.heap.size := (Array.getElem?_eq_some_iff.1 d9).1
 clear hcap hin
 walk_nrm
 refine Aa z4 ?_
 refine Ah (Post := fun v w' => v = .pointer (some ⟨w9.heap.size, 0, none⟩) /\ SqI w9.heap.size k (Ef xs) w' /\ (∀ b, b < w9.heap.size -> w'.heap[b]? = w9.heap[b]?) /\ w9.heap.size < w'.heap.size) ?_ Ao (by rfl) (by decide) rfl Try.func16 (by kernel_rfl) (by rfl) ?_
 ·walk_nrm
  exact hn1
 rintro v w10 ⟨rfl, I10, O10, Z10⟩
 clear hn1 hs hse
 have hx10 : LsR (.slice xa ln xc) xs w10 := hx9.same O10
 have hn1 := new_w (main := true) (V := fun _ => none) w10 _ xs hx10 (by omega) (fun b _ => hA b)
 rw [hln, hk] at hn1
 clear hx9 hx10
 generalize hkb : w9.heap.size = kb at *
 walk_nrm
 repeat (first | (refine Walk.oq ?_; try walk_nrm) | (refine Ax ?_; walk_nrm))
 refine Ah (Post := fun v w' => v = .pointer (some ⟨w10.heap.size, 0, none⟩) /\ SqI w10.heap.size k (Ef xs) w' /\ (∀ b, b < w10.heap.size -> w'.heap[b]? = w10.heap[b]?) /\ w10.heap.size < w'.heap.size) ?_ Ao (by rfl) (by decide) rfl Try.func16 (by kernel_rfl) (by rfl) ?_
 ·walk_nrm
  exact hn1
 rintro v w11 ⟨rfl, I11, O11, Z11⟩
 clear hn1
 generalize hlb : w10.heap.size = lb at *
 walk_nrm
 repeat (first | (refine Walk.oq ?_; try walk_nrm) | (refine Ax ?_; walk_nrm))
 (refine Walk.oa ?_; try walk_nrm)
 have s12 : (w11.alloc (.cells #[.int .i64 0] 39)).heap.size = w11.heap.size + 1 := by simp
 have o12 : ∀ b, b < w11.heap.size -> (w11.alloc (.cells #[.int .i64 0] 39)).heap[b]? = w11.heap[b]? := fun b hb => Ab _ _ hb
 have d12 := heap_alloc_new w11 (.cells #[.int .i64 0] 39)
 generalize hp : w11.heap.size = p at *
 generalize w11.alloc (.cells #[.int .i64 0] 39) = w12 at *
 have low : ∀ b, b < kb -> w12.heap[b]? = w9.heap[b]? := fun b hb => (o12 b (by omega)).trans ((O11 b (by omega)).trans (O10 b hb))
 have Ik : SqI kb k (Ef xs) w12 := I10.old ((o12 kb (by omega)).trans (O11 kb (by omega)))
 have Il : SqI lb k (Ef xs) w12 := I11.old (o12 lb (by omega))
 have dQ : w12.heap[Q]? = some (.cells #[y0, y1, .slice za sn zc, .bool y3] 31) := (low Q (by omega)).trans d9
 have lowQ : ∀ b, b < Q -> w12.heap[b]? = w3.heap[b]? := fun b hb => (low b (by omega)).trans (low9 b hb)
 have c77 : w12.cell? ⟨g2, ln, none⟩ = some (.int .i64 77) := (World.cell?_of_block (a := ⟨g2, ln, none⟩) (low g2 (by omega))).trans h77
 have c2 : w12.cell? ⟨Q, 2, none⟩ = some (.slice za sn zc) := (Ad dQ 2).trans rfl
 have c3 : w12.cell? ⟨Q, 3, none⟩ = some (.bool y3) := (Ad dQ 3).trans rfl
 have hp1 := fun w => Br (P := Try.prog) 35 Dc (some ⟨kb, 0, none⟩) w
 have hp2 := fun w es => Cb (P := Try.prog) 35 Dc (some ⟨kb, 0, none⟩) w es
 have hp3 := fun w => Br (P := Try.prog) 35 Dc (some ⟨lb, 0, none⟩) w
 have hp4 := fun w es => Cb (P := Try.prog) 35 Dc (some ⟨lb, 0, none⟩) w es
 simp only [Option.isNone_some] at hp1 hp3
 have cal0 : CalQ kb lb k p (Ef xs) 0 w12 w12 := ⟨Ik, Il, d12, fun _ _ _ _ _ => rfl, Nat.le_refl _⟩
 have hlen := len_w (main := true) (V := fun _ => none) w12 Ik
 have hve := In (main := true) (V := fun _ => none) hA w12 Ik
 have hv0 : (Ef xs).v = 0 := rfl
 rw [hv0] at hve
 have hw1 : IntKind.i64.wrap ((sn : Int) - 1) = (y : Int) := by rw [IntKind.wrap_i64]; omega
 have hne : (((k : Int) + 1) != (y : Int)) = false := by simp; omega
 have hl0 : (0 : Int) <= ln := by omega
 have hl1 : decide ((ln : Int) < (ln : Int) + 1) = true := by simp; omega
 have hl2 : (ln : Int) < (ln : Int) + 1 := by omega
 have hZk : Q < kb /\ kb < lb /\ lb < p := ⟨by omega, by omega, by omega⟩
 clear low low9 I10 I11 O10 O11 o12 d12 s12 h77 d9 Ik Il hv0 hs1 hs2 hy1 hy2 hx hone
 try walk_nrm
 cases y3 with
 | true =>
  refine Aa z4 ?_
  exact .stop fun d => ⟨y0, y1, za, zc, true, w3, Q, hY, hQ.symm, hO3, by omega, dQ, lowQ, .inl ⟨rfl, ⟨_, rfl, rfl, rfl, rfl, rfl, rfl⟩⟩⟩
 | false =>
  refine Aa z4 ?_
  refine Walk.callV (x := .int .i64 ((k : Int) + 1)) (W := w12) ?_ Ao (by rfl) (by decide) rfl Try.func17 (by kernel_rfl) (by rfl) ?_
  ·walk_nrm
   exact hlen
  clear hlen
  walk_nrm
  repeat (first | (refine Walk.oq ?_; try walk_nrm) | (refine Ax ?_; walk_nrm))
  refine Ah (Post := fun v w' => v = .int .i64 0 /\ Calm kb k (Ef xs) w12 w') ?_ Ao (by rfl) (by decide) rfl Try.func18 (by kernel_rfl) (by rfl) ?_
  ·walk_nrm
   exact hve
  rintro v w13 ⟨rfl, hI, hO, hZ⟩
  clear hve
  obtain ⟨z1, z2, z3⟩ := hZk
  have hpl := (Array.getElem?_eq_some_iff.1 cal0.cn).1
  have dQ' := (hO Q (by omega) (by omega)).trans dQ
  have lowQ' : ∀ b, b < Q -> w13.heap[b]? = w3.heap[b]? := fun b hb => (hO b (by omega) (by omega)).trans (lowQ b hb)
  have cal : CalQ kb lb k p (Ef xs) 0 w13 w13 := ⟨hI, cal0.il.old (hO lb (by omega) (by omega)), (hO p (by omega) (by omega)).trans cal0.cn, fun _ _ _ _ _ => rfl, Nat.le_refl _⟩
  have hcal : ∀ d, CalQ kb lb k p (Ef xs) 0 (w13.at d) (w13.at d) := fun d => ⟨cal.ik.old rfl, cal.il.old rfl, cal.cn, fun _ _ _ _ _ => rfl, Nat.le_refl _⟩
  clear cal0 dQ lowQ c77 c2 c3 hp1 hp2 hp3 hp4
  walk_nrm
  refine Aa z4 ?_
  refine Walk.ctl rfl (fun w => stepG_loop) ?_
  refine .stop fun d => ⟨y0, y1, za, zc, false, w3, Q, hY, hQ.symm, hO3, by omega, dQ', lowQ', .inr ⟨rfl, .slice (some ⟨g2, 0, none⟩) (ln + 1) cap2, kb, lb, p, Am ?_, z1, z2, z3, hcal d⟩⟩
  simp only [Kh]
  rfl
section
structure Grew (S S' : Nat -> Prop) (w w' : World) : Prop where
 chg : Chg S w w'
 own : ∀ b, S' b -> S b ∨ w.heap.size <= b
theorem Grew.trans {S S1 S2 : Nat -> Prop} {w w1 w2 : World} (h1 : Grew S S1 w w1) (h2 : Grew S1 S2 w1 w2) : Grew S S2 w w2 :=
 ⟨h1.chg.trans h2.chg fun b hb h => (h1.own b h).resolve_right (by omega), fun b h => (h2.own b h).elim (h1.own b) fun h => .inr (Nat.le_trans h1.chg.size h)⟩
theorem Got.grew {M cg tb n : Nat} {T T' : Nat -> R8} {w w' : World} (h : Got M cg tb n T T' w w') : Grew (No M cg tb n T) (No M cg tb n T') w w' := ⟨h.chg, h.own⟩
def R8.new (oa : Option Addr) (ln oc i : Nat) (ops : List OpV) : R8 := ⟨.slice oa ln oc, ops, .slice none 0 0, [], i, 0, 0, 0, 0, .slice none 0 0, [], True, fun _ => False⟩
theorem Hj (oa : Option Addr) (ln oc i : Nat) (ops : List OpV) (b : Nat) : ¬ (R8.new oa ln oc i ops).own b := by
 rintro (h | ⟨_, h⟩)
 ·exact h
 ·cases h
def Qb (oa : Option Addr) (ln oc i : Nat) : Obj := .cells #[.slice oa ln oc, .slice none 0 0, .int .i64 i, .int .i64 0, .int .i64 0, .int .i64 0, .int .i64 0, .slice none 0 0] 112
section
variable {a0 M cg cc tb tc n m : Nat} {ta : Option Addr} {Sx : Sq} {T : Nat -> R8} {main : Bool}
def Pz (a0 M cg cc m : Nat) (Sx : Sq) (T : Nat -> R8) (tb i : Nat) (t : R8) (w : World) (g cap : Nat) (w1 : World) : Prop :=
 M8 a0 M cg cc g cap (i + 1) m (some ⟨g, 0, none⟩) Sx (upd T i t) w1 /\ Grew (No M cg tb i T) (No M cg g (i + 1) (upd T i t)) w w1
theorem thread_le {i N : Nat} (hi : i < N) (hN : N <= 64) (b off n0 tcc : Nat) (sv : Value) (mo : Int) (R : Nat) (oa : Option Addr) (ln oc : Nat) (ops : List OpV) (hcap : ln <= oc) (hl : ln <= 65536) (had : (oa = none /\ oc = 0) ∨ ∃ p, oa = some p) (hn0 : N <= n0) (w : World) (I : M8 a0 M cg cc tb tc i m ta Sx T w) (hz : i = 0 -> ta = none /\ tc = 0) (hM0 : i = 0 -> tb = M) (ha0 : a0 <= w.heap.size)
  (hh : w.cell? ⟨b, off + i, none⟩ = some (.slice oa ln oc)) (hO : OpsAt a0 (.slice oa ln oc) ops w) (P : Nat -> Nat -> World -> Prop)
  (hset : ∀ g cap w1, Pz a0 M cg cc m Sx T tb i (R8.new oa ln oc i ops) w g cap w1 -> CallW Try.prog main (fun _ => none) 52 #[.pointer (some ⟨M, 0, none⟩), .int .i64 i] w1 (fun v w2 => v = .tuple #[] /\ P g cap w2)) (u : Nat -> Value) (cs : List Frame) :
  Walk Try.prog main (DR (fun _ => none)) (fun g' w' => (∃ u, g' = G (hdRun0 M (.slice (some ⟨b, off, none⟩) n0 tcc) sv mo R N (i + 1) u) cs) /\ ∃ g cap w2 d, P g cap w2 /\ w' = w2.at d) (G (hdRun0 M (.slice (some ⟨b, off, none⟩) n0 tcc) sv mo R N i u) cs) w := by
 have hb1 : decide ((65536 : Int) < ln) = false := by simp; omega
 have hb2 : decide (65536 < ln) = false := by simp; omega
 have hi0 : (0 : Int) <= i := by omega
 have hi1 : decide ((i : Int) < n0) = true := by simp; omega
 have hi3 : decide (i < n0) = true := by simp; omega
 have hi4 : (i : Int) < n0 := by omega
 have hi5 : decide ((i : Int) < N) = true := by simp; omega
 have hi6 : decide (i < N) = true := by simp; omega
 have hw1 : IntKind.wrap .i64 ((i : Int) + 1) = (i : Int) + 1 := by rw [IntKind.wrap_i64]; omega
 have hcc : ((i + 1 : Nat) : Int) = (i : Int) + 1 := by simp
 have hiT := Option.some_get (show (Try.prog.info? 112).isSome = true by kernel_rfl)
 have c1 : w.cell? ⟨M, 2, none⟩ = some (.slice ta i tc) := (Ad I.hd 2).trans rfl
 have hrow := I.row hz
 obtain ⟨b1, b2, b3, b4⟩ := I.base
 obtain ⟨l1, l2, l3⟩ := I.lt
 conv => arg 5; unfold hdRun0
 refine Aa z37 ?_
 (refine Walk.oa ?_; try walk_nrm)
 have e1 : w.alloc (.cells #[.slice oa ln oc, .slice none 0 0, .int .i64 i, .int .i64 0, .int .i64 0, .int .i64 0, .int .i64 0, .slice none 0 0] 112) = w.alloc (Qb oa ln oc i) := rfl
 try rw [e1]
 clear e1
 have d1 := heap_alloc_new w (Qb oa ln oc i)
 have o1 : ∀ x, x < w.heap.size -> (w.alloc (Qb oa ln oc i)).heap[x]? = w.heap[x]? := fun x hx => Ab _ _ hx
 have s1 : (w.alloc (Qb oa ln oc i)).heap.size = w.heap.size + 1 := by simp
 have hrow1 : (w.alloc (Qb oa ln oc i)).ownsRow a0 112 8 (.slice ta i tc) i (Ej T i) := Aw hrow fun g hg => o1 g (hrow.lt g hg).2
 have I1 := I.same o1
 have hO1 : OpsAt a0 (.slice oa ln oc) ops (w.alloc (Qb oa ln oc i)) := hO.same fun x _ hx => o1 x hx
 have hfar : ∀ x, x < w.heap.size -> (Value.slice ta i tc).ownBlock ≠ some x -> ∀ w3, (w.alloc (Qb oa ln oc i)).grownBy w3 (Value.slice ta i tc).ownBlock -> w3.heap[x]? = w.heap[x]? := fun x hx hne w3 hg => (hg.block x (by omega) (fun e => hne e.symm)).trans (o1 x hx)
 have hob : ∀ x, (Value.slice ta i tc).ownBlock = some x -> No M cg tb i T x /\ x ≠ M /\ a0 <= x := fun x hx => by
  by_cases h0 : i = 0
  ·obtain ⟨rfl, rfl⟩ := hz h0
   cases hx
  ·obtain ⟨rfl, _⟩ := I.ts (by omega)
   simp only [Value.ownBlock, Option.some.injEq] at hx
   subst hx
   exact ⟨.inr (.inr (.inl rfl)), Ne.symm (b4 (by omega)).2.1, (b4 (by omega)).1⟩
 generalize hS : w.heap.size = S at *
 generalize hw0 : w.alloc (Qb oa ln oc i) = w0 at *
 repeat (first | (refine Walk.oq ?_; try walk_nrm) | (refine Ax ?_; walk_nrm))
 refine Walk.append (.tmp 44) (.tmp 48) 108 Ao (by rfl) (by decide) rfl a0 112 _ (.agg #[.slice none 0 0, .slice none 0 0, .int .i64 0, .int .i64 0, .int .i64 0, .int .i64 0, .int .i64 0, .slice none 0 0]) 8 112 (by kernel_rfl) hiT.symm (by rfl) (by rfl) (by rfl) (by rfl) (by decide) (.slice ta i tc) i (Ej T i) rfl hrow1 ⟨S, 0, none⟩ 1 1 (R8.new oa ln oc i ops).cells rfl (by rfl) (fun j v hv => ?_) (by intro v hv; simp only [R8.cells, R8.new, List.mem_cons, List.not_mem_nil, or_false] at hv; rcases hv with rfl | rfl | rfl | rfl | rfl | rfl | rfl | rfl <;> rfl) (by decide) (by simp [maxLen]; omega) (by omega) (by omega) (fun g _ => Oi g) (fun g cap w3 hown hg hat hlt => ?_)
 ·rw [Bj, Nat.zero_add]
  refine (Ad d1 j).trans ?_
  simpa [R8.cells, R8.new] using hv
 have hgs := hg.size
 have hMw : w3.heap[M]? = w.heap[M]? := hfar M l1 (fun e => (hob M e).2.1 rfl) w3 hg
 have I3 := I.push hz (R8.new oa ln oc i ops) (Hj oa ln oc i ops) g cap w3 hown (fun x hx hne => hfar x (by omega) hne w3 hg) (hat.imp id fun h => by omega) ⟨hO1.same fun x hx hw => hg.block x hw fun e => by have := (hob x e.symm).2.2; omega, RowA.nil _ _ _, fun _ => ⟨rfl, .inl ⟨rfl, rfl⟩⟩, fun _ b hb => (by cases hb), fun b hb => hb.elim⟩
 have hcM : w3.cell? ⟨M, 2, none⟩ = some (.slice ta i tc) := (World.cell?_of_block (a := ⟨M, 2, none⟩) hMw).trans c1
 have hzM : w3.frozen? ⟨M, 2, none⟩ = false := An (hMw.trans I.hd) 2
 have G3 : Grew (No M cg tb i T) (No M cg g (i + 1) (upd T i (R8.new oa ln oc i ops))) w (w3.setCell ⟨M, 2, none⟩ (.slice (some ⟨g, 0, none⟩) (i + 1) cap)) := by
  refine ⟨⟨by rw [Ai]; omega, fun x hx hn => ?_⟩, fun x hx => ?_⟩
  ·rw [Ac _ _ _ _ (fun e => hn (.inl e))]
   exact hfar x (by omega) (fun e => hn (hob x e).1) w3 hg
  ·rcases hx with hx | hx | hx | ⟨k, hk, hx⟩
   ·exact .inl (.inl hx)
   ·exact .inl (.inr (.inl hx))
   ·subst hx
    rcases hat with h | h
    ·exact .inl (hob _ h).1
    ·exact .inr (by omega)
   ·by_cases e : k = i
    ·subst e
     rw [upd_same] at hx
     exact absurd hx (Hj oa ln oc _ ops x)
    ·rw [upd_ne _ _ e] at hx
     exact .inl (.inr (.inr (.inr ⟨k, by omega, hx⟩)))
 have hT := hset g cap _ ⟨I3, G3⟩
 clear hrow1 I1 hO1 hrow hfar hob d1 o1 hown hset
 walk_nrm
 repeat (first | (refine Walk.oq ?_; try walk_nrm) | (refine Ax ?_; walk_nrm))
 (have hfr := Jr M 2; refine Walk.os hfr hcM ?_; clear hfr; try walk_nrm)
 generalize w3.setCell ⟨M, 2, none⟩ (.slice (some ⟨g, 0, none⟩) (i + 1) cap) = w4 at *
 clear I I3 G3 hg hat hMw hcM hzM c1 hh hO
 try walk_nrm
 refine Aa z37 ?_
 refine Ah (Post := fun v w' => v = .tuple #[] /\ P g cap w') ?_ Ao (by rfl) (by decide) rfl Try.func52 (by kernel_rfl) (by rfl) ?_
 ·walk_nrm
  exact hT
 rintro v w5 ⟨rfl, hP⟩
 walk_nrm
 refine Aa z37 ?_
 refine Walk.ctl rfl (fun w => stepG_inLoop) ?_
 refine .stop fun d => ⟨Am ?_, g, cap, w5, d, hP, rfl⟩
 simp only [hdRun0, hcc]
 rfl
theorem thread_gt {i N : Nat} (hi : i < N) (hN : N <= 64) (b off n0 tcc : Nat) (sv : Value) (mo : Int) (R : Nat) (oa : Option Addr) (ln oc : Nat) (ops : List OpV) (hcap : ln <= oc) (hl : 65536 < ln) (had : (oa = none /\ oc = 0) ∨ ∃ p, oa = some p) (hn0 : N <= n0) (w : World) (I : M8 a0 M cg cc tb tc i m ta Sx T w) (hz : i = 0 -> ta = none /\ tc = 0) (hM0 : i = 0 -> tb = M) (ha0 : a0 <= w.heap.size)
  (hh : w.cell? ⟨b, off + i, none⟩ = some (.slice oa ln oc)) (hO : OpsAt a0 (.slice oa 65536 oc) ops w) (P : Nat -> Nat -> World -> Prop)
  (hset : ∀ g cap w1, Pz a0 M cg cc m Sx T tb i (R8.new oa 65536 oc i ops) w g cap w1 -> CallW Try.prog main (fun _ => none) 52 #[.pointer (some ⟨M, 0, none⟩), .int .i64 i] w1 (fun v w2 => v = .tuple #[] /\ P g cap w2)) (u : Nat -> Value) (cs : List Frame) :
  Walk Try.prog main (DR (fun _ => none)) (fun g' w' => (∃ u, g' = G (hdRun0 M (.slice (some ⟨b, off, none⟩) n0 tcc) sv mo R N (i + 1) u) cs) /\ ∃ g cap w2 d, P g cap w2 /\ w' = w2.at d) (G (hdRun0 M (.slice (some ⟨b, off, none⟩) n0 tcc) sv mo R N i u) cs) w := by
 have hb1 : decide ((65536 : Int) < ln) = true := by simp; omega
 have hb2 : decide (65536 < ln) = true := by simp; omega
 have hiOp := Option.some_get (show (Try.prog.info? 47).isSome = true by kernel_rfl)
 have hsl : ∀ w, (Instr.sliceAt 34 (.slice oa ln oc) none (some (.int .i64 65536)) none).run Try.prog w = .ok (.slice oa 65536 oc) w := fun w => (Fy huOps hiOp.symm oa ln oc 65536 (by omega) had w #[]).1
 have hse : ∀ w es, (Instr.sliceAt 34 (.slice oa ln oc) none (some (.int .i64 65536)) none).events Try.prog w es = es := fun w es => (Fy huOps hiOp.symm oa ln oc 65536 (by omega) had w es).2
 have hi0 : (0 : Int) <= i := by omega
 have hi1 : decide ((i : Int) < n0) = true := by simp; omega
 have hi3 : decide (i < n0) = true := by simp; omega
 have hi4 : (i : Int) < n0 := by omega
 have hi5 : decide ((i : Int) < N) = true := by simp; omega
 have hi6 : decide (i < N) = true := by simp; omega
 have hw1 : IntKind.wrap .i64 ((i : Int) + 1) = (i : Int) + 1 := by rw [IntKind.wrap_i64]; omega
 have hcc : ((i + 1 : Nat) : Int) = (i : Int) + 1 := by simp
 have hiT := Option.some_get (show (Try.prog.info? 112).isSome = true by kernel_rfl)
 have c1 : w.cell? ⟨M, 2, none⟩ = some (.slice ta i tc) := (Ad I.hd 2).trans rfl
 have hrow := I.row hz
 obtain ⟨b1, b2, b3, b4⟩ := I.base
 obtain ⟨l1, l2, l3⟩ := I.lt
 conv => arg 5; unfold hdRun0
 refine Aa z37 ?_
 (refine Walk.oa ?_; try walk_nrm)
 have e1 : w.alloc (.cells #[.slice oa 65536 oc, .slice none 0 0, .int .i64 i, .int .i64 0, .int .i64 0, .int .i64 0, .int .i64 0, .slice none 0 0] 112) = w.alloc (Qb oa 65536 oc i) := rfl
 try rw [e1]
 clear e1
 have d1 := heap_alloc_new w (Qb oa 65536 oc i)
 have o1 : ∀ x, x < w.heap.size -> (w.alloc (Qb oa 65536 oc i)).heap[x]? = w.heap[x]? := fun x hx => Ab _ _ hx
 have s1 : (w.alloc (Qb oa 65536 oc i)).heap.size = w.heap.size + 1 := by simp
 have hrow1 : (w.alloc (Qb oa 65536 oc i)).ownsRow a0 112 8 (.slice ta i tc) i (Ej T i) := Aw hrow fun g hg => o1 g (hrow.lt g hg).2
 have I1 := I.same o1
 have hO1 : OpsAt a0 (.slice oa 65536 oc) ops (w.alloc (Qb oa 65536 oc i)) := hO.same fun x _ hx => o1 x hx
 have hfar : ∀ x, x < w.heap.size -> (Value.slice ta i tc).ownBlock ≠ some x -> ∀ w3, (w.alloc (Qb oa 65536 oc i)).grownBy w3 (Value.slice ta i tc).ownBlock -> w3.heap[x]? = w.heap[x]? := fun x hx hne w3 hg => (hg.block x (by omega) (fun e => hne e.symm)).trans (o1 x hx)
 have hob : ∀ x, (Value.slice ta i tc).ownBlock = some x -> No M cg tb i T x /\ x ≠ M /\ a0 <= x := fun x hx => by
  by_cases h0 : i = 0
  ·obtain ⟨rfl, rfl⟩ := hz h0
   cases hx
  ·obtain ⟨rfl, _⟩ := I.ts (by omega)
   simp only [Value.ownBlock, Option.some.injEq] at hx
   subst hx
   exact ⟨.inr (.inr (.inl rfl)), Ne.symm (b4 (by omega)).2.1, (b4 (by omega)).1⟩
 generalize hS : w.heap.size = S at *
 generalize hw0 : w.alloc (Qb oa 65536 oc i) = w0 at *
 repeat (first | (refine Walk.oq ?_; try walk_nrm) | (refine Ax ?_; walk_nrm))
 refine Walk.append (.tmp 44) (.tmp 48) 108 Ao (by rfl) (by decide) rfl a0 112 _ (.agg #[.slice none 0 0, .slice none 0 0, .int .i64 0, .int .i64 0, .int .i64 0, .int .i64 0, .int .i64 0, .slice none 0 0]) 8 112 (by kernel_rfl) hiT.symm (by rfl) (by rfl) (by rfl) (by rfl) (by decide) (.slice ta i tc) i (Ej T i) rfl hrow1 ⟨S, 0, none⟩ 1 1 (R8.new oa 65536 oc i ops).cells rfl (by rfl) (fun j v hv => ?_) (by intro v hv; simp only [R8.cells, R8.new, List.mem_cons, List.not_mem_nil, or_false] at hv; rcases hv with rfl | rfl | rfl | rfl | rfl | rfl | rfl | rfl <;> rfl) (by decide) (by simp [maxLen]; omega) (by omega) (by omega) (fun g _ => Oi g) (fun g cap w3 hown hg hat hlt => ?_)
 ·rw [Bj, Nat.zero_add]
  refine (Ad d1 j).trans ?_
  simpa [R8.cells, R8.new] using hv
 have hgs := hg.size
 have hMw : w3.heap[M]? = w.heap[M]? := hfar M l1 (fun e => (hob M e).2.1 rfl) w3 hg
 have I3 := I.push hz (R8.new oa 65536 oc i ops) (Hj oa 65536 oc i ops) g cap w3 hown (fun x hx hne => hfar x (by omega) hne w3 hg) (hat.imp id fun h => by omega) ⟨hO1.same fun x hx hw => hg.block x hw fun e => by have := (hob x e.symm).2.2; omega, RowA.nil _ _ _, fun _ => ⟨rfl, .inl ⟨rfl, rfl⟩⟩, fun _ b hb => (by cases hb), fun b hb => hb.elim⟩
 have hcM : w3.cell? ⟨M, 2, none⟩ = some (.slice ta i tc) := (World.cell?_of_block (a := ⟨M, 2, none⟩) hMw).trans c1
 have hzM : w3.frozen? ⟨M, 2, none⟩ = false := An (hMw.trans I.hd) 2
 have G3 : Grew (No M cg tb i T) (No M cg g (i + 1) (upd T i (R8.new oa 65536 oc i ops))) w (w3.setCell ⟨M, 2, none⟩ (.slice (some ⟨g, 0, none⟩) (i + 1) cap)) := by
  refine ⟨⟨by rw [Ai]; omega, fun x hx hn => ?_⟩, fun x hx => ?_⟩
  ·rw [Ac _ _ _ _ (fun e => hn (.inl e))]
   exact hfar x (by omega) (fun e => hn (hob x e).1) w3 hg
  ·rcases hx with hx | hx | hx | ⟨k, hk, hx⟩
   ·exact .inl (.inl hx)
   ·exact .inl (.inr (.inl hx))
   ·subst hx
    rcases hat with h | h
    ·exact .inl (hob _ h).1
    ·exact .inr (by omega)
   ·by_cases e : k = i
    ·subst e
     rw [upd_same] at hx
     exact absurd hx (Hj oa 65536 oc _ ops x)
    ·rw [upd_ne _ _ e] at hx
     exact .inl (.inr (.inr (.inr ⟨k, by omega, hx⟩)))
 have hT := hset g cap _ ⟨I3, G3⟩
 clear hrow1 I1 hO1 hrow hfar hob d1 o1 hown hset
 walk_nrm
 repeat (first | (refine Walk.oq ?_; try walk_nrm) | (refine Ax ?_; walk_nrm))
 (have hfr := Jr M 2; refine Walk.os hfr hcM ?_; clear hfr; try walk_nrm)
 generalize w3.setCell ⟨M, 2, none⟩ (.slice (some ⟨g, 0, none⟩) (i + 1) cap) = w4 at *
 clear I I3 G3 hg hat hMw hcM hzM c1 hh hO
 try walk_nrm
 refine Aa z37 ?_
 refine Ah (Post := fun v w' => v = .tuple #[] /\ P g cap w') ?_ Ao (by rfl) (by decide) rfl Try.func52 (by kernel_rfl) (by rfl) ?_
 ·walk_nrm
  exact hT
 rintro v w5 ⟨rfl, hP⟩
 walk_nrm
 refine Aa z37 ?_
 refine Walk.ctl rfl (fun w => stepG_inLoop) ?_
 refine .stop fun d => ⟨Am ?_, g, cap, w5, d, hP, rfl⟩
 simp only [hdRun0, hcc]
 rfl
end
end
section
section
variable {a0 M cg cc tb tc n m R : Nat} {ta : Option Addr} {T : Nat -> R8} {main : Bool} {lb : Nat}
theorem M8.keep {Sx : Sq} {w w' : World} (I : M8 a0 M cg cc tb tc n m ta Sx T w) (h : ∀ b, b < w.heap.size -> (b < a0 ∨ No M cg tb n T b) -> w'.heap[b]? = w.heap[b]?) : M8 a0 M cg cc tb tc n m ta Sx T w' := by
 obtain ⟨l1, l2, l3⟩ := I.lt
 refine ⟨(h M l1 (.inr (.inl rfl))).trans I.hd, ?_, fun hn => ?_, fun i hi => ?_, I.far, I.base⟩
 ·obtain ⟨arr, h1, h2⟩ := I.cs
  exact ⟨arr, (h cg l2 (.inr (.inr (.inl rfl)))).trans h1, h2⟩
 ·obtain ⟨e, arr, h1, h2⟩ := I.ts hn
  exact ⟨e, arr, (h tb (l3 hn) (.inr (.inr (.inr (.inl rfl))))).trans h1, h2⟩
 ·have R := I.rows i hi
  exact R.same (fun b hb hw => h b hw (.inl hb)) fun b hb => h b (R.low hb).2 (.inr (.inr (.inr (.inr ⟨i, hi, hb⟩))))
theorem M8.noT {Sx : Sq} {w : World} (I : M8 a0 M cg cc 0 tc 0 m ta Sx T w) : M8 a0 M cg cc M tc 0 m ta Sx T w :=
 ⟨I.hd, I.cs, fun h => absurd h (Nat.lt_irrefl 0), fun i hi => absurd hi (Nat.not_lt_zero i), fun i hi => absurd hi (Nat.not_lt_zero i), I.base.1, I.base.2.1, I.base.2.2.1, fun h => absurd h (Nat.lt_irrefl 0)⟩
structure RN8 (lb : Nat) (a0 M cg cc m R : Nat) (ops : Nat -> List OpV) (W : World) (tb tc : Nat) (ta : Option Addr) (T : Nat -> R8) (k : Nat) (x : OX (Aj lb (m - 1))) (w : World) : Prop where
 I : M8 a0 M cg cc tb tc k m ta x.s T w
 z : k = 0 -> ta = none /\ tc = 0
 zM : k = 0 -> tb = M
 th : ∀ i, i < k -> Th8 m (ops i) (x.th i).left (x.th i).d (x.th i).ans (T i)
 al : ∀ i, i < k -> (T i).ans.length <= (T i).at'
 out : ∀ i, i < k -> (x.out i).isSome = (x.th i).d.isNone
 res : w.heap[R]? = some Fq
 resS : ¬ No M cg tb k T R
 old : ∀ b, b < a0 -> w.heap[b]? = W.heap[b]?
 le : a0 <= w.heap.size
theorem m8S_old {Sx : Sq} {w : World} (I : M8 a0 M cg cc tb tc n m ta Sx T w) (hz : n = 0 -> tb = M) {b : Nat} (h : No M cg tb n T b) : a0 <= b := by
 obtain ⟨b1, b2, b3, b4⟩ := I.base
 rcases h with rfl | rfl | rfl | ⟨k, hk, h⟩
 ·exact b1
 ·exact b2
 ·by_cases h0 : n = 0
  ·have := hz h0; omega
  ·exact (b4 (by omega)).1
 ·exact ((I.rows k hk).low h).1
theorem putO_out {L : La} (x : OX L) (i : Nat) (r : L.Sg × Tst L) (c : Nat) : ((Gi x i r c).out i).isSome = ((Gi x i r c).th i).d.isNone := by
 unfold Gi
 simp only [upd_same]
 cases r.2.d <;> rfl
theorem putO_th {L : La} (x : OX L) (i : Nat) (r : L.Sg × Tst L) (c : Nat) : (Gi x i r c).th i = r.2 := upd_same _ _ _
theorem Gp {L : La} (x : OX L) {i j : Nat} (h : j ≠ i) (r : L.Sg × Tst L) (c : Nat) : (Gi x i r c).th j = x.th j /\ (Gi x i r c).out j = x.out j := ⟨upd_ne _ _ h, upd_ne _ _ h⟩
theorem RN8.more {ops : Nat -> List OpV} {W : World} {k : Nat} {x : OX (Aj lb (m - 1))} {w w1 w2 : World} (hm0 : 0 < m) (H : RN8 lb a0 M cg cc m R ops W tb tc ta T k x w) {oa : Option Addr} {ln oc g cap : Nat} {t' : R8}
  (h1 : Pz a0 M cg cc m x.s T tb k (R8.new oa ln oc k (ops k)) w g cap w1) (hS : Set8 (upd T k (R8.new oa ln oc k (ops k)) k) t') (I2 : M8 a0 M cg cc g cap (k + 1) m (some ⟨g, 0, none⟩) x.s (upd (upd T k (R8.new oa ln oc k (ops k))) k t') w2) (g2 : Got M cg g (k + 1) (upd T k (R8.new oa ln oc k (ops k))) (upd (upd T k (R8.new oa ln oc k (ops k))) k t') w1 w2) :
  RN8 lb a0 M cg cc m R ops W g cap (some ⟨g, 0, none⟩) (upd T k t') (k + 1) (Kr ops x k) w2 := by
 obtain ⟨I1, G1⟩ := h1
 have G := G1.trans g2.grew
 rw [Bc] at I2 G
 rw [upd_same] at hS
 obtain ⟨q, s1, s2, s3, s4⟩ := hS.how
 obtain ⟨th, e1, e2⟩ := settle8 (lb := lb) hm0 (k : Nat) x.s q (R8.new oa ln oc k (ops k)) t' s1 hS.ops s2 s3 s4
 have e1 : Bs (Aj lb (m - 1)) (k : Nat) x.s (ops k) [] = (x.s, th) := e1
 have e2 : Th8 m (ops k) th.left th.d th.ans t' := e2
 have hx : Kr ops x k = Gi x k (x.s, th) x.cnt := by
  unfold Kr
  rw [e1]
 have hRl := (Array.getElem?_eq_some_iff.1 H.res).1
 have hle := G.chg.size
 refine ⟨?_, fun h => absurd h (by omega), fun h => absurd h (by omega), fun i hi => ?_, fun i hi => ?_, fun i hi => ?_, ?_, fun h => ?_, fun b hb => ?_, by have := H.le; omega⟩
 ·rw [hx]; exact I2
 ·rw [hx]
  by_cases e : i = k
  ·subst e
   rw [putO_th, upd_same]
   exact e2
  ·rw [(Gp x e _ _).1, upd_ne _ _ e]
   exact H.th i (by omega)
 ·by_cases e : i = k
  ·subst e
   rw [upd_same, s3, s2]
   show (([] : List Ans) ++ _).length <= 0 + q
   simp
  ·rw [upd_ne _ _ e]
   exact H.al i (by omega)
 ·rw [hx]
  by_cases e : i = k
  ·subst e
   exact putO_out _ _ _ _
  ·rw [(Gp x e _ _).1, (Gp x e _ _).2]
   exact H.out i (by omega)
 ·exact (G.chg.same R hRl H.resS).trans H.res
 ·exact (G.own R h).elim H.resS fun h => by omega
 ·have := H.le
  exact (G.chg.same b (by omega) fun h => by have := m8S_old H.I H.zM h; omega).trans (H.old b hb)
theorem run_threads {N : Nat} (hN : N <= 64) (hm0 : 0 < m) (b off n0 tcc : Nat) (sv : Value) (mo most : Int) (oa : Nat -> Option Addr) (ln oc : Nat -> Nat) (ops : Nat -> List OpV) (hn0 : N <= n0) (W : World) (ha0 : a0 = W.heap.size) (O : OpsIn b off N oa ln oc ops W) (v : Value) (hv : 0 < N -> v = .slice (some ⟨b, off, none⟩) n0 tcc) (cs : List Frame) :
  ∀ (r k : Nat) (tb tc : Nat) (ta : Option Addr) (T : Nat -> R8) (x : OX (Aj lb (m - 1))) (u : Nat -> Value) (w : World), k + r = N -> RN8 lb a0 M cg cc m R ops W tb tc ta T k x w ->
  Walk Try.prog main (DR (fun _ => none)) (fun g w' => (∃ u, g = G (hdRun0 M v sv mo R N N u) cs) /\ ∃ tb tc ta T, RN8 lb a0 M cg cc m R ops W tb tc ta T N (Jo (Ce (Aj lb (m - 1)) N most ops) r k x) w') (G (hdRun0 M v sv mo R N k u) cs) w := by
 intro r
 induction r with
 | zero =>
  intro k tb tc ta T x u w hk H
  have hk' : k = N := hk
  subst hk'
  exact .stop fun d => ⟨⟨u, rfl⟩, tb, tc, ta, T, ⟨H.I.same fun _ _ => rfl, H.z, H.zM, H.th, H.al, H.out, H.res, H.resS, H.old, H.le⟩⟩
 | succ r ih =>
  intro k tb tc ta T x u w hk H
  have hkN : k < N := by omega
  rw [hv (by omega)] at ih ⊢
  have hlen := O.len k hkN
  have hh : w.cell? ⟨b, off + k, none⟩ = some (.slice (oa k) (ln k) (oc k)) := (World.cell?_of_block (a := ⟨b, off + k, none⟩) (H.old b (by rw [ha0]; exact Al (O.hd k hkN)))).trans (O.hd k hkN)
  have hO : ∀ l, l = (ops k).length -> OpsAt a0 (.slice (oa k) l (oc k)) (ops k) w := fun l hl => by
   refine ⟨oa k, oc k, by rw [hl], fun j o ho => ?_⟩
   obtain ⟨b', off', e, c0, c1, c2, c3⟩ := O.ops k hkN j o ho
   have hb' : b' < a0 := by rw [ha0]; exact Al c0
   have hold := H.old b' hb'
   refine ⟨b', off', e, hb', by have := H.le; omega, fun q z hz => (World.cell?_of_block (a := ⟨b', off' + j * 4 + q, none⟩) hold).trans ?_⟩
   match q, hz with
   | 0, hz => cases hz; exact c0
   | 1, hz => cases hz; exact c1
   | 2, hz => cases hz; exact c2
   | 3, hz => cases hz; exact c3
  have hfin : ∀ l, l = (ops k).length -> Walk Try.prog main (DR (fun _ => none)) (fun g' w' => (∃ u, g' = G (hdRun0 M (.slice (some ⟨b, off, none⟩) n0 tcc) sv mo R N (k + 1) u) cs) /\ ∃ g cap w2 d, (∃ w1 t', Pz a0 M cg cc m x.s T tb k (R8.new (oa k) l (oc k) k (ops k)) w g cap w1 /\ Set8 (upd T k (R8.new (oa k) l (oc k) k (ops k)) k) t' /\ M8 a0 M cg cc g cap (k + 1) m (some ⟨g, 0, none⟩) x.s (upd (upd T k (R8.new (oa k) l (oc k) k (ops k))) k t') w2 /\ Got M cg g (k + 1) (upd T k (R8.new (oa k) l (oc k) k (ops k))) (upd (upd T k (R8.new (oa k) l (oc k) k (ops k))) k t') w1 w2) /\ w' = w2.at d) (G (hdRun0 M (.slice (some ⟨b, off, none⟩) n0 tcc) sv mo R N k u) cs) w := by
   intro l hl
   have hset : ∀ g cap w1, Pz a0 M cg cc m x.s T tb k (R8.new (oa k) l (oc k) k (ops k)) w g cap w1 -> CallW Try.prog main (fun _ => none) 52 #[.pointer (some ⟨M, 0, none⟩), .int .i64 k] w1 (fun v w2 => v = .tuple #[] /\ (∃ w1 t', Pz a0 M cg cc m x.s T tb k (R8.new (oa k) l (oc k) k (ops k)) w g cap w1 /\ Set8 (upd T k (R8.new (oa k) l (oc k) k (ops k)) k) t' /\ M8 a0 M cg cc g cap (k + 1) m (some ⟨g, 0, none⟩) x.s (upd (upd T k (R8.new (oa k) l (oc k) k (ops k))) k t') w2 /\ Got M cg g (k + 1) (upd T k (R8.new (oa k) l (oc k) k (ops k))) (upd (upd T k (R8.new (oa k) l (oc k) k (ops k))) k t') w1 w2)) := by
    intro g cap w1 h1
    have hw := settle_w (main := main) (i := k) (n := k + 1) (T := upd T k (R8.new (oa k) l (oc k) k (ops k))) (by omega) (by omega) w1 (by rw [upd_same]; exact Nat.zero_le _) (by rw [upd_same]; show (ops k).length <= 65536; omega) (by rw [upd_same]; exact Nat.le_refl 0) (by rw [upd_same]; rfl) (by have := h1.2.chg.size; have := H.le; omega) h1.1
    intro c cs
    refine (hw c cs).mono ?_
    rintro g' w' ⟨v, ⟨rfl, t', S, I2, g2⟩, rfl⟩
    exact ⟨_, ⟨rfl, w1, t', h1, S, I2, g2⟩, rfl⟩
   by_cases hl6 : ln k <= 65536
   ·have e : l = ln k := by omega
    subst e
    exact thread_le hkN hN b off n0 tcc sv mo R (oa k) (ln k) (oc k) (ops k) (O.cap k hkN) hl6 (O.ad k hkN) hn0 w H.I H.z H.zM H.le hh (hO _ hl) (fun g cap w2 => ∃ w1 t', Pz a0 M cg cc m x.s T tb k (R8.new (oa k) (ln k) (oc k) k (ops k)) w g cap w1 /\ Set8 (upd T k (R8.new (oa k) (ln k) (oc k) k (ops k)) k) t' /\ M8 a0 M cg cc g cap (k + 1) m (some ⟨g, 0, none⟩) x.s (upd (upd T k (R8.new (oa k) (ln k) (oc k) k (ops k))) k t') w2 /\ Got M cg g (k + 1) (upd T k (R8.new (oa k) (ln k) (oc k) k (ops k))) (upd (upd T k (R8.new (oa k) (ln k) (oc k) k (ops k))) k t') w1 w2) hset u cs
   ·have e : l = 65536 := by omega
    subst e
    exact thread_gt hkN hN b off n0 tcc sv mo R (oa k) (ln k) (oc k) (ops k) (O.cap k hkN) (by omega) (O.ad k hkN) hn0 w H.I H.z H.zM H.le hh (hO _ hl) (fun g cap w2 => ∃ w1 t', Pz a0 M cg cc m x.s T tb k (R8.new (oa k) 65536 (oc k) k (ops k)) w g cap w1 /\ Set8 (upd T k (R8.new (oa k) 65536 (oc k) k (ops k)) k) t' /\ M8 a0 M cg cc g cap (k + 1) m (some ⟨g, 0, none⟩) x.s (upd (upd T k (R8.new (oa k) 65536 (oc k) k (ops k))) k t') w2 /\ Got M cg g (k + 1) (upd T k (R8.new (oa k) 65536 (oc k) k (ops k))) (upd (upd T k (R8.new (oa k) 65536 (oc k) k (ops k))) k t') w1 w2) hset u cs
  refine (hfin _ rfl).then ?_
  rintro g' w' ⟨⟨u', rfl⟩, g, cap, w2, d, ⟨w1, t', h1, hS, I2, g2⟩, rfl⟩
  refine Walk.back ?_ d
  exact ih (k + 1) g cap (some ⟨g, 0, none⟩) (upd T k t') (Kr ops x k) u' w2 (by omega) (H.more hm0 h1 hS I2 g2)
end
end
end Go.Proofs.Ytjenoiekfkhafaa
