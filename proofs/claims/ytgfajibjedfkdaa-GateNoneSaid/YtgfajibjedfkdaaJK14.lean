/- Part 14. -/
import Derived.Test.YtgfajibjedfkdaaJK3
import Derived.Test.YtgfajibjedfkdaaJK4
import Derived.Test.YtgfajibjedfkdaaJK5
import Derived.Test.YtgfajibjedfkdaaJK10
import Derived.Test.YtgfajibjedfkdaaJK11
import Derived.Test.YtgfajibjedfkdaaJK12
import Derived.Test.YtgfajibjedfkdaaJK13
import Derived.Laws.OwnMore
set_option linter.unusedSimpArgs false
set_option linter.unusedVariables false
set_option linter.unusedVariables false
set_option maxHeartbeats 8000000
set_option maxRecDepth 100000
namespace Go.Proofs.Ytgfajibjedfkdaa
open Go.Conc Go.RowKit Go.Relay
open Go.ConcN (upd upd_ne upd_same)
section
variable {main : Bool} {V : Nat → Option Wait}
theorem end_zero (B : Nat) (c : Frame) (cs : List Frame) (w : World) (h0 : w.cell? ⟨B, 0, none⟩ = some (.slice none 0 0)) :
    Walk Try.prog main (DR V) (fun g w' => g = G (c.finish (.slice (some ⟨w.heap.size, 0, none⟩) 0 0)) cs ∧ ∃ d, w' = (w.alloc (.cells (madeCells #[.bool false] 0) 4)).at d) (G (Frame.enter Try.prog 115 #[.pointer (some ⟨B, 0, none⟩)] .normal) (c :: cs)) w := by
  rw [enter_at _ Try.func115 rfl]
  simp only [Try.f115, ez, Nat.reduceAdd, Nat.reduceSub]
  repeat (first | refine Walk.cx ?_ | refine Walk.cR ?_ | (refine Walk.oq ?_; try walk_nrm) | (refine Walk.un ?_; walk_nrm))
  have hi4 := Option.some_get (show (Try.prog.info? 4).isSome = true by kernel_rfl)
  refine Walk.make 162 (.tmp 10) (.tmp 10) rfl (by rfl) (by decide) rfl 4 _ (.bool false) 1 1 (by kernel_rfl) hi4.symm (by rfl) (by rfl) (by rfl) 0 (by rfl) (by rfl) (by omega) (by omega) ?_
  have h0' := cell_alloc w (.cells (madeCells #[.bool false] 0) 4) h0
  walk_nrm
  simp only [Value.cells, Nat.mul_one]
  repeat (first | refine Walk.cx ?_ | refine Walk.cR ?_ | (refine Walk.oq ?_; try walk_nrm) | (refine Walk.un ?_; walk_nrm))
  refine Walk.ctl rfl (fun w => stepG_loop) ?_
  repeat (first | refine Walk.cx ?_ | refine Walk.cR ?_ | (refine Walk.oq ?_; try walk_nrm) | (refine Walk.un ?_; walk_nrm))
  exact (Walk.ret1 (Post := fun v w' => v = .slice (some ⟨w.heap.size, 0, none⟩) 0 0 ∧ ∃ d, w' = (w.alloc (.cells (madeCells #[.bool false] 0) 4)).at d) rfl rfl Try.func115 rfl fun d => ⟨by simp, d, rfl⟩).mono fun g w' ⟨v, ⟨e, d, e'⟩, hg⟩ => ⟨by rw [hg, e], d, e'⟩
end
section
section
variable {main : Bool} {V : Nat → Option Wait}
theorem begin_zero' (B tc : Nat) (ta : Option Addr) (c : Frame) (cs : List Frame) (w : World) (h0 : w.cell? ⟨B, 0, none⟩ = some (.slice none 0 0)) :
    Walk Try.prog main (DR V) (fun g w' => g = G (c.finish (.tuple #[])) cs ∧ ∃ d, w' = w.at d) (G (Frame.enter Try.prog 113 #[.pointer (some ⟨B, 0, none⟩), .slice ta 0 tc] .normal) (c :: cs)) w := by
  rw [enter_at _ Try.func113 rfl]
  simp only [Try.f113, ez, Nat.reduceAdd, Nat.reduceSub]
  repeat (first | refine Walk.cx ?_ | refine Walk.cR ?_ | (refine Walk.oq ?_; try walk_nrm) | (refine Walk.un ?_; walk_nrm))
  refine Walk.ctl rfl (fun w => stepG_loop) ?_
  repeat (first | refine Walk.cx ?_ | refine Walk.cR ?_ | (refine Walk.oq ?_; try walk_nrm) | (refine Walk.un ?_; walk_nrm))
  exact Walk.ctl rfl (fun w => stepG_leave rfl rfl Try.func113 (results_none rfl _ _ w) (events_results_none rfl _ _)) (.stop fun d => ⟨rfl, d, rfl⟩)
theorem over_zero' (sa : Option Addr) (m sc tc : Nat) (ta : Option Addr) (most : Int) (og : Value) (c : Frame) (cs : List Frame) (w : World) (hog : CallV Try.prog main V 111 #[og] w (.slice ta 0 tc) w)
    (hs : 0 < m → ∃ s so x, sa = some ⟨s, so, none⟩ ∧ w.cell? ⟨s, so, none⟩ = some (.int .i64 x)) :
    Walk Try.prog main (DR V) (fun g w' => g = G (c.finish (.tuple #[.slice none 0 0, .bool false, .slice (some ⟨w.heap.size + 1, 0, none⟩) 0 0])) cs ∧ ∃ d, w' = ((turnW w 0 most).alloc (.cells (madeCells #[.bool false] 0) 4)).at d)
      (G (Frame.enter Try.prog 81 #[og, .slice sa m sc, .int .i64 most] .normal) (c :: cs)) w := by
  have hs1 : (turnW w 0 most).heap.size = w.heap.size + 1 := by simp [turnW]
  have ht : ∀ i, (turnW w 0 most).cell? ⟨w.heap.size, i, none⟩ = (#[.slice none 0 0, .int .i64 (0 : Nat), .int .i64 (min (max most 0) 1048576), .slice none 0 0] : Array Value)[i]? := fun i => cell_of (heap_alloc_new w _) i
  have t0 := (ht 0).trans rfl
  have t1 := (ht 1).trans rfl
  have t2 := (ht 2).trans rfl
  have t3 := (ht 3).trans rfl
  clear ht
  refine (over_in 0 tc m sc ta sa og most (c :: cs) w hog (nt_in 0 tc ta most (fr23t 0 tc m sc ta sa og most :: c :: cs) w)).then ?_
  rintro _ _ ⟨⟨u0, rfl⟩, d1, rfl⟩
  refine Walk.back ?_ d1
  refine (nt_out w.heap.size 0 u0 (fr23t 0 tc m sc ta sa og most) (c :: cs) _).then ?_
  rintro _ _ ⟨rfl, d2, rfl⟩
  refine Walk.back ?_ d2
  refine (over_begin w.heap.size 0 tc m sc ta sa og most (c :: cs) _ (begin_zero' w.heap.size tc ta _ (c :: cs) _ t0)).then ?_
  rintro _ _ ⟨rfl, d3, rfl⟩
  refine Walk.back ?_ d3
  refine (over_follow w.heap.size 0 tc m sc ta sa og most (c :: cs) _ (follow_in w.heap.size sa m sc _ _)).then ?_
  rintro _ _ ⟨⟨u4, rfl⟩, d4, rfl⟩
  refine Walk.back ?_ d4
  have back : Walk Try.prog main (DR V) (fun g w' => g = G ((fr23b w.heap.size 0 tc m sc ta sa og most).finish (.tuple #[])) (c :: cs) ∧ ∃ d, w' = (turnW w 0 most).at d) (G (hd55 w.heap.size sa m sc 0 u4) (fr23b w.heap.size 0 tc m sc ta sa og most :: c :: cs)) (turnW w 0 most) := by
    rcases Nat.eq_zero_or_pos m with hm | hm
    · subst hm
      refine (follow_past w.heap.size sa 0 sc u4 _ _).then ?_
      rintro _ _ ⟨⟨u5, rfl⟩, d5, rfl⟩
      refine Walk.back ?_ d5
      exact round_over w.heap.size sa 0 sc (0 : Nat) _ none 0 0 u5 _ (c :: cs) _ t1 t2 t3 (by simp)
    · obtain ⟨s, so, x, rfl, hc⟩ := hs hm
      refine follow_over w.heap.size s so m sc 0 x (0 : Nat) _ none 0 0 u4 _ (c :: cs) _ hm ?_ t1 t2 t3 (by simp)
      exact cell_alloc w _ hc
  refine back.then ?_
  rintro _ _ ⟨rfl, d5, rfl⟩
  refine Walk.back ?_ d5
  refine (over_end w.heap.size 0 tc m sc ta sa og most (0 : Nat) (c :: cs) _ t1 (end_zero w.heap.size _ (c :: cs) _ t0)).then ?_
  rintro _ _ ⟨rfl, d6, rfl⟩
  refine Walk.back ?_ d6
  have t3' := cell_alloc _ (.cells (madeCells #[.bool false] 0) 4) t3
  rw [hs1]
  refine (over_out w.heap.size (w.heap.size + 1) 0 tc m sc ta sa og most (0 : Nat) none 0 0 c cs _ t3').mono ?_
  rintro _ _ ⟨rfl, d7, rfl⟩
  exact ⟨by simp, d7, rfl⟩
theorem huOpsS : Try.prog.underlying 56 = some (.slice 73) := by kernel_rfl
theorem firstOps_some (a : Option Addr) (m cap : Nat) (w : World) (hm : m ≤ cap) (ha : a = none ∧ cap = 0 ∨ ∃ p, a = some p) : CallV Try.prog main V 108 #[.slice a m cap] w (.slice a (min m 64) cap) w := by
  refine callW_in Try.func108 rfl fun fr cs => ?_
  simp only [Try.ntmps108, ez, Nat.reduceAdd, Nat.reduceSub]
  have hmn := @events_min_ints Try.prog
  repeat (first | refine Walk.cx ?_ | refine Walk.cR ?_ | (refine Walk.oq ?_; try walk_nrm) | (refine Walk.un ?_; walk_nrm))
  have hmin : min (m : Int) 64 = ((min m 64 : Nat) : Int) := by omega
  rw [hmin]
  have hxl : min m 64 ≤ cap := by omega
  generalize min m 64 = x at hxl ⊢
  have hi := Option.some_get (show (Try.prog.info? 73).isSome = true by kernel_rfl)
  have hs := fun w => (run_slx huOpsS hi.symm a m cap x hxl ha w #[]).1
  have hse := fun w es => (run_slx huOpsS hi.symm a m cap x hxl ha w es).2
  clear hi
  repeat (first | refine Walk.cx ?_ | refine Walk.cR ?_ | (refine Walk.oq ?_; try walk_nrm) | (refine Walk.un ?_; walk_nrm))
  exact Walk.ret1 rfl rfl Try.func108 rfl fun d => ⟨by simp, d, rfl⟩
end
theorem playO_zero (L : La) (s0 : L.Sg) (ops : Nat → List OpV) (most : Int) (sl : List Int) : playO L s0 ops 0 most sl = (x0O L s0, []) := by
  have hov : overA (absO L 0 (min (max most 0) 1048576) ops) (x0O L s0, []) = true := rfl
  have hst : ∀ z, stepA (absO L 0 (min (max most 0) 1048576) ops) (x0O L s0, []) z = (x0O L s0, []) := fun z => by
    unfold stepA
    rw [hov]
    exact if_neg fun h => by cases h.1
  have hfold : ∀ l : List Int, l.foldl (stepA (absO L 0 (min (max most 0) 1048576) ops)) (x0O L s0, []) = (x0O L s0, []) := fun l => by
    induction l with
    | nil => rfl
    | cons z l ih => rw [List.foldl_cons, hst, ih]
  show restA _ _ (sl.foldl _ (x0O L s0, [])) = _
  rw [hfold]
  generalize (absO L 0 (min (max most 0) 1048576) ops).most.toNat = f
  cases f with
  | zero => rfl
  | succ f =>
    unfold restA
    rw [hov]
    rfl
section
variable {L : La} {fdo : FuncId} {first cap : Array Value}
theorem ops_any (hD : DoFn L fdo first cap) (y0 : L.Gh) (s0 : L.Sg) (tv : Value) (most : Int) (ta : Option Addr) (tb toff tc n : Nat) (hta : 0 < n → ta = some ⟨tb, toff, none⟩) (hn : n ≤ 64) (oa : Nat → Option Addr) (ln oc : Nat → Nat) (ops : Nat → List OpV) (sa : Option Addr) (sc : Nat) (sl : List Int) (hsl : sl.length ≤ 17592186044416) (c : Frame) (cs : List Frame) (w : World)
    (I : OpsIn tb toff n oa ln oc ops w) (hI : L.I y0 s0 w) (hns : ∀ i, i < n → ∀ (j : Nat) (o : OpV), (ops i)[j]? = some o → ∀ b off, oa i = some ⟨b, off, none⟩ → ¬ L.sh y0 b)
    (hsc : ∀ (j : Nat) (z : Int), sl[j]? = some z → ∃ s so, sa = some ⟨s, so, none⟩ ∧ w.cell? ⟨s, so + j, none⟩ = some (.int .i64 z) ∧ ¬ L.sh y0 s)
    (hp : ∀ w' : World, (∀ b, b < w.heap.size → w'.heap[b]? = w.heap[b]?) → CallV Try.prog true (fun _ => none) 108 #[tv] w' (.slice ta n tc) w') :
    Runs (fun g w' => ∃ cells, OpsOut L y0 s0 ops n most sl w w' cells ∧ g = G (c.finish (.agg cells)) cs) (G (Frame.enter Try.prog 50 #[tv, .func (.func fdo) first cap, .slice sa sl.length sc, .int .i64 most] .normal) (c :: cs)) w := by
  rcases Nat.eq_zero_or_pos n with h0 | h1
  · subst h0
    have hA : ∀ b, Apart (fun _ => none) b := fun b => ⟨fun _ _ _ _ h => (by cases h), fun _ _ h => (by cases h)⟩
    refine Runs.walk (ops_in fdo first cap tv (.slice sa sl.length sc) most ta tb toff tc 0 hta hn oa ln oc ops c cs w I (fun b _ => hA b) hp) ?_
    rintro _ w2 ⟨fr, w1, rfl, o1, s1, hT, M, hB⟩
    have s2 : w2.heap.size = w.heap.size + 1 + 4 + 2 * 0 := M.size
    have hN := M.cN
    have o2 : ∀ b, b < w.heap.size + 1 → w2.heap[b]? = w1.heap[b]? := fun b hb => M.old b hb
    have hc2 : ∀ {b j : Nat} {v : Value}, w.cell? ⟨b, j, none⟩ = some v → w2.cell? ⟨b, j, none⟩ = some v := fun {b j v} h => (World.cell?_of_block (a := ⟨b, j, none⟩) ((o2 b (by have := cell_lt' h; omega)).trans (o1 b (cell_lt' h)))).trans h
    refine Runs.walk (over_zero' sa sl.length sc 0 (some ⟨w.heap.size + 4, 0, none⟩) most _ fr (c :: cs) w2 ?_ fun h => ?_) ?_
    · have := first_some (main := true) (V := fun _ => none) (w.heap.size + 4) 0 0 w2 (Nat.le_refl _)
      simpa using this
    · obtain ⟨s, so, e, hc, _⟩ := hsc 0 (sl[0]'h) (List.getElem?_eq_getElem h)
      exact ⟨s, so, _, e, hc2 hc⟩
    rintro _ _ ⟨rfl, d, rfl⟩
    have o3 : ∀ b, b < w2.heap.size → ((turnW w2 0 most).alloc (.cells (madeCells #[.bool false] 0) 4)).heap[b]? = w2.heap[b]? := fun b hb => by
      rw [heap_new_lt _ _ (by simp [turnW]; omega)]
      exact heap_new_lt _ _ hb
    have s3 : w2.heap.size ≤ ((turnW w2 0 most).alloc (.cells (madeCells #[.bool false] 0) 4)).heap.size := by simp [turnW]; omega
    generalize (turnW w2 0 most).alloc (.cells (madeCells #[.bool false] 0) 4) = w3 at *
    have hT3 : (w3.at d).heap[w.heap.size]? = some (.cells #[.slice none 0 0, .slice none 0 0, .slice none 0 0, .bool false] 63) := (o3 _ (by omega)).trans ((o2 _ (by omega)).trans hT)
    refine Runs.walk (hB none 0 0 _ false _ hT3 (hA _)) ?_
    rintro _ _ ⟨rfl, d', rfl⟩
    have hset : ∀ b, b ≠ w.heap.size → ((w3.at d).setRow w.heap.size #[.slice (some ⟨w.heap.size + 2, 0, none⟩) 0 0, .slice none 0 0, .slice none 0 0, .bool false]).heap[b]? = w3.heap[b]? := fun b hb => setRow_other _ _ hb
    have hold : ∀ b, b < w.heap.size → ((w3.at d).setRow w.heap.size #[.slice (some ⟨w.heap.size + 2, 0, none⟩) 0 0, .slice none 0 0, .slice none 0 0, .bool false]).heap[b]? = w.heap[b]? := fun b hb => (hset b (by omega)).trans ((o3 b (by omega)).trans ((o2 b (by omega)).trans (o1 b hb)))
    have e1 : (playO L s0 ops 0 most sl).2 = [] := by rw [playO_zero]
    have e2 : (playO L s0 ops 0 most sl).1 = x0O L s0 := by rw [playO_zero]
    refine .now ⟨_, ⟨?_, fun b hb _ => hold b hb, ?_⟩, rfl⟩
    · rw [e1, e2]
      refine ⟨y0, w.heap.size + 2, none, 0, fun _ => .slice none 0 0, fun _ _ => False, ⟨rfl, ⟨rfl, .inl ⟨rfl, rfl⟩⟩, by omega, ⟨madeCells #[.slice none 0 0] 0, (hset _ (by omega)).trans ((o3 _ (by omega)).trans hN), madeCells_size _ _, fun i hi => absurd hi (Nat.not_lt_zero _)⟩, fun i hi => absurd hi (Nat.not_lt_zero _), fun _ _ _ h => h.elim, fun _ _ h => h.elim, fun _ _ h => h.elim, fun b h => ⟨?_, fun e => (by cases e)⟩, fun e => (by cases e), L.refl _, L.stable hI fun b h => hold b (L.lt hI h), fun b h _ => h⟩⟩
      have := L.lt hI h; omega
    · show w.heap.size ≤ (World.setRow _ _ _).heap.size
      rw [setRow_size]
      show _ ≤ w3.heap.size
      omega
  · obtain rfl := hta h1
    exact ops_run hD y0 s0 tv most tb toff tc n h1 hn oa ln oc ops sa sc sl hsl c cs w I hI hns hsc hp
end
end
section
section
variable {b : Frame} {k : List Item} {cs : List Frame} {ops : Array Oper} {Post : Goroutine → World → Prop}
theorem Runs.drawnR {id : Nat} {a : Act} {w : World} {Inv : (Nat → Bool) → Act → World → Prop} (hm : Try.prog.follows .mixedOrders = true) (hlow : lowW ops = true) (h0 : ∀ d, Inv (fun _ => false) a (w.at d))
    (hop : ∀ f i o a w, Inv f a w → Closed ops f → f i = false → ops[i]? = some o → (∀ x ∈ o.after, Region.binds .any x = true → f x.on = true) → ∀ rest, (∀ a' w', Inv (upd f i true) a' w' → Runs Post (G (b.at a' (.inRegion ops rest :: k)) cs) w') → Runs Post (G (b.at a (.inRegion ops (i :: rest) :: k)) cs) w)
    (hend : ∀ f a w, Inv f a w → (∀ i, i < ops.size → f i = true) → Runs Post (G (b.at a (.inRegion ops [] :: k)) cs) w) : Runs Post (G (b.at a (.code (.region id ops true) :: k)) cs) w := by
  have hu : upTo (Array.replicate ops.size false) = fun _ => false := by
    funext j
    unfold upTo
    rw [Array.getD_eq_getD_getElem?, Array.getElem?_replicate]
    split <;> rfl
  refine Runs.walk (Stop := fun g w' => ∃ t d, g = G (b.at a (.inRegion ops (Region.linearise .any ops t) :: k)) cs ∧ w' = w.at d) ?_ ?_
  · refine Walk.step rfl (fun d => G (b.at a (.inRegion ops (Region.linearise .any ops (w.tape d (.order b.fn id))) :: k)) cs) (fun d => w.at (d + 1)) (fun _ => #[]) (fun d => ?_) (fun d => drawsR _) (fun d => .stop fun d' => ⟨w.tape d (.order b.fn id), d', rfl, rfl⟩)
    rw [stepG_region_draw]
    simp only [Region.schedule, hm, Bool.true_or, if_true]
    rfl
  · rintro _ _ ⟨t, d, rfl, rfl⟩
    refine anyE (E := World) (Good := fun rest a w => Runs Post (G (b.at a (.inRegion ops rest :: k)) cs) w) hlow hop hend ops.size _ _ a (w.at d) (by simp) (by rw [hu]; exact h0 d) (by rw [hu]; intro _ _ _ h; cases h) ?_
    unfold Go.Relay.leftOf
    exact Nat.le_trans List.countP_le_length (by simp)
end
end
end Go.Proofs.Ytgfajibjedfkdaa
namespace Go.Relay
section
open Go.Conc Go.RowKit
def Sizes (w w' : World) : Prop := ∀ (b : Nat) (cur : Array Value) (t : TypeId), w.heap[b]? = some (.cells cur t (0, 0)) → ∃ cur' : Array Value, w'.heap[b]? = some (.cells cur' t (0, 0)) ∧ cur'.size = cur.size
theorem Sizes.refl (w : World) : Sizes w w := fun _ cur _ h => ⟨cur, h, rfl⟩
theorem Sizes.trans {w w1 w2 : World} (h : Sizes w w1) (h' : Sizes w1 w2) : Sizes w w2 := fun b cur t hb => by
  obtain ⟨c1, e1, s1⟩ := h b cur t hb
  obtain ⟨c2, e2, s2⟩ := h' b c1 t e1
  exact ⟨c2, e2, s2.trans s1⟩
theorem Sizes.old {w w' : World} (h : ∀ b, b < w.heap.size → w'.heap[b]? = w.heap[b]?) : Sizes w w' := fun b cur t hb => ⟨cur, (h b (Array.getElem?_eq_some_iff.1 hb).1).trans hb, rfl⟩
theorem Sizes.at {w w' : World} (h : Sizes w w') (d : Nat) : Sizes w (w'.at d) := h
theorem append_sizes {P : Program} {w w' : World} {v v' : Value} (t ty : TypeId) (base : Nat) (e : TypeId) (i : TypeInfo) (z : Value) (size bytes : Nat) (ht : P.underlying t = some (.slice e)) (hi : P.info? e = some i) (hz : i.zero = some z)
    (hsize : i.size = size) (hby : i.bytes = bytes) (n : Nat) (xs : List Value) (hown : w.ownsRow base e size v n xs)
    (a : Addr) (m c : Nat) (news : List Value) (hl : news.length = m * size) (hnews : ∀ j u, news[j]? = some u → w.cell? (a.add j) = some u) (h1 : ∀ u ∈ news, u.oneCell' = true)
    (hm : 0 < m) (h63 : n + m ≤ maxLen) (hbytes : (n + m) * bytes ≤ 140737488355328) (hr : (Builtin.append_ #[t, t] ty #[v, .slice (some a) m c]).run P w = .ok v' w') : Sizes w w' ∧ ∀ b, b < w.heap.size → v'.ownBlock ≠ some b → w'.heap[b]? = w.heap[b]? := by
  subst hsize
  subst hby
  have hsmall : n + m ≤ 9223372036854775807 := by simp only [maxLen] at h63; omega
  have new : ∀ (o : Obj) (x : Value), Sizes w (w.drew.alloc o) ∧ ∀ b, b < w.heap.size → x.ownBlock ≠ some b → (w.drew.alloc o).heap[b]? = w.heap[b]? := fun o x => by
    have h : ∀ b, b < w.heap.size → (w.drew.alloc o).heap[b]? = w.heap[b]? := fun b hb => by
      show (w.heap.push o)[b]? = w.heap[b]?
      rw [Array.getElem?_push, if_neg (Nat.ne_of_lt hb)]
    exact ⟨Sizes.old h, fun b hb _ => h b hb⟩
  rcases hown.2 with ⟨rfl, rfl⟩ | ⟨g, cap, cur, rfl, hbg, hg, hnc, hcm, hcs, htake⟩
  · have he := run_append_nil (P := P) w t ty e i z ht hi hz a m c news hl hnews hm (by omega) (by simp only [Nat.zero_add] at hbytes; omega)
    rw [he] at hr
    cases hr
    exact new _ _
  · by_cases hroom : n + m ≤ cap
    · have hfit : n * i.size + news.length ≤ cur.size := by rw [hl, hcs, ← Nat.add_mul]; exact Nat.mul_le_mul_right _ hroom
      have he := run_append_room (P := P) w t ty e i ht hi g n cap cur hg a m c news hl hnews h1 hroom hfit
      rw [he] at hr
      cases hr
      refine ⟨fun b cb tb hb => ?_, fun b hb hne => setRow_other w g b _ fun e => hne (by rw [e]; rfl)⟩
      by_cases hbg : b = g
      · subst hbg
        rw [hg] at hb
        cases hb
        exact ⟨_, setRow_heap w b cur _ e _ hg, by simp only [List.size_toArray, List.length_append, List.length_take, List.length_drop, Array.length_toList]; omega⟩
      · exact ⟨cb, (setRow_other w g b _ hbg).trans hb, rfl⟩
    · have he := run_append_grow (P := P) w t ty e i z ht hi hz ⟨g, 0, none⟩ n cap xs hown.1 (hown.cells (g := g) rfl) a m c news hl hnews (by omega) (by omega) (growslice_fits (by omega) hbytes)
      rw [he] at hr
      cases hr
      exact new _ _
section
variable {P : Program} {main : Bool} {V : Nat → Option Wait} {Stop : Goroutine → World → Prop} {w : World} {b : Frame} {a : Act} {k : List Item} {cs : List Frame} {ops : Array Oper} {i : Nat} {rest : List Nat} {o : Oper}
theorem Walk.appendS (s x : Operand) (t : TypeId) (ho : ops[i]? = some o) (hw : Region.wanted o (yielded ops a.tmps) = true) (hk : b.kind ≠ .early) (hop : o.op = .call { callee := .builtin .append, args := #[s, x], argTypes := #[t, t] })
    (base : Nat) (e : TypeId) (ti : TypeInfo) (z : Value) (size bytes : Nat) (ht : P.underlying t = some (.slice e)) (hi : P.info? e = some ti) (hz : ti.zero = some z) (hsize : ti.size = size) (hby : ti.bytes = bytes) (hzs : z.cells.size = size) (hsz : 0 < size)
    (v : Value) (n : Nat) (xs : List Value) (hs : a.eval s = v) (hown : w.ownsRow base e size v n xs)
    (ad : Addr) (m c : Nat) (news : List Value) (hx : a.eval x = .slice (some ad) m c) (hl : news.length = m * size) (hnews : ∀ j u, news[j]? = some u → w.cell? (ad.add j) = some u) (h1 : ∀ u ∈ news, u.oneCell' = true)
    (hm : 0 < m) (h63 : n + m ≤ maxLen) (hbytes : (n + m) * bytes ≤ 140737488355328) (hbase : base ≤ w.heap.size) (hap : ∀ g, v.ownBlock = some g → Apart V g)
    (h : ∀ g cap w', w'.ownsRow base e size (.slice (some ⟨g, 0, none⟩) (n + m) cap) (n + m) (xs ++ news) → w.grownBy w' v.ownBlock → Sizes w w' → (∀ b, b < w.heap.size → b ≠ g → w'.heap[b]? = w.heap[b]?) → (v.ownBlock = some g ∨ g = w.heap.size) → g < w'.heap.size →
      Walk P main (DR V) Stop (G (b.at (a.put o.dst (.slice (some ⟨g, 0, none⟩) (n + m) cap)) (.inRegion ops rest :: k)) cs) w') :
    Walk P main (DR V) Stop (G (b.at a (.inRegion ops (i :: rest) :: k)) cs) w := by
  refine Walk.go rfl fun d => goes_oper_k ho hw hk fun K hK => ?_
  obtain ⟨g, cap, w', hr, hown', hg, hat, hlt⟩ := run_append_lies (P := P) (w := w.at d) t o.type base e ti z size bytes ht hi hz hsize hby hzs hsz v n xs hown ad m c news hl hnews h1 hm h63 hbytes hbase w.heap.size rfl
  have hS := append_sizes (P := P) (w := w.at d) t o.type base e ti z size bytes ht hi hz hsize hby n xs hown ad m c news hl hnews h1 hm h63 hbytes hr
  refine uponK_append s x t hop hs hx hr (hK _ _ ⟨DR.grown hg hap fun ev hev => ?_, h g cap w' hown' ⟨hg.os, hg.tape, hg.output, hg.size, hg.block⟩ hS.1 (fun b hb hne => hS.2 b hb fun e => hne (Option.some.inj e).symm) hat hlt⟩)
  have hm' := mem_listed hev
  rw [events_append_op s x t hop hs hx] at hm'
  rcases events_append_own (w.at d) base t o.type e ti z size bytes ht hi hz hsize hby v n xs hown ad m c news hl hnews h1 h63 hbytes ev hm' with h' | ⟨ad', h', hb⟩ | ⟨mk, h', hn⟩
  · exact evR_isRead h'
  · exact evR_cell h' ((hap _ hb.symm).1 ad' rfl)
  · rw [h', show mk = .noRoom from hn]; exact evR_noRoom
end
end
end Go.Relay
namespace Go.Proofs.Ytgfajibjedfkdaa
open Go.Conc Go.RowKit Go.Relay
open Go.ConcN (upd upd_ne upd_same)
structure Closing (f : FuncId) (t : Tmp) (v : Value) (g : Goroutine) : Prop where
  all : ∃ fr, g = G fr [] ∧ fr.mode = .returning ∧ fr.kind = .normal ∧ fr.defers = [] ∧ fr.fn = f ∧ fr.tmps.getD t undef = v
section
theorem ap0 (b : Nat) : Apart (fun _ => none) b := ⟨fun _ _ _ _ h => (by cases h), fun _ _ h => (by cases h)⟩
structure Chg (S : Nat → Prop) (w w' : World) : Prop where
  size : w.heap.size ≤ w'.heap.size
  same : ∀ b, b < w.heap.size → ¬ S b → w'.heap[b]? = w.heap[b]?
section
variable {S S' : Nat → Prop} {w w' w1 w2 : World}
theorem Chg.refl : Chg S w w := ⟨Nat.le_refl _, fun _ _ _ => rfl⟩
theorem Chg.at (h : Chg S w w') (d : Nat) : Chg S w (w'.at d) := ⟨h.size, h.same⟩
theorem Chg.mono (h : Chg S w w') (hS : ∀ b, b < w.heap.size → S b → S' b) : Chg S' w w' := ⟨h.size, fun b hb hn => h.same b hb fun e => hn (hS b hb e)⟩
theorem Chg.trans (h1 : Chg S w w1) (h2 : Chg S' w1 w2) (hS : ∀ b, b < w.heap.size → S' b → S b) : Chg S w w2 :=
  ⟨Nat.le_trans h1.size h2.size, fun b hb hn => (h2.same b (Nat.lt_of_lt_of_le hb h1.size) fun e => hn (hS b hb e)).trans (h1.same b hb hn)⟩
theorem Chg.set {b i : Nat} {v : Value} (hb : S b) : Chg S w (w.setCell ⟨b, i, none⟩ v) := ⟨Nat.le_of_eq (size_set ..).symm, fun c _ hn => heap_set_other _ _ _ _ (fun e => hn (by rw [e]; exact hb))⟩
theorem Chg.alloc {o : Obj} : Chg S w (w.alloc o) := ⟨by simp, fun b hb _ => heap_new_lt _ _ hb⟩
theorem Chg.grown {row : Option Nat} (h : w.grownBy w' row) (hr : ∀ g, row = some g → S g) : Chg S w w' := ⟨h.size, fun b hb hn => h.block b hb fun e => hn (hr b e.symm)⟩
end
theorem row_at {w : World} {base : Nat} {e : TypeId} {size m tc n : Nat} {ta : Option Addr} {xs : List Value} (h : w.ownsRow base e size (.slice ta m tc) n xs) {j : Nat} {x : Value} (hx : xs[j]? = some x) : ∃ g, ta = some ⟨g, 0, none⟩ ∧ base ≤ g ∧ g < w.heap.size ∧ w.cell? ⟨g, j, none⟩ = some x := by
  obtain ⟨hl, h⟩ := h
  have hj := (List.getElem?_eq_some_iff.1 hx).1
  rcases h with ⟨_, rfl⟩ | ⟨g, cap, cur, e, h1, h2, h3, _, h5, h6⟩
  · omega
  · injection e with e1 e2 e3
    refine ⟨g, e1, h1, (Array.getElem?_eq_some_iff.1 h2).1, (cell_of h2 j).trans ?_⟩
    rw [← h6, List.getElem?_take, if_pos (by omega)] at hx
    simpa using hx
def trC (a b c : Value) (k : Bool) : Array Value := #[a, b, c, .bool k]
def NumA (a : Option Addr) (l : List Int) (w : World) : Prop := ∀ (i : Nat) (x : Int), l[i]? = some x → ∃ b o, a = some ⟨b, o, none⟩ ∧ w.cell? ⟨b, o + i, none⟩ = some (.int .i64 x)
def AnsA (a : Option Addr) (l : List Ans) (w : World) : Prop := ∀ (i : Nat) (x : Ans), l[i]? = some x → ∃ b o la lc, a = some ⟨b, o, none⟩ ∧ w.cell? ⟨b, o + i * 3, none⟩ = some (.bool x.ok) ∧ w.cell? ⟨b, o + i * 3 + 1, none⟩ = some (.int .i64 x.n) ∧ w.cell? ⟨b, o + i * 3 + 2, none⟩ = some (.slice la x.l.length lc) ∧ NumA la x.l w ∧ x.l.length ≤ 1048576
theorem NumA.chg {a : Option Addr} {l : List Int} {w w' : World} (h : NumA a l w) (hC : Chg (fun _ => False) w w') : NumA a l w' := fun i x hx => by
  obtain ⟨b, o, e, hc⟩ := h i x hx
  exact ⟨b, o, e, (World.cell?_of_block (a := ⟨b, o + i, none⟩) (hC.same b (cell_lt' hc) id)).trans hc⟩
theorem AnsA.chg {a : Option Addr} {l : List Ans} {w w' : World} (h : AnsA a l w) (hC : Chg (fun _ => False) w w') : AnsA a l w' := fun i x hx => by
  obtain ⟨b, o, la, lc, e, h1, h2, h3, h4, h5⟩ := h i x hx
  exact ⟨b, o, la, lc, e, (World.cell?_of_block (a := ⟨b, _, none⟩) (hC.same b (cell_lt' h1) id)).trans h1, (World.cell?_of_block (a := ⟨b, _, none⟩) (hC.same b (cell_lt' h1) id)).trans h2, (World.cell?_of_block (a := ⟨b, _, none⟩) (hC.same b (cell_lt' h1) id)).trans h3, h4.chg hC, h5⟩
structure TrA (cells : Array Value) (n : Nat) (F : Nat → List Ans) (ord : List Nat) (sts : List Int) (k : Bool) (w : World) : Prop where
  all : ∃ aa ac oa oc sa sc, cells = trC (.slice aa n ac) (.slice oa ord.length oc) (.slice sa sts.length sc) k ∧ NumA oa (ord.map fun i => ((i : Nat) : Int)) w ∧ NumA sa sts w ∧ ∀ i, i < n → ∃ b o ta tc, aa = some ⟨b, o, none⟩ ∧ w.cell? ⟨b, o + i, none⟩ = some (.slice ta (F i).length tc) ∧ AnsA ta (F i) w
theorem TrA.chg {cells : Array Value} {n : Nat} {F : Nat → List Ans} {ord : List Nat} {sts : List Int} {k : Bool} {w w' : World} (h : TrA cells n F ord sts k w) (hC : Chg (fun _ => False) w w') : TrA cells n F ord sts k w' := by
  obtain ⟨aa, ac, oa, oc, sa, sc, e, h1, h2, h3⟩ := h.all
  refine ⟨aa, ac, oa, oc, sa, sc, e, h1.chg hC, h2.chg hC, fun i hi => ?_⟩
  obtain ⟨b, o, ta, tc, e, k1, k2⟩ := h3 i hi
  exact ⟨b, o, ta, tc, e, (World.cell?_of_block (a := ⟨b, o + i, none⟩) (hC.same b (cell_lt' k1) id)).trans k1, k2.chg hC⟩
theorem ansRow_get : ∀ (l : List (Ans × Value)) (k j : Nat) (o : Ans × Value) (v : Value), l[k]? = some o → ([.bool o.1.ok, .int .i64 o.1.n, o.2] : List Value)[j]? = some v → (ansRow l)[k * 3 + j]? = some v
  | o' :: l, 0, j, o, v, hk, hv => by
    simp only [List.getElem?_cons_zero, Option.some.injEq] at hk
    subst hk
    have hj := (List.getElem?_eq_some_iff.1 hv).1
    have : ansRow (o' :: l) = [.bool o'.1.ok, .int .i64 o'.1.n, o'.2] ++ ansRow l := by simp [ansRow]
    rw [this, Nat.zero_mul, Nat.zero_add, List.getElem?_append_left hj]
    exact hv
  | o' :: l, k + 1, j, o, v, hk, hv => by
    have : ansRow (o' :: l) = [.bool o'.1.ok, .int .i64 o'.1.n, o'.2] ++ ansRow l := by simp [ansRow]
    rw [this, List.getElem?_append_right (by simp; omega)]
    have h := ansRow_get l k j o v (by simpa using hk) hv
    rw [← h]
    congr 1
    simp
    omega
theorem numA_of {w : World} {base : Nat} {e : TypeId} {ta : Option Addr} {m tc : Nat} {l : List Int} (h : w.ownsRow base e 1 (.slice ta m tc) m (l.map (.int .i64))) : NumA ta l w := fun i x hx => by
  obtain ⟨g, e, _, _, h0⟩ := row_at h (j := i) (x := .int .i64 x) (by simp [hx])
  exact ⟨g, 0, e, by rw [Nat.zero_add]; exact h0⟩
theorem numA_nil (a : Option Addr) (w : World) : NumA a [] w := fun i x hx => (by simp at hx)
theorem LsAt.num {base : Nat} {P : Nat → Prop} {sl : Value} {l : List Int} {w : World} (h : LsAt base P sl l w) : ∃ la lc, sl = .slice la l.length lc ∧ NumA la l w ∧ l.length ≤ 1048576 := by
  obtain ⟨a, c, e, hn, hr⟩ := h
  refine ⟨a, c, e, ?_, hn⟩
  by_cases hl : l = []
  · subst hl; exact numA_nil _ _
  · have h1 := (hr hl).1
    rw [e] at h1
    exact numA_of h1
theorem ansA_of {base : Nat} {P : Nat → Prop} {hd : Value} {l : List Ans} {w : World} (h : RowA base P hd l w) : ∃ ta tc, hd = .slice ta l.length tc ∧ AnsA ta l w := by
  obtain ⟨ta, tc, z, hz, e, hr, _, hls⟩ := h
  refine ⟨ta, tc, e, fun i x hx => ?_⟩
  rw [e] at hr
  obtain ⟨p, hp, hpx⟩ : ∃ p, z[i]? = some p ∧ p.1 = x := by
    rw [← hz, List.getElem?_map, Option.map_eq_some_iff] at hx
    exact hx
  subst hpx
  obtain ⟨g, e, _, _, h0⟩ := row_at hr (ansRow_get z i 0 p _ hp rfl)
  obtain ⟨g1, e1, _, _, h1⟩ := row_at hr (ansRow_get z i 1 p _ hp rfl)
  obtain ⟨g2, e2, _, _, h2⟩ := row_at hr (ansRow_get z i 2 p _ hp rfl)
  rw [e] at e1 e2
  cases e1
  cases e2
  obtain ⟨la, lc, hsl, hn, hlen⟩ := (hls p (List.mem_of_getElem? hp)).num
  refine ⟨g, 0, la, lc, e, ?_, ?_, ?_, hn, hlen⟩
  · rw [Nat.zero_add]; exact h0
  · rw [Nat.zero_add]; exact h1
  · rw [Nat.zero_add, ← hsl]; exact h2
theorem OpsIn.old {tb toff n : Nat} {oa : Nat → Option Addr} {ln oc : Nat → Nat} {ops : Nat → List OpV} {w w' : World} (I : OpsIn tb toff n oa ln oc ops w) (h : ∀ b, b < w.heap.size → w'.heap[b]? = w.heap[b]?) : OpsIn tb toff n oa ln oc ops w' := by
  have hc : ∀ {b j : Nat} {v : Value}, w.cell? ⟨b, j, none⟩ = some v → w'.cell? ⟨b, j, none⟩ = some v := fun {b j v} e => (World.cell?_of_block (a := ⟨b, j, none⟩) (h b (cell_lt' e))).trans e
  exact ⟨fun i hi => hc (I.hd i hi), I.cap, I.ad, I.len, fun i hi j o ho => by
    obtain ⟨b, off, e, c0, c1, c2, c3⟩ := I.ops i hi j o ho
    exact ⟨b, off, e, hc c0, hc c1, hc c2, hc c3⟩⟩
end
section
section
variable {P : Program}
theorem eqInB (d : Nat) (t : TypeId) (x y : Bool) (w : World) (es : Array Event) (hu : P.underlying t = some .bool) : (Op.equalIn (d + 1) t (.bool x) (.bool y)).run P w = .ok (x == y) w ∧ (Op.equalIn (d + 1) t (.bool x) (.bool y)).events P w es = es := by
  constructor <;> simp [Op.equalIn, run_underlying hu]
theorem run_neqB (t : TypeId) (hu : P.underlying t = some .bool) (x y : Bool) (w : World) : (binOp .neq t (.bool x) (.bool y)).run P w = .ok (.bool (x != y)) w := by
  simp only [binOp]
  simp [Op.equal, Op.maxDepth, (eqInB 9999 t x y w #[] hu).1, bne]
theorem ev_neqB (t : TypeId) (hu : P.underlying t = some .bool) (x y : Bool) (w : World) (es : Array Event) : (binOp .neq t (.bool x) (.bool y)).events P w es = es := by
  simp only [binOp]
  simp [Op.equal, Op.maxDepth, (eqInB 9999 t x y w #[] hu).1, (eqInB 9999 t x y w es hu).2]
end
theorem und4B : Try.prog.underlying 4 = some .bool := by kernel_rfl
noncomputable def reg32_0 := rg Try.f32.body [0]
noncomputable def reg32_1 := rg Try.f32.body [1, 0, 0]
noncomputable def reg32_2 := rg Try.f32.body [1, 0, 1, 0, 0]
noncomputable def reg32_3 := rg Try.f32.body [1, 1, 0, 0]
noncomputable def reg32_4 := rg Try.f32.body [1, 1, 0, 1, 0, 0, 0, 0]
noncomputable def reg32_6 := rg Try.f32.body [1, 1, 0, 1, 0, 0, 1, 0, 0, 0]
theorem size32_6 : reg32_6.size = 9 := by kernel_rfl
noncomputable def reg32_7 := rg Try.f32.body [1, 1, 0, 1, 0, 0, 1, 0, 0, 1, 0, 0]
noncomputable def reg32_5 := rg Try.f32.body [1, 1, 0, 1, 0, 0, 1, 1]
noncomputable def reg32_8 := rg Try.f32.body [1, 1, 1, 0]
theorem z32 : List.range reg32_0.size = [0] ∧ List.range reg32_1.size = [0, 1, 2, 3, 4] ∧ List.range reg32_2.size = [0] ∧ List.range reg32_3.size = [0] ∧ List.range reg32_4.size = [0, 1, 2, 3] ∧ List.range reg32_5.size = [0, 1, 2] ∧ List.range reg32_6.size = [0, 1, 2, 3, 4, 5, 6, 7, 8] ∧ List.range reg32_7.size = [0] ∧ List.range reg32_8.size = [0] := by refine ⟨?_, ?_, ?_, ?_, ?_, ?_, ?_, ?_, ?_⟩ <;> kernel_rfl
theorem code32_is : Try.f32.body = some (.seq (.region 0 reg32_0 false) (.seq (.seq (.region 1 reg32_1 false) (.cond (.tmp 10 ) (.seq (.region 2 reg32_2 false) (.ret)) (.skip))) (.seq (.seq (.region 3 reg32_3 false) (.block 0 (.loop (.seq (.seq (.region 4 reg32_4 false) (.cond (.tmp 14 ) (.skip) (.exit 0))) (.seq (.block 1 (.seq (.region 6 reg32_6 true) (.cond (.tmp 25 ) (.seq (.region 7 reg32_7 false) (.ret)) (.skip)))) (.region 5 reg32_5 false)))))) (.seq (.region 8 reg32_8 false) (.ret))))) := by kernel_rfl
noncomputable def hdSame (av bv : Value) (i : Nat) (u : Nat → Value) : Frame :=
  (base 32).at { tmps := #[av, bv, u 2, u 3, u 4, .int .i64 i, u 6, u 7, u 8, u 9, u 10, u 11, u 12, u 13, u 14, u 15, u 16, u 17, u 18, u 19, u 20, u 21, u 22, u 23, u 24, u 25], defers := [] } [.code (.seq (.seq (.region 4 reg32_4 false) (.cond (.tmp 14 ) (.skip) (.exit 0))) (.seq (.block 1 (.seq (.region 6 reg32_6 true) (.cond (.tmp 25 ) (.seq (.region 7 reg32_7 false) (.ret)) (.skip)))) (.region 5 reg32_5 false))), .inLoop (.seq (.seq (.region 4 reg32_4 false) (.cond (.tmp 14 ) (.skip) (.exit 0))) (.seq (.block 1 (.seq (.region 6 reg32_6 true) (.cond (.tmp 25 ) (.seq (.region 7 reg32_7 false) (.ret)) (.skip)))) (.region 5 reg32_5 false))), .inBlock 0, .code (.seq (.region 8 reg32_8 false) (.ret))]
noncomputable def reg37_0 := rg Try.f37.body [0]
noncomputable def reg37_1 := rg Try.f37.body [1, 0, 0]
noncomputable def reg37_2 := rg Try.f37.body [1, 0, 1, 0, 0]
noncomputable def reg37_3 := rg Try.f37.body [1, 1, 0, 0]
noncomputable def reg37_4 := rg Try.f37.body [1, 1, 0, 1, 0, 0, 0, 0]
noncomputable def reg37_6 := rg Try.f37.body [1, 1, 0, 1, 0, 0, 1, 0, 0, 0]
theorem size37_6 : reg37_6.size = 9 := by kernel_rfl
noncomputable def reg37_7 := rg Try.f37.body [1, 1, 0, 1, 0, 0, 1, 0, 0, 1, 0, 0]
noncomputable def reg37_5 := rg Try.f37.body [1, 1, 0, 1, 0, 0, 1, 1]
noncomputable def reg37_8 := rg Try.f37.body [1, 1, 1, 0]
theorem z37 : List.range reg37_0.size = [0] ∧ List.range reg37_1.size = [0, 1, 2, 3, 4] ∧ List.range reg37_2.size = [0] ∧ List.range reg37_3.size = [0] ∧ List.range reg37_4.size = [0, 1, 2, 3] ∧ List.range reg37_5.size = [0, 1, 2] ∧ List.range reg37_6.size = [0, 1, 2, 3, 4, 5, 6, 7, 8] ∧ List.range reg37_7.size = [0] ∧ List.range reg37_8.size = [0] := by refine ⟨?_, ?_, ?_, ?_, ?_, ?_, ?_, ?_, ?_⟩ <;> kernel_rfl
theorem code37_is : Try.f37.body = some (.seq (.region 0 reg37_0 false) (.seq (.seq (.region 1 reg37_1 false) (.cond (.tmp 10 ) (.seq (.region 2 reg37_2 false) (.ret)) (.skip))) (.seq (.seq (.region 3 reg37_3 false) (.block 0 (.loop (.seq (.seq (.region 4 reg37_4 false) (.cond (.tmp 14 ) (.skip) (.exit 0))) (.seq (.block 1 (.seq (.region 6 reg37_6 true) (.cond (.tmp 25 ) (.seq (.region 7 reg37_7 false) (.ret)) (.skip)))) (.region 5 reg37_5 false)))))) (.seq (.region 8 reg37_8 false) (.ret))))) := by kernel_rfl
noncomputable def hdSameI (av bv : Value) (i : Nat) (u : Nat → Value) : Frame :=
  (base 37).at { tmps := #[av, bv, u 2, u 3, u 4, .int .i64 i, u 6, u 7, u 8, u 9, u 10, u 11, u 12, u 13, u 14, u 15, u 16, u 17, u 18, u 19, u 20, u 21, u 22, u 23, u 24, u 25], defers := [] } [.code (.seq (.seq (.region 4 reg37_4 false) (.cond (.tmp 14 ) (.skip) (.exit 0))) (.seq (.block 1 (.seq (.region 6 reg37_6 true) (.cond (.tmp 25 ) (.seq (.region 7 reg37_7 false) (.ret)) (.skip)))) (.region 5 reg37_5 false))), .inLoop (.seq (.seq (.region 4 reg37_4 false) (.cond (.tmp 14 ) (.skip) (.exit 0))) (.seq (.block 1 (.seq (.region 6 reg37_6 true) (.cond (.tmp 25 ) (.seq (.region 7 reg37_7 false) (.ret)) (.skip)))) (.region 5 reg37_5 false))), .inBlock 0, .code (.seq (.region 8 reg37_8 false) (.ret))]
section
variable {main : Bool} {V : Nat → Option Wait}
theorem sn_in (a b : Option Addr) (n ca cb : Nat) (cs : List Frame) (w : World) :
    Walk Try.prog main (DR V) (fun g w' => (∃ u, g = G (hdSame (.slice a n ca) (.slice b n cb) 0 u) cs) ∧ ∃ d, w' = w.at d) (G (Frame.enter Try.prog 32 #[.slice a n ca, .slice b n cb] .normal) cs) w := by
  rw [enter_at _ Try.func32 code32_is]
  simp only [Try.ntmps32, ez, Nat.reduceAdd, Nat.reduceSub]
  repeat (first | refine Walk.cx ?_ | (refine Walk.cReg ?_; simp only [z32]) | (refine Walk.oq ?_; try walk_nrm) | (refine Walk.un ?_; walk_nrm))
  refine Walk.ctl rfl (fun w => stepG_loop) ?_
  refine .stop fun d => ⟨at_slots ?_, d, rfl⟩
  simp only [hdSame]
  rfl
theorem sn_out (a b : Option Addr) (n ca cb : Nat) (u : Nat → Value) (c : Frame) (cs : List Frame) (w : World) :
    Walk Try.prog main (DR V) (fun g w' => g = G (c.finish (.bool true)) cs ∧ ∃ d, w' = w.at d) (G (hdSame (.slice a n ca) (.slice b n cb) n u) (c :: cs)) w := by
  unfold hdSame
  repeat (first | refine Walk.cx ?_ | (refine Walk.cReg ?_; simp only [z32]) | (refine Walk.oq ?_; try walk_nrm) | (refine Walk.un ?_; walk_nrm))
  exact Walk.on1 rfl rfl Try.func32 rfl (.stop fun d => ⟨rfl, d, rfl⟩)
theorem sn_go (ab ao n ca bb bo cb i : Nat) (x : Int) (u : Nat → Value) (cs : List Frame) (w : World) (hi : i < n) (hn : n ≤ 17592186044416) (ha : w.cell? ⟨ab, ao + i, none⟩ = some (.int .i64 x)) (hb : w.cell? ⟨bb, bo + i, none⟩ = some (.int .i64 x)) :
    Walk Try.prog main (DR V) (fun g w' => (∃ u', g = G (hdSame (.slice (some ⟨ab, ao, none⟩) n ca) (.slice (some ⟨bb, bo, none⟩) n cb) (i + 1) u') cs) ∧ ∃ d, w' = w.at d) (G (hdSame (.slice (some ⟨ab, ao, none⟩) n ca) (.slice (some ⟨bb, bo, none⟩) n cb) i u) cs) w := by
  have hw1 : IntKind.wrap .i64 ((i : Int) + 1) = (i : Int) + 1 := by rw [IntKind.wrap_i64]; omega
  conv => arg 5; unfold hdSame
  repeat (first | refine Walk.cx ?_ | (refine Walk.cReg ?_; simp only [z32]) | (refine Walk.oq ?_; try walk_nrm) | (refine Walk.un ?_; walk_nrm))
  (refine Walk.drawnC (by kernel_rfl) size32_6 (by kernel_rfl) (by kernel_rfl) (by decide) ?_; simp only [List.range, List.range.loop]; repeat (first | (refine Cm.oq ?_) | (refine Cm.unw (ho_of (by conv => lhs; whnf) (by kernel_rfl)) (by rfl) ?_; walk_nrm)))
  refine Cm.done ?_
  repeat (first | refine Walk.cx ?_ | (refine Walk.cReg ?_; simp only [z32]) | (refine Walk.oq ?_; try walk_nrm) | (refine Walk.un ?_; walk_nrm))
  refine Walk.ctl rfl (fun w => stepG_inLoop) ?_
  refine .stop fun d' => ⟨at_slots ?_, d', rfl⟩
  have hc : ((i + 1 : Nat) : Int) = (i : Int) + 1 := by simp
  simp only [hdSame, hc]
  rfl
theorem sn_loop (a b : Option Addr) (l : List Int) (ca cb : Nat) (hn : l.length ≤ 17592186044416) (c : Frame) (cs : List Frame) (w : World) (ha : NumA a l w) (hb : NumA b l w) : ∀ (r i : Nat) (u : Nat → Value), i + r = l.length →
    Walk Try.prog main (DR V) (fun g w' => g = G (c.finish (.bool true)) cs ∧ ∃ d, w' = w.at d) (G (hdSame (.slice a l.length ca) (.slice b l.length cb) i u) (c :: cs)) w := by
  intro r
  induction r with
  | zero =>
    intro i u hi
    have hi : i = l.length := hi
    subst hi
    exact sn_out a b l.length ca cb u c cs w
  | succ r ih =>
    intro i u hi
    have hin : i < l.length := by omega
    have hx := List.getElem?_eq_getElem hin
    obtain ⟨ab, ao, rfl, h1⟩ := ha i _ hx
    obtain ⟨bb, bo, rfl, h2⟩ := hb i _ hx
    refine (sn_go ab ao l.length ca bb bo cb i _ u (c :: cs) w hin hn h1 h2).then ?_
    rintro g w' ⟨⟨u', rfl⟩, d, rfl⟩
    exact Walk.back (ih (i + 1) u' (by omega)) d
theorem sn_w (a b : Option Addr) (l : List Int) (ca cb : Nat) (hn : l.length ≤ 17592186044416) (w : World) (ha : NumA a l w) (hb : NumA b l w) : CallV Try.prog main V 32 #[.slice a l.length ca, .slice b l.length cb] w (.bool true) w := by
  intro fr cs
  refine (sn_in a b l.length ca cb (fr :: cs) w).then ?_
  rintro g w1 ⟨⟨u, rfl⟩, d, rfl⟩
  refine Walk.back ?_ d
  refine (sn_loop a b l ca cb hn fr cs w ha hb l.length 0 u (by omega)).mono ?_
  rintro g w' ⟨rfl, d, rfl⟩
  exact ⟨_, ⟨rfl, d, rfl⟩, rfl⟩
theorem si_in (a b : Option Addr) (n ca cb : Nat) (cs : List Frame) (w : World) :
    Walk Try.prog main (DR V) (fun g w' => (∃ u, g = G (hdSameI (.slice a n ca) (.slice b n cb) 0 u) cs) ∧ ∃ d, w' = w.at d) (G (Frame.enter Try.prog 37 #[.slice a n ca, .slice b n cb] .normal) cs) w := by
  rw [enter_at _ Try.func37 code37_is]
  simp only [Try.ntmps37, ez, Nat.reduceAdd, Nat.reduceSub]
  repeat (first | refine Walk.cx ?_ | (refine Walk.cReg ?_; simp only [z37]) | (refine Walk.oq ?_; try walk_nrm) | (refine Walk.un ?_; walk_nrm))
  refine Walk.ctl rfl (fun w => stepG_loop) ?_
  refine .stop fun d => ⟨at_slots ?_, d, rfl⟩
  simp only [hdSameI]
  rfl
theorem si_out (a b : Option Addr) (n ca cb : Nat) (u : Nat → Value) (c : Frame) (cs : List Frame) (w : World) :
    Walk Try.prog main (DR V) (fun g w' => g = G (c.finish (.bool true)) cs ∧ ∃ d, w' = w.at d) (G (hdSameI (.slice a n ca) (.slice b n cb) n u) (c :: cs)) w := by
  unfold hdSameI
  repeat (first | refine Walk.cx ?_ | (refine Walk.cReg ?_; simp only [z37]) | (refine Walk.oq ?_; try walk_nrm) | (refine Walk.un ?_; walk_nrm))
  exact Walk.on1 rfl rfl Try.func37 rfl (.stop fun d => ⟨rfl, d, rfl⟩)
theorem si_go (ab ao n ca bb bo cb i : Nat) (x : Int) (u : Nat → Value) (cs : List Frame) (w : World) (hi : i < n) (hn : n ≤ 17592186044416) (ha : w.cell? ⟨ab, ao + i, none⟩ = some (.int .i64 x)) (hb : w.cell? ⟨bb, bo + i, none⟩ = some (.int .i64 x)) :
    Walk Try.prog main (DR V) (fun g w' => (∃ u', g = G (hdSameI (.slice (some ⟨ab, ao, none⟩) n ca) (.slice (some ⟨bb, bo, none⟩) n cb) (i + 1) u') cs) ∧ ∃ d, w' = w.at d) (G (hdSameI (.slice (some ⟨ab, ao, none⟩) n ca) (.slice (some ⟨bb, bo, none⟩) n cb) i u) cs) w := by
  have hw1 : IntKind.wrap .i64 ((i : Int) + 1) = (i : Int) + 1 := by rw [IntKind.wrap_i64]; omega
  conv => arg 5; unfold hdSameI
  repeat (first | refine Walk.cx ?_ | (refine Walk.cReg ?_; simp only [z37]) | (refine Walk.oq ?_; try walk_nrm) | (refine Walk.un ?_; walk_nrm))
  (refine Walk.drawnC (by kernel_rfl) size37_6 (by kernel_rfl) (by kernel_rfl) (by decide) ?_; simp only [List.range, List.range.loop]; repeat (first | (refine Cm.oq ?_) | (refine Cm.unw (ho_of (by conv => lhs; whnf) (by kernel_rfl)) (by rfl) ?_; walk_nrm)))
  refine Cm.done ?_
  repeat (first | refine Walk.cx ?_ | (refine Walk.cReg ?_; simp only [z37]) | (refine Walk.oq ?_; try walk_nrm) | (refine Walk.un ?_; walk_nrm))
  refine Walk.ctl rfl (fun w => stepG_inLoop) ?_
  refine .stop fun d' => ⟨at_slots ?_, d', rfl⟩
  have hc : ((i + 1 : Nat) : Int) = (i : Int) + 1 := by simp
  simp only [hdSameI, hc]
  rfl
theorem si_loop (a b : Option Addr) (l : List Int) (ca cb : Nat) (hn : l.length ≤ 17592186044416) (c : Frame) (cs : List Frame) (w : World) (ha : NumA a l w) (hb : NumA b l w) : ∀ (r i : Nat) (u : Nat → Value), i + r = l.length →
    Walk Try.prog main (DR V) (fun g w' => g = G (c.finish (.bool true)) cs ∧ ∃ d, w' = w.at d) (G (hdSameI (.slice a l.length ca) (.slice b l.length cb) i u) (c :: cs)) w := by
  intro r
  induction r with
  | zero =>
    intro i u hi
    have hi : i = l.length := hi
    subst hi
    exact si_out a b l.length ca cb u c cs w
  | succ r ih =>
    intro i u hi
    have hin : i < l.length := by omega
    have hx := List.getElem?_eq_getElem hin
    obtain ⟨ab, ao, rfl, h1⟩ := ha i _ hx
    obtain ⟨bb, bo, rfl, h2⟩ := hb i _ hx
    refine (si_go ab ao l.length ca bb bo cb i _ u (c :: cs) w hin hn h1 h2).then ?_
    rintro g w' ⟨⟨u', rfl⟩, d, rfl⟩
    exact Walk.back (ih (i + 1) u' (by omega)) d
theorem si_w (a b : Option Addr) (l : List Int) (ca cb : Nat) (hn : l.length ≤ 17592186044416) (w : World) (ha : NumA a l w) (hb : NumA b l w) : CallV Try.prog main V 37 #[.slice a l.length ca, .slice b l.length cb] w (.bool true) w := by
  intro fr cs
  refine (si_in a b l.length ca cb (fr :: cs) w).then ?_
  rintro g w1 ⟨⟨u, rfl⟩, d, rfl⟩
  refine Walk.back ?_ d
  refine (si_loop a b l ca cb hn fr cs w ha hb l.length 0 u (by omega)).mono ?_
  rintro g w' ⟨rfl, d, rfl⟩
  exact ⟨_, ⟨rfl, d, rfl⟩, rfl⟩
noncomputable def reg31_0 := rg Try.f31.body [0]
noncomputable def reg31_1 := rg Try.f31.body [1, 0, 0]
noncomputable def reg31_2 := rg Try.f31.body [1, 0, 1, 0, 0]
noncomputable def reg31_3 := rg Try.f31.body [1, 1, 0, 0]
noncomputable def reg31_4 := rg Try.f31.body [1, 1, 0, 1, 0, 0, 0, 0]
noncomputable def reg31_6 := rg Try.f31.body [1, 1, 0, 1, 0, 0, 1, 0, 0, 0]
theorem size31_6 : reg31_6.size = 38 := by kernel_rfl
noncomputable def reg31_7 := rg Try.f31.body [1, 1, 0, 1, 0, 0, 1, 0, 0, 1, 0, 0]
noncomputable def reg31_5 := rg Try.f31.body [1, 1, 0, 1, 0, 0, 1, 1]
noncomputable def reg31_8 := rg Try.f31.body [1, 1, 1, 0]
theorem z31 : List.range reg31_0.size = [0] ∧ List.range reg31_1.size = [0, 1, 2, 3, 4] ∧ List.range reg31_2.size = [0] ∧ List.range reg31_3.size = [0] ∧ List.range reg31_4.size = [0, 1, 2, 3] ∧ List.range reg31_5.size = [0, 1, 2] ∧ List.range reg31_6.size = [0, 1, 2, 3, 4, 5, 6, 7, 8, 9, 10, 11, 12, 13, 14, 15, 16, 17, 18, 19, 20, 21, 22, 23, 24, 25, 26, 27, 28, 29, 30, 31, 32, 33, 34, 35, 36, 37] ∧ List.range reg31_7.size = [0] ∧ List.range reg31_8.size = [0] := by refine ⟨?_, ?_, ?_, ?_, ?_, ?_, ?_, ?_, ?_⟩ <;> kernel_rfl
theorem code31_is : Try.f31.body = some (.seq (.region 0 reg31_0 false) (.seq (.seq (.region 1 reg31_1 false) (.cond (.tmp 10 ) (.seq (.region 2 reg31_2 false) (.ret)) (.skip))) (.seq (.seq (.region 3 reg31_3 false) (.block 0 (.loop (.seq (.seq (.region 4 reg31_4 false) (.cond (.tmp 14 ) (.skip) (.exit 0))) (.seq (.block 1 (.seq (.region 6 reg31_6 true) (.cond (.tmp 54 ) (.seq (.region 7 reg31_7 false) (.ret)) (.skip)))) (.region 5 reg31_5 false)))))) (.seq (.region 8 reg31_8 false) (.ret))))) := by kernel_rfl
noncomputable def hdSA (a b : Value) (i : Nat) (u : Nat → Value) : Frame :=
  (base 31).at { tmps := #[a, b, u 2, u 3, u 4, .int .i64 i, u 6, u 7, u 8, u 9, u 10, u 11, u 12, u 13, u 14, u 15, u 16, u 17, u 18, u 19, u 20, u 21, u 22, u 23, u 24, u 25, u 26, u 27, u 28, u 29, u 30, u 31, u 32, u 33, u 34, u 35, u 36, u 37, u 38, u 39, u 40, u 41, u 42, u 43, u 44, u 45, u 46, u 47, u 48, u 49, u 50, u 51, u 52, u 53, u 54], defers := [] } [.code (.seq (.seq (.region 4 reg31_4 false) (.cond (.tmp 14 ) (.skip) (.exit 0))) (.seq (.block 1 (.seq (.region 6 reg31_6 true) (.cond (.tmp 54 ) (.seq (.region 7 reg31_7 false) (.ret)) (.skip)))) (.region 5 reg31_5 false))), .inLoop (.seq (.seq (.region 4 reg31_4 false) (.cond (.tmp 14 ) (.skip) (.exit 0))) (.seq (.block 1 (.seq (.region 6 reg31_6 true) (.cond (.tmp 54 ) (.seq (.region 7 reg31_7 false) (.ret)) (.skip)))) (.region 5 reg31_5 false))), .inBlock 0, .code (.seq (.region 8 reg31_8 false) (.ret))]
theorem sa_in (a b : Option Addr) (n ca cb : Nat) (cs : List Frame) (w : World) :
    Walk Try.prog main (DR V) (fun g w' => (∃ u, g = G (hdSA (.slice a n ca) (.slice b n cb) 0 u) cs) ∧ ∃ d, w' = w.at d) (G (Frame.enter Try.prog 31 #[.slice a n ca, .slice b n cb] .normal) cs) w := by
  rw [enter_at _ Try.func31 code31_is]
  simp only [Try.ntmps31, ez, Nat.reduceAdd, Nat.reduceSub]
  repeat (first | refine Walk.cx ?_ | (refine Walk.cReg ?_; simp only [z31]) | (refine Walk.oq ?_; try walk_nrm) | (refine Walk.un ?_; walk_nrm))
  refine Walk.ctl rfl (fun w => stepG_loop) ?_
  refine .stop fun d => ⟨at_slots ?_, d, rfl⟩
  simp only [hdSA]
  rfl
theorem sa_out (a b : Option Addr) (n ca cb : Nat) (u : Nat → Value) (c : Frame) (cs : List Frame) (w : World) :
    Walk Try.prog main (DR V) (fun g w' => g = G (c.finish (.bool true)) cs ∧ ∃ d, w' = w.at d) (G (hdSA (.slice a n ca) (.slice b n cb) n u) (c :: cs)) w := by
  unfold hdSA
  repeat (first | refine Walk.cx ?_ | (refine Walk.cReg ?_; simp only [z31]) | (refine Walk.oq ?_; try walk_nrm) | (refine Walk.un ?_; walk_nrm))
  exact Walk.on1 rfl rfl Try.func31 rfl (.stop fun d => ⟨rfl, d, rfl⟩)
theorem sa_go (ab ao n ca bb bo cb i : Nat) (y : Bool) (x : Int) (la lb : Option Addr) (lc ld : Nat) (xl : List Int) (hxl : xl.length ≤ 1048576) (u : Nat → Value) (cs : List Frame) (w : World) (hi : i < n) (hn : n ≤ 17592186044416) (a0 : w.cell? ⟨ab, ao + i * 3, none⟩ = some (.bool y)) (a1 : w.cell? ⟨ab, ao + i * 3 + 1, none⟩ = some (.int .i64 x)) (a2 : w.cell? ⟨ab, ao + i * 3 + 2, none⟩ = some (.slice la xl.length lc)) (b0 : w.cell? ⟨bb, bo + i * 3, none⟩ = some (.bool y)) (b1 : w.cell? ⟨bb, bo + i * 3 + 1, none⟩ = some (.int .i64 x)) (b2 : w.cell? ⟨bb, bo + i * 3 + 2, none⟩ = some (.slice lb xl.length ld)) (n1 : NumA la xl w) (n2 : NumA lb xl w) :
    Walk Try.prog main (DR V) (fun g w' => (∃ u', g = G (hdSA (.slice (some ⟨ab, ao, none⟩) n ca) (.slice (some ⟨bb, bo, none⟩) n cb) (i + 1) u') cs) ∧ ∃ d, w' = w.at d) (G (hdSA (.slice (some ⟨ab, ao, none⟩) n ca) (.slice (some ⟨bb, bo, none⟩) n cb) i u) cs) w := by
  have hw1 : IntKind.wrap .i64 ((i : Int) + 1) = (i : Int) + 1 := by rw [IntKind.wrap_i64]; omega
  have qb := run_neqB (P := Try.prog) 4 und4B y y
  have qe := ev_neqB (P := Try.prog) 4 und4B y y
  have qy : (y != y) = false := by cases y <;> rfl
  have hq := sn_w (main := main) (V := V) la lb xl lc ld (by omega) w n1 n2
  clear n1 n2
  generalize xl.length = m at *
  rw [qy] at qb
  conv => arg 5; unfold hdSA
  repeat (first | refine Walk.cx ?_ | (refine Walk.cReg ?_; simp only [z31]) | (refine Walk.oq ?_; try walk_nrm) | (refine Walk.un ?_; walk_nrm))
  (refine Walk.drawnC (by kernel_rfl) size31_6 (by kernel_rfl) (by kernel_rfl) (by decide) ?_; simp only [List.range, List.range.loop]; repeat (first | (refine Cm.oq ?_) | (refine Cm.unw (ho_of (by conv => lhs; whnf) (by kernel_rfl)) (by rfl) ?_; walk_nrm)))
  refine Cm.callV (x := .bool true) ?_ (ho_of (by conv => lhs; whnf) (by kernel_rfl)) (by rfl) rfl Try.func32 (by kernel_rfl) (by rfl) ?_
  · intro w' e
    subst e
    walk_nrm
    exact hq
  walk_nrm
  repeat (first | (refine Cm.oq ?_) | (refine Cm.unw (ho_of (by conv => lhs; whnf) (by kernel_rfl)) (by rfl) ?_; walk_nrm))
  refine Cm.done ?_
  repeat (first | refine Walk.cx ?_ | (refine Walk.cReg ?_; simp only [z31]) | (refine Walk.oq ?_; try walk_nrm) | (refine Walk.un ?_; walk_nrm))
  refine Walk.ctl rfl (fun w => stepG_inLoop) ?_
  refine .stop fun d' => ⟨at_slots ?_, d', rfl⟩
  have hc : ((i + 1 : Nat) : Int) = (i : Int) + 1 := by simp
  simp only [hdSA, hc]
  rfl
theorem sa_loop (a b : Option Addr) (l : List Ans) (ca cb : Nat) (hn : l.length ≤ 17592186044416) (c : Frame) (cs : List Frame) (w : World) (ha : AnsA a l w) (hb : AnsA b l w) : ∀ (r i : Nat) (u : Nat → Value), i + r = l.length →
    Walk Try.prog main (DR V) (fun g w' => g = G (c.finish (.bool true)) cs ∧ ∃ d, w' = w.at d) (G (hdSA (.slice a l.length ca) (.slice b l.length cb) i u) (c :: cs)) w := by
  intro r
  induction r with
  | zero =>
    intro i u hi
    have hi : i = l.length := hi
    subst hi
    exact sa_out a b l.length ca cb u c cs w
  | succ r ih =>
    intro i u hi
    have hin : i < l.length := by omega
    have hx := List.getElem?_eq_getElem hin
    generalize l[i] = x at hx
    obtain ⟨ab, ao, la, lc, rfl, h1, h2, h3, h4, h5⟩ := ha i _ hx
    obtain ⟨bb, bo, lb, ld, rfl, k1, k2, k3, k4, _⟩ := hb i _ hx
    refine (sa_go ab ao l.length ca bb bo cb i x.ok x.n la lb lc ld x.l h5 u (c :: cs) w hin hn h1 h2 h3 k1 k2 k3 h4 k4).then ?_
    rintro g w' ⟨⟨u', rfl⟩, d, rfl⟩
    exact Walk.back (ih (i + 1) u' (by omega)) d
theorem sa_w (a b : Option Addr) (l : List Ans) (ca cb : Nat) (hn : l.length ≤ 17592186044416) (w : World) (ha : AnsA a l w) (hb : AnsA b l w) : CallV Try.prog main V 31 #[.slice a l.length ca, .slice b l.length cb] w (.bool true) w := by
  intro fr cs
  refine (sa_in a b l.length ca cb (fr :: cs) w).then ?_
  rintro g w1 ⟨⟨u, rfl⟩, d, rfl⟩
  refine Walk.back ?_ d
  refine (sa_loop a b l ca cb hn fr cs w ha hb l.length 0 u (by omega)).mono ?_
  rintro g w' ⟨rfl, d, rfl⟩
  exact ⟨_, ⟨rfl, d, rfl⟩, rfl⟩
end
section
variable {main : Bool}
noncomputable def reg26_0 := rg Try.f26.body [0]
noncomputable def reg26_1 := rg Try.f26.body [1, 0, 0]
noncomputable def reg26_2 := rg Try.f26.body [1, 0, 1, 0, 0]
noncomputable def reg26_3 := rg Try.f26.body [1, 1, 0, 0]
noncomputable def reg26_4 := rg Try.f26.body [1, 1, 0, 1, 0, 0, 0, 0]
noncomputable def reg26_6 := rg Try.f26.body [1, 1, 0, 1, 0, 0, 1, 0, 0, 0]
theorem size26_6 : reg26_6.size = 12 := by kernel_rfl
noncomputable def reg26_7 := rg Try.f26.body [1, 1, 0, 1, 0, 0, 1, 0, 0, 1, 0, 0]
noncomputable def reg26_5 := rg Try.f26.body [1, 1, 0, 1, 0, 0, 1, 1]
noncomputable def reg26_8 := rg Try.f26.body [1, 1, 1, 0]
theorem z26 : List.range reg26_0.size = [0, 1, 2] ∧ List.range reg26_1.size = [0, 1, 2, 3, 4, 5, 6, 7, 8, 9, 10, 11, 12, 13, 14, 15, 16, 17, 18, 19, 20, 21, 22, 23, 24, 25, 26, 27, 28, 29] ∧ List.range reg26_2.size = [0] ∧ List.range reg26_3.size = [0] ∧ List.range reg26_4.size = [0, 1, 2, 3, 4] ∧ List.range reg26_5.size = [0, 1, 2] ∧ List.range reg26_6.size = [0, 1, 2, 3, 4, 5, 6, 7, 8, 9, 10, 11] ∧ List.range reg26_7.size = [0] ∧ List.range reg26_8.size = [0] := by refine ⟨?_, ?_, ?_, ?_, ?_, ?_, ?_, ?_, ?_⟩ <;> kernel_rfl
theorem code26_is : Try.f26.body = some (.seq (.region 0 reg26_0 false) (.seq (.seq (.region 1 reg26_1 false) (.cond (.tmp 35 ) (.seq (.region 2 reg26_2 false) (.ret)) (.skip))) (.seq (.seq (.region 3 reg26_3 false) (.block 0 (.loop (.seq (.seq (.region 4 reg26_4 false) (.cond (.tmp 40 ) (.skip) (.exit 0))) (.seq (.block 1 (.seq (.region 6 reg26_6 true) (.cond (.tmp 54 ) (.seq (.region 7 reg26_7 false) (.ret)) (.skip)))) (.region 5 reg26_5 false)))))) (.seq (.region 8 reg26_8 false) (.ret))))) := by kernel_rfl
noncomputable def hdSm (X Y i : Nat) (u : Nat → Value) : Frame :=
  (base 26).at { tmps := #[u 0, u 1, .pointer (some ⟨X, 0, none⟩), .pointer (some ⟨Y, 0, none⟩), u 4, .int .i64 i, u 6, u 7, u 8, u 9, u 10, u 11, u 12, u 13, u 14, u 15, u 16, u 17, u 18, u 19, u 20, u 21, u 22, u 23, u 24, u 25, u 26, u 27, u 28, u 29, u 30, u 31, u 32, u 33, u 34, u 35, u 36, u 37, u 38, u 39, u 40, u 41, u 42, u 43, u 44, u 45, u 46, u 47, u 48, u 49, u 50, u 51, u 52, u 53, u 54], defers := [] } [.code (.seq (.seq (.region 4 reg26_4 false) (.cond (.tmp 40 ) (.skip) (.exit 0))) (.seq (.block 1 (.seq (.region 6 reg26_6 true) (.cond (.tmp 54 ) (.seq (.region 7 reg26_7 false) (.ret)) (.skip)))) (.region 5 reg26_5 false))), .inLoop (.seq (.seq (.region 4 reg26_4 false) (.cond (.tmp 40 ) (.skip) (.exit 0))) (.seq (.block 1 (.seq (.region 6 reg26_6 true) (.cond (.tmp 54 ) (.seq (.region 7 reg26_7 false) (.ret)) (.skip)))) (.region 5 reg26_5 false))), .inBlock 0, .code (.seq (.region 8 reg26_8 false) (.ret))]
theorem sm_in (aa : Option Addr) (n ac : Nat) (oa : Option Addr) (ord : List Int) (oc : Nat) (sa : Option Addr) (sts : List Int) (sc : Nat) (k : Bool) (ba : Option Addr) (bc : Nat) (pa : Option Addr) (pc : Nat) (ra : Option Addr) (rc : Nat) (cs : List Frame) (w : World) (hsn : sts.length ≤ 17592186044416) (s1 : NumA sa sts w) (s2 : NumA ra sts w) (hon : ord.length ≤ 17592186044416) (t1 : NumA oa ord w) (t2 : NumA pa ord w) :
    Walk Try.prog main (DR (fun _ => none)) (fun g w' => (∃ u, g = G (hdSm w.heap.size (w.heap.size + 1) 0 u) cs) ∧ Chg (fun _ => False) w w' ∧ w'.heap[w.heap.size]? = some (.cells (trC (.slice aa n ac) (.slice oa ord.length oc) (.slice sa sts.length sc) k) 63) ∧ w'.heap[w.heap.size + 1]? = some (.cells (trC (.slice ba n bc) (.slice pa ord.length pc) (.slice ra sts.length rc) k) 63))
      (G (Frame.enter Try.prog 26 #[.agg (trC (.slice aa n ac) (.slice oa ord.length oc) (.slice sa sts.length sc) k), .agg (trC (.slice ba n bc) (.slice pa ord.length pc) (.slice ra sts.length rc) k)] .normal) cs) w := by
  have qb := run_neqB (P := Try.prog) 4 und4B k k
  have qe := ev_neqB (P := Try.prog) 4 und4B k k
  have qk : (k != k) = false := by cases k <;> rfl
  rw [qk] at qb
  rw [enter_at _ Try.func26 code26_is]
  simp only [Try.ntmps26, ez, Nat.reduceAdd, Nat.reduceSub]
  repeat (first | refine Walk.cx ?_ | (refine Walk.cReg ?_; simp only [z26]) | (refine Walk.oq ?_; try walk_nrm) | (refine Walk.un ?_; walk_nrm))
  (refine Walk.oa ?_; try walk_nrm)
  have hO : Chg (fun _ => False) w (w.alloc (.cells (trC (.slice aa n ac) (.slice oa ord.length oc) (.slice sa sts.length sc) k) 63)) := Chg.alloc
  have hX := heap_alloc_new w (.cells (trC (.slice aa n ac) (.slice oa ord.length oc) (.slice sa sts.length sc) k) 63)
  have hsz : (w.alloc (.cells (trC (.slice aa n ac) (.slice oa ord.length oc) (.slice sa sts.length sc) k) 63)).heap.size = w.heap.size + 1 := by simp
  generalize w.alloc (.cells (trC (.slice aa n ac) (.slice oa ord.length oc) (.slice sa sts.length sc) k) 63) = w1 at *
  repeat (first | (refine Walk.oq ?_; try walk_nrm) | (refine Walk.un ?_; walk_nrm))
  (refine Walk.oa ?_; try walk_nrm)
  have hO2 : Chg (fun _ => False) w (w1.alloc (.cells (trC (.slice ba n bc) (.slice pa ord.length pc) (.slice ra sts.length rc) k) 63)) := hO.trans (S' := fun _ => False) Chg.alloc fun _ _ h => h
  have hY := heap_alloc_new w1 (.cells (trC (.slice ba n bc) (.slice pa ord.length pc) (.slice ra sts.length rc) k) 63)
  have hX2 := (heap_new_lt w1 (.cells (trC (.slice ba n bc) (.slice pa ord.length pc) (.slice ra sts.length rc) k) 63) (by rw [hsz]; exact Nat.lt_succ_self _)).trans hX
  rw [hsz] at hY
  clear hX hO hsz
  generalize w1.alloc (.cells (trC (.slice ba n bc) (.slice pa ord.length pc) (.slice ra sts.length rc) k) 63) = w2 at *
  have h17 := si_w (main := main) (V := fun _ => none) oa pa ord oc pc hon w2 (t1.chg hO2) (t2.chg hO2)
  have h18 := sn_w (main := main) (V := fun _ => none) sa ra sts sc rc hsn w2 (s1.chg hO2) (s2.chg hO2)
  generalize w.heap.size = X at *
  have x0 : w2.cell? ⟨X, 0, none⟩ = some (.slice aa n ac) := (cell_of hX2 0).trans rfl
  have x1 : w2.cell? ⟨X, 1, none⟩ = some (.slice oa ord.length oc) := (cell_of hX2 1).trans rfl
  have x2 : w2.cell? ⟨X, 2, none⟩ = some (.slice sa sts.length sc) := (cell_of hX2 2).trans rfl
  have x3 : w2.cell? ⟨X, 3, none⟩ = some (.bool k) := (cell_of hX2 3).trans rfl
  have y0 : w2.cell? ⟨X + 1, 0, none⟩ = some (.slice ba n bc) := (cell_of hY 0).trans rfl
  have y1 : w2.cell? ⟨X + 1, 1, none⟩ = some (.slice pa ord.length pc) := (cell_of hY 1).trans rfl
  have y2 : w2.cell? ⟨X + 1, 2, none⟩ = some (.slice ra sts.length rc) := (cell_of hY 2).trans rfl
  have y3 : w2.cell? ⟨X + 1, 3, none⟩ = some (.bool k) := (cell_of hY 3).trans rfl
  clear s1 s2 t1 t2
  repeat (first | refine Walk.cx ?_ | (refine Walk.cReg ?_; simp only [z26]) | (refine Walk.oq ?_; try walk_nrm) | (refine Walk.un ?_; walk_nrm))
  refine Walk.callV (x := .bool true) (W := w2) ?_ (ho_of (by conv => lhs; whnf) (by kernel_rfl)) (by rfl) (by decide) rfl Try.func37 (by kernel_rfl) (by rfl) ?_
  · walk_nrm
    exact h17
  walk_nrm
  repeat (first | refine Walk.cx ?_ | (refine Walk.cReg ?_; simp only [z26]) | (refine Walk.oq ?_; try walk_nrm) | (refine Walk.un ?_; walk_nrm))
  refine Walk.callV (x := .bool true) (W := w2) ?_ (ho_of (by conv => lhs; whnf) (by kernel_rfl)) (by rfl) (by decide) rfl Try.func32 (by kernel_rfl) (by rfl) ?_
  · walk_nrm
    exact h18
  walk_nrm
  repeat (first | refine Walk.cx ?_ | (refine Walk.cReg ?_; simp only [z26]) | (refine Walk.oq ?_; try walk_nrm) | (refine Walk.un ?_; walk_nrm))
  refine Walk.ctl rfl (fun w => stepG_loop) ?_
  refine .stop fun d => ⟨at_slots ?_, hO2.at d, hX2, hY⟩
  simp only [hdSm]
  rfl
theorem sm_go (X Y n i ab ao ac bb bo bc : Nat) (ta tb : Option Addr) (l : List Ans) (tc td : Nat) (u : Nat → Value) (cs : List Frame) (w : World) (hi : i < n) (hn : n ≤ 17592186044416) (htl : l.length ≤ 17592186044416) (x0 : w.cell? ⟨X, 0, none⟩ = some (.slice (some ⟨ab, ao, none⟩) n ac)) (y0 : w.cell? ⟨Y, 0, none⟩ = some (.slice (some ⟨bb, bo, none⟩) n bc))
    (ha : w.cell? ⟨ab, ao + i, none⟩ = some (.slice ta l.length tc)) (hb : w.cell? ⟨bb, bo + i, none⟩ = some (.slice tb l.length td)) (h1 : AnsA ta l w) (h2 : AnsA tb l w) :
    Walk Try.prog main (DR (fun _ => none)) (fun g w' => (∃ u', g = G (hdSm X Y (i + 1) u') cs) ∧ ∃ d, w' = w.at d) (G (hdSm X Y i u) cs) w := by
  have hw1 : IntKind.wrap .i64 ((i : Int) + 1) = (i : Int) + 1 := by rw [IntKind.wrap_i64]; omega
  have hq := sa_w (main := main) (V := fun _ => none) ta tb l tc td htl w h1 h2
  clear h1 h2
  conv => arg 5; unfold hdSm
  repeat (first | refine Walk.cx ?_ | (refine Walk.cReg ?_; simp only [z26]) | (refine Walk.oq ?_; try walk_nrm) | (refine Walk.un ?_; walk_nrm))
  (refine Walk.drawnC (by kernel_rfl) size26_6 (by kernel_rfl) (by kernel_rfl) (by decide) ?_; simp only [List.range, List.range.loop]; repeat (first | (refine Cm.oq ?_) | (refine Cm.unw (ho_of (by conv => lhs; whnf) (by kernel_rfl)) (by rfl) ?_; walk_nrm)))
  refine Cm.callV (x := .bool true) ?_ (ho_of (by conv => lhs; whnf) (by kernel_rfl)) (by rfl) rfl Try.func31 (by kernel_rfl) (by rfl) ?_
  · intro w' e
    subst e
    walk_nrm
    exact hq
  walk_nrm
  repeat (first | (refine Cm.oq ?_) | (refine Cm.unw (ho_of (by conv => lhs; whnf) (by kernel_rfl)) (by rfl) ?_; walk_nrm))
  refine Cm.done ?_
  repeat (first | refine Walk.cx ?_ | (refine Walk.cReg ?_; simp only [z26]) | (refine Walk.oq ?_; try walk_nrm) | (refine Walk.un ?_; walk_nrm))
  refine Walk.ctl rfl (fun w => stepG_inLoop) ?_
  refine .stop fun d' => ⟨at_slots ?_, d', rfl⟩
  have hc : ((i + 1 : Nat) : Int) = (i : Int) + 1 := by simp
  simp only [hdSm, hc]
  rfl
theorem sm_out (X Y n : Nat) (aa : Option Addr) (ac : Nat) (u : Nat → Value) (c : Frame) (cs : List Frame) (w : World) (x0 : w.cell? ⟨X, 0, none⟩ = some (.slice aa n ac)) :
    Walk Try.prog main (DR (fun _ => none)) (fun g w' => g = G (c.finish (.bool true)) cs ∧ ∃ d, w' = w.at d) (G (hdSm X Y n u) (c :: cs)) w := by
  unfold hdSm
  repeat (first | refine Walk.cx ?_ | (refine Walk.cReg ?_; simp only [z26]) | (refine Walk.oq ?_; try walk_nrm) | (refine Walk.un ?_; walk_nrm))
  exact Walk.on1 rfl rfl Try.func26 rfl (.stop fun d => ⟨rfl, d, rfl⟩)
theorem sm_w (ca cb : Array Value) (n : Nat) (F : Nat → List Ans) (ord : List Nat) (sts : List Int) (k : Bool) (w : World) (hn : n ≤ 64) (hord : ord.length ≤ 1048576) (hsn : sts.length ≤ 1048576) (hF : ∀ i, i < n → (F i).length ≤ 65536) (h1 : TrA ca n F ord sts k w) (h2 : TrA cb n F ord sts k w) :
    CallW Try.prog main (fun _ => none) 26 #[.agg ca, .agg cb] w (fun v w' => v = .bool true ∧ Chg (fun _ => False) w w') := by
  obtain ⟨aa, ac, oa, oc, sa, sc, rfl, n1, n2, n3⟩ := h1.all
  obtain ⟨ba, bc, pa, pc, ra, rc, rfl, m1, m2, m3⟩ := h2.all
  have olen : (ord.map fun i => ((i : Nat) : Int)).length = ord.length := by simp
  intro fr cs
  have hin := sm_in (main := main) aa n ac oa (ord.map fun i => ((i : Nat) : Int)) oc sa sts sc k ba bc pa pc ra rc (fr :: cs) w (by omega) n2 m2 (by omega) n1 m1
  rw [olen] at hin
  refine hin.then ?_
  rintro g w1 ⟨⟨u, rfl⟩, hC, hX, hY⟩
  have x0 : w1.cell? ⟨w.heap.size, 0, none⟩ = some (.slice aa n ac) := (cell_of hX 0).trans rfl
  have y0 : w1.cell? ⟨w.heap.size + 1, 0, none⟩ = some (.slice ba n bc) := (cell_of hY 0).trans rfl
  have hcell : ∀ {x j : Nat} {v : Value}, w.cell? ⟨x, j, none⟩ = some v → w1.cell? ⟨x, j, none⟩ = some v := fun {x j v} h => (World.cell?_of_block (a := ⟨x, j, none⟩) (hC.same x (cell_lt' h) id)).trans h
  have loop : ∀ (r i : Nat) (u : Nat → Value), i + r = n → Walk Try.prog main (DR (fun _ => none)) (fun g w' => g = G (fr.finish (.bool true)) cs ∧ ∃ d, w' = w1.at d) (G (hdSm w.heap.size (w.heap.size + 1) i u) (fr :: cs)) w1 := by
    intro r
    induction r with
    | zero =>
      intro i u hi
      obtain rfl : i = n := hi
      exact sm_out _ _ i aa ac u fr cs w1 x0
    | succ r ih =>
      intro i u hi
      obtain ⟨ab, ao, ta, tc, rfl, k1, k2⟩ := n3 i (by omega)
      obtain ⟨bb, bo, tb, td, rfl, j1, j2⟩ := m3 i (by omega)
      refine (sm_go _ _ n i ab ao ac bb bo bc ta tb (F i) tc td u (fr :: cs) w1 (by omega) (by omega) (by have := hF i (by omega); omega) x0 y0 (hcell k1) (hcell j1) (k2.chg hC) (j2.chg hC)).then ?_
      rintro g w' ⟨⟨u', rfl⟩, d, rfl⟩
      exact Walk.back (ih (i + 1) u' (by omega)) d
  refine (loop n 0 u (by omega)).mono ?_
  rintro g w' ⟨rfl, d, rfl⟩
  exact ⟨_, ⟨rfl, hC.at d⟩, rfl⟩
end
end
end Go.Proofs.Ytgfajibjedfkdaa
