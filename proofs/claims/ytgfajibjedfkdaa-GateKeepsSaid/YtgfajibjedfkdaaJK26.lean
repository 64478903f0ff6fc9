/- Part 26. -/
import Derived.Test.YtgfajibjedfkdaaJK14
import Derived.Test.YtgfajibjedfkdaaJK25
import Derived.Deep.MidRow
set_option linter.unusedSimpArgs false
set_option linter.unusedVariables false
set_option linter.unusedVariables false
set_option maxHeartbeats 8000000
set_option maxRecDepth 100000
namespace Go.Proofs.Ytgfajibjedfkdaa
open Go.Conc Go.RowKit Go.Relay
open Go.ConcN (upd upd_ne upd_same)
section
variable {main : Bool}
theorem ks5 (st sc tv : Value) (X Y A B : Nat) (i n ab : Nat) (u : Nat → Value) (cs : List Frame) (w : World) (hi : i < n) (hn : n ≤ 64) (h0 : w.cell? ⟨A, 0, none⟩ = some (.slice (some ⟨ab, 0, none⟩) n n)) :
    Walk Try.prog main (DR (fun _ => none)) (fun g' w' => (∃ u', g' = G (hk6 st sc tv X Y A B i 0 u') cs) ∧ ∃ d, w' = w.at d) (G (hk5 st sc tv X Y A B i u) cs) w := by
  conv => arg 5; unfold hk5
  repeat (first | refine Walk.cx ?_ | (refine Walk.cReg ?_; simp only [z11]) | (refine Walk.oq ?_; try walk_nrm) | (refine Walk.un ?_; walk_nrm))
  refine Walk.ctl rfl (fun w => stepG_loop) ?_
  refine .stop fun d => ⟨at_slots ?_, d, rfl⟩
  simp only [hk6]
  rfl
theorem ks5o (st sc tv : Value) (X Y A B : Nat) (n ab : Nat) (u : Nat → Value) (cs : List Frame) (w : World) (h0 : w.cell? ⟨A, 0, none⟩ = some (.slice (some ⟨ab, 0, none⟩) n n)) :
    Walk Try.prog main (DR (fun _ => none)) (fun g' w' => (∃ u', g' = G (hk9 st sc tv X Y A B 0 u') cs) ∧ ∃ d, w' = w.at d) (G (hk5 st sc tv X Y A B n u) cs) w := by
  conv => arg 5; unfold hk5
  repeat (first | refine Walk.cx ?_ | (refine Walk.cReg ?_; simp only [z11]) | (refine Walk.oq ?_; try walk_nrm) | (refine Walk.un ?_; walk_nrm))
  refine Walk.ctl rfl (fun w => stepG_loop) ?_
  refine .stop fun d => ⟨at_slots ?_, d, rfl⟩
  simp only [hk9]
  rfl
theorem ks6 (st sc tv : Value) (X Y A B : Nat) (i k n ab rn rc : Nat) (ra : Option Addr) (u : Nat → Value) (cs : List Frame) (w : World) (hi : i < n) (hn : n ≤ 64) (hk : k < rn) (hrn : rn ≤ 65536) (h0 : w.cell? ⟨A, 0, none⟩ = some (.slice (some ⟨ab, 0, none⟩) n n)) (h1 : w.cell? ⟨ab, i, none⟩ = some (.slice ra rn rc)) :
    Walk Try.prog main (DR (fun _ => none)) (fun g' w' => (∃ u', g' = G (hk7 st sc tv X Y A B i k 0 u') cs) ∧ ∃ d, w' = w.at d) (G (hk6 st sc tv X Y A B i k u) cs) w := by
  conv => arg 5; unfold hk6
  repeat (first | refine Walk.cx ?_ | (refine Walk.cReg ?_; simp only [z11]) | (refine Walk.oq ?_; try walk_nrm) | (refine Walk.un ?_; walk_nrm))
  refine Walk.ctl rfl (fun w => stepG_loop) ?_
  refine .stop fun d => ⟨at_slots ?_, d, rfl⟩
  simp only [hk7]
  rfl
theorem ks6o (st sc tv : Value) (X Y A B : Nat) (i n ab rn rc : Nat) (ra : Option Addr) (u : Nat → Value) (cs : List Frame) (w : World) (hi : i < n) (hn : n ≤ 64) (hrn : rn ≤ 65536) (h0 : w.cell? ⟨A, 0, none⟩ = some (.slice (some ⟨ab, 0, none⟩) n n)) (h1 : w.cell? ⟨ab, i, none⟩ = some (.slice ra rn rc)) :
    Walk Try.prog main (DR (fun _ => none)) (fun g' w' => (∃ u', g' = G (hk8 st sc tv X Y A B i 0 (.slice ra rn rc) u') cs) ∧ ∃ d, w' = w.at d) (G (hk6 st sc tv X Y A B i rn u) cs) w := by
  conv => arg 5; unfold hk6
  repeat (first | refine Walk.cx ?_ | (refine Walk.cReg ?_; simp only [z11]) | (refine Walk.oq ?_; try walk_nrm) | (refine Walk.un ?_; walk_nrm))
  refine Walk.ctl rfl (fun w => stepG_loop) ?_
  refine .stop fun d => ⟨at_slots ?_, d, rfl⟩
  simp only [hk8]
  rfl
theorem ks7 (st sc tv : Value) (X Y A B : Nat) (i k j n ab g gl rn rc ll lc : Nat) (y : Value) (u : Nat → Value) (cs : List Frame) (w : World) (hi : i < n) (hn : n ≤ 64) (hk : k < rn) (hrn : rn ≤ 65536) (hj : j < ll) (hll : ll ≤ 1048576) (h0 : w.cell? ⟨A, 0, none⟩ = some (.slice (some ⟨ab, 0, none⟩) n n)) (h1 : w.cell? ⟨ab, i, none⟩ = some (.slice (some ⟨g, 0, none⟩) rn rc)) (h2 : w.cell? ⟨g, k * 3 + 2, none⟩ = some (.slice (some ⟨gl, 0, none⟩) ll lc)) (h3 : w.cell? ⟨gl, j, none⟩ = some y) (hz : w.frozen? ⟨gl, j, none⟩ = false) :
    Walk Try.prog main (DR (fun _ => none)) (fun g' w' => (∃ u', g' = G (hk7 st sc tv X Y A B i k (j + 1) u') cs) ∧ ∃ d, w' = (w.setCell ⟨gl, j, none⟩ (.int .i64 (-3))).at d) (G (hk7 st sc tv X Y A B i k j u) cs) w := by
  have hw1 : IntKind.wrap .i64 ((j : Int) + 1) = (j : Int) + 1 := by rw [IntKind.wrap_i64]; omega
  have hc : ((j + 1 : Nat) : Int) = (j : Int) + 1 := by simp
  have hf : Free (fun _ => none) ⟨gl, j, none⟩ := (ap0 gl).1 _ rfl
  conv => arg 5; unfold hk7
  repeat (first | refine Walk.cx ?_ | (refine Walk.cReg ?_; simp only [z11]) | (refine Walk.oq ?_; try walk_nrm) | (refine Walk.un ?_; walk_nrm))
  (refine Walk.os hf h3 ?_; try walk_nrm)
  generalize hw2 : w.setCell ⟨gl, j, none⟩ (.int .i64 (-3)) = w2 at *
  clear h0 h1 h2 h3 hz hf
  repeat (first | refine Walk.cx ?_ | (refine Walk.cReg ?_; simp only [z11]) | (refine Walk.oq ?_; try walk_nrm) | (refine Walk.un ?_; walk_nrm))
  refine Walk.ctl rfl (fun w => stepG_inLoop) ?_
  refine .stop fun d' => ⟨at_slots ?_, d', rfl⟩
  simp only [hk7, hc]
  rfl
end
section
theorem tape_set (w : World) (a : Addr) (x : Value) : (w.setCell a x).tape = w.tape := by
  unfold World.setCell
  rfl
theorem setCells_kept (b : Nat) : ∀ (vs : List Value) (o : Nat) (w : World), OsSame w (w.setCells b o vs) ∧ (w.setCells b o vs).tape = w.tape ∧ (w.setCells b o vs).heap.size = w.heap.size ∧ (∀ k, k ≠ b → (w.setCells b o vs).heap[k]? = w.heap[k]?) ∧ ∀ cur t, w.heap[b]? = some (.cells cur t (0, 0)) → ∃ cur' : Array Value, (w.setCells b o vs).heap[b]? = some (.cells cur' t (0, 0)) ∧ cur'.size = cur.size
  | [], o, w => ⟨OsSame.refl w, rfl, rfl, fun _ _ => rfl, fun cur t h => ⟨cur, h, rfl⟩⟩
  | v :: r, o, w => by
    obtain ⟨h1, h2, h3, h4, h5⟩ := setCells_kept b r (o + 1) (w.setCell ⟨b, o, none⟩ v)
    have e : w.setCells b o (v :: r) = (w.setCell ⟨b, o, none⟩ v).setCells b (o + 1) r := rfl
    have hs := osSame_set w ⟨b, o, none⟩ v
    rw [e]
    refine ⟨⟨h1.1.trans hs.1, h1.2.trans hs.2⟩, h2.trans (tape_set ..), h3.trans (size_set ..), fun k hk => (h4 k hk).trans (heap_set_other _ _ _ _ hk), fun cur t h => ?_⟩
    obtain ⟨cur', e1, e2⟩ := h5 _ t (heap_set_self _ _ h)
    exact ⟨cur', e1, by rw [e2]; simp⟩
theorem events_storeVar_off {P : Program} (w : World) (g off : Nat) (t ty : TypeId) (cur cells : Array Value) (hg : w.heap[g]? = some (.cells cur t (0, 0))) (hi : (P.info? ty).map (·.size) = some cells.size) (hl : off + cells.size ≤ cur.size) (h1 : cells.all (·.oneCell') = true) :
    ∀ e ∈ (storeVar ty ⟨g, off, none⟩ (.agg cells)).events P w #[], ∃ ad, e.loc = .cell ad ∧ ad.block = g := by
  cases hq : P.info? ty with
  | none => simp [hq] at hi
  | some i =>
    have hs : cells.size = i.size := by simp [hq] at hi; omega
    intro e he
    have : e ∈ (storeCells ⟨g, off, none⟩ cells.toList 0).events P w #[] := by
      simpa [storeVar, sizeOf, typeInfo, hq, Value.cells, hs, Sem.events_bind] using he
    rcases events_storeCells_at g off t cells.toList 0 cur w #[] hg (by simp; omega) (fun v hv => (Array.all_eq_true_iff_forall_mem.1 h1) v (by simpa using hv)) e this with h | h
    · simp at h
    · exact h
section
variable {P : Program} {main : Bool} {V : Nat → Option Wait} {Stop : Goroutine → World → Prop} {w : World} {b : Frame} {a : Act} {k : List Item} {cs : List Frame} {ops : Array Oper} {i : Nat} {rest : List Nat} {o : Oper}
theorem Walk.storeM (t : TypeId) (x y : Operand) (ho : ops[i]? = some o) (hw : Region.wanted o (yielded ops a.tmps) = true) (hk : b.kind ≠ .early) (hop : o.op = .store t x y) (g off : Nat) (cells cur : Array Value) (tt : TypeId) (hx : a.eval x = .pointer (some ⟨g, off, none⟩)) (hy : a.eval y = .agg cells)
    (hg : w.heap[g]? = some (.cells cur tt (0, 0))) (hi : (P.info? t).map (·.size) = some cells.size) (hl : off + cells.size ≤ cur.size) (h1 : cells.all (·.oneCell') = true) (hap : Apart V g)
    (h : Walk P main (DR V) Stop (G (b.at (a.put o.dst undef) (.inRegion ops rest :: k)) cs) (w.setCells g off cells.toList)) : Walk P main (DR V) Stop (G (b.at a (.inRegion ops (i :: rest) :: k)) cs) w := by
  obtain ⟨k1, k2, k3, k4, _⟩ := setCells_kept g cells.toList off w
  have hat : ∀ d, ((w.at d).setCells g off cells.toList) = (w.setCells g off cells.toList).at d := fun d => by
    have : ∀ (vs : List Value) (o : Nat) (w : World), (w.at d).setCells g o vs = (w.setCells g o vs).at d := by
      intro vs
      induction vs with
      | nil => intro o w; rfl
      | cons v r ih => intro o w; exact ih (o + 1) (w.setCell ⟨g, o, none⟩ v)
    exact this _ _ _
  have hgr : ∀ d, (w.at d).grownBy ((w.setCells g off cells.toList).at d) (some g) := fun d => ⟨k1.1, k2, k1.2, Nat.le_of_eq k3.symm, fun k hk hne => k4 k fun e => hne (by rw [e])⟩
  have hth : w.there g off cells.size := fun j hj => by
    refine ⟨?_, frozen_of hg _⟩
    rw [cell_of hg, Array.getElem?_eq_getElem (show off + j < cur.size by omega)]
    rfl
  have hr : ∀ d, (storeVar t ⟨g, off, none⟩ (.agg cells)).run P (w.at d) = .ok () ((w.setCells g off cells.toList).at d) := fun d => by
    rw [← hat]
    exact run_storeVar_mid (P := P) (w.at d) g off t cells hth hi h1
  refine Walk.opw (W := w.setCells g off cells.toList) ho hw hk (fun dd e he => ?_) (fun dd es hes => DR.grown (hgr dd) (fun g' e => by cases e; exact hap) hes) (fun dd K hK => ?_)
  · obtain ⟨ad, h1', h2'⟩ := events_storeVar_off (P := P) (w.at dd) g off tt t cur cells hg hi hl h1 e (by
      unfold execOp at he
      have hr' := hr dd
      simpa [hop, hx, hy, Instr.storeAt, Instr.sureAddr, Sem.events_bind, hr'] using he)
    exact evR_cell h1' (hap.1 ad h2')
  · unfold execOp
    simp only [hop, hx, hy, Instr.storeAt, Instr.sureAddr, Sem.run_bind, Sem.run_pure, Result.andThen_ok, hr dd]
    exact hK _ h
end
end
section
variable {main : Bool}
def mkA : Array Value := #[.bool false, .int .i64 (-1), .slice none 0 0]
theorem ks7o (st sc tv : Value) (X Y A B : Nat) (i k n ab g rn rc ll lc A0 : Nat) (la : Option Addr) (xs : List Value) (cur : Array Value) (u : Nat → Value) (cs : List Frame) (w : World) (hi : i < n) (hn : n ≤ 64) (hk : k < rn) (hrn : rn ≤ 65536) (hll : ll ≤ 1048576) (h0 : w.cell? ⟨A, 0, none⟩ = some (.slice (some ⟨ab, 0, none⟩) n n)) (h1 : w.cell? ⟨ab, i, none⟩ = some (.slice (some ⟨g, 0, none⟩) rn rc)) (h2 : w.cell? ⟨g, k * 3 + 2, none⟩ = some (.slice la ll lc)) (hg : w.heap[g]? = some (.cells cur 81 (0, 0))) (hl : k * 3 + 3 ≤ cur.size)
    (hrow : w.ownsRow A0 2 1 (.slice la ll lc) ll xs) (hA0 : A0 ≤ w.heap.size) (hnA : (Value.slice la ll lc).ownBlock ≠ some A) (hnb : (Value.slice la ll lc).ownBlock ≠ some ab) (hng : (Value.slice la ll lc).ownBlock ≠ some g) :
    Walk Try.prog main (DR (fun _ => none)) (fun g' w' => ∃ w4, w.heap.size ≤ w4.heap.size ∧ Sizes w w4 ∧ (∀ b, b < w.heap.size → (Value.slice la ll lc).ownBlock ≠ some b → w4.heap[b]? = w.heap[b]?) ∧ (∃ u', g' = G (hk6 st sc tv X Y A B i (k + 1) u') cs) ∧ ∃ d, w' = (w4.setCells g (k * 3) mkA.toList).at d) (G (hk7 st sc tv X Y A B i k ll u) cs) w := by
  have hw1 : IntKind.wrap .i64 ((k : Int) + 1) = (k : Int) + 1 := by rw [IntKind.wrap_i64]; omega
  have hc : ((k + 1 : Nat) : Int) = (k : Int) + 1 := by simp
  have hiI := Option.some_get (show (Try.prog.info? 2).isSome = true by kernel_rfl)
  have lA := cell_lt' h0
  have lab := cell_lt' h1
  have lg := (Array.getElem?_eq_some_iff.1 hg).1
  conv => arg 5; unfold hk7
  repeat (first | refine Walk.cx ?_ | (refine Walk.cReg ?_; simp only [z11]) | (refine Walk.oq ?_; try walk_nrm) | (refine Walk.un ?_; walk_nrm))
  (refine Walk.oa ?_; try walk_nrm)
  have s1 : (w.alloc (.cells #[.int .i64 (-4)] 2)).heap.size = w.heap.size + 1 := by simp
  have o1 : ∀ b, b < w.heap.size → (w.alloc (.cells #[.int .i64 (-4)] 2)).heap[b]? = w.heap[b]? := fun b hb => heap_new_lt _ _ hb
  have d1 := heap_alloc_new w (.cells #[.int .i64 (-4)] 2)
  have r1 := row_same hrow (w' := w.alloc (.cells #[.int .i64 (-4)] 2)) fun b hb => o1 b (hrow.lt b hb).2
  generalize hE : w.heap.size = E at *
  generalize w.alloc (.cells #[.int .i64 (-4)] 2) = w1 at *
  repeat (first | (refine Walk.oq ?_; try walk_nrm) | (refine Walk.un ?_; walk_nrm))
  refine Walk.appendS (.tmp 188) (.tmp 189) 28 (ho_of (by conv => lhs; whnf) (by kernel_rfl)) (by rfl) (by decide) rfl A0 2 _ (.int .i64 0) 1 8 (by kernel_rfl) hiI.symm (by rfl) (by rfl) (by rfl) (by rfl) (by decide) (.slice la ll lc) ll xs rfl r1 ⟨E, 0, none⟩ 1 1 [.int .i64 (-4)] rfl (by rfl) (fun j x hx => ?_) (by simp [Value.oneCell']) (by decide) (by simp [maxLen]; omega) (by omega) (by omega) (fun g _ => ap0 g) (fun g2 c2 w2 r2 hg2 S2 K2 at2 lt2 => ?_)
  · rw [add_none, Nat.zero_add]
    refine (cell_of d1 j).trans ?_
    simpa using hx
  have z2 := hg2.size
  have hne2 : ∀ b, b < E → (Value.slice la ll lc).ownBlock ≠ some b → b ≠ g2 := fun b hb hne e => by
    rcases at2 with h | h
    · exact hne (by rw [h, e])
    · omega
  have o2 : ∀ b, b < E → (Value.slice la ll lc).ownBlock ≠ some b → w2.heap[b]? = w.heap[b]? := fun b hb hne => (K2 b (by omega) (hne2 b hb hne)).trans (o1 b hb)
  have S02 : Sizes w w2 := Sizes.trans (Sizes.old fun b hb => o1 b (by omega)) S2
  have hge2 : (Value.slice la ll lc).ownBlock = some g2 ∨ E ≤ g2 := at2.imp id fun h => by omega
  clear K2 at2 hg2 r1 d1 o1 S2 hne2
  walk_nrm
  repeat (first | refine Walk.cx ?_ | (refine Walk.cReg ?_; simp only [z11]) | (refine Walk.oq ?_; try walk_nrm) | (refine Walk.un ?_; walk_nrm))
  (refine Walk.oa ?_; try walk_nrm)
  have s3 : (w2.alloc (.cells #[.int .i64 (-4)] 2)).heap.size = w2.heap.size + 1 := by simp
  have o3 : ∀ b, b < w2.heap.size → (w2.alloc (.cells #[.int .i64 (-4)] 2)).heap[b]? = w2.heap[b]? := fun b hb => heap_new_lt _ _ hb
  have d3 := heap_alloc_new w2 (.cells #[.int .i64 (-4)] 2)
  have r3 := row_same r2 (w' := w2.alloc (.cells #[.int .i64 (-4)] 2)) fun b hb => o3 b (r2.lt b hb).2
  generalize hE2 : w2.heap.size = E2 at *
  generalize w2.alloc (.cells #[.int .i64 (-4)] 2) = w3 at *
  repeat (first | (refine Walk.oq ?_; try walk_nrm) | (refine Walk.un ?_; walk_nrm))
  refine Walk.appendS (.tmp 191) (.tmp 192) 28 (ho_of (by conv => lhs; whnf) (by kernel_rfl)) (by rfl) (by decide) rfl A0 2 _ (.int .i64 0) 1 8 (by kernel_rfl) hiI.symm (by rfl) (by rfl) (by rfl) (by rfl) (by decide) (.slice (some ⟨g2, 0, none⟩) (ll + 1) c2) (ll + 1) _ rfl r3 ⟨E2, 0, none⟩ 1 1 [.int .i64 (-4)] rfl (by rfl) (fun j x hx => ?_) (by simp [Value.oneCell']) (by decide) (by simp [maxLen]; omega) (by omega) (by omega) (fun g _ => ap0 g) (fun g4 c4 w4 r4 hg4 S4 K4 at4 lt4 => ?_)
  · rw [add_none, Nat.zero_add]
    refine (cell_of d3 j).trans ?_
    simpa using hx
  have z4 := hg4.size
  have o4 : ∀ b, b < E → (Value.slice la ll lc).ownBlock ≠ some b → w4.heap[b]? = w.heap[b]? := fun b hb hne => by
    refine (K4 b (by omega) fun e => ?_).trans ((o3 b (by omega)).trans (o2 b hb hne))
    rcases at4 with h | h
    · have h : some g2 = some g4 := h
      rw [← Option.some.inj h] at e
      rcases hge2 with h' | h'
      · exact hne (by rw [h', e])
      · omega
    · omega
  have S04 : Sizes w w4 := S02.trans (Sizes.trans (Sizes.old fun b hb => o3 b (by omega)) S4)
  have z04 : E ≤ w4.heap.size := by omega
  have k0 : w4.cell? ⟨A, 0, none⟩ = some (.slice (some ⟨ab, 0, none⟩) n n) := (World.cell?_of_block (a := ⟨A, 0, none⟩) (o4 A lA hnA)).trans h0
  have k1 : w4.cell? ⟨ab, i, none⟩ = some (.slice (some ⟨g, 0, none⟩) rn rc) := (World.cell?_of_block (a := ⟨ab, i, none⟩) (o4 ab lab hnb)).trans h1
  have kg : w4.heap[g]? = some (.cells cur 81 (0, 0)) := (o4 g lg hng).trans hg
  clear K4 at4 hg4 r3 d3 o3 S4 r4 o2 S02 hge2 r2 h0 h1 h2 hg hrow s1 s3 z2 z4 lt2 lt4
  walk_nrm
  repeat (first | refine Walk.cx ?_ | (refine Walk.cReg ?_; simp only [z11]) | (refine Walk.oq ?_; try walk_nrm) | (refine Walk.un ?_; walk_nrm))
  refine Walk.storeM 81 (.tmp 201) (.tmp 200) (ho_of (by conv => lhs; whnf) (by kernel_rfl)) (by rfl) (by decide) rfl g (k * 3) mkA cur 81 rfl rfl kg (by kernel_rfl) hl (by simp [mkA, Value.oneCell']) (ap0 g) ?_
  generalize hw5 : w4.setCells g (k * 3) mkA.toList = w5 at *
  walk_nrm
  clear k0 k1 kg
  repeat (first | refine Walk.cx ?_ | (refine Walk.cReg ?_; simp only [z11]) | (refine Walk.oq ?_; try walk_nrm) | (refine Walk.un ?_; walk_nrm))
  refine Walk.ctl rfl (fun w => stepG_inLoop) ?_
  refine .stop fun d' => ⟨w4, z04, S04, o4, at_slots ?_, d', by rw [hw5]⟩
  simp only [hk6, hc]
  rfl
end
section
variable {main : Bool}
theorem ks9 (st sc tv : Value) (X Y A B : Nat) (i n ab : Nat) (u : Nat → Value) (cs : List Frame) (w : World) (hi : i < n) (hn : n ≤ 64) (h0 : w.cell? ⟨A, 0, none⟩ = some (.slice (some ⟨ab, 0, none⟩) n n)) :
    Walk Try.prog main (DR (fun _ => none)) (fun g' w' => (∃ u', g' = G (hk10 st sc tv X Y A B i 0 u') cs) ∧ ∃ d, w' = w.at d) (G (hk9 st sc tv X Y A B i u) cs) w := by
  conv => arg 5; unfold hk9
  repeat (first | refine Walk.cx ?_ | (refine Walk.cReg ?_; simp only [z11]) | (refine Walk.oq ?_; try walk_nrm) | (refine Walk.un ?_; walk_nrm))
  refine Walk.ctl rfl (fun w => stepG_loop) ?_
  refine .stop fun d => ⟨at_slots ?_, d, rfl⟩
  simp only [hk10]
  rfl
theorem ks10 (st sc tv : Value) (X Y A B : Nat) (i k n ab g rn rc : Nat) (u : Nat → Value) (cs : List Frame) (w : World) (hi : i < n) (hn : n ≤ 64) (hk : k < rn) (hrn : rn ≤ 65536) (h0 : w.cell? ⟨A, 0, none⟩ = some (.slice (some ⟨ab, 0, none⟩) n n)) (h1 : w.cell? ⟨ab, i, none⟩ = some (.slice (some ⟨g, 0, none⟩) rn rc)) (h2 : w.cell? ⟨g, k * 3 + 1, none⟩ = some (.int .i64 (-1))) :
    Walk Try.prog main (DR (fun _ => none)) (fun g' w' => (∃ u', g' = G (hk10 st sc tv X Y A B i (k + 1) u') cs) ∧ ∃ d, w' = w.at d) (G (hk10 st sc tv X Y A B i k u) cs) w := by
  have hw1 : IntKind.wrap .i64 ((k : Int) + 1) = (k : Int) + 1 := by rw [IntKind.wrap_i64]; omega
  have hc : ((k + 1 : Nat) : Int) = (k : Int) + 1 := by simp
  conv => arg 5; unfold hk10
  repeat (first | refine Walk.cx ?_ | (refine Walk.cReg ?_; simp only [z11]) | (refine Walk.oq ?_; try walk_nrm) | (refine Walk.un ?_; walk_nrm))
  refine Walk.ctl rfl (fun w => stepG_inLoop) ?_
  refine .stop fun d => ⟨at_slots ?_, d, rfl⟩
  simp only [hk10, hc]
  rfl
theorem ks10o (st sc tv : Value) (X Y A B : Nat) (i n ab rn rc : Nat) (ra : Option Addr) (u : Nat → Value) (cs : List Frame) (w : World) (hi : i < n) (hn : n ≤ 64) (hrn : rn ≤ 65536) (h0 : w.cell? ⟨A, 0, none⟩ = some (.slice (some ⟨ab, 0, none⟩) n n)) (h1 : w.cell? ⟨ab, i, none⟩ = some (.slice ra rn rc)) :
    Walk Try.prog main (DR (fun _ => none)) (fun g' w' => (∃ u', g' = G (hk9 st sc tv X Y A B (i + 1) u') cs) ∧ ∃ d, w' = w.at d) (G (hk10 st sc tv X Y A B i rn u) cs) w := by
  have hw1 : IntKind.wrap .i64 ((i : Int) + 1) = (i : Int) + 1 := by rw [IntKind.wrap_i64]; omega
  have hc : ((i + 1 : Nat) : Int) = (i : Int) + 1 := by simp
  conv => arg 5; unfold hk10
  repeat (first | refine Walk.cx ?_ | (refine Walk.cReg ?_; simp only [z11]) | (refine Walk.oq ?_; try walk_nrm) | (refine Walk.un ?_; walk_nrm))
  refine Walk.ctl rfl (fun w => stepG_inLoop) ?_
  refine .stop fun d => ⟨at_slots ?_, d, rfl⟩
  simp only [hk9, hc]
  rfl
end
section
variable {main : Bool}
theorem ks8 (st sc tv : Value) (X Y A B : Nat) (i k ll lc A0 : Nat) (la : Option Addr) (xs : List Value) (u : Nat → Value) (cs : List Frame) (w : World) (hk : k < 8) (hll : ll ≤ 131072) (hrow : w.ownsRow A0 81 3 (.slice la ll lc) ll xs) (hA0 : A0 ≤ w.heap.size) :
    Walk Try.prog main (DR (fun _ => none)) (fun g' w' => ∃ g2 c2 w2 ys, w.heap.size ≤ w2.heap.size ∧ Sizes w w2 ∧ (∀ b, b < w.heap.size → b ≠ g2 → w2.heap[b]? = w.heap[b]?) ∧ ((Value.slice la ll lc).ownBlock = some g2 ∨ w.heap.size ≤ g2) ∧ w2.ownsRow A0 81 3 (.slice (some ⟨g2, 0, none⟩) (ll + 1) c2) (ll + 1) (xs ++ ys) ∧
      (∃ u', g' = G (hk8 st sc tv X Y A B i (k + 1) (.slice (some ⟨g2, 0, none⟩) (ll + 1) c2) u') cs) ∧ ∃ d, w' = w2.at d) (G (hk8 st sc tv X Y A B i k (.slice la ll lc) u) cs) w := by
  have hw1 : IntKind.wrap .i64 ((k : Int) + 1) = (k : Int) + 1 := by rw [IntKind.wrap_i64]; omega
  have hc : ((k + 1 : Nat) : Int) = (k : Int) + 1 := by simp
  have hk1 : decide ((k : Int) < 8) = true := by simp; omega
  have hk2 : decide (k < 8) = true := by simp; omega
  have hiI := Option.some_get (show (Try.prog.info? 81).isSome = true by kernel_rfl)
  conv => arg 5; unfold hk8
  repeat (first | refine Walk.cx ?_ | (refine Walk.cReg ?_; simp only [z11]) | (refine Walk.oq ?_; try walk_nrm) | (refine Walk.un ?_; walk_nrm))
  (refine Walk.oa ?_; try walk_nrm)
  have s1 : (w.alloc (.cells #[.bool false, .int .i64 (-2), .slice none 0 0] 81)).heap.size = w.heap.size + 1 := by simp
  have o1 : ∀ b, b < w.heap.size → (w.alloc (.cells #[.bool false, .int .i64 (-2), .slice none 0 0] 81)).heap[b]? = w.heap[b]? := fun b hb => heap_new_lt _ _ hb
  have d1 := heap_alloc_new w (.cells #[.bool false, .int .i64 (-2), .slice none 0 0] 81)
  have r1 := row_same hrow (w' := w.alloc (.cells #[.bool false, .int .i64 (-2), .slice none 0 0] 81)) fun b hb => o1 b (hrow.lt b hb).2
  generalize hE : w.heap.size = E at *
  generalize w.alloc (.cells #[.bool false, .int .i64 (-2), .slice none 0 0] 81) = w1 at *
  repeat (first | (refine Walk.oq ?_; try walk_nrm) | (refine Walk.un ?_; walk_nrm))
  refine Walk.appendS (.tmp 211) (.tmp 213) 79 (ho_of (by conv => lhs; whnf) (by kernel_rfl)) (by rfl) (by decide) rfl A0 81 _ (.agg #[.bool false, .int .i64 0, .slice none 0 0]) 3 40 (by kernel_rfl) hiI.symm (by rfl) (by rfl) (by rfl) (by rfl) (by decide) (.slice la ll lc) ll xs rfl r1 ⟨E, 0, none⟩ 1 1 [.bool false, .int .i64 (-2), .slice none 0 0] rfl (by rfl) (fun j x hx => ?_) (by simp [Value.oneCell']) (by decide) (by simp [maxLen]; omega) (by omega) (by omega) (fun g _ => ap0 g) (fun g2 c2 w2 r2 hg2 S2 K2 at2 lt2 => ?_)
  · rw [add_none, Nat.zero_add]
    refine (cell_of d1 j).trans ?_
    simpa using hx
  have z2 := hg2.size
  have o2 : ∀ b, b < E → b ≠ g2 → w2.heap[b]? = w.heap[b]? := fun b hb hne => (K2 b (by omega) hne).trans (o1 b hb)
  have S02 : Sizes w w2 := Sizes.trans (Sizes.old fun b hb => o1 b (by omega)) S2
  have hge2 : (Value.slice la ll lc).ownBlock = some g2 ∨ E ≤ g2 := at2.imp id fun h => by omega
  have z02 : E ≤ w2.heap.size := by omega
  clear K2 at2 hg2 r1 d1 o1 S2 hrow
  walk_nrm
  repeat (first | refine Walk.cx ?_ | (refine Walk.cReg ?_; simp only [z11]) | (refine Walk.oq ?_; try walk_nrm) | (refine Walk.un ?_; walk_nrm))
  refine Walk.ctl rfl (fun w => stepG_inLoop) ?_
  refine .stop fun d' => ⟨g2, c2, w2, _, z02, S02, o2, hge2, r2, at_slots ?_, d', rfl⟩
  simp only [hk8, hc]
  rfl
theorem ks8o (st sc tv : Value) (X Y A B : Nat) (i n : Nat) (lv : Value) (u : Nat → Value) (cs : List Frame) (w : World) (hi : i < n) (hn : n ≤ 64) :
    Walk Try.prog main (DR (fun _ => none)) (fun g' w' => (∃ u', g' = G (hk5 st sc tv X Y A B (i + 1) u') cs) ∧ ∃ d, w' = w.at d) (G (hk8 st sc tv X Y A B i 8 lv u) cs) w := by
  have hw1 : IntKind.wrap .i64 ((i : Int) + 1) = (i : Int) + 1 := by rw [IntKind.wrap_i64]; omega
  have hc : ((i + 1 : Nat) : Int) = (i : Int) + 1 := by simp
  conv => arg 5; unfold hk8
  repeat (first | refine Walk.cx ?_ | (refine Walk.cReg ?_; simp only [z11]) | (refine Walk.oq ?_; try walk_nrm) | (refine Walk.un ?_; walk_nrm))
  refine Walk.ctl rfl (fun w => stepG_inLoop) ?_
  refine .stop fun d' => ⟨at_slots ?_, d', rfl⟩
  simp only [hk5, hc]
  rfl
end
section
variable {main : Bool}
structure KZ (A0 A1 A n ab : Nat) (arr hdrs : Array Value) (ra : Nat → Option Addr) (rn rc : Nat → Nat) (sl : Nat → Nat → Value) (wz : World) : Prop where
  hn : n ≤ 64
  hA0 : A0 ≤ wz.heap.size
  hA : wz.heap[A]? = some (.cells arr 63 (0, 0))
  h0 : arr[0]? = some (.slice (some ⟨ab, 0, none⟩) n n)
  hab : wz.heap[ab]? = some (.cells hdrs 79 (0, 0))
  hi : ∀ i, i < n → hdrs[i]? = some (.slice (ra i) (rn i) (rc i))
  hrn : ∀ i, i < n → rn i ≤ 65536
  row : ∀ i, i < n → OwnR A0 A1 81 3 (.slice (ra i) (rn i) (rc i)) (rn i) wz
  one : ∀ i j b, i < n → j < n → ra i = some ⟨b, 0, none⟩ → ra j = some ⟨b, 0, none⟩ → i = j
  lst : ∀ i k, i < n → k < rn i → ∃ la ll lc, sl i k = .slice la ll lc ∧ ll ≤ 1048576 ∧ OwnR A0 A1 2 1 (.slice la ll lc) ll wz
  todo : ∀ i k g, i < n → k < rn i → ra i = some ⟨g, 0, none⟩ → wz.cell? ⟨g, k * 3 + 2, none⟩ = some (sl i k)
structure RZ (n : Nat) (ra : Nat → Option Addr) (rn : Nat → Nat) (sl : Nat → Nat → Value) (i0 k0 : Nat) (w : World) : Prop where
  done : ∀ i k g, i < n → k < rn i → ra i = some ⟨g, 0, none⟩ → (i < i0 ∨ (i = i0 ∧ k < k0)) → w.cell? ⟨g, k * 3 + 1, none⟩ = some (.int .i64 (-1))
  todo : ∀ i k g, i < n → k < rn i → ra i = some ⟨g, 0, none⟩ → ¬ (i < i0 ∨ (i = i0 ∧ k < k0)) → w.cell? ⟨g, k * 3 + 2, none⟩ = some (sl i k)
section
variable {A0 A1 A n ab : Nat} {arr hdrs : Array Value} {ra : Nat → Option Addr} {rn rc : Nat → Nat} {sl : Nat → Nat → Value} {wz w w' : World} {i0 k0 : Nat}
theorem type_ne {b c : Nat} {c1 c2 : Array Value} {t1 t2 : TypeId} (h : w.heap[b]? = some (.cells c1 t1 (0, 0))) (h' : w.heap[c]? = some (.cells c2 t2 (0, 0))) (ht : t1 ≠ t2) : b ≠ c := fun e => by
  subst e
  rw [h] at h'
  injection h' with h'
  injection h' with _ h' _
  exact ht h'
theorem KP.sets (H : KP A0 A1 wz w) {g o : Nat} {vs : List Value} (hg : May A0 A1 wz g ∨ wz.heap.size ≤ g) : KP A0 A1 wz (w.setCells g o vs) := by
  obtain ⟨_, _, k3, k4, k5⟩ := setCells_kept g vs o w
  refine H.step (Nat.le_of_eq k3.symm) (fun b cur t h => ?_) fun b _ => ?_
  · by_cases e : b = g
    · subst e; exact k5 cur t h
    · exact ⟨cur, (k4 b e).trans h, rfl⟩
  · by_cases e : b = g
    · subst e; exact .inr hg
    · exact .inl (k4 b e)
theorem RZ.start (Z : KZ A0 A1 A n ab arr hdrs ra rn rc sl wz) : RZ n ra rn sl 0 0 wz := ⟨fun i k g _ _ _ h => by omega, fun i k g hi hk hg _ => Z.todo i k g hi hk hg⟩
theorem RZ.next (R : RZ n ra rn sl i0 (rn i0) w) : RZ n ra rn sl (i0 + 1) 0 w :=
  ⟨fun i k g hi hk hg h => R.done i k g hi hk hg (by
    by_cases e : i = i0
    · subst e; exact .inr ⟨rfl, hk⟩
    · exact .inl (by omega)), fun i k g hi hk hg h => R.todo i k g hi hk hg (by omega)⟩
theorem KZ.at (Z : KZ A0 A1 A n ab arr hdrs ra rn rc sl wz) (H : KP A0 A1 wz w) {i : Nat} (hi : i < n) (h : 0 < rn i) : ∃ g cur, ra i = some ⟨g, 0, none⟩ ∧ w.heap[g]? = some (.cells cur 81 (0, 0)) ∧ rn i * 3 ≤ cur.size ∧ May A0 A1 wz g ∧ g < wz.heap.size := by
  have hr := Z.row i hi
  obtain ⟨xs, hrow, hlt⟩ := id hr
  obtain ⟨ys, _, hrow'⟩ := Sizes.row H.sizes hrow
  obtain ⟨g, cur, e, hg, _, hl⟩ := own_cell hrow' h (by decide)
  rw [e] at hr hrow
  exact ⟨g, cur, e, hg, hl, hr.may (.inr (.inl rfl)) rfl, (hrow.lt g rfl).2⟩
theorem KZ.c0 (Z : KZ A0 A1 A n ab arr hdrs ra rn rc sl wz) (H : KP A0 A1 wz w) : w.cell? ⟨A, 0, none⟩ = some (.slice (some ⟨ab, 0, none⟩) n n) := H.cellTyped Z.hA (by decide) Z.h0
theorem KZ.c1 (Z : KZ A0 A1 A n ab arr hdrs ra rn rc sl wz) (H : KP A0 A1 wz w) {i : Nat} (hi : i < n) : w.cell? ⟨ab, i, none⟩ = some (.slice (ra i) (rn i) (rc i)) := H.cellTyped Z.hab (by decide) (Z.hi i hi)
theorem RZ.far (Z : KZ A0 A1 A n ab arr hdrs ra rn rc sl wz) (H : KP A0 A1 wz w) (R : RZ n ra rn sl i0 k0 w) (h : ∀ b cur, w.heap[b]? = some (.cells cur 81 (0, 0)) → b < wz.heap.size → w'.heap[b]? = w.heap[b]?) : RZ n ra rn sl i0 k0 w' := by
  have key : ∀ i k g, i < n → k < rn i → ra i = some ⟨g, 0, none⟩ → w'.heap[g]? = w.heap[g]? := fun i k g hi hk hg => by
    obtain ⟨g', cur, e, hg', _, _, hlt⟩ := Z.at H hi (by omega)
    rw [hg] at e
    cases e
    exact h g cur hg' hlt
  exact ⟨fun i k g hi hk hg hd => (World.cell?_of_block (a := ⟨g, k * 3 + 1, none⟩) (key i k g hi hk hg)).trans (R.done i k g hi hk hg hd), fun i k g hi hk hg hd => (World.cell?_of_block (a := ⟨g, k * 3 + 2, none⟩) (key i k g hi hk hg)).trans (R.todo i k g hi hk hg hd)⟩
theorem RZ.at (R : RZ n ra rn sl i0 k0 w) (d : Nat) : RZ n ra rn sl i0 k0 (w.at d) := ⟨R.done, R.todo⟩
theorem RZ.mark (Z : KZ A0 A1 A n ab arr hdrs ra rn rc sl wz) (H : KP A0 A1 wz w) (R : RZ n ra rn sl i0 k0 w) (hi0 : i0 < n) (hk0 : k0 < rn i0) {g0 : Nat} (hg0 : ra i0 = some ⟨g0, 0, none⟩) : RZ n ra rn sl i0 (k0 + 1) (w.setCells g0 (k0 * 3) mkA.toList) := by
  obtain ⟨g', cur, e, hg', hl, _, _⟩ := Z.at H hi0 (by omega)
  rw [hg0] at e
  cases e
  have out : ∀ g j, (g = g0 → j < k0 * 3 ∨ k0 * 3 + 3 ≤ j) → (w.setCells g0 (k0 * 3) mkA.toList).cell? ⟨g, j, none⟩ = w.cell? ⟨g, j, none⟩ := fun g j h => World.cell?_setCells_out g0 mkA.toList (k0 * 3) w ⟨g, j, none⟩ fun e _ => h e
  have hin : (w.setCells g0 (k0 * 3) mkA.toList).cell? ⟨g0, k0 * 3 + 1, none⟩ = some (.int .i64 (-1)) :=
    World.cell?_setCells_in g0 mkA.toList (k0 * 3) w (fun j hj => by
      have hj : j < 3 := hj
      rw [cell_of hg', Array.getElem?_eq_getElem (show k0 * 3 + j < cur.size by omega)]
      rfl) 1 (by decide)
  refine ⟨fun i k g hi hk hg h => ?_, fun i k g hi hk hg h => ?_⟩
  · by_cases e : i = i0 ∧ k = k0
    · obtain ⟨rfl, rfl⟩ := e
      rw [hg0] at hg
      cases hg
      exact hin
    · rw [out g (k * 3 + 1) fun eg => ?_]
      · exact R.done i k g hi hk hg (by omega)
      · have := Z.one i i0 g hi hi0 hg (by rw [eg]; exact hg0)
        omega
  · rw [out g (k * 3 + 2) fun eg => ?_]
    · exact R.todo i k g hi hk hg (by omega)
    · have := Z.one i i0 g hi hi0 hg (by rw [eg]; exact hg0)
      omega
section
variable {st sc tv : Value} {X Y B : Nat} {cs : List Frame}
theorem ks7_all (Z : KZ A0 A1 A n ab arr hdrs ra rn rc sl wz) {i k : Nat} (hi : i < n) (hk : k < rn i) {la : Option Addr} {ll lc : Nat} (hsl : sl i k = .slice la ll lc) (hll : ll ≤ 1048576) (hL : OwnR A0 A1 2 1 (.slice la ll lc) ll wz) :
    ∀ (r j : Nat) (u : Nat → Value) (w : World), j + r = ll → KP A0 A1 wz w → RZ n ra rn sl i k w → Walk Try.prog main (DR (fun _ => none)) (fun g' w' => (∃ u', g' = G (hk6 st sc tv X Y A B i (k + 1) u') cs) ∧ KP A0 A1 wz w' ∧ RZ n ra rn sl i (k + 1) w') (G (hk7 st sc tv X Y A B i k j u) cs) w := by
  intro r
  induction r with
  | zero =>
    intro j u w hj H R
    have hj : j = ll := hj
    subst hj
    obtain ⟨g, cur, hg, hgc, hgl, hgm, hgz⟩ := Z.at H hi (by omega)
    obtain ⟨xs, hrow, hlt⟩ := id hL
    obtain ⟨ys, _, hrow'⟩ := Sizes.row H.sizes hrow
    have h2 := R.todo i k g hi hk hg (by omega)
    rw [hsl] at h2
    have h1 := Z.c1 H hi
    rw [hg] at h1
    have tyA := H.typed Z.hA (by decide)
    have tyb := H.typed Z.hab (by decide)
    have tyl : ∀ b, (Value.slice la j lc).ownBlock = some b → ∃ c, w.heap[b]? = some (.cells c 2 (0, 0)) := fun b hb => by
      rcases hrow'.2 with ⟨e, _⟩ | ⟨gb, cap, c, e, _, h2, _⟩
      · rw [e] at hb; cases hb
      · rw [e] at hb
        cases hb
        exact ⟨c, h2⟩
    have hne : ∀ (b : Nat) (c : Array Value) (t : TypeId), w.heap[b]? = some (.cells c t (0, 0)) → t ≠ 2 → (Value.slice la j lc).ownBlock ≠ some b := fun b c t hb ht e => by
      obtain ⟨c', hc'⟩ := tyl b e
      exact type_ne hb hc' ht rfl
    refine (ks7o st sc tv X Y A B i k n ab g (rn i) (rc i) j lc A0 la ys cur u cs w hi Z.hn hk (Z.hrn i hi) hll (Z.c0 H) h1 h2 hgc (by omega) hrow' (Nat.le_trans Z.hA0 H.size) (hne _ _ _ tyA (by decide)) (hne _ _ _ tyb (by decide)) (hne _ _ _ hgc (by decide))).mono ?_
    rintro g' w' ⟨w4, z4, S4, K4, hu, d, rfl⟩
    have H4 : KP A0 A1 wz w4 := H.step z4 S4 fun b hb => by
      by_cases e : (Value.slice la j lc).ownBlock = some b
      · exact .inr (.inl (hL.may (.inr (.inr (.inl rfl))) e))
      · exact .inl (K4 b hb e)
    have R4 : RZ n ra rn sl i k w4 := R.far Z H fun b c hb _ => K4 b (Array.getElem?_eq_some_iff.1 hb).1 (hne _ _ _ hb (by decide))
    exact ⟨hu, (H4.sets (.inl hgm)).at d, (R4.mark Z H4 hi hk hg).at d⟩
  | succ r ih =>
    intro j u w hj H R
    obtain ⟨g, cur, hg, hgc, hgl, hgm, hgz⟩ := Z.at H hi (by omega)
    obtain ⟨xs, hrow, hlt⟩ := id hL
    obtain ⟨ys, _, hrow'⟩ := Sizes.row H.sizes hrow
    obtain ⟨gl, cl, rfl, hgl', hc, _⟩ := own_cell hrow' (i := j) (by omega) (by decide)
    obtain ⟨y, hy, _⟩ := hc j (by omega)
    have h2 := R.todo i k g hi hk hg (by omega)
    rw [hsl] at h2
    have h1 := Z.c1 H hi
    rw [hg] at h1
    refine (ks7 st sc tv X Y A B i k j n ab g gl (rn i) (rc i) ll lc y u cs w hi Z.hn hk (Z.hrn i hi) (by omega) hll (Z.c0 H) h1 h2 hy (frozen_of hgl' j)).then ?_
    rintro g' w' ⟨⟨u', rfl⟩, d, rfl⟩
    refine Walk.back ?_ d
    exact ih (j + 1) u' _ (by omega) (H.set (.inl (hL.may (.inr (.inr (.inl rfl))) rfl))) (R.far Z H fun b c hb _ => heap_set_other _ _ _ _ (type_ne hb hgl' (by decide)))
theorem ks6_all (Z : KZ A0 A1 A n ab arr hdrs ra rn rc sl wz) {i : Nat} (hi : i < n) :
    ∀ (r k : Nat) (u : Nat → Value) (w : World), k + r = rn i → KP A0 A1 wz w → RZ n ra rn sl i k w → Walk Try.prog main (DR (fun _ => none)) (fun g' w' => (∃ u', g' = G (hk8 st sc tv X Y A B i 0 (.slice (ra i) (rn i) (rc i)) u') cs) ∧ KP A0 A1 wz w' ∧ RZ n ra rn sl i (rn i) w') (G (hk6 st sc tv X Y A B i k u) cs) w := by
  intro r
  induction r with
  | zero =>
    intro k u w hk H R
    have hk : k = rn i := hk
    subst hk
    refine (ks6o st sc tv X Y A B i n ab (rn i) (rc i) (ra i) u cs w hi Z.hn (Z.hrn i hi) (Z.c0 H) (Z.c1 H hi)).mono ?_
    rintro g w' ⟨hu, d, rfl⟩
    exact ⟨hu, H.at d, R.at d⟩
  | succ r ih =>
    intro k u w hk H R
    refine (ks6 st sc tv X Y A B i k n ab (rn i) (rc i) (ra i) u cs w hi Z.hn (by omega) (Z.hrn i hi) (Z.c0 H) (Z.c1 H hi)).then ?_
    rintro g w' ⟨⟨u1, rfl⟩, d, rfl⟩
    refine Walk.back ?_ d
    obtain ⟨la, ll, lc, e, hll, hL⟩ := Z.lst i k hi (by omega)
    refine (ks7_all Z hi (by omega) e hll hL ll 0 u1 w (by omega) H R).then ?_
    rintro g w2 ⟨⟨u2, rfl⟩, H2, R2⟩
    exact ih (k + 1) u2 w2 (by omega) H2 R2
theorem ks8_all (Z : KZ A0 A1 A n ab arr hdrs ra rn rc sl wz) {i : Nat} (hi : i < n) :
    ∀ (r k : Nat) (la : Option Addr) (ll lc : Nat) (xs : List Value) (u : Nat → Value) (w : World), k + r = 8 → ll = rn i + k → KP A0 A1 wz w → RZ n ra rn sl (i + 1) 0 w → w.ownsRow A0 81 3 (.slice la ll lc) ll xs → (∀ b, (Value.slice la ll lc).ownBlock = some b → ra i = some ⟨b, 0, none⟩ ∧ May A0 A1 wz b ∨ wz.heap.size ≤ b) →
      Walk Try.prog main (DR (fun _ => none)) (fun g' w' => (∃ u', g' = G (hk5 st sc tv X Y A B (i + 1) u') cs) ∧ KP A0 A1 wz w' ∧ RZ n ra rn sl (i + 1) 0 w') (G (hk8 st sc tv X Y A B i k (.slice la ll lc) u) cs) w := by
  intro r
  induction r with
  | zero =>
    intro k la ll lc xs u w hk hll H R hrow hb
    have hk : k = 8 := hk
    subst hk
    refine (ks8o st sc tv X Y A B i n _ u cs w hi Z.hn).mono ?_
    rintro g w' ⟨hu, d, rfl⟩
    exact ⟨hu, H.at d, R.at d⟩
  | succ r ih =>
    intro k la ll lc xs u w hk hll H R hrow hb
    have hrn := Z.hrn i hi
    refine (ks8 st sc tv X Y A B i k ll lc A0 la xs u cs w (by omega) (by omega) hrow (Nat.le_trans Z.hA0 H.size)).then ?_
    rintro g w' ⟨g2, c2, w2, ys, z2, S2, K2, at2, r2, ⟨u', rfl⟩, d, rfl⟩
    refine Walk.back ?_ d
    have hz := H.size
    have H2 : KP A0 A1 wz w2 := H.step z2 S2 fun b hbl => by
      by_cases e : b = g2
      · subst e
        rcases at2 with h | h
        · exact .inr ((hb b h).imp (fun h => h.2) id)
        · omega
      · exact .inl (K2 b hbl e)
    have key : ∀ i' k' g' j, i' < n → k' < rn i' → ra i' = some ⟨g', 0, none⟩ → j < rn i' * 3 → w2.cell? ⟨g', j, none⟩ = w.cell? ⟨g', j, none⟩ := fun i' k' g' j hi' hk' hg' hj => by
      obtain ⟨g1, cur, e1, hc1, _, _, hlt1⟩ := Z.at H hi' (by omega)
      rw [hg'] at e1
      cases e1
      by_cases e : g' = g2
      · subst e
        rcases at2 with h | h
        · have hii : i' = i := by
            rcases hb g' h with h' | h'
            · exact Z.one i' i g' hi' hi hg' h'.1
            · omega
          subst hii
          have hlen := hrow.1
          have hx : ∃ x, xs[j]? = some x := ⟨_, List.getElem?_eq_getElem (by omega)⟩
          obtain ⟨x, hx⟩ := hx
          obtain ⟨ga, ea, _, _, hca⟩ := row_at hrow hx
          obtain ⟨gb, eb, _, _, hcb⟩ := row_at r2 (j := j) (x := x) (by rw [List.getElem?_append_left (by omega)]; exact hx)
          cases eb
          have : ga = g' := by
            rw [ea] at h
            exact Option.some.inj h
          subst this
          rw [hca, hcb]
        · omega
      · exact World.cell?_of_block (a := ⟨g', j, none⟩) (K2 g' (by omega) e)
    have R2 : RZ n ra rn sl (i + 1) 0 w2 := ⟨fun i' k' g' hi' hk' hg' hd => (key i' k' g' _ hi' hk' hg' (by omega)).trans (R.done i' k' g' hi' hk' hg' hd), fun i' k' g' hi' hk' hg' hd => (key i' k' g' _ hi' hk' hg' (by omega)).trans (R.todo i' k' g' hi' hk' hg' hd)⟩
    refine ih (k + 1) (some ⟨g2, 0, none⟩) (ll + 1) c2 _ u' w2 (by omega) (by omega) H2 R2 r2 fun b hb' => ?_
    have hb' : some g2 = some b := hb'
    cases hb'
    rcases at2 with h | h
    · exact hb g2 h
    · exact .inr (by omega)
theorem ks5_all (Z : KZ A0 A1 A n ab arr hdrs ra rn rc sl wz) :
    ∀ (r i : Nat) (u : Nat → Value) (w : World), i + r = n → KP A0 A1 wz w → RZ n ra rn sl i 0 w → Walk Try.prog main (DR (fun _ => none)) (fun g' w' => (∃ u', g' = G (hk9 st sc tv X Y A B 0 u') cs) ∧ KP A0 A1 wz w' ∧ RZ n ra rn sl n 0 w') (G (hk5 st sc tv X Y A B i u) cs) w := by
  intro r
  induction r with
  | zero =>
    intro i u w hi H R
    have hi : i = n := hi
    subst hi
    refine (ks5o st sc tv X Y A B i ab u cs w (Z.c0 H)).mono ?_
    rintro g w' ⟨hu, d, rfl⟩
    exact ⟨hu, H.at d, R.at d⟩
  | succ r ih =>
    intro i u w hi H R
    have hin : i < n := by omega
    refine (ks5 st sc tv X Y A B i n ab u cs w hin Z.hn (Z.c0 H)).then ?_
    rintro g w' ⟨⟨u1, rfl⟩, d, rfl⟩
    refine Walk.back ?_ d
    refine (ks6_all Z hin (rn i) 0 u1 w (by omega) H R).then ?_
    rintro g w2 ⟨⟨u2, rfl⟩, H2, R2⟩
    have hr := Z.row i hin
    obtain ⟨xs, hrow, hlt⟩ := id hr
    obtain ⟨ys, _, hrow'⟩ := Sizes.row H2.sizes hrow
    refine (ks8_all Z hin 8 0 (ra i) (rn i) (rc i) ys u2 w2 (by omega) (by omega) H2 R2.next hrow' fun b hb => .inl ⟨?_, hr.may (.inr (.inl rfl)) hb⟩).then ?_
    · rcases hrow'.2 with ⟨e, _⟩ | ⟨g, cap, cur, e, _⟩
      · rw [e] at hb; cases hb
      · injection e with e _ _
        rw [e] at hb ⊢
        have hb : some g = some b := hb
        cases hb
        rfl
    rintro g w3 ⟨⟨u3, rfl⟩, H3, R3⟩
    exact ih (i + 1) u3 w3 (by omega) H3 R3
theorem ks10_all (Z : KZ A0 A1 A n ab arr hdrs ra rn rc sl wz) {i : Nat} (hi : i < n) :
    ∀ (r k : Nat) (u : Nat → Value) (w : World), k + r = rn i → KP A0 A1 wz w → RZ n ra rn sl n 0 w → Walk Try.prog main (DR (fun _ => none)) (fun g' w' => (∃ u', g' = G (hk9 st sc tv X Y A B (i + 1) u') cs) ∧ KP A0 A1 wz w' ∧ RZ n ra rn sl n 0 w') (G (hk10 st sc tv X Y A B i k u) cs) w := by
  intro r
  induction r with
  | zero =>
    intro k u w hk H R
    have hk : k = rn i := hk
    subst hk
    refine (ks10o st sc tv X Y A B i n ab (rn i) (rc i) (ra i) u cs w hi Z.hn (Z.hrn i hi) (Z.c0 H) (Z.c1 H hi)).mono ?_
    rintro g w' ⟨hu, d, rfl⟩
    exact ⟨hu, H.at d, R.at d⟩
  | succ r ih =>
    intro k u w hk H R
    obtain ⟨g, cur, hg, hgc, hgl, hgm, hgz⟩ := Z.at H hi (by omega)
    have h1 := Z.c1 H hi
    rw [hg] at h1
    refine (ks10 st sc tv X Y A B i k n ab g (rn i) (rc i) u cs w hi Z.hn (by omega) (Z.hrn i hi) (Z.c0 H) h1 (R.done i k g hi (by omega) hg (.inl hi))).then ?_
    rintro g' w' ⟨⟨u1, rfl⟩, d, rfl⟩
    refine Walk.back ?_ d
    exact ih (k + 1) u1 w (by omega) H R
theorem ks9_all (Z : KZ A0 A1 A n ab arr hdrs ra rn rc sl wz) :
    ∀ (r i : Nat) (u : Nat → Value) (w : World), i + r = n → KP A0 A1 wz w → RZ n ra rn sl n 0 w → Walk Try.prog main (DR (fun _ => none)) (fun g' w' => (∃ u', g' = G (hk9 st sc tv X Y A B n u') cs) ∧ KP A0 A1 wz w') (G (hk9 st sc tv X Y A B i u) cs) w := by
  intro r
  induction r with
  | zero =>
    intro i u w hi H R
    have hi : i = n := hi
    subst hi
    exact .stop fun d => ⟨⟨u, rfl⟩, H.at d⟩
  | succ r ih =>
    intro i u w hi H R
    have hin : i < n := by omega
    refine (ks9 st sc tv X Y A B i n ab u cs w hin Z.hn (Z.c0 H)).then ?_
    rintro g w' ⟨⟨u1, rfl⟩, d, rfl⟩
    refine Walk.back ?_ d
    refine (ks10_all Z hin (rn i) 0 u1 w (by omega) H R).then ?_
    rintro g w2 ⟨⟨u2, rfl⟩, H2, R2⟩
    exact ih (i + 1) u2 w2 (by omega) H2 R2
end
end
end
end Go.Proofs.Ytgfajibjedfkdaa
