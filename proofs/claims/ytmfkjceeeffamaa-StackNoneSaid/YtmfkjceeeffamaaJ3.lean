/- Part 3. -/
import Derived.Test.YtmfkjceeeffamaaJ2
import Derived.Laws.Tables
import Derived.Laws.Cells
import Derived.Conc.AppendEvents
import Derived.Conc.TokenWalk
set_option linter.unusedSimpArgs false
set_option maxHeartbeats 8000000
set_option maxRecDepth 100000
namespace Go.Relay
section
open Go.Conc Go.RowKit
section
variable (P : Program) (main : Bool) (V : Nat → Option Wait) (Stop : Goroutine → World → Prop) (b : Frame) (k : List Item) (cs : List Frame) (ops : Array Oper)
def OpW (i : Nat) (K : Act → World → Prop) (a : Act) (w : World) : Prop :=
  ∀ rest, (∀ a' w', K a' w' → Walk P main (DR V) Stop (G (b.at a' (.inRegion ops rest :: k)) cs) w') → Walk P main (DR V) Stop (G (b.at a (.inRegion ops (i :: rest) :: k)) cs) w
def AnyW (md : Region.Mode) (Q : Act → World → Prop) : Nat → Array Bool → Act → World → Prop
  | 0, listed, a, w => Region.ready md ops listed = [] ∧ Q a w
  | fuel + 1, listed, a, w => (Region.ready md ops listed = [] → Q a w) ∧ ∀ i ∈ Region.ready md ops listed, OpW P main V Stop b k cs ops i (fun a' w' => AnyW md Q fuel (listed.setIfInBounds i true) a' w') a w
end
section
variable {P : Program} {main : Bool} {V : Nat → Option Wait} {Stop : Goroutine → World → Prop} {b : Frame} {k : List Item} {cs : List Frame} {ops : Array Oper} {md : Region.Mode} {Q : Act → World → Prop}
theorem anyW_sound (hc : ∀ a w, Q a w → Walk P main (DR V) Stop (G (b.at a (.inRegion ops [] :: k)) cs) w) : ∀ (fuel t : Nat) (listed : Array Bool) (a : Act) (w : World), AnyW P main V Stop b k cs ops md Q fuel listed a w →
    Walk P main (DR V) Stop (G (b.at a (.inRegion ops (Region.linearise.go md ops fuel t listed []) :: k)) cs) w := by
  intro fuel
  induction fuel with
  | zero => intro t listed a w h; exact hc _ _ h.2
  | succ fuel ih =>
    intro t listed a w h
    obtain ⟨h₀, h₁⟩ := h
    simp only [Region.linearise.go]
    change Walk P main (DR V) Stop (G (b.at a (.inRegion ops (match (Region.ready md ops listed)[t % (Region.ready md ops listed).length]? with
      | some i => Region.linearise.go md ops fuel (t / (Region.ready md ops listed).length) (listed.setIfInBounds i true) [i]
      | none => [].reverse) :: k)) cs) w
    cases hi : (Region.ready md ops listed)[t % (Region.ready md ops listed).length]? with
    | none =>
      have hnil : Region.ready md ops listed = [] := by
        cases hr : Region.ready md ops listed with
        | nil => rfl
        | cons x xs =>
          rw [hr] at hi
          have hlt : t % (x :: xs).length < (x :: xs).length := Nat.mod_lt _ (by simp)
          simp at hi
          simp at hlt
          omega
      exact hc _ _ (h₀ hnil)
    | some i =>
      simp only []
      rw [linearise_go_acc, List.reverse_singleton, List.singleton_append]
      exact h₁ i (List.mem_of_getElem? hi) _ fun a' w' x => ih _ _ a' w' x
theorem anyW_all {rs : List Nat} {fuel : Nat} {listed : Array Bool} {a : Act} {w : World} (hr : Region.ready md ops listed = rs) (hne : rs ≠ [])
    (h : ∀ i ∈ rs, OpW P main V Stop b k cs ops i (fun a' w' => AnyW P main V Stop b k cs ops md Q fuel (listed.setIfInBounds i true) a' w') a w) : AnyW P main V Stop b k cs ops md Q (fuel + 1) listed a w :=
  ⟨fun h0 => absurd (hr ▸ h0) hne, hr ▸ h⟩
theorem anyW_done {listed : Array Bool} {a : Act} {w : World} (hr : Region.ready md ops listed = []) (h : Q a w) : ∀ fuel, AnyW P main V Stop b k cs ops md Q fuel listed a w
  | 0 => ⟨hr, h⟩
  | _ + 1 => ⟨fun _ => h, fun i hi => by rw [hr] at hi; cases hi⟩
theorem Walk.drawnW {id : Nat} {a : Act} {w : World} (hm : P.follows .mixedOrders = true)
    (h : ∀ d, AnyW P main V Stop b k cs ops .any Q ops.size (Array.replicate ops.size false) a (w.at d))
    (hc : ∀ a' w', Q a' w' → Walk P main (DR V) Stop (G (b.at a' (.inRegion ops [] :: k)) cs) w') : Walk P main (DR V) Stop (G (b.at a (.code (.region id ops true) :: k)) cs) w := by
  refine Walk.step rfl (fun d => G (b.at a (.inRegion ops (Region.linearise .any ops (w.tape d (.order b.fn id))) :: k)) cs) (fun d => w.at (d + 1)) (fun _ => #[]) (fun d => ?_) (fun d => drawsR _) (fun d => anyW_sound hc ops.size _ _ a _ (h (d + 1)))
  rw [stepG_region_draw]
  simp only [Region.schedule, hm, Bool.true_or, if_true]
  rfl
end
end
section
open Go.Conc Go.RowKit
open Go.ConcN (upd upd_ne upd_same)
def lowB (ops : Array Oper) : Bool := (List.range ops.size).all fun i => (ops[i]?).any fun o => o.after.all fun e => decide (e.on < i)
def depB (ops : Array Oper) (i : Nat) (l : List Nat) : Bool := (ops[i]?).any fun o => l.all fun j => o.after.any fun e => decide (e.on = j) && Region.binds .any e
def upTo (L : Array Bool) : Nat → Bool := fun j => L.getD j false
def leftOf (n : Nat) (f : Nat → Bool) : Nat := (List.range n).countP (fun i => !f i)
theorem leftOf_pos {n : Nat} {f : Nat → Bool} {i : Nat} (hi : i < n) (h : f i = false) : 1 ≤ leftOf n f := List.countP_pos_iff.2 ⟨i, by simpa using hi, by simp [h]⟩
theorem leftOf_set {n : Nat} {f : Nat → Bool} {i : Nat} (hi : i < n) (h : f i = false) : leftOf n (upd f i true) = leftOf n f - 1 := by
  unfold leftOf
  induction n with
  | zero => omega
  | succ n ih =>
    rw [List.range_succ, List.countP_append, List.countP_append]
    by_cases e : i = n
    · subst e
      have : (List.range i).countP (fun j => !upd f i true j) = (List.range i).countP (fun j => !f j) := List.countP_congr fun j hj => by
        have : j ≠ i := by have := List.mem_range.1 hj; omega
        simp [upd_ne _ _ this]
      rw [this]
      simp [upd_same, h]
    · have hp := leftOf_pos (n := n) (by omega) h
      unfold leftOf at hp
      have := ih (by omega)
      rw [this]
      simp only [List.countP_singleton, upd_ne _ _ (Ne.symm e)]
      omega
theorem upTo_set {L : Array Bool} {i : Nat} (hi : i < L.size) : upTo (L.setIfInBounds i true) = upd (upTo L) i true := by
  funext j
  unfold upTo
  by_cases e : j = i
  · subst e
    rw [upd_same, Array.getD_eq_getD_getElem?, Array.getElem?_setIfInBounds_self_of_lt hi]; rfl
  · rw [upd_ne _ _ e, Array.getD_eq_getD_getElem?, Array.getElem?_setIfInBounds_ne (Ne.symm e), ← Array.getD_eq_getD_getElem?]
theorem upTo_in {L : Array Bool} {i : Nat} (hi : i < L.size) : L.getD i true = upTo L i := by
  unfold upTo
  rw [Array.getD_eq_getD_getElem?, Array.getD_eq_getD_getElem?, Array.getElem?_eq_getElem hi]; rfl
section
variable {P : Program} {main : Bool} {V : Nat → Option Wait} {Stop : Goroutine → World → Prop} {b : Frame} {k : List Item} {cs : List Frame} {ops : Array Oper} {Q : Act → World → Prop}
theorem deps_of {i : Nat} {l : List Nat} {o : Oper} {f : Nat → Bool} (h : depB ops i l = true) (ho : ops[i]? = some o) (hd : ∀ e ∈ o.after, Region.binds .any e = true → f e.on = true) : ∀ j ∈ l, f j = true := by
  intro j hj
  unfold depB at h
  rw [ho] at h
  simp only [Option.any_some, List.all_eq_true] at h
  have := h j hj
  obtain ⟨x, hx, hb⟩ := Array.any_eq_true.1 this
  simp only [Bool.and_eq_true, decide_eq_true_eq] at hb
  exact hb.1 ▸ hd _ (Array.getElem_mem hx) hb.2
theorem OpW.mono {i : Nat} {K K' : Act → World → Prop} {a : Act} {w : World} (h : OpW P main V Stop b k cs ops i K a w) (hK : ∀ a w, K a w → K' a w) : OpW P main V Stop b k cs ops i K' a w :=
  fun rest hr => h rest fun a' w' x => hr a' w' (hK a' w' x)
theorem all_up (hlow : lowB ops = true) {L : Array Bool} (hL : L.size = ops.size) (hr : Region.ready .any ops L = []) : ∀ i, i < ops.size → upTo L i = true := by
  intro i
  induction i using Nat.strongRecOn with
  | _ i ih =>
    intro hi
    refine Classical.byContradiction fun hne => ?_
    have hf : upTo L i = false := by simpa using hne
    have hm : i ∈ Region.ready .any ops L := mem_ready.2 ⟨by rw [upTo_in (by omega)]; exact hf, ops[i], Array.getElem?_eq_getElem hi, fun e he _ => ih e.on ?_ ?_⟩
    · rw [hr] at hm; cases hm
    · have := List.all_eq_true.1 hlow i (List.mem_range.2 hi)
      rw [Array.getElem?_eq_getElem hi] at this
      simp only [Option.any_some] at this
      have := (Array.all_eq_true_iff_forall_mem.1 this) e he
      simpa using this
    · have := List.all_eq_true.1 hlow i (List.mem_range.2 hi)
      rw [Array.getElem?_eq_getElem hi] at this
      simp only [Option.any_some] at this
      have := (Array.all_eq_true_iff_forall_mem.1 this) e he
      have : e.on < i := by simpa using this
      omega
def Closed (ops : Array Oper) (f : Nat → Bool) : Prop := ∀ j o, ops[j]? = some o → f j = true → ∀ e ∈ o.after, Region.binds .any e = true → f e.on = true
theorem Closed.deps {f : Nat → Bool} {i : Nat} {l : List Nat} (hC : Closed ops f) (hi : f i = true) (h : depB ops i l = true) : ∀ j ∈ l, f j = true := by
  cases ho : ops[i]? with
  | none => intro j hj; unfold depB at h; rw [ho] at h; cases h
  | some o => exact deps_of h ho (hC i o ho hi)
theorem anyW_inv {Inv : (Nat → Bool) → Act → World → Prop} (hlow : lowB ops = true)
    (hop : ∀ f i o a w, Inv f a w → Closed ops f → f i = false → ops[i]? = some o → (∀ e ∈ o.after, Region.binds .any e = true → f e.on = true) → OpW P main V Stop b k cs ops i (fun a' w' => Inv (upd f i true) a' w') a w)
    (hend : ∀ f a w, Inv f a w → (∀ i, i < ops.size → f i = true) → Q a w) :
    ∀ (fuel : Nat) (L : Array Bool) (a : Act) (w : World), L.size = ops.size → Inv (upTo L) a w → Closed ops (upTo L) → leftOf ops.size (upTo L) ≤ fuel → AnyW P main V Stop b k cs ops .any Q fuel L a w := by
  intro fuel
  induction fuel with
  | zero =>
    intro L a w hL hI _ hf
    have hall : ∀ i, i < ops.size → upTo L i = true := fun i hi => by
      refine Classical.byContradiction fun hne => ?_
      have := leftOf_pos hi (f := upTo L) (by simpa using hne)
      omega
    have hr : Region.ready .any ops L = [] := List.eq_nil_iff_forall_not_mem.2 fun i hm => by
      obtain ⟨h0, o, ho, _⟩ := mem_ready.1 hm
      have hi : i < ops.size := (Array.getElem?_eq_some_iff.1 ho).1
      rw [upTo_in (by omega), hall i hi] at h0
      cases h0
    exact ⟨hr, hend _ a w hI hall⟩
  | succ fuel ih =>
    intro L a w hL hI hC hf
    refine ⟨fun hr => hend _ a w hI (all_up hlow hL hr), fun i hm => ?_⟩
    obtain ⟨h0, o, ho, hd⟩ := mem_ready.1 hm
    have hi : i < ops.size := (Array.getElem?_eq_some_iff.1 ho).1
    rw [upTo_in (by omega)] at h0
    refine (hop (upTo L) i o a w hI hC h0 ho hd).mono fun a' w' hI' => ?_
    refine ih _ a' w' (by simp [hL]) (by rw [upTo_set (by omega)]; exact hI') ?_ ?_
    · rw [upTo_set (by omega)]
      intro j o' ho' hj e he hb
      have hup : ∀ x, upTo L x = true → upd (upTo L) i true x = true := fun x hx => by
        by_cases ex : x = i
        · subst ex; exact upd_same _ _ _
        · rw [upd_ne _ _ ex]; exact hx
      by_cases ej : j = i
      · subst ej
        rw [ho] at ho'; cases ho'
        exact hup _ (hd e he hb)
      · rw [upd_ne _ _ ej] at hj
        exact hup _ (hC j o' ho' hj e he hb)
    · rw [upTo_set (by omega), leftOf_set hi h0]
      omega
theorem Walk.drawnJ {id : Nat} {a : Act} {w : World} {Inv : (Nat → Bool) → Act → World → Prop} (hm : P.follows .mixedOrders = true) (hlow : lowB ops = true) (h0 : ∀ d, Inv (fun _ => false) a (w.at d))
    (hop : ∀ f i o a w, Inv f a w → Closed ops f → f i = false → ops[i]? = some o → (∀ e ∈ o.after, Region.binds .any e = true → f e.on = true) → OpW P main V Stop b k cs ops i (fun a' w' => Inv (upd f i true) a' w') a w)
    (hend : ∀ f a w, Inv f a w → (∀ i, i < ops.size → f i = true) → Walk P main (DR V) Stop (G (b.at a (.inRegion ops [] :: k)) cs) w) : Walk P main (DR V) Stop (G (b.at a (.code (.region id ops true) :: k)) cs) w := by
  refine Walk.drawnW (Q := fun a w => Walk P main (DR V) Stop (G (b.at a (.inRegion ops [] :: k)) cs) w) hm (fun d => ?_) (fun a' w' h => h)
  have hu : upTo (Array.replicate ops.size false) = fun _ => false := by
    funext j
    unfold upTo
    rw [Array.getD_eq_getD_getElem?, Array.getElem?_replicate]
    split <;> rfl
  refine anyW_inv hlow hop hend _ _ a (w.at d) (by simp) (by rw [hu]; exact h0 d) (by rw [hu]; intro _ _ _ h; cases h) ?_
  unfold leftOf
  exact Nat.le_trans List.countP_le_length (by simp)
theorem Walk.drawnI {id : Nat} {a : Act} {w : World} {Inv : (Nat → Bool) → Act → World → Prop} (hm : P.follows .mixedOrders = true) (hlow : lowB ops = true) (h0 : ∀ d, Inv (fun _ => false) a (w.at d))
    (hop : ∀ f i o a w, Inv f a w → f i = false → ops[i]? = some o → (∀ e ∈ o.after, Region.binds .any e = true → f e.on = true) → OpW P main V Stop b k cs ops i (fun a' w' => Inv (upd f i true) a' w') a w)
    (hend : ∀ f a w, Inv f a w → (∀ i, i < ops.size → f i = true) → Walk P main (DR V) Stop (G (b.at a (.inRegion ops [] :: k)) cs) w) : Walk P main (DR V) Stop (G (b.at a (.code (.region id ops true) :: k)) cs) w :=
  Walk.drawnJ hm hlow h0 (fun f i o a w h _ => hop f i o a w h) hend
end
def Facts (dsts : List Nat) (vals : List Value) (f : Nat → Bool) (u : Nat → Value) : Prop := ∀ j d v, f j = true → dsts[j]? = some d → vals[j]? = some v → u d = v
theorem Facts.none (dsts : List Nat) (vals : List Value) (u : Nat → Value) : Facts dsts vals (fun _ => false) u := fun _ _ _ h => by cases h
theorem Facts.set {dsts : List Nat} {vals : List Value} {f : Nat → Bool} {u : Nat → Value} (F : Facts dsts vals f u) (hn : dsts.Nodup) {i d : Nat} {v : Value} (hd : dsts[i]? = some d) (hv : vals[i]? = some v) : Facts dsts vals (upd f i true) (upd u d v) := by
  intro j d' v' hf hd' hv'
  by_cases e : j = i
  · subst e
    rw [hd] at hd'; rw [hv] at hv'
    cases hd'; cases hv'
    exact upd_same _ _ _
  · rw [upd_ne _ _ e] at hf
    have hne : d' ≠ d := fun h => by
      subst h
      obtain ⟨h1, h1'⟩ := List.getElem?_eq_some_iff.1 hd
      obtain ⟨h2, h2'⟩ := List.getElem?_eq_some_iff.1 hd'
      exact e ((List.getElem_inj hn).1 (h2'.trans h1'.symm))
    rw [upd_ne _ _ hne]
    exact F j d' v' hf hd' hv'
end
section
open Go.Conc Go.RowKit
variable {P : Program} {main : Bool} {V : Nat → Option Wait} {Stop : Goroutine → World → Prop} {w : World} {b : Frame} {a : Act} {k : List Item} {cs : List Frame} {ops : Array Oper} {i : Nat} {rest : List Nat} {o : Oper}
theorem add_none (g o j : Nat) : (⟨g, o, none⟩ : Addr).add j = ⟨g, o + j, none⟩ := by unfold Addr.add; split <;> simp_all
theorem run_loadVar_at (w : World) (g o : Nat) (ty : TypeId) (cs : List Value) (d : TypeDesc) (hc : ∀ j v, cs[j]? = some v → w.cell? ⟨g, o + j, none⟩ = some v)
    (hu : P.underlying ty = some d) (hd : (match d with | .struct _ | .array _ _ => true | _ => false) = true) (hi : (P.info? ty).map (·.size) = some cs.length) :
    (loadVar ty ⟨g, o, none⟩).run P w = .ok (.agg cs.toArray) w := by
  have hl : (loadCells ⟨g, o, none⟩ cs.length).run P w = .ok cs.toArray w := run_loadCells_list (P := P) w ⟨g, o, none⟩ cs (fun j v hv => by rw [add_none]; exact hc j v hv)
  cases hq : P.info? ty with
  | none => simp [hq] at hi
  | some i =>
    have hs : i.size = cs.length := by simpa [hq] using hi
    have hagg : (isAgg ty).run P w = .ok true w := by
      unfold isAgg
      rw [Sem.run_bind, run_underlying hu w]
      cases d <;> simp_all
    simp [loadVar, Sem.run_bind, hagg, sizeOf, typeInfo, hq, hs, hl]
theorem events_loadVar_reads (w : World) (ad : Addr) (ty : TypeId) {d : TypeDesc} (hu : P.underlying ty = some d) (hd : (match d with | .struct _ | .array _ _ => true | _ => false) = true) {n : Nat} (hi : (P.info? ty).map (·.size) = some n) :
    ∀ e ∈ (loadVar ty ad).events P w #[], e.isRead := by
  cases hq : P.info? ty with
  | none => simp [hq] at hi
  | some i =>
    have hagg : (isAgg ty).run P w = .ok true w := by
      unfold isAgg
      rw [Sem.run_bind, run_underlying hu w]
      cases d <;> simp_all
    have hagge : ∀ es, (isAgg ty).events P w es = es := fun es => by
      unfold isAgg
      simp only [Sem.events_bind, run_underlying hu w, events_underlying, Result.evThen_ok]
      cases d <;> simp
    intro e he
    have hsz : ∀ es, (sizeOf ty).events P w es = es := fun es => by simp [sizeOf, typeInfo, hq]
    have hszr : (sizeOf ty).run P w = .ok i.size w := by simp [sizeOf, typeInfo, hq]
    simp only [loadVar, Sem.events_bind, hagg, hagge, Result.evThen_ok, if_true, hszr, hsz, loadCells] at he
    have : e ∈ (loadCellsFrom ad 0 i.size #[]).events P w #[] := by
      revert he
      cases (loadCellsFrom ad 0 i.size #[]).run P w <;> simp
    rcases events_loadCellsFrom_reads _ _ _ _ _ _ e this with h | h
    · simp at h
    · exact h
theorem Walk.loadS (t : TypeId) (x : Operand) (ho : ops[i]? = some o) (hw : Region.wanted o (yielded ops a.tmps) = true) (hk : b.kind ≠ .early) (hop : o.op = .load t x) (g off : Nat) (vals : List Value) (d : TypeDesc) (hx : a.eval x = .pointer (some ⟨g, off, none⟩)) (hc : ∀ j v, vals[j]? = some v → w.cell? ⟨g, off + j, none⟩ = some v)
    (hu : P.underlying t = some d) (hd : (match d with | .struct _ | .array _ _ => true | _ => false) = true) (hi : (P.info? t).map (·.size) = some vals.length)
    (h : Walk P main (DR V) Stop (G (b.at (a.put o.dst (.agg vals.toArray)) (.inRegion ops rest :: k)) cs) w) : Walk P main (DR V) Stop (G (b.at a (.inRegion ops (i :: rest) :: k)) cs) w := by
  refine Walk.opq ho hw hk (fun dd e he => ?_) (fun dd K hK => ?_)
  · refine evR_isRead (events_loadVar_reads (P := P) (w.at dd) ⟨g, off, none⟩ t hu hd hi e ?_)
    unfold execOp at he
    simpa [hop, hx, Instr.loadAt, Instr.sureAddr, Sem.events_bind] using he
  · unfold execOp
    simp only [hop, hx, Instr.loadAt, Instr.sureAddr, Sem.run_bind, Sem.run_pure, Result.andThen_ok, run_loadVar_at (P := P) (w.at dd) g off t vals d hc hu hd hi]
    exact hK _ h
theorem events_storeVar_at (w : World) (g : Nat) (t ty : TypeId) (old cells : Array Value) (hg : w.heap[g]? = some (.cells old t (0, 0))) (hi : (P.info? ty).map (·.size) = some cells.size) (ho : old.size = cells.size) (h1 : cells.all (·.oneCell') = true) :
    ∀ e ∈ (storeVar ty ⟨g, 0, none⟩ (.agg cells)).events P w #[], ∃ ad, e.loc = .cell ad ∧ ad.block = g := by
  cases hq : P.info? ty with
  | none => simp [hq] at hi
  | some i =>
    have hs : cells.size = i.size := by simp [hq] at hi; omega
    intro e he
    have : e ∈ (storeCells ⟨g, 0, none⟩ cells.toList 0).events P w #[] := by
      simpa [storeVar, sizeOf, typeInfo, hq, Value.cells, hs, Sem.events_bind] using he
    rcases events_storeCells_at g 0 t cells.toList 0 old w #[] hg (by simp; omega) (fun v hv => (Array.all_eq_true_iff_forall_mem.1 h1) v (by simpa using hv)) e this with h | h
    · simp at h
    · exact h
theorem Walk.storeS (t : TypeId) (x y : Operand) (ho : ops[i]? = some o) (hw : Region.wanted o (yielded ops a.tmps) = true) (hk : b.kind ≠ .early) (hop : o.op = .store t x y) (g : Nat) (cells old : Array Value) (tt : TypeId) (hx : a.eval x = .pointer (some ⟨g, 0, none⟩)) (hy : a.eval y = .agg cells)
    (hg : w.heap[g]? = some (.cells old tt (0, 0))) (hi : (P.info? t).map (·.size) = some cells.size) (hold : old.size = cells.size) (h1 : cells.all (·.oneCell') = true) (hap : Apart V g)
    (h : Walk P main (DR V) Stop (G (b.at (a.put o.dst undef) (.inRegion ops rest :: k)) cs) (w.setRow g cells)) : Walk P main (DR V) Stop (G (b.at a (.inRegion ops (i :: rest) :: k)) cs) w := by
  have hgr : ∀ d, (w.at d).grownBy ((w.setRow g cells).at d) (some g) := fun d => by
    refine ⟨rfl, rfl, rfl, ?_, fun k hk hne => ?_⟩
    · simp [World.setRow, World.at]
    · have : k ≠ g := fun e => hne (by rw [e])
      simp only [World.setRow, World.at]
      rw [Array.getElem?_modify, if_neg (Ne.symm this)]
  refine Walk.opw (W := w.setRow g cells) ho hw hk (fun dd e he => ?_) (fun dd es hes => DR.grown (hgr dd) (fun g' e => by cases e; exact hap) hes) (fun dd K hK => ?_)
  · obtain ⟨ad, h1', h2'⟩ := events_storeVar_at (P := P) (w.at dd) g tt t old cells hg hi hold h1 e (by
      unfold execOp at he
      have hr := run_storeVar_row (P := P) (w.at dd) g tt t old cells hg hi hold h1
      simpa [hop, hx, hy, Instr.storeAt, Instr.sureAddr, Sem.events_bind, hr] using he)
    exact evR_cell h1' (hap.1 ad h2')
  · unfold execOp
    simp only [hop, hx, hy, Instr.storeAt, Instr.sureAddr, Sem.run_bind, Sem.run_pure, Result.andThen_ok, run_storeVar_row (P := P) (w.at dd) g tt t old cells hg hi hold h1]
    exact hK _ h
end
section
open Go.Conc Go.RowKit
open Go.ConcN (upd upd_ne upd_same)
def waitsB (ops : Array Oper) (i j : Nat) : Bool := (ops[i]?).any fun o => o.after.any fun e => decide (e.on = j) && Region.binds .any e
def calmB (ops : Array Oper) (m : Nat) : Bool := decide (m ≤ ops.size) && (List.range m).all fun i => (ops[i]?).any fun o => (match o.op with | .select _ _ => false | _ => true) && o.dst.isSome &&
  (List.range ops.size).all fun j => decide (j = i) && !(o.looksAt ops).any (fun t => o.dst == some t) ||
    (ops[j]?).any fun p => (o.dst != p.dst) && (!(o.looksAt ops).any (fun t => p.dst == some t) || decide (j < i) && waitsB ops i j)
section
variable (P : Program) (main : Bool) (V : Nat → Option Wait) (ops : Array Oper) (Z : World → Prop)
def Cm (K : Act → Prop) : List Nat → Act → Prop
  | [], a => K a
  | i :: rest, a => ∃ o a', ops[i]? = some o ∧ Cm K rest a' ∧
    ((Region.wanted o (yielded ops a.tmps) = false ∧ a' = a.put o.dst undef) ∨
     (Region.wanted o (yielded ops a.tmps) = true ∧ (∀ w, Z w → ∀ d, ∀ e ∈ (execOp a.eval o).events P (w.at d) #[], EvR V e) ∧ ∀ w, Z w → ∀ d, uponK o a (fun x w' => x = a' ∧ w' = w.at d) ((execOp a.eval o).run P (w.at d))) ∨
     (Region.wanted o (yielded ops a.tmps) = true ∧ ∃ (f : FuncId) (fn : Func) (args : Array Operand) (ats : Array TypeId) (x : Value), o.op = .call { callee := .value (.func f), args, argTypes := ats } ∧ P.funcs[f]? = some fn ∧ (fn.name == "runtime.NumGoroutine") = false ∧ fn.body.isNone = false ∧
      (∀ w, Z w → CallV P main V f (args.map a.eval) w x w) ∧ a' = a.put o.dst x))
end
section
variable {P : Program} {main : Bool} {V : Nat → Option Wait} {ops : Array Oper} {Z : World → Prop} {w : World} {K : Act → Prop} {i : Nat} {rest : List Nat} {a : Act} {o : Oper}
theorem Cm.opq {a' : Act} (ho : ops[i]? = some o) (hw : Region.wanted o (yielded ops a.tmps) = true) (he : ∀ w, Z w → ∀ d, ∀ e ∈ (execOp a.eval o).events P (w.at d) #[], EvR V e)
    (h : ∀ w, Z w → ∀ d, ∀ K' : Act → World → Prop, K' a' (w.at d) → uponK o a K' ((execOp a.eval o).run P (w.at d))) (hn : Cm P main V ops Z K rest a') : Cm P main V ops Z K (i :: rest) a :=
  ⟨o, a', ho, hn, .inr (.inl ⟨hw, he, fun w hz d => h w hz d _ ⟨rfl, rfl⟩⟩)⟩
theorem Cm.opqA (ho : ops[i]? = some o) (hw : Region.wanted o (yielded ops a.tmps) = true) (he : ∀ d, ∀ e ∈ (execOp a.eval o).events P (w.at d) #[], EvR V e)
    (h : ∃ a', (∀ d, ∀ K' : Act → World → Prop, K' a' (w.at d) → uponK o a K' ((execOp a.eval o).run P (w.at d))) ∧ Cm P main V ops (· = w) K rest a') : Cm P main V ops (· = w) K (i :: rest) a := by
  obtain ⟨a', h1, h2⟩ := h
  exact Cm.opq ho hw (fun _ e => e ▸ he) (fun _ e => e ▸ h1) h2
theorem Cm.unw (ho : ops[i]? = some o) (hw : Region.wanted o (yielded ops a.tmps) = false) (h : Cm P main V ops Z K rest (a.put o.dst undef)) : Cm P main V ops Z K (i :: rest) a :=
  ⟨o, _, ho, h, .inl ⟨hw, rfl⟩⟩
theorem Cm.callV {f : FuncId} {fn : Func} {args : Array Operand} {ats : Array TypeId} {x : Value} (hc : ∀ w, Z w → CallV P main V f (args.map a.eval) w x w) (ho : ops[i]? = some o) (hw : Region.wanted o (yielded ops a.tmps) = true) (hop : o.op = .call { callee := .value (.func f), args, argTypes := ats })
    (hf : P.funcs[f]? = some fn) (hname : (fn.name == "runtime.NumGoroutine") = false) (hb : fn.body.isNone = false) (h : Cm P main V ops Z K rest (a.put o.dst x)) : Cm P main V ops Z K (i :: rest) a :=
  ⟨o, _, ho, h, .inr (.inr ⟨hw, f, fn, args, ats, x, hop, hf, hname, hb, hc, rfl⟩)⟩
theorem Cm.loadS (t : TypeId) (x : Operand) (ho : ops[i]? = some o) (hw : Region.wanted o (yielded ops a.tmps) = true) (hop : o.op = .load t x) (g off : Nat) (vals : List Value) (d : TypeDesc) (hx : a.eval x = .pointer (some ⟨g, off, none⟩)) (hc : ∀ w, Z w → ∀ j v, vals[j]? = some v → w.cell? ⟨g, off + j, none⟩ = some v)
    (hu : P.underlying t = some d) (hd : (match d with | .struct _ | .array _ _ => true | _ => false) = true) (hi : (P.info? t).map (·.size) = some vals.length) (h : Cm P main V ops Z K rest (a.put o.dst (.agg vals.toArray))) : Cm P main V ops Z K (i :: rest) a := by
  refine Cm.opq ho hw (fun w hz dd e he => ?_) (fun w hz dd K hK => ?_) h
  · refine evR_isRead (events_loadVar_reads (P := P) (w.at dd) ⟨g, off, none⟩ t hu hd hi e ?_)
    unfold execOp at he
    simpa [hop, hx, Instr.loadAt, Instr.sureAddr, Sem.events_bind] using he
  · unfold execOp
    simp only [hop, hx, Instr.loadAt, Instr.sureAddr, Sem.run_bind, Sem.run_pure, Result.andThen_ok, run_loadVar_at (P := P) (w.at dd) g off t vals d (hc w hz) hu hd hi]
    exact hK
theorem Cm.done (h : K a) : Cm P main V ops Z K [] a := h
def putsL (ops : Array Oper) (vals : Nat → Value) (f : Nat → Bool) (l : List Nat) (a : Act) : Act := l.foldl (fun a j => if f j then a.put ((ops[j]?).bind (·.dst)) (vals j) else a) a
def puts (ops : Array Oper) (vals : Nat → Value) (f : Nat → Bool) (a : Act) : Act := putsL ops vals f (List.range ops.size) a
theorem put_defers (a : Act) (x : Option Tmp) (v : Value) : (a.put x v).defers = a.defers := by cases x <;> rfl
theorem put_size (a : Act) (x : Option Tmp) (v : Value) : (a.put x v).tmps.size = a.tmps.size := by cases x <;> simp [Act.put]
theorem put_slot (a : Act) (x : Option Tmp) (v : Value) (t : Nat) : (a.put x v).tmps[t]? = if x = some t then (a.tmps[t]?).map (fun _ => v) else a.tmps[t]? := by
  cases x with
  | none => rfl
  | some d =>
    simp only [Act.put, Option.some.injEq]
    by_cases e : d = t
    · subst e
      rw [if_pos rfl]
      by_cases hl : d < a.tmps.size
      · rw [Array.getElem?_setIfInBounds_self_of_lt hl, Array.getElem?_eq_getElem hl]; rfl
      · have h1 : (a.tmps.setIfInBounds d v)[d]? = none := Array.getElem?_eq_none (by simpa using hl)
        have h2 : a.tmps[d]? = none := Array.getElem?_eq_none (Nat.not_lt.1 hl)
        rw [h1, h2]; rfl
    · rw [if_neg e, Array.getElem?_setIfInBounds_ne e]
theorem putsL_defers (vals : Nat → Value) (f : Nat → Bool) : ∀ (l : List Nat) (a : Act), (putsL ops vals f l a).defers = a.defers
  | [], _ => rfl
  | j :: l, a => by
    show (putsL ops vals f l (if f j then a.put ((ops[j]?).bind (·.dst)) (vals j) else a)).defers = _
    rw [putsL_defers vals f l]
    split
    · exact put_defers _ _ _
    · rfl
theorem slot_congr {vals vals' : Nat → Value} {f f' : Nat → Bool} {t : Nat} : ∀ (l : List Nat) (a a' : Act), a.tmps[t]? = a'.tmps[t]? → (∀ j ∈ l, (ops[j]?).bind (·.dst) = some t → f j = f' j ∧ vals j = vals' j) → (putsL ops vals f l a).tmps[t]? = (putsL ops vals' f' l a').tmps[t]?
  | [], _, _, h, _ => h
  | j :: l, a, a', h, hf => by
    refine slot_congr l (if f j then a.put ((ops[j]?).bind (·.dst)) (vals j) else a) (if f' j then a'.put ((ops[j]?).bind (·.dst)) (vals' j) else a') ?_ fun k hk => hf k (List.mem_cons_of_mem _ hk)
    by_cases hd : (ops[j]?).bind (·.dst) = some t
    · obtain ⟨h1, h2⟩ := hf j (List.mem_cons_self ..) hd
      rw [h1, h2]
      split
      · rw [put_slot, put_slot, h]
      · exact h
    · have e : ∀ (x : Bool) (v : Value) (b : Act), (if x then b.put ((ops[j]?).bind (·.dst)) v else b).tmps[t]? = b.tmps[t]? := fun x v b => by
        cases x with
        | true => rw [if_pos rfl, put_slot, if_neg hd]
        | false => rfl
      rw [e, e]; exact h
theorem puts_congr {vals vals' : Nat → Value} {f f' : Nat → Bool} (h : ∀ j, j < ops.size → f j = f' j ∧ (f j = true → vals j = vals' j)) (a : Act) : puts ops vals f a = puts ops vals' f' a := by
  unfold puts
  have : ∀ (l : List Nat) (a : Act), (∀ j ∈ l, j < ops.size) → putsL ops vals f l a = putsL ops vals' f' l a := fun l => by
    induction l with
    | nil => intro a _; rfl
    | cons j l ih =>
      intro a hl
      obtain ⟨h1, h2⟩ := h j (hl j (List.mem_cons_self ..))
      have e : (if f j then a.put ((ops[j]?).bind (·.dst)) (vals j) else a) = (if f' j then a.put ((ops[j]?).bind (·.dst)) (vals' j) else a) := by
        rw [← h1]
        cases hf : f j with
        | true => rw [h2 hf]
        | false => rfl
      show putsL ops vals f l (if f j then a.put ((ops[j]?).bind (·.dst)) (vals j) else a) = putsL ops vals' f' l (if f' j then a.put ((ops[j]?).bind (·.dst)) (vals' j) else a)
      rw [e]
      exact ih _ fun k hk => hl k (List.mem_cons_of_mem _ hk)
  exact this _ a fun j hj => List.mem_range.1 hj
theorem putsL_none {vals : Nat → Value} {f : Nat → Bool} : ∀ (l : List Nat) (a : Act), (∀ j ∈ l, f j = false) → putsL ops vals f l a = a
  | [], _, _ => rfl
  | j :: l, a, h => by
    show putsL ops vals f l (if f j then _ else a) = a
    rw [h j (List.mem_cons_self ..)]
    exact putsL_none l a fun k hk => h k (List.mem_cons_of_mem _ hk)
theorem puts_zero (vals : Nat → Value) (a : Act) : puts ops vals (fun _ => false) a = a := putsL_none _ a fun _ _ => rfl
theorem puts_succ (vals : Nat → Value) {i : Nat} (hi : i < ops.size) (a : Act) : puts ops vals (fun j => decide (j < i + 1)) a = (puts ops vals (fun j => decide (j < i)) a).put ((ops[i]?).bind (·.dst)) (vals i) := by
  have e : List.range ops.size = List.range i ++ (i :: List.range' (i + 1) (ops.size - (i + 1))) := by
    rw [List.range_eq_range', List.range_eq_range', ← List.range'_succ]
    have : ops.size - (i + 1) + 1 = ops.size - i := by omega
    rw [this, show (List.range' i (ops.size - i)) = List.range' (0 + 1 * i) (ops.size - i) by simp, List.range'_append]
    congr 1
    omega
  unfold puts
  rw [e]
  unfold putsL
  rw [List.foldl_append, List.foldl_append, List.foldl_cons, List.foldl_cons]
  have h1 : ∀ a : Act, (List.range' (i + 1) (ops.size - (i + 1))).foldl (fun a j => if (fun j => decide (j < i + 1)) j then a.put ((ops[j]?).bind (·.dst)) (vals j) else a) a = a := fun a => putsL_none (f := fun j => decide (j < i + 1)) _ a fun j hj => by
    have := List.mem_range'_1.1 hj
    exact decide_eq_false (by omega)
  have h2 : ∀ a : Act, (List.range' (i + 1) (ops.size - (i + 1))).foldl (fun a j => if (fun j => decide (j < i)) j then a.put ((ops[j]?).bind (·.dst)) (vals j) else a) a = a := fun a => putsL_none (f := fun j => decide (j < i)) _ a fun j hj => by
    have := List.mem_range'_1.1 hj
    exact decide_eq_false (by omega)
  rw [h1, h2]
  have h3 : ∀ (l : List Nat) (a : Act), (∀ j ∈ l, j < i) → l.foldl (fun a j => if (fun j => decide (j < i + 1)) j then a.put ((ops[j]?).bind (·.dst)) (vals j) else a) a = l.foldl (fun a j => if (fun j => decide (j < i)) j then a.put ((ops[j]?).bind (·.dst)) (vals j) else a) a := fun l => by
    induction l with
    | nil => intro a _; rfl
    | cons j l ih =>
      intro a hl
      have hj := hl j (List.mem_cons_self ..)
      rw [List.foldl_cons, List.foldl_cons]
      have e1 : decide (j < i + 1) = true := decide_eq_true (by omega)
      have e2 : decide (j < i) = true := decide_eq_true hj
      simp only [e1, e2]
      exact ih _ fun k hk => hl k (List.mem_cons_of_mem _ hk)
  rw [h3 _ a fun j hj => List.mem_range.1 hj]
  simp
theorem calm_at {m : Nat} (hc : calmB ops m = true) {i : Nat} {o : Oper} (hi : i < m) (ho : ops[i]? = some o) : (∀ cs b, o.op ≠ .select cs b) ∧ (∃ t, o.dst = some t ∧ t ∉ o.looksAt ops) ∧ ∀ (j : Nat) (p : Oper), ops[j]? = some p → j ≠ i → o.dst ≠ p.dst ∧ ∀ t, p.dst = some t → t ∈ o.looksAt ops → j < i ∧ waitsB ops i j = true := by
  have hc := (Bool.and_eq_true _ _ ▸ hc : _ ∧ _)
  have h := List.all_eq_true.1 hc.2 i (List.mem_range.2 hi)
  rw [ho] at h
  simp only [Option.any_some, Bool.and_eq_true] at h
  obtain ⟨⟨h1, h2⟩, h3⟩ := h
  refine ⟨(fun cs b e => by rw [e] at h1; cases h1), ?_, fun j p hj hne => ?_⟩
  · have h := List.all_eq_true.1 h3 i (List.mem_range.2 (Array.getElem?_eq_some_iff.1 ho).1)
    rw [ho] at h
    obtain ⟨t, ht⟩ := Option.isSome_iff_exists.1 h2
    refine ⟨t, ht, fun hm => ?_⟩
    have hl : (o.looksAt ops).any (fun t => o.dst == some t) = true := List.any_eq_true.2 ⟨t, hm, by simp [ht]⟩
    simp [hl] at h
  · have h := List.all_eq_true.1 h3 j (List.mem_range.2 (Array.getElem?_eq_some_iff.1 hj).1)
    rw [hj] at h
    have hd : decide (j = i) = false := decide_eq_false hne
    rw [hd] at h
    simp only [Bool.false_and, Bool.false_or, Option.any_some, Bool.and_eq_true, bne_iff_ne, ne_eq] at h
    refine ⟨h.1, fun t ht hm => ?_⟩
    have hl : (o.looksAt ops).any (fun t => p.dst == some t) = true := List.any_eq_true.2 ⟨t, hm, by simp [ht]⟩
    rw [hl] at h
    simpa using h.2
theorem waits_at {i j : Nat} {o : Oper} {f : Nat → Bool} (h : waitsB ops i j = true) (ho : ops[i]? = some o) (hd : ∀ e ∈ o.after, Region.binds .any e = true → f e.on = true) : f j = true := by
  unfold waitsB at h
  rw [ho] at h
  simp only [Option.any_some] at h
  obtain ⟨x, hx, hb⟩ := Array.any_eq_true.1 h
  simp only [Bool.and_eq_true, decide_eq_true_eq] at hb
  exact hb.1 ▸ hd _ (Array.getElem_mem hx) hb.2
theorem same_look {a a' : Act} (h : ∀ t ∈ o.looksAt ops, a.tmps[t]? = a'.tmps[t]?) (hs : ∀ cs b, o.op ≠ .select cs b) : execOp a.eval o = execOp a'.eval o ∧ Region.wanted o (yielded ops a.tmps) = Region.wanted o (yielded ops a'.tmps) ∧ ∀ x ∈ o.op.operands, a.eval x = a'.eval x := by
  have hx : ∀ x ∈ o.op.operands, a.eval x = a'.eval x := fun x hx => by
    cases x with
    | tmp t =>
      have := h t (List.mem_append_left _ (List.mem_filterMap.2 ⟨.tmp t, by simpa using hx, rfl⟩))
      show a.tmps.getD t undef = a'.tmps.getD t undef
      rw [Array.getD_eq_getD_getElem?, Array.getD_eq_getD_getElem?, this]
    | _ => rfl
  refine ⟨execOp_congr o hs hx, ?_, hx⟩
  unfold Region.wanted
  cases hg : o.guard with
  | none => rfl
  | some gw =>
    obtain ⟨g, want⟩ := gw
    have hy : yielded ops a.tmps g = yielded ops a'.tmps g := by
      unfold yielded
      cases ht : (ops[g]?).bind (·.dst) with
      | none => rfl
      | some t =>
        have := h t (List.mem_append_right _ (by simp [hg, ht]))
        simp only [Option.bind_some, this]
    simp only [hy]
theorem putsL_size (vals : Nat → Value) (f : Nat → Bool) : ∀ (l : List Nat) (a : Act), (putsL ops vals f l a).tmps.size = a.tmps.size
  | [], _ => rfl
  | j :: l, a => by
    show (putsL ops vals f l (if f j then a.put ((ops[j]?).bind (·.dst)) (vals j) else a)).tmps.size = _
    rw [putsL_size vals f l]
    split
    · exact put_size _ _ _
    · rfl
theorem slot_keep {vals : Nat → Value} {f : Nat → Bool} {t i : Nat} {X : Option Value} : ∀ (l : List Nat) (a : Act), (∀ j ∈ l, (ops[j]?).bind (·.dst) = some t → j = i) → a.tmps[t]? = X.map (fun _ => vals i) → (putsL ops vals f l a).tmps[t]? = X.map (fun _ => vals i)
  | [], _, _, h => h
  | j :: l, a, hl, h => by
    refine slot_keep l (if f j then a.put ((ops[j]?).bind (·.dst)) (vals j) else a) (fun k hk => hl k (List.mem_cons_of_mem _ hk)) ?_
    split
    · rw [put_slot]
      split
      · next e =>
        have := hl j (List.mem_cons_self ..) e
        rw [h, this]
        cases X <;> rfl
      · exact h
    · exact h
theorem slot_only {vals : Nat → Value} {f : Nat → Bool} {t i : Nat} (hf : f i = true) (hd : (ops[i]?).bind (·.dst) = some t) : ∀ (l : List Nat) (a : Act), (∀ j ∈ l, (ops[j]?).bind (·.dst) = some t → j = i) → i ∈ l → (putsL ops vals f l a).tmps[t]? = (a.tmps[t]?).map (fun _ => vals i)
  | [], _, _, h => by cases h
  | j :: l, a, hl, hm => by
    by_cases e : j = i
    · subst e
      refine slot_keep l (if f j then a.put ((ops[j]?).bind (·.dst)) (vals j) else a) (fun k hk => hl k (List.mem_cons_of_mem _ hk)) ?_
      rw [hf, if_pos rfl, put_slot, if_pos hd]
    · have hm : i ∈ l := by
        rcases List.mem_cons.1 hm with h | h
        · exact absurd h.symm e
        · exact h
      have := slot_only (vals := vals) hf hd l (if f j then a.put ((ops[j]?).bind (·.dst)) (vals j) else a) (fun k hk => hl k (List.mem_cons_of_mem _ hk)) hm
      refine this.trans ?_
      have hne : (ops[j]?).bind (·.dst) ≠ some t := fun h => e (hl j (List.mem_cons_self ..) h)
      split
      · rw [put_slot, if_neg hne]
      · rfl
theorem act_ext {a b : Act} (ht : ∀ t : Nat, a.tmps[t]? = b.tmps[t]?) (hd : a.defers = b.defers) : a = b := by
  obtain ⟨x, y⟩ := a
  obtain ⟨x', y'⟩ := b
  have : x = x' := Array.ext_getElem? ht
  subst this
  have hd : y = y' := hd
  subst hd
  rfl
theorem dst_of (ho : ops[i]? = some o) : (ops[i]?).bind (·.dst) = o.dst := by rw [ho]; rfl
theorem puts_upd {m : Nat} (hc : calmB ops m = true) (hm : i < m) (vals : Nat → Value) {f : Nat → Bool} (hf : f i = false) (ho : ops[i]? = some o) (a : Act) : puts ops vals (upd f i true) a = (puts ops vals f a).put o.dst (vals i) := by
  have hi := (Array.getElem?_eq_some_iff.1 ho).1
  obtain ⟨_, ⟨t0, ht0, _⟩, hdist⟩ := calm_at hc hm ho
  have only : ∀ j ∈ List.range ops.size, (ops[j]?).bind (·.dst) = some t0 → j = i := fun j hj h => by
    refine Classical.byContradiction fun hne => ?_
    have hjl := List.mem_range.1 hj
    have hoj := Array.getElem?_eq_getElem hjl
    rw [hoj] at h
    exact (hdist j _ hoj hne).1 (ht0.trans h.symm)
  refine act_ext (fun t => ?_) ?_
  · rw [put_slot, ht0]
    by_cases e : t0 = t
    · subst e
      rw [if_pos rfl]
      have h1 := slot_only (vals := vals) (f := upd f i true) (upd_same _ _ _) ((dst_of ho).trans ht0) (List.range ops.size) a only (List.mem_range.2 hi)
      have h2 : (puts ops vals f a).tmps[t0]? = a.tmps[t0]? := by
        have : (putsL ops vals f (List.range ops.size) a).tmps[t0]? = (putsL ops vals (fun _ => false) (List.range ops.size) a).tmps[t0]? := slot_congr _ a a rfl fun j hj h => by
          have := only j hj h
          subst this
          exact ⟨hf, rfl⟩
        rw [putsL_none _ a fun _ _ => rfl] at this
        exact this
      rw [h2]
      exact h1
    · rw [if_neg (by simpa using e)]
      exact slot_congr _ a a rfl fun j _ h => by
        have hne : j ≠ i := fun h' => by
          subst h'
          rw [dst_of ho, ht0] at h
          exact e (Option.some.inj h)
        exact ⟨upd_ne _ _ hne, rfl⟩
  · rw [put_defers]
    unfold puts
    rw [putsL_defers, putsL_defers]
def CondU (P : Program) (main : Bool) (V : Nat → Option Wait) (ops : Array Oper) (Z : World → Prop) (o : Oper) (a : Act) (v : Value) : Prop :=
  (Region.wanted o (yielded ops a.tmps) = false ∧ v = undef) ∨
  (Region.wanted o (yielded ops a.tmps) = true ∧ (∀ w, Z w → ∀ d, ∀ e ∈ (execOp a.eval o).events P (w.at d) #[], EvR V e) ∧ ∀ w, Z w → ∀ d, uponK o a (fun x w' => x = a.put o.dst v ∧ w' = w.at d) ((execOp a.eval o).run P (w.at d))) ∨
  (Region.wanted o (yielded ops a.tmps) = true ∧ ∃ (f : FuncId) (fn : Func) (args : Array Operand) (ats : Array TypeId), o.op = .call { callee := .value (.func f), args, argTypes := ats } ∧ P.funcs[f]? = some fn ∧ (fn.name == "runtime.NumGoroutine") = false ∧ fn.body.isNone = false ∧ ∀ w, Z w → CallV P main V f (args.map a.eval) w v w)
theorem cm_vals {m : Nat} (hz : Z w) (hm : m ≤ ops.size) : ∀ (r i : Nat) (vals : Nat → Value) (a0 : Act), i + r = m → Cm P main V ops Z K (List.range' i r) (puts ops vals (fun j => decide (j < i)) a0) →
    ∃ vals', (∀ j, j < i → vals' j = vals j) ∧ (∀ j o, i ≤ j → j < m → ops[j]? = some o → CondU P main V ops Z o (puts ops vals' (fun x => decide (x < j)) a0) (vals' j)) ∧ K (puts ops vals' (fun j => decide (j < m)) a0)
  | 0, i, vals, a0, hi, h => by
    have hi : i = m := hi
    refine ⟨vals, fun _ _ => rfl, fun j o hj hjm ho => ?_, ?_⟩
    · omega
    · rw [← hi]; exact h
  | r + 1, i, vals, a0, hi, h => by
    have his : i < ops.size := by omega
    obtain ⟨o, a', ho, hn, hc⟩ := h
    obtain ⟨v, hv, hcond⟩ : ∃ v, a' = (puts ops vals (fun j => decide (j < i)) a0).put o.dst v ∧ CondU P main V ops Z o (puts ops vals (fun j => decide (j < i)) a0) v := by
      rcases hc with ⟨h1, h2⟩ | ⟨h1, h2, h3⟩ | ⟨h1, f, fn, args, ats, x, e1, e2, e3, e4, e5, e6⟩
      · exact ⟨undef, h2, .inl ⟨h1, rfl⟩⟩
      · have h0 := h3 w hz 0
        obtain ⟨v, hv⟩ : ∃ v, a' = (puts ops vals (fun j => decide (j < i)) a0).put o.dst v := by
          revert h0
          generalize (execOp _ o).run P (w.at 0) = rr
          intro h0
          unfold uponK at h0
          split at h0
          · exact ⟨_, h0.1.symm⟩
          · exact ⟨_, h0.1.symm⟩
          · exact h0.elim
        exact ⟨v, hv, .inr (.inl ⟨h1, h2, hv ▸ h3⟩)⟩
      · exact ⟨x, e6, .inr (.inr ⟨h1, f, fn, args, ats, e1, e2, e3, e4, e5⟩)⟩
    have hpre : puts ops (upd vals i v) (fun j => decide (j < i)) a0 = puts ops vals (fun j => decide (j < i)) a0 := puts_congr (fun j _ => ⟨rfl, fun hd => upd_ne _ _ (by have := of_decide_eq_true hd; omega)⟩) a0
    have hs := puts_succ (ops := ops) (upd vals i v) his a0
    rw [hpre, upd_same, dst_of ho, ← hv] at hs
    rw [← hs] at hn
    obtain ⟨vals', k1, k2, k3⟩ := cm_vals hz hm r (i + 1) (upd vals i v) a0 (by omega) hn
    refine ⟨vals', fun j hj => (k1 j (by omega)).trans (upd_ne _ _ (by omega)), fun j o' hj hjm ho' => ?_, k3⟩
    by_cases e : j = i
    · subst e
      rw [ho] at ho'
      cases ho'
      have e1 : puts ops vals' (fun x => decide (x < j)) a0 = puts ops vals (fun x => decide (x < j)) a0 := by
        rw [← hpre]
        exact puts_congr (fun x _ => ⟨rfl, fun hd => k1 x (by have := of_decide_eq_true hd; omega)⟩) a0
      have e2 : vals' j = v := (k1 j (by omega)).trans (upd_same _ _ _)
      rw [e1, e2]
      exact hcond
    · exact k2 j o' (by omega) hjm ho'
end
section
variable {P : Program} {main : Bool} {V : Nat → Option Wait} {Stop : Goroutine → World → Prop} {b : Frame} {k : List Item} {cs : List Frame} {ops : Array Oper} {w : World} {a : Act}
theorem Walk.calmOp {Z : World → Prop} {m i : Nat} (hz : Z w) {o : Oper} {vals : Nat → Value} {f : Nat → Bool} {rest : List Nat} (hc : calmB ops m = true) (hk : b.kind ≠ .early) (hi : i < m) (ho : ops[i]? = some o) (hd : ∀ e ∈ o.after, Region.binds .any e = true → f e.on = true)
    (hcond : CondU P main V ops Z o (puts ops vals (fun x => decide (x < i)) a) (vals i)) (hr' : Walk P main (DR V) Stop (G (b.at ((puts ops vals f a).put o.dst (vals i)) (.inRegion ops rest :: k)) cs) w) :
    Walk P main (DR V) Stop (G (b.at (puts ops vals f a) (.inRegion ops (i :: rest) :: k)) cs) w := by
  obtain ⟨hsel, ⟨t0, ht0, hself⟩, hdist⟩ := calm_at hc hi ho
  have hlook : ∀ t ∈ o.looksAt ops, (puts ops vals f a).tmps[t]? = (puts ops vals (fun j => decide (j < i)) a).tmps[t]? := fun t ht => slot_congr _ a a rfl fun j hj hjd => by
    have hjl := List.mem_range.1 hj
    have hoj := Array.getElem?_eq_getElem hjl
    have hne : j ≠ i := fun e => by
      subst e
      rw [dst_of ho, ht0] at hjd
      cases hjd
      exact hself ht
    rw [hoj] at hjd
    obtain ⟨h1, h2⟩ := (hdist j _ hoj hne).2 t hjd ht
    exact ⟨(waits_at h2 ho hd).trans (decide_eq_true h1).symm, rfl⟩
  obtain ⟨s1, s2, s3⟩ := same_look hlook hsel
  have hsz : (puts ops vals f a).tmps.size = (puts ops vals (fun j => decide (j < i)) a).tmps.size := by
    unfold puts
    rw [putsL_size, putsL_size]
  have hput : ∀ v, (puts ops vals (fun j => decide (j < i)) a).put o.dst v = (puts ops vals (fun j => decide (j < i)) a).put o.dst (vals i) → (puts ops vals f a).put o.dst v = (puts ops vals f a).put o.dst (vals i) := fun v e => by
    refine act_ext (fun t => ?_) (by rw [put_defers, put_defers])
    rw [put_slot, put_slot]
    split
    · next e' =>
      have h1 : ((puts ops vals (fun j => decide (j < i)) a).put o.dst v).tmps[t]? = ((puts ops vals (fun j => decide (j < i)) a).put o.dst (vals i)).tmps[t]? := by rw [e]
      rw [put_slot, put_slot, if_pos e', if_pos e'] at h1
      by_cases hl : t < (puts ops vals f a).tmps.size
      · rw [Array.getElem?_eq_getElem (hsz ▸ hl)] at h1
        simp only [Option.map_some] at h1
        rw [Array.getElem?_eq_getElem hl]
        exact h1
      · rw [Array.getElem?_eq_none (by omega)]; rfl
    · rfl
  rcases hcond with ⟨c1, c2⟩ | ⟨c1, c2, c3⟩ | ⟨c1, f', fn, args, ats, e1, e2, e3, e4, e5⟩
  · rw [← s2] at c1
    rw [c2] at hr'
    exact Walk.ctl rfl (fun w => stepG_unwanted ho c1) hr'
  · rw [← s2] at c1
    rw [← s1] at c2 c3
    refine Walk.opq ho c1 hk (c2 w hz) fun d' K hK => ?_
    have h3 := c3 w hz d'
    revert h3
    generalize (execOp (puts ops vals f a).eval o).run P (w.at d') = rr
    intro h3
    unfold uponK at h3 ⊢
    split at h3
    · obtain ⟨x1, rfl⟩ := h3
      refine hK _ ?_
      rw [hput _ x1]; exact hr'
    · obtain ⟨x1, rfl⟩ := h3
      refine hK _ ?_
      rw [hput _ x1]; exact hr'
    · exact h3.elim
  · rw [← s2] at c1
    have hargs : args.map (puts ops vals f a).eval = args.map (puts ops vals (fun j => decide (j < i)) a).eval := Array.map_congr_left fun x hx => s3 x (by rw [e1]; simp [Op.operands, Call.operands, hx])
    rw [← hargs] at e5
    exact Walk.callV (e5 w hz) ho c1 hk e1 e2 e3 e4 hr'
theorem Walk.drawnC {id m : Nat} (hm : P.follows .mixedOrders = true) (hsz : ops.size = m) (hlow : lowB ops = true) (hc : calmB ops m = true) (hk : b.kind ≠ .early)
    (h : Cm P main V ops (· = w) (fun a => Walk P main (DR V) Stop (G (b.at a (.inRegion ops [] :: k)) cs) w) (List.range m) a) : Walk P main (DR V) Stop (G (b.at a (.code (.region id ops true) :: k)) cs) w := by
  rw [List.range_eq_range'] at h
  have h0 : Cm P main V ops (· = w) (fun a => Walk P main (DR V) Stop (G (b.at a (.inRegion ops [] :: k)) cs) w) (List.range' 0 m) (puts ops (fun _ => undef) (fun j => decide (j < 0)) a) := by
    have : puts ops (fun _ => undef) (fun j => decide (j < 0)) a = a := putsL_none _ a fun j _ => decide_eq_false (Nat.not_lt_zero j)
    rw [this]; exact h
  obtain ⟨vals, _, hcond, hend⟩ := cm_vals (Z := (· = w)) (w := w) rfl (Nat.le_of_eq hsz.symm) m 0 (fun _ => undef) a (by omega) h0
  refine Walk.drawnI (Inv := fun f x w' => x = puts ops vals f a ∧ ∃ d, w' = w.at d) hm hlow (fun d => ⟨(puts_zero vals a).symm, d, rfl⟩) ?_ ?_
  · rintro f i o _ _ ⟨rfl, d, rfl⟩ hf ho hd rest hr
    have hi : i < m := by have := (Array.getElem?_eq_some_iff.1 ho).1; omega
    refine Walk.back ?_ d
    refine Walk.calmOp (Z := (· = w)) rfl hc hk hi ho hd (hcond i o (Nat.zero_le _) hi ho) ?_
    rw [← puts_upd hc hi vals hf ho a]
    exact hr _ (w.at w.drawn) ⟨rfl, w.drawn, rfl⟩
  · rintro f _ _ ⟨rfl, d, rfl⟩ hall
    refine Walk.back ?_ d
    have : puts ops vals f a = puts ops vals (fun j => decide (j < m)) a := puts_congr (fun j hj => ⟨(hall j hj).trans (decide_eq_true (hsz ▸ hj)).symm, fun _ => rfl⟩) a
    rw [this]
    exact hend
def lastB (ops : Array Oper) (m : Nat) : Bool := (List.range m).all fun j => (List.range (m + 1)).any fun i => decide (j < i) && waitsB ops i j
theorem last_all {m : Nat} {o : Oper} {f : Nat → Bool} (hl : lastB ops m = true) (hC : Closed ops f) (ho : ops[m]? = some o) (hd : ∀ e ∈ o.after, Region.binds .any e = true → f e.on = true) : ∀ (r j : Nat), j + r = m → 0 < r → f j = true := by
  intro r
  induction r using Nat.strongRecOn with
  | _ r ih =>
    intro j hj hr
    have h := List.all_eq_true.1 hl j (List.mem_range.2 (by omega))
    obtain ⟨i, hi, h2⟩ := List.any_eq_true.1 h
    have hi := List.mem_range.1 hi
    simp only [Bool.and_eq_true, decide_eq_true_eq] at h2
    obtain ⟨h3, h4⟩ := h2
    by_cases e : i = m
    · subst e
      exact waits_at h4 ho hd
    · have hfi := ih (m - i) (by omega) i (by omega) (by omega)
      unfold waitsB at h4
      cases hoi : ops[i]? with
      | none => rw [hoi] at h4; cases h4
      | some oi =>
        rw [hoi] at h4
        simp only [Option.any_some] at h4
        obtain ⟨x, hx, hb⟩ := Array.any_eq_true.1 h4
        simp only [Bool.and_eq_true, decide_eq_true_eq] at hb
        exact hb.1 ▸ hC i oi hoi hfi _ (Array.getElem_mem hx) hb.2
theorem Walk.drawnL {id m : Nat} (hm : P.follows .mixedOrders = true) (hsz : ops.size = m + 1) (hlow : lowB ops = true) (hc : calmB ops m = true) (hl : lastB ops m = true) (hk : b.kind ≠ .early)
    (h : Cm P main V ops (· = w) (fun a => OpW P main V Stop b k cs ops m (fun a' w' => Walk P main (DR V) Stop (G (b.at a' (.inRegion ops [] :: k)) cs) w') a w) (List.range m) a) : Walk P main (DR V) Stop (G (b.at a (.code (.region id ops true) :: k)) cs) w := by
  rw [List.range_eq_range'] at h
  have h0 : Cm P main V ops (· = w) (fun a => OpW P main V Stop b k cs ops m (fun a' w' => Walk P main (DR V) Stop (G (b.at a' (.inRegion ops [] :: k)) cs) w') a w) (List.range' 0 m) (puts ops (fun _ => undef) (fun j => decide (j < 0)) a) := by
    have : puts ops (fun _ => undef) (fun j => decide (j < 0)) a = a := putsL_none _ a fun j _ => decide_eq_false (Nat.not_lt_zero j)
    rw [this]; exact h
  obtain ⟨vals, _, hcond, hend⟩ := cm_vals (Z := (· = w)) (ops := ops) (m := m) (w := w) rfl (by omega) m 0 (fun _ => undef) a (by omega) h0
  refine Walk.drawnJ (Inv := fun f x w' => (f m = true ∧ (∀ j, j < m → f j = true) ∧ Walk P main (DR V) Stop (G (b.at x (.inRegion ops [] :: k)) cs) w') ∨ (f m = false ∧ x = puts ops vals f a ∧ ∃ d, w' = w.at d)) hm hlow (fun d => .inr ⟨rfl, (puts_zero vals a).symm, d, rfl⟩) ?_ ?_
  · rintro f i o x w' hI hC hf ho hd rest hr
    have hi : i < m + 1 := by have := (Array.getElem?_eq_some_iff.1 ho).1; omega
    rcases hI with ⟨h1, h2, _⟩ | ⟨h1, rfl, d, rfl⟩
    · exfalso
      by_cases e : i = m
      · rw [e, h1] at hf; cases hf
      · rw [h2 i (by omega)] at hf; cases hf
    · refine Walk.back ?_ d
      by_cases e : i = m
      · subst e
        have hall := last_all hl hC ho hd
        have : puts ops vals f a = puts ops vals (fun j => decide (j < i)) a := puts_congr (fun j hj => ⟨by
          by_cases hji : j < i
          · rw [hall (i - j) j (by omega) (by omega)]; exact (decide_eq_true hji).symm
          · have : j = i := by omega
            rw [this, hf]; simp, fun _ => rfl⟩) a
        rw [this]
        refine hend rest fun a' w' hw' => hr a' w' (.inl ⟨upd_same _ _ _, fun j hj => ?_, hw'⟩)
        rw [upd_ne _ _ (by omega)]
        exact hall (i - j) j (by omega) (by omega)
      · have him : i < m := by omega
        refine Walk.calmOp (Z := (· = w)) rfl hc hk him ho hd (hcond i o (Nat.zero_le _) him ho) ?_
        rw [← puts_upd hc him vals hf ho a]
        exact hr _ (w.at w.drawn) (.inr ⟨by rw [upd_ne _ _ (Ne.symm e)]; exact h1, rfl, w.drawn, rfl⟩)
  · rintro f x w' hI hall
    rcases hI with ⟨_, _, h3⟩ | ⟨h1, _⟩
    · exact h3
    · rw [hall m (by omega)] at h1; cases h1
end
end
end Go.Relay
namespace Go.Proofs.Ytmfkjceeeffamaa
open Go.Conc Go.RowKit Go.Relay
open Go.ConcN (upd upd_ne upd_same)
section
variable {main : Bool} {V : Nat → Option Wait}
noncomputable def reg87_0 : Array Oper := match Try.f87.body with | some (.seq (.region _ ops _) _) => ops | _ => #[]
theorem size87_0 : reg87_0.size = 1 := by kernel_rfl
noncomputable def reg87_1 : Array Oper := match Try.f87.body with | some (.seq _ (.seq (.region _ ops _) _)) => ops | _ => #[]
theorem size87_1 : reg87_1.size = 18 := by kernel_rfl
theorem code87_is : Try.f87.body = some (.seq (.region 0 reg87_0 false) (.seq (.region 1 reg87_1 true) (.ret))) := by kernel_rfl
theorem clampMost_w (m : Int) (w : World) : CallV Try.prog main V 83 #[.int .i64 m] w (.int .i64 (min (max m 0) 1048576)) w := by
  refine callW_in Try.func83 rfl fun fr cs => ?_
  simp only [Try.ntmps83, List.size_toArray, List.length_cons, List.length_nil, Nat.reduceAdd, Nat.reduceSub, Array.replicate_succ, Array.replicate_zero, List.push_toArray, List.append_toArray, List.nil_append, List.cons_append]
  have hmx := @events_max_ints Try.prog
  have hmn := @events_min_ints Try.prog
  repeat (first | refine Walk.c rfl ?_ | refine Walk.cR ?_ | refine Walk.cRet ?_ | refine Walk.cEnd ?_ | (refine Walk.oq ?_; try walk_nrm) | (refine Walk.un ?_; walk_nrm))
  exact Walk.ret1 rfl rfl Try.func83 rfl fun d => ⟨by simp, d, rfl⟩
theorem over_w (B : Nat) (going most : Int) (sa : Option Addr) (n cap : Nat) (w : World) (h1 : w.cell? ⟨B, 1, none⟩ = some (.int .i64 going)) (h2 : w.cell? ⟨B, 2, none⟩ = some (.int .i64 most)) (h3 : w.cell? ⟨B, 3, none⟩ = some (.slice sa n cap)) :
    CallV Try.prog main V 87 #[.pointer (some ⟨B, 0, none⟩)] w (.bool (decide (going = 0) || decide (most ≤ n))) w := by
  refine callW_in Try.func87 code87_is fun fr cs => ?_
  simp only [Try.ntmps87, List.size_toArray, List.length_cons, List.length_nil, Nat.reduceAdd, Nat.reduceSub, Array.replicate_succ, Array.replicate_zero, List.push_toArray, List.append_toArray, List.nil_append, List.cons_append]
  repeat (first | refine Walk.c rfl ?_ | refine Walk.cRet ?_ | refine Walk.cEnd ?_ | (refine Walk.cReg ?_; simp only [size87_0, size87_1, List.range, List.range.loop]) | (refine Walk.oq ?_; try walk_nrm) | (refine Walk.un ?_; walk_nrm))
  by_cases hg : going = 0
  · subst hg
    (refine Walk.drawnC (by kernel_rfl) size87_1 (by kernel_rfl) (by kernel_rfl) (by decide) ?_; simp only [List.range, List.range.loop]; repeat (first | (refine Cm.opqA (ho_of (by conv => lhs; whnf) (by kernel_rfl)) (by rfl) (fun dd e he => ?_) ?_; (· (simp [go_sem, *] at he; try (subst he; exact evR_read _ _))); apply Exists.intro; apply And.intro; (· (intro dd K hK; go_simp; exact hK))) | (refine Cm.unw (ho_of (by conv => lhs; whnf) (by kernel_rfl)) (by rfl) ?_; walk_nrm)))
    refine Cm.done ?_
    repeat (first | refine Walk.c rfl ?_ | refine Walk.cRet ?_ | refine Walk.cEnd ?_ | (refine Walk.cReg ?_; simp only [size87_0, size87_1, List.range, List.range.loop]) | (refine Walk.oq ?_; try walk_nrm) | (refine Walk.un ?_; walk_nrm))
    exact Walk.ret1 rfl rfl Try.func87 rfl fun d => ⟨by simp, d, rfl⟩
  · have hg1 : decide (going = 0) = false := by simpa using hg
    have hg2 : (going == 0) = false := by simpa using hg
    (refine Walk.drawnC (by kernel_rfl) size87_1 (by kernel_rfl) (by kernel_rfl) (by decide) ?_; simp only [List.range, List.range.loop]; repeat (first | (refine Cm.opqA (ho_of (by conv => lhs; whnf) (by kernel_rfl)) (by rfl) (fun dd e he => ?_) ?_; (· (simp [go_sem, *] at he; try (subst he; exact evR_read _ _))); apply Exists.intro; apply And.intro; (· (intro dd K hK; go_simp; exact hK))) | (refine Cm.unw (ho_of (by conv => lhs; whnf) (by kernel_rfl)) (by rfl) ?_; walk_nrm)))
    refine Cm.done ?_
    repeat (first | refine Walk.c rfl ?_ | refine Walk.cRet ?_ | refine Walk.cEnd ?_ | (refine Walk.cReg ?_; simp only [size87_0, size87_1, List.range, List.range.loop]) | (refine Walk.oq ?_; try walk_nrm) | (refine Walk.un ?_; walk_nrm))
    exact Walk.ret1 rfl rfl Try.func87 rfl fun d => ⟨by simp [hg], d, rfl⟩
end
section
variable {main : Bool} {V : Nat → Option Wait}
noncomputable def ops107 : Array Oper := match Try.f106.body with | some (.seq (.region _ ops _) _) => ops | _ => #[]
noncomputable def rest107 : Code := match Try.f106.body with | some (.seq _ c) => c | _ => .skip
noncomputable def rec107 (p r : Nat) (cs : List Frame) : Goroutine :=
  G ((base 106).at { tmps := #[.pointer (some ⟨p, 0, none⟩), undef, undef, undef, undef, .pointer (some ⟨p, 0, none⟩), .pointer (some ⟨p, 0, none⟩), .pointer (some ⟨p, 1, none⟩), .chan (some r), undef, undef, undef, undef, undef, undef, undef, undef], defers := [] } [.inRegion ops107 [4, 5, 6, 7, 8, 9, 10], .code rest107]) cs
theorem way107 (p r : Nat) (cs : List Frame) (v : Wait) (hch : v.ch = r) (hz : v.z = .agg #[]) (hok : v.ok = true) (hf : v.f ⟨p, 1, none⟩ = some (.chan (some r))) (hh : v.home (rec107 p r cs)) :
    Yonder Try.prog main v (G (Frame.enter Try.prog 106 #[.pointer (some ⟨p, 0, none⟩)] .normal) cs) := by
  rw [enter_at _ Try.func106 rfl]
  simp only [Try.f106, Option.getD_some, List.size_toArray, List.length_cons, List.length_nil, Nat.reduceAdd, Nat.reduceSub, Array.replicate_succ, Array.replicate_zero, List.push_toArray, List.append_toArray, List.nil_append, List.cons_append]
  iterate 6 (try (first | refine Yonder.c rfl ?_ | refine Yonder.cR ?_ | refine Yonder.cE ?_ | refine Yonder.cT ?_ | (refine Yonder.oq ?_; try walk_nrm)))
  co_applyP Yonder.ld _ hf rfl (by rfl) (by decide) ?krun1 ?kev1 ?krest1; (case krun1 => (intro w hw K hK; have hcx := hw _ _ hf; go_simp; exact hK)); (case kev1 => (intro w hw e he; have hcx := hw _ _ hf; simp [go_sem, *] at he; exact he)); try walk_nrm
  exact Yonder.there rfl (by rfl) (by decide) (fun w => by simp [go_sem, execOp, rcase, Act.eval, hch, hz, hok]) (fun w => by simp [go_sem, execOp, Act.eval]) hh
theorem serve107 (p r : Nat) (c : Frame) (cs : List Frame) (ok e0 : Bool) (w : World) (h2 : w.cell? ⟨p, 2, none⟩ = some (.bool e0)) (hz2 : w.frozen? ⟨p, 2, none⟩ = false) (hfr : Free V ⟨p, 2, none⟩) :
    Walk Try.prog main (DR V) (fun g w' => g = G (c.finish (.tuple #[])) cs ∧ ∃ d, w' = ((w.alloc (.cells #[] 59)).setCell ⟨p, 2, none⟩ (.bool (!ok))).at d) (Go.Conc.served (rec107 p r (c :: cs)) (recvd true (.agg #[]) ok)) w := by
  unfold rec107
  rw [served_fr, Frame.finish_at]
  simp only [ops107, rest107, Try.f106, recvd, if_true]
  walk_nrm
  repeat (first | refine Walk.c rfl ?_ | refine Walk.cR ?_ | refine Walk.cRet ?_ | refine Walk.cEnd ?_ | (refine Walk.oq ?_; try walk_nrm) | (refine Walk.un ?_; walk_nrm))
  (refine Walk.oa ?_; try walk_nrm)
  have h2' := cell_alloc w (.cells #[] 59) h2
  have hz2' := frozen_alloc w (.cells #[] 59) h2 hz2
  repeat (first | refine Walk.c rfl ?_ | refine Walk.cR ?_ | refine Walk.cRet ?_ | refine Walk.cEnd ?_ | (refine Walk.oq ?_; try walk_nrm) | (refine Walk.un ?_; walk_nrm))
  (refine Walk.os hfr h2' ?_; try walk_nrm)
  repeat (first | refine Walk.c rfl ?_ | refine Walk.cR ?_ | refine Walk.cRet ?_ | refine Walk.cEnd ?_ | (refine Walk.oq ?_; try walk_nrm) | (refine Walk.un ?_; walk_nrm))
  exact Walk.ctl rfl (fun w => stepG_leave rfl rfl Try.func106 (results_none rfl _ _ w) (events_results_none rfl _ _)) (.stop fun d => ⟨rfl, d, rfl⟩)
end
section
variable {main : Bool} {V : Nat → Option Wait}
noncomputable def ops82 : Array Oper := match Try.f89.body with | some (.seq (.region _ ops _) _) => ops | _ => #[]
noncomputable def rest82 : Code := match Try.f89.body with | some (.seq _ c) => c | _ => .skip
noncomputable def body82 : Code := match rest82 with | .block _ (.loop c) => c | _ => .skip
noncomputable def ops82w : Array Oper := match body82 with | .seq _ (.block _ (.region _ ops _)) => ops | _ => #[]
noncomputable def rec82 (p t : Nat) (cs : List Frame) : Goroutine :=
  G ((base 89).at { tmps := #[.pointer (some ⟨p, 0, none⟩), undef, .pointer (some ⟨p, 0, none⟩), .pointer (some ⟨p, 0, none⟩), .pointer (some ⟨p, 0, none⟩), .chan (some t), undef, undef, undef, undef, undef, undef, undef], defers := [] } [.inRegion ops82 [4], .code rest82]) cs
noncomputable def rec82a (p t : Nat) (cs : List Frame) : Goroutine :=
  G ((base 89).at { tmps := #[.pointer (some ⟨p, 0, none⟩), undef, .pointer (some ⟨p, 0, none⟩), .pointer (some ⟨p, 0, none⟩), .pointer (some ⟨p, 0, none⟩), .chan (some t), undef, undef, undef, undef, undef, undef, undef], defers := [] } [.inRegion ops82 [], .code rest82]) cs
noncomputable def fr82 (p t : Nat) : Frame :=
  (base 89).at { tmps := #[.pointer (some ⟨p, 0, none⟩), undef, .pointer (some ⟨p, 0, none⟩), .pointer (some ⟨p, 0, none⟩), .pointer (some ⟨p, 0, none⟩), .chan (some t), .pointer (some ⟨p, 0, none⟩), .pointer (some ⟨p, 0, none⟩), .pointer (some ⟨p, 2, none⟩), .bool false, .bool true, .pointer (some ⟨p, 0, none⟩), undef], defers := [] } [.inRegion ops82w [1], .inBlock 1, .inLoop body82, .inBlock 0]
theorem end1_in (p t : Nat) (cs : List Frame) (w : World) (h0 : w.cell? ⟨p, 0, none⟩ = some (.chan (some t))) :
    Walk Try.prog main (DR V) (fun g w' => g = rec82 p t cs ∧ ∃ d, w' = w.at d) (G (Frame.enter Try.prog 89 #[.pointer (some ⟨p, 0, none⟩)] .normal) cs) w := by
  rw [enter_at _ Try.func89 rfl]
  simp only [Try.f89, List.size_toArray, List.length_cons, List.length_nil, Nat.reduceAdd, Nat.reduceSub, Array.replicate_succ, Array.replicate_zero, List.push_toArray, List.append_toArray, List.nil_append, List.cons_append]
  repeat (first | refine Walk.c rfl ?_ | refine Walk.cR ?_ | refine Walk.cRet ?_ | refine Walk.cEnd ?_ | (refine Walk.oq ?_; try walk_nrm) | (refine Walk.un ?_; walk_nrm))
  refine .stop fun d => ⟨?_, d, rfl⟩
  simp only [rec82, ops82, rest82, Try.f89]
theorem close82 (p t : Nat) (cs : List Frame) (w : World) (k : Nat) (hc : w.heap[t]? = some (.chan 0 #[] false k k false)) :
    stepG Try.prog main (rec82 p t cs) w = .go (rec82a p t cs) (w.setChan t 0 #[] true k k false) (closeEvents t) := by
  unfold rec82 rec82a
  simp only [ops82, rest82, Try.f89]
  rw [stepG_close (c := t) (cap := 0) (buf := #[]) (s := k) (r := k) (tm := false) rfl (by rfl) (by decide) rfl rfl hc (by kernel_rfl)]
  rfl
theorem wake82 (p t : Nat) (cs : List Frame) : mayWake Try.prog (rec82 p t cs) = true := by
  unfold rec82
  simp only [ops82, rest82, Try.f89]
  rfl
theorem end1_way (p t r : Nat) (cs : List Frame) (v : Wait) (hch : v.ch = r) (hz : v.z = .agg #[]) (hok : v.ok = true) (hf : v.f ⟨p, 1, none⟩ = some (.chan (some r))) (hf2 : v.f ⟨p, 2, none⟩ = some (.bool false)) (hh : v.home (rec107 p r (fr82 p t :: cs))) :
    Yonder Try.prog main v (rec82a p t cs) := by
  unfold rec82a
  simp only [ops82, rest82, Try.f89]
  iterate 2 (try (first | refine Yonder.c rfl ?_ | refine Yonder.cR ?_ | refine Yonder.cE ?_ | refine Yonder.cT ?_ | (refine Yonder.oq ?_; try walk_nrm)))
  refine Yonder.ctl rfl (fun w => stepG_loop) ?_
  iterate 6 (try (first | refine Yonder.c rfl ?_ | refine Yonder.cR ?_ | refine Yonder.cE ?_ | refine Yonder.cT ?_ | (refine Yonder.oq ?_; try walk_nrm)))
  co_applyP Yonder.ld _ hf2 rfl (by rfl) (by decide) ?krun1 ?kev1 ?krest1; (case krun1 => (intro w hw K hK; have hcx := hw _ _ hf2; go_simp; exact hK)); (case kev1 => (intro w hw e he; have hcx := hw _ _ hf2; simp [go_sem, *] at he; exact he)); try walk_nrm
  iterate 8 (try (first | refine Yonder.c rfl ?_ | refine Yonder.cR ?_ | refine Yonder.cE ?_ | refine Yonder.cT ?_ | (refine Yonder.oq ?_; try walk_nrm)))
  refine Yonder.callE rfl (by rfl) (by decide) rfl Try.func106 (by kernel_rfl) (by rfl) ?_
  walk_nrm
  refine way107 p r _ v hch hz hok hf ?_
  simp only [fr82, ops82w, body82, rest82, Try.f89] at hh
  exact hh
theorem end1_back (p t r : Nat) (c : Frame) (cs : List Frame) (e0 : Bool) (w : World) (h2 : w.cell? ⟨p, 2, none⟩ = some (.bool e0)) (hz2 : w.frozen? ⟨p, 2, none⟩ = false) (hfr : Free V ⟨p, 2, none⟩) :
    Walk Try.prog main (DR V) (fun g w' => g = G (c.finish (.tuple #[])) cs ∧ ∃ d, w' = ((w.alloc (.cells #[] 59)).setCell ⟨p, 2, none⟩ (.bool true)).at d) (Go.Conc.served (rec107 p r (fr82 p t :: c :: cs)) (recvd true (.agg #[]) false)) w := by
  refine (serve107 p r (fr82 p t) (c :: cs) false e0 w h2 hz2 hfr).then ?_
  rintro g w' ⟨rfl, d, rfl⟩
  refine Walk.back ?_ d
  have g2 := World.cell?_setCell_same (w.alloc (.cells #[] 59)) ⟨p, 2, none⟩ (.bool true) (cell_alloc w (.cells #[] 59) h2)
  simp only [Bool.not_false]
  unfold fr82
  rw [Frame.finish_at]
  simp only [ops82w, body82, rest82, Try.f89]
  walk_nrm
  repeat (first | refine Walk.c rfl ?_ | refine Walk.cR ?_ | refine Walk.cRet ?_ | refine Walk.cEnd ?_ | (refine Walk.oq ?_; try walk_nrm) | (refine Walk.un ?_; walk_nrm))
  refine Walk.ctl rfl (fun w => stepG_inLoop) ?_
  repeat (first | refine Walk.c rfl ?_ | refine Walk.cR ?_ | refine Walk.cRet ?_ | refine Walk.cEnd ?_ | (refine Walk.oq ?_; try walk_nrm) | (refine Walk.un ?_; walk_nrm))
  exact Walk.ctl rfl (fun w => stepG_leave rfl rfl Try.func89 (results_none rfl _ _ w) (events_results_none rfl _ _)) (.stop fun d => ⟨rfl, d, rfl⟩)
end
section
variable {main : Bool} {V : Nat → Option Wait}
theorem ride_broke (N : Nat) (F S : Value) (t : TypeId) (v : Value) (ht : t ≠ 168) (c : Frame) (cs : List Frame) (w : World) (x : Bool) (hN : w.cell? ⟨N, 0, none⟩ = some (.bool x)) (hz : w.frozen? ⟨N, 0, none⟩ = false) (hfr : Free V ⟨N, 0, none⟩) :
    Walk Try.prog main (DR V) (fun g w' => g = G (c.finish (.tuple #[.bool false, .bool true])) cs ∧ ∃ d, w' = ((w.alloc (.cells #[] 168)).setCell ⟨N, 0, none⟩ (.bool true)).at d) (G ((fr60 N F S).raise [{ v := .iface t v, recovered := false }]) (c :: cs)) w := by
  obtain ⟨ms, h20⟩ := und20
  have hn1 := fun w => run_neq_iface (P := Try.prog) (w := w) 20 t v h20
  have hn2 := fun w es => ev_neq_iface (P := Try.prog) (w := w) 20 t v es h20
  unfold fr60
  rw [Frame.raise_at]
  simp only [ops60, rest60, todo60, Try.f79, Option.getD_some]
  refine Walk.ctl rfl (fun w => stepG_deferred (d := def60 N) (ds := []) (by simp [Frame.at]) rfl rfl Try.func94 (by kernel_rfl) (by rfl)) ?_
  simp only [def60, List.append_toArray, List.nil_append]
  rw [enter_atD _ Try.func94 rfl]
  simp only [Try.f94, List.size_toArray, List.length_cons, List.length_nil, Nat.reduceAdd, Nat.reduceSub, Array.replicate_succ, Array.replicate_zero, List.push_toArray, List.append_toArray, List.nil_append, List.cons_append]
  repeat (first | refine Walk.c rfl ?_ | refine Walk.cR ?_ | refine Walk.cRet ?_ | refine Walk.cEnd ?_ | (refine Walk.oq ?_; try walk_nrm) | (refine Walk.un ?_; walk_nrm))
  refine Walk.ctl rfl (fun w => stepG_recover rfl (by rfl) rfl rfl rfl) ?_
  walk_nrm
  have h147 := fun w => run_assert_other (P := Try.prog) (w := w) 168 t 20 v (.agg #[]) (u := .struct #[]) (by kernel_rfl) (fun _ h => by cases h) ht (by kernel_rfl)
  have e147 := fun w es => ev_assert_other (P := Try.prog) (w := w) 168 t 20 v es (u := .struct #[]) (by kernel_rfl) (fun _ h => by cases h) ht (by kernel_rfl)
  repeat (first | refine Walk.c rfl ?_ | refine Walk.cR ?_ | refine Walk.cRet ?_ | refine Walk.cEnd ?_ | (refine Walk.oq ?_; try walk_nrm) | (refine Walk.un ?_; walk_nrm))
  (refine Walk.oa ?_; try walk_nrm)
  have ha := cell_alloc w (.cells #[] 168) hN
  have haz := frozen_alloc w (.cells #[] 168) hN hz
  repeat (first | refine Walk.c rfl ?_ | refine Walk.cR ?_ | refine Walk.cRet ?_ | refine Walk.cEnd ?_ | (refine Walk.oq ?_; try walk_nrm) | (refine Walk.un ?_; walk_nrm))
  (refine Walk.os hfr ha ?_; try walk_nrm)
  have hN' := World.cell?_setCell_same (w.alloc (.cells #[] 168)) ⟨N, 0, none⟩ (.bool true) ha
  repeat (first | refine Walk.c rfl ?_ | refine Walk.cR ?_ | refine Walk.cRet ?_ | refine Walk.cEnd ?_ | (refine Walk.oq ?_; try walk_nrm) | (refine Walk.un ?_; walk_nrm))
  refine Walk.ctl rfl (fun w => stepG_leaveRecovered rfl rfl Try.func94 (results_none rfl _ _ w) (events_results_none rfl _ _) rfl) ?_
  exact leave60 rfl rfl rfl rfl rfl rfl hN'
end
section
inductive Role where
  | tB
  | ss
  | ord
  | p (i : Nat)
  | t (i : Nat)
  | r (i : Nat)
  | nn (i : Nat)
structure Stile where
  g0 : Nat
  n : Nat
  B : Nat
  sb : Nat
  scap : Nat
  tb : Nat
  tcap : Nat
  most : Int
  p : Nat → Nat
  t : Nat → Nat
  r : Nat → Nat
  F : Nat → Value
  sa : Option Addr
  sc : Nat
  sl : List Int
structure Dyn where
  k : Nat
  e : Nat → Bool
  f : Nat → Bool
  b : Nat → Bool
  N : Nat → Nat
  cs : Nat → List Frame
  own : Nat → Option Role
  ord : List Nat
  oa : Option Addr
  oc : Nat
  gg : Nat
def going (n : Nat) (f : Nat → Bool) : Nat := (List.range n).countP (fun i => !f i)
def Good (S : Stile) (D : Dyn) : Role → Option Obj → Prop
  | .tB, o => ∃ arr ty fr, o = some (.cells arr ty fr) ∧ arr[0]? = some (.slice (some ⟨S.sb, 0, none⟩) S.n S.scap) ∧ arr[1]? = some (.int .i64 D.gg) ∧ arr[2]? = some (.int .i64 S.most) ∧ arr[3]? = some (.slice D.oa D.ord.length D.oc) ∧ ∀ i, i = 1 ∨ i = 3 → (decide (fr.1 ≤ i) && decide (i < fr.2)) = false
  | .ss, o => ∃ arr ty fr, o = some (.cells arr ty fr) ∧ ∀ i, i < S.n → arr[i]? = some (.pointer (some ⟨S.p i, 0, none⟩))
  | .ord, _ => True
  | .p i, o => o = some (.cells #[.chan (some (S.t i)), .chan (some (S.r i)), .bool (D.f i), .bool (D.b i)] 166)
  | .t i, o => D.e i = false → ∃ k, o = some (.chan 0 #[] false k k false)
  | .r i, o => D.e i = false → ∃ k, o = some (.chan 0 #[] false k k false)
  | .nn i, o => D.e i = false → o = some (.cells #[.bool false] 4)
def Place (S : Stile) (D : Dyn) : Role → Nat → Prop
  | .tB, b => b = S.B
  | .ss, b => b = S.sb
  | .ord, _ => True
  | .p i, b => i < S.n ∧ b = S.p i
  | .t i, b => i < S.n ∧ b = S.t i
  | .r i, b => i < S.n ∧ b = S.r i
  | .nn i, b => i < D.k ∧ b = D.N i
structure Sys (S : Stile) (n0 : Nat) (D : Dyn) (w : World) : Prop where
  good : ∀ b x, D.own b = some x → Good S D x (w.heap[b]?)
  lt : ∀ b x, D.own b = some x → n0 ≤ b ∧ b < w.heap.size
  ids : ∀ b x, D.own b = some x → Place S D x b
  oB : D.own S.B = some .tB
  oS : D.own S.sb = some .ss
  op : ∀ i, i < S.n → D.own (S.p i) = some (.p i)
  ot : ∀ i, i < S.n → D.own (S.t i) = some (.t i)
  or : ∀ i, i < S.n → D.own (S.r i) = some (.r i)
  oN : ∀ i, i < D.k → D.own (D.N i) = some (.nn i)
  oo : ∀ b, (Value.slice D.oa D.ord.length D.oc).ownBlock = some b → D.own b = some .ord
  row : w.ownsRow n0 3 1 (.slice D.oa D.ord.length D.oc) D.ord.length (D.ord.map fun i => .int .i64 (i : Nat))
  n64 : S.n ≤ 64
  kn : D.k ≤ S.n
  hg0 : 1 ≤ S.g0
section
variable {S : Stile} {n0 : Nat} {D D' : Dyn} {w w' : World}
theorem cell_of {w : World} {b : Nat} {arr : Array Value} {ty : TypeId} {fr : Nat × Nat} (h : w.heap[b]? = some (.cells arr ty fr)) (i : Nat) : w.cell? ⟨b, i, none⟩ = arr[i]? := by simp [World.cell?, h]
theorem frozen_of {w : World} {b : Nat} {arr : Array Value} {ty : TypeId} (h : w.heap[b]? = some (.cells arr ty (0, 0))) (i : Nat) : w.frozen? ⟨b, i, none⟩ = false := by simp [World.frozen?, h]
theorem Sys.tB (H : Sys S n0 D w) : w.cell? ⟨S.B, 0, none⟩ = some (.slice (some ⟨S.sb, 0, none⟩) S.n S.scap) ∧ w.cell? ⟨S.B, 1, none⟩ = some (.int .i64 D.gg) ∧ w.cell? ⟨S.B, 2, none⟩ = some (.int .i64 S.most) ∧
    w.cell? ⟨S.B, 3, none⟩ = some (.slice D.oa D.ord.length D.oc) ∧ w.frozen? ⟨S.B, 1, none⟩ = false ∧ w.frozen? ⟨S.B, 3, none⟩ = false := by
  obtain ⟨arr, ty, fr, h, h0, h1, h2, h3, hz⟩ := H.good _ _ H.oB
  exact ⟨(cell_of h 0).trans h0, (cell_of h 1).trans h1, (cell_of h 2).trans h2, (cell_of h 3).trans h3, by simp only [World.frozen?, h]; exact hz 1 (.inl rfl), by simp only [World.frozen?, h]; exact hz 3 (.inr rfl)⟩
theorem Sys.ss (H : Sys S n0 D w) {i : Nat} (hi : i < S.n) : w.cell? ⟨S.sb, i, none⟩ = some (.pointer (some ⟨S.p i, 0, none⟩)) := by
  obtain ⟨arr, ty, fr, h, h0⟩ := H.good _ _ H.oS
  exact (cell_of h i).trans (h0 i hi)
theorem Sys.pp (H : Sys S n0 D w) {i : Nat} (hi : i < S.n) : w.heap[S.p i]? = some (.cells #[.chan (some (S.t i)), .chan (some (S.r i)), .bool (D.f i), .bool (D.b i)] 166) := H.good _ _ (H.op i hi)
theorem Sys.p0 (H : Sys S n0 D w) {i : Nat} (hi : i < S.n) : w.cell? ⟨S.p i, 0, none⟩ = some (.chan (some (S.t i))) := (cell_of (H.pp hi) 0).trans rfl
theorem Sys.p1 (H : Sys S n0 D w) {i : Nat} (hi : i < S.n) : w.cell? ⟨S.p i, 1, none⟩ = some (.chan (some (S.r i))) := (cell_of (H.pp hi) 1).trans rfl
theorem Sys.p2 (H : Sys S n0 D w) {i : Nat} (hi : i < S.n) : w.cell? ⟨S.p i, 2, none⟩ = some (.bool (D.f i)) := (cell_of (H.pp hi) 2).trans rfl
theorem Sys.p3 (H : Sys S n0 D w) {i : Nat} (hi : i < S.n) : w.cell? ⟨S.p i, 3, none⟩ = some (.bool (D.b i)) := (cell_of (H.pp hi) 3).trans rfl
theorem Sys.pz (H : Sys S n0 D w) {i : Nat} (hi : i < S.n) (j : Nat) : w.frozen? ⟨S.p i, j, none⟩ = false := frozen_of (H.pp hi) j
theorem Sys.two (_ : Sys S n0 D w) {b b' : Nat} {x x' : Role} (h : D.own b = some x) (h' : D.own b' = some x') (hx : x ≠ x') : b ≠ b' := by
  rintro rfl
  rw [h] at h'
  exact hx (Option.some.inj h')
theorem row_same {w w' : World} {base : Nat} {e : TypeId} {size : Nat} {v : Value} {n : Nat} {xs : List Value} (h : w.ownsRow base e size v n xs) (hb : ∀ g, v.ownBlock = some g → w'.heap[g]? = w.heap[g]?) : w'.ownsRow base e size v n xs := by
  refine ⟨h.1, ?_⟩
  rcases h.2 with z | ⟨g, cap, cur, rfl, h1, h2, h3⟩
  · exact .inl z
  · exact .inr ⟨g, cap, cur, rfl, h1, (hb g rfl).trans h2, h3⟩
theorem Sys.put (H : Sys S n0 D w) (hown : D'.own = D.own) (hk : D'.k = D.k) (hN : D'.N = D.N) (ho : D'.ord = D.ord) (hoa : D'.oa = D.oa) (hoc : D'.oc = D.oc) (hs : w.heap.size ≤ w'.heap.size)
    (hg : ∀ b x, D.own b = some x → Good S D x (w.heap[b]?) → Good S D' x (w'.heap[b]?)) (hr : ∀ b, D.own b = some .ord → w'.heap[b]? = w.heap[b]?) : Sys S n0 D' w' := by
  refine ⟨fun b x hx => hg b x (hown ▸ hx) (H.good b x (hown ▸ hx)), fun b x hx => ?_, fun b x hx => ?_, hown ▸ H.oB, hown ▸ H.oS, fun i hi => hown ▸ H.op i hi, fun i hi => hown ▸ H.ot i hi, fun i hi => hown ▸ H.or i hi, fun i hi => ?_, fun b hb => ?_, ?_, H.n64, hk ▸ H.kn, H.hg0⟩
  · have := H.lt b x (hown ▸ hx); omega
  · have h := H.ids b x (hown ▸ hx)
    revert h
    cases x <;> simp only [Place, hk, hN, imp_self]
  · rw [hown, hN]; exact H.oN i (hk ▸ hi)
  · rw [hown]; rw [hoa, ho, hoc] at hb; exact H.oo b hb
  · rw [hoa, ho, hoc]
    exact row_same H.row fun g hg' => hr g (H.oo g hg')
theorem Sys.same (H : Sys S n0 D w) (hs : w.heap.size ≤ w'.heap.size) (hb : ∀ b x, D.own b = some x → w'.heap[b]? = w.heap[b]?) : Sys S n0 D w' :=
  H.put rfl rfl rfl rfl rfl rfl hs (fun b x hx h => by rw [hb b x hx]; exact h) fun b hb' => hb b _ hb'
theorem Good.of_same {x : Role} {o : Option Obj} (h : Good S D x o) (hf : ∀ i, x = .p i → D'.f i = D.f i ∧ D'.b i = D.b i) (hB : x = .tB → D'.gg = D.gg ∧ D'.oa = D.oa ∧ D'.ord.length = D.ord.length ∧ D'.oc = D.oc) (he : ∀ i, x = .t i ∨ x = .r i ∨ x = .nn i → D'.e i = false → D.e i = false) : Good S D' x o := by
  cases x with
  | tB => obtain ⟨h1, h2, h3, h4⟩ := hB rfl; simpa only [Good, h1, h2, h3, h4] using h
  | ss => exact h
  | ord => trivial
  | p i => obtain ⟨h1, h2⟩ := hf i rfl; simpa only [Good, h1, h2] using h
  | t i => exact fun z => h (he i (.inl rfl) z)
  | r i => exact fun z => h (he i (.inr (.inl rfl)) z)
  | nn i => exact fun z => h (he i (.inr (.inr rfl)) z)
theorem Sys.chan (H : Sys S n0 D w) {c k k' : Nat} (hc : w.heap[c]? = some (.chan 0 #[] false k k false)) (hcr : ∃ i, D.own c = some (.t i) ∨ D.own c = some (.r i)) : Sys S n0 D (w.setChan c 0 #[] false k' k' false) := by
  have hsz : (w.setChan c 0 #[] false k' k' false).heap.size = w.heap.size := by simp [World.setChan]
  refine H.put rfl rfl rfl rfl rfl rfl (Nat.le_of_eq hsz.symm) (fun b x hx h => ?_) fun b hb => ?_
  · by_cases e : c = b
    · subst e
      rw [heap_setChan_self w hc]
      obtain ⟨i, z | z⟩ := hcr <;> (rw [hx] at z; cases z; exact fun _ => ⟨k', rfl⟩)
    · rw [heap_setChan_ne w _ _ _ _ _ _ e]; exact h
  · refine heap_setChan_ne w _ _ _ _ _ _ fun e => ?_
    subst e
    obtain ⟨i, z | z⟩ := hcr <;> (rw [hb] at z; cases z)
theorem Sys.shut (H : Sys S n0 D w) {j c k : Nat} (he : D.e j = true) (hcr : D.own c = some (.t j) ∨ D.own c = some (.r j)) : Sys S n0 D (w.setChan c 0 #[] true k k false) := by
  have hsz : (w.setChan c 0 #[] true k k false).heap.size = w.heap.size := by simp [World.setChan]
  refine H.put rfl rfl rfl rfl rfl rfl (Nat.le_of_eq hsz.symm) (fun b x hx h => ?_) fun b hb => ?_
  · by_cases e : c = b
    · subst e
      rcases hcr with z | z <;> (rw [hx] at z; cases z; exact fun z => by rw [he] at z; cases z)
    · rw [heap_setChan_ne w _ _ _ _ _ _ e]; exact h
  · refine heap_setChan_ne w _ _ _ _ _ _ fun e => ?_
    subst e
    rcases hcr with z | z <;> (rw [hb] at z; cases z)
theorem Sys.at (H : Sys S n0 D w) (d : Nat) : Sys S n0 D (w.at d) := H.same (Nat.le_refl _) fun _ _ _ => rfl
theorem heap_set_other (w : World) (a : Addr) (k : Nat) (v : Value) (h : k ≠ a.block) : (w.setCell a v).heap[k]? = w.heap[k]? := by
  simp only [World.setCell]
  rw [Array.getElem?_modify, if_neg (Ne.symm h)]
theorem heap_set_self (w : World) {b i : Nat} {arr : Array Value} {ty : TypeId} {fr : Nat × Nat} (v : Value) (h : w.heap[b]? = some (.cells arr ty fr)) : (w.setCell ⟨b, i, none⟩ v).heap[b]? = some (.cells (arr.setIfInBounds i v) ty fr) := by
  simp only [World.setCell]
  rw [Array.getElem?_modify, if_pos rfl, h]
  rfl
theorem size_set (w : World) (a : Addr) (v : Value) : (w.setCell a v).heap.size = w.heap.size := by simp [World.setCell]
theorem heap_new_lt (w : World) (o : Obj) {b : Nat} (h : b < w.heap.size) : (w.alloc o).heap[b]? = w.heap[b]? := by
  simp only [World.alloc]
  rw [Array.getElem?_push, if_neg (by omega)]
theorem Sys.hire (H : Sys S n0 D w) (hk : D.k < S.n) : Sys S n0 { D with k := D.k + 1, N := upd D.N D.k w.heap.size, own := upd D.own w.heap.size (some (.nn D.k)) } (w.alloc (.cells #[.bool false] 4)) := by
  have hsz : (w.alloc (.cells #[.bool false] 4)).heap.size = w.heap.size + 1 := by simp
  have hfresh : ∀ b x, D.own b = some x → b ≠ w.heap.size := fun b x hx => by have := (H.lt b x hx).2; omega
  have hold : ∀ b x, D.own b = some x → upd D.own w.heap.size (some (.nn D.k)) b = some x := fun b x hx => by rw [upd_ne _ _ (hfresh b x hx)]; exact hx
  have hnew : ∀ b x, upd D.own w.heap.size (some (.nn D.k)) b = some x → (b = w.heap.size ∧ x = .nn D.k) ∨ (b ≠ w.heap.size ∧ D.own b = some x) := fun b x hx => by
    by_cases e : b = w.heap.size
    · subst e; rw [upd_same] at hx; exact .inl ⟨rfl, (Option.some.inj hx).symm⟩
    · rw [upd_ne _ _ e] at hx; exact .inr ⟨e, hx⟩
  have hn0 : n0 ≤ w.heap.size := Nat.le_of_lt (Nat.lt_of_le_of_lt (H.lt _ _ H.oB).1 (H.lt _ _ H.oB).2)
  refine ⟨fun b x hx => ?_, fun b x hx => ?_, fun b x hx => ?_, hold _ _ H.oB, hold _ _ H.oS, fun i hi => hold _ _ (H.op i hi), fun i hi => hold _ _ (H.ot i hi), fun i hi => hold _ _ (H.or i hi), fun i hi => ?_, fun b e => hold _ _ (H.oo b e), row_same H.row fun g hg => heap_new_lt w _ (H.lt g _ (H.oo g hg)).2, H.n64, hk, H.hg0⟩
  · rcases hnew b x hx with ⟨rfl, rfl⟩ | ⟨hne, hx⟩
    · exact fun _ => heap_alloc_new w _
    · rw [heap_new_lt w _ (H.lt b x hx).2]
      have h := H.good b x hx
      cases x <;> exact h
  · rcases hnew b x hx with ⟨rfl, rfl⟩ | ⟨hne, hx⟩
    · omega
    · have := H.lt b x hx; omega
  · rcases hnew b x hx with ⟨rfl, rfl⟩ | ⟨hne, hx⟩
    · exact ⟨Nat.lt_succ_self _, (upd_same _ _ _).symm⟩
    · have h := H.ids b x hx
      cases x with
      | nn i =>
        have h1 : i < D.k := h.1
        exact ⟨Nat.lt_succ_of_lt h1, h.2.trans (upd_ne _ _ (by omega)).symm⟩
      | _ => exact h
  · by_cases e : i = D.k
    · subst e; simp only [upd_same]
    · simp only [upd_ne _ _ e]
      exact hold _ _ (H.oN i (by simp only at hi; omega))
theorem Sys.alloc (H : Sys S n0 D w) (o : Obj) : Sys S n0 D (w.alloc o) := H.same (by simp) fun b x hx => heap_new_lt w o (H.lt b x hx).2
theorem Sys.brk (H : Sys S n0 D w) {j : Nat} (hj : j < S.n) (x : Bool) : Sys S n0 { D with b := upd D.b j x } (w.setCell ⟨S.p j, 3, none⟩ (.bool x)) := by
  refine H.put rfl rfl rfl rfl rfl rfl (Nat.le_of_eq (size_set ..).symm) (fun b y hy h => ?_) fun b hb => ?_
  · by_cases e : b = S.p j
    · subst e
      rw [H.op j hj] at hy
      cases hy
      rw [heap_set_self w _ (H.pp hj)]
      simp [Good, upd_same]
    · rw [heap_set_other w _ b _ e]
      refine h.of_same (fun i hi => ⟨rfl, upd_ne _ _ fun ei => e ?_⟩) (fun _ => ⟨rfl, rfl, rfl, rfl⟩) fun i _ z => z
      subst hi; subst ei; exact (H.ids b _ hy).2
  · exact heap_set_other w _ b _ (H.two hb (H.op j hj) (by simp))
theorem Sys.ride (H : Sys S n0 D w) {j : Nat} (hj : j < D.k) (v : Value) : Sys S n0 { D with e := upd D.e j true } (w.setCell ⟨D.N j, 0, none⟩ v) := by
  refine H.put rfl rfl rfl rfl rfl rfl (Nat.le_of_eq (size_set ..).symm) (fun b y hy h => ?_) fun b hb => heap_set_other w _ b _ (H.two hb (H.oN j hj) (by simp))
  by_cases e : b = D.N j
  · subst e
    rw [H.oN j hj] at hy
    cases hy
    exact fun z => by simp only [upd_same] at z; cases z
  · rw [heap_set_other w _ b _ e]
    refine h.of_same (fun i _ => ⟨rfl, rfl⟩) (fun _ => ⟨rfl, rfl, rfl, rfl⟩) fun i _ z => ?_
    by_cases ei : i = j
    · subst ei; simp only [upd_same] at z; cases z
    · simpa only [upd_ne _ _ ei] using z
end
end
end Go.Proofs.Ytmfkjceeeffamaa
