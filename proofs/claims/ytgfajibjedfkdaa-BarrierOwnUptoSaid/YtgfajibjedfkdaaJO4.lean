/- Part 4. -/
import Derived.Test.YtgfajibjedfkdaaJO2
import Derived.Test.YtgfajibjedfkdaaJO3
import Derived.Conc.AppendWalk
import Derived.Conc.AppendEvents2
import Derived.Deep.AppendLies
import Derived.Conc.SmallLaws
set_option linter.unusedSimpArgs false
set_option linter.unusedVariables false
set_option maxHeartbeats 8000000
set_option maxRecDepth 100000
namespace Go.Relay
section
open Go.Conc Go.RowKit
section
variable {P : Program} {main : Bool} {v : Wait} {g : Goroutine}
def Yonder (P : Program) (main : Bool) (v : Wait) (g : Goroutine) : Prop := ∃ B k, ∀ w, Goes P main (RK v.K) (DS v.S B) (fun g _ => ∃ g₂, AtIn P main v.K v.S B v.seat g g₂) k g w
theorem ds_mono {S : Loc → Prop} {B B' : Nat} (hB : B ≤ B') (w w' : World) (es : Array Event) (h : DS S B w w' es) : DS S B' w w' es := ⟨h.1, fun e he => evC_mono hB (h.2 e he)⟩
theorem Yonder.step (hr : g.status = .running) (h : ∃ g' B', Yonder P main v g' ∧ ∀ w, v.K w → ∃ es, stepG P main g w = .go g' w es ∧ ∀ e ∈ es, EvC v.S B' e) : Yonder P main v g := by
  obtain ⟨g', B', ⟨B, k, hW⟩, hs⟩ := h
  refine ⟨max B B', k + 1, fun w => Goes.step hr fun w₁ h₁ => ?_⟩
  obtain ⟨es, he, hes⟩ := hs w₁ h₁
  rw [he, goes_go]
  exact ⟨⟨rfl, fun e hm => evC_mono (Nat.le_max_right _ _) (hes e hm)⟩, goes_mono (ds_mono (Nat.le_max_left _ _)) (fun _ _ ⟨g₂, h⟩ => ⟨g₂, atIn_mono (Nat.le_max_left _ _) h⟩) (hW w₁)⟩
theorem Yonder.ctl {g' : Goroutine} (hr : g.status = .running) (hs : ∀ w, stepG P main g w = .go g' w) (h : Yonder P main v g') : Yonder P main v g :=
  .step hr ⟨g', 0, h, fun w _ => ⟨#[], hs w, by simp⟩⟩
variable {b : Frame} {a : Act} {k : List Item} {cs : List Frame} {ops : Array Oper} {i : Nat} {rest : List Nat} {o : Oper}
theorem Yonder.op {x : Value} {B : Nat} (ho : ops[i]? = some o) (hw : Region.wanted o (yielded ops a.tmps) = true) (hk : b.kind ≠ .early)
    (hr : ∀ w, v.K w → ∀ K : Result Next → Prop, K (.ok (.value x) w) → K ((execOp a.eval o).run P w)) (he : ∀ w, v.K w → ∀ e ∈ (execOp a.eval o).events P w #[], EvC v.S B e) (h : Yonder P main v (G (b.at (a.put o.dst x) (.inRegion ops rest :: k)) cs)) :
    Yonder P main v (G (b.at a (.inRegion ops (i :: rest) :: k)) cs) :=
  .step rfl ⟨_, B, h, fun w hK => ⟨_, stepG_value ho hw hk (run_eq_of (hr w hK)), fun e hm => he w hK e (mem_listed hm)⟩⟩
theorem Yonder.opq {x : Value} (ho : ops[i]? = some o) (hw : Region.wanted o (yielded ops a.tmps) = true) (hk : b.kind ≠ .early)
    (hr : ∀ w, v.K w → ∀ K : Result Next → Prop, K (.ok (.value x) w) → K ((execOp a.eval o).run P w)) (he : ∀ w, v.K w → ∀ e ∈ (execOp a.eval o).events P w #[], False) (h : Yonder P main v (G (b.at (a.put o.dst x) (.inRegion ops rest :: k)) cs)) :
    Yonder P main v (G (b.at a (.inRegion ops (i :: rest) :: k)) cs) := Yonder.op (B := 0) ho hw hk hr (fun w hK e he' => (he w hK e he').elim) h
theorem Yonder.oq {x : Value} (h : Yonder P main v (G (b.at (a.put o.dst x) (.inRegion ops rest :: k)) cs)) (ho : ops[i]? = some o := by rfl) (hw : Region.wanted o (yielded ops a.tmps) = true := by rfl) (hk : b.kind ≠ .early := by decide)
    (hr : ∀ w, v.K w → ∀ K : Result Next → Prop, K (.ok (.value x) w) → K ((execOp a.eval o).run P w) := by intro w hw K hK; go_simp; exact hK) (he : ∀ w, v.K w → ∀ e ∈ (execOp a.eval o).events P w #[], False := by intro w hw e he; simp [go_sem, *] at he; done) : Yonder P main v (G (b.at a (.inRegion ops (i :: rest) :: k)) cs) := Yonder.opq ho hw hk hr he h
theorem Yonder.c {k' : List Item} (h : ctlNext a k = some k') (hw : Yonder P main v (G (b.at a k') cs)) : Yonder P main v (G (b.at a k) cs) := Yonder.ctl rfl (fun _ => ctl_next h) hw
theorem Yonder.ld {x y : Value} (c : Addr) (hc : v.f c = some y) (ho : ops[i]? = some o) (hw : Region.wanted o (yielded ops a.tmps) = true) (hk : b.kind ≠ .early)
    (hr : ∀ w, v.K w → ∀ K : Result Next → Prop, K (.ok (.value x) w) → K ((execOp a.eval o).run P w)) (he : ∀ w, v.K w → ∀ e ∈ (execOp a.eval o).events P w #[], e = ⟨.cell c, false, false⟩) (h : Yonder P main v (G (b.at (a.put o.dst x) (.inRegion ops rest :: k)) cs)) :
    Yonder P main v (G (b.at a (.inRegion ops (i :: rest) :: k)) cs) := Yonder.op (B := c.block + 1) ho hw hk hr (fun w hK e he' => ⟨c, he w hK e he', ⟨c, y, rfl, hc⟩, Nat.lt_succ_self _⟩) h
theorem Yonder.call {f : FuncId} {fn : Func} {c : Code} {args : Array Operand} {ats : Array TypeId} (ho : ops[i]? = some o) (hw : Region.wanted o (yielded ops a.tmps) = true) (hk : b.kind ≠ .early) (hop : o.op = .call { callee := .value (.func f), args, argTypes := ats })
    (hf : P.funcs[f]? = some fn) (hname : (fn.name == "runtime.NumGoroutine") = false) (hb : fn.body = some c)
    (h : Yonder P main v (G ((base f).at { tmps := args.map a.eval ++ Array.replicate (fn.ntmps - (args.map a.eval).size) undef, defers := [] } [.code c]) (b.at a (.inRegion ops (i :: rest) :: k) :: cs))) :
    Yonder P main v (G (b.at a (.inRegion ops (i :: rest) :: k)) cs) := by
  refine .ctl rfl (fun w => ?_) h
  have hb' : fn.body.isNone = false := by rw [hb]; rfl
  rw [stepG_enter ho hw hk (run_call_body hop hf hname hb'), enter_at _ hf hb]
  have : listed P b.fn a o w = #[] := by unfold listed; rw [events_call_body hop hf hname hb']; exact seen_none P _
  rw [this]
end
end
section
open Go.Conc Go.RowKit
def Apart (V : Nat → Option Wait) (g : Nat) : Prop := (∀ a : Addr, a.block = g → Free V a) ∧ ∀ i u, V i = some u → u.ch ≠ g
section
variable {P : Program} {main : Bool} {V : Nat → Option Wait} {Stop : Goroutine → World → Prop} {w : World} {b : Frame} {a : Act} {k : List Item} {cs : List Frame} {ops : Array Oper} {i : Nat} {rest : List Nat} {o : Oper}
theorem evR_isRead {e : Event} (h : e.isRead) : EvR V e := by
  obtain ⟨ad, hl, hw⟩ := h
  obtain ⟨l, wr, s⟩ := e
  simp only at hl hw
  subst hl; subst hw
  exact evR_read ad s
theorem evR_cell {e : Event} {ad : Addr} (h : e.loc = .cell ad) (hf : Free V ad) : EvR V e := by
  obtain ⟨l, wr, s⟩ := e
  simp only at h
  subst h
  cases wr with
  | true => exact evR_write ad s hf
  | false => exact evR_read ad s
theorem evR_noRoom : EvR V ⟨.mark .noRoom, false, true⟩ := ⟨fun x hx => (by simp [MemAct.ofEvent, MemAct.touch?] at hx), by simp, by simp⟩
theorem DR.grown {w w' : World} {es : Array Event} {row : Option Nat} (hg : w.grownBy w' row) (hr : ∀ g, row = some g → Apart V g) (he : ∀ e ∈ es, EvR V e) : DR V w w' es := by
  refine ⟨fun i v e hK ad z hz => ?_, fun i v o e ho _ => ?_, he, ⟨hg.os, hg.output⟩⟩
  · have hc := hK ad z hz
    have hlt := cell_lt w hc
    rw [World.cell?_of_block (hg.block _ hlt fun e' => ?_)]
    · exact hc
    · rw [(hr _ e'.symm).1 ad rfl i v e] at hz; cases hz
  · rw [hg.block _ (Array.getElem?_eq_some_iff.1 ho).1 fun e' => (hr _ e'.symm).2 i v e rfl]
    exact ho
theorem Walk.append (s x : Operand) (t : TypeId) (ho : ops[i]? = some o) (hw : Region.wanted o (yielded ops a.tmps) = true) (hk : b.kind ≠ .early) (hop : o.op = .call { callee := .builtin .append, args := #[s, x], argTypes := #[t, t] })
    (base : Nat) (e : TypeId) (ti : TypeInfo) (z : Value) (size bytes : Nat) (ht : P.underlying t = some (.slice e)) (hi : P.info? e = some ti) (hz : ti.zero = some z) (hsize : ti.size = size) (hby : ti.bytes = bytes) (hzs : z.cells.size = size) (hsz : 0 < size)
    (v : Value) (n : Nat) (xs : List Value) (hs : a.eval s = v) (hown : w.ownsRow base e size v n xs)
    (ad : Addr) (m c : Nat) (news : List Value) (hx : a.eval x = .slice (some ad) m c) (hl : news.length = m * size) (hnews : ∀ j u, news[j]? = some u → w.cell? (ad.add j) = some u) (h1 : ∀ u ∈ news, u.oneCell' = true)
    (hm : 0 < m) (h63 : n + m ≤ maxLen) (hbytes : (n + m) * bytes ≤ 140737488355328) (hbase : base ≤ w.heap.size) (hap : ∀ g, v.ownBlock = some g → Apart V g)
    (h : ∀ g cap w', w'.ownsRow base e size (.slice (some ⟨g, 0, none⟩) (n + m) cap) (n + m) (xs ++ news) → w.grownBy w' v.ownBlock → (v.ownBlock = some g ∨ g = w.heap.size) → g < w'.heap.size →
      Walk P main (DR V) Stop (G (b.at (a.put o.dst (.slice (some ⟨g, 0, none⟩) (n + m) cap)) (.inRegion ops rest :: k)) cs) w') :
    Walk P main (DR V) Stop (G (b.at a (.inRegion ops (i :: rest) :: k)) cs) w := by
  refine Walk.go rfl fun d => goes_oper_k ho hw hk fun K hK => ?_
  obtain ⟨g, cap, w', hr, hown', hg, hat, hlt⟩ := run_append_lies (P := P) (w := w.at d) t o.type base e ti z size bytes ht hi hz hsize hby hzs hsz v n xs hown ad m c news hl hnews h1 hm h63 hbytes hbase w.heap.size rfl
  refine uponK_append s x t hop hs hx hr (hK _ _ ⟨DR.grown hg hap fun ev hev => ?_, h g cap w' hown' ⟨hg.os, hg.tape, hg.output, hg.size, hg.block⟩ hat hlt⟩)
  have hm' := mem_listed hev
  rw [events_append_op s x t hop hs hx] at hm'
  rcases events_append_own (w.at d) base t o.type e ti z size bytes ht hi hz hsize hby v n xs hown ad m c news hl hnews h1 h63 hbytes ev hm' with h' | ⟨ad', h', hb⟩ | ⟨mk, h', hn⟩
  · exact evR_isRead h'
  · exact evR_cell h' ((hap _ hb.symm).1 ad' rfl)
  · rw [h', show mk = .noRoom from hn]; exact evR_noRoom
end
end
section
open Go.Conc Go.RowKit
section
variable {P : Program} {main : Bool} {V : Nat → Option Wait} {Stop : Goroutine → World → Prop} {w : World} {b : Frame} {a : Act} {k : List Item} {cs : List Frame} {ops : Array Oper} {i : Nat} {rest : List Nat} {o : Oper}
theorem Walk.chan (t : TypeId) (n : Operand) (ho : ops[i]? = some o) (hw : Region.wanted o (yielded ops a.tmps) = true) (hk : b.kind ≠ .early) (hop : o.op = .makeChan t n)
    (dir : ChanDir) (e : TypeId) (ti : TypeInfo) (ht : P.underlying t = some (.chan dir e)) (hi : P.info? e = some ti) (hn : a.eval n = .int .i64 0)
    (h : Walk P main (DR V) Stop (G (b.at (a.put o.dst (.chan (some w.heap.size))) (.inRegion ops rest :: k)) cs) (w.alloc (.chan 0 #[] false 0 0 false))) :
    Walk P main (DR V) Stop (G (b.at a (.inRegion ops (i :: rest) :: k)) cs) w := by
  refine Walk.go rfl fun d => goes_oper_k ho hw hk fun K hK => ?_
  have hr := run_makeChan (P := P) (w := w.at d) ht hi .i64 0 (by decide) (by simp)
  have he := events_makeChan (P := P) (w := w.at d) ht hi .i64 0 (by decide) (by simp) #[]
  simp only [Int.ofNat_zero, Int.natCast_zero, Int.cast_ofNat_Int] at hr he
  have hx : (execOp a.eval o).run P (w.at d) = .ok (.value (.chan (some w.heap.size))) ((w.alloc (.chan 0 #[] false 0 0 false)).at d) := by
    simp only [execOp, hop, hn, Sem.run_bind, hr]
    rfl
  have hv : (execOp a.eval o).events P (w.at d) #[] = #[] := by
    simp only [execOp, hop, hn, Sem.events_bind, hr, he]
    rfl
  rw [hx]
  refine hK _ _ ⟨DR.alloc' d _ fun ev hm => ?_, h.back d⟩
  have hm' := mem_listed hm
  rw [hv] at hm'
  exact absurd hm' (by simp)
theorem Walk.drawn {id : Nat} (hm : P.follows .mixedOrders = true) (hk : b.kind ≠ .early) {Q : Act → World → Prop}
    (h : ∀ d, AnyCH P AtRel (DR V) b.fn .any ops (fun e a' w' => e = .normal ∧ Q a' w') (fun _ => True) ops.size (Array.replicate ops.size false) a (w.at d))
    (hc : ∀ a' w', Q a' w' → Walk P main (DR V) Stop (G (b.at a' k) cs) w') : Walk P main (DR V) Stop (G (b.at a (.code (.region id ops true) :: k)) cs) w :=
  Walk.code (n := ops.size + 1 + 1) (Q := Q) (wpC_region_held termsR drawsR hm fun _ hr => by obtain ⟨d, rfl⟩ := hr; exact h (d + 1)) hk hc
end
end
section
open Go.Conc Go.RowKit
section
variable (P : Program) (main : Bool) (V : Nat → Option Wait) (Stop : Goroutine → World → Prop) (b : Frame) (k : List Item) (cs : List Frame) (ops : Array Oper)
def OpW (i : Nat) (K : Act → World → Prop) (a : Act) (w : World) : Prop :=
  ∀ rest, (∀ a' w', K a' w' → Walk P main (DR V) Stop (G (b.at a' (.inRegion ops rest :: k)) cs) w') → Walk P main (DR V) Stop (G (b.at a (.inRegion ops (i :: rest) :: k)) cs) w
def AnyW (md : Region.Mode) (Q : Act → World → Prop) : Nat → Array Bool → Act → World → Prop
  | 0, listed, a, w => Region.ready md ops listed = [] ∧ Q a w
  | fuel + 1, listed, a, w => (Region.ready md ops listed = [] → Q a w) ∧ ∀ i ∈ Region.ready md ops listed, OpW P main V Stop b k cs ops i (fun a' w' => AnyW md Q fuel (listed.setIfInBounds i true) a' w') a w
end
section
variable {P : Program} {main : Bool} {V : Nat → Option Wait} {Stop : Goroutine → World → Prop} {b : Frame} {k : List Item} {cs : List Frame} {ops : Array Oper} {md : Region.Mode} {Q : Act → World → Prop}
theorem anyW_sound (hc : ∀ a w, Q a w → Walk P main (DR V) Stop (G (b.at a (.inRegion ops [] :: k)) cs) w) : ∀ (fuel t : Nat) (listed : Array Bool) (a : Act) (w : World), AnyW P main V Stop b k cs ops md Q fuel listed a w →
    Walk P main (DR V) Stop (G (b.at a (.inRegion ops (Region.linearise.go md ops fuel t listed []) :: k)) cs) w := by
  intro fuel
  induction fuel with
  | zero => intro t listed a w h; exact hc _ _ h.2
  | succ fuel ih =>
    intro t listed a w h
    obtain ⟨h₀, h₁⟩ := h
    simp only [Region.linearise.go]
    change Walk P main (DR V) Stop (G (b.at a (.inRegion ops (match (Region.ready md ops listed)[t % (Region.ready md ops listed).length]? with
      | some i => Region.linearise.go md ops fuel (t / (Region.ready md ops listed).length) (listed.setIfInBounds i true) [i]
      | none => [].reverse) :: k)) cs) w
    cases hi : (Region.ready md ops listed)[t % (Region.ready md ops listed).length]? with
    | none =>
      have hnil : Region.ready md ops listed = [] := by
        cases hr : Region.ready md ops listed with
        | nil => rfl
        | cons x xs =>
          rw [hr] at hi
          have hlt : t % (x :: xs).length < (x :: xs).length := Nat.mod_lt _ (by simp)
          simp at hi
          simp at hlt
          omega
      exact hc _ _ (h₀ hnil)
    | some i =>
      simp only []
      rw [linearise_go_acc, List.reverse_singleton, List.singleton_append]
      exact h₁ i (List.mem_of_getElem? hi) _ fun a' w' x => ih _ _ a' w' x
theorem Walk.drawnW {id : Nat} {a : Act} {w : World} (hm : P.follows .mixedOrders = true)
    (h : ∀ d, AnyW P main V Stop b k cs ops .any Q ops.size (Array.replicate ops.size false) a (w.at d))
    (hc : ∀ a' w', Q a' w' → Walk P main (DR V) Stop (G (b.at a' (.inRegion ops [] :: k)) cs) w') : Walk P main (DR V) Stop (G (b.at a (.code (.region id ops true) :: k)) cs) w := by
  refine Walk.step rfl (fun d => G (b.at a (.inRegion ops (Region.linearise .any ops (w.tape d (.order b.fn id))) :: k)) cs) (fun d => w.at (d + 1)) (fun _ => #[]) (fun d => ?_) (fun d => drawsR _) (fun d => anyW_sound hc ops.size _ _ a _ (h (d + 1)))
  rw [stepG_region_draw]
  simp only [Region.schedule, hm, Bool.true_or, if_true]
  rfl
end
end
section
open Go.Conc Go.RowKit
open Go.ConcN (upd upd_ne upd_same)
def lowB (ops : Array Oper) : Bool := (List.range ops.size).all fun i => (ops[i]?).any fun o => o.after.all fun e => decide (e.on < i)
def upTo (L : Array Bool) : Nat → Bool := fun j => L.getD j false
def leftOf (n : Nat) (f : Nat → Bool) : Nat := (List.range n).countP (fun i => !f i)
theorem leftOf_pos {n : Nat} {f : Nat → Bool} {i : Nat} (hi : i < n) (h : f i = false) : 1 ≤ leftOf n f := List.countP_pos_iff.2 ⟨i, by simpa using hi, by simp [h]⟩
theorem leftOf_set {n : Nat} {f : Nat → Bool} {i : Nat} (hi : i < n) (h : f i = false) : leftOf n (upd f i true) = leftOf n f - 1 := by
  unfold leftOf
  induction n with
  | zero => omega
  | succ n ih =>
    rw [List.range_succ, List.countP_append, List.countP_append]
    by_cases e : i = n
    · subst e
      have : (List.range i).countP (fun j => !upd f i true j) = (List.range i).countP (fun j => !f j) := List.countP_congr fun j hj => by
        have : j ≠ i := by have := List.mem_range.1 hj; omega
        simp [upd_ne _ _ this]
      rw [this]
      simp [upd_same, h]
    · have hp := leftOf_pos (n := n) (by omega) h
      unfold leftOf at hp
      have := ih (by omega)
      rw [this]
      simp only [List.countP_singleton, upd_ne _ _ (Ne.symm e)]
      omega
theorem upTo_set {L : Array Bool} {i : Nat} (hi : i < L.size) : upTo (L.setIfInBounds i true) = upd (upTo L) i true := by
  funext j
  unfold upTo
  by_cases e : j = i
  · subst e
    rw [upd_same, Array.getD_eq_getD_getElem?, Array.getElem?_setIfInBounds_self_of_lt hi]; rfl
  · rw [upd_ne _ _ e, Array.getD_eq_getD_getElem?, Array.getElem?_setIfInBounds_ne (Ne.symm e), ← Array.getD_eq_getD_getElem?]
theorem upTo_in {L : Array Bool} {i : Nat} (hi : i < L.size) : L.getD i true = upTo L i := by
  unfold upTo
  rw [Array.getD_eq_getD_getElem?, Array.getD_eq_getD_getElem?, Array.getElem?_eq_getElem hi]; rfl
section
variable {P : Program} {main : Bool} {V : Nat → Option Wait} {Stop : Goroutine → World → Prop} {b : Frame} {k : List Item} {cs : List Frame} {ops : Array Oper} {Q : Act → World → Prop}
theorem OpW.mono {i : Nat} {K K' : Act → World → Prop} {a : Act} {w : World} (h : OpW P main V Stop b k cs ops i K a w) (hK : ∀ a w, K a w → K' a w) : OpW P main V Stop b k cs ops i K' a w :=
  fun rest hr => h rest fun a' w' x => hr a' w' (hK a' w' x)
theorem all_up (hlow : lowB ops = true) {L : Array Bool} (hL : L.size = ops.size) (hr : Region.ready .any ops L = []) : ∀ i, i < ops.size → upTo L i = true := by
  intro i
  induction i using Nat.strongRecOn with
  | _ i ih =>
    intro hi
    refine Classical.byContradiction fun hne => ?_
    have hf : upTo L i = false := by simpa using hne
    have hm : i ∈ Region.ready .any ops L := mem_ready.2 ⟨by rw [upTo_in (by omega)]; exact hf, ops[i], Array.getElem?_eq_getElem hi, fun e he _ => ih e.on ?_ ?_⟩
    · rw [hr] at hm; cases hm
    · have := List.all_eq_true.1 hlow i (List.mem_range.2 hi)
      rw [Array.getElem?_eq_getElem hi] at this
      simp only [Option.any_some] at this
      have := (Array.all_eq_true_iff_forall_mem.1 this) e he
      simpa using this
    · have := List.all_eq_true.1 hlow i (List.mem_range.2 hi)
      rw [Array.getElem?_eq_getElem hi] at this
      simp only [Option.any_some] at this
      have := (Array.all_eq_true_iff_forall_mem.1 this) e he
      have : e.on < i := by simpa using this
      omega
def Closed (ops : Array Oper) (f : Nat → Bool) : Prop := ∀ j o, ops[j]? = some o → f j = true → ∀ e ∈ o.after, Region.binds .any e = true → f e.on = true
theorem anyW_inv {Inv : (Nat → Bool) → Act → World → Prop} (hlow : lowB ops = true)
    (hop : ∀ f i o a w, Inv f a w → Closed ops f → f i = false → ops[i]? = some o → (∀ e ∈ o.after, Region.binds .any e = true → f e.on = true) → OpW P main V Stop b k cs ops i (fun a' w' => Inv (upd f i true) a' w') a w)
    (hend : ∀ f a w, Inv f a w → (∀ i, i < ops.size → f i = true) → Q a w) :
    ∀ (fuel : Nat) (L : Array Bool) (a : Act) (w : World), L.size = ops.size → Inv (upTo L) a w → Closed ops (upTo L) → leftOf ops.size (upTo L) ≤ fuel → AnyW P main V Stop b k cs ops .any Q fuel L a w := by
  intro fuel
  induction fuel with
  | zero =>
    intro L a w hL hI _ hf
    have hall : ∀ i, i < ops.size → upTo L i = true := fun i hi => by
      refine Classical.byContradiction fun hne => ?_
      have := leftOf_pos hi (f := upTo L) (by simpa using hne)
      omega
    have hr : Region.ready .any ops L = [] := List.eq_nil_iff_forall_not_mem.2 fun i hm => by
      obtain ⟨h0, o, ho, _⟩ := mem_ready.1 hm
      have hi : i < ops.size := (Array.getElem?_eq_some_iff.1 ho).1
      rw [upTo_in (by omega), hall i hi] at h0
      cases h0
    exact ⟨hr, hend _ a w hI hall⟩
  | succ fuel ih =>
    intro L a w hL hI hC hf
    refine ⟨fun hr => hend _ a w hI (all_up hlow hL hr), fun i hm => ?_⟩
    obtain ⟨h0, o, ho, hd⟩ := mem_ready.1 hm
    have hi : i < ops.size := (Array.getElem?_eq_some_iff.1 ho).1
    rw [upTo_in (by omega)] at h0
    refine (hop (upTo L) i o a w hI hC h0 ho hd).mono fun a' w' hI' => ?_
    refine ih _ a' w' (by simp [hL]) (by rw [upTo_set (by omega)]; exact hI') ?_ ?_
    · rw [upTo_set (by omega)]
      intro j o' ho' hj e he hb
      have hup : ∀ x, upTo L x = true → upd (upTo L) i true x = true := fun x hx => by
        by_cases ex : x = i
        · subst ex; exact upd_same _ _ _
        · rw [upd_ne _ _ ex]; exact hx
      by_cases ej : j = i
      · subst ej
        rw [ho] at ho'; cases ho'
        exact hup _ (hd e he hb)
      · rw [upd_ne _ _ ej] at hj
        exact hup _ (hC j o' ho' hj e he hb)
    · rw [upTo_set (by omega), leftOf_set hi h0]
      omega
theorem Walk.drawnJ {id : Nat} {a : Act} {w : World} {Inv : (Nat → Bool) → Act → World → Prop} (hm : P.follows .mixedOrders = true) (hlow : lowB ops = true) (h0 : ∀ d, Inv (fun _ => false) a (w.at d))
    (hop : ∀ f i o a w, Inv f a w → Closed ops f → f i = false → ops[i]? = some o → (∀ e ∈ o.after, Region.binds .any e = true → f e.on = true) → OpW P main V Stop b k cs ops i (fun a' w' => Inv (upd f i true) a' w') a w)
    (hend : ∀ f a w, Inv f a w → (∀ i, i < ops.size → f i = true) → Walk P main (DR V) Stop (G (b.at a (.inRegion ops [] :: k)) cs) w) : Walk P main (DR V) Stop (G (b.at a (.code (.region id ops true) :: k)) cs) w := by
  refine Walk.drawnW (Q := fun a w => Walk P main (DR V) Stop (G (b.at a (.inRegion ops [] :: k)) cs) w) hm (fun d => ?_) (fun a' w' h => h)
  have hu : upTo (Array.replicate ops.size false) = fun _ => false := by
    funext j
    unfold upTo
    rw [Array.getD_eq_getD_getElem?, Array.getElem?_replicate]
    split <;> rfl
  refine anyW_inv hlow hop hend _ _ a (w.at d) (by simp) (by rw [hu]; exact h0 d) (by rw [hu]; intro _ _ _ h; cases h) ?_
  unfold leftOf
  exact Nat.le_trans List.countP_le_length (by simp)
theorem Walk.drawnI {id : Nat} {a : Act} {w : World} {Inv : (Nat → Bool) → Act → World → Prop} (hm : P.follows .mixedOrders = true) (hlow : lowB ops = true) (h0 : ∀ d, Inv (fun _ => false) a (w.at d))
    (hop : ∀ f i o a w, Inv f a w → f i = false → ops[i]? = some o → (∀ e ∈ o.after, Region.binds .any e = true → f e.on = true) → OpW P main V Stop b k cs ops i (fun a' w' => Inv (upd f i true) a' w') a w)
    (hend : ∀ f a w, Inv f a w → (∀ i, i < ops.size → f i = true) → Walk P main (DR V) Stop (G (b.at a (.inRegion ops [] :: k)) cs) w) : Walk P main (DR V) Stop (G (b.at a (.code (.region id ops true) :: k)) cs) w :=
  Walk.drawnJ hm hlow h0 (fun f i o a w h _ => hop f i o a w h) hend
end
def Facts (dsts : List Nat) (vals : List Value) (f : Nat → Bool) (u : Nat → Value) : Prop := ∀ j d v, f j = true → dsts[j]? = some d → vals[j]? = some v → u d = v
theorem Facts.none (dsts : List Nat) (vals : List Value) (u : Nat → Value) : Facts dsts vals (fun _ => false) u := fun _ _ _ h => by cases h
theorem Facts.set {dsts : List Nat} {vals : List Value} {f : Nat → Bool} {u : Nat → Value} (F : Facts dsts vals f u) (hn : dsts.Nodup) {i d : Nat} {v : Value} (hd : dsts[i]? = some d) (hv : vals[i]? = some v) : Facts dsts vals (upd f i true) (upd u d v) := by
  intro j d' v' hf hd' hv'
  by_cases e : j = i
  · subst e
    rw [hd] at hd'; rw [hv] at hv'
    cases hd'; cases hv'
    exact upd_same _ _ _
  · rw [upd_ne _ _ e] at hf
    have hne : d' ≠ d := fun h => by
      subst h
      obtain ⟨h1, h1'⟩ := List.getElem?_eq_some_iff.1 hd
      obtain ⟨h2, h2'⟩ := List.getElem?_eq_some_iff.1 hd'
      exact e ((List.getElem_inj hn).1 (h2'.trans h1'.symm))
    rw [upd_ne _ _ hne]
    exact F j d' v' hf hd' hv'
end
end Go.Relay
