/- Part 12. -/
import Derived.Test.YtnnakajldnaldaaJ4
import Derived.Test.YtnnakajldnaldaaJ6
import Derived.Test.YtnnakajldnaldaaJ11
set_option linter.unusedSimpArgs false
set_option maxHeartbeats 8000000
set_option maxRecDepth 100000
namespace Go.Proofs.Ytnnakajldnaldaa
open Go.Conc Go.RowKit Go.Relay
open Go.ConcN (upd upd_ne upd_same)
section
variable {main : Bool} {V : Nat → Option Wait}
noncomputable def row161B : Bool := match Try.prog.info? 140 with
  | some ti => (match ti.methods.find? (·.name == "Step") with
    | some m => m.path.isEmpty && (m.func == some (131, true))
    | none => false)
  | none => false
theorem row161 : ∃ ti m, Try.prog.info? 140 = some ti ∧ ti.methods.find? (·.name == "Step") = some m ∧ m.path = #[] ∧ m.func = some (131, true) := by
  have h : row161B = true := by kernel_rfl
  unfold row161B at h
  revert h
  cases h1 : Try.prog.info? 140 with
  | none => simp
  | some ti =>
    simp only []
    cases h2 : ti.methods.find? (·.name == "Step") with
    | none => simp
    | some m =>
      simp only [Bool.and_eq_true, Array.isEmpty_iff, beq_iff_eq]
      exact fun h => ⟨ti, m, rfl, h2, h.1, h.2⟩
theorem method_step (p : Nat) (w : World) (es : Array Event) : (method (Try.prog.types.size + Made.depth) 140 (.pointer (some ⟨p, 0, none⟩)) "Step").run Try.prog w = .ok (131, .pointer (some ⟨p, 0, none⟩)) w ∧ (method (Try.prog.types.size + Made.depth) 140 (.pointer (some ⟨p, 0, none⟩)) "Step").events Try.prog w es = es := by
  obtain ⟨ti, m, h1, h2, h3, h4⟩ := row161
  obtain ⟨k, hk⟩ : ∃ k, Try.prog.types.size + Made.depth = k + 1 := ⟨Try.prog.types.size + (Made.depth - 1), by have : 1 ≤ Made.depth := by decide
                                                                                                                omega⟩
  rw [hk]
  unfold method
  refine ⟨?_, ?_⟩
  · simp [typeInfo, h1, h2, h3, h4, follow, receiverAt, run_underlying und161, Place.get]
  · simp [typeInfo, h1, h2, h3, h4, follow, receiverAt, run_underlying und161, Place.get]
section
variable {Stop : Goroutine → World → Prop} {w : World} {b : Frame} {a : Act} {k : List Item} {cs : List Frame} {ops : Array Oper} {i : Nat} {rest : List Nat} {o : Oper}
theorem stepG_invokeStep {x : Operand} {ats : Array TypeId} (p : Nat) (ho : ops[i]? = some o) (hw : Region.wanted o (yielded ops a.tmps) = true) (hk : b.kind ≠ .early) (hop : o.op = .call { callee := .invoke x "Step", args := #[], argTypes := ats }) (hx : a.eval x = .iface 140 (.pointer (some ⟨p, 0, none⟩))) :
    stepG Try.prog main (G (b.at a (.inRegion ops (i :: rest) :: k)) cs) w = .go (G (Frame.enter Try.prog 131 #[.pointer (some ⟨p, 0, none⟩)] .normal) (b.at a (.inRegion ops (i :: rest) :: k) :: cs)) w := by
  have h1 : ¬ Try.f131.name = "runtime.NumGoroutine" := by decide
  have h2 : ¬ Try.f131.body = none := by simp [Try.f131]
  have hm := method_step p w #[]
  rw [show Try.prog.types.size = 186 from by kernel_rfl] at hm
  have hr : (execOp a.eval o).run Try.prog w = .ok (.enter 131 #[.pointer (some ⟨p, 0, none⟩)]) w := by
    unfold execOp
    simp [hop, resolve, invoke, callMethod, callFunc, hm.1, Try.func131, h1, h2, hx]
  have he : (execOp a.eval o).events Try.prog w #[] = #[] := by
    unfold execOp
    simp [hop, resolve, invoke, callMethod, callFunc, hm.1, hm.2, Try.func131, h1, h2, hx]
  rw [stepG_enter ho hw hk hr]
  have : listed Try.prog b.fn a o w = #[] := by unfold listed; rw [he]; exact seen_none Try.prog _
  rw [this]
theorem Walk.invokeStep {x : Operand} {ats : Array TypeId} (p : Nat) (ho : ops[i]? = some o) (hw : Region.wanted o (yielded ops a.tmps) = true) (hk : b.kind ≠ .early) (hop : o.op = .call { callee := .invoke x "Step", args := #[], argTypes := ats }) (hx : a.eval x = .iface 140 (.pointer (some ⟨p, 0, none⟩)))
    (h : Walk Try.prog main (DR V) Stop (G (Frame.enter Try.prog 131 #[.pointer (some ⟨p, 0, none⟩)] .normal) (b.at a (.inRegion ops (i :: rest) :: k) :: cs)) w) : Walk Try.prog main (DR V) Stop (G (b.at a (.inRegion ops (i :: rest) :: k)) cs) w :=
  Walk.ctl rfl (fun _ => stepG_invokeStep p ho hw hk hop hx) h
end
end
end Go.Proofs.Ytnnakajldnaldaa
namespace Go.Relay
section
open Go.Conc Go.RowKit
open Go.ConcN (upd upd_ne upd_same)
def lowW (ops : Array Oper) : Bool := (List.range ops.size).all fun i => (ops[i]?).any fun o => o.after.all fun e => !Region.binds .any e || decide (e.on < i)
theorem all_upW {ops : Array Oper} (hlow : lowW ops = true) {L : Array Bool} (hL : L.size = ops.size) (hr : Region.ready .any ops L = []) : ∀ i, i < ops.size → upTo L i = true := by
  intro i
  induction i using Nat.strongRecOn with
  | _ i ih =>
    intro hi
    refine Classical.byContradiction fun hne => ?_
    have hf : upTo L i = false := by simpa using hne
    have key : ∀ e ∈ ops[i].after, Region.binds .any e = true → e.on < i := fun e he hb => by
      have := List.all_eq_true.1 hlow i (List.mem_range.2 hi)
      rw [Array.getElem?_eq_getElem hi] at this
      simp only [Option.any_some] at this
      have := (Array.all_eq_true_iff_forall_mem.1 this) e he
      simpa [hb] using this
    have hm : i ∈ Region.ready .any ops L := mem_ready.2 ⟨by rw [upTo_in (by omega)]; exact hf, ops[i], Array.getElem?_eq_getElem hi, fun e he hb => ih e.on (key e he hb) (Nat.lt_trans (key e he hb) hi)⟩
    rw [hr] at hm; cases hm
section
variable {ops : Array Oper} {E : Type} {Good : List Nat → Act → E → Prop}
theorem anyE {Inv : (Nat → Bool) → Act → E → Prop} (hlow : lowW ops = true)
    (hop : ∀ f i o a e, Inv f a e → Closed ops f → f i = false → ops[i]? = some o → (∀ x ∈ o.after, Region.binds .any x = true → f x.on = true) → ∀ rest, (∀ a' e', Inv (upd f i true) a' e' → Good rest a' e') → Good (i :: rest) a e)
    (hend : ∀ f a e, Inv f a e → (∀ i, i < ops.size → f i = true) → Good [] a e) :
    ∀ (fuel t : Nat) (L : Array Bool) (a : Act) (e : E), L.size = ops.size → Inv (upTo L) a e → Closed ops (upTo L) → leftOf ops.size (upTo L) ≤ fuel → Good (Region.linearise.go .any ops fuel t L []) a e := by
  intro fuel
  induction fuel with
  | zero =>
    intro t L a e hL hI _ hf
    have hall : ∀ i, i < ops.size → upTo L i = true := fun i hi => by
      refine Classical.byContradiction fun hne => ?_
      have := leftOf_pos hi (f := upTo L) (by simpa using hne)
      omega
    exact hend _ a e hI hall
  | succ fuel ih =>
    intro t L a e hL hI hC hf
    simp only [Region.linearise.go]
    change Good (match (Region.ready .any ops L)[t % (Region.ready .any ops L).length]? with
      | some i => Region.linearise.go .any ops fuel (t / (Region.ready .any ops L).length) (L.setIfInBounds i true) [i]
      | none => [].reverse) a e
    cases hi : (Region.ready .any ops L)[t % (Region.ready .any ops L).length]? with
    | none =>
      have hnil : Region.ready .any ops L = [] := by
        cases hr : Region.ready .any ops L with
        | nil => rfl
        | cons x xs =>
          rw [hr] at hi
          have hlt : t % (x :: xs).length < (x :: xs).length := Nat.mod_lt _ (by simp)
          simp at hi
          simp at hlt
          omega
      exact hend _ a e hI (all_upW hlow hL hnil)
    | some i =>
      simp only []
      rw [linearise_go_acc, List.reverse_singleton, List.singleton_append]
      obtain ⟨h0, o, ho, hd⟩ := mem_ready.1 (List.mem_of_getElem? hi)
      have hil : i < ops.size := (Array.getElem?_eq_some_iff.1 ho).1
      rw [upTo_in (by omega)] at h0
      refine hop (upTo L) i o a e hI hC h0 ho hd _ fun a' e' hI' => ?_
      refine ih _ _ a' e' (by simp [hL]) (by rw [upTo_set (by omega)]; exact hI') ?_ ?_
      · rw [upTo_set (by omega)]
        intro j o' ho' hj x hx hb
        have hup : ∀ x, upTo L x = true → upd (upTo L) i true x = true := fun x hx => by
          by_cases ex : x = i
          · subst ex; exact upd_same _ _ _
          · rw [upd_ne _ _ ex]; exact hx
        by_cases ej : j = i
        · subst ej
          rw [ho] at ho'; cases ho'
          exact hup _ (hd x hx hb)
        · rw [upd_ne _ _ ej] at hj
          exact hup _ (hC j o' ho' hj x hx hb)
      · rw [upTo_set (by omega), leftOf_set hil h0]
        omega
end
theorem Walk.drawnE {P : Program} {main : Bool} {b : Frame} {k : List Item} {ops : Array Oper} {id : Nat} {a : Act} {E : Type} {V : E → Nat → Option Wait} {Stop : E → Goroutine → World → Prop} {cs : E → List Frame} {w : E → World}
    {Inv : (Nat → Bool) → Act → E → Prop} (e0 : E) (hm : P.follows .mixedOrders = true) (hlow : lowW ops = true) (h0 : Inv (fun _ => false) a e0)
    (hop : ∀ f i o a e, Inv f a e → Closed ops f → f i = false → ops[i]? = some o → (∀ x ∈ o.after, Region.binds .any x = true → f x.on = true) → ∀ rest, (∀ a' e', Inv (upd f i true) a' e' → Walk P main (DR (V e')) (Stop e') (G (b.at a' (.inRegion ops rest :: k)) (cs e')) (w e')) → Walk P main (DR (V e)) (Stop e) (G (b.at a (.inRegion ops (i :: rest) :: k)) (cs e)) (w e))
    (hend : ∀ f a e, Inv f a e → (∀ i, i < ops.size → f i = true) → Walk P main (DR (V e)) (Stop e) (G (b.at a (.inRegion ops [] :: k)) (cs e)) (w e)) :
    Walk P main (DR (V e0)) (Stop e0) (G (b.at a (.code (.region id ops true) :: k)) (cs e0)) (w e0) := by
  have hu : upTo (Array.replicate ops.size false) = fun _ => false := by
    funext j
    unfold upTo
    rw [Array.getD_eq_getD_getElem?, Array.getElem?_replicate]
    split <;> rfl
  refine Walk.step rfl (fun d => G (b.at a (.inRegion ops (Region.linearise .any ops ((w e0).tape d (.order b.fn id))) :: k)) (cs e0)) (fun d => (w e0).at (d + 1)) (fun _ => #[]) (fun d => ?_) (fun d => drawsR _) (fun d => Walk.back ?_ (d + 1))
  · rw [stepG_region_draw]
    simp only [Region.schedule, hm, Bool.true_or, if_true]
    rfl
  · refine anyE (Good := fun rest a e => Walk P main (DR (V e)) (Stop e) (G (b.at a (.inRegion ops rest :: k)) (cs e)) (w e)) hlow hop hend ops.size _ _ a e0 (by simp) (by rw [hu]; exact h0) (by rw [hu]; intro _ _ _ h; cases h) ?_
    unfold leftOf
    exact Nat.le_trans List.countP_le_length (by simp)
section
variable {P : Program} {main : Bool} {V : Nat → Option Wait} {Stop : Goroutine → World → Prop} {b : Frame} {k : List Item} {cs : List Frame} {ops : Array Oper} {w : World} {a : Act}
theorem Walk.drawnCW {id m : Nat} (hm : P.follows .mixedOrders = true) (hsz : ops.size = m) (hlow : lowW ops = true) (hc : calmB ops m = true) (hk : b.kind ≠ .early)
    (h : Cm P main V ops (· = w) (fun a => Walk P main (DR V) Stop (G (b.at a (.inRegion ops [] :: k)) cs) w) (List.range m) a) : Walk P main (DR V) Stop (G (b.at a (.code (.region id ops true) :: k)) cs) w := by
  rw [List.range_eq_range'] at h
  have h0 : Cm P main V ops (· = w) (fun a => Walk P main (DR V) Stop (G (b.at a (.inRegion ops [] :: k)) cs) w) (List.range' 0 m) (puts ops (fun _ => undef) (fun j => decide (j < 0)) a) := by
    have : puts ops (fun _ => undef) (fun j => decide (j < 0)) a = a := putsL_none _ a fun j _ => decide_eq_false (Nat.not_lt_zero j)
    rw [this]; exact h
  obtain ⟨vals, _, hcond, hend⟩ := cm_vals (Z := (· = w)) (w := w) rfl (Nat.le_of_eq hsz.symm) m 0 (fun _ => undef) a (by omega) h0
  refine Walk.drawnE (E := World) (V := fun _ => V) (Stop := fun _ => Stop) (cs := fun _ => cs) (w := fun w => w) (Inv := fun f x w' => x = puts ops vals f a ∧ ∃ d, w' = w.at d) w hm hlow ⟨(puts_zero vals a).symm, w.drawn, rfl⟩ ?_ ?_
  · rintro f i o _ _ ⟨rfl, d, rfl⟩ _ hf ho hd rest hr
    have hi : i < m := by have := (Array.getElem?_eq_some_iff.1 ho).1; omega
    refine Walk.back ?_ d
    refine Walk.calmOp (Z := (· = w)) rfl hc hk hi ho hd (hcond i o (Nat.zero_le _) hi ho) ?_
    rw [← puts_upd hc hi vals hf ho a]
    exact hr _ (w.at w.drawn) ⟨rfl, w.drawn, rfl⟩
  · rintro f _ _ ⟨rfl, d, rfl⟩ hall
    refine Walk.back ?_ d
    have : puts ops vals f a = puts ops vals (fun j => decide (j < m)) a := puts_congr (fun j hj => ⟨(hall j hj).trans (decide_eq_true (hsz ▸ hj)).symm, fun _ => rfl⟩) a
    rw [this]
    exact hend
end
end
end Go.Relay
namespace Go.Proofs.Ytnnakajldnaldaa
open Go.Conc Go.RowKit Go.Relay
open Go.ConcN (upd upd_ne upd_same)
section
structure OpV where
  k : Int
  a : Int
  b : Int
  c : Int
abbrev Ans := Bool × Int
def opVal (o : OpV) : Value := .agg #[.int .i64 o.k, .int .i64 o.a, .int .i64 o.b, .int .i64 o.c]
def ansVal (a : Ans) : Value := .agg #[.bool a.1, .int .i64 a.2, .slice none 0 0]
def ansRow (l : List Ans) : List Value := l.flatMap fun a => [.bool a.1, .int .i64 a.2, .slice none 0 0]
theorem ansRow_snoc (l : List Ans) (a : Ans) : ansRow (l ++ [a]) = ansRow l ++ [.bool a.1, .int .i64 a.2, .slice none 0 0] := by simp [ansRow]
structure La where
  Sg : Type
  D : Type
  enter : Sg → OpV → Sg × (Ans ⊕ D)
  act : Sg → D → Sg × (Ans ⊕ D)
  sh : Nat → Prop
  I : Sg → World → Prop
  stable : ∀ {s : Sg} {w w' : World}, I s w → (∀ b, sh b → w'.heap[b]? = w.heap[b]?) → I s w'
  lt : ∀ {s : Sg} {w : World} {b : Nat}, I s w → sh b → b < w.heap.size
structure Tst (L : La) where
  left : List OpV
  d : Option L.D
  ans : List Ans
def settleO (L : La) : L.Sg → List OpV → List Ans → L.Sg × Tst L
  | s, [], az => (s, ⟨[], none, az⟩)
  | s, o :: l, az => match L.enter s o with
    | (s', .inl a) => settleO L s' l (az ++ [a])
    | (s', .inr d) => (s', ⟨l, some d, az⟩)
def landO (L : La) (r : L.Sg × (Ans ⊕ L.D)) (left : List OpV) (az : List Ans) : L.Sg × Tst L := match r with
  | (s', .inl a) => settleO L s' left (az ++ [a])
  | (s', .inr d) => (s', ⟨left, some d, az⟩)
theorem settleO_cons (L : La) (s : L.Sg) (o : OpV) (l : List OpV) (az : List Ans) : settleO L s (o :: l) az = landO L (L.enter s o) l az := rfl
structure OX (L : La) where
  s : L.Sg
  th : Nat → Tst L
  out : Nat → Option Bool
  cnt : Nat
def putO {L : La} (x : OX L) (i : Nat) (r : L.Sg × Tst L) (c : Nat) : OX L := ⟨r.1, upd x.th i r.2, upd x.out i (match r.2.d with | none => some false | some _ => none), c⟩
def bornO {L : La} (ops : Nat → List OpV) (x : OX L) (i : Nat) : OX L := putO x i (settleO L x.s (ops i) []) x.cnt
def nextO {L : La} (x : OX L) (i : Nat) : OX L := match (x.th i).d with
  | none => { x with cnt := x.cnt + 1 }
  | some d => putO x i (landO L (L.act x.s d) (x.th i).left (x.th i).ans) (x.cnt + 1)
structure OG where
  n : Nat
  w0 : World
  A : Nat
  ops : Nat → List OpV
def RowO (g : OG) (hd : Value) (ans : List Ans) (w : World) : Prop := ∃ ta tc, hd = .slice ta ans.length tc ∧ w.ownsRow g.w0.heap.size 43 3 hd ans.length (ansRow ans)
theorem RowO.same {g : OG} {hd : Value} {ans : List Ans} {w w' : World} (h : RowO g hd ans w) (hb : ∀ b, hd.ownBlock = some b → w'.heap[b]? = w.heap[b]?) : RowO g hd ans w' := by
  obtain ⟨ta, tc, e, hr⟩ := h
  exact ⟨ta, tc, e, row_same hr hb⟩
theorem RowO.lt {g : OG} {hd : Value} {ans : List Ans} {w : World} (h : RowO g hd ans w) {b : Nat} (hb : hd.ownBlock = some b) : g.w0.heap.size ≤ b ∧ b < w.heap.size := by
  obtain ⟨ta, tc, e, hr⟩ := h
  exact hr.lt b hb
def AnT (g : OG) (i : Nat) (w w' : World) (hd : Value) : Prop := ∃ arr arr' : Array Value, w.heap[g.A]? = some (.cells arr 41) ∧ w'.heap[g.A]? = some (.cells arr' 41) ∧ arr'.size = arr.size ∧ arr'[i]? = some hd ∧ ∀ j, j ≠ i → arr'[j]? = arr[j]?
structure Tn (L : La) where
  V : Nat → Option Wait
  f : Frame
  fs : List Frame
  w : World
  M : Nat → Prop
  goal : L.Sg × Tst L
def ownT {L : La} (τ : Tn L) (w : World) (b : Nat) : Prop := τ.M b ∨ (τ.w.heap.size ≤ b ∧ b < w.heap.size)
def StopT (L : La) (g : OG) (S : Stile) (i : Nat) (C : Tst L → List Frame → Value → (Nat → Prop) → World → Prop) (τ : Tn L) (g' : Goroutine) (w' : World) : Prop :=
  τ.w.heap.size ≤ w'.heap.size ∧ (∀ b, b < τ.w.heap.size → ¬ τ.M b → ¬ L.sh b → b ≠ g.A → w'.heap[b]? = τ.w.heap[b]?) ∧ L.I τ.goal.1 w' ∧
  ∃ hd, AnT g i τ.w w' hd ∧ RowO g hd τ.goal.2.ans w' ∧ (∀ b, hd.ownBlock = some b → ownT τ w' b) ∧
    ((τ.goal.2.d = none ∧ g' = G (τ.f.finish (.tuple #[])) τ.fs) ∨
     ∃ l, τ.goal.2.d.isSome = true ∧ l ≠ [] ∧ (∀ f ∈ l, Plain f) ∧ C τ.goal.2 l hd (ownT τ w') w' ∧ g' = G (Frame.enter Try.prog 131 #[.pointer (some ⟨S.p i, 0, none⟩)] .normal) (l ++ τ.f :: τ.fs))
theorem StopT.mono {L : La} {g : OG} {S : Stile} {i : Nat} {C C' : Tst L → List Frame → Value → (Nat → Prop) → World → Prop} {τ : Tn L} {g' : Goroutine} {w' : World} (h : StopT L g S i C τ g' w') (hC : ∀ t l hd M w, C t l hd M w → C' t l hd M w) : StopT L g S i C' τ g' w' := by
  obtain ⟨h1, h2, h3, hd, h4, h5, h6, h7⟩ := h
  refine ⟨h1, h2, h3, hd, h4, h5, h6, ?_⟩
  rcases h7 with h | ⟨l, a1, a2, a3, a4, a5⟩
  · exact .inl h
  · exact .inr ⟨l, a1, a2, a3, hC _ _ _ _ _ a4, a5⟩
structure Rely (L : La) (g : OG) (i : Nat) (V : Nat → Option Wait) (w : World) (hd : Value) (M : Nat → Prop) : Prop where
  size : g.w0.heap.size ≤ w.heap.size
  old : ∀ b, b < g.w0.heap.size → ¬ L.sh b → b ≠ g.A → w.heap[b]? = g.w0.heap[b]?
  an : ∃ arr : Array Value, w.heap[g.A]? = some (.cells arr 41) ∧ arr[i]? = some hd
  lo : ∀ b, M b → g.w0.heap.size ≤ b ∧ b < w.heap.size
  apart : ∀ b, (b < g.w0.heap.size ∨ M b ∨ w.heap.size ≤ b) → Apart V b
  shlo : ∀ b, L.sh b → b < g.w0.heap.size ∧ b ≠ g.A
  alo : g.A < g.w0.heap.size
  hdo : ∀ b, hd.ownBlock = some b → M b
def Cont (L : La) (g : OG) (S : Stile) (i : Nat) : Nat → Tst L → List Frame → Value → (Nat → Prop) → World → Prop
  | 0 => fun _ _ _ _ _ => True
  | N + 1 => fun t cs hd M w => ∀ (V : Nat → Option Wait) (f : Frame) (fs : List Frame) (w' : World) (s : L.Sg) (c : Frame) (l : List Frame) (d : L.D), w.heap.size ≤ w'.heap.size → (∀ b, M b → w'.heap[b]? = w.heap[b]?) → Rely L g i V w' hd M → L.I s w' → t.d = some d → cs = c :: l →
    Walk Try.prog false (DR V) (StopT L g S i (Cont L g S i N) ⟨V, f, fs, w', M, landO L (L.act s d) t.left t.ans⟩) (G (c.finish (.tuple #[])) (l ++ f :: fs)) w'
section
variable {L : La} {g : OG} {S : Stile} {i : Nat}
theorem Cont.keep {N : Nat} {t : Tst L} {cs : List Frame} {hd : Value} {M : Nat → Prop} {w w1 : World} (h : Cont L g S i N t cs hd M w) (hs : w.heap.size ≤ w1.heap.size) (hb : ∀ b, M b → w1.heap[b]? = w.heap[b]?) : Cont L g S i N t cs hd M w1 := by
  cases N with
  | zero => trivial
  | succ N => exact fun V f fs w' s c l d h1 h2 h3 h4 h5 h6 => h V f fs w' s c l d (Nat.le_trans hs h1) (fun b hM => (h2 b hM).trans (hb b hM)) h3 h4 h5 h6
theorem Cont.less : ∀ {N : Nat} {t : Tst L} {cs : List Frame} {hd : Value} {M : Nat → Prop} {w : World}, Cont L g S i (N + 1) t cs hd M w → Cont L g S i N t cs hd M w
  | 0, _, _, _, _, _, _ => trivial
  | _ + 1, _, _, _, _, _, h => fun V f fs w' s c l d h1 h2 h3 h4 h5 h6 => (h V f fs w' s c l d h1 h2 h3 h4 h5 h6).mono fun _ _ hS => hS.mono fun _ _ _ _ _ => Cont.less
theorem Cont.le {N N' : Nat} (hN : N' ≤ N) {t : Tst L} {cs : List Frame} {hd : Value} {M : Nat → Prop} {w : World} (h : Cont L g S i N t cs hd M w) : Cont L g S i N' t cs hd M w := by
  induction N with
  | zero => rwa [Nat.le_zero.1 hN]
  | succ N ih =>
    by_cases e : N' = N + 1
    · rw [e]; exact h
    · exact ih (by omega) h.less
end
end
section
structure Lb (L : La) where
  main : Bool
  E : Type
  V : E → Nat → Option Wait
  Stop : E → Goroutine → World → Prop
  bot : E → List Frame
  w : E → World
  s : E → L.Sg
  tgt : E → L.Sg × (Ans ⊕ L.D)
  fuel : E → Nat
  mine : E → Nat → Prop
def LW {L : La} (K : Lb L) (e : K.E) (g : Goroutine) : Prop := Walk Try.prog K.main (DR (K.V e)) (K.Stop e) g (K.w e)
structure Mv {L : La} (K : Lb L) (e e' : K.E) (s' : L.Sg) (w' : World) : Prop where
  V : K.V e' = K.V e
  Stop : K.Stop e' = K.Stop e
  bot : K.bot e' = K.bot e
  w : K.w e' = w'
  s : K.s e' = s'
  tgt : K.tgt e' = K.tgt e
  fuel : K.fuel e' = K.fuel e
  mine : ∀ b, K.mine e' b ↔ K.mine e b ∨ ((K.w e).heap.size ≤ b ∧ b < w'.heap.size)
structure Aft {L : La} (K : Lb L) (e : K.E) (d : L.D) (e' : K.E) : Prop where
  tgt : K.tgt e' = L.act (K.s e') d
  fuel : K.fuel e' < K.fuel e
  size : (K.w e).heap.size ≤ (K.w e').heap.size
  mine : ∀ b, K.mine e b → K.mine e' b ∧ (K.w e').heap[b]? = (K.w e).heap[b]?
structure Lg (L : La) (sv : Value) extends Lb L where
  inv : ∀ e, L.I (s e) (w e)
  shA : ∀ e b, L.sh b → Apart (V e) b
  mineA : ∀ e b, mine e b → Apart (V e) b ∧ ¬ L.sh b ∧ b < (w e).heap.size
  newA : ∀ e b, (w e).heap.size ≤ b → Apart (V e) b
  one : sv.cells = #[sv]
  mv : ∀ (e : E) (s' : L.Sg) (w' : World), (w e).heap.size ≤ w'.heap.size → (∀ b, b < (w e).heap.size → ¬ mine e b → ¬ L.sh b → w'.heap[b]? = (w e).heap[b]?) → L.I s' w' → ∃ e', Mv toLb e e' s' w'
  step : ∀ (e : E) (d : L.D), tgt e = (s e, .inr d) → ∀ (fr : Frame) (l : List Frame), Plain fr → (∀ f ∈ l, Plain f) → (∀ e', Aft toLb e d e' → LW toLb e' (G (fr.finish (.tuple #[])) (l ++ bot e'))) →
    LW toLb e (G (Frame.enter Try.prog 55 #[sv] .normal) (fr :: (l ++ bot e)))
def SCall {L : La} (K : Lb L) (f : FuncId) (args : Array Value) (e : K.E) (Q : Value → K.E → Prop) : Prop :=
  ∀ (fr : Frame) (l : List Frame), Plain fr → (∀ f ∈ l, Plain f) → (∀ v e', Q v e' → LW K e' (G (fr.finish v) (l ++ K.bot e'))) → LW K e (G (Frame.enter Try.prog f args .normal) (fr :: (l ++ K.bot e)))
section
variable {L : La} {K : Lb L} {e : K.E} {g : Goroutine}
theorem SCall.mono {f : FuncId} {args : Array Value} {Q Q' : Value → K.E → Prop} (h : SCall K f args e Q) (hQ : ∀ v e', Q v e' → Q' v e') : SCall K f args e Q' := fun fr l hp hl hk => h fr l hp hl fun v e' hq => hk v e' (hQ v e' hq)
theorem LW.mv {e' : K.E} {s' : L.Sg} {w' : World} (h : Mv K e e' s' w') (hw : LW K e' g) : Walk Try.prog K.main (DR (K.V e)) (K.Stop e) g w' := by
  unfold LW at hw
  rw [h.V, h.Stop, h.w] at hw
  exact hw
theorem SCall.mv {e' : K.E} {s' : L.Sg} {w' : World} {f : FuncId} {args : Array Value} {Q : Value → K.E → Prop} (h : Mv K e e' s' w') (hc : SCall K f args e' Q) {fr : Frame} {l : List Frame} (hp : Plain fr) (hl : ∀ f ∈ l, Plain f) (hk : ∀ v e', Q v e' → LW K e' (G (fr.finish v) (l ++ K.bot e'))) :
    Walk Try.prog K.main (DR (K.V e)) (K.Stop e) (G (Frame.enter Try.prog f args .normal) (fr :: (l ++ K.bot e))) w' := by
  have := hc fr l hp hl hk
  rw [h.bot] at this
  exact LW.mv h this
theorem Mv.trans {e1 e2 : K.E} {s1 s2 : L.Sg} {w1 w2 : World} (h : Mv K e e1 s1 w1) (h' : Mv K e1 e2 s2 w2) (hs : (K.w e).heap.size ≤ w1.heap.size) (hs' : w1.heap.size ≤ w2.heap.size) : Mv K e e2 s2 w2 := by
  refine ⟨h'.V.trans h.V, h'.Stop.trans h.Stop, h'.bot.trans h.bot, h'.w, h'.s, h'.tgt.trans h.tgt, h'.fuel.trans h.fuel, fun b => ?_⟩
  rw [h'.mine, h.mine, h.w]
  constructor
  · rintro ((h | h) | h)
    · exact .inl h
    · exact .inr ⟨h.1, by omega⟩
    · exact .inr ⟨by omega, h.2⟩
  · rintro (h | h)
    · exact .inl (.inl h)
    · by_cases hb : b < w1.heap.size
      · exact .inl (.inr ⟨h.1, hb⟩)
      · exact .inr ⟨by omega, h.2⟩
variable {b : Frame} {a : Act} {k : List Item} {cs l : List Frame} {ops : Array Oper} {i : Nat} {rest : List Nat} {o : Oper}
theorem LW.callS {f : FuncId} {fn : Func} {args : Array Operand} {ats : Array TypeId} {Q : Value → K.E → Prop} (hc : SCall K f (args.map a.eval) e Q) (ho : ops[i]? = some o) (hw : Region.wanted o (yielded ops a.tmps) = true) (hk : b.kind ≠ .early) (hop : o.op = .call { callee := .value (.func f), args, argTypes := ats })
    (hf : Try.prog.funcs[f]? = some fn) (hname : (fn.name == "runtime.NumGoroutine") = false) (hb : fn.body.isNone = false) (hp : Plain (b.at a (.inRegion ops (i :: rest) :: k))) (hl : ∀ f ∈ l, Plain f)
    (h : ∀ v e', Q v e' → LW K e' (G (b.at (a.put o.dst v) (.inRegion ops rest :: k)) (l ++ K.bot e'))) :
    LW K e (G (b.at a (.inRegion ops (i :: rest) :: k)) (l ++ K.bot e)) := by
  refine Walk.ctl (g' := G (Frame.enter Try.prog f (args.map a.eval) .normal) (b.at a (.inRegion ops (i :: rest) :: k) :: (l ++ K.bot e))) rfl (fun w => ?_) (hc _ l hp hl ?_)
  · rw [stepG_enter ho hw hk (run_call_body hop hf hname hb)]
    have : listed Try.prog b.fn a o w = #[] := by unfold listed; rw [events_call_body hop hf hname hb]; exact seen_none Try.prog _
    rw [this]
  · intro v e' hq
    rw [Frame.finish_at, ho]
    exact h v e' hq
end
section
variable {P : Program} {main : Bool} {V : Nat → Option Wait} {Stop : Goroutine → World → Prop} {b : Frame} {a : Act} {cs : List Frame} {w : World} {fn : Func} {todo : List Item} {c : Frame} {t s : Tmp}
theorem Walk.on1 (hn : b.kind = .normal) (hd : a.defers = []) (hf : P.funcs[b.fn]? = some fn) (hr : fn.results = #[.tmp t]) (h : Walk P main (DR V) Stop (G (c.finish (a.tmps.getD t undef)) cs) w) : Walk P main (DR V) Stop (G { b.at a todo with mode := .returning } (c :: cs)) w :=
  Walk.ctl rfl (fun w => stepG_leave hn hd hf (results_tmp hr _ P w) (events_results_tmp hr _ _)) h
theorem Walk.on0 (hn : b.kind = .normal) (hd : a.defers = []) (hf : P.funcs[b.fn]? = some fn) (hr : fn.results = #[]) (h : Walk P main (DR V) Stop (G (c.finish (.tuple #[])) cs) w) : Walk P main (DR V) Stop (G { b.at a todo with mode := .returning } (c :: cs)) w :=
  Walk.ctl rfl (fun w => stepG_leave hn hd hf (results_none hr _ P w) (events_results_none hr _ _)) h
theorem Walk.on2 (hn : b.kind = .normal) (hd : a.defers = []) (hf : P.funcs[b.fn]? = some fn) (hr : fn.results = #[.tmp t, .tmp s]) (h : Walk P main (DR V) Stop (G (c.finish (.tuple #[a.tmps.getD t undef, a.tmps.getD s undef])) cs) w) : Walk P main (DR V) Stop (G { b.at a todo with mode := .returning } (c :: cs)) w :=
  Walk.ctl rfl (fun w => stepG_leave (v := .tuple #[a.tmps.getD t undef, a.tmps.getD s undef]) hn hd hf (by simp [results, hr]) (by simp [results, hr])) h
end
end
section
structure OSt (L : La) (g : OG) (S : Stile) : Prop where
  n : S.n = g.n
  shlo : ∀ b, L.sh b → b < g.w0.heap.size ∧ b ≠ g.A
  alo : g.A < g.w0.heap.size
  tbs : ¬ L.sh S.tb ∧ S.tb ≠ g.A
  tb : ∀ i, i < g.n → g.w0.cell? ⟨S.tb, i, none⟩ = some (S.F i)
  sch : ∀ (j : Nat) (z : Int), S.sl[j]? = some z → ∃ s so, S.sa = some ⟨s, so, none⟩ ∧ g.w0.cell? ⟨s, so + j, none⟩ = some (.int .i64 z) ∧ ¬ L.sh s ∧ s ≠ g.A
def t0 (L : La) : Tst L := ⟨[], none, []⟩
structure OInv (L : La) (g : OG) (S : Stile) (k : Nat) (o : Nat → Option Role) (x : OX L) (cs : Nat → List Frame) (w : World) (pr : Nat → Option Nat) (hd : Nat → Value) : Prop where
  st : OSt L g S
  kn : k ≤ g.n
  size : g.w0.heap.size ≤ w.heap.size
  base : ∀ b, b < g.w0.heap.size → o b = none
  old : ∀ b, b < g.w0.heap.size → ¬ L.sh b → b ≠ g.A → w.heap[b]? = g.w0.heap[b]?
  prl : ∀ b i, pr b = some i → g.w0.heap.size ≤ b ∧ b < w.heap.size ∧ o b = none
  I : L.I x.s w
  an : ∃ arr : Array Value, w.heap[g.A]? = some (.cells arr 41) ∧ ∀ i, i < g.n → arr[i]? = some (hd i)
  row : ∀ i, i < g.n → RowO g (hd i) (x.th i).ans w
  prow : ∀ i, i < g.n → ∀ b, (hd i).ownBlock = some b → pr b = some i
  cont : ∀ i, i < k → i < g.n → x.out i = none → (x.th i).d.isSome = true ∧ cs i ≠ [] ∧ (∀ f ∈ cs i, Plain f) ∧ Cont L g S i (1048577 - x.cnt) (x.th i) (cs i) (hd i) (fun b => pr b = some i) w
  fresh : ∀ i, k ≤ i → i < g.n → x.th i = t0 L
def invO (L : La) (g : OG) (S : Stile) (k : Nat) (o : Nat → Option Role) (x : OX L) (cs : Nat → List Frame) (w : World) : Prop := ∃ pr hd, OInv L g S k o x cs w pr hd
theorem cell_lt' {w : World} {b i : Nat} {v : Value} (h : w.cell? ⟨b, i, none⟩ = some v) : b < w.heap.size := by
  unfold World.cell? at h
  split at h
  · rename_i h'; exact (Array.getElem?_eq_some_iff.1 h').1
  · cases h
section
variable {L : La} {g : OG} {S : Stile} {k : Nat} {o o' : Nat → Option Role} {x : OX L} {cs : Nat → List Frame} {w w' : World} {pr : Nat → Option Nat} {hd : Nat → Value}
theorem OInv.cell (P : OInv L g S k o x cs w pr hd) {b i : Nat} {v : Value} (h : g.w0.cell? ⟨b, i, none⟩ = some v) (hs : ¬ L.sh b) (hA : b ≠ g.A) : w.cell? ⟨b, i, none⟩ = some v :=
  (World.cell?_of_block (a := ⟨b, i, none⟩) (P.old b (cell_lt' h) hs hA)).trans h
theorem invO_keep (h : invO L g S k o x cs w) (K : Keeps o o' w w') : invO L g S k o' x cs w' := by
  obtain ⟨pr, hd, P⟩ := h
  have hb : ∀ b, b < g.w0.heap.size → o' b = none ∧ w'.heap[b]? = w.heap[b]? := fun b h => K.same b (Nat.lt_of_lt_of_le h P.size) (P.base b h)
  have hp : ∀ b i, pr b = some i → o' b = none ∧ w'.heap[b]? = w.heap[b]? := fun b i h => K.same b (P.prl b i h).2.1 (P.prl b i h).2.2
  refine ⟨pr, hd, ⟨P.st, P.kn, Nat.le_trans P.size K.size, fun b h => (hb b h).1, fun b h h1 h2 => (hb b h).2.trans (P.old b h h1 h2), fun b i h => ⟨(P.prl b i h).1, Nat.lt_of_lt_of_le (P.prl b i h).2.1 K.size, (hp b i h).1⟩, L.stable P.I fun b h => (hb b (P.st.shlo b h).1).2, ?_, fun i hi => (P.row i hi).same fun b e => (hp b i (P.prow i hi b e)).2, P.prow, fun i hi hin ho => ?_, P.fresh⟩⟩
  · obtain ⟨arr, ha, hr⟩ := P.an
    exact ⟨arr, (hb _ P.st.alo).2.trans ha, hr⟩
  · obtain ⟨h1, h2, h3, h4⟩ := P.cont i hi hin ho
    exact ⟨h1, h2, h3, h4.keep K.size fun b e => (hp b i e).2⟩
theorem OInv.rely (P : OInv L g S k o x cs w pr hd) {V : Nat → Option Wait} {i : Nat} (hi : i < g.n) (hA : ∀ b, o b = none → Apart V b) (hlt : ∀ b r, o b = some r → b < w.heap.size) : Rely L g i V w (hd i) (fun b => pr b = some i) := by
  refine ⟨P.size, P.old, ?_, fun b e => ⟨(P.prl b i e).1, (P.prl b i e).2.1⟩, fun b e => hA b ?_, P.st.shlo, P.st.alo, P.prow i hi⟩
  · obtain ⟨arr, ha, hr⟩ := P.an
    exact ⟨arr, ha, hr i hi⟩
  · rcases e with e | e | e
    · exact P.base b e
    · exact (P.prl b i e).2.2
    · cases ho : o b with
      | none => rfl
      | some r => have := hlt b r ho; omega
theorem fin_of_stop {V : Nat → Option Wait} {f : Frame} {fs : List Frame} {i k' cnt' : Nat} {r : L.Sg × Tst L} {g' : Goroutine} (P : OInv L g S k o x cs w pr hd) (hi : i < g.n) (hik : i < k') (hkk : ∀ j, j < k' → j ≠ i → j < k) (hkf : k ≤ k') (hkn : k' ≤ g.n) (hc : x.cnt ≤ cnt')
    (hlt : ∀ b r, o b = some r → b < w.heap.size) (hS : StopT L g S i (Cont L g S i (1048577 - cnt')) ⟨V, f, fs, w, fun b => pr b = some i, r⟩ g' w') : Fin (invO L g S) OX.out S k' o (putO x i r cnt') cs i f fs w g' w' := by
  obtain ⟨hsz, hfr, hI, hd', ⟨arr, arr', ha, ha', hasz, hai, haj⟩, hrow, hdo, hend⟩ := hS
  dsimp only at hsz hfr hI hrow hdo hend ha ha' hasz hai haj
  let pr' : Nat → Option Nat := fun b => if w.heap.size ≤ b ∧ b < w'.heap.size then some i else pr b
  have hMi : (fun b => pr' b = some i) = ownT (⟨V, f, fs, w, fun b => pr b = some i, r⟩ : Tn L) w' := by
    funext b
    refine propext ⟨fun h => ?_, fun h => ?_⟩
    · by_cases e : w.heap.size ≤ b ∧ b < w'.heap.size
      · exact .inr e
      · have h : (if w.heap.size ≤ b ∧ b < w'.heap.size then some i else pr b) = some i := h
        rw [if_neg e] at h
        exact .inl h
    · show (if w.heap.size ≤ b ∧ b < w'.heap.size then some i else pr b) = some i
      rcases h with h | h
      · split
        · rfl
        · exact h
      · rw [if_pos h]
  have hMj : ∀ j, j ≠ i → ∀ b, pr' b = some j ↔ pr b = some j := fun j hj b => by
    show (if w.heap.size ≤ b ∧ b < w'.heap.size then some i else pr b) = some j ↔ pr b = some j
    by_cases e : w.heap.size ≤ b ∧ b < w'.heap.size
    · rw [if_pos e]
      refine ⟨fun h => absurd (Option.some.inj h).symm hj, fun h => ?_⟩
      have := (P.prl b j h).2.1
      omega
    · rw [if_neg e]
  have hother : ∀ j b, j ≠ i → pr b = some j → w'.heap[b]? = w.heap[b]? := fun j b hj h => by
    have h1 := P.prl b j h
    refine hfr b h1.2.1 (fun e => hj ?_) (fun e => ?_) (fun e => ?_)
    · rw [h] at e; exact Option.some.inj e
    · have := (P.st.shlo b e).1; omega
    · have := P.st.alo; omega
  have hown : ∀ b, ownT (⟨V, f, fs, w, fun b => pr b = some i, r⟩ : Tn L) w' b → g.w0.heap.size ≤ b ∧ b < w'.heap.size ∧ o b = none := fun b h => by
    rcases h with h | h
    · have := P.prl b i h
      exact ⟨this.1, by omega, this.2.2⟩
    · refine ⟨Nat.le_trans P.size h.1, h.2, ?_⟩
      cases ho : o b with
      | none => rfl
      | some z => have := hlt b z ho; have h1 : w.heap.size ≤ b := h.1; omega
  have harr : arr.size = arr'.size := hasz.symm
  obtain ⟨arr0, ha0, hr0⟩ := P.an
  rw [ha] at ha0
  have harr0 : arr0 = arr := by cases ha0; rfl
  subst harr0
  have hth : ∀ j, j ≠ i → (putO x i r cnt').th j = x.th j := fun j hj => upd_ne _ _ hj
  have hthi : (putO x i r cnt').th i = r.2 := upd_same _ _ _
  have hinv : ∀ l, (r.2.d.isSome = true → l ≠ [] ∧ (∀ f ∈ l, Plain f) ∧ Cont L g S i (1048577 - cnt') r.2 l hd' (fun b => pr' b = some i) w') → invO L g S k' o (putO x i r cnt') (upd cs i l) w' := fun l hl => by
    refine ⟨pr', upd hd i hd', ⟨P.st, hkn, Nat.le_trans P.size hsz, P.base, fun b hb h1 h2 => (hfr b (Nat.lt_of_lt_of_le hb P.size) (fun e => by have := (P.prl b i e).1; omega) h1 h2).trans (P.old b hb h1 h2), fun b j h => ?_, hI, ⟨arr', ha', fun j hj => ?_⟩, fun j hj => ?_, fun j hj b hb => ?_, fun j hj hjn ho => ?_, fun j hj hjn => ?_⟩⟩
    · by_cases e : j = i
      · subst e
        exact hown b (by rw [← hMi]; exact h)
      · have := P.prl b j ((hMj j e b).1 h)
        exact ⟨this.1, by omega, this.2.2⟩
    · by_cases e : j = i
      · subst e; rw [upd_same]; exact hai
      · rw [upd_ne _ _ e, haj j e]; exact hr0 j hj
    · by_cases e : j = i
      · subst e; rw [upd_same, hthi]; exact hrow
      · rw [upd_ne _ _ e, hth j e]
        exact (P.row j hj).same fun b hb => hother j b e (P.prow j hj b hb)
    · by_cases e : j = i
      · subst e
        rw [upd_same] at hb
        have : (fun b => pr' b = some j) b := by rw [hMi]; exact hdo b hb
        exact this
      · rw [upd_ne _ _ e] at hb
        exact (hMj j e b).2 (P.prow j hj b hb)
    · by_cases e : j = i
      · subst e
        rw [hthi, upd_same, upd_same]
        have ho : upd x.out j (match r.2.d with | none => some false | some _ => none) j = none := ho
        rw [upd_same] at ho
        have hs : r.2.d.isSome = true := by
          cases hd : r.2.d with
          | none => rw [hd] at ho; cases ho
          | some d => rfl
        exact ⟨hs, hl hs⟩
      · have ho : upd x.out i (match r.2.d with | none => some false | some _ => none) j = none := ho
        rw [upd_ne _ _ e] at ho
        rw [hth j e, upd_ne _ _ e, upd_ne _ _ e]
        obtain ⟨h1, h2, h3, h4⟩ := P.cont j (hkk j hj e) hjn ho
        refine ⟨h1, h2, h3, ?_⟩
        have hM : (fun b => pr' b = some j) = (fun b => pr b = some j) := funext fun b => propext (hMj j e b)
        rw [hM]
        refine (h4.le (Nat.sub_le_sub_left hc _)).keep hsz fun b hb => hother j b e hb
    · have e : j ≠ i := by omega
      rw [hth j e]
      exact P.fresh j (by omega) hjn
  refine ⟨hsz, fun b z hb => hfr b (hlt b z hb) (fun e => by rw [(P.prl b i e).2.2] at hb; cases hb) (fun e => by rw [P.base b (P.st.shlo b e).1] at hb; cases hb) (fun e => by rw [P.base b (e ▸ P.st.alo)] at hb; cases hb), ?_⟩
  have hout : (putO x i r cnt').out i = match r.2.d with | none => some false | some _ => none := upd_same _ _ _
  rcases hend with ⟨h1, rfl⟩ | ⟨l, h1, h2, h3, h4, rfl⟩
  · refine ⟨[], hinv [] (fun h => by rw [h1] at h; cases h), .inr (.inl ⟨?_, rfl⟩)⟩
    show (putO x i r cnt').out i = some false
    rw [hout, h1]
  · refine ⟨l, hinv l (fun _ => ⟨h2, h3, by rw [hMi]; exact h4⟩), .inl ⟨?_, rfl⟩⟩
    show (putO x i r cnt').out i = none
    rw [hout]
    cases hd : r.2.d with
    | none => rw [hd] at h1; cases h1
    | some d => rfl
theorem goO {V : Nat → Option Wait} {i : Nat} {c : Frame} {l : List Frame} (f : Frame) (fs : List Frame) (h : invO L g S k o x cs w) (hik : i < k) (hout : x.out i = none) (hcs : cs i = c :: l) (hc : x.cnt < 1048576) (hA : ∀ b, o b = none → Apart V b) (hlt : ∀ b r, o b = some r → b < w.heap.size) :
    Walk Try.prog false (DR V) (Fin (invO L g S) OX.out S k o (nextO x i) cs i f fs w) (G (c.finish (.tuple #[])) (l ++ f :: fs)) w := by
  obtain ⟨pr, hd, P⟩ := h
  have hi : i < g.n := Nat.lt_of_lt_of_le hik P.kn
  obtain ⟨h1, h2, h3, h4⟩ := P.cont i hik hi hout
  obtain ⟨d, hdd⟩ := Option.isSome_iff_exists.1 h1
  rw [show 1048577 - x.cnt = (1048577 - (x.cnt + 1)) + 1 from by omega] at h4
  have hn : nextO x i = putO x i (landO L (L.act x.s d) (x.th i).left (x.th i).ans) (x.cnt + 1) := by
    unfold nextO; rw [hdd]
  rw [hn]
  exact (h4 V f fs w x.s c l d (Nat.le_refl _) (fun _ _ => rfl) (P.rely hi hA hlt) P.I hdd hcs).mono fun g' w' hS => fin_of_stop P hi hik (fun j hj _ => hj) (Nat.le_refl _) P.kn (Nat.le_succ _) hlt hS
theorem invO_shape {i : Nat} (h : invO L g S k o x cs w) (hik : i < k) (hout : x.out i = none) : (∃ c l, cs i = c :: l) ∧ ∀ f ∈ cs i, Plain f := by
  obtain ⟨pr, hd, P⟩ := h
  obtain ⟨h1, h2, h3, h4⟩ := P.cont i hik (Nat.lt_of_lt_of_le hik P.kn) hout
  refine ⟨?_, h3⟩
  cases hc : cs i with
  | nil => exact absurd hc h2
  | cons c l => exact ⟨c, l, rfl⟩
theorem invO_thr {i : Nat} (h : invO L g S k o x cs w) (hi : i < S.n) : w.cell? ⟨S.tb, i, none⟩ = some (S.F i) := by
  obtain ⟨pr, hd, P⟩ := h
  exact P.cell (P.st.tb i (P.st.n ▸ hi)) P.st.tbs.1 P.st.tbs.2
theorem invO_sch {j : Nat} {z : Int} (h : invO L g S k o x cs w) (hz : S.sl[j]? = some z) : ∃ s so, S.sa = some ⟨s, so, none⟩ ∧ w.cell? ⟨s, so + j, none⟩ = some (.int .i64 z) := by
  obtain ⟨pr, hd, P⟩ := h
  obtain ⟨s, so, e, hc, h1, h2⟩ := P.st.sch j z hz
  exact ⟨s, so, e, P.cell hc h1 h2⟩
end
end
end Go.Proofs.Ytnnakajldnaldaa
