/- Part 21. -/
import Derived.Test.YtgfajibjedfkdaaJO4
import Derived.Test.YtgfajibjedfkdaaJO7
import Derived.Test.YtgfajibjedfkdaaJO9
import Derived.Test.YtgfajibjedfkdaaJO20
set_option linter.unusedSimpArgs false
set_option linter.unusedVariables false
set_option linter.unusedVariables false
set_option maxHeartbeats 8000000
set_option maxRecDepth 100000
namespace Go.Proofs.Ytgfajibjedfkdaa
open Go.Conc Go.RowKit Go.Relay
open Go.ConcN (upd upd_ne upd_same)
section
def CallP (main : Bool) (V : Nat → Option Wait) (f : FuncId) (args : Array Value) (w : World) (Post : Value → World → Prop) : Prop :=
  ∀ (c : Frame) (cs : List Frame), Plain c → Walk Try.prog main (DR V) (fun g w' => ∃ v, Post v w' ∧ g = G (c.finish v) cs) (G (Frame.enter Try.prog f args .normal) (c :: cs)) w
section
variable {main : Bool} {V : Nat → Option Wait} {Stop : Goroutine → World → Prop} {w : World} {b : Frame} {a : Act} {k : List Item} {cs : List Frame} {ops : Array Oper} {i : Nat} {rest : List Nat} {o : Oper}
theorem CallP.mono {f : FuncId} {args : Array Value} {Post Post' : Value → World → Prop} (h : CallP main V f args w Post) (hP : ∀ v w', Post v w' → Post' v w') : CallP main V f args w Post' :=
  fun c cs hp => (h c cs hp).mono fun g w' ⟨v, hv, e⟩ => ⟨v, hP v w' hv, e⟩
theorem CallP.lone {L : La} {f : FuncId} {args : Array Value} {Rel : Value → Ans → World → (Nat → Prop) → Prop} {R : L.Sg × Ans} (N : Nat) (y0 : L.Gh) (s : L.Sg) (r0 : Ans ⊕ L.D) (hat : ∀ v x w' P d, Rel v x w' P → Rel v x (w'.at d) P) (hA : ∀ b, Apart V b) (hI : L.I y0 s w) (hrun : runN L N (s, r0) = some R)
    (hc : ∀ (K : Lg L .nilIface) (e : K.E), K.w e = w → K.tgt e = (K.s e, r0) → SCall K.toLb f args e (fun v e' => ∃ x, Rel v x (K.w e') (K.mine e') ∧ K.tgt e' = (K.s e', .inl x))) :
    CallP main V f args w (fun v w' => ∃ y, Rel v R.2 w' (fun b => (w.heap.size ≤ b ∧ b < w'.heap.size) ∧ ¬ L.sh y b) ∧ Lone L y0 w R w' y) := by
  intro c cs hp
  have key := hc (nilL (V := V) hA main (fun g w' => ∃ v, (∃ y, Rel v R.2 w' (fun b => (w.heap.size ≤ b ∧ b < w'.heap.size) ∧ ¬ L.sh y b) ∧ Lone L y0 w R w' y) ∧ g = G (c.finish v) cs) cs y0 w R) { w := w, y := y0, s := s, tgt := (s, r0), fuel := N, le := L.refl _, inv := hI, size := Nat.le_refl _, old := fun _ _ _ => rfl, pub := fun _ h _ => h, run := hrun } rfl rfl c [] hp (fun _ h => by cases h) ?_
  · exact key
  · rintro v e' ⟨x, hr, ht⟩
    have hrn := e'.run
    have ht : e'.tgt = (e'.s, .inl x) := ht
    rw [ht, runN_inl] at hrn
    have hR := Option.some.inj hrn
    have r1 : R.1 = e'.s := (congrArg Prod.fst hR).symm
    have r2 : R.2 = x := (congrArg Prod.snd hR).symm
    refine .stop fun d => ⟨v, ⟨e'.y, ?_, ⟨e'.le, ?_, e'.size, fun b h1 h2 => e'.old b h1 h2, e'.pub⟩⟩, rfl⟩
    · rw [r2]
      exact hat _ _ _ _ d hr
    · rw [r1]; exact L.stable e'.inv fun _ _ => rfl
end
end
section
def RwR (sl : Value) (n : Nat) (xs : List Value) (w : World) : Prop := ∃ a c, sl = .slice a n c ∧ ∀ (j : Nat) (u : Value), xs[j]? = some u → ∃ b o, a = some ⟨b, o, none⟩ ∧ w.cell? ⟨b, o + j, none⟩ = some u
theorem RwR.old {sl : Value} {n : Nat} {xs : List Value} {w w' : World} (h : RwR sl n xs w) (hb : ∀ b, b < w.heap.size → w'.heap[b]? = w.heap[b]?) : RwR sl n xs w' := by
  obtain ⟨a, c, h1, h4⟩ := h
  refine ⟨a, c, h1, fun j z hj => ?_⟩
  obtain ⟨b, off, e, hc⟩ := h4 j z hj
  exact ⟨b, off, e, (World.cell?_of_block (a := ⟨b, off + j, none⟩) (hb b (cell_lt' hc))).trans hc⟩
section
variable {main : Bool} {V : Nat → Option Wait} {Stop : Goroutine → World → Prop} {w : World} {b : Frame} {a : Act} {k : List Item} {cs : List Frame} {ops : Array Oper} {i : Nat} {rest : List Nat} {o : Oper}
theorem Walk.copiedT (s x : Operand) (t e : TypeId) (ti : TypeInfo) (z : Value) (size bytes : Nat) (ht : Try.prog.underlying t = some (.slice e)) (hi : Try.prog.info? e = some ti) (hz : ti.zero = some z) (hsize : ti.size = size) (hby : ti.bytes = bytes) (hzs : z.cells.size = size) (hsz : 0 < size)
    (ho : ops[i]? = some o) (hw : Region.wanted o (yielded ops a.tmps) = true) (hk : b.kind ≠ .early) (hop : o.op = .call { callee := .builtin .append, args := #[s, x], argTypes := #[t, t] })
    (E : Nat) (hE : w.heap[E]? = some (.cells #[] e)) (hap : Apart V E) (sl : Value) (n : Nat) (xs : List Value) (hls : RwR sl n xs w) (hxl : xs.length = n * size) (hone : ∀ u ∈ xs, u.oneCell' = true) (hn : n ≤ maxLen) (hnb : n * bytes ≤ 140737488355328) (hs : a.eval s = .slice (some ⟨E, 0, none⟩) 0 0) (hx : a.eval x = sl)
    (h : ∀ g cap w', w'.ownsRow E e size (.slice (some ⟨g, 0, none⟩) n cap) n xs → (∀ b, b < w.heap.size → b ≠ E → w'.heap[b]? = w.heap[b]?) → w.heap.size ≤ w'.heap.size → Walk Try.prog main (DR V) Stop (G (b.at (a.put o.dst (.slice (some ⟨g, 0, none⟩) n cap)) (.inRegion ops rest :: k)) cs) w') :
    Walk Try.prog main (DR V) Stop (G (b.at a (.inRegion ops (i :: rest) :: k)) cs) w := by
  obtain ⟨xa, xc, rfl, hcells⟩ := hls
  have hEl := (Array.getElem?_eq_some_iff.1 hE).1
  have hown : w.ownsRow E e size (.slice (some ⟨E, 0, none⟩) 0 0) 0 [] := ⟨by simp, .inr ⟨E, 0, #[], rfl, Nat.le_refl _, hE, Nat.le_refl _, by decide, by simp, by simp⟩⟩
  by_cases h0 : n = 0
  · subst h0
    have hxs : xs = [] := List.eq_nil_of_length_eq_zero (by rw [hxl]; omega)
    subst hxs
    have hz := fun w es => run_app0 ht hi o.type ⟨E, 0, none⟩ xa xc w es
    refine Walk.opq ho hw hk (fun dd e he => ?_) (fun dd K hK => ?_)
    · rw [events_append_op s x _ hop hs hx, (hz (w.at dd) #[]).2] at he
      simp at he
    · exact uponK_append s x _ hop hs hx (hz (w.at dd) #[]).1 (hK _ (h E 0 w hown (fun _ _ _ => rfl) (Nat.le_refl _)))
  · have hpos : 0 < xs.length := by
      rw [hxl]
      exact Nat.mul_pos (by omega) hsz
    obtain ⟨xb, xo, e0, _⟩ := hcells 0 _ (List.getElem?_eq_getElem hpos)
    refine Walk.append s x t ho hw hk hop E e ti z size bytes ht hi hz hsize hby hzs hsz (.slice (some ⟨E, 0, none⟩) 0 0) 0 [] hs hown ⟨xb, xo, none⟩ n xc xs (by rw [hx, e0]) hxl (fun j u hu => ?_) hone (by omega) (by omega) (by rw [Nat.zero_add]; exact hnb) (by omega) (fun g hg => ?_) (fun g cap w' hown' hgr hat hlt => ?_)
    · obtain ⟨b', off', e, h'⟩ := hcells j u hu
      rw [e0] at e
      obtain ⟨rfl, rfl, _⟩ := Addr.mk.inj (Option.some.inj e)
      rw [add_none]; exact h'
    · have hg : E = g := Option.some.inj hg
      rw [← hg]; exact hap
    · rw [Nat.zero_add] at hown' ⊢
      rw [List.nil_append] at hown'
      exact h g cap w' hown' (fun b hb hne => hgr.block b hb fun e => hne (Option.some.inj e)) hgr.size
end
end
end Go.Proofs.Ytgfajibjedfkdaa
namespace Go.Relay
section
open Go.Conc Go.RowKit
open Go.ConcN (upd upd_ne upd_same)
def calmBV (ops : Array Oper) (m : Nat) : Bool := decide (m ≤ ops.size) && (List.range m).all fun i => (ops[i]?).any fun o => (match o.op with | .select _ _ => false | _ => true) && o.dst.isSome &&
  (List.range ops.size).all fun j => decide (j = i) && !(o.looksAt ops).any (fun t => o.dst == some t) ||
    (ops[j]?).any fun p => (o.dst != p.dst) && (!(o.looksAt ops).any (fun t => p.dst == some t) || decide (j < i) && waitsB ops i j || decide (i < j) && waitsB ops j i)
section
variable {ops : Array Oper} {i : Nat} {o : Oper}
theorem calm_atV {m : Nat} (hc : calmBV ops m = true) {i : Nat} {o : Oper} (hi : i < m) (ho : ops[i]? = some o) : (∀ cs b, o.op ≠ .select cs b) ∧ (∃ t, o.dst = some t ∧ t ∉ o.looksAt ops) ∧ ∀ (j : Nat) (p : Oper), ops[j]? = some p → j ≠ i → o.dst ≠ p.dst ∧ ∀ t, p.dst = some t → t ∈ o.looksAt ops → (j < i ∧ waitsB ops i j = true) ∨ (i < j ∧ waitsB ops j i = true) := by
  have hc := (Bool.and_eq_true _ _ ▸ hc : _ ∧ _)
  have h := List.all_eq_true.1 hc.2 i (List.mem_range.2 hi)
  rw [ho] at h
  simp only [Option.any_some, Bool.and_eq_true] at h
  obtain ⟨⟨h1, h2⟩, h3⟩ := h
  refine ⟨(fun cs b e => by rw [e] at h1; cases h1), ?_, fun j p hj hne => ?_⟩
  · have h := List.all_eq_true.1 h3 i (List.mem_range.2 (Array.getElem?_eq_some_iff.1 ho).1)
    rw [ho] at h
    obtain ⟨t, ht⟩ := Option.isSome_iff_exists.1 h2
    refine ⟨t, ht, fun hm => ?_⟩
    have hl : (o.looksAt ops).any (fun t => o.dst == some t) = true := List.any_eq_true.2 ⟨t, hm, by simp [ht]⟩
    simp [hl] at h
  · have h := List.all_eq_true.1 h3 j (List.mem_range.2 (Array.getElem?_eq_some_iff.1 hj).1)
    rw [hj] at h
    have hd : decide (j = i) = false := decide_eq_false hne
    rw [hd] at h
    simp only [Bool.false_and, Bool.false_or, Option.any_some, Bool.and_eq_true, bne_iff_ne, ne_eq] at h
    refine ⟨h.1, fun t ht hm => ?_⟩
    have hl : (o.looksAt ops).any (fun t => p.dst == some t) = true := List.any_eq_true.2 ⟨t, hm, by simp [ht]⟩
    rw [hl] at h
    simpa using h.2
theorem puts_updV {m : Nat} (hc : calmBV ops m = true) (hm : i < m) (vals : Nat → Value) {f : Nat → Bool} (hf : f i = false) (ho : ops[i]? = some o) (a : Act) : puts ops vals (upd f i true) a = (puts ops vals f a).put o.dst (vals i) := by
  have hi := (Array.getElem?_eq_some_iff.1 ho).1
  obtain ⟨_, ⟨t0, ht0, _⟩, hdist⟩ := calm_atV hc hm ho
  have only : ∀ j ∈ List.range ops.size, (ops[j]?).bind (·.dst) = some t0 → j = i := fun j hj h => by
    refine Classical.byContradiction fun hne => ?_
    have hjl := List.mem_range.1 hj
    have hoj := Array.getElem?_eq_getElem hjl
    rw [hoj] at h
    exact (hdist j _ hoj hne).1 (ht0.trans h.symm)
  refine act_ext (fun t => ?_) ?_
  · rw [put_slot, ht0]
    by_cases e : t0 = t
    · subst e
      rw [if_pos rfl]
      have h1 := slot_only (vals := vals) (f := upd f i true) (upd_same _ _ _) ((dst_of ho).trans ht0) (List.range ops.size) a only (List.mem_range.2 hi)
      have h2 : (puts ops vals f a).tmps[t0]? = a.tmps[t0]? := by
        have : (putsL ops vals f (List.range ops.size) a).tmps[t0]? = (putsL ops vals (fun _ => false) (List.range ops.size) a).tmps[t0]? := slot_congr _ a a rfl fun j hj h => by
          have := only j hj h
          subst this
          exact ⟨hf, rfl⟩
        rw [putsL_none _ a fun _ _ => rfl] at this
        exact this
      rw [h2]
      exact h1
    · rw [if_neg (by simpa using e)]
      exact slot_congr _ a a rfl fun j _ h => by
        have hne : j ≠ i := fun h' => by
          subst h'
          rw [dst_of ho, ht0] at h
          exact e (Option.some.inj h)
        exact ⟨upd_ne _ _ hne, rfl⟩
  · rw [put_defers]
    unfold puts
    rw [putsL_defers, putsL_defers]
end
section
variable {P : Program} {main : Bool} {V : Nat → Option Wait} {Stop : Goroutine → World → Prop} {b : Frame} {k : List Item} {cs : List Frame} {ops : Array Oper} {w : World} {a : Act}
theorem Walk.calmOpV {Z : World → Prop} {m i : Nat} (hz : Z w) {o : Oper} {vals : Nat → Value} {f : Nat → Bool} {rest : List Nat} (hc : calmBV ops m = true) (hC : Closed ops f) (hfi : f i = false) (hk : b.kind ≠ .early) (hi : i < m) (ho : ops[i]? = some o) (hd : ∀ e ∈ o.after, Region.binds .any e = true → f e.on = true)
    (hcond : CondU P main V ops Z o (puts ops vals (fun x => decide (x < i)) a) (vals i)) (hr' : Walk P main (DR V) Stop (G (b.at ((puts ops vals f a).put o.dst (vals i)) (.inRegion ops rest :: k)) cs) w) :
    Walk P main (DR V) Stop (G (b.at (puts ops vals f a) (.inRegion ops (i :: rest) :: k)) cs) w := by
  obtain ⟨hsel, ⟨t0, ht0, hself⟩, hdist⟩ := calm_atV hc hi ho
  have hlook : ∀ t ∈ o.looksAt ops, (puts ops vals f a).tmps[t]? = (puts ops vals (fun j => decide (j < i)) a).tmps[t]? := fun t ht => slot_congr _ a a rfl fun j hj hjd => by
    have hjl := List.mem_range.1 hj
    have hoj := Array.getElem?_eq_getElem hjl
    have hne : j ≠ i := fun e => by
      subst e
      rw [dst_of ho, ht0] at hjd
      cases hjd
      exact hself ht
    rw [hoj] at hjd
    rcases (hdist j _ hoj hne).2 t hjd ht with ⟨h1, h2⟩ | ⟨h1, h2⟩
    · exact ⟨(waits_at h2 ho hd).trans (decide_eq_true h1).symm, rfl⟩
    · refine ⟨Eq.trans ?_ (decide_eq_false (Nat.lt_asymm h1)).symm, rfl⟩
      cases hfj : f j with
      | false => rfl
      | true =>
        have := waits_at h2 hoj (hC j _ hoj hfj)
        rw [hfi] at this
        cases this
  obtain ⟨s1, s2, s3⟩ := same_look hlook hsel
  have hsz : (puts ops vals f a).tmps.size = (puts ops vals (fun j => decide (j < i)) a).tmps.size := by
    unfold puts
    rw [putsL_size, putsL_size]
  have hput : ∀ v, (puts ops vals (fun j => decide (j < i)) a).put o.dst v = (puts ops vals (fun j => decide (j < i)) a).put o.dst (vals i) → (puts ops vals f a).put o.dst v = (puts ops vals f a).put o.dst (vals i) := fun v e => by
    refine act_ext (fun t => ?_) (by rw [put_defers, put_defers])
    rw [put_slot, put_slot]
    split
    · next e' =>
      have h1 : ((puts ops vals (fun j => decide (j < i)) a).put o.dst v).tmps[t]? = ((puts ops vals (fun j => decide (j < i)) a).put o.dst (vals i)).tmps[t]? := by rw [e]
      rw [put_slot, put_slot, if_pos e', if_pos e'] at h1
      by_cases hl : t < (puts ops vals f a).tmps.size
      · rw [Array.getElem?_eq_getElem (hsz ▸ hl)] at h1
        simp only [Option.map_some] at h1
        rw [Array.getElem?_eq_getElem hl]
        exact h1
      · rw [Array.getElem?_eq_none (by omega)]; rfl
    · rfl
  rcases hcond with ⟨c1, c2⟩ | ⟨c1, c2, c3⟩ | ⟨c1, f', fn, args, ats, e1, e2, e3, e4, e5⟩
  · rw [← s2] at c1
    rw [c2] at hr'
    exact Walk.ctl rfl (fun w => stepG_unwanted ho c1) hr'
  · rw [← s2] at c1
    rw [← s1] at c2 c3
    refine Walk.opq ho c1 hk (c2 w hz) fun d' K hK => ?_
    have h3 := c3 w hz d'
    revert h3
    generalize (execOp (puts ops vals f a).eval o).run P (w.at d') = rr
    intro h3
    unfold uponK at h3 ⊢
    split at h3
    · obtain ⟨x1, rfl⟩ := h3
      refine hK _ ?_
      rw [hput _ x1]; exact hr'
    · obtain ⟨x1, rfl⟩ := h3
      refine hK _ ?_
      rw [hput _ x1]; exact hr'
    · exact h3.elim
  · rw [← s2] at c1
    have hargs : args.map (puts ops vals f a).eval = args.map (puts ops vals (fun j => decide (j < i)) a).eval := Array.map_congr_left fun x hx => s3 x (by rw [e1]; simp [Op.operands, Call.operands, hx])
    rw [← hargs] at e5
    exact Walk.callV (e5 w hz) ho c1 hk e1 e2 e3 e4 hr'
theorem Walk.drawnCWV {id m : Nat} (hm : P.follows .mixedOrders = true) (hsz : ops.size = m) (hlow : lowW ops = true) (hc : calmBV ops m = true) (hk : b.kind ≠ .early)
    (h : Cm P main V ops (· = w) (fun a => Walk P main (DR V) Stop (G (b.at a (.inRegion ops [] :: k)) cs) w) (List.range m) a) : Walk P main (DR V) Stop (G (b.at a (.code (.region id ops true) :: k)) cs) w := by
  rw [List.range_eq_range'] at h
  have h0 : Cm P main V ops (· = w) (fun a => Walk P main (DR V) Stop (G (b.at a (.inRegion ops [] :: k)) cs) w) (List.range' 0 m) (puts ops (fun _ => undef) (fun j => decide (j < 0)) a) := by
    have : puts ops (fun _ => undef) (fun j => decide (j < 0)) a = a := putsL_none _ a fun j _ => decide_eq_false (Nat.not_lt_zero j)
    rw [this]; exact h
  obtain ⟨vals, _, hcond, hend⟩ := cm_vals (Z := (· = w)) (w := w) rfl (Nat.le_of_eq hsz.symm) m 0 (fun _ => undef) a (by omega) h0
  refine Walk.drawnE (E := World) (V := fun _ => V) (Stop := fun _ => Stop) (cs := fun _ => cs) (w := fun w => w) (Inv := fun f x w' => x = puts ops vals f a ∧ ∃ d, w' = w.at d) w hm hlow ⟨(puts_zero vals a).symm, w.drawn, rfl⟩ ?_ ?_
  · rintro f i o _ _ ⟨rfl, d, rfl⟩ hC hf ho hd rest hr
    have hi : i < m := by have := (Array.getElem?_eq_some_iff.1 ho).1; omega
    refine Walk.back ?_ d
    refine Walk.calmOpV (Z := (· = w)) rfl hc hC hf hk hi ho hd (hcond i o (Nat.zero_le _) hi ho) ?_
    rw [← puts_updV hc hi vals hf ho a]
    exact hr _ (w.at w.drawn) ⟨rfl, w.drawn, rfl⟩
  · rintro f _ _ ⟨rfl, d, rfl⟩ hall
    refine Walk.back ?_ d
    have : puts ops vals f a = puts ops vals (fun j => decide (j < m)) a := puts_congr (fun j hj => ⟨(hall j hj).trans (decide_eq_true (hsz ▸ hj)).symm, fun _ => rfl⟩) a
    rw [this]
    exact hend
end
end
end Go.Relay
namespace Go.Proofs.Ytgfajibjedfkdaa
open Go.Conc Go.RowKit Go.Relay
open Go.ConcN (upd upd_ne upd_same)
section
noncomputable def mdO (vo cv vb : Value) (q tries way : Int) (u : Nat → Value) : Frame :=
  (base 3).at { tmps := #[u 0, .int .i64 q, .int .i64 tries, .int .i64 way, u 4, u 5, u 6, u 7, u 8, vo, vb, u 11, u 12, u 13, u 14, u 15, u 16, cv, u 18, u 19, u 20, u 21, u 22, u 23, u 24, u 25, u 26, u 27, u 28, u 29, u 30, u 31, u 32, u 33, u 34, u 35, u 36, u 37, u 38, u 39, u 40, u 41, u 42, u 43, u 44, u 45, u 46, u 47, u 48, u 49, u 50, u 51, u 52, u 53, u 54, u 55, u 56, u 57, u 58, u 59, u 60, u 61, u 62, u 63, u 64, u 65, u 66, u 67, u 68, u 69, u 70, u 71, u 72, u 73, u 74, u 75, u 76, u 77, u 78, u 79, u 80, u 81, u 82, u 83, u 84, u 85, u 86, u 87, u 88, u 89, u 90, u 91, u 92, u 93, u 94, u 95, u 96, u 97, u 98, u 99, u 100, u 101, u 102, u 103, u 104, u 105, u 106, u 107, u 108, u 109, u 110, u 111, u 112, u 113, u 114, u 115, u 116, u 117, u 118, u 119, u 120, u 121, u 122, u 123, u 124, u 125, u 126, u 127, u 128, u 129, u 130, u 131, u 132, u 133, u 134, u 135, u 136, u 137, u 138, u 139, u 140, u 141, u 142, u 143, u 144, u 145, u 146, u 147, u 148, u 149, u 150, u 151, u 152, u 153, u 154, u 155, u 156, u 157, u 158, u 159, u 160, u 161, u 162, u 163, u 164, u 165, u 166, u 167, u 168, u 169, u 170, u 171, u 172, u 173, u 174, u 175, u 176, u 177, u 178, u 179, u 180, u 181, u 182, u 183, u 184, u 185, u 186, u 187, u 188, u 189, u 190, u 191, u 192, u 193, u 194, u 195, u 196, u 197, u 198, u 199, u 200, u 201, u 202, u 203, u 204, u 205, u 206, u 207, u 208, u 209, u 210, u 211, u 212, u 213, u 214, u 215, u 216, u 217, u 218, u 219, u 220, u 221, u 222, u 223, u 224, u 225, u 226, u 227, u 228, u 229, u 230, u 231, u 232, u 233, u 234, u 235, u 236, u 237, u 238, u 239, u 240, u 241, u 242, u 243, u 244, u 245, u 246, u 247, u 248, u 249, u 250, u 251, u 252, u 253, u 254, u 255, u 256, u 257, u 258, u 259, u 260, u 261, u 262, u 263, u 264, u 265, u 266, u 267, u 268, u 269, u 270, u 271, u 272, u 273, u 274, u 275, u 276, u 277, u 278, u 279, u 280, u 281, u 282, u 283, u 284, u 285, u 286, u 287, u 288, u 289, u 290, u 291, u 292, u 293, u 294, u 295, u 296, u 297], defers := [] } [.inRegion reg3_22 [0, 1, 2, 3], .code (.seq (.region 23 reg3_23 false) (.seq (.seq (.region 24 reg3_24 false) (.block 4 (.loop (.seq (.region 25 reg3_25 false) (.seq (.cond (.tmp 94 ) (.skip) (.exit 4)) (.seq (.block 5 (.seq (.region 26 reg3_26 false) (.seq (.seq (.region 27 reg3_27 false) (.cond (.tmp 107 ) (.seq (.region 28 reg3_28 false) (.cond (.tmp 119 ) (.seq (.region 29 reg3_29 false) (.ret)) (.skip))) (.seq (.region 30 reg3_30 true) (.cond (.tmp 128 ) (.seq (.region 31 reg3_31 false) (.ret)) (.skip))))) (.region 32 reg3_32 false)))) (.region 33 reg3_33 false))))))) (.seq (.region 34 reg3_34 false) (.seq (.region 35 reg3_35 false) (.seq (.region 36 reg3_36 false) (.seq (.seq (.region 37 reg3_37 false) (.block 6 (.loop (.seq (.region 38 reg3_38 false) (.seq (.cond (.tmp 152 ) (.skip) (.exit 6)) (.seq (.block 7 (.seq (.region 39 reg3_39 false) (.region 40 reg3_40 false))) (.region 41 reg3_41 false))))))) (.seq (.block 8 (.seq (.region 42 reg3_42 false) (.cond (.tmp 162 ) (.seq (.region 43 reg3_43 false) (.ret)) (.seq (.region 44 reg3_44 false) (.cond (.tmp 182 ) (.seq (.region 45 reg3_45 false) (.ret)) (.seq (.region 46 reg3_46 false) (.cond (.tmp 213 ) (.seq (.region 47 reg3_47 false) (.ret)) (.skip)))))))) (.seq (.region 48 reg3_48 false) (.seq (.region 49 reg3_49 false) (.seq (.seq (.region 50 reg3_50 false) (.cond (.tmp 243 ) (.seq (.region 51 reg3_51 false) (.ret)) (.skip))) (.seq (.region 52 reg3_52 false) (.seq (.seq (.region 53 reg3_53 false) (.cond (.tmp 287 ) (.seq (.region 54 reg3_54 false) (.ret)) (.skip))) (.seq (.seq (.region 55 reg3_55 false) (.cond (.tmp 289 ) (.seq (.region 56 reg3_56 false) (.ret)) (.skip))) (.seq (.region 57 reg3_57 false) (.ret)))))))))))))))]
noncomputable def hdOc (vo vb kv bp : Value) (q tries way : Int) (n i : Nat) (u : Nat → Value) : Frame :=
  (base 3).at { tmps := #[u 0, .int .i64 q, .int .i64 tries, .int .i64 way, u 4, u 5, u 6, u 7, u 8, vo, vb, u 11, u 12, u 13, u 14, u 15, u 16, u 17, kv, bp, u 20, u 21, u 22, u 23, u 24, u 25, u 26, u 27, u 28, u 29, u 30, u 31, u 32, u 33, u 34, u 35, u 36, u 37, u 38, u 39, u 40, u 41, u 42, u 43, u 44, u 45, u 46, u 47, u 48, u 49, u 50, u 51, u 52, u 53, u 54, u 55, u 56, u 57, u 58, u 59, u 60, u 61, u 62, u 63, u 64, u 65, u 66, u 67, u 68, u 69, u 70, u 71, u 72, u 73, u 74, u 75, u 76, u 77, u 78, u 79, u 80, u 81, u 82, u 83, u 84, u 85, u 86, u 87, u 88, u 89, u 90, u 91, .int .i64 n, .int .i64 i, u 94, u 95, u 96, u 97, u 98, u 99, u 100, u 101, u 102, u 103, u 104, u 105, u 106, u 107, u 108, u 109, u 110, u 111, u 112, u 113, u 114, u 115, u 116, u 117, u 118, u 119, u 120, u 121, u 122, u 123, u 124, u 125, u 126, u 127, u 128, u 129, u 130, u 131, u 132, u 133, u 134, u 135, u 136, u 137, u 138, u 139, u 140, u 141, u 142, u 143, u 144, u 145, u 146, u 147, u 148, u 149, u 150, u 151, u 152, u 153, u 154, u 155, u 156, u 157, u 158, u 159, u 160, u 161, u 162, u 163, u 164, u 165, u 166, u 167, u 168, u 169, u 170, u 171, u 172, u 173, u 174, u 175, u 176, u 177, u 178, u 179, u 180, u 181, u 182, u 183, u 184, u 185, u 186, u 187, u 188, u 189, u 190, u 191, u 192, u 193, u 194, u 195, u 196, u 197, u 198, u 199, u 200, u 201, u 202, u 203, u 204, u 205, u 206, u 207, u 208, u 209, u 210, u 211, u 212, u 213, u 214, u 215, u 216, u 217, u 218, u 219, u 220, u 221, u 222, u 223, u 224, u 225, u 226, u 227, u 228, u 229, u 230, u 231, u 232, u 233, u 234, u 235, u 236, u 237, u 238, u 239, u 240, u 241, u 242, u 243, u 244, u 245, u 246, u 247, u 248, u 249, u 250, u 251, u 252, u 253, u 254, u 255, u 256, u 257, u 258, u 259, u 260, u 261, u 262, u 263, u 264, u 265, u 266, u 267, u 268, u 269, u 270, u 271, u 272, u 273, u 274, u 275, u 276, u 277, u 278, u 279, u 280, u 281, u 282, u 283, u 284, u 285, u 286, u 287, u 288, u 289, u 290, u 291, u 292, u 293, u 294, u 295, u 296, u 297], defers := [] } [.code (.seq (.region 25 reg3_25 false) (.seq (.cond (.tmp 94 ) (.skip) (.exit 4)) (.seq (.block 5 (.seq (.region 26 reg3_26 false) (.seq (.seq (.region 27 reg3_27 false) (.cond (.tmp 107 ) (.seq (.region 28 reg3_28 false) (.cond (.tmp 119 ) (.seq (.region 29 reg3_29 false) (.ret)) (.skip))) (.seq (.region 30 reg3_30 true) (.cond (.tmp 128 ) (.seq (.region 31 reg3_31 false) (.ret)) (.skip))))) (.region 32 reg3_32 false)))) (.region 33 reg3_33 false)))), .inLoop (.seq (.region 25 reg3_25 false) (.seq (.cond (.tmp 94 ) (.skip) (.exit 4)) (.seq (.block 5 (.seq (.region 26 reg3_26 false) (.seq (.seq (.region 27 reg3_27 false) (.cond (.tmp 107 ) (.seq (.region 28 reg3_28 false) (.cond (.tmp 119 ) (.seq (.region 29 reg3_29 false) (.ret)) (.skip))) (.seq (.region 30 reg3_30 true) (.cond (.tmp 128 ) (.seq (.region 31 reg3_31 false) (.ret)) (.skip))))) (.region 32 reg3_32 false)))) (.region 33 reg3_33 false)))), .inBlock 4, .code (.seq (.region 34 reg3_34 false) (.seq (.region 35 reg3_35 false) (.seq (.region 36 reg3_36 false) (.seq (.seq (.region 37 reg3_37 false) (.block 6 (.loop (.seq (.region 38 reg3_38 false) (.seq (.cond (.tmp 152 ) (.skip) (.exit 6)) (.seq (.block 7 (.seq (.region 39 reg3_39 false) (.region 40 reg3_40 false))) (.region 41 reg3_41 false))))))) (.seq (.block 8 (.seq (.region 42 reg3_42 false) (.cond (.tmp 162 ) (.seq (.region 43 reg3_43 false) (.ret)) (.seq (.region 44 reg3_44 false) (.cond (.tmp 182 ) (.seq (.region 45 reg3_45 false) (.ret)) (.seq (.region 46 reg3_46 false) (.cond (.tmp 213 ) (.seq (.region 47 reg3_47 false) (.ret)) (.skip)))))))) (.seq (.region 48 reg3_48 false) (.seq (.region 49 reg3_49 false) (.seq (.seq (.region 50 reg3_50 false) (.cond (.tmp 243 ) (.seq (.region 51 reg3_51 false) (.ret)) (.skip))) (.seq (.region 52 reg3_52 false) (.seq (.seq (.region 53 reg3_53 false) (.cond (.tmp 287 ) (.seq (.region 54 reg3_54 false) (.ret)) (.skip))) (.seq (.seq (.region 55 reg3_55 false) (.cond (.tmp 289 ) (.seq (.region 56 reg3_56 false) (.ret)) (.skip))) (.seq (.region 57 reg3_57 false) (.ret)))))))))))))]
theorem SrcA.rw {a : Option Addr} {l : List (Option Nat)} {c : Nat} {w : World} (h : SrcA a l w) : RwR (.slice a l.length c) l.length (l.map srcO) w := by
  refine ⟨a, c, rfl, fun j u hu => ?_⟩
  rw [List.getElem?_map, Option.map_eq_some_iff] at hu
  obtain ⟨o, ho, rfl⟩ := hu
  obtain ⟨b, off, e, hc⟩ := h j o ho
  exact ⟨b, off, e, hc⟩
structure MiI (w : World) (o0 : Option Nat) (bl : List (Option Nat)) (kb bb g sc : Nat) (w' : World) : Prop where
  kp : ∀ (j : Nat) (o : Option Nat), bl[j]? = some o → w'.cell? ⟨kb, j, none⟩ = some (srcO o)
  klo : w.heap.size ≤ kb ∧ kb < w'.heap.size
  bar : w'.heap[bb]? = some (.cells #[.slice (some ⟨g, 0, none⟩) (kept (o0 :: bl) (o0 :: bl).length).length sc, .int .u32 0] 54)
  blo : w.heap.size ≤ bb
  src : ∃ arr : Array Value, w'.heap[g]? = some (.cells arr 32) ∧ ∀ (i r : Nat), (kept (o0 :: bl) (o0 :: bl).length)[i]? = some (some r) → arr[i]? = some (srcV r)
  glo : w.heap.size ≤ g
  cap : (kept (o0 :: bl) (o0 :: bl).length).length ≤ sc
  old : ∀ b, b < w.heap.size → w'.heap[b]? = w.heap[b]?
  size : w.heap.size ≤ w'.heap.size
theorem MiI.at {w : World} {o0 : Option Nat} {bl : List (Option Nat)} {kb bb g sc : Nat} {w' : World} (h : MiI w o0 bl kb bb g sc w') (d : Nat) : MiI w o0 bl kb bb g sc (w'.at d) := ⟨h.kp, h.klo, h.bar, h.blo, h.src, h.glo, h.cap, h.old, h.size⟩
section
variable {main : Bool} {V : Nat → Option Wait}
theorem oc_mid (hA : ∀ b, Apart V b) (vo : Value) (o0 : Option Nat) (bl : List (Option Nat)) (hbl : bl.length ≤ 100) (ba : Option Addr) (bc : Nat) (q tries way : Int) (w : World) (hb : SrcA ba bl w) (u : Nat → Value) (cs : List Frame) :
    Walk Try.prog main (DR V) (fun gr w' => ∃ kb kc bb g sc, (∃ u, gr = G (hdOc vo (.slice ba bl.length bc) (.slice (some ⟨kb, 0, none⟩) bl.length kc) (.pointer (some ⟨bb, 0, none⟩)) q tries way bl.length 0 u) cs) ∧ MiI w o0 bl kb bb g sc w') (G (mdO vo (srcO o0) (.slice ba bl.length bc) q tries way u) cs) w := by
  obtain ⟨ti, hti, htz, htv, htb⟩ := tiSrc
  have hrw := hb.rw (c := bc)
  obtain ⟨cv, hcv⟩ : ∃ cv, srcO o0 = cv := ⟨_, rfl⟩
  obtain ⟨n, hn⟩ : ∃ n, bl.length = n := ⟨_, rfl⟩
  rw [hn] at hrw hbl ⊢
  rw [hcv]
  conv => arg 5; unfold mdO
  (refine Walk.oa ?_; try walk_nrm)
  have s1 : (w.alloc (.cells #[] 32)).heap.size = w.heap.size + 1 := by simp
  have o1 : ∀ b, b < w.heap.size → (w.alloc (.cells #[] 32)).heap[b]? = w.heap[b]? := fun b hb => heap_new_lt _ _ hb
  have d1 := heap_alloc_new w (.cells #[] 32)
  have hrw1 := hrw.old (w' := w.alloc (.cells #[] 32)) o1
  have hb1 := hb.same (w' := w.alloc (.cells #[] 32)) o1
  obtain ⟨E, hE⟩ : ∃ E, w.heap.size = E := ⟨_, rfl⟩
  rw [hE] at s1 o1 d1 ⊢
  generalize w.alloc (.cells #[] 32) = w1 at *
  clear hrw hb
  repeat (first | (refine Walk.oq ?_; try walk_nrm) | (refine Walk.un ?_; walk_nrm))
  refine Walk.copiedT (.tmp 85) (.tmp 86) 25 32 ti .nilIface 1 16 huSrc hti htv htz htb (by rfl) (by decide) (ho_of (by conv => lhs; whnf) (by kernel_rfl)) (by rfl) (by decide) rfl E d1 (hA E) (.slice ba n bc) n (bl.map srcO) hrw1 (by simp [hn]) (fun u hu => ?_) (by simp only [maxLen]; omega) (by omega) rfl rfl ?_
  · obtain ⟨o, _, rfl⟩ := List.mem_map.1 hu
    exact srcO_one o
  intro kb kc w2 hown hold hsz
  have hb2 : SrcA ba bl w2 := fun j o hj => by
    obtain ⟨b, off, e, hc⟩ := hb1 j o hj
    refine ⟨b, off, e, (World.cell?_of_block (a := ⟨b, off + j, none⟩) (hold b (cell_lt' hc) fun h => ?_)).trans hc⟩
    subst h
    rw [cell_of d1] at hc
    simp at hc
  have hkb := hown.lt kb rfl
  have hkp : ∀ (j : Nat) (o : Option Nat), bl[j]? = some o → w2.cell? ⟨kb, j, none⟩ = some (srcO o) := fun j o hj => by
    obtain ⟨g, e, _, _, hc⟩ := row_at hown (j := j) (x := srcO o) (by rw [List.getElem?_map, hj]; rfl)
    cases e
    exact hc
  have old2 : ∀ b, b < E → w2.heap[b]? = w.heap[b]? := fun b hb => (hold b (by omega) (by omega)).trans (o1 b hb)
  have hnw := newB_g (main := main) o0 bl ba bc (by omega) hA w2 hb2
  rw [hcv, hn] at hnw
  clear hown hold hrw1 hb1 d1 o1 hb2
  walk_nrm
  repeat (first | refine Walk.cx ?_ | (refine Walk.cReg ?_; simp only [z3]) | (refine Walk.oq ?_; try walk_nrm) | (refine Walk.un ?_; walk_nrm))
  refine Walk.callW (Post := fun v w' => ∃ bb g sc, v = .pointer (some ⟨bb, 0, none⟩) ∧ NewB w2 (kept (o0 :: bl) (o0 :: bl).length) bb g sc w' ∧ w2.heap.size ≤ g) ?_ (ho_of (by conv => lhs; whnf) (by kernel_rfl)) (by rfl) (by decide) rfl Try.func13 (by kernel_rfl) (by rfl) ?_
  · try walk_nrm
    exact hnw
  rintro v w3 ⟨bb, g, sc, rfl, N, hg⟩
  clear hnw
  have hM : MiI w o0 bl kb bb g sc w3 := by
    have x1 := N.lo
    have x2 := N.size
    refine ⟨fun j o hj => ?_, ⟨by omega, by omega⟩, N.bar, by omega, N.src, by omega, N.cap, fun b hb => (N.old b (by omega)).trans (old2 b (by omega)), by omega⟩
    exact (World.cell?_of_block (a := ⟨kb, j, none⟩) (N.old kb hkb.2)).trans (hkp j o hj)
  clear N hkp old2 hg hkb hsz s1
  walk_nrm
  repeat (first | refine Walk.cx ?_ | (refine Walk.cReg ?_; simp only [z3]) | (refine Walk.oq ?_; try walk_nrm) | (refine Walk.un ?_; walk_nrm))
  refine Walk.ctl rfl (fun w => stepG_loop) ?_
  refine .stop fun d => ⟨kb, kc, bb, g, sc, at_slots ?_, hM.at d⟩
  simp only [hdOc]
  rfl
theorem tailL (r0 : Nat) (rs : List Nat) : behL (r0 :: rs) = srcV r0 :: (none :: rs.flatMap fun r => [some r, none]).map srcO := by
  have e : ∀ rs : List Nat, behL rs = (rs.flatMap fun r => [some r, none]).map srcO := fun rs => by
    induction rs with
    | nil => rfl
    | cons r rs ih =>
      have e1 : behL (r :: rs) = [srcV r, .nilIface] ++ behL rs := by simp [behL]
      rw [e1, ih]
      simp [srcO]
  rw [e]
  simp [srcO]
theorem oc_none (vo vb nv lv : Value) (oc bc : Nat) (oa ba : Option Addr) (ho : vo = .slice oa 0 oc) (hb : vb = .slice ba 0 bc) (q tries way : Int) (u : Nat → Value) (cs : List Frame) (w : World) :
    Walk Try.prog main (DR V) (fun gr w' => (∃ u, gr = G (mdO vo .nilIface vb q tries way u) cs) ∧ ∃ d, w' = w.at d) (G (hdOa vo vb nv lv q tries way 0 0 u) cs) w := by
  subst ho hb
  conv => arg 5; unfold hdOa
  repeat (first | refine Walk.cx ?_ | (refine Walk.cReg ?_; simp only [z3]) | (refine Walk.oq ?_; try walk_nrm) | (refine Walk.un ?_; walk_nrm))
  refine .stop fun d => ⟨at_slots ?_, d, rfl⟩
  simp only [mdO]
  rfl
theorem oc_some (nv lv : Value) (oc bc K m go gb r0 : Nat) (hK : 0 < K) (hK5 : K ≤ 5) (hm : 1 + m = 2 * K) (hbc : 2 * K ≤ bc) (q tries way : Int) (u : Nat → Value) (cs : List Frame) (w : World) (h0 : w.cell? ⟨go, 0, none⟩ = some (.pointer (some ⟨r0, 0, none⟩))) :
    Walk Try.prog main (DR V) (fun gr w' => (∃ u, gr = G (mdO (.slice (some ⟨go, 0, none⟩) K oc) (.iface 27 (.pointer (some ⟨r0, 0, none⟩))) (.slice (some ⟨gb, 1, none⟩) m (bc - 1)) q tries way u) cs) ∧ ∃ d, w' = w.at d) (G (hdOa (.slice (some ⟨go, 0, none⟩) K oc) (.slice (some ⟨gb, 0, none⟩) (2 * K) bc) nv lv q tries way K K u) cs) w := by
  have hi1 : decide ((K : Int) < K) = false := by simp
  have hi3 : decide (K < K) = false := by simp
  have hj1 : decide ((0 : Int) < K) = true := by simp; omega
  have hj3 : decide (0 < K) = true := by simp; omega
  have hj4 : (0 : Int) < K := by omega
  have r1 := run_ifaceR
  have r2 := ev_ifaceR
  obtain ⟨ti, hti, htz, _, _⟩ := tiSrc
  obtain ⟨a', ha', hf⟩ := run_from huSrc hti htz gb 0 1 m bc (by omega)
  obtain rfl := ha' (by omega)
  have hs1 : ∀ w, (Instr.sliceAt 25 (.slice (some ⟨gb, 0, none⟩) (1 + m) bc) (some (.int .i64 1)) none none).run Try.prog w = .ok (.slice (some ⟨gb, 1, none⟩) m (bc - 1)) w := fun w => by simpa using (hf w #[]).1
  have hs2 : ∀ w es, (Instr.sliceAt 25 (.slice (some ⟨gb, 0, none⟩) (1 + m) bc) (some (.int .i64 1)) none none).events Try.prog w es = es := fun w es => by simpa using (hf w es).2
  obtain ⟨L, hL⟩ : ∃ L, 2 * K = L := ⟨_, rfl⟩
  rw [hm, hL] at hs1 hs2
  rw [hL]
  clear hf ha' hm hbc hL
  conv => arg 5; unfold hdOa
  repeat (first | refine Walk.cx ?_ | (refine Walk.cReg ?_; simp only [z3]) | (refine Walk.oq ?_; try walk_nrm) | (refine Walk.un ?_; walk_nrm))
  (refine Walk.drawnCWV (by kernel_rfl) size3_21 (by kernel_rfl) (by kernel_rfl) (by decide) ?_; simp only [List.range, List.range.loop]; repeat (first | (refine Cm.oq ?_) | (refine Cm.unw (ho_of (by conv => lhs; whnf) (by kernel_rfl)) (by rfl) ?_; walk_nrm)))
  refine Cm.done ?_
  try walk_nrm
  repeat (first | refine Walk.cx ?_ | (refine Walk.cReg ?_; simp only [z3]) | (refine Walk.oq ?_; try walk_nrm) | (refine Walk.un ?_; walk_nrm))
  refine .stop fun d => ⟨at_slots ?_, d, rfl⟩
  simp only [mdO]
  rfl
end
end
end Go.Proofs.Ytgfajibjedfkdaa
