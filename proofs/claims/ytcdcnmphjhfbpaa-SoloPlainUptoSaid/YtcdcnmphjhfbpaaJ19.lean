/- Part 19. -/
import Derived.Test.YtcdcnmphjhfbpaaJ6
import Derived.Test.YtcdcnmphjhfbpaaJ13
import Derived.Test.YtcdcnmphjhfbpaaJ18
set_option linter.unusedSimpArgs false
set_option linter.unusedVariables false
set_option linter.unusedVariables false
set_option maxHeartbeats 8000000
set_option maxRecDepth 100000
namespace Go.Relay
section
open Go.Conc Go.RowKit
open Go.ConcN (upd upd_ne upd_same)
def calmBV (ops : Array Oper) (m : Nat) : Bool := decide (m ≤ ops.size) && (List.range m).all fun i => (ops[i]?).any fun o => (match o.op with | .select _ _ => false | _ => true) && o.dst.isSome &&
  (List.range ops.size).all fun j => decide (j = i) && !(o.looksAt ops).any (fun t => o.dst == some t) ||
    (ops[j]?).any fun p => (o.dst != p.dst) && (!(o.looksAt ops).any (fun t => p.dst == some t) || decide (j < i) && waitsB ops i j || decide (i < j) && waitsB ops j i)
section
variable {ops : Array Oper} {i : Nat} {o : Oper}
theorem calm_atV {m : Nat} (hc : calmBV ops m = true) {i : Nat} {o : Oper} (hi : i < m) (ho : ops[i]? = some o) : (∀ cs b, o.op ≠ .select cs b) ∧ (∃ t, o.dst = some t ∧ t ∉ o.looksAt ops) ∧ ∀ (j : Nat) (p : Oper), ops[j]? = some p → j ≠ i → o.dst ≠ p.dst ∧ ∀ t, p.dst = some t → t ∈ o.looksAt ops → (j < i ∧ waitsB ops i j = true) ∨ (i < j ∧ waitsB ops j i = true) := by
  have hc := (Bool.and_eq_true _ _ ▸ hc : _ ∧ _)
  have h := List.all_eq_true.1 hc.2 i (List.mem_range.2 hi)
  rw [ho] at h
  simp only [Option.any_some, Bool.and_eq_true] at h
  obtain ⟨⟨h1, h2⟩, h3⟩ := h
  refine ⟨(fun cs b e => by rw [e] at h1; cases h1), ?_, fun j p hj hne => ?_⟩
  · have h := List.all_eq_true.1 h3 i (List.mem_range.2 (Array.getElem?_eq_some_iff.1 ho).1)
    rw [ho] at h
    obtain ⟨t, ht⟩ := Option.isSome_iff_exists.1 h2
    refine ⟨t, ht, fun hm => ?_⟩
    have hl : (o.looksAt ops).any (fun t => o.dst == some t) = true := List.any_eq_true.2 ⟨t, hm, by simp [ht]⟩
    simp [hl] at h
  · have h := List.all_eq_true.1 h3 j (List.mem_range.2 (Array.getElem?_eq_some_iff.1 hj).1)
    rw [hj] at h
    have hd : decide (j = i) = false := decide_eq_false hne
    rw [hd] at h
    simp only [Bool.false_and, Bool.false_or, Option.any_some, Bool.and_eq_true, bne_iff_ne, ne_eq] at h
    refine ⟨h.1, fun t ht hm => ?_⟩
    have hl : (o.looksAt ops).any (fun t => p.dst == some t) = true := List.any_eq_true.2 ⟨t, hm, by simp [ht]⟩
    rw [hl] at h
    simpa using h.2
theorem puts_updV {m : Nat} (hc : calmBV ops m = true) (hm : i < m) (vals : Nat → Value) {f : Nat → Bool} (hf : f i = false) (ho : ops[i]? = some o) (a : Act) : puts ops vals (upd f i true) a = (puts ops vals f a).put o.dst (vals i) := by
  have hi := (Array.getElem?_eq_some_iff.1 ho).1
  obtain ⟨_, ⟨t0, ht0, _⟩, hdist⟩ := calm_atV hc hm ho
  have only : ∀ j ∈ List.range ops.size, (ops[j]?).bind (·.dst) = some t0 → j = i := fun j hj h => by
    refine Classical.byContradiction fun hne => ?_
    have hjl := List.mem_range.1 hj
    have hoj := Array.getElem?_eq_getElem hjl
    rw [hoj] at h
    exact (hdist j _ hoj hne).1 (ht0.trans h.symm)
  refine act_ext (fun t => ?_) ?_
  · rw [put_slot, ht0]
    by_cases e : t0 = t
    · subst e
      rw [if_pos rfl]
      have h1 := slot_only (vals := vals) (f := upd f i true) (upd_same _ _ _) ((dst_of ho).trans ht0) (List.range ops.size) a only (List.mem_range.2 hi)
      have h2 : (puts ops vals f a).tmps[t0]? = a.tmps[t0]? := by
        have : (putsL ops vals f (List.range ops.size) a).tmps[t0]? = (putsL ops vals (fun _ => false) (List.range ops.size) a).tmps[t0]? := slot_congr _ a a rfl fun j hj h => by
          have := only j hj h
          subst this
          exact ⟨hf, rfl⟩
        rw [putsL_none _ a fun _ _ => rfl] at this
        exact this
      rw [h2]
      exact h1
    · rw [if_neg (by simpa using e)]
      exact slot_congr _ a a rfl fun j _ h => by
        have hne : j ≠ i := fun h' => by
          subst h'
          rw [dst_of ho, ht0] at h
          exact e (Option.some.inj h)
        exact ⟨upd_ne _ _ hne, rfl⟩
  · rw [put_defers]
    unfold puts
    rw [putsL_defers, putsL_defers]
end
section
variable {P : Program} {main : Bool} {V : Nat → Option Wait} {Stop : Goroutine → World → Prop} {b : Frame} {k : List Item} {cs : List Frame} {ops : Array Oper} {w : World} {a : Act}
theorem Walk.calmOpV {Z : World → Prop} {m i : Nat} (hz : Z w) {o : Oper} {vals : Nat → Value} {f : Nat → Bool} {rest : List Nat} (hc : calmBV ops m = true) (hC : Closed ops f) (hfi : f i = false) (hk : b.kind ≠ .early) (hi : i < m) (ho : ops[i]? = some o) (hd : ∀ e ∈ o.after, Region.binds .any e = true → f e.on = true)
    (hcond : CondU P main V ops Z o (puts ops vals (fun x => decide (x < i)) a) (vals i)) (hr' : Walk P main (DR V) Stop (G (b.at ((puts ops vals f a).put o.dst (vals i)) (.inRegion ops rest :: k)) cs) w) :
    Walk P main (DR V) Stop (G (b.at (puts ops vals f a) (.inRegion ops (i :: rest) :: k)) cs) w := by
  obtain ⟨hsel, ⟨t0, ht0, hself⟩, hdist⟩ := calm_atV hc hi ho
  have hlook : ∀ t ∈ o.looksAt ops, (puts ops vals f a).tmps[t]? = (puts ops vals (fun j => decide (j < i)) a).tmps[t]? := fun t ht => slot_congr _ a a rfl fun j hj hjd => by
    have hjl := List.mem_range.1 hj
    have hoj := Array.getElem?_eq_getElem hjl
    have hne : j ≠ i := fun e => by
      subst e
      rw [dst_of ho, ht0] at hjd
      cases hjd
      exact hself ht
    rw [hoj] at hjd
    rcases (hdist j _ hoj hne).2 t hjd ht with ⟨h1, h2⟩ | ⟨h1, h2⟩
    · exact ⟨(waits_at h2 ho hd).trans (decide_eq_true h1).symm, rfl⟩
    · refine ⟨Eq.trans ?_ (decide_eq_false (Nat.lt_asymm h1)).symm, rfl⟩
      cases hfj : f j with
      | false => rfl
      | true =>
        have := waits_at h2 hoj (hC j _ hoj hfj)
        rw [hfi] at this
        cases this
  obtain ⟨s1, s2, s3⟩ := same_look hlook hsel
  have hsz : (puts ops vals f a).tmps.size = (puts ops vals (fun j => decide (j < i)) a).tmps.size := by
    unfold puts
    rw [putsL_size, putsL_size]
  have hput : ∀ v, (puts ops vals (fun j => decide (j < i)) a).put o.dst v = (puts ops vals (fun j => decide (j < i)) a).put o.dst (vals i) → (puts ops vals f a).put o.dst v = (puts ops vals f a).put o.dst (vals i) := fun v e => by
    refine act_ext (fun t => ?_) (by rw [put_defers, put_defers])
    rw [put_slot, put_slot]
    split
    · next e' =>
      have h1 : ((puts ops vals (fun j => decide (j < i)) a).put o.dst v).tmps[t]? = ((puts ops vals (fun j => decide (j < i)) a).put o.dst (vals i)).tmps[t]? := by rw [e]
      rw [put_slot, put_slot, if_pos e', if_pos e'] at h1
      by_cases hl : t < (puts ops vals f a).tmps.size
      · rw [Array.getElem?_eq_getElem (hsz ▸ hl)] at h1
        simp only [Option.map_some] at h1
        rw [Array.getElem?_eq_getElem hl]
        exact h1
      · rw [Array.getElem?_eq_none (by omega)]; rfl
    · rfl
  rcases hcond with ⟨c1, c2⟩ | ⟨c1, c2, c3⟩ | ⟨c1, f', fn, args, ats, e1, e2, e3, e4, e5⟩
  · rw [← s2] at c1
    rw [c2] at hr'
    exact Walk.ctl rfl (fun w => stepG_unwanted ho c1) hr'
  · rw [← s2] at c1
    rw [← s1] at c2 c3
    refine Walk.opq ho c1 hk (c2 w hz) fun d' K hK => ?_
    have h3 := c3 w hz d'
    revert h3
    generalize (execOp (puts ops vals f a).eval o).run P (w.at d') = rr
    intro h3
    unfold uponK at h3 ⊢
    split at h3
    · obtain ⟨x1, rfl⟩ := h3
      refine hK _ ?_
      rw [hput _ x1]; exact hr'
    · obtain ⟨x1, rfl⟩ := h3
      refine hK _ ?_
      rw [hput _ x1]; exact hr'
    · exact h3.elim
  · rw [← s2] at c1
    have hargs : args.map (puts ops vals f a).eval = args.map (puts ops vals (fun j => decide (j < i)) a).eval := Array.map_congr_left fun x hx => s3 x (by rw [e1]; simp [Op.operands, Call.operands, hx])
    rw [← hargs] at e5
    exact Walk.callV (e5 w hz) ho c1 hk e1 e2 e3 e4 hr'
theorem Walk.drawnCWV {id m : Nat} (hm : P.follows .mixedOrders = true) (hsz : ops.size = m) (hlow : lowW ops = true) (hc : calmBV ops m = true) (hk : b.kind ≠ .early)
    (h : Cm P main V ops (· = w) (fun a => Walk P main (DR V) Stop (G (b.at a (.inRegion ops [] :: k)) cs) w) (List.range m) a) : Walk P main (DR V) Stop (G (b.at a (.code (.region id ops true) :: k)) cs) w := by
  rw [List.range_eq_range'] at h
  have h0 : Cm P main V ops (· = w) (fun a => Walk P main (DR V) Stop (G (b.at a (.inRegion ops [] :: k)) cs) w) (List.range' 0 m) (puts ops (fun _ => undef) (fun j => decide (j < 0)) a) := by
    have : puts ops (fun _ => undef) (fun j => decide (j < 0)) a = a := putsL_none _ a fun j _ => decide_eq_false (Nat.not_lt_zero j)
    rw [this]; exact h
  obtain ⟨vals, _, hcond, hend⟩ := cm_vals (Z := (· = w)) (w := w) rfl (Nat.le_of_eq hsz.symm) m 0 (fun _ => undef) a (by omega) h0
  refine Walk.drawnE (E := World) (V := fun _ => V) (Stop := fun _ => Stop) (cs := fun _ => cs) (w := fun w => w) (Inv := fun f x w' => x = puts ops vals f a ∧ ∃ d, w' = w.at d) w hm hlow ⟨(puts_zero vals a).symm, w.drawn, rfl⟩ ?_ ?_
  · rintro f i o _ _ ⟨rfl, d, rfl⟩ hC hf ho hd rest hr
    have hi : i < m := by have := (Array.getElem?_eq_some_iff.1 ho).1; omega
    refine Walk.back ?_ d
    refine Walk.calmOpV (Z := (· = w)) rfl hc hC hf hk hi ho hd (hcond i o (Nat.zero_le _) hi ho) ?_
    rw [← puts_updV hc hi vals hf ho a]
    exact hr _ (w.at w.drawn) ⟨rfl, w.drawn, rfl⟩
  · rintro f _ _ ⟨rfl, d, rfl⟩ hall
    refine Walk.back ?_ d
    have : puts ops vals f a = puts ops vals (fun j => decide (j < m)) a := puts_congr (fun j hj => ⟨(hall j hj).trans (decide_eq_true (hsz ▸ hj)).symm, fun _ => rfl⟩) a
    rw [this]
    exact hend
end
end
end Go.Relay
namespace Go.Proofs.Ytcdcnmphjhfbpaa
open Go.Conc Go.RowKit Go.Relay
open Go.ConcN (upd upd_ne upd_same)
section
noncomputable def reg44_0 := rg Try.f44.body [0]
noncomputable def reg44_1 := rg Try.f44.body [1, 0, 0]
noncomputable def reg44_2 := rg Try.f44.body [1, 0, 1, 0, 0]
noncomputable def reg44_3 := rg Try.f44.body [1, 1, 0]
noncomputable def reg44_4 := rg Try.f44.body [1, 1, 1, 0, 0]
noncomputable def reg44_5 := rg Try.f44.body [1, 1, 1, 0, 1, 0, 0, 0]
noncomputable def reg44_6 := rg Try.f44.body [1, 1, 1, 0, 1, 0, 0, 1, 1, 0, 0, 0]
noncomputable def reg44_7 := rg Try.f44.body [1, 1, 1, 0, 1, 0, 0, 1, 1, 0, 0, 1]
noncomputable def reg44_8 := rg Try.f44.body [1, 1, 1, 0, 1, 0, 0, 1, 1, 1]
noncomputable def reg44_9 := rg Try.f44.body [1, 1, 1, 1, 0]
theorem size44_9 : reg44_9.size = 13 := by kernel_rfl
theorem z44 : List.range reg44_0.size = [0, 1, 2] ∧ List.range reg44_1.size = [0, 1] ∧ List.range reg44_2.size = [0, 1, 2] ∧ List.range reg44_3.size = [0, 1, 2, 3] ∧ List.range reg44_4.size = [0, 1, 2] ∧ List.range reg44_5.size = [0] ∧ List.range reg44_6.size = [0, 1] ∧ List.range reg44_7.size = [0, 1, 2, 3, 4, 5, 6, 7, 8, 9, 10, 11] ∧ List.range reg44_8.size = [0, 1] ∧ List.range reg44_9.size = [0, 1, 2, 3, 4, 5, 6, 7, 8, 9, 10, 11, 12] := by refine ⟨?_, ?_, ?_, ?_, ?_, ?_, ?_, ?_, ?_, ?_⟩ <;> kernel_rfl
theorem code44_is : Try.f44.body = some (.seq (.region 0 reg44_0 false) (.seq (.seq (.region 1 reg44_1 false) (.cond (.tmp 7 ) (.seq (.region 2 reg44_2 false) (.ret)) (.skip))) (.seq (.region 3 reg44_3 false) (.seq (.seq (.region 4 reg44_4 false) (.block 0 (.loop (.seq (.region 5 reg44_5 false) (.seq (.cond (.tmp 14 ) (.skip) (.exit 0)) (.seq (.block 1 (.seq (.region 6 reg44_6 false) (.region 7 reg44_7 false))) (.region 8 reg44_8 false))))))) (.seq (.region 9 reg44_9 true) (.ret)))))) := by kernel_rfl
noncomputable def hdTt (ob N m j : Nat) (u : Nat → Value) : Frame :=
  (base 44).at { tmps := #[.pointer (some ⟨ob, 0, none⟩), u 1, .int .i64 0, .int .i64 0, .slice (some ⟨N, 0, none⟩) m m, u 5, u 6, u 7, u 8, u 9, u 10, u 11, .int .i64 m, .int .i64 j, u 14, u 15, u 16, u 17, u 18, u 19, u 20, u 21, u 22, u 23, u 24, u 25, u 26, u 27, u 28, u 29, u 30, u 31, u 32, u 33, u 34, u 35, u 36, u 37], defers := [] } [.code (.seq (.region 5 reg44_5 false) (.seq (.cond (.tmp 14 ) (.skip) (.exit 0)) (.seq (.block 1 (.seq (.region 6 reg44_6 false) (.region 7 reg44_7 false))) (.region 8 reg44_8 false)))), .inLoop (.seq (.region 5 reg44_5 false) (.seq (.cond (.tmp 14 ) (.skip) (.exit 0)) (.seq (.block 1 (.seq (.region 6 reg44_6 false) (.region 7 reg44_7 false))) (.region 8 reg44_8 false)))), .inBlock 0, .code (.seq (.region 9 reg44_9 true) (.ret))]
section
variable {main : Bool} {V : Nat → Option Wait} {rb sb n ob qb m : Nat} {s : So}
theorem state_in (cs : List Frame) (w : World) (I : SoI rb sb n ob qb m s w) (hA : ∀ b, Apart V b) :
    Walk Try.prog main (DR V) (fun gr w' => (∃ u, gr = G (hdTt ob w.heap.size m 0 u) cs) ∧ EaI w w.heap.size m s.nm 0 w') (G (Frame.enter Try.prog 44 #[.pointer (some ⟨ob, 0, none⟩)] .normal) cs) w := by
  have hrd := oreaders_w (main := main) (V := V) w I
  have hn := I.few
  have hi1 := Option.some_get (show (Try.prog.info? 2).isSome = true by kernel_rfl)
  have hp1 := fun w => run_eql_ptr (P := Try.prog) 76 undSolo (some ⟨ob, 0, none⟩) w
  have hp2 := fun w es => ev_eql_ptr (P := Try.prog) 76 undSolo (some ⟨ob, 0, none⟩) w es
  simp only [Option.isNone_some] at hp1
  clear I
  rw [enter_at _ Try.func44 code44_is]
  simp only [Try.ntmps44, ez, Nat.reduceAdd, Nat.reduceSub]
  repeat (first | refine Walk.cx ?_ | (refine Walk.cReg ?_; simp only [z44]) | (refine Walk.oq ?_; try walk_nrm) | (refine Walk.un ?_; walk_nrm))
  refine Walk.callV (x := .int .i64 (m : Nat)) (W := w) ?_ (ho_of (by conv => lhs; whnf) (by kernel_rfl)) (by rfl) (by decide) rfl Try.func40 (by kernel_rfl) (by rfl) ?_
  · walk_nrm
    exact hrd
  walk_nrm
  repeat (first | refine Walk.cx ?_ | (refine Walk.cReg ?_; simp only [z44]) | (refine Walk.oq ?_; try walk_nrm) | (refine Walk.un ?_; walk_nrm))
  refine Walk.make 22 (.tmp 9) (.tmp 9) (ho_of (by conv => lhs; whnf) (by kernel_rfl)) (by rfl) (by decide) rfl 2 _ (.int .i64 0) 1 8 (by kernel_rfl) hi1.symm (by rfl) (by rfl) (by rfl) m (by rfl) (by rfl) (by omega) (by omega) ?_
  walk_nrm
  simp only [Value.cells, Nat.mul_one, made_zero]
  have s1 : (w.alloc (.cells ((List.replicate m (0 : Int)).map fun z => Value.int .i64 z).toArray 2)).heap.size = w.heap.size + 1 := by simp
  have o1 : ∀ b, b < w.heap.size → (w.alloc (.cells ((List.replicate m (0 : Int)).map fun z => Value.int .i64 z).toArray 2)).heap[b]? = w.heap[b]? := fun b hb => heap_new_lt _ _ hb
  have d1 := heap_alloc_new w (.cells ((List.replicate m (0 : Int)).map fun z => Value.int .i64 z).toArray 2)
  generalize hN : w.heap.size = N at *
  generalize w.alloc (.cells ((List.replicate m (0 : Int)).map fun z => Value.int .i64 z).toArray 2) = w1 at *
  repeat (first | refine Walk.cx ?_ | (refine Walk.cReg ?_; simp only [z44]) | (refine Walk.oq ?_; try walk_nrm) | (refine Walk.un ?_; walk_nrm))
  refine Walk.ctl rfl (fun w => stepG_loop) ?_
  refine .stop fun d => ⟨at_slots ?_, EaI.at ⟨by rw [show padL ((List.range 0).map s.nm) m = List.replicate m 0 from padL_nil m]; exact d1, o1, by omega⟩ d⟩
  simp only [hdTt]
  rfl
theorem state_go (N j : Nat) (hj : j < m) (u : Nat → Value) (cs : List Frame) (w0 w : World) (I : SoI rb sb n ob qb m s w) (hA : ∀ b, Apart V b) (E : EaI w0 N m s.nm j w) :
    Walk Try.prog main (DR V) (fun gr w' => (∃ u, gr = G (hdTt ob N m (j + 1) u) cs) ∧ EaI w0 N m s.nm (j + 1) w') (G (hdTt ob N m j u) cs) w := by
  have hn := I.few
  have c2 := (cell_of I.ob 2).trans rfl
  have hv := value_nil (main := main) (V := V) qb (j * 2) (s.nm j) w (I.rdN hj).1
  have hlen : ((List.range j).map s.nm).length = j := by simp
  have hcell : w.cell? ⟨N, j, none⟩ = some (.int .i64 0) := E.row.cell (by
    unfold padL
    rw [List.getElem?_append_right (by omega), hlen, Nat.sub_self, List.getElem?_replicate, if_pos (by omega)])
  have hfz := E.row.frozen j
  have hfree : Free V ⟨N, j, none⟩ := (hA N).1 _ rfl
  have hrow : NumB (w.setCell ⟨N, j, none⟩ (.int .i64 (s.nm j))) N (padL ((List.range (j + 1)).map s.nm) m) := by
    have h := E.row.set j (s.nm j)
    have h2 := padL_set (l := (List.range j).map s.nm) (n := m) (by omega) (s.nm j)
    rw [hlen] at h2
    rw [h2] at h
    rw [range_snoc]
    exact h
  have hold : ∀ b, b < N → (w.setCell ⟨N, j, none⟩ (.int .i64 (s.nm j))).heap[b]? = w0.heap[b]? := fun b hb => (heap_set_other _ _ _ _ (fun e : b = N => by omega)).trans (E.old b hb)
  have hsz : N < (w.setCell ⟨N, j, none⟩ (.int .i64 (s.nm j))).heap.size := by rw [size_set]; exact E.size
  have hj0 : (0 : Int) ≤ j := by omega
  have hj1 : decide ((j : Int) < m) = true := by simp; omega
  have hj3 : decide (j < m) = true := by simp; omega
  have hj4 : (j : Int) < m := by omega
  have hw1 : IntKind.wrap .i64 ((j : Int) + 1) = (j : Int) + 1 := by rw [IntKind.wrap_i64]; omega
  have hc : ((j + 1 : Nat) : Int) = (j : Int) + 1 := by simp
  clear E I hlen
  generalize s.nm j = x at *
  conv => arg 5; unfold hdTt
  repeat (first | refine Walk.cx ?_ | (refine Walk.cReg ?_; simp only [z44]) | (refine Walk.oq ?_; try walk_nrm) | (refine Walk.un ?_; walk_nrm))
  refine Walk.callV (x := .int .i64 x) (W := w) ?_ (ho_of (by conv => lhs; whnf) (by kernel_rfl)) (by rfl) (by decide) rfl Try.func78 (by kernel_rfl) (by rfl) ?_
  · walk_nrm
    exact hv
  walk_nrm
  repeat (first | refine Walk.cx ?_ | (refine Walk.cReg ?_; simp only [z44]) | (refine Walk.oq ?_; try walk_nrm) | (refine Walk.un ?_; walk_nrm))
  (refine Walk.os hfree hcell ?_; try walk_nrm)
  generalize w.setCell ⟨N, j, none⟩ (.int .i64 x) = w2 at *
  clear hcell hfz hfree c2 hv
  repeat (first | refine Walk.cx ?_ | (refine Walk.cReg ?_; simp only [z44]) | (refine Walk.oq ?_; try walk_nrm) | (refine Walk.un ?_; walk_nrm))
  refine Walk.ctl rfl (fun w => stepG_inLoop) ?_
  refine .stop fun d' => ⟨at_slots ?_, EaI.at ⟨hrow, hold, hsz⟩ d'⟩
  simp only [hdTt, hc]
  rfl
theorem state_out (N : Nat) (u : Nat → Value) (c : Frame) (cs : List Frame) (w : World) (I : SoI rb sb n ob qb m s w) :
    Walk Try.prog main (DR V) (fun gr w' => gr = G (c.finish (.tuple #[.int .i64 s.nx, .int .i64 s.cur, .slice (some ⟨N, 0, none⟩) m m])) cs ∧ ∃ d, w' = w.at d) (G (hdTt ob N m m u) (c :: cs)) w := by
  have hj1 : decide ((m : Int) < m) = false := by simp
  have hj3 : decide (m < m) = false := by simp
  have c3 : w.cell? ⟨ob, 3, none⟩ = some (.int .i64 s.nx) := (cell_of I.ob 3).trans rfl
  have hv := value_nil (main := main) (V := V) ob 1 s.cur w I.rdC.1
  clear I
  generalize s.nx = x at *
  generalize s.cur = y at *
  conv => arg 5; unfold hdTt
  repeat (first | refine Walk.cx ?_ | (refine Walk.cReg ?_; simp only [z44]) | (refine Walk.oq ?_; try walk_nrm) | (refine Walk.un ?_; walk_nrm))
  (refine Walk.drawnCWV (by kernel_rfl) size44_9 (by kernel_rfl) (by kernel_rfl) (by decide) ?_; simp only [List.range, List.range.loop]; repeat (first | (refine Cm.oq ?_) | (refine Cm.unw (ho_of (by conv => lhs; whnf) (by kernel_rfl)) (by rfl) ?_; walk_nrm)))
  refine Cm.callV (x := .int .i64 y) (fun w hz => ?_) (ho_of (by conv => lhs; whnf) (by kernel_rfl)) (by rfl) rfl Try.func78 (by kernel_rfl) (by rfl) ?_
  · subst hz
    walk_nrm
    exact hv
  walk_nrm
  repeat (first | (refine Cm.oq ?_) | (refine Cm.unw (ho_of (by conv => lhs; whnf) (by kernel_rfl)) (by rfl) ?_; walk_nrm))
  refine Cm.done ?_
  repeat (first | refine Walk.cx ?_ | (refine Walk.cReg ?_; simp only [z44]) | (refine Walk.oq ?_; try walk_nrm) | (refine Walk.un ?_; walk_nrm))
  exact Walk.on3 rfl rfl Try.func44 rfl (.stop fun d => ⟨rfl, d, rfl⟩)
theorem state_loop (cs : List Frame) (w0 : World) (I0 : SoI rb sb n ob qb m s w0) (hA : ∀ b, Apart V b) :
    ∀ (r j : Nat) (u : Nat → Value) (w : World), j + r = m → EaI w0 w0.heap.size m s.nm j w → Walk Try.prog main (DR V) (fun gr w' => (∃ u, gr = G (hdTt ob w0.heap.size m m u) cs) ∧ EaI w0 w0.heap.size m s.nm m w') (G (hdTt ob w0.heap.size m j u) cs) w := by
  intro r
  induction r with
  | zero =>
    intro j u w hj E
    have hj : j = m := hj
    subst hj
    exact .stop fun d => ⟨⟨u, rfl⟩, E.at d⟩
  | succ r ih =>
    intro j u w hj E
    have I : SoI rb sb n ob qb m s w := I0.old fun b hb => E.old _ (I0.lt hb)
    refine (state_go w0.heap.size j (by omega) u cs w0 w I hA E).then ?_
    rintro _ w2 ⟨⟨u2, rfl⟩, E2⟩
    exact ih (j + 1) u2 w2 (by omega) E2
theorem state_w (w : World) (I : SoI rb sb n ob qb m s w) (hA : ∀ b, Apart V b) : CallW Try.prog main V 44 #[.pointer (some ⟨ob, 0, none⟩)] w (fun v w' => v = .tuple #[.int .i64 s.nx, .int .i64 s.cur, .slice (some ⟨w.heap.size, 0, none⟩) m m] ∧ NewN m s.nm w (.slice (some ⟨w.heap.size, 0, none⟩) m m) w') := fun fr cs => by
  refine (state_in (fr :: cs) w I hA).then ?_
  rintro _ w1 ⟨⟨u, rfl⟩, E1⟩
  refine (state_loop (fr :: cs) w I hA m 0 u w1 (Nat.zero_add _) E1).then ?_
  rintro _ w2 ⟨⟨u2, rfl⟩, E2⟩
  refine (state_out w.heap.size u2 fr cs w2 (I.old fun b hb => E2.old _ (I.lt hb))).mono ?_
  rintro _ _ ⟨rfl, d, rfl⟩
  refine ⟨_, ⟨rfl, rfl, ?_, E2.old, E2.size⟩, rfl⟩
  have h := E2.row
  rw [padL_full (by simp)] at h
  exact h
end
end
end Go.Proofs.Ytcdcnmphjhfbpaa
