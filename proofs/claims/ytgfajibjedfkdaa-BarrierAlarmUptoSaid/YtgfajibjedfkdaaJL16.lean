/- Part 16. -/
import Derived.Test.YtgfajibjedfkdaaJL15
import Derived.Lib.AppendZeros
import Derived.Deep.Upon
set_option linter.unusedSimpArgs false
set_option linter.unusedVariables false
set_option maxHeartbeats 8000000
set_option maxRecDepth 100000
namespace Go.Relay
section
open Go.Conc
section
variable {P : Program} {o : Oper} {a : Act} {K : Act → World → Prop} {w w' : World} {v xv v' : Value}
theorem uponK_append2 (s x : Operand) (t tn : TypeId) (ho : o.op = .call { callee := .builtin .append, args := #[s, x], argTypes := #[t, tn] }) (hs : a.eval s = v) (hx : a.eval x = xv)
    (hr : (Builtin.append_ #[t, tn] o.type #[v, xv]).run P w = .ok v' w') (h : K (a.put o.dst v') w') : uponK o a K ((execOp a.eval o).run P w) := by
  unfold execOp
  simp only [ho, resolve, invoke, builtin, Sem.run_bind, Sem.run_pure, Result.andThen_ok, List.map_toArray, List.map_cons, List.map_nil, hs, hx, hr]
  exact h
theorem events_append_op2 (s x : Operand) (t tn : TypeId) (ho : o.op = .call { callee := .builtin .append, args := #[s, x], argTypes := #[t, tn] }) (hs : a.eval s = v) (hx : a.eval x = xv) (es : Array Event) :
    (execOp a.eval o).events P w es = (Builtin.append_ #[t, tn] o.type #[v, xv]).events P w es := by
  unfold execOp
  simp only [ho, resolve, invoke, builtin, Sem.events_bind, Sem.run_pure, Sem.events_pure, Result.evThen_ok, List.map_toArray, List.map_cons, List.map_nil, hs, hx]
  cases (Builtin.append_ #[t, tn] o.type #[v, xv]).run P w <;> rfl
theorem ev_append_zeros (w : World) (t tn ty e : TypeId) (i : TypeInfo) (z : Value) (k kn : IntKind) (ht : P.underlying t = some (.slice e)) (htn : P.underlying tn = some (.int kn)) (hi : P.info? e = some i) (hz : i.zero = some z)
    (n : Nat) (h0 : 0 < n) (hs : 0 < i.size) (h63 : (n : Int) ≤ 9223372036854775807) (h48 : n * i.bytes ≤ 281474976710656) :
    (Builtin.append_ #[t, tn] ty #[.slice none 0 0, .int k n]).events P w #[] = if roomBytes < grownCap w n 0 e * i.bytes then #[noRoomEvent] else #[] := by
  have hn : n ≠ 0 := by omega
  have hw : IntKind.i64.wrap (n : Int) = n := by rw [IntKind.wrap_i64]; omega
  have h63' : ¬ (9223372036854775807 < (n : Int)) := by omega
  have h48' : ¬ (281474976710656 < Builtin.nextslicecap n 0 * i.bytes) := by rw [nextslicecap_zero h0]; omega
  have h48i : ¬ (281474976710656 < (n : Int) * (i.bytes : Int)) := by
    rw [← Int.natCast_mul]
    omega
  have hneg : ¬ ((n : Int) < 0) := by omega
  have hns : ¬ (n * i.size = 0) := Nat.mul_ne_zero hn (by omega)
  simp [Builtin.append_, run_underlying ht, run_underlying htn, sizeOf, typeInfo, zeroValue, hi, hz, asInt, asIntOf, hw, hn, hneg, hns, h63', h48', h48i, Question.forced, run_firstCells_none, newRow, grownCap, askRoom, Builtin.firstCells]
  split
  · rename_i hc
    first
    | rfl
    | simp [hc, noRoomEvent]
  · rename_i hc
    first
    | rfl
    | simp [Nat.not_lt.2 hc]
    | simp [hc]
end
end
end Go.Relay
namespace Go.Proofs.Ytgfajibjedfkdaa
open Go.Conc Go.RowKit Go.Relay
open Go.ConcN (upd upd_ne upd_same)
section
section
variable {main : Bool} {V : Nat → Option Wait}
theorem ds_out (g i y c : Nat) (f : Nat → Option Nat) (u : Nat → Value) (cc : Frame) (cs : List Frame) (w : World) (hn : i + (y + 1) ≤ 17592186044416) (M : DsM g (i + (y + 1)) c f w) (hap : Apart V g) :
    Walk Try.prog main (DR V) (fun gr w' => gr = G (cc.finish (.slice (some ⟨g, 0, none⟩) i c)) cs ∧ DsM g i c f w' ∧ (∀ b, b ≠ g → w'.heap[b]? = w.heap[b]?) ∧ w'.heap.size = w.heap.size) (G (hdDs g (i + (y + 1)) c i (i + (y + 1)) u) (cc :: cs)) w := by
  obtain ⟨ti, hti, htz, hz, _⟩ := tiSrc
  obtain ⟨cur, h1, h2, h3⟩ := M.row
  have hle := M.le
  obtain ⟨a', ha', hf⟩ := run_from huSrc hti htz g 0 i (y + 1) c (by omega)
  obtain rfl := ha' (by omega)
  have hs1 := fun w => (hf w #[]).1
  have hs2 := fun w es => (hf w es).2
  have hu1 := fun w => (run_upto huSrc hti htz g 0 i (i + (y + 1)) c (by omega) (by omega) (by omega) w #[]).1
  have hu2 := fun w es => (run_upto huSrc hti htz g 0 i (i + (y + 1)) c (by omega) (by omega) (by omega) w es).2
  obtain ⟨n, hmn⟩ : ∃ n, i + (y + 1) = n := ⟨_, rfl⟩
  have hj1 : decide ((n : Int) < (n : Int)) = false := by simp
  have hj3 : decide (n < n) = false := by simp
  have hM' : DsM g i c f (w.setRow g (cur.toList.take i ++ (Builtin.zeroCells (Value.nilIface).cells (y + 1)).toList ++ cur.toList.drop (i + (y + 1))).toArray) := by
    refine ⟨⟨_, setRow_self h1, ?_, fun k hk => ?_⟩, by omega⟩
    · simp [Builtin.zeroCells, Value.cells]
      omega
    · have hk1 := h3 k (by omega)
      rw [List.getElem?_toArray, List.append_assoc, List.getElem?_append_left (by simp; omega), List.getElem?_take, if_pos hk]
      simpa using hk1
  have hO := fun b (hb : b ≠ g) => setRow_other w (cur.toList.take i ++ (Builtin.zeroCells (Value.nilIface).cells (y + 1)).toList ++ cur.toList.drop (i + (y + 1))).toArray hb
  have hS := setRow_size w g (cur.toList.take i ++ (Builtin.zeroCells (Value.nilIface).cells (y + 1)).toList ++ cur.toList.drop (i + (y + 1))).toArray
  have hfit : i + (y + 1) ≤ cur.size := by omega
  rw [Nat.zero_add] at hs1
  rw [hmn] at hs1 hs2 hu1 hu2 ⊢
  clear hf h3 M
  conv => arg 5; unfold hdDs
  repeat (first | refine Walk.c rfl ?_ | refine Walk.cRet ?_ | refine Walk.cEnd ?_ | (refine Walk.cReg ?_; simp only [size39_0, size39_1, size39_2, size39_3, size39_4, size39_5, size39_7, size39_8, size39_9, size39_10, size39_6, size39_11, size39_12, List.range, List.range.loop]) | (refine Walk.oq ?_; try walk_nrm) | (refine Walk.un ?_; walk_nrm))
  refine Walk.clear (.tmp 38) 25 32 (ho_of (by conv => lhs; whnf) (by kernel_rfl)) (by rfl) (by decide) rfl ti .nilIface huSrc hti hz (by rfl) (fun n v hv => ?_) g i y (c - i) rfl cur 32 h1 hfit hap ?_
  · simp [Builtin.zeroCells, Value.cells] at hv
    obtain ⟨_, _, rfl⟩ := hv
    rw [Nat.mod_one]
    rfl
  generalize w.setRow g (cur.toList.take i ++ (Builtin.zeroCells (Value.nilIface).cells (y + 1)).toList ++ cur.toList.drop (i + (y + 1))).toArray = w2 at *
  walk_nrm
  repeat (first | refine Walk.c rfl ?_ | refine Walk.cRet ?_ | refine Walk.cEnd ?_ | (refine Walk.cReg ?_; simp only [size39_0, size39_1, size39_2, size39_3, size39_4, size39_5, size39_7, size39_8, size39_9, size39_10, size39_6, size39_11, size39_12, List.range, List.range.loop]) | (refine Walk.oq ?_; try walk_nrm) | (refine Walk.un ?_; walk_nrm))
  exact Walk.on1 rfl rfl Try.func39 rfl (.stop fun d => ⟨rfl, ⟨by
    obtain ⟨cur, x1, x2, x3⟩ := hM'.row
    exact ⟨cur, x1, x2, x3⟩, hM'.le⟩, hO, hS⟩)
theorem ds_none (g n c : Nat) (cc : Frame) (cs : List Frame) (w : World) (hidx : CallV Try.prog main V 76 #[.slice (some ⟨g, 0, none⟩) n c, .func (.func 40) #[] #[]] w (.int .i64 (-1)) w) :
    Walk Try.prog main (DR V) (fun gr w' => gr = G (cc.finish (.slice (some ⟨g, 0, none⟩) n c)) cs ∧ ∃ d, w' = w.at d) (G (Frame.enter Try.prog 39 #[.slice (some ⟨g, 0, none⟩) n c, .func (.func 40) #[] #[]] .normal) (cc :: cs)) w := by
  rw [enter_at _ Try.func39 code39_is]
  simp only [Try.ntmps39, List.size_toArray, List.length_cons, List.length_nil, Nat.reduceAdd, Nat.reduceSub, Array.replicate_succ, Array.replicate_zero, List.push_toArray, List.append_toArray, List.nil_append, List.cons_append]
  repeat (first | refine Walk.c rfl ?_ | refine Walk.cRet ?_ | refine Walk.cEnd ?_ | (refine Walk.cReg ?_; simp only [size39_0, size39_1, size39_2, size39_3, size39_4, size39_5, size39_7, size39_8, size39_9, size39_10, size39_6, size39_11, size39_12, List.range, List.range.loop]) | (refine Walk.oq ?_; try walk_nrm) | (refine Walk.un ?_; walk_nrm))
  refine Walk.callV (x := .int .i64 (-1)) (W := w) ?_ (ho_of (by conv => lhs; whnf) (by kernel_rfl)) (by rfl) (by decide) rfl Try.func76 (by kernel_rfl) (by rfl) ?_
  · try walk_nrm
    exact hidx
  clear hidx
  walk_nrm
  repeat (first | refine Walk.c rfl ?_ | refine Walk.cRet ?_ | refine Walk.cEnd ?_ | (refine Walk.cReg ?_; simp only [size39_0, size39_1, size39_2, size39_3, size39_4, size39_5, size39_7, size39_8, size39_9, size39_10, size39_6, size39_11, size39_12, List.range, List.range.loop]) | (refine Walk.oq ?_; try walk_nrm) | (refine Walk.un ?_; walk_nrm))
  exact Walk.on1 rfl rfl Try.func39 rfl (.stop fun d => ⟨rfl, d, rfl⟩)
theorem ds_in (g n c i0 : Nat) (hn : n ≤ 17592186044416) (hi : i0 < n) (cs : List Frame) (w : World) (hidx : CallV Try.prog main V 76 #[.slice (some ⟨g, 0, none⟩) n c, .func (.func 40) #[] #[]] w (.int .i64 i0) w) :
    Walk Try.prog main (DR V) (fun gr w' => (∃ u, gr = G (hdDs g n c i0 (i0 + 1) u) cs) ∧ ∃ d, w' = w.at d) (G (Frame.enter Try.prog 39 #[.slice (some ⟨g, 0, none⟩) n c, .func (.func 40) #[] #[]] .normal) cs) w := by
  have hw1 : IntKind.wrap .i64 ((i0 : Int) + 1) = (i0 : Int) + 1 := by rw [IntKind.wrap_i64]; omega
  have hm1 : ((i0 : Int) == -1) = false := by rw [beq_eq_false_iff_ne]; omega
  have hc : ((i0 + 1 : Nat) : Int) = (i0 : Int) + 1 := by simp
  rw [enter_at _ Try.func39 code39_is]
  simp only [Try.ntmps39, List.size_toArray, List.length_cons, List.length_nil, Nat.reduceAdd, Nat.reduceSub, Array.replicate_succ, Array.replicate_zero, List.push_toArray, List.append_toArray, List.nil_append, List.cons_append]
  repeat (first | refine Walk.c rfl ?_ | refine Walk.cRet ?_ | refine Walk.cEnd ?_ | (refine Walk.cReg ?_; simp only [size39_0, size39_1, size39_2, size39_3, size39_4, size39_5, size39_7, size39_8, size39_9, size39_10, size39_6, size39_11, size39_12, List.range, List.range.loop]) | (refine Walk.oq ?_; try walk_nrm) | (refine Walk.un ?_; walk_nrm))
  refine Walk.callV (x := .int .i64 i0) (W := w) ?_ (ho_of (by conv => lhs; whnf) (by kernel_rfl)) (by rfl) (by decide) rfl Try.func76 (by kernel_rfl) (by rfl) ?_
  · try walk_nrm
    exact hidx
  walk_nrm
  clear hidx
  repeat (first | refine Walk.c rfl ?_ | refine Walk.cRet ?_ | refine Walk.cEnd ?_ | (refine Walk.cReg ?_; simp only [size39_0, size39_1, size39_2, size39_3, size39_4, size39_5, size39_7, size39_8, size39_9, size39_10, size39_6, size39_11, size39_12, List.range, List.range.loop]) | (refine Walk.oq ?_; try walk_nrm) | (refine Walk.un ?_; walk_nrm))
  refine Walk.ctl rfl (fun w => stepG_loop) ?_
  refine .stop fun d' => ⟨at_slots ?_, d', rfl⟩
  simp only [hdDs, hc]
  rfl
def kept (l : List (Option Nat)) (j : Nat) : List (Option Nat) := (l.take j).filter Option.isSome
theorem kept_some {l : List (Option Nat)} {j r : Nat} (h : l[j]? = some (some r)) : kept l (j + 1) = kept l j ++ [some r] := by
  unfold kept
  rw [List.take_add_one, h, List.filter_append]
  rfl
theorem kept_none {l : List (Option Nat)} {j : Nat} (h : l[j]? = some none) : kept l (j + 1) = kept l j := by
  unfold kept
  rw [List.take_add_one, h, List.filter_append]
  simp
theorem ds_loop (g c : Nat) (l : List (Option Nat)) (i0 : Nat) (h0 : l[i0]? = some none) (hn : l.length ≤ 17592186044416) (hap : Apart V g) (cc : Frame) (cs : List Frame) : ∀ (r j : Nat) (f : Nat → Option Nat) (u : Nat → Value) (w : World), j + r = l.length → i0 < j → (kept l j).length < j → (∀ k, k < (kept l j).length → (kept l j)[k]? = some (f k)) → (∀ k, j ≤ k → k < l.length → l[k]? = some (f k)) → DsM g l.length c f w →
    Walk Try.prog main (DR V) (fun gr w' => gr = G (cc.finish (.slice (some ⟨g, 0, none⟩) (kept l l.length).length c)) cs ∧ (∃ f, DsM g (kept l l.length).length c f w' ∧ ∀ k, k < (kept l l.length).length → (kept l l.length)[k]? = some (f k)) ∧ (∀ b, b ≠ g → w'.heap[b]? = w.heap[b]?) ∧ w'.heap.size = w.heap.size) (G (hdDs g l.length c (kept l j).length j u) (cc :: cs)) w := by
  intro r
  induction r with
  | zero =>
    intro j f u w hj hi0 hlt hk hr M
    have hj : j = l.length := hj
    subst hj
    obtain ⟨y, hy⟩ : ∃ y, l.length = (kept l l.length).length + (y + 1) := ⟨l.length - (kept l l.length).length - 1, by omega⟩
    generalize hK : kept l l.length = K at *
    rw [hy] at M ⊢
    refine (ds_out g K.length y c f u cc cs w (by omega) M hap).mono ?_
    rintro gr w' ⟨rfl, M2, hO, hS⟩
    exact ⟨rfl, ⟨f, M2, hk⟩, hO, hS⟩
  | succ r ih =>
    intro j f u w hj hi0 hlt hk hr M
    have hjl : j < l.length := by omega
    have hfj := hr j (Nat.le_refl _) hjl
    cases hf : f j with
    | none =>
      rw [hf] at hfj
      refine (ds_drop g l.length c (kept l j).length j f hf u (cc :: cs) w hjl hn M).then ?_
      rintro gr w' ⟨⟨u', rfl⟩, d, rfl⟩
      refine Walk.back ?_ d
      have e := kept_none hfj
      have := ih (j + 1) f u' w (by omega) (by omega) (by rw [e]; omega) (by rw [e]; exact hk) (fun k h1 h2 => hr k (by omega) h2) M
      rw [e] at this
      exact this
    | some z =>
      rw [hf] at hfj
      refine (ds_keep g l.length c (kept l j).length j z f hf u (cc :: cs) w hlt hjl hn M hap).then ?_
      rintro gr w' ⟨⟨u', rfl⟩, d, rfl⟩
      refine Walk.back ?_ d
      have e := kept_some hfj
      have el : (kept l (j + 1)).length = (kept l j).length + 1 := by rw [e]; simp
      have M1 := M.set (k := (kept l j).length) (by omega) (some z)
      have := ih (j + 1) _ u' _ (by omega) (by omega) (by omega) (fun k hk' => ?_) (fun k h1 h2 => ?_) M1
      · rw [el] at this
        refine this.mono ?_
        rintro gr w' ⟨rfl, h1, hO, hS⟩
        exact ⟨rfl, h1, fun b hb => (hO b hb).trans (heap_set_other _ _ _ _ hb), hS.trans (size_set ..)⟩
      · rw [e]
        by_cases h : k = (kept l j).length
        · subst h
          rw [upd_same]
          simp
        · rw [upd_ne _ _ h, List.getElem?_append_left (by omega)]
          exact hk k (by omega)
      · rw [upd_ne _ _ (by omega)]
        exact hr k (by omega) h2
theorem deleteS_w (g c : Nat) (l : List (Option Nat)) (hn : l.length ≤ 17592186044416) (hap : Apart V g) (w : World) (f : Nat → Option Nat) (hf : ∀ k, k < l.length → l[k]? = some (f k)) (M : DsM g l.length c f w) :
    CallW Try.prog main V 39 #[.slice (some ⟨g, 0, none⟩) l.length c, .func (.func 40) #[] #[]] w (fun v w' => v = .slice (some ⟨g, 0, none⟩) (kept l l.length).length c ∧ (∃ f, DsM g (kept l l.length).length c f w' ∧ ∀ k, k < (kept l l.length).length → (kept l l.length)[k]? = some (f k)) ∧ (∀ b, b ≠ g → w'.heap[b]? = w.heap[b]?) ∧ w'.heap.size = w.heap.size) := by
  intro fr cs
  have hsrc : SrcA (some ⟨g, 0, none⟩) l w := fun j o hj => by
    have hlt := (List.getElem?_eq_some_iff.1 hj).1
    refine ⟨g, 0, rfl, ?_⟩
    rw [Nat.zero_add, (M.cell hlt).1]
    rw [hf j hlt] at hj
    rw [Option.some.inj hj]
  obtain ⟨x, hx⟩ := idx_ex l
  have hidx := indexS_w (main := main) (V := V) (some ⟨g, 0, none⟩) l c x hx hn w hsrc
  rcases hx with ⟨i0, rfl, h0, hlt0⟩ | ⟨rfl, hall⟩
  · have hi0 := (List.getElem?_eq_some_iff.1 h0).1
    refine (ds_in g l.length c i0 hn hi0 (fr :: cs) w hidx).then ?_
    rintro gr w1 ⟨⟨u, rfl⟩, d, rfl⟩
    refine Walk.back ?_ d
    have hki : ∀ j, j ≤ i0 → kept l j = l.take j := fun j hj => by
      unfold kept
      refine List.filter_eq_self.2 fun o ho => ?_
      obtain ⟨k, hk⟩ := List.mem_iff_getElem?.1 ho
      rw [List.getElem?_take] at hk
      split at hk
      · rename_i hkj
        have := hlt0 k o (by omega) hk
        cases o with
        | none => exact absurd rfl this
        | some z => rfl
      · cases hk
    have hk1 : kept l (i0 + 1) = l.take i0 := by rw [kept_none h0, hki i0 (Nat.le_refl _)]
    have hl1 : (l.take i0).length = i0 := by simp; omega
    have key := ds_loop (main := main) g c l i0 h0 hn hap fr cs (l.length - (i0 + 1)) (i0 + 1) f u w (by omega) (by omega) (by rw [hk1, hl1]; omega) (fun k hk => by
      rw [hk1, hl1] at hk
      rw [hk1, List.getElem?_take, if_pos hk]
      exact hf k (by omega)) (fun k _ h2 => hf k h2) M
    rw [hk1, hl1] at key
    refine key.mono ?_
    rintro gr w' ⟨rfl, h1, hO, hS⟩
    exact ⟨_, ⟨rfl, h1, hO, hS⟩, rfl⟩
  · have hkl : kept l l.length = l := by
      unfold kept
      rw [List.take_length]
      refine List.filter_eq_self.2 fun o ho => ?_
      obtain ⟨k, hk⟩ := List.mem_iff_getElem?.1 ho
      have := hall k o hk
      cases o with
      | none => exact absurd rfl this
      | some z => rfl
    refine (ds_none g l.length c fr cs w hidx).mono ?_
    rintro gr w' ⟨rfl, d, rfl⟩
    rw [hkl]
    refine ⟨_, ⟨rfl, ⟨f, ⟨?_, M.le⟩, hf⟩, fun _ _ => rfl, rfl⟩, rfl⟩
    obtain ⟨cur, x1, x2, x3⟩ := M.row
    exact ⟨cur, x1, x2, x3⟩
end
end
end Go.Proofs.Ytgfajibjedfkdaa
