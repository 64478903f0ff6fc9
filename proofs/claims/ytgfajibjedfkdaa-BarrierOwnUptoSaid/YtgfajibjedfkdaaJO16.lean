/- Part 16. -/
import Derived.Test.YtgfajibjedfkdaaJO2
import Derived.Test.YtgfajibjedfkdaaJO4
import Derived.Test.YtgfajibjedfkdaaJO9
import Derived.Test.YtgfajibjedfkdaaJO15
import Derived.Lib.AppendZeros
import Derived.Deep.Upon
import Derived.Conc.AtomicLaws2
import Derived.Conc.SmallLaws
import Derived.Laws.LoneSync
set_option linter.unusedSimpArgs false
set_option linter.unusedVariables false
set_option linter.unusedVariables false
set_option maxHeartbeats 8000000
set_option maxRecDepth 100000
namespace Go.Relay
section
open Go.Conc
section
variable {P : Program} {o : Oper} {a : Act} {K : Act → World → Prop} {w w' : World} {v xv v' : Value}
theorem uponK_append2 (s x : Operand) (t tn : TypeId) (ho : o.op = .call { callee := .builtin .append, args := #[s, x], argTypes := #[t, tn] }) (hs : a.eval s = v) (hx : a.eval x = xv)
    (hr : (Builtin.append_ #[t, tn] o.type #[v, xv]).run P w = .ok v' w') (h : K (a.put o.dst v') w') : uponK o a K ((execOp a.eval o).run P w) := by
  unfold execOp
  simp only [ho, resolve, invoke, builtin, Sem.run_bind, Sem.run_pure, Result.andThen_ok, List.map_toArray, List.map_cons, List.map_nil, hs, hx, hr]
  exact h
theorem events_append_op2 (s x : Operand) (t tn : TypeId) (ho : o.op = .call { callee := .builtin .append, args := #[s, x], argTypes := #[t, tn] }) (hs : a.eval s = v) (hx : a.eval x = xv) (es : Array Event) :
    (execOp a.eval o).events P w es = (Builtin.append_ #[t, tn] o.type #[v, xv]).events P w es := by
  unfold execOp
  simp only [ho, resolve, invoke, builtin, Sem.events_bind, Sem.run_pure, Sem.events_pure, Result.evThen_ok, List.map_toArray, List.map_cons, List.map_nil, hs, hx]
  cases (Builtin.append_ #[t, tn] o.type #[v, xv]).run P w <;> rfl
theorem ev_append_zeros (w : World) (t tn ty e : TypeId) (i : TypeInfo) (z : Value) (k kn : IntKind) (ht : P.underlying t = some (.slice e)) (htn : P.underlying tn = some (.int kn)) (hi : P.info? e = some i) (hz : i.zero = some z)
    (n : Nat) (h0 : 0 < n) (hs : 0 < i.size) (h63 : (n : Int) ≤ 9223372036854775807) (h48 : n * i.bytes ≤ 281474976710656) :
    (Builtin.append_ #[t, tn] ty #[.slice none 0 0, .int k n]).events P w #[] = if roomBytes < grownCap w n 0 e * i.bytes then #[noRoomEvent] else #[] := by
  have hn : n ≠ 0 := by omega
  have hw : IntKind.i64.wrap (n : Int) = n := by rw [IntKind.wrap_i64]; omega
  have h63' : ¬ (9223372036854775807 < (n : Int)) := by omega
  have h48' : ¬ (281474976710656 < Builtin.nextslicecap n 0 * i.bytes) := by rw [nextslicecap_zero h0]; omega
  have h48i : ¬ (281474976710656 < (n : Int) * (i.bytes : Int)) := by
    rw [← Int.natCast_mul]
    omega
  have hneg : ¬ ((n : Int) < 0) := by omega
  have hns : ¬ (n * i.size = 0) := Nat.mul_ne_zero hn (by omega)
  simp [Builtin.append_, run_underlying ht, run_underlying htn, sizeOf, typeInfo, zeroValue, hi, hz, asInt, asIntOf, hw, hn, hneg, hns, h63', h48', h48i, Question.forced, run_firstCells_none, newRow, grownCap, askRoom, Builtin.firstCells]
  split
  · rename_i hc
    first
    | rfl
    | simp [hc, noRoomEvent]
  · rename_i hc
    first
    | rfl
    | simp [Nat.not_lt.2 hc]
    | simp [hc]
end
end
end Go.Relay
namespace Go.Proofs.Ytgfajibjedfkdaa
open Go.Conc Go.RowKit Go.Relay
open Go.ConcN (upd upd_ne upd_same)
section
section
variable {main : Bool} {V : Nat → Option Wait}
theorem ds_out (g i y c : Nat) (f : Nat → Option Nat) (u : Nat → Value) (cc : Frame) (cs : List Frame) (w : World) (hn : i + (y + 1) ≤ 17592186044416) (M : DsM g (i + (y + 1)) c f w) (hap : Apart V g) :
    Walk Try.prog main (DR V) (fun gr w' => gr = G (cc.finish (.slice (some ⟨g, 0, none⟩) i c)) cs ∧ DsM g i c f w' ∧ (∀ b, b ≠ g → w'.heap[b]? = w.heap[b]?) ∧ w'.heap.size = w.heap.size) (G (hdDs g (i + (y + 1)) c i (i + (y + 1)) u) (cc :: cs)) w := by
  obtain ⟨ti, hti, htz, hz, _⟩ := tiSrc
  obtain ⟨cur, h1, h2, h3⟩ := M.row
  have hle := M.le
  obtain ⟨a', ha', hf⟩ := run_from huSrc hti htz g 0 i (y + 1) c (by omega)
  obtain rfl := ha' (by omega)
  have hs1 := fun w => (hf w #[]).1
  have hs2 := fun w es => (hf w es).2
  have hu1 := fun w => (run_upto huSrc hti htz g 0 i (i + (y + 1)) c (by omega) (by omega) (by omega) w #[]).1
  have hu2 := fun w es => (run_upto huSrc hti htz g 0 i (i + (y + 1)) c (by omega) (by omega) (by omega) w es).2
  obtain ⟨n, hmn⟩ : ∃ n, i + (y + 1) = n := ⟨_, rfl⟩
  have hj1 : decide ((n : Int) < (n : Int)) = false := by simp
  have hj3 : decide (n < n) = false := by simp
  have hM' : DsM g i c f (w.setRow g (cur.toList.take i ++ (Builtin.zeroCells (Value.nilIface).cells (y + 1)).toList ++ cur.toList.drop (i + (y + 1))).toArray) := by
    refine ⟨⟨_, setRow_self h1, ?_, fun k hk => ?_⟩, by omega⟩
    · simp [Builtin.zeroCells, Value.cells]
      omega
    · have hk1 := h3 k (by omega)
      rw [List.getElem?_toArray, List.append_assoc, List.getElem?_append_left (by simp; omega), List.getElem?_take, if_pos hk]
      simpa using hk1
  have hO := fun b (hb : b ≠ g) => setRow_other w (cur.toList.take i ++ (Builtin.zeroCells (Value.nilIface).cells (y + 1)).toList ++ cur.toList.drop (i + (y + 1))).toArray hb
  have hS := setRow_size w g (cur.toList.take i ++ (Builtin.zeroCells (Value.nilIface).cells (y + 1)).toList ++ cur.toList.drop (i + (y + 1))).toArray
  have hfit : i + (y + 1) ≤ cur.size := by omega
  rw [Nat.zero_add] at hs1
  rw [hmn] at hs1 hs2 hu1 hu2 ⊢
  clear hf h3 M
  conv => arg 5; unfold hdDs
  repeat (first | refine Walk.cx ?_ | (refine Walk.cReg ?_; simp only [z39]) | (refine Walk.oq ?_; try walk_nrm) | (refine Walk.un ?_; walk_nrm))
  refine Walk.clear (.tmp 38) 25 32 (ho_of (by conv => lhs; whnf) (by kernel_rfl)) (by rfl) (by decide) rfl ti .nilIface huSrc hti hz (by rfl) (fun n v hv => ?_) g i y (c - i) rfl cur 32 h1 hfit hap ?_
  · simp [Builtin.zeroCells, Value.cells] at hv
    obtain ⟨_, _, rfl⟩ := hv
    rw [Nat.mod_one]
    rfl
  generalize w.setRow g (cur.toList.take i ++ (Builtin.zeroCells (Value.nilIface).cells (y + 1)).toList ++ cur.toList.drop (i + (y + 1))).toArray = w2 at *
  walk_nrm
  repeat (first | refine Walk.cx ?_ | (refine Walk.cReg ?_; simp only [z39]) | (refine Walk.oq ?_; try walk_nrm) | (refine Walk.un ?_; walk_nrm))
  exact Walk.on1 rfl rfl Try.func39 rfl (.stop fun d => ⟨rfl, ⟨by
    obtain ⟨cur, x1, x2, x3⟩ := hM'.row
    exact ⟨cur, x1, x2, x3⟩, hM'.le⟩, hO, hS⟩)
theorem ds_none (g n c : Nat) (cc : Frame) (cs : List Frame) (w : World) (hidx : CallV Try.prog main V 76 #[.slice (some ⟨g, 0, none⟩) n c, .func (.func 40) #[] #[]] w (.int .i64 (-1)) w) :
    Walk Try.prog main (DR V) (fun gr w' => gr = G (cc.finish (.slice (some ⟨g, 0, none⟩) n c)) cs ∧ ∃ d, w' = w.at d) (G (Frame.enter Try.prog 39 #[.slice (some ⟨g, 0, none⟩) n c, .func (.func 40) #[] #[]] .normal) (cc :: cs)) w := by
  rw [enter_at _ Try.func39 code39_is]
  simp only [Try.ntmps39, ez, Nat.reduceAdd, Nat.reduceSub]
  repeat (first | refine Walk.cx ?_ | (refine Walk.cReg ?_; simp only [z39]) | (refine Walk.oq ?_; try walk_nrm) | (refine Walk.un ?_; walk_nrm))
  refine Walk.callV (x := .int .i64 (-1)) (W := w) ?_ (ho_of (by conv => lhs; whnf) (by kernel_rfl)) (by rfl) (by decide) rfl Try.func76 (by kernel_rfl) (by rfl) ?_
  · try walk_nrm
    exact hidx
  clear hidx
  walk_nrm
  repeat (first | refine Walk.cx ?_ | (refine Walk.cReg ?_; simp only [z39]) | (refine Walk.oq ?_; try walk_nrm) | (refine Walk.un ?_; walk_nrm))
  exact Walk.on1 rfl rfl Try.func39 rfl (.stop fun d => ⟨rfl, d, rfl⟩)
theorem ds_in (g n c i0 : Nat) (hn : n ≤ 17592186044416) (hi : i0 < n) (cs : List Frame) (w : World) (hidx : CallV Try.prog main V 76 #[.slice (some ⟨g, 0, none⟩) n c, .func (.func 40) #[] #[]] w (.int .i64 i0) w) :
    Walk Try.prog main (DR V) (fun gr w' => (∃ u, gr = G (hdDs g n c i0 (i0 + 1) u) cs) ∧ ∃ d, w' = w.at d) (G (Frame.enter Try.prog 39 #[.slice (some ⟨g, 0, none⟩) n c, .func (.func 40) #[] #[]] .normal) cs) w := by
  have hw1 : IntKind.wrap .i64 ((i0 : Int) + 1) = (i0 : Int) + 1 := by rw [IntKind.wrap_i64]; omega
  have hm1 : ((i0 : Int) == -1) = false := by rw [beq_eq_false_iff_ne]; omega
  have hc : ((i0 + 1 : Nat) : Int) = (i0 : Int) + 1 := by simp
  rw [enter_at _ Try.func39 code39_is]
  simp only [Try.ntmps39, ez, Nat.reduceAdd, Nat.reduceSub]
  repeat (first | refine Walk.cx ?_ | (refine Walk.cReg ?_; simp only [z39]) | (refine Walk.oq ?_; try walk_nrm) | (refine Walk.un ?_; walk_nrm))
  refine Walk.callV (x := .int .i64 i0) (W := w) ?_ (ho_of (by conv => lhs; whnf) (by kernel_rfl)) (by rfl) (by decide) rfl Try.func76 (by kernel_rfl) (by rfl) ?_
  · try walk_nrm
    exact hidx
  walk_nrm
  clear hidx
  repeat (first | refine Walk.cx ?_ | (refine Walk.cReg ?_; simp only [z39]) | (refine Walk.oq ?_; try walk_nrm) | (refine Walk.un ?_; walk_nrm))
  refine Walk.ctl rfl (fun w => stepG_loop) ?_
  refine .stop fun d' => ⟨at_slots ?_, d', rfl⟩
  simp only [hdDs, hc]
  rfl
def kept (l : List (Option Nat)) (j : Nat) : List (Option Nat) := (l.take j).filter Option.isSome
theorem kept_some {l : List (Option Nat)} {j r : Nat} (h : l[j]? = some (some r)) : kept l (j + 1) = kept l j ++ [some r] := by
  unfold kept
  rw [List.take_add_one, h, List.filter_append]
  rfl
theorem kept_none {l : List (Option Nat)} {j : Nat} (h : l[j]? = some none) : kept l (j + 1) = kept l j := by
  unfold kept
  rw [List.take_add_one, h, List.filter_append]
  simp
theorem ds_loop (g c : Nat) (l : List (Option Nat)) (i0 : Nat) (h0 : l[i0]? = some none) (hn : l.length ≤ 17592186044416) (hap : Apart V g) (cc : Frame) (cs : List Frame) : ∀ (r j : Nat) (f : Nat → Option Nat) (u : Nat → Value) (w : World), j + r = l.length → i0 < j → (kept l j).length < j → (∀ k, k < (kept l j).length → (kept l j)[k]? = some (f k)) → (∀ k, j ≤ k → k < l.length → l[k]? = some (f k)) → DsM g l.length c f w →
    Walk Try.prog main (DR V) (fun gr w' => gr = G (cc.finish (.slice (some ⟨g, 0, none⟩) (kept l l.length).length c)) cs ∧ (∃ f, DsM g (kept l l.length).length c f w' ∧ ∀ k, k < (kept l l.length).length → (kept l l.length)[k]? = some (f k)) ∧ (∀ b, b ≠ g → w'.heap[b]? = w.heap[b]?) ∧ w'.heap.size = w.heap.size) (G (hdDs g l.length c (kept l j).length j u) (cc :: cs)) w := by
  intro r
  induction r with
  | zero =>
    intro j f u w hj hi0 hlt hk hr M
    have hj : j = l.length := hj
    subst hj
    obtain ⟨y, hy⟩ : ∃ y, l.length = (kept l l.length).length + (y + 1) := ⟨l.length - (kept l l.length).length - 1, by omega⟩
    generalize hK : kept l l.length = K at *
    rw [hy] at M ⊢
    refine (ds_out g K.length y c f u cc cs w (by omega) M hap).mono ?_
    rintro gr w' ⟨rfl, M2, hO, hS⟩
    exact ⟨rfl, ⟨f, M2, hk⟩, hO, hS⟩
  | succ r ih =>
    intro j f u w hj hi0 hlt hk hr M
    have hjl : j < l.length := by omega
    have hfj := hr j (Nat.le_refl _) hjl
    cases hf : f j with
    | none =>
      rw [hf] at hfj
      refine (ds_drop g l.length c (kept l j).length j f hf u (cc :: cs) w hjl hn M).then ?_
      rintro gr w' ⟨⟨u', rfl⟩, d, rfl⟩
      refine Walk.back ?_ d
      have e := kept_none hfj
      have := ih (j + 1) f u' w (by omega) (by omega) (by rw [e]; omega) (by rw [e]; exact hk) (fun k h1 h2 => hr k (by omega) h2) M
      rw [e] at this
      exact this
    | some z =>
      rw [hf] at hfj
      refine (ds_keep g l.length c (kept l j).length j z f hf u (cc :: cs) w hlt hjl hn M hap).then ?_
      rintro gr w' ⟨⟨u', rfl⟩, d, rfl⟩
      refine Walk.back ?_ d
      have e := kept_some hfj
      have el : (kept l (j + 1)).length = (kept l j).length + 1 := by rw [e]; simp
      have M1 := M.set (k := (kept l j).length) (by omega) (some z)
      have := ih (j + 1) _ u' _ (by omega) (by omega) (by omega) (fun k hk' => ?_) (fun k h1 h2 => ?_) M1
      · rw [el] at this
        refine this.mono ?_
        rintro gr w' ⟨rfl, h1, hO, hS⟩
        exact ⟨rfl, h1, fun b hb => (hO b hb).trans (heap_set_other _ _ _ _ hb), hS.trans (size_set ..)⟩
      · rw [e]
        by_cases h : k = (kept l j).length
        · subst h
          rw [upd_same]
          simp
        · rw [upd_ne _ _ h, List.getElem?_append_left (by omega)]
          exact hk k (by omega)
      · rw [upd_ne _ _ (by omega)]
        exact hr k (by omega) h2
theorem deleteS_w (g c : Nat) (l : List (Option Nat)) (hn : l.length ≤ 17592186044416) (hap : Apart V g) (w : World) (f : Nat → Option Nat) (hf : ∀ k, k < l.length → l[k]? = some (f k)) (M : DsM g l.length c f w) :
    CallW Try.prog main V 39 #[.slice (some ⟨g, 0, none⟩) l.length c, .func (.func 40) #[] #[]] w (fun v w' => v = .slice (some ⟨g, 0, none⟩) (kept l l.length).length c ∧ (∃ f, DsM g (kept l l.length).length c f w' ∧ ∀ k, k < (kept l l.length).length → (kept l l.length)[k]? = some (f k)) ∧ (∀ b, b ≠ g → w'.heap[b]? = w.heap[b]?) ∧ w'.heap.size = w.heap.size) := by
  intro fr cs
  have hsrc : SrcA (some ⟨g, 0, none⟩) l w := fun j o hj => by
    have hlt := (List.getElem?_eq_some_iff.1 hj).1
    refine ⟨g, 0, rfl, ?_⟩
    rw [Nat.zero_add, (M.cell hlt).1]
    rw [hf j hlt] at hj
    rw [Option.some.inj hj]
  obtain ⟨x, hx⟩ := idx_ex l
  have hidx := indexS_w (main := main) (V := V) (some ⟨g, 0, none⟩) l c x hx hn w hsrc
  rcases hx with ⟨i0, rfl, h0, hlt0⟩ | ⟨rfl, hall⟩
  · have hi0 := (List.getElem?_eq_some_iff.1 h0).1
    refine (ds_in g l.length c i0 hn hi0 (fr :: cs) w hidx).then ?_
    rintro gr w1 ⟨⟨u, rfl⟩, d, rfl⟩
    refine Walk.back ?_ d
    have hki : ∀ j, j ≤ i0 → kept l j = l.take j := fun j hj => by
      unfold kept
      refine List.filter_eq_self.2 fun o ho => ?_
      obtain ⟨k, hk⟩ := List.mem_iff_getElem?.1 ho
      rw [List.getElem?_take] at hk
      split at hk
      · rename_i hkj
        have := hlt0 k o (by omega) hk
        cases o with
        | none => exact absurd rfl this
        | some z => rfl
      · cases hk
    have hk1 : kept l (i0 + 1) = l.take i0 := by rw [kept_none h0, hki i0 (Nat.le_refl _)]
    have hl1 : (l.take i0).length = i0 := by simp; omega
    have key := ds_loop (main := main) g c l i0 h0 hn hap fr cs (l.length - (i0 + 1)) (i0 + 1) f u w (by omega) (by omega) (by rw [hk1, hl1]; omega) (fun k hk => by
      rw [hk1, hl1] at hk
      rw [hk1, List.getElem?_take, if_pos hk]
      exact hf k (by omega)) (fun k _ h2 => hf k h2) M
    rw [hk1, hl1] at key
    refine key.mono ?_
    rintro gr w' ⟨rfl, h1, hO, hS⟩
    exact ⟨_, ⟨rfl, h1, hO, hS⟩, rfl⟩
  · have hkl : kept l l.length = l := by
      unfold kept
      rw [List.take_length]
      refine List.filter_eq_self.2 fun o ho => ?_
      obtain ⟨k, hk⟩ := List.mem_iff_getElem?.1 ho
      have := hall k o hk
      cases o with
      | none => exact absurd rfl this
      | some z => rfl
    refine (ds_none g l.length c fr cs w hidx).mono ?_
    rintro gr w' ⟨rfl, d, rfl⟩
    rw [hkl]
    refine ⟨_, ⟨rfl, ⟨f, ⟨?_, M.le⟩, hf⟩, fun _ _ => rfl, rfl⟩, rfl⟩
    obtain ⟨cur, x1, x2, x3⟩ := M.row
    exact ⟨cur, x1, x2, x3⟩
end
end
end Go.Proofs.Ytgfajibjedfkdaa
namespace Go.Relay
section
open Go.Conc
section
variable {P : Program} {main : Bool} {V : Nat → Option Wait} {Stop : Goroutine → World → Prop} {w : World} {b : Frame} {a : Act} {k : List Item} {cs : List Frame} {ops : Array Oper} {i : Nat} {rest : List Nat} {o : Oper}
theorem Walk.appendY (s x : Operand) (t tn e : TypeId) (kk kn : IntKind) (ho : ops[i]? = some o) (hw : Region.wanted o (yielded ops a.tmps) = true) (hk : b.kind ≠ .early) (hop : o.op = .call { callee := .builtin .append, args := #[s, x], argTypes := #[t, tn] })
    (ti : TypeInfo) (z : Value) (ht : P.underlying t = some (.slice e)) (htn : P.underlying tn = some (.int kn)) (hi : P.info? e = some ti) (hz : ti.zero = some z) (hsize : ti.size = 1) (hby : ti.bytes ≤ 16) (hzs : z.cells.size = 1)
    (n : Nat) (hs : a.eval s = .slice none 0 0) (hx : a.eval x = .int kk n) (h0 : 0 < n) (hn : n ≤ 1048576)
    (h : ∀ cap w', w'.ownsRow w.heap.size e 1 (.slice (some ⟨w.heap.size, 0, none⟩) 0 cap) 0 [] → n ≤ cap → (∀ b, b < w.heap.size → w'.heap[b]? = w.heap[b]?) → w.heap.size < w'.heap.size →
      Walk P main (DR V) Stop (G (b.at (a.put o.dst (.slice (some ⟨w.heap.size, 0, none⟩) n cap)) (.inRegion ops rest :: k)) cs) w') :
    Walk P main (DR V) Stop (G (b.at a (.inRegion ops (i :: rest) :: k)) cs) w := by
  refine Walk.go rfl fun d => goes_oper_k ho hw hk fun K hK => ?_
  have hr := Lib.run_append_nil_zeros (P := P) (w.at d) t tn o.type e ti z kk kn ht htn hi hz n h0 (by omega) (by omega) (Nat.le_trans (Nat.mul_le_mul_left n hby) (by omega))
  have hev := ev_append_zeros (P := P) (w.at d) t tn o.type e ti z kk kn ht htn hi hz n h0 (by omega) (by omega) (Nat.le_trans (Nat.mul_le_mul_left n hby) (by omega))
  have hcap := grownCap_ge (w.at d) n 0 e
  have hmax := grownCap_le_maxLen (w.at d) n 0 e (by simp [maxLen]; omega)
  generalize grownCap (w.at d) n 0 e = cap at *
  have hzc : ∀ m, (Builtin.zeroCells z.cells m).size = m := fun m => by simp [Builtin.zeroCells, hzs]
  have hsz : ((w.at d).drew.alloc (.cells (Builtin.zeroCells z.cells n ++ Builtin.zeroCells z.cells (cap - n)) e)).heap.size = w.heap.size + 1 := by
    show (w.heap.push _).size = _
    simp
  have hold : ∀ g, g < w.heap.size → ((w.at d).drew.alloc (.cells (Builtin.zeroCells z.cells n ++ Builtin.zeroCells z.cells (cap - n)) e)).heap[g]? = w.heap[g]? := fun g hg => by
    show (w.heap.push _)[g]? = _
    rw [Array.getElem?_push, if_neg (by omega)]
  have hnew : ((w.at d).drew.alloc (.cells (Builtin.zeroCells z.cells n ++ Builtin.zeroCells z.cells (cap - n)) e)).heap[w.heap.size]? = some (.cells (Builtin.zeroCells z.cells n ++ Builtin.zeroCells z.cells (cap - n)) e) := by
    show (w.heap.push _)[w.heap.size]? = _
    simp
  refine uponK_append2 s x t tn hop hs hx hr (hK _ _ ⟨DR.grown (row := none) ⟨rfl, rfl, rfl, by rw [hsz]; exact Nat.le_succ _, fun g hg _ => hold g hg⟩ (fun g h => by cases h) (fun ev hev' => ?_), h cap _ ⟨rfl, .inr ⟨w.heap.size, cap, _, rfl, Nat.le_refl _, hnew, Nat.zero_le _, hmax, by simp [hzc]; omega, by simp⟩⟩ hcap hold (by rw [hsz]; exact Nat.lt_succ_self _)⟩)
  have hm' := mem_listed hev'
  rw [events_append_op2 s x t tn hop hs hx, hev] at hm'
  split at hm'
  · simp at hm'
    rw [hm']
    exact evR_noRoom
  · simp at hm'
end
end
end Go.Relay
namespace Go.Proofs.Ytgfajibjedfkdaa
open Go.Conc Go.RowKit Go.Relay
open Go.ConcN (upd upd_ne upd_same)
structure Hl where
  p : Option Nat
  sl : Value
  l : List Int
def Hl.no : Hl := ⟨none, .slice none 0 0, []⟩
def Hl.sh (h : Hl) (b : Nat) : Prop := h.p = some b ∨ h.sl.ownBlock = some b
def ptrV (x : Option Nat) : Value := .pointer (x.map fun b => ⟨b, 0, none⟩)
def Hl.v (h : Hl) : Value := ptrV h.p
def okL (l : List Int) : Prop := l.Nodup ∧ ∀ z ∈ l, 0 ≤ z ∧ z < 64
theorem okL.nil : okL [] := ⟨List.nodup_nil, fun z h => (by cases h)⟩
theorem okLen : ∀ (n : Nat) (l : List Int), l.Nodup → (∀ z ∈ l, 0 ≤ z ∧ z < n) → l.length ≤ n := by
  intro n
  induction n with
  | zero =>
    intro l _ h
    cases l with
    | nil => simp
    | cons a t => have := h a (by simp); omega
  | succ n ih =>
    intro l hn h
    by_cases hm : (n : Int) ∈ l
    · have h1 := ih (l.erase n) (hn.erase _) (fun z hz => by
        have h2 := (hn.mem_erase_iff).1 hz
        have := h z h2.2
        have := h2.1
        omega)
      have := List.length_erase_of_mem hm
      omega
    · have := ih l hn (fun z hz => by
        have := h z hz
        have : z ≠ n := fun e => hm (e ▸ hz)
        omega)
      omega
theorem okL.len {l : List Int} (h : okL l) : l.length ≤ 64 := okLen 64 l h.1 h.2
theorem okL.filter {l : List Int} (h : okL l) (q : Int → Bool) : okL (l.filter q) := ⟨List.Pairwise.filter q h.1, fun z hz => h.2 z (List.mem_filter.1 hz).1⟩
structure HlI (h : Hl) (w : World) : Prop where
  ok : okL h.l
  row : w.ownsRow 0 3 1 h.sl h.l.length (h.l.map fun z => .int .i64 z)
  blk : ∀ b, h.p = some b → w.heap[b]? = some (.cells #[h.sl, .int .u8 0] 213)
  no : h.p = none → h.sl = .slice none 0 0 ∧ h.l = []
theorem HlI.same {h : Hl} {w w' : World} (H : HlI h w) (hb : ∀ b, h.sh b → w'.heap[b]? = w.heap[b]?) : HlI h w' :=
  ⟨H.ok, row_same H.row fun b e => hb b (.inr e), fun b e => (hb b (.inl e)).trans (H.blk b e), H.no⟩
theorem HlI.none (w : World) : HlI Hl.no w := ⟨okL.nil, ⟨rfl, .inl ⟨rfl, rfl⟩⟩, fun b e => (by cases e), fun _ => ⟨rfl, rfl⟩⟩
theorem HlI.lt {h : Hl} {w : World} (H : HlI h w) {b : Nat} (hb : h.sh b) : b < w.heap.size := by
  rcases hb with e | e
  · exact (Array.getElem?_eq_some_iff.1 (H.blk b e)).1
  · exact (H.row.lt b e).2
structure Gt where
  k : Nat
  l : List Int
  n : Nat → Int
def Gt.put (s : Gt) (i : Nat) (v : Int) : Gt := ⟨s.k, s.l, upd s.n i v⟩
def Gt.lay (s : Gt) (l : List Int) : Gt := ⟨s.k + 1, l, s.n⟩
structure GtI (gb : Nat) (y : List Hl) (s : Gt) (w : World) : Prop where
  len : y.length = s.k + 1
  top : ∃ (arr : Array Value) (h : Hl), w.heap[gb]? = some (.cells arr 105) ∧ arr.size = 65 ∧ y[s.k]? = some h ∧ h.l = s.l ∧ arr[0]? = some h.v ∧ ∀ i, i < 64 → arr[1 + i]? = some (.int .i64 (s.n i))
  held : ∀ h : Hl, h ∈ y → HlI h w
  one : ∀ (i j : Nat) (h h' : Hl), y[i]? = some h → y[j]? = some h' → h.p = h'.p → i = j
  ne : ∀ h : Hl, h ∈ y → ¬ h.sh gb
def gtSh (gb : Nat) (y : List Hl) (b : Nat) : Prop := b = gb ∨ ∃ h ∈ y, h.sh b
theorem GtI.same {gb : Nat} {y : List Hl} {s : Gt} {w w' : World} (I : GtI gb y s w) (hb : ∀ b, gtSh gb y b → w'.heap[b]? = w.heap[b]?) : GtI gb y s w' := by
  obtain ⟨arr, h, h1, h2⟩ := I.top
  exact ⟨I.len, ⟨arr, h, (hb gb (.inl rfl)).trans h1, h2⟩, fun h hm => (I.held h hm).same fun b e => hb b (.inr ⟨h, hm, e⟩), I.one, I.ne⟩
theorem GtI.lt {gb : Nat} {y : List Hl} {s : Gt} {w : World} (I : GtI gb y s w) {b : Nat} (h : gtSh gb y b) : b < w.heap.size := by
  rcases h with rfl | ⟨h, hm, e⟩
  · obtain ⟨arr, h, h1, h2⟩ := I.top
    exact (Array.getElem?_eq_some_iff.1 h1).1
  · exact (I.held h hm).lt e
structure GateIn (L : La) (gb : Nat) where
  gt : L.Sg → Gt
  put : L.Sg → Nat → Int → L.Sg
  lay : L.Sg → List Int → L.Sg
  gh : L.Gh → List Hl
  ghl : L.Gh → Hl → L.Gh
  le : ∀ {y y'}, L.le y y' → gh y <+: gh y'
  lel : ∀ y h, L.le y (ghl y h)
  sh : ∀ {y b}, gtSh gb (gh y) b → L.sh y b
  shl : ∀ {y h b}, L.sh (ghl y h) b → L.sh y b ∨ h.sh b
  I : ∀ {y s w}, L.I y s w → GtI gb (gh y) (gt s) w
  gput : ∀ s i v, gt (put s i v) = (gt s).put i v
  glay : ∀ s l, gt (lay s l) = (gt s).lay l
  upN : ∀ {y s w i v}, i < 64 → L.I y s w → L.I y (put s i v) (w.setCell ⟨gb, 1 + i, none⟩ (.int .i64 v))
  upL : ∀ {y s w h b}, h.p = some b → HlI h w → (∀ b, h.sh b → ¬ L.sh y b) → L.I y s w → L.I (ghl y h) (lay s h.l) (w.setCell ⟨gb, 0, none⟩ (.pointer (some ⟨b, 0, none⟩)))
end Go.Proofs.Ytgfajibjedfkdaa
