/- Part 19. -/
import Derived.Test.YtdcjgmlgmjjogaaJ3
import Derived.Test.YtdcjgmlgmjjogaaJ4
import Derived.Test.YtdcjgmlgmjjogaaJ5
import Derived.Test.YtdcjgmlgmjjogaaJ13
import Derived.Test.YtdcjgmlgmjjogaaJ14
import Derived.Test.YtdcjgmlgmjjogaaJ15
import Derived.Test.YtdcjgmlgmjjogaaJ18
set_option linter.unusedSimpArgs false
set_option linter.unusedVariables false
set_option maxHeartbeats 8000000
set_option maxRecDepth 100000
namespace Go.Proofs.Ytdcjgmlgmjjogaa
open Go.Conc Go.RowKit Go.Relay
open Go.ConcN (upd upd_ne upd_same)
def runN (L : La) : Nat → L.Sg × (Ans ⊕ L.D) → Option (L.Sg × Ans)
  | _, (s, .inl a) => some (s, a)
  | 0, (_, .inr _) => none
  | n + 1, (s, .inr d) => runN L n (L.act s d)
theorem undStepperN : ∃ ms, Try.prog.underlying 69 = some (.interface ms) := by
  have h : (match Try.prog.underlying 69 with | some (.interface _) => true | _ => false) = true := by kernel_rfl
  revert h
  cases Try.prog.underlying 69 with
  | none => simp
  | some d =>
    cases d with
    | interface fs => exact fun _ => ⟨fs, rfl⟩
    | _ => simp
section
section
variable {P : Program} {main : Bool} {V : Nat → Option Wait} {Stop : Goroutine → World → Prop} {b : Frame} {a : Act} {cs : List Frame} {w : World} {fn : Func} {todo : List Item} {c : Frame} {t s r : Tmp}
theorem Walk.on3 (hn : b.kind = .normal) (hd : a.defers = []) (hf : P.funcs[b.fn]? = some fn) (hr : fn.results = #[.tmp t, .tmp s, .tmp r]) (h : Walk P main (DR V) Stop (G (c.finish (.tuple #[a.tmps.getD t undef, a.tmps.getD s undef, a.tmps.getD r undef])) cs) w) : Walk P main (DR V) Stop (G { b.at a todo with mode := .returning } (c :: cs)) w :=
  Walk.ctl rfl (fun w => stepG_leave (v := .tuple #[a.tmps.getD t undef, a.tmps.getD s undef, a.tmps.getD r undef]) hn hd hf (by simp [results, hr]) (by simp [results, hr])) h
end
section
variable {main : Bool} {V : Nat → Option Wait}
theorem step_nil (w : World) : CallV Try.prog main V 96 #[.nilIface] w (.tuple #[]) w := by
  obtain ⟨ms, hu⟩ := undStepperN
  have hn1 := fun w => run_neq_nilIface (P := Try.prog) (w := w) 69 hu
  have hn2 := fun w es => ev_neq_nilIface (P := Try.prog) (w := w) 69 es hu
  refine callW_in Try.func96 code96_is fun fr cs => ?_
  simp only [Try.ntmps96, ez, Nat.reduceAdd, Nat.reduceSub]
  repeat (first | refine Walk.cx ?_ | (refine Walk.cReg ?_; simp only [z96]) | (refine Walk.oq ?_; try walk_nrm) | (refine Walk.un ?_; walk_nrm))
  exact Walk.ret0 rfl rfl Try.func96 rfl fun d => ⟨rfl, d, rfl⟩
theorem holds_nil (b q : Nat) (v : Int) (w : World) (hc : w.cell? ⟨b, q, none⟩ = some (.int .i64 v)) : CallV Try.prog main V 86 #[.nilIface, .pointer (some ⟨b, q, none⟩)] w (.int .i64 v) w := by
  have hi1 := run_ifaceAtomic
  have hi2 := ev_ifaceAtomic
  refine callW_in Try.func86 code86_is fun fr cs => ?_
  simp only [Try.ntmps86, ez, Nat.reduceAdd, Nat.reduceSub]
  repeat (first | refine Walk.cx ?_ | (refine Walk.cReg ?_; simp only [z86]) | (refine Walk.oq ?_; try walk_nrm) | (refine Walk.un ?_; walk_nrm))
  refine Walk.callV (x := .tuple #[]) (W := w) ?_ (ho_of (by conv => lhs; whnf) (by kernel_rfl)) (by rfl) (by decide) rfl Try.func96 (by kernel_rfl) (by rfl) ?_
  · walk_nrm
    exact step_nil w
  walk_nrm
  repeat (first | refine Walk.cx ?_ | (refine Walk.cReg ?_; simp only [z86]) | (refine Walk.oq ?_; try walk_nrm) | (refine Walk.un ?_; walk_nrm))
  refine Walk.invokeLoad b q (ho_of (by conv => lhs; whnf) (by kernel_rfl)) (by rfl) (by decide) rfl rfl ?_
  refine (atLoad b q _ w hc _ _).then ?_
  rintro g' w' ⟨v', ⟨rfl, dd, rfl⟩, rfl⟩
  refine Walk.back ?_ dd
  refine Walk.finish (ho_of (by conv => lhs; whnf) (by kernel_rfl)) ?_
  walk_nrm
  repeat (first | refine Walk.cx ?_ | (refine Walk.cReg ?_; simp only [z86]) | (refine Walk.oq ?_; try walk_nrm) | (refine Walk.un ?_; walk_nrm))
  exact Walk.ret1 rfl rfl Try.func86 rfl fun d => ⟨rfl, d, rfl⟩
theorem load_nil (b q : Nat) (v : Int) (w : World) (hc : w.cell? ⟨b, q, none⟩ = some (.int .i64 v)) : CallV Try.prog main V 65 #[.pointer (some ⟨b, q, none⟩), .nilIface] w (.int .i64 v) w := by
  have hp1 := fun w => run_eql_ptr (P := Try.prog) 171 undWord (some ⟨b, q, none⟩) w
  have hp2 := fun w es => ev_eql_ptr (P := Try.prog) 171 undWord (some ⟨b, q, none⟩) w es
  simp only [Option.isNone_some] at hp1
  refine callW_in Try.func65 code65_is fun fr cs => ?_
  simp only [Try.ntmps65, ez, Nat.reduceAdd, Nat.reduceSub]
  repeat (first | refine Walk.cx ?_ | (refine Walk.cReg ?_; simp only [z65]) | (refine Walk.oq ?_; try walk_nrm) | (refine Walk.un ?_; walk_nrm))
  refine Walk.callV (x := .int .i64 v) (W := w) ?_ (ho_of (by conv => lhs; whnf) (by kernel_rfl)) (by rfl) (by decide) rfl Try.func86 (by kernel_rfl) (by rfl) ?_
  · walk_nrm
    exact holds_nil b q v w hc
  walk_nrm
  repeat (first | refine Walk.cx ?_ | (refine Walk.cReg ?_; simp only [z65]) | (refine Walk.oq ?_; try walk_nrm) | (refine Walk.un ?_; walk_nrm))
  exact Walk.ret1 rfl rfl Try.func65 rfl fun d => ⟨rfl, d, rfl⟩
noncomputable def reg45_0 := rg Try.f45.body [0]
noncomputable def reg45_1 := rg Try.f45.body [1, 0]
theorem z45 : List.range reg45_0.size = [0] ∧ List.range reg45_1.size = [0, 1, 2] := by refine ⟨?_, ?_⟩ <;> kernel_rfl
theorem code45_is : Try.f45.body = some (.seq (.region 0 reg45_0 false) (.seq (.region 1 reg45_1 false) (.ret))) := by kernel_rfl
theorem value_nil (b q : Nat) (v : Int) (w : World) (hc : w.cell? ⟨b, q, none⟩ = some (.int .i64 v)) : CallV Try.prog main V 45 #[.pointer (some ⟨b, q, none⟩)] w (.int .i64 v) w := by
  refine callW_in Try.func45 code45_is fun fr cs => ?_
  simp only [Try.ntmps45, ez, Nat.reduceAdd, Nat.reduceSub]
  repeat (first | refine Walk.cx ?_ | (refine Walk.cReg ?_; simp only [z45]) | (refine Walk.oq ?_; try walk_nrm) | (refine Walk.un ?_; walk_nrm))
  refine Walk.callV (x := .int .i64 v) (W := w) ?_ (ho_of (by conv => lhs; whnf) (by kernel_rfl)) (by rfl) (by decide) rfl Try.func65 (by kernel_rfl) (by rfl) ?_
  · walk_nrm
    exact load_nil b q v w hc
  walk_nrm
  repeat (first | refine Walk.cx ?_ | (refine Walk.cReg ?_; simp only [z45]) | (refine Walk.oq ?_; try walk_nrm) | (refine Walk.un ?_; walk_nrm))
  exact Walk.ret1 rfl rfl Try.func45 rfl fun d => ⟨rfl, d, rfl⟩
end
def oz0 : Oz := ⟨fun _ => 0, fun _ => 0, fun _ => 0⟩
def cellsN (sz : Int) : Nat := (min (max sz 1) 64).toNat
theorem cellsN_le (sz : Int) : 1 ≤ cellsN sz ∧ cellsN sz ≤ 64 ∧ ((cellsN sz : Nat) : Int) = min (max sz 1) 64 := by
  unfold cellsN
  omega
theorem made3 (n j : Nat) (hj : j < n * 3) : (madeCells #[.int .i64 0, .int .i64 0, .int .i64 0] (n * 3))[j]? = some (.int .i64 0) := by
  unfold madeCells
  rw [Array.getElem?_map, Array.getElem?_range, if_pos hj]
  have : j % 3 = 0 ∨ j % 3 = 1 ∨ j % 3 = 2 := by omega
  rcases this with h | h | h <;> simp [h]
noncomputable def reg28_0 := rg Try.f28.body [0]
noncomputable def reg28_1 := rg Try.f28.body [1, 0]
theorem z28 : List.range reg28_0.size = [0] ∧ List.range reg28_1.size = [0, 1, 2, 3, 4] := by refine ⟨?_, ?_⟩ <;> kernel_rfl
theorem code28_is : Try.f28.body = some (.seq (.region 0 reg28_0 false) (.seq (.region 1 reg28_1 false) (.ret))) := by kernel_rfl
noncomputable def reg15_0 := rg Try.f15.body [0]
noncomputable def reg15_1 := rg Try.f15.body [1, 0, 0]
noncomputable def reg15_2 := rg Try.f15.body [1, 0, 1, 0, 0]
noncomputable def reg15_3 := rg Try.f15.body [1, 1, 0]
theorem size15_3 : reg15_3.size = 15 := by kernel_rfl
theorem z15 : List.range reg15_0.size = [0, 1, 2] ∧ List.range reg15_1.size = [0, 1] ∧ List.range reg15_2.size = [0, 1, 2] ∧ List.range reg15_3.size = [0, 1, 2, 3, 4, 5, 6, 7, 8, 9, 10, 11, 12, 13, 14] := by refine ⟨?_, ?_, ?_, ?_⟩ <;> kernel_rfl
theorem code15_is : Try.f15.body = some (.seq (.region 0 reg15_0 false) (.seq (.seq (.region 1 reg15_1 false) (.cond (.tmp 6 ) (.seq (.region 2 reg15_2 false) (.ret)) (.skip))) (.seq (.region 3 reg15_3 true) (.ret)))) := by kernel_rfl
section
variable {main : Bool} {V : Nat → Option Wait}
theorem newOnces_w (sz : Int) (w : World) : CallW Try.prog main V 28 #[.int .i64 sz] w (fun v w' => v = .slice (some ⟨w.heap.size, 0, none⟩) (cellsN sz) (cellsN sz) ∧ OzI w.heap.size (cellsN sz) oz0 w' ∧ (∀ b, b < w.heap.size → w'.heap[b]? = w.heap[b]?) ∧ w'.heap.size = w.heap.size + 1) := by
  intro c cs
  have hmx := @events_max_ints Try.prog
  have hmn := @events_min_ints Try.prog
  have hi1 := Option.some_get (show (Try.prog.info? 45).isSome = true by kernel_rfl)
  obtain ⟨q1, q2, q3⟩ := cellsN_le sz
  rw [enter_at _ Try.func28 code28_is]
  simp only [Try.ntmps28, ez, Nat.reduceAdd, Nat.reduceSub]
  repeat (first | refine Walk.cx ?_ | (refine Walk.cReg ?_; simp only [z28]) | (refine Walk.oq ?_; try walk_nrm) | (refine Walk.un ?_; walk_nrm))
  try rw [← q3]
  clear q3 hmx hmn
  generalize hn : cellsN sz = n at *
  clear hn
  refine Walk.make 91 (.tmp 5) (.tmp 5) (ho_of (by conv => lhs; whnf) (by kernel_rfl)) (by rfl) (by decide) rfl 45 _ (.agg #[.int .i64 0, .int .i64 0, .int .i64 0]) 3 24 (by kernel_rfl) hi1.symm (by rfl) (by rfl) (by rfl) n (by rfl) (by rfl) (by omega) (by omega) ?_
  walk_nrm
  simp only [Value.cells]
  have s1 : (w.alloc (.cells (madeCells #[.int .i64 0, .int .i64 0, .int .i64 0] (n * 3)) 45)).heap.size = w.heap.size + 1 := by simp
  have o1 : ∀ b, b < w.heap.size → (w.alloc (.cells (madeCells #[.int .i64 0, .int .i64 0, .int .i64 0] (n * 3)) 45)).heap[b]? = w.heap[b]? := fun b hb => heap_new_lt _ _ hb
  have d1 := heap_alloc_new w (.cells (madeCells #[.int .i64 0, .int .i64 0, .int .i64 0] (n * 3)) 45)
  generalize w.alloc (.cells (madeCells #[.int .i64 0, .int .i64 0, .int .i64 0] (n * 3)) 45) = w1 at *
  repeat (first | refine Walk.cx ?_ | (refine Walk.cReg ?_; simp only [z28]) | (refine Walk.oq ?_; try walk_nrm) | (refine Walk.un ?_; walk_nrm))
  exact Walk.on1 rfl rfl Try.func28 rfl (.stop fun d => ⟨_, ⟨rfl, ⟨_, d1, fun i hi => ⟨made3 n _ (by omega), made3 n _ (by omega), made3 n _ (by omega)⟩⟩, o1, s1⟩, rfl⟩)
variable {cb m : Nat}
theorem ostate1_w (s : Oz) (i : Nat) (hi : i < m) (w : World) (I : OzI cb m s w) : CallV Try.prog main V 15 #[.pointer (some ⟨cb, i * 3, none⟩)] w (.tuple #[.int .i64 (s.st i), .int .i64 (s.vl i), .int .i64 (s.ct i)]) w := by
  obtain ⟨arr, h1, h2⟩ := I.blk
  obtain ⟨k0, k1, k2⟩ := h2 i hi
  have c0 := (cell_of h1 (i * 3)).trans k0
  have c1 := (cell_of h1 (i * 3 + 1)).trans k1
  have c2 := (cell_of h1 (i * 3 + 2)).trans k2
  have hp1 := fun w => run_eql_ptr (P := Try.prog) 35 undOnce (some ⟨cb, i * 3, none⟩) w
  have hp2 := fun w es => ev_eql_ptr (P := Try.prog) 35 undOnce (some ⟨cb, i * 3, none⟩) w es
  simp only [Option.isNone_some] at hp1
  refine callW_in Try.func15 code15_is fun fr cs => ?_
  simp only [Try.ntmps15, ez, Nat.reduceAdd, Nat.reduceSub]
  repeat (first | refine Walk.cx ?_ | (refine Walk.cReg ?_; simp only [z15]) | (refine Walk.oq ?_; try walk_nrm) | (refine Walk.un ?_; walk_nrm))
  (refine Walk.drawnCW (by kernel_rfl) size15_3 (by kernel_rfl) (by kernel_rfl) (by decide) ?_; simp only [List.range, List.range.loop]; repeat (first | (refine Cm.oq ?_) | (refine Cm.unw (ho_of (by conv => lhs; whnf) (by kernel_rfl)) (by rfl) ?_; walk_nrm)))
  refine Cm.callV (x := .int .i64 (s.st i)) ?_ (ho_of (by conv => lhs; whnf) (by kernel_rfl)) (by rfl) rfl Try.func45 (by kernel_rfl) (by rfl) ?_
  · intro w' he
    subst he
    walk_nrm
    exact value_nil cb (i * 3) _ _ c0
  walk_nrm
  repeat (first | (refine Cm.oq ?_) | (refine Cm.unw (ho_of (by conv => lhs; whnf) (by kernel_rfl)) (by rfl) ?_; walk_nrm))
  refine Cm.callV (x := .int .i64 (s.vl i)) ?_ (ho_of (by conv => lhs; whnf) (by kernel_rfl)) (by rfl) rfl Try.func45 (by kernel_rfl) (by rfl) ?_
  · intro w' he
    subst he
    walk_nrm
    exact value_nil cb (i * 3 + 1) _ _ c1
  walk_nrm
  repeat (first | (refine Cm.oq ?_) | (refine Cm.unw (ho_of (by conv => lhs; whnf) (by kernel_rfl)) (by rfl) ?_; walk_nrm))
  refine Cm.callV (x := .int .i64 (s.ct i)) ?_ (ho_of (by conv => lhs; whnf) (by kernel_rfl)) (by rfl) rfl Try.func45 (by kernel_rfl) (by rfl) ?_
  · intro w' he
    subst he
    walk_nrm
    exact value_nil cb (i * 3 + 2) _ _ c2
  walk_nrm
  repeat (first | (refine Cm.oq ?_) | (refine Cm.unw (ho_of (by conv => lhs; whnf) (by kernel_rfl)) (by rfl) ?_; walk_nrm))
  refine Cm.done ?_
  repeat (first | refine Walk.cx ?_ | (refine Walk.cReg ?_; simp only [z15]) | (refine Walk.oq ?_; try walk_nrm) | (refine Walk.un ?_; walk_nrm))
  exact Walk.on3 rfl rfl Try.func15 rfl (.stop fun d => ⟨_, ⟨rfl, d, rfl⟩, rfl⟩)
end
end
section
section
variable {P : Program} {main : Bool} {V : Nat → Option Wait} {Stop : Goroutine → World → Prop} {w : World} {b : Frame} {a : Act} {k : List Item} {cs : List Frame} {ops : Array Oper} {i : Nat} {rest : List Nat} {o : Oper}
theorem Walk.makeCap (t : TypeId) (l c : Operand) (ho : ops[i]? = some o) (hw : Region.wanted o (yielded ops a.tmps) = true) (hk : b.kind ≠ .early) (hop : o.op = .makeSlice t l c)
    (e : TypeId) (ti : TypeInfo) (z : Value) (size bytes : Nat) (ht : P.underlying t = some (.slice e)) (hi : P.info? e = some ti) (hz : ti.zero = some z) (hsize : ti.size = size) (hby : ti.bytes = bytes)
    (n : Nat) (hl : a.eval l = .int .i64 0) (hc : a.eval c = .int .i64 n) (hbytes : n * bytes ≤ 140737488355328) (h63 : n ≤ 17592186044416)
    (h : Walk P main (DR V) Stop (G (b.at (a.put o.dst (.slice (some ⟨w.heap.size, 0, none⟩) 0 n)) (.inRegion ops rest :: k)) cs) (w.alloc (.cells (madeCells z.cells (n * size)) e))) :
    Walk P main (DR V) Stop (G (b.at a (.inRegion ops (i :: rest) :: k)) cs) w := by
  subst hsize
  subst hby
  have hb' : (ti.bytes : Int) * (n : Int) ≤ 281474976710656 := by
    have h : ((ti.bytes * n : Nat) : Int) ≤ 281474976710656 := by rw [Nat.mul_comm]; omega
    rwa [Int.natCast_mul] at h
  refine Walk.go rfl fun d => goes_oper_k ho hw hk fun K hK => ?_
  have hr := run_make (P := P) (w.at d) t e ti z ht hi hz .i64 .i64 0 n (by omega) (by omega) hb' (by omega)
  have he := events_make (P := P) (w.at d) t e ti z ht hi hz .i64 .i64 0 n (by omega) (by omega) hb' (by omega) (by simpa using hbytes) #[]
  simp only [Int.toNat_natCast] at hr
  have hx : (execOp a.eval o).run P (w.at d) = .ok (.value (.slice (some ⟨w.heap.size, 0, none⟩) 0 n)) ((w.alloc (.cells (madeCells z.cells (n * ti.size)) e)).at d) := by
    simp only [execOp, hop, hl, hc, Sem.run_bind, hr]
    rfl
  have hv : (execOp a.eval o).events P (w.at d) #[] = #[] := by
    simp only [execOp, hop, hl, hc, Sem.events_bind, hr, he]
    rfl
  rw [hx]
  refine hK _ _ ⟨DR.alloc' d _ fun ev hm => ?_, h.back d⟩
  have hm' := mem_listed hm
  rw [hv] at hm'
  exact absurd hm' (by simp)
end
def intRow (l : List Int) : List Value := l.map (.int .i64)
structure VI (w0 w : World) (pre : List Int) (ta : Option Addr) (tc : Nat) : Prop where
  row : w.ownsRow w0.heap.size 2 1 (.slice ta pre.length tc) pre.length (intRow pre)
  old : ∀ b, b < w0.heap.size → w.heap[b]? = w0.heap[b]?
  size : w0.heap.size ≤ w.heap.size
def ValOut (w0 : World) (l : List Int) (v : Value) (w' : World) : Prop := ∃ ta tc, v = .slice ta l.length tc ∧ VI w0 w' l ta tc
def ozState (s : Oz) (m : Nat) : List Int := (List.range m).flatMap fun i => [s.st i, s.vl i, s.ct i]
theorem ozState_succ (s : Oz) (m : Nat) : ozState s (m + 1) = ozState s m ++ [s.st m, s.vl m, s.ct m] := by simp [ozState, List.range_succ]
theorem ozState_len (s : Oz) : ∀ m : Nat, (ozState s m).length = m * 3
  | 0 => rfl
  | m + 1 => by rw [ozState_succ, List.length_append, ozState_len s m]; simp; omega
noncomputable def reg31_0 := rg Try.f31.body [0]
noncomputable def reg31_1 := rg Try.f31.body [1, 0]
noncomputable def reg31_2 := rg Try.f31.body [1, 1, 0, 0]
noncomputable def reg31_3 := rg Try.f31.body [1, 1, 0, 1, 0, 0, 0]
noncomputable def reg31_4 := rg Try.f31.body [1, 1, 0, 1, 0, 0, 1, 1, 0, 0, 0]
noncomputable def reg31_5 := rg Try.f31.body [1, 1, 0, 1, 0, 0, 1, 1, 0, 0, 1, 0]
noncomputable def reg31_6 := rg Try.f31.body [1, 1, 0, 1, 0, 0, 1, 1, 0, 0, 1, 1]
noncomputable def reg31_7 := rg Try.f31.body [1, 1, 0, 1, 0, 0, 1, 1, 1]
noncomputable def reg31_8 := rg Try.f31.body [1, 1, 1, 0]
theorem z31 : List.range reg31_0.size = [0] ∧ List.range reg31_1.size = [0, 1, 2, 3, 4] ∧ List.range reg31_2.size = [0, 1, 2] ∧ List.range reg31_3.size = [0] ∧ List.range reg31_4.size = [0, 1] ∧ List.range reg31_5.size = [0, 1, 2, 3, 4, 5, 6, 7, 8, 9, 10] ∧ List.range reg31_6.size = [0, 1, 2, 3, 4, 5, 6] ∧ List.range reg31_7.size = [0, 1] ∧ List.range reg31_8.size = [0, 1] := by refine ⟨?_, ?_, ?_, ?_, ?_, ?_, ?_, ?_, ?_⟩ <;> kernel_rfl
theorem code31_is : Try.f31.body = some (.seq (.region 0 reg31_0 false) (.seq (.region 1 reg31_1 false) (.seq (.seq (.region 2 reg31_2 false) (.block 0 (.loop (.seq (.region 3 reg31_3 false) (.seq (.cond (.tmp 15 ) (.skip) (.exit 0)) (.seq (.block 1 (.seq (.region 4 reg31_4 false) (.seq (.region 5 reg31_5 false) (.region 6 reg31_6 false)))) (.region 7 reg31_7 false))))))) (.seq (.region 8 reg31_8 false) (.ret))))) := by kernel_rfl
noncomputable def hdOst (cb m : Nat) (av : Value) (j : Nat) (u : Nat → Value) : Frame :=
  (base 31).at { tmps := #[.slice (some ⟨cb, 0, none⟩) m m, u 1, u 2, av, u 4, u 5, u 6, u 7, u 8, u 9, u 10, u 11, u 12, .int .i64 m, .int .i64 j, u 15, u 16, u 17, u 18, u 19, u 20, u 21, u 22, u 23, u 24, u 25, u 26, u 27, u 28, u 29, u 30, u 31, u 32], defers := [] } [.code (.seq (.region 3 reg31_3 false) (.seq (.cond (.tmp 15 ) (.skip) (.exit 0)) (.seq (.block 1 (.seq (.region 4 reg31_4 false) (.seq (.region 5 reg31_5 false) (.region 6 reg31_6 false)))) (.region 7 reg31_7 false)))), .inLoop (.seq (.region 3 reg31_3 false) (.seq (.cond (.tmp 15 ) (.skip) (.exit 0)) (.seq (.block 1 (.seq (.region 4 reg31_4 false) (.seq (.region 5 reg31_5 false) (.region 6 reg31_6 false)))) (.region 7 reg31_7 false)))), .inBlock 0, .code (.seq (.region 8 reg31_8 false) (.ret))]
section
variable {main : Bool} {V : Nat → Option Wait} {cb m : Nat}
theorem ost_round (s : Oz) (hm : m ≤ 64) (hA : ∀ b, Apart V b) (w0 : World) (I0 : OzI cb m s w0) (j : Nat) (hj : j < m) (ta : Option Addr) (tc : Nat) (u : Nat → Value) (cs : List Frame) (w : World) (H : VI w0 w (ozState s j) ta tc) :
    Walk Try.prog main (DR V) (fun g w' => ∃ ta tc, (∃ u, g = G (hdOst cb m (.slice ta (ozState s (j + 1)).length tc) (j + 1) u) cs) ∧ VI w0 w' (ozState s (j + 1)) ta tc) (G (hdOst cb m (.slice ta (ozState s j).length tc) j u) cs) w := by
  have hi2 := Option.some_get (show (Try.prog.info? 2).isSome = true by kernel_rfl)
  have I : OzI cb m s w := I0.old (H.old _ I0.lt)
  have hj0 : (0 : Int) ≤ j := by omega
  have hj1 : decide ((j : Int) < m) = true := by simp; omega
  have hj3 : decide (j < m) = true := by simp; omega
  have hj4 : (j : Int) < m := by omega
  have hw1 : IntKind.wrap .i64 ((j : Int) + 1) = ((j + 1 : Nat) : Int) := by rw [IntKind.wrap_i64]; omega
  have hc := ostate1_w (main := main) (V := V) s j hj w I
  have hlen : (ozState s j).length ≤ 192 := by rw [ozState_len]; omega
  have hs1 := ozState_succ s j
  generalize hpre : ozState s j = pre at *
  generalize hx : s.st j = x at *
  generalize hy : s.vl j = y at *
  generalize hz : s.ct j = z at *
  unfold hdOst
  repeat (first | refine Walk.cx ?_ | (refine Walk.cReg ?_; simp only [z31]) | (refine Walk.oq ?_; try walk_nrm) | (refine Walk.un ?_; walk_nrm))
  refine Walk.callV (x := .tuple #[.int .i64 x, .int .i64 y, .int .i64 z]) (W := w) ?_ (ho_of (by conv => lhs; whnf) (by kernel_rfl)) (by rfl) (by decide) rfl Try.func15 (by kernel_rfl) (by rfl) ?_
  · walk_nrm
    exact hc
  walk_nrm
  repeat (first | refine Walk.cx ?_ | (refine Walk.cReg ?_; simp only [z31]) | (refine Walk.oq ?_; try walk_nrm) | (refine Walk.un ?_; walk_nrm))
  (refine Walk.oa ?_; try walk_nrm)
  have d1 := heap_alloc_new w (.cells #[.int .i64 x, .int .i64 y, .int .i64 z] 2)
  have o1 : ∀ b, b < w.heap.size → (w.alloc (.cells #[.int .i64 x, .int .i64 y, .int .i64 z] 2)).heap[b]? = w.heap[b]? := fun b hb => heap_new_lt _ _ hb
  have s1 : (w.alloc (.cells #[.int .i64 x, .int .i64 y, .int .i64 z] 2)).heap.size = w.heap.size + 1 := by simp
  have hHs := H.size
  generalize hN : w.heap.size = N at *
  generalize w.alloc (.cells #[.int .i64 x, .int .i64 y, .int .i64 z] 2) = w1 at *
  have hrow : w1.ownsRow w0.heap.size 2 1 (.slice ta pre.length tc) pre.length (intRow pre) := row_same H.row fun b hb => o1 b (by have := (H.row.lt b hb).2; omega)
  refine Walk.append (.tmp 25) (.tmp 29) 27 (ho_of (by conv => lhs; whnf) (by kernel_rfl)) (by rfl) (by decide) rfl w0.heap.size 2 _ (.int .i64 0) 1 8 (by kernel_rfl) hi2.symm (by rfl) (by rfl) (by rfl) (by rfl) (by decide) (.slice ta pre.length tc) pre.length (intRow pre) rfl hrow ⟨N, 0, none⟩ 3 3 [.int .i64 x, .int .i64 y, .int .i64 z] rfl (by rfl) (fun j u hu => ?_) (by intro u hu; simp only [List.mem_cons, List.not_mem_nil, or_false] at hu; rcases hu with rfl | rfl | rfl <;> rfl) (by decide) (by simp [maxLen]; omega) (by omega) (by omega) (fun b _ => hA b) (fun g gcap w3 hown hgr hat hlt => ?_)
  · rw [add_none, Nat.zero_add]
    refine (cell_of d1 j).trans ?_
    simpa using hu
  have hs3 := hgr.size
  have hold : ∀ b, b < w0.heap.size → w3.heap[b]? = w0.heap[b]? := fun b hb => by
    refine (hgr.block b (by omega) fun he => ?_).trans ((o1 b (by omega)).trans (H.old b hb))
    have := (H.row.lt b he.symm).1
    omega
  walk_nrm
  repeat (first | refine Walk.cx ?_ | (refine Walk.cReg ?_; simp only [z31]) | (refine Walk.oq ?_; try walk_nrm) | (refine Walk.un ?_; walk_nrm))
  refine Walk.ctl rfl (fun w => stepG_inLoop) ?_
  have hl1 : pre.length + 3 = (ozState s (j + 1)).length := by rw [hs1]; simp
  refine .stop fun d => ?_
  refine ⟨some ⟨g, 0, none⟩, gcap, at_slots ?_, ?_⟩
  · rw [← hl1]
    simp only [hdOst]
    rfl
  · refine ⟨?_, hold, ?_⟩
    · have he : intRow (ozState s (j + 1)) = intRow pre ++ [.int .i64 x, .int .i64 y, .int .i64 z] := by rw [hs1]; simp [intRow]
      rw [he, ← hl1]
      exact hown
    · show w0.heap.size ≤ w3.heap.size
      omega
theorem ost_loop (s : Oz) (hm : m ≤ 64) (hA : ∀ b, Apart V b) (w0 : World) (I0 : OzI cb m s w0) (cs : List Frame) : ∀ (r j : Nat) (ta : Option Addr) (tc : Nat) (u : Nat → Value) (w : World), j + r = m → VI w0 w (ozState s j) ta tc →
    Walk Try.prog main (DR V) (fun g w' => ∃ ta tc, (∃ u, g = G (hdOst cb m (.slice ta (ozState s m).length tc) m u) cs) ∧ VI w0 w' (ozState s m) ta tc) (G (hdOst cb m (.slice ta (ozState s j).length tc) j u) cs) w := by
  intro r
  induction r with
  | zero =>
    intro j ta tc u w hj H
    obtain rfl : j = m := by omega
    exact .stop fun d => ⟨ta, tc, ⟨u, rfl⟩, H.row, H.old, H.size⟩
  | succ r ih =>
    intro j ta tc u w hj H
    refine (ost_round s hm hA w0 I0 j (by omega) ta tc u cs w H).then ?_
    rintro _ w1 ⟨ta1, tc1, ⟨u1, rfl⟩, H1⟩
    exact ih (j + 1) ta1 tc1 u1 w1 (by omega) H1
theorem ost_in (hm : m ≤ 64) (cs : List Frame) (w : World) : Walk Try.prog main (DR V) (fun g w' => ∃ ta tc, (∃ u, g = G (hdOst cb m (.slice ta 0 tc) 0 u) cs) ∧ VI w w' [] ta tc) (G (Frame.enter Try.prog 31 #[.slice (some ⟨cb, 0, none⟩) m m] .normal) cs) w := by
  have hi2 := Option.some_get (show (Try.prog.info? 2).isSome = true by kernel_rfl)
  have hw1 : IntKind.wrap .i64 (3 * (m : Int)) = ((3 * m : Nat) : Int) := by rw [IntKind.wrap_i64]; omega
  rw [enter_at _ Try.func31 code31_is]
  simp only [Try.ntmps31, ez, Nat.reduceAdd, Nat.reduceSub]
  repeat (first | refine Walk.cx ?_ | (refine Walk.cReg ?_; simp only [z31]) | (refine Walk.oq ?_; try walk_nrm) | (refine Walk.un ?_; walk_nrm))
  refine Walk.makeCap 27 (.const (.int .i64 0)) (.tmp 10) (ho_of (by conv => lhs; whnf) (by kernel_rfl)) (by rfl) (by decide) rfl 2 _ (.int .i64 0) 1 8 (by kernel_rfl) hi2.symm (by rfl) (by rfl) (by rfl) (3 * m) (by rfl) (by rfl) (by omega) (by omega) ?_
  have d1 := heap_alloc_new w (.cells (madeCells (Value.int .i64 0).cells (3 * m * 1)) 2)
  have o1 : ∀ b, b < w.heap.size → (w.alloc (.cells (madeCells (Value.int .i64 0).cells (3 * m * 1)) 2)).heap[b]? = w.heap[b]? := fun b hb => heap_new_lt _ _ hb
  have s1 : (w.alloc (.cells (madeCells (Value.int .i64 0).cells (3 * m * 1)) 2)).heap.size = w.heap.size + 1 := by simp
  have hsz : (madeCells (Value.int .i64 0).cells (3 * m * 1)).size = 3 * m * 1 := by simp [madeCells]
  generalize madeCells (Value.int .i64 0).cells (3 * m * 1) = cur at *
  generalize hN : w.heap.size = N at *
  generalize w.alloc (.cells cur 2) = w1 at *
  walk_nrm
  repeat (first | refine Walk.cx ?_ | (refine Walk.cReg ?_; simp only [z31]) | (refine Walk.oq ?_; try walk_nrm) | (refine Walk.un ?_; walk_nrm))
  refine Walk.ctl rfl (fun w => stepG_loop) ?_
  refine .stop fun d => ⟨some ⟨N, 0, none⟩, 3 * m, at_slots ?_, ?_⟩
  · simp only [hdOst]
    rfl
  · refine ⟨⟨rfl, .inr ⟨N, 3 * m, cur, rfl, by omega, d1, Nat.zero_le _, by simp [maxLen]; omega, hsz, rfl⟩⟩, fun b hb => o1 b (by omega), ?_⟩
    show w.heap.size ≤ w1.heap.size
    omega
theorem ost_end (s : Oz) (ta : Option Addr) (tc : Nat) (u : Nat → Value) (c : Frame) (cs : List Frame) (w : World) : Walk Try.prog main (DR V) (fun g w' => g = G (c.finish (.slice ta (ozState s m).length tc)) cs ∧ ∃ d, w' = w.at d) (G (hdOst cb m (.slice ta (ozState s m).length tc) m u) (c :: cs)) w := by
  have hj3 : decide (m < m) = false := by simp
  generalize (ozState s m).length = n
  unfold hdOst
  repeat (first | refine Walk.cx ?_ | (refine Walk.cReg ?_; simp only [z31]) | (refine Walk.oq ?_; try walk_nrm) | (refine Walk.un ?_; walk_nrm))
  exact Walk.on1 rfl rfl Try.func31 rfl (.stop fun d => ⟨rfl, d, rfl⟩)
theorem VI.at {w0 w : World} {pre : List Int} {ta : Option Addr} {tc : Nat} (H : VI w0 w pre ta tc) (d : Nat) : VI w0 (w.at d) pre ta tc := ⟨H.row, H.old, H.size⟩
theorem ostate_w (s : Oz) (hm : m ≤ 64) (hA : ∀ b, Apart V b) (w : World) (I : OzI cb m s w) : CallW Try.prog main V 31 #[.slice (some ⟨cb, 0, none⟩) m m] w (ValOut w (ozState s m)) := by
  intro c cs
  refine (ost_in hm (c :: cs) w).then ?_
  rintro _ w1 ⟨ta, tc, ⟨u, rfl⟩, H⟩
  refine (ost_loop s hm hA w I (c :: cs) m 0 ta tc u w1 (by omega) H).then ?_
  rintro _ w2 ⟨ta2, tc2, ⟨u2, rfl⟩, H2⟩
  refine (ost_end s ta2 tc2 u2 c cs w2).mono ?_
  rintro g w' ⟨rfl, d, rfl⟩
  exact ⟨_, ⟨ta2, tc2, rfl, H2.at d⟩, rfl⟩
end
end
section
variable {main : Bool} {V : Nat → Option Wait}
section
variable {P : Program} {t e : TypeId} {ti : TypeInfo}
theorem run_sl_of (hu : P.underlying t = some (.slice e)) (hi : P.info? e = some ti) (tb m cap x : Nat) (hx : x ≤ cap) (w : World) (es : Array Event) : (Instr.sliceAt t (.slice (some ⟨tb, 0, none⟩) m cap) none (some (.int .i64 x)) none).run P w = .ok (.slice (some ⟨tb, 0, none⟩) x cap) w ∧
    (Instr.sliceAt t (.slice (some ⟨tb, 0, none⟩) m cap) none (some (.int .i64 x)) none).events P w es = es := by
  have h1 : (x : Int) ≤ cap := by omega
  constructor <;> simp [Instr.sliceAt, Instr.slice, run_underlying hu, Instr.sliceBounds, Instr.sliceBound, asIntOf, sizeOf, typeInfo, hi, h1, hx, Addr.add]
end
theorem hu53 : Try.prog.underlying 67 = some (.slice 72) := by kernel_rfl
theorem first_some (tb m tcap : Nat) (w : World) (hm : m ≤ tcap) : CallV Try.prog main V 50 #[.slice (some ⟨tb, 0, none⟩) m tcap] w (.slice (some ⟨tb, 0, none⟩) (min m 64) tcap) w := by
  refine callW_in Try.func50 rfl fun fr cs => ?_
  simp only [Try.ntmps50, ez, Nat.reduceAdd, Nat.reduceSub]
  have hmn := @events_min_ints Try.prog
  repeat (first | refine Walk.cx ?_ | refine Walk.cR ?_ | (refine Walk.oq ?_; try walk_nrm) | (refine Walk.un ?_; walk_nrm))
  have hmin : min (m : Int) 64 = ((min m 64 : Nat) : Int) := by omega
  rw [hmin]
  have hxl : min m 64 ≤ tcap := by omega
  generalize min m 64 = x at hxl ⊢
  have hi := Option.some_get (show (Try.prog.info? 72).isSome = true by kernel_rfl)
  have hs := fun w => (run_sl_of hu53 hi.symm tb m tcap x hxl w #[]).1
  have hse := fun w es => (run_sl_of hu53 hi.symm tb m tcap x hxl w es).2
  clear hi
  repeat (first | refine Walk.cx ?_ | refine Walk.cR ?_ | (refine Walk.oq ?_; try walk_nrm) | (refine Walk.un ?_; walk_nrm))
  exact Walk.ret1 rfl rfl Try.func50 rfl fun d => ⟨by simp, d, rfl⟩
end
section
noncomputable def reg56_0 := rg Try.f56.body [0]
noncomputable def reg56_1 := rg Try.f56.body [1, 0]
noncomputable def reg56_2 := rg Try.f56.body [1, 1, 0]
noncomputable def reg56_3 := rg Try.f56.body [1, 1, 1, 0]
noncomputable def reg56_4 := rg Try.f56.body [1, 1, 1, 1, 0, 0]
noncomputable def reg56_5 := rg Try.f56.body [1, 1, 1, 1, 0, 1, 0, 0, 0]
noncomputable def reg56_6 := rg Try.f56.body [1, 1, 1, 1, 0, 1, 0, 0, 1, 1, 0, 0, 0]
noncomputable def reg56_7 := rg Try.f56.body [1, 1, 1, 1, 0, 1, 0, 0, 1, 1, 0, 0, 1, 0]
noncomputable def reg56_8 := rg Try.f56.body [1, 1, 1, 1, 0, 1, 0, 0, 1, 1, 0, 0, 1, 1]
noncomputable def reg56_9 := rg Try.f56.body [1, 1, 1, 1, 0, 1, 0, 0, 1, 1, 1]
noncomputable def reg56_10 := rg Try.f56.body [1, 1, 1, 1, 1, 0]
theorem size56_10 : reg56_10.size = 4 := by kernel_rfl
theorem z56 : List.range reg56_0.size = [0, 1, 2] ∧ List.range reg56_1.size = [0, 1, 2] ∧ List.range reg56_2.size = [0, 1, 2, 3, 4] ∧ List.range reg56_3.size = [0, 1, 2, 3] ∧ List.range reg56_4.size = [0, 1, 2] ∧ List.range reg56_5.size = [0] ∧ List.range reg56_6.size = [0, 1, 2, 3, 4, 5, 6] ∧ List.range reg56_7.size = [0, 1, 2, 3, 4, 5] ∧ List.range reg56_8.size = [0, 1, 2, 3, 4] ∧ List.range reg56_9.size = [0, 1] ∧ List.range reg56_10.size = [0, 1, 2, 3] := by refine ⟨?_, ?_, ?_, ?_, ?_, ?_, ?_, ?_, ?_, ?_, ?_⟩ <;> kernel_rfl
theorem code56_is : Try.f56.body = some (.seq (.region 0 reg56_0 false) (.seq (.region 1 reg56_1 false) (.seq (.region 2 reg56_2 false) (.seq (.region 3 reg56_3 false) (.seq (.seq (.region 4 reg56_4 false) (.block 0 (.loop (.seq (.region 5 reg56_5 false) (.seq (.cond (.tmp 21 ) (.skip) (.exit 0)) (.seq (.block 1 (.seq (.region 6 reg56_6 false) (.seq (.region 7 reg56_7 false) (.region 8 reg56_8 false)))) (.region 9 reg56_9 false))))))) (.seq (.region 10 reg56_10 true) (.ret))))))) := by kernel_rfl
def thrO (N i : Nat) : Value := .func (.func 81) #[] #[.pointer (some ⟨N + 5 + 2 * i, 0, none⟩), .pointer (some ⟨N + 2, 0, none⟩), .pointer (some ⟨N + 4 + 2 * i, 0, none⟩), .pointer (some ⟨N, 0, none⟩)]
structure MkO (N n : Nat) (dv : Value) (oa : Nat → Option Addr) (ln oc : Nat → Nat) (w0 w : World) (i : Nat) : Prop where
  size : w.heap.size = N + 4 + 2 * i
  old : ∀ b, b < N → w.heap[b]? = w0.heap[b]?
  cD : w.heap[N]? = some (.cells #[dv] 94)
  cN : w.heap[N + 1]? = some (.cells (madeCells #[.slice none 0 0] n) 49)
  cA : w.heap[N + 2]? = some (.cells #[.slice (some ⟨N + 1, 0, none⟩) n n] 26)
  cF : ∃ arr : Array Value, w.heap[N + 3]? = some (.cells arr 72) ∧ arr.size = n ∧ ∀ j, j < i → arr[j]? = some (thrO N j)
  cI : ∀ j, j < i → w.heap[N + 4 + 2 * j]? = some (.cells #[.int .i64 (j : Nat)] 3)
  cO : ∀ j, j < i → w.heap[N + 5 + 2 * j]? = some (.cells #[.slice (oa j) (min (ln j) 65536) (oc j)] 32)
theorem MkO.at {N n : Nat} {dv : Value} {oa : Nat → Option Addr} {ln oc : Nat → Nat} {w0 w : World} {i : Nat} (h : MkO N n dv oa ln oc w0 w i) (d : Nat) : MkO N n dv oa ln oc w0 (w.at d) i := ⟨h.size, h.old, h.cD, h.cN, h.cA, h.cF, h.cI, h.cO⟩
section
variable {P : Program} {t e : TypeId} {ti : TypeInfo}
theorem run_slx (hu : P.underlying t = some (.slice e)) (hi : P.info? e = some ti) (a : Option Addr) (m cap x : Nat) (hx : x ≤ cap) (ha : a = none ∧ cap = 0 ∨ ∃ p, a = some p) (w : World) (es : Array Event) : (Instr.sliceAt t (.slice a m cap) none (some (.int .i64 x)) none).run P w = .ok (.slice a x cap) w ∧
    (Instr.sliceAt t (.slice a m cap) none (some (.int .i64 x)) none).events P w es = es := by
  have h1 : (x : Int) ≤ cap := by omega
  rcases ha with ⟨rfl, rfl⟩ | ⟨p, rfl⟩
  · have : x = 0 := by omega
    subst this
    constructor <;> simp [Instr.sliceAt, Instr.slice, run_underlying hu, Instr.sliceBounds, Instr.sliceBound, asIntOf, sizeOf, typeInfo, hi]
  · constructor <;> simp [Instr.sliceAt, Instr.slice, run_underlying hu, Instr.sliceBounds, Instr.sliceBound, asIntOf, sizeOf, typeInfo, hi, h1, hx, Addr.add]
end
theorem huOps : Try.prog.underlying 32 = some (.slice 34) := by kernel_rfl
noncomputable def hd46 (dv : Value) (ta : Option Addr) (tc N n j : Nat) (u : Nat → Value) : Frame :=
  (base 56).at { tmps := #[.slice ta n tc, dv, u 2, .pointer (some ⟨N, 0, none⟩), u 4, u 5, .pointer (some ⟨N + 2, 0, none⟩), .slice (some ⟨N + 3, 0, none⟩) n n, u 8, u 9, u 10, u 11, u 12, u 13, u 14, u 15, u 16, u 17, .slice ta n tc, .int .i64 n, .int .i64 j, u 21, u 22, u 23, u 24, u 25, u 26, u 27, u 28, u 29, u 30, u 31, u 32, u 33, u 34, u 35, u 36], defers := [] } [.code (.seq (.region 5 reg56_5 false) (.seq (.cond (.tmp 21 ) (.skip) (.exit 0)) (.seq (.block 1 (.seq (.region 6 reg56_6 false) (.seq (.region 7 reg56_7 false) (.region 8 reg56_8 false)))) (.region 9 reg56_9 false)))), .inLoop (.seq (.region 5 reg56_5 false) (.seq (.cond (.tmp 21 ) (.skip) (.exit 0)) (.seq (.block 1 (.seq (.region 6 reg56_6 false) (.seq (.region 7 reg56_7 false) (.region 8 reg56_8 false)))) (.region 9 reg56_9 false)))), .inBlock 0, .code (.seq (.region 10 reg56_10 true) (.ret))]
section
variable {main : Bool} {V : Nat → Option Wait}
theorem madeCells_get (v : Value) (n i : Nat) (hi : i < n) : (madeCells #[v] n)[i]? = some v := by
  have : (madeCells #[v] n)[i]? = (madeCells #[v] n).toList[i]? := by simp
  rw [this, toList_madeCells_one, List.getElem?_replicate, if_pos hi]
theorem madeCells_size (v : Value) (n : Nat) : (madeCells #[v] n).size = n := by
  rw [← Array.length_toList, toList_madeCells_one, List.length_replicate]
theorem opThreads_in (fdo : FuncId) (first cap : Array Value) (tv : Value) (ta : Option Addr) (tc n : Nat) (hn : n ≤ 64) (cs : List Frame) (w : World) (hA : ∀ b, w.heap.size ≤ b → Apart V b)
    (hp : ∀ w' : World, (∀ b, b < w.heap.size → w'.heap[b]? = w.heap[b]?) → CallV Try.prog main V 80 #[tv] w' (.slice ta n tc) w') (oa : Nat → Option Addr) (ln oc : Nat → Nat) :
    Walk Try.prog main (DR V) (fun g w' => (∃ u, g = G (hd46 (.func (.func fdo) first cap) ta tc w.heap.size n 0 u) cs) ∧ MkO w.heap.size n (.func (.func fdo) first cap) oa ln oc w w' 0) (G (Frame.enter Try.prog 56 #[tv, .func (.func fdo) first cap] .normal) cs) w := by
  have hi1 := Option.some_get (show (Try.prog.info? 49).isSome = true by kernel_rfl)
  have hi2 := Option.some_get (show (Try.prog.info? 72).isSome = true by kernel_rfl)
  rw [enter_at _ Try.func56 code56_is]
  simp only [Try.ntmps56, ez, Nat.reduceAdd, Nat.reduceSub]
  repeat (first | refine Walk.cx ?_ | (refine Walk.cReg ?_; simp only [z56]) | (refine Walk.oq ?_; try walk_nrm) | (refine Walk.un ?_; walk_nrm))
  (refine Walk.oa ?_; try walk_nrm)
  have s1 : (w.alloc (.cells #[.func (.func fdo) first cap] 94)).heap.size = w.heap.size + 1 := by simp
  have o1 : ∀ b, b < w.heap.size → (w.alloc (.cells #[.func (.func fdo) first cap] 94)).heap[b]? = w.heap[b]? := fun b hb => heap_new_lt _ _ hb
  have d1 := heap_alloc_new w (.cells #[.func (.func fdo) first cap] 94)
  generalize hN : w.heap.size = N at *
  generalize w.alloc (.cells #[.func (.func fdo) first cap] 94) = w1 at *
  repeat (first | refine Walk.cx ?_ | (refine Walk.cReg ?_; simp only [z56]) | (refine Walk.oq ?_; try walk_nrm) | (refine Walk.un ?_; walk_nrm))
  refine Walk.callV (x := .slice ta n tc) (W := w1) ?_ (ho_of (by conv => lhs; whnf) (by kernel_rfl)) (by rfl) (by decide) rfl Try.func80 (by kernel_rfl) (by rfl) ?_
  · walk_nrm
    exact hp w1 o1
  walk_nrm
  repeat (first | refine Walk.cx ?_ | (refine Walk.cReg ?_; simp only [z56]) | (refine Walk.oq ?_; try walk_nrm) | (refine Walk.un ?_; walk_nrm))
  refine Walk.make 26 (.tmp 13) (.tmp 13) (ho_of (by conv => lhs; whnf) (by kernel_rfl)) (by rfl) (by decide) rfl 49 _ (.slice none 0 0) 1 24 (by kernel_rfl) hi1.symm (by rfl) (by rfl) (by rfl) n (by rfl) (by rfl) (by omega) (by omega) ?_
  walk_nrm
  simp only [Value.cells, Nat.mul_one]
  have s2 : (w1.alloc (.cells (madeCells #[.slice none 0 0] n) 49)).heap.size = N + 2 := by simp [s1]
  have o2 : ∀ b, b < N + 1 → (w1.alloc (.cells (madeCells #[.slice none 0 0] n) 49)).heap[b]? = w1.heap[b]? := fun b hb => heap_new_lt _ _ (by omega)
  have d2 := heap_alloc_new w1 (.cells (madeCells #[.slice none 0 0] n) 49)
  rw [s1] at d2
  try simp only [s1]
  generalize w1.alloc (.cells (madeCells #[.slice none 0 0] n) 49) = w2 at *
  (refine Walk.oa ?_; try walk_nrm)
  have s3 : (w2.alloc (.cells #[.slice none 0 0] 26)).heap.size = N + 3 := by simp [s2]
  have o3 : ∀ b, b < N + 2 → (w2.alloc (.cells #[.slice none 0 0] 26)).heap[b]? = w2.heap[b]? := fun b hb => heap_new_lt _ _ (by omega)
  have d3 := heap_alloc_new w2 (.cells #[.slice none 0 0] 26)
  rw [s2] at d3
  try simp only [s2]
  generalize w2.alloc (.cells #[.slice none 0 0] 26) = w3 at *
  have c3 := (cell_of d3 0).trans rfl
  have z3 := frozen_of d3 0
  have f3 := (hA (N + 2) (by omega)).1 ⟨N + 2, 0, none⟩ rfl
  (refine Walk.os f3 c3 ?_; try walk_nrm)
  have s4 := size_set w3 ⟨N + 2, 0, none⟩ (.slice (some ⟨N + 1, 0, none⟩) n n)
  have o4 : ∀ b, b ≠ N + 2 → (w3.setCell ⟨N + 2, 0, none⟩ (.slice (some ⟨N + 1, 0, none⟩) n n)).heap[b]? = w3.heap[b]? := fun b hb => heap_set_other _ _ _ _ hb
  have d4 : (w3.setCell ⟨N + 2, 0, none⟩ (.slice (some ⟨N + 1, 0, none⟩) n n)).heap[N + 2]? = some (.cells #[.slice (some ⟨N + 1, 0, none⟩) n n] 26) := by
    rw [heap_set_self _ _ d3]
    simp
  rw [s3] at s4
  clear c3 z3 f3
  generalize w3.setCell ⟨N + 2, 0, none⟩ (.slice (some ⟨N + 1, 0, none⟩) n n) = w4 at *
  repeat (first | refine Walk.cx ?_ | (refine Walk.cReg ?_; simp only [z56]) | (refine Walk.oq ?_; try walk_nrm) | (refine Walk.un ?_; walk_nrm))
  refine Walk.make 67 (.tmp 16) (.tmp 16) (ho_of (by conv => lhs; whnf) (by kernel_rfl)) (by rfl) (by decide) rfl 72 _ .nilFunc 1 8 (by kernel_rfl) hi2.symm (by rfl) (by rfl) (by rfl) n (by rfl) (by rfl) (by omega) (by omega) ?_
  walk_nrm
  simp only [Value.cells, Nat.mul_one]
  have s5 : (w4.alloc (.cells (madeCells #[.nilFunc] n) 72)).heap.size = N + 4 := by simp [s4]
  have o5 : ∀ b, b < N + 3 → (w4.alloc (.cells (madeCells #[.nilFunc] n) 72)).heap[b]? = w4.heap[b]? := fun b hb => heap_new_lt _ _ (by omega)
  have d5 := heap_alloc_new w4 (.cells (madeCells #[.nilFunc] n) 72)
  rw [s4] at d5
  try simp only [s4]
  generalize w4.alloc (.cells (madeCells #[.nilFunc] n) 72) = w5 at *
  repeat (first | refine Walk.cx ?_ | (refine Walk.cReg ?_; simp only [z56]) | (refine Walk.oq ?_; try walk_nrm) | (refine Walk.un ?_; walk_nrm))
  refine Walk.ctl rfl (fun w => stepG_loop) ?_
  refine .stop fun d => ⟨at_slots ?_, MkO.at ⟨by omega, fun b hb => ?_, ?_, ?_, ?_, ⟨_, d5, madeCells_size _ _, fun j hj => absurd hj (Nat.not_lt_zero _)⟩, fun j hj => absurd hj (Nat.not_lt_zero _), fun j hj => absurd hj (Nat.not_lt_zero _)⟩ d⟩
  · simp only [hd46]
    rfl
  · rw [o5 b (by omega), o4 b (by omega), o3 b (by omega), o2 b (by omega), o1 b hb]
  · rw [o5 N (by omega), o4 N (by omega), o3 N (by omega), o2 N (by omega), d1]
  · rw [o5 _ (by omega), o4 _ (by omega), o3 _ (by omega), d2]
  · rw [o5 _ (by omega), d4]
end
end
end Go.Proofs.Ytdcjgmlgmjjogaa
