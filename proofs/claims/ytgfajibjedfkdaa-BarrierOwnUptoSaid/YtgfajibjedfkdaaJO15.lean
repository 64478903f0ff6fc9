/- Part 15. -/
import Derived.Test.YtgfajibjedfkdaaJO5
import Derived.Test.YtgfajibjedfkdaaJO14
import Derived.Laws.CopyRow
import Derived.Conc.AppendEvents
set_option linter.unusedSimpArgs false
set_option linter.unusedVariables false
set_option linter.unusedVariables false
set_option maxHeartbeats 8000000
set_option maxRecDepth 100000
namespace Go.Relay
section
open Go.Conc Go.RowKit
variable {P : Program} {main : Bool} {V : Nat → Option Wait} {Stop : Goroutine → World → Prop} {w : World} {b : Frame} {a : Act} {k : List Item} {cs : List Frame} {ops : Array Oper} {i : Nat} {rest : List Nat} {o : Oper}
theorem run_clear_op {v v' : Value} {w' : World} (s : Operand) (t : TypeId) (ho : o.op = .call { callee := .builtin .clear, args := #[s], argTypes := #[t] }) (hs : a.eval s = v) {K : Act → World → Prop}
    (hr : (Builtin.clear_ #[t] o.type #[v]).run P w = .ok v' w') (h : K (a.put o.dst v') w') : uponK o a K ((execOp a.eval o).run P w) := by
  unfold execOp
  simp only [ho, resolve, invoke, builtin, Sem.run_bind, Sem.run_pure, Result.andThen_ok, List.map_toArray, List.map_cons, List.map_nil, hs, hr]
  exact h
theorem events_clear_op {v : Value} (s : Operand) (t : TypeId) (ho : o.op = .call { callee := .builtin .clear, args := #[s], argTypes := #[t] }) (hs : a.eval s = v) (es : Array Event) :
    (execOp a.eval o).events P w es = (Builtin.clear_ #[t] o.type #[v]).events P w es := by
  unfold execOp
  simp only [ho, resolve, invoke, builtin, Sem.events_bind, Sem.run_pure, Sem.events_pure, Result.evThen_ok, List.map_toArray, List.map_cons, List.map_nil, hs]
  cases (Builtin.clear_ #[t] o.type #[v]).run P w <;> rfl
theorem Walk.clear (s : Operand) (t e : TypeId) (ho : ops[i]? = some o) (hw : Region.wanted o (yielded ops a.tmps) = true) (hk : b.kind ≠ .early) (hop : o.op = .call { callee := .builtin .clear, args := #[s], argTypes := #[t] })
    (ti : TypeInfo) (z : Value) (ht : P.underlying t = some (.slice e)) (hi : P.info? e = some ti) (hz : ti.zero = some z) (hzs : z.cells.size = 1) (h1 : ∀ n, ∀ v ∈ (Builtin.zeroCells z.cells n).toList, v.oneCell' = true)
    (g off m c : Nat) (hs : a.eval s = .slice (some ⟨g, off, none⟩) (m + 1) c) (cur : Array Value) (tt : TypeId) (hg : w.heap[g]? = some (.cells cur tt (0, 0))) (hfit : off + (m + 1) ≤ cur.size) (hap : Apart V g)
    (h : Walk P main (DR V) Stop (G (b.at (a.put o.dst (.tuple #[])) (.inRegion ops rest :: k)) cs) (w.setRow g (cur.toList.take off ++ (Builtin.zeroCells z.cells (m + 1)).toList ++ cur.toList.drop (off + (m + 1))).toArray)) :
    Walk P main (DR V) Stop (G (b.at a (.inRegion ops (i :: rest) :: k)) cs) w := by
  have hl : (Builtin.zeroCells z.cells (m + 1)).toList.length = m + 1 := by simp [Builtin.zeroCells, hzs]
  have hrun := fun w' (hg' : w'.heap[g]? = some (.cells cur tt (0, 0))) => run_storeCells_at (P := P) g off tt (Builtin.zeroCells z.cells (m + 1)).toList 0 cur w' hg' (by rw [hl]; omega) (h1 (m + 1))
  rw [hl] at hrun
  simp only [Nat.add_zero] at hrun
  have hgr : ∀ (cells : Array Value) d, (w.at d).grownBy ((w.setRow g cells).at d) (some g) := fun cells d => by
    refine ⟨rfl, rfl, rfl, ?_, fun k hk hne => ?_⟩
    · simp [World.setRow, World.at]
    · have : k ≠ g := fun e => hne (by rw [e])
      simp only [World.setRow, World.at]
      rw [Array.getElem?_modify, if_neg (Ne.symm this)]
  refine Walk.opw (W := w.setRow g (cur.toList.take off ++ (Builtin.zeroCells z.cells (m + 1)).toList ++ cur.toList.drop (off + (m + 1))).toArray) ho hw hk (fun dd e he => ?_) (fun dd es hes => DR.grown (hgr _ dd) (fun g' e => by cases e; exact hap) hes) (fun dd K hK => ?_)
  · rw [events_clear_op s t hop hs] at he
    have hr1 := hrun (w.at dd) hg
    simp [Builtin.clear_, run_underlying ht, zeroValue, typeInfo, hi, hz, hr1] at he
    rcases events_storeCells_at (P := P) g off tt (Builtin.zeroCells z.cells (m + 1)).toList 0 cur (w.at dd) _ hg (by rw [hl]; omega) (h1 (m + 1)) e he with h' | ⟨ad, h', hb⟩
    · simp at h'
    · exact evR_cell h' (hap.1 ad hb)
  · refine run_clear_op s t hop hs (w' := ((w.setRow g (cur.toList.take off ++ (Builtin.zeroCells z.cells (m + 1)).toList ++ cur.toList.drop (off + (m + 1))).toArray).at dd)) (v' := .tuple #[]) ?_ (hK _ h)
    have hr1 := hrun (w.at dd) hg
    simp [Builtin.clear_, run_underlying ht, zeroValue, typeInfo, hi, hz, hr1]
    rfl
end
end Go.Relay
namespace Go.Proofs.Ytgfajibjedfkdaa
open Go.Conc Go.RowKit Go.Relay
open Go.ConcN (upd upd_ne upd_same)
section
def srcO : Option Nat → Value
  | none => .nilIface
  | some r => srcV r
theorem srcO_one (o : Option Nat) : (srcO o).oneCell' = true := by cases o <;> rfl
def SrcA (a : Option Addr) (l : List (Option Nat)) (w : World) : Prop := ∀ (j : Nat) (o : Option Nat), l[j]? = some o → ∃ b off, a = some ⟨b, off, none⟩ ∧ w.cell? ⟨b, off + j, none⟩ = some (srcO o)
theorem SrcA.same {a : Option Addr} {l : List (Option Nat)} {w w' : World} (h : SrcA a l w) (hb : ∀ b, b < w.heap.size → w'.heap[b]? = w.heap[b]?) : SrcA a l w' := fun j z hj => by
  obtain ⟨b, off, e, hc⟩ := h j z hj
  exact ⟨b, off, e, (World.cell?_of_block (a := ⟨b, off + j, none⟩) (hb b (cell_lt' hc))).trans hc⟩
section
variable {P : Program} {w : World}
theorem run_eql_ifaceN (t : TypeId) (s : TypeId) (x : Value) {ms} (hu : P.underlying t = some (.interface ms)) : (binOp .eql t (.iface s x) .nilIface).run P w = .ok (.bool false) w := by
  simp only [binOp]
  simp [Op.equal, Op.maxDepth, run_eqIn_iface (w := w) 9999 t s x hu]
theorem ev_eql_ifaceN (t : TypeId) (s : TypeId) (x : Value) (es : Array Event) {ms} (hu : P.underlying t = some (.interface ms)) : (binOp .eql t (.iface s x) .nilIface).events P w es = es := by
  simp only [binOp]
  simp [Op.equal, Op.maxDepth, run_eqIn_iface (w := w) 9999 t s x hu, ev_eqIn_iface (w := w) 9999 t s x es hu]
theorem run_eql_nilI (t : TypeId)  {ms} (hu : P.underlying t = some (.interface ms)) : (binOp .eql t .nilIface .nilIface).run P w = .ok (.bool true) w := by
  simp only [binOp]
  simp [Op.equal, Op.maxDepth, run_eqIn_nilIface (w := w) 9999 t  hu]
theorem ev_eql_nilI (t : TypeId)  (es : Array Event) {ms} (hu : P.underlying t = some (.interface ms)) : (binOp .eql t .nilIface .nilIface).events P w es = es := by
  simp only [binOp]
  simp [Op.equal, Op.maxDepth, run_eqIn_nilIface (w := w) 9999 t  hu, ev_eqIn_nilIface (w := w) 9999 t  es hu]
end
theorem undSource : ∃ ms, Try.prog.underlying 32 = some (.interface ms) := by
  have h : (match Try.prog.underlying 32 with | some (.interface _) => true | _ => false) = true := by kernel_rfl
  revert h
  cases Try.prog.underlying 32 with
  | none => simp
  | some d =>
    cases d with
    | interface fs => exact fun _ => ⟨fs, rfl⟩
    | _ => simp
noncomputable def reg40_0 := rg Try.f40.body [0]
noncomputable def reg40_1 := rg Try.f40.body [1, 0]
theorem z40 : List.range reg40_0.size = [0] ∧ List.range reg40_1.size = [0, 1, 2] := by refine ⟨?_, ?_⟩ <;> kernel_rfl
theorem code40_is : Try.f40.body = some (.seq (.region 0 reg40_0 false) (.seq (.region 1 reg40_1 false) (.ret))) := by kernel_rfl
noncomputable def reg76_0 := rg Try.f76.body [0]
noncomputable def reg76_1 := rg Try.f76.body [1, 0, 0]
noncomputable def reg76_2 := rg Try.f76.body [1, 0, 1, 0, 0, 0]
noncomputable def reg76_3 := rg Try.f76.body [1, 0, 1, 0, 0, 1, 1, 0, 0, 0]
noncomputable def reg76_4 := rg Try.f76.body [1, 0, 1, 0, 0, 1, 1, 0, 0, 1, 0]
noncomputable def reg76_5 := rg Try.f76.body [1, 0, 1, 0, 0, 1, 1, 0, 0, 1, 1, 0, 0]
noncomputable def reg76_6 := rg Try.f76.body [1, 0, 1, 0, 0, 1, 1, 1]
noncomputable def reg76_7 := rg Try.f76.body [1, 1, 0]
theorem z76 : List.range reg76_0.size = [0] ∧ List.range reg76_1.size = [0, 1, 2] ∧ List.range reg76_2.size = [0] ∧ List.range reg76_3.size = [0, 1] ∧ List.range reg76_4.size = [0, 1, 2, 3, 4, 5] ∧ List.range reg76_5.size = [0, 1] ∧ List.range reg76_6.size = [0, 1] ∧ List.range reg76_7.size = [0] := by refine ⟨?_, ?_, ?_, ?_, ?_, ?_, ?_, ?_⟩ <;> kernel_rfl
theorem code76_is : Try.f76.body = some (.seq (.region 0 reg76_0 false) (.seq (.seq (.region 1 reg76_1 false) (.block 0 (.loop (.seq (.region 2 reg76_2 false) (.seq (.cond (.tmp 9 ) (.skip) (.exit 0)) (.seq (.block 1 (.seq (.region 3 reg76_3 false) (.seq (.region 4 reg76_4 false) (.cond (.tmp 16 ) (.seq (.region 5 reg76_5 false) (.ret)) (.skip))))) (.region 6 reg76_6 false))))))) (.seq (.region 7 reg76_7 false) (.ret)))) := by kernel_rfl
noncomputable def reg39_0 := rg Try.f39.body [0]
noncomputable def reg39_1 := rg Try.f39.body [1, 0]
noncomputable def reg39_2 := rg Try.f39.body [1, 1, 0, 0]
noncomputable def reg39_3 := rg Try.f39.body [1, 1, 0, 1, 0, 0]
noncomputable def reg39_4 := rg Try.f39.body [1, 1, 1, 0, 0]
noncomputable def reg39_5 := rg Try.f39.body [1, 1, 1, 0, 1, 0, 0, 0, 0]
noncomputable def reg39_7 := rg Try.f39.body [1, 1, 1, 0, 1, 0, 0, 1, 0, 0, 0]
noncomputable def reg39_8 := rg Try.f39.body [1, 1, 1, 0, 1, 0, 0, 1, 0, 0, 1, 0]
noncomputable def reg39_9 := rg Try.f39.body [1, 1, 1, 0, 1, 0, 0, 1, 0, 0, 1, 1, 0, 0]
noncomputable def reg39_10 := rg Try.f39.body [1, 1, 1, 0, 1, 0, 0, 1, 0, 0, 1, 1, 0, 1]
noncomputable def reg39_6 := rg Try.f39.body [1, 1, 1, 0, 1, 0, 0, 1, 1]
noncomputable def reg39_11 := rg Try.f39.body [1, 1, 1, 1, 0]
noncomputable def reg39_12 := rg Try.f39.body [1, 1, 1, 1, 1, 0]
theorem z39 : List.range reg39_0.size = [0] ∧ List.range reg39_1.size = [0, 1, 2, 3] ∧ List.range reg39_2.size = [0, 1] ∧ List.range reg39_3.size = [0, 1] ∧ List.range reg39_4.size = [0, 1, 2] ∧ List.range reg39_5.size = [0, 1, 2, 3] ∧ List.range reg39_6.size = [0, 1, 2] ∧ List.range reg39_7.size = [0, 1, 2, 3, 4] ∧ List.range reg39_8.size = [0, 1, 2, 3] ∧ List.range reg39_9.size = [0, 1, 2, 3, 4] ∧ List.range reg39_10.size = [0, 1, 2] ∧ List.range reg39_11.size = [0, 1, 2, 3] ∧ List.range reg39_12.size = [0, 1, 2, 3] := by refine ⟨?_, ?_, ?_, ?_, ?_, ?_, ?_, ?_, ?_, ?_, ?_, ?_, ?_⟩ <;> kernel_rfl
theorem code39_is : Try.f39.body = some (.seq (.region 0 reg39_0 false) (.seq (.region 1 reg39_1 false) (.seq (.seq (.region 2 reg39_2 false) (.cond (.tmp 12 ) (.seq (.region 3 reg39_3 false) (.ret)) (.skip))) (.seq (.seq (.region 4 reg39_4 false) (.block 0 (.loop (.seq (.seq (.region 5 reg39_5 false) (.cond (.tmp 19 ) (.skip) (.exit 0))) (.seq (.block 1 (.seq (.region 7 reg39_7 false) (.seq (.region 8 reg39_8 false) (.cond (.tmp 29 ) (.seq (.region 9 reg39_9 false) (.region 10 reg39_10 false)) (.skip))))) (.region 6 reg39_6 false)))))) (.seq (.region 11 reg39_11 false) (.seq (.region 12 reg39_12 false) (.ret))))))) := by kernel_rfl
noncomputable def hdIs (sl : Value) (n i : Nat) (u : Nat → Value) : Frame :=
  (base 76).at { tmps := #[sl, .func (.func 40) #[] #[], u 2, u 3, .int .i64 0, u 5, u 6, .int .i64 n, .int .i64 i, u 9, u 10, u 11, u 12, u 13, u 14, u 15, u 16, u 17, u 18], defers := [] } [.code (.seq (.region 2 reg76_2 false) (.seq (.cond (.tmp 9 ) (.skip) (.exit 0)) (.seq (.block 1 (.seq (.region 3 reg76_3 false) (.seq (.region 4 reg76_4 false) (.cond (.tmp 16 ) (.seq (.region 5 reg76_5 false) (.ret)) (.skip))))) (.region 6 reg76_6 false)))), .inLoop (.seq (.region 2 reg76_2 false) (.seq (.cond (.tmp 9 ) (.skip) (.exit 0)) (.seq (.block 1 (.seq (.region 3 reg76_3 false) (.seq (.region 4 reg76_4 false) (.cond (.tmp 16 ) (.seq (.region 5 reg76_5 false) (.ret)) (.skip))))) (.region 6 reg76_6 false)))), .inBlock 0, .code (.seq (.region 7 reg76_7 false) (.ret))]
noncomputable def hdDs (g n c i j : Nat) (u : Nat → Value) : Frame :=
  (base 39).at { tmps := #[.slice (some ⟨g, 0, none⟩) n c, .func (.func 40) #[] #[], u 2, u 3, u 4, .int .i64 i, .int .i64 j, u 7, u 8, u 9, u 10, u 11, u 12, u 13, u 14, u 15, u 16, u 17, u 18, u 19, u 20, u 21, u 22, u 23, u 24, u 25, u 26, u 27, u 28, u 29, u 30, u 31, u 32, u 33, u 34, u 35, u 36, u 37, u 38, u 39, u 40, u 41], defers := [] } [.code (.seq (.seq (.region 5 reg39_5 false) (.cond (.tmp 19 ) (.skip) (.exit 0))) (.seq (.block 1 (.seq (.region 7 reg39_7 false) (.seq (.region 8 reg39_8 false) (.cond (.tmp 29 ) (.seq (.region 9 reg39_9 false) (.region 10 reg39_10 false)) (.skip))))) (.region 6 reg39_6 false))), .inLoop (.seq (.seq (.region 5 reg39_5 false) (.cond (.tmp 19 ) (.skip) (.exit 0))) (.seq (.block 1 (.seq (.region 7 reg39_7 false) (.seq (.region 8 reg39_8 false) (.cond (.tmp 29 ) (.seq (.region 9 reg39_9 false) (.region 10 reg39_10 false)) (.skip))))) (.region 6 reg39_6 false))), .inBlock 0, .code (.seq (.region 11 reg39_11 false) (.seq (.region 12 reg39_12 false) (.ret)))]
section
variable {main : Bool} {V : Nat → Option Wait}
theorem cls_n (w : World) : CallV Try.prog main V 40 #[.nilIface] w (.bool true) w := by
  obtain ⟨ms, hu⟩ := undSource
  have hn1 := fun w => run_eql_nilI (P := Try.prog) (w := w) 32 hu
  have hn2 := fun w es => ev_eql_nilI (P := Try.prog) (w := w) 32 es hu
  refine callW_in Try.func40 code40_is fun fr cs => ?_
  simp only [Try.ntmps40, ez, Nat.reduceAdd, Nat.reduceSub]
  repeat (first | refine Walk.cx ?_ | (refine Walk.cReg ?_; simp only [z40]) | (refine Walk.oq ?_; try walk_nrm) | (refine Walk.un ?_; walk_nrm))
  exact Walk.ret1 rfl rfl Try.func40 rfl fun d => ⟨rfl, d, rfl⟩
theorem cls_s (r : Nat) (w : World) : CallV Try.prog main V 40 #[srcV r] w (.bool false) w := by
  obtain ⟨ms, hu⟩ := undSource
  unfold srcV
  have hn1 := fun w => run_eql_ifaceN (P := Try.prog) (w := w) 32 27 (.pointer (some ⟨r, 0, none⟩)) hu
  have hn2 := fun w es => ev_eql_ifaceN (P := Try.prog) (w := w) 32 27 (.pointer (some ⟨r, 0, none⟩)) es hu
  refine callW_in Try.func40 code40_is fun fr cs => ?_
  simp only [Try.ntmps40, ez, Nat.reduceAdd, Nat.reduceSub]
  repeat (first | refine Walk.cx ?_ | (refine Walk.cReg ?_; simp only [z40]) | (refine Walk.oq ?_; try walk_nrm) | (refine Walk.un ?_; walk_nrm))
  exact Walk.ret1 rfl rfl Try.func40 rfl fun d => ⟨rfl, d, rfl⟩
theorem is_in (a : Option Addr) (n ca : Nat) (cs : List Frame) (w : World) :
    Walk Try.prog main (DR V) (fun g w' => (∃ u, g = G (hdIs (.slice a n ca) n 0 u) cs) ∧ ∃ d, w' = w.at d) (G (Frame.enter Try.prog 76 #[.slice a n ca, .func (.func 40) #[] #[]] .normal) cs) w := by
  rw [enter_at _ Try.func76 code76_is]
  simp only [Try.ntmps76, ez, Nat.reduceAdd, Nat.reduceSub]
  repeat (first | refine Walk.cx ?_ | (refine Walk.cReg ?_; simp only [z76]) | (refine Walk.oq ?_; try walk_nrm) | (refine Walk.un ?_; walk_nrm))
  refine Walk.ctl rfl (fun w => stepG_loop) ?_
  refine .stop fun d => ⟨at_slots ?_, d, rfl⟩
  simp only [hdIs]
  rfl
theorem is_end (sl : Value) (n : Nat) (u : Nat → Value) (c : Frame) (cs : List Frame) (w : World) :
    Walk Try.prog main (DR V) (fun g w' => g = G (c.finish (.int .i64 (-1))) cs ∧ ∃ d, w' = w.at d) (G (hdIs sl n n u) (c :: cs)) w := by
  have hi1 : decide ((n : Int) < n) = false := by simp
  have hi3 : decide (n < n) = false := by simp
  unfold hdIs
  repeat (first | refine Walk.cx ?_ | (refine Walk.cReg ?_; simp only [z76]) | (refine Walk.oq ?_; try walk_nrm) | (refine Walk.un ?_; walk_nrm))
  exact Walk.on1 rfl rfl Try.func76 rfl (.stop fun d => ⟨rfl, d, rfl⟩)
theorem is_hit (ab ao n ca i : Nat) (u : Nat → Value) (c : Frame) (cs : List Frame) (w : World) (hi : i < n) (hn : n ≤ 17592186044416) (ha : w.cell? ⟨ab, ao + i, none⟩ = some .nilIface) :
    Walk Try.prog main (DR V) (fun g w' => g = G (c.finish (.int .i64 i)) cs ∧ ∃ d, w' = w.at d) (G (hdIs (.slice (some ⟨ab, ao, none⟩) n ca) n i u) (c :: cs)) w := by
  have hi1 : decide ((i : Int) < n) = true := by simp; omega
  have hi3 : decide (i < n) = true := by simp; omega
  have hi4 : (i : Int) < n := by omega
  have hi0 : (0 : Int) ≤ i := by omega
  have hask := cls_n (main := main) (V := V) w
  conv => arg 5; unfold hdIs
  repeat (first | refine Walk.cx ?_ | (refine Walk.cReg ?_; simp only [z76]) | (refine Walk.oq ?_; try walk_nrm) | (refine Walk.un ?_; walk_nrm))
  refine Walk.ctl rfl (fun w' => stepG_callValue (ho_of (by conv => lhs; whnf) (by kernel_rfl)) (by rfl) (by decide) rfl rfl Try.func40 (by kernel_rfl) (by rfl)) ?_
  walk_nrm
  generalize hX : Frame.at _ _ _ = X
  refine (hask X _).then ?_
  rintro _ _ ⟨v, ⟨rfl, d, rfl⟩, rfl⟩
  refine Walk.back ?_ d
  rw [← hX]
  clear hX hask
  refine Walk.finish (ho_of (by conv => lhs; whnf) (by kernel_rfl)) ?_
  walk_nrm
  repeat (first | refine Walk.cx ?_ | (refine Walk.cReg ?_; simp only [z76]) | (refine Walk.oq ?_; try walk_nrm) | (refine Walk.un ?_; walk_nrm))
  exact Walk.on1 rfl rfl Try.func76 rfl (.stop fun d => ⟨rfl, d, rfl⟩)
theorem is_go (ab ao n ca i r : Nat) (u : Nat → Value) (cs : List Frame) (w : World) (hi : i < n) (hn : n ≤ 17592186044416) (ha : w.cell? ⟨ab, ao + i, none⟩ = some (srcV r)) :
    Walk Try.prog main (DR V) (fun g w' => (∃ u', g = G (hdIs (.slice (some ⟨ab, ao, none⟩) n ca) n (i + 1) u') cs) ∧ ∃ d, w' = w.at d) (G (hdIs (.slice (some ⟨ab, ao, none⟩) n ca) n i u) cs) w := by
  have hi1 : decide ((i : Int) < n) = true := by simp; omega
  have hi3 : decide (i < n) = true := by simp; omega
  have hi4 : (i : Int) < n := by omega
  have hi0 : (0 : Int) ≤ i := by omega
  have hw1 : IntKind.wrap .i64 ((i : Int) + 1) = (i : Int) + 1 := by rw [IntKind.wrap_i64]; omega
  have hask := cls_s (main := main) (V := V) r w
  unfold srcV at ha hask
  conv => arg 5; unfold hdIs
  repeat (first | refine Walk.cx ?_ | (refine Walk.cReg ?_; simp only [z76]) | (refine Walk.oq ?_; try walk_nrm) | (refine Walk.un ?_; walk_nrm))
  refine Walk.ctl rfl (fun w' => stepG_callValue (ho_of (by conv => lhs; whnf) (by kernel_rfl)) (by rfl) (by decide) rfl rfl Try.func40 (by kernel_rfl) (by rfl)) ?_
  walk_nrm
  generalize hX : Frame.at _ _ _ = X
  refine (hask X _).then ?_
  rintro _ _ ⟨v, ⟨rfl, d, rfl⟩, rfl⟩
  refine Walk.back ?_ d
  rw [← hX]
  clear hX hask
  refine Walk.finish (ho_of (by conv => lhs; whnf) (by kernel_rfl)) ?_
  walk_nrm
  repeat (first | refine Walk.cx ?_ | (refine Walk.cReg ?_; simp only [z76]) | (refine Walk.oq ?_; try walk_nrm) | (refine Walk.un ?_; walk_nrm))
  refine Walk.ctl rfl (fun w => stepG_inLoop) ?_
  refine .stop fun d' => ⟨at_slots ?_, d', rfl⟩
  have hc : ((i + 1 : Nat) : Int) = (i : Int) + 1 := by simp
  simp only [hdIs, hc]
  rfl
def IdxI (l : List (Option Nat)) (x : Int) : Prop := (∃ i0 : Nat, x = i0 ∧ l[i0]? = some none ∧ ∀ k o, k < i0 → l[k]? = some o → o ≠ none) ∨ (x = -1 ∧ ∀ (k : Nat) (o : Option Nat), l[k]? = some o → o ≠ none)
theorem idx_ex (l : List (Option Nat)) : ∃ x, IdxI l x := by
  have key : ∀ (r i : Nat), i + r = l.length → (∀ k o, k < i → l[k]? = some o → o ≠ none) → ∃ x, IdxI l x := by
    intro r
    induction r with
    | zero =>
      intro i hi hk
      refine ⟨-1, .inr ⟨rfl, fun k o ho => hk k o ?_ ho⟩⟩
      have := (List.getElem?_eq_some_iff.1 ho).1
      omega
    | succ r ih =>
      intro i hi hk
      have hx := List.getElem?_eq_getElem (l := l) (i := i) (by omega)
      cases ho : l[i] with
      | none => exact ⟨i, .inl ⟨i, rfl, by rw [hx, ho], hk⟩⟩
      | some z =>
        refine ih (i + 1) (by omega) fun k o hk' hl => ?_
        by_cases e : k = i
        · subst e
          rw [hx, ho] at hl
          intro h
          rw [h] at hl
          cases hl
        · exact hk k o (by omega) hl
  exact key l.length 0 (Nat.zero_add _) fun k o h => absurd h (Nat.not_lt_zero _)
theorem is_loop (a : Option Addr) (l : List (Option Nat)) (ca : Nat) (x : Int) (hx : IdxI l x) (hn : l.length ≤ 17592186044416) (c : Frame) (cs : List Frame) (w : World) (ha : SrcA a l w) : ∀ (r i : Nat) (u : Nat → Value), i + r = l.length → (∀ i0 : Nat, x = i0 → i ≤ i0) →
    Walk Try.prog main (DR V) (fun g w' => g = G (c.finish (.int .i64 x)) cs ∧ ∃ d, w' = w.at d) (G (hdIs (.slice a l.length ca) l.length i u) (c :: cs)) w := by
  intro r
  induction r with
  | zero =>
    intro i u hi hle
    have hi : i = l.length := hi
    subst hi
    rcases hx with ⟨i0, e, h0, _⟩ | ⟨rfl, _⟩
    · have := hle i0 e
      have := (List.getElem?_eq_some_iff.1 h0).1
      omega
    · exact is_end _ _ u c cs w
  | succ r ih =>
    intro i u hi hle
    have hin : i < l.length := by omega
    have hx' := List.getElem?_eq_getElem hin
    obtain ⟨ab, ao, rfl, h1⟩ := ha i _ hx'
    cases ho : l[i] with
    | none =>
      rw [ho] at h1 hx'
      have hxi : x = (i : Int) := by
        rcases hx with ⟨i0, e, h0, hlt⟩ | ⟨_, h⟩
        · have h2 := hle i0 e
          by_cases h3 : i < i0
          · exact absurd rfl (hlt i none h3 hx')
          · rw [e]; omega
        · exact absurd rfl (h i none hx')
      rw [hxi]
      exact is_hit ab ao l.length ca i u c cs w hin hn h1
    | some z =>
      rw [ho] at h1 hx'
      refine (is_go ab ao l.length ca i z u (c :: cs) w hin hn h1).then ?_
      rintro g w' ⟨⟨u', rfl⟩, d, rfl⟩
      refine Walk.back (ih (i + 1) u' (by omega) fun i0 e => ?_) d
      have h2 := hle i0 e
      rcases hx with ⟨i1, e1, h0, _⟩ | ⟨e1, _⟩
      · have : i0 = i1 := by omega
        subst this
        by_cases h3 : i = i0
        · subst h3
          rw [h0] at hx'
          cases hx'
        · omega
      · omega
theorem indexS_w (a : Option Addr) (l : List (Option Nat)) (ca : Nat) (x : Int) (hx : IdxI l x) (hn : l.length ≤ 17592186044416) (w : World) (ha : SrcA a l w) : CallV Try.prog main V 76 #[.slice a l.length ca, .func (.func 40) #[] #[]] w (.int .i64 x) w := by
  intro fr cs
  refine (is_in a l.length ca (fr :: cs) w).then ?_
  rintro g w1 ⟨⟨u, rfl⟩, d, rfl⟩
  refine Walk.back ?_ d
  refine (is_loop a l ca x hx hn fr cs w ha l.length 0 u (by omega) fun _ _ => Nat.zero_le _).mono ?_
  rintro g w' ⟨rfl, d, rfl⟩
  exact ⟨_, ⟨rfl, d, rfl⟩, rfl⟩
structure DsM (g n c : Nat) (f : Nat → Option Nat) (w : World) : Prop where
  row : ∃ cur : Array Value, w.heap[g]? = some (.cells cur 32) ∧ cur.size = c ∧ ∀ k, k < n → cur[k]? = some (srcO (f k))
  le : n ≤ c ∧ c ≤ maxLen
theorem DsM.cell {g n c : Nat} {f : Nat → Option Nat} {w : World} (h : DsM g n c f w) {k : Nat} (hk : k < n) : w.cell? ⟨g, k, none⟩ = some (srcO (f k)) ∧ w.frozen? ⟨g, k, none⟩ = false := by
  obtain ⟨cur, h1, h2, h3⟩ := h.row
  exact ⟨(cell_of h1 k).trans (h3 k hk), frozen_of h1 k⟩
theorem DsM.set {g n c : Nat} {f : Nat → Option Nat} {w : World} (h : DsM g n c f w) {k : Nat} (hk : k < n) (v : Option Nat) : DsM g n c (upd f k v) (w.setCell ⟨g, k, none⟩ (srcO v)) := by
  obtain ⟨cur, h1, h2, h3⟩ := h.row
  have := h.le
  refine ⟨⟨_, heap_set_self _ _ h1, by simp [h2], fun j hj => ?_⟩, h.le⟩
  by_cases e : j = k
  · subst e
    rw [upd_same]
    exact Array.getElem?_setIfInBounds_self_of_lt (by omega)
  · rw [upd_ne _ _ e, Array.getElem?_setIfInBounds_ne (by omega)]
    exact h3 j hj
theorem ds_keep (g n c i j r : Nat) (f : Nat → Option Nat) (hfj : f j = some r) (u : Nat → Value) (cs : List Frame) (w : World) (hij : i < j) (hj : j < n) (hn : n ≤ 17592186044416) (M : DsM g n c f w) (hap : Apart V g) :
    Walk Try.prog main (DR V) (fun gr w' => (∃ u', gr = G (hdDs g n c (i + 1) (j + 1) u') cs) ∧ ∃ d, w' = (w.setCell ⟨g, i, none⟩ (srcO (some r))).at d) (G (hdDs g n c i j u) cs) w := by
  obtain ⟨c1, _⟩ := M.cell (k := j) hj
  obtain ⟨c2, z2⟩ := M.cell (k := i) (by omega)
  rw [hfj] at c1
  generalize srcO (f i) = ov at c2
  have hi1 : decide ((i : Int) < n) = true := by simp; omega
  have hi3 : decide (i < n) = true := by simp; omega
  have hi4 : (i : Int) < n := by omega
  have hi0 : (0 : Int) ≤ i := by omega
  have hj1 : decide ((j : Int) < n) = true := by simp; omega
  have hj3 : decide (j < n) = true := by simp; omega
  have hj4 : (j : Int) < n := by omega
  have hj0 : (0 : Int) ≤ j := by omega
  have hw1 : IntKind.wrap .i64 ((i : Int) + 1) = (i : Int) + 1 := by rw [IntKind.wrap_i64]; omega
  have hw2 : IntKind.wrap .i64 ((j : Int) + 1) = (j : Int) + 1 := by rw [IntKind.wrap_i64]; omega
  have hask := cls_s (main := main) (V := V) r w
  have hc : ((j + 1 : Nat) : Int) = (j : Int) + 1 := by simp
  have hc' : ((i + 1 : Nat) : Int) = (i : Int) + 1 := by simp
  unfold srcO srcV at *
  clear M hfj
  conv => arg 5; unfold hdDs
  repeat (first | refine Walk.cx ?_ | (refine Walk.cReg ?_; simp only [z39]) | (refine Walk.oq ?_; try walk_nrm) | (refine Walk.un ?_; walk_nrm))
  refine Walk.ctl rfl (fun w' => stepG_callValue (ho_of (by conv => lhs; whnf) (by kernel_rfl)) (by rfl) (by decide) rfl rfl Try.func40 (by kernel_rfl) (by rfl)) ?_
  walk_nrm
  generalize hX : Frame.at _ _ _ = X
  refine (hask X _).then ?_
  rintro _ _ ⟨v, ⟨rfl, d, rfl⟩, rfl⟩
  refine Walk.back ?_ d
  rw [← hX]
  clear hX hask
  refine Walk.finish (ho_of (by conv => lhs; whnf) (by kernel_rfl)) ?_
  walk_nrm
  repeat (first | refine Walk.cx ?_ | (refine Walk.cReg ?_; simp only [z39]) | (refine Walk.oq ?_; try walk_nrm) | (refine Walk.un ?_; walk_nrm))
  have hev : ∀ (w' : World) (es : Array Event), (store ⟨g, i, none⟩ (.iface 27 (.pointer (some ⟨r, 0, none⟩))) .plain).events Try.prog w' es = storedEv Try.prog w' es ⟨g, i, none⟩ (.iface 27 (.pointer (some ⟨r, 0, none⟩))) .plain := fun w' es => events_store Try.prog w' es _ _ .plain rfl
  (have hfr := hap.1 ⟨g, i, none⟩ rfl; refine Walk.os hfr c2 ?_; clear hfr; try walk_nrm)
  clear hev
  generalize w.setCell ⟨g, i, none⟩ (.iface 27 (.pointer (some ⟨r, 0, none⟩))) = w2 at *
  clear c1 c2 z2
  repeat (first | refine Walk.cx ?_ | (refine Walk.cReg ?_; simp only [z39]) | (refine Walk.oq ?_; try walk_nrm) | (refine Walk.un ?_; walk_nrm))
  refine Walk.ctl rfl (fun w => stepG_inLoop) ?_
  refine .stop fun d' => ⟨at_slots ?_, d', rfl⟩
  simp only [hdDs, hc, hc']
  rfl
theorem ds_drop (g n c i j : Nat) (f : Nat → Option Nat) (hfj : f j = none) (u : Nat → Value) (cs : List Frame) (w : World) (hj : j < n) (hn : n ≤ 17592186044416) (M : DsM g n c f w) :
    Walk Try.prog main (DR V) (fun gr w' => (∃ u', gr = G (hdDs g n c i (j + 1) u') cs) ∧ ∃ d, w' = w.at d) (G (hdDs g n c i j u) cs) w := by
  obtain ⟨c1, _⟩ := M.cell (k := j) hj
  rw [hfj] at c1
  have hj1 : decide ((j : Int) < n) = true := by simp; omega
  have hj3 : decide (j < n) = true := by simp; omega
  have hj4 : (j : Int) < n := by omega
  have hj0 : (0 : Int) ≤ j := by omega
  have hw2 : IntKind.wrap .i64 ((j : Int) + 1) = (j : Int) + 1 := by rw [IntKind.wrap_i64]; omega
  have hask := cls_n (main := main) (V := V) w
  have hc : ((j + 1 : Nat) : Int) = (j : Int) + 1 := by simp
  unfold srcO at *
  clear M hfj
  conv => arg 5; unfold hdDs
  repeat (first | refine Walk.cx ?_ | (refine Walk.cReg ?_; simp only [z39]) | (refine Walk.oq ?_; try walk_nrm) | (refine Walk.un ?_; walk_nrm))
  refine Walk.ctl rfl (fun w' => stepG_callValue (ho_of (by conv => lhs; whnf) (by kernel_rfl)) (by rfl) (by decide) rfl rfl Try.func40 (by kernel_rfl) (by rfl)) ?_
  walk_nrm
  generalize hX : Frame.at _ _ _ = X
  refine (hask X _).then ?_
  rintro _ _ ⟨v, ⟨rfl, d, rfl⟩, rfl⟩
  refine Walk.back ?_ d
  rw [← hX]
  clear hX hask
  refine Walk.finish (ho_of (by conv => lhs; whnf) (by kernel_rfl)) ?_
  walk_nrm
  repeat (first | refine Walk.cx ?_ | (refine Walk.cReg ?_; simp only [z39]) | (refine Walk.oq ?_; try walk_nrm) | (refine Walk.un ?_; walk_nrm))
  refine Walk.ctl rfl (fun w => stepG_inLoop) ?_
  refine .stop fun d' => ⟨at_slots ?_, d', rfl⟩
  simp only [hdDs, hc]
  rfl
end
end
end Go.Proofs.Ytgfajibjedfkdaa
