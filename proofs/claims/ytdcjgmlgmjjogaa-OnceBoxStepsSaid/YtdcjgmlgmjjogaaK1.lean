/-
For all two strings: OnceBoxSteps returns true on every schedule of the goroutines, without a data race, and what was there stands. Conditions: none beyond the statement's own.
-/
import Derived.Test.YtdcjgmlgmjjogaaJ1
import Derived.Test.YtdcjgmlgmjjogaaJ2
import Derived.Test.YtdcjgmlgmjjogaaJ3
import Derived.Test.YtdcjgmlgmjjogaaJ4
import Derived.Test.YtdcjgmlgmjjogaaJ5
import Derived.Test.YtdcjgmlgmjjogaaJ6
import Derived.Test.YtdcjgmlgmjjogaaJ8
import Derived.Test.YtdcjgmlgmjjogaaJ11
import Derived.Test.YtdcjgmlgmjjogaaJ12
import Derived.Test.YtdcjgmlgmjjogaaJ13
import Derived.Test.YtdcjgmlgmjjogaaJ15
import Derived.Test.YtdcjgmlgmjjogaaJ16
import Derived.Test.YtdcjgmlgmjjogaaJ17
import Derived.Test.YtdcjgmlgmjjogaaJ18
import Derived.Test.YtdcjgmlgmjjogaaJ20
import Derived.Test.YtdcjgmlgmjjogaaJ23
import Derived.Test.YtdcjgmlgmjjogaaJ24
import Derived.Test.YtdcjgmlgmjjogaaJ25
import Derived.Conc.AtomicLaws2
import Derived.Conc.SmallLaws
import Derived.Laws.LoneSync
import Derived.Test.YtdcjgmlgmjjogaaRows
import Derived.Conc.LeavingOf
import Derived.Lib.SmallJoins
import Derived.Handy
import Derived.SizedLaws
import Derived.Carry
import Derived.Deep.Slices
import Derived.Deep.Fields
set_option linter.unusedSimpArgs false
set_option linter.unusedVariables false
set_option maxHeartbeats 8000000
set_option maxRecDepth 100000
namespace Go.Relay
section
open Go.Conc
variable {P : Program} {main : Bool} {b : Frame} {a : Act} {kk : List Item} {cs : List Frame} {w : World}
variable {f : FuncId} {fn : Func} {ops : Array Oper} {i : Nat} {rest : List Nat} {o : Oper} {ats : Array TypeId}
section
variable {ad : Addr} {v n old : Option Addr} {u : Value}
theorem run_loadp (hc : w.cell? ad = some (.pointer v)) : (Extern.Atomic.loadT .ptr #[.pointer (some ad)]).run P w = .ok (.pointer v) w := by
  change Sem.run P (do Extern.Atomic.read .ptr (← asAddr (.pointer (some ad)))) w = _
  simp [Extern.Atomic.read, asAddr, hc]
theorem ev_loadp (hc : w.cell? ad = some (.pointer v)) (es : Array Event) : (Extern.Atomic.loadT .ptr #[.pointer (some ad)]).events P w es = es.push ⟨.cell ad, false, true⟩ := by
  change Sem.events P (do Extern.Atomic.read .ptr (← asAddr (.pointer (some ad)))) w _ = _
  simp [Extern.Atomic.read, asAddr, hc, events_load]
def caspBody (ad : Addr) (old n : Option Addr) : Sem Value := do
  let a' ← asAddr (.pointer (some ad))
  if ← Extern.Atomic.touchesFrozen a' then unsupported (.unsafePointer "a write to bytes that a string shares")
  let eq ← match Extern.Atomic.T.ptr, ← Extern.Atomic.read .ptr a', Value.pointer old with
    | _, .int _ x, .int _ y => pure (x == y)
    | .ptr, .pointer x, .pointer y => samePointer x y
    | .int _, .pointer (some _), .int _ 0 | .int _, .int _ 0, .pointer (some _) => pure false
    | .int _, .pointer (some _), _ | .int _, _, .pointer (some _) => unsupported .addressObserved
    | _, _, _ => stuck "atomic.CompareAndSwap: old is no T"
  if eq then store a' (.pointer n) .atomic
  pure (Value.bool eq)
theorem casp_eq (old n : Option Addr) : Extern.Atomic.casT .ptr #[.pointer (some ad), .pointer old, .pointer n] = caspBody ad old n := rfl
theorem run_casp_hit (hs : ∀ w' : World, (samePointer v old).run P w' = .ok true w') (hc : w.cell? ad = some (.pointer v)) (hz : w.frozen? ad = false) : (caspBody ad old n).run P w = .ok (.bool true) (w.setCell ad (.pointer n)) := by
  simp [caspBody, Extern.Atomic.touchesFrozen, Extern.Atomic.read, asAddr, viewAt, World.shape?_isSome_of_cell? hc, hc, hz, hs, run_store P w ad (.pointer n) .atomic rfl, Result.andThen]
theorem ev_casp_hit (hs : ∀ w' : World, (samePointer v old).run P w' = .ok true w') (he : ∀ (w' : World) (es : Array Event), (samePointer v old).events P w' es = es) (hc : w.cell? ad = some (.pointer v)) (hz : w.frozen? ad = false) (es : Array Event) : (caspBody ad old n).events P w es = (es.push ⟨.cell ad, false, true⟩).push ⟨.cell ad, true, true⟩ := by
  simp [caspBody, Extern.Atomic.touchesFrozen, Extern.Atomic.read, asAddr, viewAt, World.shape?_isSome_of_cell? hc, hc, hz, hs, he, events_load, events_store P w _ ad (.pointer n) .atomic rfl, Result.evThen]
theorem run_casp_miss (hs : (samePointer v old).run P w = .ok false w) (hc : w.cell? ad = some (.pointer v)) (hz : w.frozen? ad = false) : (caspBody ad old n).run P w = .ok (.bool false) w := by
  simp [caspBody, Extern.Atomic.touchesFrozen, Extern.Atomic.read, asAddr, viewAt, World.shape?_isSome_of_cell? hc, hc, hz, hs, Result.andThen]
theorem ev_casp_miss (hs : (samePointer v old).run P w = .ok false w) (he : ∀ (es : Array Event), (samePointer v old).events P w es = es) (hc : w.cell? ad = some (.pointer v)) (hz : w.frozen? ad = false) (es : Array Event) : (caspBody ad old n).events P w es = es.push ⟨.cell ad, false, true⟩ := by
  simp [caspBody, Extern.Atomic.touchesFrozen, Extern.Atomic.read, asAddr, viewAt, World.shape?_isSome_of_cell? hc, hc, hz, hs, he, events_load, Result.evThen]
theorem same_nil (v : Option Addr) (w : World) (es : Array Event) : (samePointer v none).run P w = .ok v.isNone w ∧ (samePointer v none).events P w es = es := by
  cases v <;> simp [samePointer]
end
theorem conv_to_nil {src dst t : TypeId} (hs : P.underlying src = some (.pointer t)) (hd : P.underlying dst = some .unsafePointer) (w : World) (es : Array Event) : (convert src dst (.pointer none)).run P w = .ok (.pointer none) w ∧ (convert src dst (.pointer none)).events P w es = es := by
  simp [convert, Conv.unsafePointer, run_underlying hs, run_underlying hd]
theorem conv_of_nil {src dst t : TypeId} (hs : P.underlying src = some .unsafePointer) (hd : P.underlying dst = some (.pointer t)) (w : World) (es : Array Event) : (convert src dst (.pointer none)).run P w = .ok (.pointer none) w ∧ (convert src dst (.pointer none)).events P w es = es := by
  simp [convert, Conv.unsafePointer, run_underlying hs, run_underlying hd]
theorem conv_to {src dst t : TypeId} (hs : P.underlying src = some (.pointer t)) (hd : P.underlying dst = some .unsafePointer) (hsz : (P.info? t).map (fun i => decide (i.size = 0)) = some false) {b : Nat} {arr : Array Value} {e : TypeId} (hb : w.heap[b]? = some (.cells arr e)) (h0 : 0 < arr.size) (es : Array Event) :
    (convert src dst (.pointer (some ⟨b, 0, none⟩))).run P w = .ok (.pointer (some ⟨b, 0, none⟩)) w ∧ (convert src dst (.pointer (some ⟨b, 0, none⟩))).events P w es = es := by
  obtain ⟨v, hv⟩ : ∃ v, w.cell? ⟨b, 0, none⟩ = some v := ⟨arr[0], by simp [World.cell?, hb, h0]⟩
  exact ⟨run_convert_to_unsafe hs hd hsz hv, events_convert_to_unsafe hs hd hsz hv es⟩
theorem conv_of {src dst t : TypeId} (hs : P.underlying src = some .unsafePointer) (hd : P.underlying dst = some (.pointer t)) {b : Nat} {arr : Array Value} {e : TypeId} (hb : w.heap[b]? = some (.cells arr e)) {n : Nat} (hn : arr.size = n) (hl : liesAt P P.depth e (n / P.cellsOf e) 0 t 1 = true) {ti : TypeInfo} (hi : P.info? t = some ti) (es : Array Event) :
    (convert src dst (.pointer (some ⟨b, 0, none⟩))).run P w = .ok (.pointer (some ⟨b, 0, none⟩)) w ∧ (convert src dst (.pointer (some ⟨b, 0, none⟩))).events P w es = es := by
  have hsh : w.shape? b = some (e, n) := by
    unfold World.shape?
    rw [hb]
    simp [hn]
  simp [convert, Conv.unsafePointer, Conv.seenAt, viewAt, variablesAt, sizeOf, typeInfo, hi, run_underlying hs, run_underlying hd, hsh, hl, Result.andThen, Result.evThen]
theorem stepG_loadp {x : Operand} (ho : ops[i]? = some o) (hw : Region.wanted o (yielded ops a.tmps) = true) (hk : b.kind ≠ .early) (hop : o.op = .call { callee := .value (.func f), args := #[x], argTypes := ats })
    (hf : P.funcs[f]? = some fn) (hname : (fn.name == "runtime.NumGoroutine") = false) (hb : fn.body.isNone = true) (hn : Extern.findNext fn = none)
    (he : Extern.find fn = some (Extern.Atomic.loadT .ptr)) {ad : Addr} {v : Option Addr} (hx : a.eval x = .pointer (some ad)) (hc : w.cell? ad = some (.pointer v)) :
    stepG P main (G (b.at a (.inRegion ops (i :: rest) :: kk)) cs) w = .go (G (b.at (a.put o.dst (.pointer v)) (.inRegion ops rest :: kk)) cs) w #[⟨.cell ad, false, true⟩] := by
  have hm : (#[x] : Array Operand).map a.eval = #[.pointer (some ad)] := by simp [hx]
  exact stepG_entry ho hw hk hop hf hname hb hn he (by rw [hm]; exact run_loadp hc) (by rw [hm, ev_loadp hc]; rfl) (sync_r ad)
theorem stepG_casp_hit {x y z : Operand} (ho : ops[i]? = some o) (hw : Region.wanted o (yielded ops a.tmps) = true) (hk : b.kind ≠ .early) (hop : o.op = .call { callee := .value (.func f), args := #[x, y, z], argTypes := ats })
    (hf : P.funcs[f]? = some fn) (hname : (fn.name == "runtime.NumGoroutine") = false) (hb : fn.body.isNone = true) (hn : Extern.findNext fn = none)
    (he : Extern.find fn = some (Extern.Atomic.casT .ptr)) {ad : Addr} {v old n : Option Addr} (hs : ∀ (w' : World) (es : Array Event), (samePointer v old).run P w' = .ok true w' ∧ (samePointer v old).events P w' es = es)
    (hx : a.eval x = .pointer (some ad)) (hy : a.eval y = .pointer old) (hzz : a.eval z = .pointer n) (hc : w.cell? ad = some (.pointer v)) (hz : w.frozen? ad = false) :
    stepG P main (G (b.at a (.inRegion ops (i :: rest) :: kk)) cs) w = .go (G (b.at (a.put o.dst (.bool true)) (.inRegion ops rest :: kk)) cs) (w.setCell ad (.pointer n)) #[⟨.cell ad, false, true⟩, ⟨.cell ad, true, true⟩] := by
  have hm : (#[x, y, z] : Array Operand).map a.eval = #[.pointer (some ad), .pointer old, .pointer n] := by simp [hx, hy, hzz]
  exact stepG_entry ho hw hk hop hf hname hb hn he (by rw [hm, casp_eq]; exact run_casp_hit (fun w' => (hs w' #[]).1) hc hz) (by rw [hm, casp_eq, ev_casp_hit (fun w' => (hs w' #[]).1) (fun w' es => (hs w' es).2) hc hz]; rfl) (sync_rw ad)
theorem stepG_casp_miss {x y z : Operand} (ho : ops[i]? = some o) (hw : Region.wanted o (yielded ops a.tmps) = true) (hk : b.kind ≠ .early) (hop : o.op = .call { callee := .value (.func f), args := #[x, y, z], argTypes := ats })
    (hf : P.funcs[f]? = some fn) (hname : (fn.name == "runtime.NumGoroutine") = false) (hb : fn.body.isNone = true) (hn : Extern.findNext fn = none)
    (he : Extern.find fn = some (Extern.Atomic.casT .ptr)) {ad : Addr} {v old n : Option Addr} (hs : ∀ (es : Array Event), (samePointer v old).run P w = .ok false w ∧ (samePointer v old).events P w es = es)
    (hx : a.eval x = .pointer (some ad)) (hy : a.eval y = .pointer old) (hzz : a.eval z = .pointer n) (hc : w.cell? ad = some (.pointer v)) (hz : w.frozen? ad = false) :
    stepG P main (G (b.at a (.inRegion ops (i :: rest) :: kk)) cs) w = .go (G (b.at (a.put o.dst (.bool false)) (.inRegion ops rest :: kk)) cs) w #[⟨.cell ad, false, true⟩] := by
  have hm : (#[x, y, z] : Array Operand).map a.eval = #[.pointer (some ad), .pointer old, .pointer n] := by simp [hx, hy, hzz]
  exact stepG_entry ho hw hk hop hf hname hb hn he (by rw [hm, casp_eq]; exact run_casp_miss (hs #[]).1 hc hz) (by rw [hm, casp_eq, ev_casp_miss (hs #[]).1 (fun es => (hs es).2) hc hz]; rfl) (sync_r ad)
end
end Go.Relay
namespace Go.Proofs.Ytdcjgmlgmjjogaa
open Go.Conc Go.RowKit Go.Relay
open Go.ConcN (upd upd_ne upd_same)
section
theorem undBoxS : Try.prog.underlying 64 = some (.pointer 83) := by kernel_rfl
theorem undPS : Try.prog.underlying 77 = some (.pointer 9) := by kernel_rfl
theorem undUP : Try.prog.underlying 79 = some .unsafePointer := by kernel_rfl
theorem szStr : (Try.prog.info? 9).map (fun i => decide (i.size = 0)) = some false := by kernel_rfl
theorem liesStr : liesAt Try.prog Try.prog.depth 9 (1 / Try.prog.cellsOf 9) 0 9 1 = true := by kernel_rfl
theorem infoStr : ∃ ti, Try.prog.info? 9 = some ti := Option.isSome_iff_exists.1 (by kernel_rfl)
theorem strTo {w : World} {p : Nat} {s : ByteArray} (hb : w.heap[p]? = some (.cells #[.string s] 9)) (d : Nat) (es : Array Event) : (convert 77 79 (.pointer (some ⟨p, 0, none⟩))).run Try.prog (w.at d) = .ok (.pointer (some ⟨p, 0, none⟩)) (w.at d) ∧ (convert 77 79 (.pointer (some ⟨p, 0, none⟩))).events Try.prog (w.at d) es = es :=
  conv_to (w := w.at d) undPS undUP szStr hb (by simp) es
theorem strOf {w : World} {p : Nat} {s : ByteArray} (hb : w.heap[p]? = some (.cells #[.string s] 9)) (d : Nat) (es : Array Event) : (convert 79 77 (.pointer (some ⟨p, 0, none⟩))).run Try.prog (w.at d) = .ok (.pointer (some ⟨p, 0, none⟩)) (w.at d) ∧ (convert 79 77 (.pointer (some ⟨p, 0, none⟩))).events Try.prog (w.at d) es = es := by
  obtain ⟨ti, hi⟩ := infoStr
  exact conv_of (w := w.at d) undUP undPS hb rfl liesStr hi es
section
variable {main : Bool} {V : Nat → Option Wait}
noncomputable def reg48_0 : Array Oper := match Try.f48.body with | some (.seq (.region _ ops _) _) => ops | _ => #[]
theorem size48_0 : reg48_0.size = 2 := by kernel_rfl
noncomputable def reg48_1 : Array Oper := match Try.f48.body with | some (.seq _ (.cond _ (.region _ ops _) _)) => ops | _ => #[]
theorem size48_1 : reg48_1.size = 2 := by kernel_rfl
theorem code48_is : Try.f48.body = some (.seq (.region 0 reg48_0 false) (.cond (.tmp 3 ) (.region 1 reg48_1 false) (.skip))) := by kernel_rfl
theorem ostep_cnt (p n : Nat) (w : World) (hc : w.heap[p]? = some (.cells #[.int .i64 n] 48)) (hn : n < 4611686018427387904) (hA : Apart V p) :
    CallV Try.prog main V 48 #[.iface 46 (.pointer (some ⟨p, 0, none⟩))] w (.tuple #[]) (w.setCell ⟨p, 0, none⟩ (.int .i64 ((n : Int) + 1))) := by
  obtain ⟨ms, hu⟩ := undStepperN
  have hn1 := fun w => run_neq_iface (P := Try.prog) (w := w) 69 46 (.pointer (some ⟨p, 0, none⟩)) hu
  have hn2 := fun w es => ev_neq_iface (P := Try.prog) (w := w) 69 46 (.pointer (some ⟨p, 0, none⟩)) es hu
  refine callW_in Try.func48 code48_is fun fr cs => ?_
  simp only [Try.ntmps48, List.size_toArray, List.length_cons, List.length_nil, Nat.reduceAdd, Nat.reduceSub, Array.replicate_succ, Array.replicate_zero, List.push_toArray, List.append_toArray, List.nil_append, List.cons_append]
  repeat (first | refine Walk.c rfl ?_ | refine Walk.cRet ?_ | refine Walk.cEnd ?_ | (refine Walk.cReg ?_; simp only [size48_0, size48_1, List.range, List.range.loop]) | (refine Walk.oq ?_; try walk_nrm) | (refine Walk.un ?_; walk_nrm))
  refine Walk.invokeSteps p (ho_of (by conv => lhs; whnf) (by kernel_rfl)) (by rfl) (by decide) rfl rfl ?_
  refine (steps_w p n w hc (frozen_of hc 0) (by omega) (by omega) hA _ _).then ?_
  rintro g' w' ⟨v', ⟨rfl, dd, rfl⟩, rfl⟩
  refine Walk.back ?_ dd
  refine Walk.finish (ho_of (by conv => lhs; whnf) (by kernel_rfl)) ?_
  walk_nrm
  repeat (first | refine Walk.c rfl ?_ | refine Walk.cRet ?_ | refine Walk.cEnd ?_ | (refine Walk.cReg ?_; simp only [size48_0, size48_1, List.range, List.range.loop]) | (refine Walk.oq ?_; try walk_nrm) | (refine Walk.un ?_; walk_nrm))
  exact Walk.ret0 rfl rfl Try.func48 rfl fun d => ⟨rfl, d, rfl⟩
noncomputable def reg47_0 : Array Oper := match Try.f47.body with | some (.seq (.region _ ops _) _) => ops | _ => #[]
theorem size47_0 : reg47_0.size = 2 := by kernel_rfl
noncomputable def reg47_1 : Array Oper := match Try.f47.body with | some (.seq _ (.seq (.region _ ops _) _)) => ops | _ => #[]
theorem size47_1 : reg47_1.size = 1 := by kernel_rfl
noncomputable def reg47_2 : Array Oper := match Try.f47.body with | some (.seq _ (.seq _ (.seq (.region _ ops _) _))) => ops | _ => #[]
theorem size47_2 : reg47_2.size = 3 := by kernel_rfl
theorem code47_is : Try.f47.body = some (.seq (.region 0 reg47_0 false) (.seq (.region 1 reg47_1 false) (.seq (.region 2 reg47_2 false) (.ret)))) := by kernel_rfl
def noStr : Value := .string { data := #[] }
theorem zero_w (w : World) : CallV Try.prog main V 47 #[] w (.tuple #[noStr, .bool false]) w := by
  refine callW_in Try.func47 code47_is fun fr cs => ?_
  simp only [Try.ntmps47, List.size_toArray, List.length_cons, List.length_nil, Nat.reduceAdd, Nat.reduceSub, Array.replicate_succ, Array.replicate_zero, List.push_toArray, List.append_toArray, List.nil_append, List.cons_append]
  repeat (first | refine Walk.c rfl ?_ | refine Walk.cRet ?_ | refine Walk.cEnd ?_ | (refine Walk.cReg ?_; simp only [size47_0, size47_1, size47_2, List.range, List.range.loop]) | (refine Walk.oq ?_; try walk_nrm) | (refine Walk.un ?_; walk_nrm))
  exact Walk.on2 rfl rfl Try.func47 rfl (.stop fun d => ⟨_, ⟨rfl, d, rfl⟩, rfl⟩)
noncomputable def reg55_0 : Array Oper := match Try.f55.body with | some (.seq (.region _ ops _) _) => ops | _ => #[]
theorem size55_0 : reg55_0.size = 1 := by kernel_rfl
noncomputable def reg55_1 : Array Oper := match Try.f55.body with | some (.seq _ (.seq (.region _ ops _) _)) => ops | _ => #[]
theorem size55_1 : reg55_1.size = 6 := by kernel_rfl
theorem code55_is : Try.f55.body = some (.seq (.region 0 reg55_0 false) (.seq (.region 1 reg55_1 false) (.ret))) := by kernel_rfl
theorem loadS_nil (b q : Nat) (w : World) (hc : w.cell? ⟨b, q, none⟩ = some (.pointer none)) : CallV Try.prog main V 55 #[.pointer (some ⟨b, q, none⟩)] w (.pointer none) w := by
  have hv1 := fun w => (conv_of_nil (P := Try.prog) undUP undPS w #[]).1
  have hv2 := fun w es => (conv_of_nil (P := Try.prog) undUP undPS w es).2
  refine callW_in Try.func55 code55_is fun fr cs => ?_
  simp only [Try.ntmps55, List.size_toArray, List.length_cons, List.length_nil, Nat.reduceAdd, Nat.reduceSub, Array.replicate_succ, Array.replicate_zero, List.push_toArray, List.append_toArray, List.nil_append, List.cons_append]
  repeat (first | refine Walk.c rfl ?_ | refine Walk.cRet ?_ | refine Walk.cEnd ?_ | (refine Walk.cReg ?_; simp only [size55_0, size55_1, List.range, List.range.loop]) | (refine Walk.oq ?_; try walk_nrm) | (refine Walk.un ?_; walk_nrm))
  refine Walk.evs (fun _ => #[⟨.cell ⟨b, q, none⟩, false, true⟩]) rfl (fun d => stepG_loadp (w := w.at d) (ho_of (by conv => lhs; whnf) (by kernel_rfl)) (by rfl) (by decide) rfl Try.func79 (by kernel_rfl) (by rfl) (by kernel_rfl) (by kernel_rfl) rfl hc) (fun d e he => by simp at he; subst he; exact evR_read _ _) ?_
  walk_nrm
  repeat (first | refine Walk.c rfl ?_ | refine Walk.cRet ?_ | refine Walk.cEnd ?_ | (refine Walk.cReg ?_; simp only [size55_0, size55_1, List.range, List.range.loop]) | (refine Walk.oq ?_; try walk_nrm) | (refine Walk.un ?_; walk_nrm))
  exact Walk.ret1 rfl rfl Try.func55 rfl fun d => ⟨rfl, d, rfl⟩
theorem loadS_is (b q : Nat) (p : Nat) (s : ByteArray) (w : World) (hc : w.cell? ⟨b, q, none⟩ = some (.pointer (some ⟨p, 0, none⟩))) (hb : w.heap[p]? = some (.cells #[.string s] 9)) : CallV Try.prog main V 55 #[.pointer (some ⟨b, q, none⟩)] w (.pointer (some ⟨p, 0, none⟩)) w := by
  have hv1 := fun d => (strOf hb d #[]).1
  have hv2 := fun d es => (strOf hb d es).2
  refine callW_in Try.func55 code55_is fun fr cs => ?_
  simp only [Try.ntmps55, List.size_toArray, List.length_cons, List.length_nil, Nat.reduceAdd, Nat.reduceSub, Array.replicate_succ, Array.replicate_zero, List.push_toArray, List.append_toArray, List.nil_append, List.cons_append]
  repeat (first | refine Walk.c rfl ?_ | refine Walk.cRet ?_ | refine Walk.cEnd ?_ | (refine Walk.cReg ?_; simp only [size55_0, size55_1, List.range, List.range.loop]) | (refine Walk.oq ?_; try walk_nrm) | (refine Walk.un ?_; walk_nrm))
  refine Walk.evs (fun _ => #[⟨.cell ⟨b, q, none⟩, false, true⟩]) rfl (fun d => stepG_loadp (w := w.at d) (ho_of (by conv => lhs; whnf) (by kernel_rfl)) (by rfl) (by decide) rfl Try.func79 (by kernel_rfl) (by rfl) (by kernel_rfl) (by kernel_rfl) rfl hc) (fun d e he => by simp at he; subst he; exact evR_read _ _) ?_
  walk_nrm
  repeat (first | refine Walk.c rfl ?_ | refine Walk.cRet ?_ | refine Walk.cEnd ?_ | (refine Walk.cReg ?_; simp only [size55_0, size55_1, List.range, List.range.loop]) | (refine Walk.oq ?_; try walk_nrm) | (refine Walk.un ?_; walk_nrm))
  exact Walk.ret1 rfl rfl Try.func55 rfl fun d => ⟨rfl, d, rfl⟩
noncomputable def reg49_0 : Array Oper := match Try.f49.body with | some (.seq (.region _ ops _) _) => ops | _ => #[]
theorem size49_0 : reg49_0.size = 1 := by kernel_rfl
noncomputable def reg49_1 : Array Oper := match Try.f49.body with | some (.seq _ (.seq (.region _ ops _) _)) => ops | _ => #[]
theorem size49_1 : reg49_1.size = 9 := by kernel_rfl
theorem code49_is : Try.f49.body = some (.seq (.region 0 reg49_0 false) (.seq (.region 1 reg49_1 false) (.ret))) := by kernel_rfl
theorem casS_hit (b q : Nat) (p : Nat) (s : ByteArray) (w : World) (hc : w.cell? ⟨b, q, none⟩ = some (.pointer none)) (hz : w.frozen? ⟨b, q, none⟩ = false) (hf : Free V ⟨b, q, none⟩) (hb : w.heap[p]? = some (.cells #[.string s] 9)) : CallV Try.prog main V 49 #[.pointer (some ⟨b, q, none⟩), .pointer none, .pointer (some ⟨p, 0, none⟩)] w (.bool true) (w.setCell ⟨b, q, none⟩ (.pointer (some ⟨p, 0, none⟩))) := by
  have hv1 := fun d => (strTo hb d #[]).1
  have hv2 := fun d es => (strTo hb d es).2
  have hv3 := fun w => (conv_to_nil (P := Try.prog) undPS undUP w #[]).1
  have hv4 := fun w es => (conv_to_nil (P := Try.prog) undPS undUP w es).2
  refine callW_in Try.func49 code49_is fun fr cs => ?_
  simp only [Try.ntmps49, List.size_toArray, List.length_cons, List.length_nil, Nat.reduceAdd, Nat.reduceSub, Array.replicate_succ, Array.replicate_zero, List.push_toArray, List.append_toArray, List.nil_append, List.cons_append]
  repeat (first | refine Walk.c rfl ?_ | refine Walk.cRet ?_ | refine Walk.cEnd ?_ | (refine Walk.cReg ?_; simp only [size49_0, size49_1, List.range, List.range.loop]) | (refine Walk.oq ?_; try walk_nrm) | (refine Walk.un ?_; walk_nrm))
  refine Walk.turn (W := w.setCell ⟨b, q, none⟩ (.pointer (some ⟨p, 0, none⟩))) rfl (fun d => stepG_casp_hit (w := w.at d) (ho_of (by conv => lhs; whnf) (by kernel_rfl)) (by rfl) (by decide) rfl Try.func71 (by kernel_rfl) (by rfl) (by kernel_rfl) (by kernel_rfl) (fun w' es => same_nil none w' es) rfl rfl rfl hc hz) (fun d => DR.set' hf hc d _ (evR_rw hf)) ?_
  walk_nrm
  repeat (first | refine Walk.c rfl ?_ | refine Walk.cRet ?_ | refine Walk.cEnd ?_ | (refine Walk.cReg ?_; simp only [size49_0, size49_1, List.range, List.range.loop]) | (refine Walk.oq ?_; try walk_nrm) | (refine Walk.un ?_; walk_nrm))
  exact Walk.ret1 rfl rfl Try.func49 rfl fun d => ⟨rfl, d, rfl⟩
theorem casS_miss (b q : Nat) (x : Addr) (p : Nat) (s : ByteArray) (w : World) (hc : w.cell? ⟨b, q, none⟩ = some (.pointer (some x))) (hz : w.frozen? ⟨b, q, none⟩ = false) (hb : w.heap[p]? = some (.cells #[.string s] 9)) : CallV Try.prog main V 49 #[.pointer (some ⟨b, q, none⟩), .pointer none, .pointer (some ⟨p, 0, none⟩)] w (.bool false) w := by
  have hv1 := fun d => (strTo hb d #[]).1
  have hv2 := fun d es => (strTo hb d es).2
  have hv3 := fun w => (conv_to_nil (P := Try.prog) undPS undUP w #[]).1
  have hv4 := fun w es => (conv_to_nil (P := Try.prog) undPS undUP w es).2
  refine callW_in Try.func49 code49_is fun fr cs => ?_
  simp only [Try.ntmps49, List.size_toArray, List.length_cons, List.length_nil, Nat.reduceAdd, Nat.reduceSub, Array.replicate_succ, Array.replicate_zero, List.push_toArray, List.append_toArray, List.nil_append, List.cons_append]
  repeat (first | refine Walk.c rfl ?_ | refine Walk.cRet ?_ | refine Walk.cEnd ?_ | (refine Walk.cReg ?_; simp only [size49_0, size49_1, List.range, List.range.loop]) | (refine Walk.oq ?_; try walk_nrm) | (refine Walk.un ?_; walk_nrm))
  refine Walk.evs (fun _ => #[⟨.cell ⟨b, q, none⟩, false, true⟩]) rfl (fun d => stepG_casp_miss (w := w.at d) (ho_of (by conv => lhs; whnf) (by kernel_rfl)) (by rfl) (by decide) rfl Try.func71 (by kernel_rfl) (by rfl) (by kernel_rfl) (by kernel_rfl) (fun es => same_nil (some x) (w.at d) es) rfl rfl rfl hc hz) (fun d e he => by simp at he; subst he; exact evR_read _ _) ?_
  walk_nrm
  repeat (first | refine Walk.c rfl ?_ | refine Walk.cRet ?_ | refine Walk.cEnd ?_ | (refine Walk.cReg ?_; simp only [size49_0, size49_1, List.range, List.range.loop]) | (refine Walk.oq ?_; try walk_nrm) | (refine Walk.un ?_; walk_nrm))
  exact Walk.ret1 rfl rfl Try.func49 rfl fun d => ⟨rfl, d, rfl⟩
noncomputable def reg24_0 : Array Oper := match Try.f24.body with | some (.seq (.region _ ops _) _) => ops | _ => #[]
theorem size24_0 : reg24_0.size = 2 := by kernel_rfl
noncomputable def reg24_1 : Array Oper := match Try.f24.body with | some (.seq _ (.seq (.seq (.region _ ops _) _) _)) => ops | _ => #[]
theorem size24_1 : reg24_1.size = 2 := by kernel_rfl
noncomputable def reg24_2 : Array Oper := match Try.f24.body with | some (.seq _ (.seq (.seq _ (.cond _ (.seq (.region _ ops _) _) _)) _)) => ops | _ => #[]
theorem size24_2 : reg24_2.size = 5 := by kernel_rfl
noncomputable def reg24_3 : Array Oper := match Try.f24.body with | some (.seq _ (.seq _ (.seq (.region _ ops _) _))) => ops | _ => #[]
theorem size24_3 : reg24_3.size = 2 := by kernel_rfl
noncomputable def reg24_4 : Array Oper := match Try.f24.body with | some (.seq _ (.seq _ (.seq _ (.seq (.region _ ops _) _)))) => ops | _ => #[]
theorem size24_4 : reg24_4.size = 5 := by kernel_rfl
noncomputable def reg24_5 : Array Oper := match Try.f24.body with | some (.seq _ (.seq _ (.seq _ (.seq _ (.seq (.seq (.region _ ops _) _) _))))) => ops | _ => #[]
theorem size24_5 : reg24_5.size = 2 := by kernel_rfl
noncomputable def reg24_6 : Array Oper := match Try.f24.body with | some (.seq _ (.seq _ (.seq _ (.seq _ (.seq (.seq _ (.cond _ (.seq (.region _ ops _) _) _)) _))))) => ops | _ => #[]
theorem size24_6 : reg24_6.size = 5 := by kernel_rfl
noncomputable def reg24_7 : Array Oper := match Try.f24.body with | some (.seq _ (.seq _ (.seq _ (.seq _ (.seq _ (.seq (.region _ ops _) _)))))) => ops | _ => #[]
theorem size24_7 : reg24_7.size = 5 := by kernel_rfl
theorem code24_is : Try.f24.body = some (.seq (.region 0 reg24_0 false) (.seq (.seq (.region 1 reg24_1 false) (.cond (.tmp 8 ) (.seq (.region 2 reg24_2 false) (.ret)) (.skip))) (.seq (.region 3 reg24_3 false) (.seq (.region 4 reg24_4 false) (.seq (.seq (.region 5 reg24_5 false) (.cond (.tmp 19 ) (.seq (.region 6 reg24_6 false) (.ret)) (.skip))) (.seq (.region 7 reg24_7 false) (.ret))))))) := by kernel_rfl
variable {sv : Value} {w W : World}
theorem boxget_none (hst : CallV Try.prog main V 48 #[sv] w (.tuple #[]) W) (b : Nat) (hc : W.cell? ⟨b, 0, none⟩ = some (.pointer none)) : CallV Try.prog main V 24 #[.pointer (some ⟨b, 0, none⟩), sv] w (.tuple #[noStr, .bool false]) W := by
  have hp1 := fun w => run_eql_ptr (P := Try.prog) 64 undBoxS (some ⟨b, 0, none⟩) w
  have hp2 := fun w es => ev_eql_ptr (P := Try.prog) 64 undBoxS (some ⟨b, 0, none⟩) w es
  have hq1 := fun w => run_eql_ptr (P := Try.prog) 77 undPS none w
  have hq2 := fun w es => ev_eql_ptr (P := Try.prog) 77 undPS none w es
  simp only [Option.isNone_some] at hp1
  simp only [Option.isNone_none] at hq1
  unfold noStr
  refine callW_in Try.func24 code24_is fun fr cs => ?_
  simp only [Try.ntmps24, List.size_toArray, List.length_cons, List.length_nil, Nat.reduceAdd, Nat.reduceSub, Array.replicate_succ, Array.replicate_zero, List.push_toArray, List.append_toArray, List.nil_append, List.cons_append]
  repeat (first | refine Walk.c rfl ?_ | refine Walk.cRet ?_ | refine Walk.cEnd ?_ | (refine Walk.cReg ?_; simp only [size24_0, size24_1, size24_2, size24_3, size24_4, size24_5, size24_6, size24_7, List.range, List.range.loop]) | (refine Walk.oq ?_; try walk_nrm) | (refine Walk.un ?_; walk_nrm))
  refine Walk.callV (x := .tuple #[]) (W := W) ?_ (ho_of (by conv => lhs; whnf) (by kernel_rfl)) (by rfl) (by decide) rfl Try.func48 (by kernel_rfl) (by rfl) ?_
  · walk_nrm
    exact hst
  walk_nrm
  repeat (first | refine Walk.c rfl ?_ | refine Walk.cRet ?_ | refine Walk.cEnd ?_ | (refine Walk.cReg ?_; simp only [size24_0, size24_1, size24_2, size24_3, size24_4, size24_5, size24_6, size24_7, List.range, List.range.loop]) | (refine Walk.oq ?_; try walk_nrm) | (refine Walk.un ?_; walk_nrm))
  refine Walk.callV (x := .pointer none) (W := W) ?_ (ho_of (by conv => lhs; whnf) (by kernel_rfl)) (by rfl) (by decide) rfl Try.func55 (by kernel_rfl) (by rfl) ?_
  · walk_nrm
    exact loadS_nil b 0 W hc
  walk_nrm
  repeat (first | refine Walk.c rfl ?_ | refine Walk.cRet ?_ | refine Walk.cEnd ?_ | (refine Walk.cReg ?_; simp only [size24_0, size24_1, size24_2, size24_3, size24_4, size24_5, size24_6, size24_7, List.range, List.range.loop]) | (refine Walk.oq ?_; try walk_nrm) | (refine Walk.un ?_; walk_nrm))
  refine Walk.callV (x := .tuple #[noStr, .bool false]) (W := W) ?_ (ho_of (by conv => lhs; whnf) (by kernel_rfl)) (by rfl) (by decide) rfl Try.func47 (by kernel_rfl) (by rfl) ?_
  · walk_nrm
    exact zero_w W
  unfold noStr
  walk_nrm
  repeat (first | refine Walk.c rfl ?_ | refine Walk.cRet ?_ | refine Walk.cEnd ?_ | (refine Walk.cReg ?_; simp only [size24_0, size24_1, size24_2, size24_3, size24_4, size24_5, size24_6, size24_7, List.range, List.range.loop]) | (refine Walk.oq ?_; try walk_nrm) | (refine Walk.un ?_; walk_nrm))
  exact Walk.on2 rfl rfl Try.func24 rfl (.stop fun d => ⟨_, ⟨rfl, d, rfl⟩, rfl⟩)
theorem boxget_some (hst : CallV Try.prog main V 48 #[sv] w (.tuple #[]) W) (b p : Nat) (s : ByteArray) (hc : W.cell? ⟨b, 0, none⟩ = some (.pointer (some ⟨p, 0, none⟩))) (hs : W.heap[p]? = some (.cells #[.string s] 9)) : CallV Try.prog main V 24 #[.pointer (some ⟨b, 0, none⟩), sv] w (.tuple #[.string s, .bool true]) W := by
  have hp1 := fun w => run_eql_ptr (P := Try.prog) 64 undBoxS (some ⟨b, 0, none⟩) w
  have hp2 := fun w es => ev_eql_ptr (P := Try.prog) 64 undBoxS (some ⟨b, 0, none⟩) w es
  have hs0 : W.cell? ⟨p, 0, none⟩ = some (.string s) := (cell_of hs 0).trans rfl
  have hq1 := fun w => run_eql_ptr (P := Try.prog) 77 undPS (some ⟨p, 0, none⟩) w
  have hq2 := fun w es => ev_eql_ptr (P := Try.prog) 77 undPS (some ⟨p, 0, none⟩) w es
  simp only [Option.isNone_some] at hp1 hq1
  refine callW_in Try.func24 code24_is fun fr cs => ?_
  simp only [Try.ntmps24, List.size_toArray, List.length_cons, List.length_nil, Nat.reduceAdd, Nat.reduceSub, Array.replicate_succ, Array.replicate_zero, List.push_toArray, List.append_toArray, List.nil_append, List.cons_append]
  repeat (first | refine Walk.c rfl ?_ | refine Walk.cRet ?_ | refine Walk.cEnd ?_ | (refine Walk.cReg ?_; simp only [size24_0, size24_1, size24_2, size24_3, size24_4, size24_5, size24_6, size24_7, List.range, List.range.loop]) | (refine Walk.oq ?_; try walk_nrm) | (refine Walk.un ?_; walk_nrm))
  refine Walk.callV (x := .tuple #[]) (W := W) ?_ (ho_of (by conv => lhs; whnf) (by kernel_rfl)) (by rfl) (by decide) rfl Try.func48 (by kernel_rfl) (by rfl) ?_
  · walk_nrm
    exact hst
  walk_nrm
  repeat (first | refine Walk.c rfl ?_ | refine Walk.cRet ?_ | refine Walk.cEnd ?_ | (refine Walk.cReg ?_; simp only [size24_0, size24_1, size24_2, size24_3, size24_4, size24_5, size24_6, size24_7, List.range, List.range.loop]) | (refine Walk.oq ?_; try walk_nrm) | (refine Walk.un ?_; walk_nrm))
  refine Walk.callV (x := .pointer (some ⟨p, 0, none⟩)) (W := W) ?_ (ho_of (by conv => lhs; whnf) (by kernel_rfl)) (by rfl) (by decide) rfl Try.func55 (by kernel_rfl) (by rfl) ?_
  · walk_nrm
    exact loadS_is b 0 p s W hc hs
  walk_nrm
  repeat (first | refine Walk.c rfl ?_ | refine Walk.cRet ?_ | refine Walk.cEnd ?_ | (refine Walk.cReg ?_; simp only [size24_0, size24_1, size24_2, size24_3, size24_4, size24_5, size24_6, size24_7, List.range, List.range.loop]) | (refine Walk.oq ?_; try walk_nrm) | (refine Walk.un ?_; walk_nrm))
  exact Walk.on2 rfl rfl Try.func24 rfl (.stop fun d => ⟨_, ⟨rfl, d, rfl⟩, rfl⟩)
noncomputable def reg22_0 : Array Oper := match Try.f22.body with | some (.seq (.region _ ops _) _) => ops | _ => #[]
theorem size22_0 : reg22_0.size = 3 := by kernel_rfl
noncomputable def reg22_1 : Array Oper := match Try.f22.body with | some (.seq _ (.seq (.seq (.region _ ops _) _) _)) => ops | _ => #[]
theorem size22_1 : reg22_1.size = 2 := by kernel_rfl
noncomputable def reg22_2 : Array Oper := match Try.f22.body with | some (.seq _ (.seq (.seq _ (.cond _ (.seq (.region _ ops _) _) _)) _)) => ops | _ => #[]
theorem size22_2 : reg22_2.size = 5 := by kernel_rfl
noncomputable def reg22_3 : Array Oper := match Try.f22.body with | some (.seq _ (.seq _ (.seq (.region _ ops _) _))) => ops | _ => #[]
theorem size22_3 : reg22_3.size = 2 := by kernel_rfl
noncomputable def reg22_4 : Array Oper := match Try.f22.body with | some (.seq _ (.seq _ (.seq _ (.seq (.seq (.region _ ops _) _) _)))) => ops | _ => #[]
theorem size22_4 : reg22_4.size = 4 := by kernel_rfl
noncomputable def reg22_5 : Array Oper := match Try.f22.body with | some (.seq _ (.seq _ (.seq _ (.seq (.seq _ (.cond _ (.seq (.region _ ops _) _) _)) _)))) => ops | _ => #[]
theorem size22_5 : reg22_5.size = 3 := by kernel_rfl
noncomputable def reg22_6 : Array Oper := match Try.f22.body with | some (.seq _ (.seq _ (.seq _ (.seq _ (.seq (.region _ ops _) _))))) => ops | _ => #[]
theorem size22_6 : reg22_6.size = 8 := by kernel_rfl
noncomputable def reg22_7 : Array Oper := match Try.f22.body with | some (.seq _ (.seq _ (.seq _ (.seq _ (.seq _ (.seq (.region _ ops _) _)))))) => ops | _ => #[]
theorem size22_7 : reg22_7.size = 3 := by kernel_rfl
theorem code22_is : Try.f22.body = some (.seq (.region 0 reg22_0 false) (.seq (.seq (.region 1 reg22_1 false) (.cond (.tmp 11 ) (.seq (.region 2 reg22_2 false) (.ret)) (.skip))) (.seq (.region 3 reg22_3 false) (.seq (.seq (.region 4 reg22_4 false) (.cond (.tmp 20 ) (.seq (.region 5 reg22_5 false) (.ret)) (.skip))) (.seq (.region 6 reg22_6 false) (.seq (.region 7 reg22_7 false) (.ret))))))) := by kernel_rfl
theorem boxset_first (b : Nat) (s : ByteArray) (hst : CallV Try.prog main V 48 #[sv] (w.alloc (.cells #[.string s] 9)) (.tuple #[]) W) (hc : W.cell? ⟨b, 0, none⟩ = some (.pointer none)) (hz : W.frozen? ⟨b, 0, none⟩ = false) (hf : Free V ⟨b, 0, none⟩)
    (hb : W.heap[w.heap.size]? = some (.cells #[.string s] 9)) (hs : (W.setCell ⟨b, 0, none⟩ (.pointer (some ⟨w.heap.size, 0, none⟩))).cell? ⟨w.heap.size, 0, none⟩ = some (.string s)) : CallV Try.prog main V 22 #[.pointer (some ⟨b, 0, none⟩), sv, .string s] w (.tuple #[.string s, .bool true]) (W.setCell ⟨b, 0, none⟩ (.pointer (some ⟨w.heap.size, 0, none⟩))) := by
  have hp1 := fun w => run_eql_ptr (P := Try.prog) 64 undBoxS (some ⟨b, 0, none⟩) w
  have hp2 := fun w es => ev_eql_ptr (P := Try.prog) 64 undBoxS (some ⟨b, 0, none⟩) w es
  simp only [Option.isNone_some] at hp1
  refine callW_in Try.func22 code22_is fun fr cs => ?_
  simp only [Try.ntmps22, List.size_toArray, List.length_cons, List.length_nil, Nat.reduceAdd, Nat.reduceSub, Array.replicate_succ, Array.replicate_zero, List.push_toArray, List.append_toArray, List.nil_append, List.cons_append]
  repeat (first | refine Walk.c rfl ?_ | refine Walk.cRet ?_ | refine Walk.cEnd ?_ | (refine Walk.cReg ?_; simp only [size22_0, size22_1, size22_2, size22_3, size22_4, size22_5, size22_6, size22_7, List.range, List.range.loop]) | (refine Walk.oq ?_; try walk_nrm) | (refine Walk.un ?_; walk_nrm))
  (refine Walk.oa ?_; try walk_nrm)
  generalize hN : w.heap.size = N at *
  generalize w.alloc (.cells #[.string s] 9) = w1 at *
  repeat (first | refine Walk.c rfl ?_ | refine Walk.cRet ?_ | refine Walk.cEnd ?_ | (refine Walk.cReg ?_; simp only [size22_0, size22_1, size22_2, size22_3, size22_4, size22_5, size22_6, size22_7, List.range, List.range.loop]) | (refine Walk.oq ?_; try walk_nrm) | (refine Walk.un ?_; walk_nrm))
  refine Walk.callV (x := .tuple #[]) (W := W) ?_ (ho_of (by conv => lhs; whnf) (by kernel_rfl)) (by rfl) (by decide) rfl Try.func48 (by kernel_rfl) (by rfl) ?_
  · walk_nrm
    exact hst
  walk_nrm
  repeat (first | refine Walk.c rfl ?_ | refine Walk.cRet ?_ | refine Walk.cEnd ?_ | (refine Walk.cReg ?_; simp only [size22_0, size22_1, size22_2, size22_3, size22_4, size22_5, size22_6, size22_7, List.range, List.range.loop]) | (refine Walk.oq ?_; try walk_nrm) | (refine Walk.un ?_; walk_nrm))
  refine Walk.callV (x := .bool true) (W := W.setCell ⟨b, 0, none⟩ (.pointer (some ⟨N, 0, none⟩))) ?_ (ho_of (by conv => lhs; whnf) (by kernel_rfl)) (by rfl) (by decide) rfl Try.func49 (by kernel_rfl) (by rfl) ?_
  · walk_nrm
    exact casS_hit b 0 N s W hc hz hf hb
  generalize W.setCell ⟨b, 0, none⟩ (.pointer (some ⟨N, 0, none⟩)) = W2 at *
  walk_nrm
  repeat (first | refine Walk.c rfl ?_ | refine Walk.cRet ?_ | refine Walk.cEnd ?_ | (refine Walk.cReg ?_; simp only [size22_0, size22_1, size22_2, size22_3, size22_4, size22_5, size22_6, size22_7, List.range, List.range.loop]) | (refine Walk.oq ?_; try walk_nrm) | (refine Walk.un ?_; walk_nrm))
  exact Walk.on2 rfl rfl Try.func22 rfl (.stop fun d => ⟨_, ⟨rfl, d, rfl⟩, rfl⟩)
theorem boxset_again (b p : Nat) (s s0 : ByteArray) {W2 : World} (hst : CallV Try.prog main V 48 #[sv] (w.alloc (.cells #[.string s] 9)) (.tuple #[]) W) (hc : W.cell? ⟨b, 0, none⟩ = some (.pointer (some ⟨p, 0, none⟩))) (hz : W.frozen? ⟨b, 0, none⟩ = false)
    (hst2 : CallV Try.prog main V 48 #[sv] W (.tuple #[]) W2) (hc2 : W2.cell? ⟨b, 0, none⟩ = some (.pointer (some ⟨p, 0, none⟩))) (hb : W.heap[w.heap.size]? = some (.cells #[.string s] 9)) (hs : W2.heap[p]? = some (.cells #[.string s0] 9)) : CallV Try.prog main V 22 #[.pointer (some ⟨b, 0, none⟩), sv, .string s] w (.tuple #[.string s0, .bool false]) W2 := by
  have hp1 := fun w => run_eql_ptr (P := Try.prog) 64 undBoxS (some ⟨b, 0, none⟩) w
  have hp2 := fun w es => ev_eql_ptr (P := Try.prog) 64 undBoxS (some ⟨b, 0, none⟩) w es
  simp only [Option.isNone_some] at hp1
  refine callW_in Try.func22 code22_is fun fr cs => ?_
  simp only [Try.ntmps22, List.size_toArray, List.length_cons, List.length_nil, Nat.reduceAdd, Nat.reduceSub, Array.replicate_succ, Array.replicate_zero, List.push_toArray, List.append_toArray, List.nil_append, List.cons_append]
  repeat (first | refine Walk.c rfl ?_ | refine Walk.cRet ?_ | refine Walk.cEnd ?_ | (refine Walk.cReg ?_; simp only [size22_0, size22_1, size22_2, size22_3, size22_4, size22_5, size22_6, size22_7, List.range, List.range.loop]) | (refine Walk.oq ?_; try walk_nrm) | (refine Walk.un ?_; walk_nrm))
  (refine Walk.oa ?_; try walk_nrm)
  generalize hN : w.heap.size = N at *
  generalize w.alloc (.cells #[.string s] 9) = w1 at *
  repeat (first | refine Walk.c rfl ?_ | refine Walk.cRet ?_ | refine Walk.cEnd ?_ | (refine Walk.cReg ?_; simp only [size22_0, size22_1, size22_2, size22_3, size22_4, size22_5, size22_6, size22_7, List.range, List.range.loop]) | (refine Walk.oq ?_; try walk_nrm) | (refine Walk.un ?_; walk_nrm))
  refine Walk.callV (x := .tuple #[]) (W := W) ?_ (ho_of (by conv => lhs; whnf) (by kernel_rfl)) (by rfl) (by decide) rfl Try.func48 (by kernel_rfl) (by rfl) ?_
  · walk_nrm
    exact hst
  walk_nrm
  repeat (first | refine Walk.c rfl ?_ | refine Walk.cRet ?_ | refine Walk.cEnd ?_ | (refine Walk.cReg ?_; simp only [size22_0, size22_1, size22_2, size22_3, size22_4, size22_5, size22_6, size22_7, List.range, List.range.loop]) | (refine Walk.oq ?_; try walk_nrm) | (refine Walk.un ?_; walk_nrm))
  refine Walk.callV (x := .bool false) (W := W) ?_ (ho_of (by conv => lhs; whnf) (by kernel_rfl)) (by rfl) (by decide) rfl Try.func49 (by kernel_rfl) (by rfl) ?_
  · walk_nrm
    exact casS_miss b 0 _ N s W hc hz hb
  walk_nrm
  repeat (first | refine Walk.c rfl ?_ | refine Walk.cRet ?_ | refine Walk.cEnd ?_ | (refine Walk.cReg ?_; simp only [size22_0, size22_1, size22_2, size22_3, size22_4, size22_5, size22_6, size22_7, List.range, List.range.loop]) | (refine Walk.oq ?_; try walk_nrm) | (refine Walk.un ?_; walk_nrm))
  refine Walk.callV (x := .tuple #[.string s0, .bool true]) (W := W2) ?_ (ho_of (by conv => lhs; whnf) (by kernel_rfl)) (by rfl) (by decide) rfl Try.func24 (by kernel_rfl) (by rfl) ?_
  · walk_nrm
    exact boxget_some hst2 b p s0 hc2 hs
  walk_nrm
  repeat (first | refine Walk.c rfl ?_ | refine Walk.cRet ?_ | refine Walk.cEnd ?_ | (refine Walk.cReg ?_; simp only [size22_0, size22_1, size22_2, size22_3, size22_4, size22_5, size22_6, size22_7, List.range, List.range.loop]) | (refine Walk.oq ?_; try walk_nrm) | (refine Walk.un ?_; walk_nrm))
  exact Walk.on2 rfl rfl Try.func22 rfl (.stop fun d => ⟨_, ⟨rfl, d, rfl⟩, rfl⟩)
end
end
section
def seOps : Nat → List OpV := fun i => ([[⟨2, 0, 7, 0⟩], [⟨2, 0, 9, 0⟩]] : List (List OpV)).getD i []
def seSl : List Int := [0, 1, 1, 0, 0]
def sePlay (cb : Nat) : OX (onLa cb 1) × List Nat := playO (onLa cb 1) oz0 seOps 2 100 seSl
theorem se_run (cb : Nat) : (ozState (sePlay cb).1.s 1, stuckO 2 (sePlay cb).1, ((sePlay cb).1.th 0).ans, ((sePlay cb).1.th 1).ans, (sePlay cb).2.length) = ([2, 7, 0], false, [(true, 7)], [(false, 0)], 5) := by kernel_rfl
theorem cellsN1 : cellsN 1 = 1 := by decide
def seA : Array Value := #[.int .i64 2, .int .i64 0, .int .i64 7, .int .i64 0]
def seB : Array Value := #[.int .i64 2, .int .i64 0, .int .i64 9, .int .i64 0]
def seH (T : Nat) : Array Value := #[.slice (some ⟨T, 0, none⟩) 1 1, .slice (some ⟨T + 1, 0, none⟩) 1 1]
def seS : Array Value := #[.int .i64 0, .int .i64 1, .int .i64 1, .int .i64 0, .int .i64 0]
def seOa (T : Nat) (i : Nat) : Option Addr := some ⟨T + i, 0, none⟩
theorem se_ops {T : Nat} {w : World} (h1 : w.heap[T]? = some (.cells seA 34)) (h2 : w.heap[T + 1]? = some (.cells seB 34)) (h4 : w.heap[T + 2]? = some (.cells (seH T) 32)) : OpsIn (T + 2) 0 2 (seOa T) (fun _ => 1) (fun _ => 1) seOps w := by
  refine ⟨fun i hi => ?_, fun i hi => Nat.le_refl _, fun i hi => .inr ⟨_, rfl⟩, fun i hi => ?_, fun i hi j o ho => ?_⟩
  · rw [Nat.zero_add]
    refine (cell_of h4 i).trans ?_
    match i, hi with
    | 0, _ => rfl
    | 1, _ => rfl
  · match i, hi with
    | 0, _ => rfl
    | 1, _ => rfl
  · refine ⟨T + i, 0, rfl, ?_⟩
    simp only [Nat.zero_add]
    match i, hi, ho with
    | 0, _, ho =>
      match j, ho with
      | 0, ho => cases ho; exact ⟨(cell_of h1 _).trans rfl, (cell_of h1 _).trans rfl, (cell_of h1 _).trans rfl, (cell_of h1 _).trans rfl⟩
      | j + 1, ho => exact absurd ho (by simp [seOps])
    | 1, _, ho =>
      match j, ho with
      | 0, ho => cases ho; exact ⟨(cell_of h2 _).trans rfl, (cell_of h2 _).trans rfl, (cell_of h2 _).trans rfl, (cell_of h2 _).trans rfl⟩
      | j + 1, ho => exact absurd ho (by simp [seOps])
noncomputable def reg13_0 : Array Oper := match Try.f13.body with | some (.seq (.region _ ops _) _) => ops | _ => #[]
theorem size13_0 : reg13_0.size = 1 := by kernel_rfl
noncomputable def reg13_1 : Array Oper := match Try.f13.body with | some (.seq _ (.seq (.region _ ops _) _)) => ops | _ => #[]
theorem size13_1 : reg13_1.size = 3 := by kernel_rfl
theorem code13_is : Try.f13.body = some (.seq (.region 0 reg13_0 false) (.seq (.region 1 reg13_1 false) (.ret))) := by kernel_rfl
noncomputable def reg25_0 : Array Oper := match Try.f25.body with | some (.seq (.region _ ops _) _) => ops | _ => #[]
theorem size25_0 : reg25_0.size = 1 := by kernel_rfl
noncomputable def reg25_1 : Array Oper := match Try.f25.body with | some (.seq _ (.seq (.region _ ops _) _)) => ops | _ => #[]
theorem size25_1 : reg25_1.size = 3 := by kernel_rfl
theorem code25_is : Try.f25.body = some (.seq (.region 0 reg25_0 false) (.seq (.region 1 reg25_1 false) (.ret))) := by kernel_rfl
noncomputable def reg26_0 : Array Oper := match Try.f26.body with | some (.seq (.region _ ops _) _) => ops | _ => #[]
theorem size26_0 : reg26_0.size = 1 := by kernel_rfl
noncomputable def reg26_1 : Array Oper := match Try.f26.body with | some (.seq _ (.seq (.region _ ops _) _)) => ops | _ => #[]
theorem size26_1 : reg26_1.size = 4 := by kernel_rfl
theorem code26_is : Try.f26.body = some (.seq (.region 0 reg26_0 false) (.seq (.region 1 reg26_1 false) (.ret))) := by kernel_rfl
section
variable {main : Bool} {V : Nat → Option Wait}
def NewOut (w : World) (v : Value) (w' : World) : Prop := v = .pointer (some ⟨w.heap.size, 0, none⟩) ∧ (∀ b, b < w.heap.size → w'.heap[b]? = w.heap[b]?) ∧ w.heap.size ≤ w'.heap.size
theorem once_new (w : World) : CallW Try.prog main V 13 #[] w (NewOut w) := by
  intro c cs
  rw [enter_at _ Try.func13 code13_is]
  simp only [Try.ntmps13, List.size_toArray, List.length_cons, List.length_nil, Nat.reduceAdd, Nat.reduceSub, Array.replicate_succ, Array.replicate_zero, List.push_toArray, List.append_toArray, List.nil_append, List.cons_append]
  repeat (first | refine Walk.c rfl ?_ | refine Walk.cRet ?_ | refine Walk.cEnd ?_ | (refine Walk.cReg ?_; simp only [size13_0, size13_1, List.range, List.range.loop]) | (refine Walk.oq ?_; try walk_nrm) | (refine Walk.un ?_; walk_nrm))
  (refine Walk.oa ?_; try walk_nrm)
  repeat (first | refine Walk.c rfl ?_ | refine Walk.cRet ?_ | refine Walk.cEnd ?_ | (refine Walk.cReg ?_; simp only [size13_0, size13_1, List.range, List.range.loop]) | (refine Walk.oq ?_; try walk_nrm) | (refine Walk.un ?_; walk_nrm))
  refine Walk.on1 rfl rfl Try.func13 rfl (.stop fun d => ⟨_, ⟨rfl, fun b hb => heap_new_lt _ _ hb, ?_⟩, rfl⟩)
  simp [World.at]
theorem once_box (w : World) : CallW Try.prog main V 25 #[] w (NewOut w) := by
  intro c cs
  rw [enter_at _ Try.func25 code25_is]
  simp only [Try.ntmps25, List.size_toArray, List.length_cons, List.length_nil, Nat.reduceAdd, Nat.reduceSub, Array.replicate_succ, Array.replicate_zero, List.push_toArray, List.append_toArray, List.nil_append, List.cons_append]
  repeat (first | refine Walk.c rfl ?_ | refine Walk.cRet ?_ | refine Walk.cEnd ?_ | (refine Walk.cReg ?_; simp only [size25_0, size25_1, List.range, List.range.loop]) | (refine Walk.oq ?_; try walk_nrm) | (refine Walk.un ?_; walk_nrm))
  (refine Walk.oa ?_; try walk_nrm)
  repeat (first | refine Walk.c rfl ?_ | refine Walk.cRet ?_ | refine Walk.cEnd ?_ | (refine Walk.cReg ?_; simp only [size25_0, size25_1, List.range, List.range.loop]) | (refine Walk.oq ?_; try walk_nrm) | (refine Walk.un ?_; walk_nrm))
  refine Walk.on1 rfl rfl Try.func25 rfl (.stop fun d => ⟨_, ⟨rfl, fun b hb => heap_new_lt _ _ hb, ?_⟩, rfl⟩)
  simp [World.at]
theorem once_lazy (w : World) : CallW Try.prog main V 26 #[.nilFunc] w (NewOut w) := by
  intro c cs
  rw [enter_at _ Try.func26 code26_is]
  simp only [Try.ntmps26, List.size_toArray, List.length_cons, List.length_nil, Nat.reduceAdd, Nat.reduceSub, Array.replicate_succ, Array.replicate_zero, List.push_toArray, List.append_toArray, List.nil_append, List.cons_append]
  repeat (first | refine Walk.c rfl ?_ | refine Walk.cRet ?_ | refine Walk.cEnd ?_ | (refine Walk.cReg ?_; simp only [size26_0, size26_1, List.range, List.range.loop]) | (refine Walk.oq ?_; try walk_nrm) | (refine Walk.un ?_; walk_nrm))
  (refine Walk.oa ?_; try walk_nrm)
  repeat (first | refine Walk.c rfl ?_ | refine Walk.cRet ?_ | refine Walk.cEnd ?_ | (refine Walk.cReg ?_; simp only [size26_0, size26_1, List.range, List.range.loop]) | (refine Walk.oq ?_; try walk_nrm) | (refine Walk.un ?_; walk_nrm))
  refine Walk.on1 rfl rfl Try.func26 rfl (.stop fun d => ⟨_, ⟨rfl, fun b hb => heap_new_lt _ _ hb, ?_⟩, rfl⟩)
  simp [World.at]
end
end
theorem undBoxI : Try.prog.underlying 85 = some (.pointer 138) := by kernel_rfl
theorem undLazyI : Try.prog.underlying 87 = some (.pointer 151) := by kernel_rfl
structure SeCells (X : Nat) (aa oa sa : Option Addr) (ac oc sc : Nat) (b o b0 o0 b1 o1 sb so : Nat) (tc0 tc1 : Nat) (w : World) : Prop where
  x : w.heap[X]? = some (.cells (trC (.slice (some ⟨b, o, none⟩) 2 ac) (.slice oa 5 oc) (.slice (some ⟨sb, so, none⟩) 3 sc) false) 29)
  a0 : w.cell? ⟨b, o, none⟩ = some (.slice (some ⟨b0, o0, none⟩) 1 tc0)
  a1 : w.cell? ⟨b, o + 1, none⟩ = some (.slice (some ⟨b1, o1, none⟩) 1 tc1)
  k0 : w.cell? ⟨b0, o0, none⟩ = some (.bool true)
  v0 : w.cell? ⟨b0, o0 + 1, none⟩ = some (.int .i64 7)
  k1 : w.cell? ⟨b1, o1, none⟩ = some (.bool false)
  v1 : w.cell? ⟨b1, o1 + 1, none⟩ = some (.int .i64 0)
  s0 : w.cell? ⟨sb, so, none⟩ = some (.int .i64 2)
  s1 : w.cell? ⟨sb, so + 1, none⟩ = some (.int .i64 7)
theorem SeCells.old {X : Nat} {aa oa sa : Option Addr} {ac oc sc : Nat} {b o b0 o0 b1 o1 sb so : Nat} {tc0 tc1 : Nat} {w w' : World} (H : SeCells X aa oa sa ac oc sc b o b0 o0 b1 o1 sb so tc0 tc1 w) (h : ∀ b, b < w.heap.size → w'.heap[b]? = w.heap[b]?) : SeCells X aa oa sa ac oc sc b o b0 o0 b1 o1 sb so tc0 tc1 w' := by
  have hc : ∀ {b j : Nat} {v : Value}, w.cell? ⟨b, j, none⟩ = some v → w'.cell? ⟨b, j, none⟩ = some v := fun {b j v} e => (World.cell?_of_block (a := ⟨b, j, none⟩) (h b (cell_lt' e))).trans e
  exact ⟨(h X (Array.getElem?_eq_some_iff.1 H.x).1).trans H.x, hc H.a0, hc H.a1, hc H.k0, hc H.v0, hc H.k1, hc H.v1, hc H.s0, hc H.s1⟩
noncomputable def reg9_0 : Array Oper := match Try.f9.body with | some (.seq (.region _ ops _) _) => ops | _ => #[]
theorem size9_0 : reg9_0.size = 1 := by kernel_rfl
noncomputable def reg9_1 : Array Oper := match Try.f9.body with | some (.seq _ (.seq (.region _ ops _) _)) => ops | _ => #[]
theorem size9_1 : reg9_1.size = 9 := by kernel_rfl
noncomputable def reg9_2 : Array Oper := match Try.f9.body with | some (.seq _ (.seq _ (.seq (.seq (.region _ ops _) _) _))) => ops | _ => #[]
theorem size9_2 : reg9_2.size = 44 := by kernel_rfl
noncomputable def reg9_3 : Array Oper := match Try.f9.body with | some (.seq _ (.seq _ (.seq (.seq _ (.cond _ (.seq (.region _ ops _) _) _)) _))) => ops | _ => #[]
theorem size9_3 : reg9_3.size = 1 := by kernel_rfl
noncomputable def reg9_4 : Array Oper := match Try.f9.body with | some (.seq _ (.seq _ (.seq _ (.seq (.region _ ops _) _)))) => ops | _ => #[]
theorem size9_4 : reg9_4.size = 57 := by kernel_rfl
theorem code9_is : Try.f9.body = some (.seq (.region 0 reg9_0 false) (.seq (.region 1 reg9_1 false) (.seq (.seq (.region 2 reg9_2 false) (.cond (.tmp 52 ) (.seq (.region 3 reg9_3 false) (.ret)) (.skip))) (.seq (.region 4 reg9_4 false) (.ret))))) := by kernel_rfl
def SeBack (fr c : Frame) (cs : List Frame) : Prop := ∀ (cells : Array Value) (F : Nat → List Ans) (ord : List Nat) (w : World), TrA cells 2 F ord [2, 7, 0] false w → F 0 = [(true, 7)] → F 1 = [(false, 0)] → ord.length = 5 →
  Walk Try.prog true (DR (fun _ => none)) (fun g w' => g = G (c.finish (.bool true)) cs ∧ (∀ b, b < w.heap.size → w'.heap[b]? = w.heap[b]?) ∧ w.heap.size ≤ w'.heap.size) (G (fr.finish (.agg cells)) (c :: cs)) w
theorem sets_in (c : Frame) (cs : List Frame) (w : World) :
    Walk Try.prog true (DR (fun _ => none)) (fun g w' => ∃ fr, g = G (Frame.enter Try.prog 11 #[.int .i64 1, .slice (some ⟨w.heap.size + 2, 0, none⟩) 2 2, .slice (some ⟨w.heap.size + 3, 0, none⟩) seSl.length 5, .int .i64 100] .normal) (fr :: c :: cs) ∧ (∀ b, b < w.heap.size → w'.heap[b]? = w.heap[b]?) ∧ w.heap.size ≤ w'.heap.size ∧
        OpsIn (w.heap.size + 2) 0 2 (seOa w.heap.size) (fun _ => 1) (fun _ => 1) seOps w' ∧ (∀ (j : Nat) (z : Int), seSl[j]? = some z → w'.cell? ⟨w.heap.size + 3, 0 + j, none⟩ = some (.int .i64 z)) ∧ SeBack fr c cs)
      (G (Frame.enter Try.prog 9 #[] .normal) (c :: cs)) w := by
  have hA : ∀ b, Apart (fun _ => none) b := fun b => ⟨fun _ _ _ _ h => (by cases h), fun _ _ h => (by cases h)⟩
  rw [enter_at _ Try.func9 code9_is]
  simp only [Try.ntmps9, List.size_toArray, List.length_cons, List.length_nil, Nat.reduceAdd, Nat.reduceSub, Array.replicate_succ, Array.replicate_zero, List.push_toArray, List.append_toArray, List.nil_append, List.cons_append]
  repeat (first | refine Walk.c rfl ?_ | refine Walk.cRet ?_ | refine Walk.cEnd ?_ | (refine Walk.cReg ?_; simp only [size9_0, size9_1, size9_2, size9_3, size9_4, List.range, List.range.loop]) | (refine Walk.oq ?_; try walk_nrm) | (refine Walk.un ?_; walk_nrm))
  (refine Walk.oa ?_; try walk_nrm)
  have s1 : (w.alloc (.cells seA 34)).heap.size = w.heap.size + 1 := by simp
  have o1 : ∀ b, b < w.heap.size → (w.alloc (.cells seA 34)).heap[b]? = w.heap[b]? := fun b hb => heap_new_lt _ _ hb
  have d1 := heap_alloc_new w (.cells seA 34)
  generalize hT : w.heap.size = T at *
  change Walk Try.prog true _ _ _ (w.alloc (.cells seA 34))
  generalize w.alloc (.cells seA 34) = x1 at *
  repeat (first | refine Walk.c rfl ?_ | refine Walk.cRet ?_ | refine Walk.cEnd ?_ | (refine Walk.cReg ?_; simp only [size9_0, size9_1, size9_2, size9_3, size9_4, List.range, List.range.loop]) | (refine Walk.oq ?_; try walk_nrm) | (refine Walk.un ?_; walk_nrm))
  (refine Walk.oa ?_; try walk_nrm)
  have s2 : (x1.alloc (.cells seB 34)).heap.size = T + 2 := by simp [s1]
  have o2 : ∀ b, b < T + 1 → (x1.alloc (.cells seB 34)).heap[b]? = x1.heap[b]? := fun b hb => heap_new_lt _ _ (by omega)
  have d2 : (x1.alloc (.cells seB 34)).heap[T + 1]? = some (.cells seB 34) := s1 ▸ heap_alloc_new x1 (.cells seB 34)
  try simp only [s1]
  change Walk Try.prog true _ _ _ (x1.alloc (.cells seB 34))
  generalize x1.alloc (.cells seB 34) = x2 at *
  repeat (first | refine Walk.c rfl ?_ | refine Walk.cRet ?_ | refine Walk.cEnd ?_ | (refine Walk.cReg ?_; simp only [size9_0, size9_1, size9_2, size9_3, size9_4, List.range, List.range.loop]) | (refine Walk.oq ?_; try walk_nrm) | (refine Walk.un ?_; walk_nrm))
  (refine Walk.oa ?_; try walk_nrm)
  have s3 : (x2.alloc (.cells (seH T) 32)).heap.size = T + 3 := by simp [s2]
  have o3 : ∀ b, b < T + 2 → (x2.alloc (.cells (seH T) 32)).heap[b]? = x2.heap[b]? := fun b hb => heap_new_lt _ _ (by omega)
  have d3 : (x2.alloc (.cells (seH T) 32)).heap[T + 2]? = some (.cells (seH T) 32) := s2 ▸ heap_alloc_new x2 (.cells (seH T) 32)
  try simp only [s2]
  change Walk Try.prog true _ _ _ (x2.alloc (.cells (seH T) 32))
  generalize x2.alloc (.cells (seH T) 32) = x3 at *
  repeat (first | refine Walk.c rfl ?_ | refine Walk.cRet ?_ | refine Walk.cEnd ?_ | (refine Walk.cReg ?_; simp only [size9_0, size9_1, size9_2, size9_3, size9_4, List.range, List.range.loop]) | (refine Walk.oq ?_; try walk_nrm) | (refine Walk.un ?_; walk_nrm))
  (refine Walk.oa ?_; try walk_nrm)
  have s4 : (x3.alloc (.cells seS 3)).heap.size = T + 4 := by simp [s3]
  have o4 : ∀ b, b < T + 3 → (x3.alloc (.cells seS 3)).heap[b]? = x3.heap[b]? := fun b hb => heap_new_lt _ _ (by omega)
  have d4 : (x3.alloc (.cells seS 3)).heap[T + 3]? = some (.cells seS 3) := s3 ▸ heap_alloc_new x3 (.cells seS 3)
  try simp only [s3]
  change Walk Try.prog true _ _ _ (x3.alloc (.cells seS 3))
  generalize x3.alloc (.cells seS 3) = x4 at *
  repeat (first | refine Walk.c rfl ?_ | refine Walk.cRet ?_ | refine Walk.cEnd ?_ | (refine Walk.cReg ?_; simp only [size9_0, size9_1, size9_2, size9_3, size9_4, List.range, List.range.loop]) | (refine Walk.oq ?_; try walk_nrm) | (refine Walk.un ?_; walk_nrm))
  refine Walk.callE (ho_of (by conv => lhs; whnf) (by kernel_rfl)) (by rfl) (by decide) rfl Try.func11 (by kernel_rfl) (by rfl) ?_
  walk_nrm
  refine .stop fun d => ⟨_, rfl, fun b hb => ?_, ?_, se_ops ?_ ?_ ?_, fun j z hz => ?_, ?_⟩
  · exact (o4 b (by omega)).trans ((o3 b (by omega)).trans ((o2 b (by omega)).trans (o1 b (by omega))))
  · show T ≤ x4.heap.size
    omega
  · exact (o4 _ (by omega)).trans ((o3 _ (by omega)).trans ((o2 _ (by omega)).trans d1))
  · exact (o4 _ (by omega)).trans ((o3 _ (by omega)).trans d2)
  · exact (o4 _ (by omega)).trans d3
  · rw [Nat.zero_add]
    refine (cell_of (w := x4) d4 j).trans ?_
    have h : (seSl.map (Value.int .i64))[j]? = some (.int .i64 z) := by rw [List.getElem?_map, hz]; rfl
    simpa [seS, seSl] using h
  · intro cells F ord w6 hTr hF0 hF1 hord
    obtain ⟨aa, ac, oa, oc, sa, sc, rfl, n1, n2, n3⟩ := hTr.all
    obtain ⟨b, o, ta0, tc0, rfl, a0, A0⟩ := n3 0 (by decide)
    obtain ⟨b', o', ta1, tc1, e, a1, A1⟩ := n3 1 (by decide)
    cases e
    rw [hF0] at a0 A0
    rw [hF1] at a1 A1
    rw [hord]
    obtain ⟨b0, o0, rfl, k0, v0, _⟩ := A0 0 _ rfl
    obtain ⟨b1, o1', rfl, k1, v1, _⟩ := A1 0 _ rfl
    obtain ⟨sb, so, rfl, t0⟩ := n2 0 _ rfl
    obtain ⟨sb', so', e, t1⟩ := n2 1 _ rfl
    cases e
    simp only [Nat.zero_mul, Nat.add_zero, List.length_cons, List.length_nil, Nat.zero_add] at a0 a1 k0 v0 k1 v1 t0 t1
    simp only [List.length_cons, List.length_nil, Nat.zero_add, Nat.reduceAdd, trC]
    refine Walk.finish (ho_of (by conv => lhs; whnf) (by kernel_rfl)) ?_
    walk_nrm
    (refine Walk.oa ?_; try walk_nrm)
    have s7 : (w6.alloc (.cells #[.slice none 0 0, .slice none 0 0, .slice none 0 0, .bool false] 29)).heap.size = w6.heap.size + 1 := by simp
    have o7 : ∀ b, b < w6.heap.size → (w6.alloc (.cells #[.slice none 0 0, .slice none 0 0, .slice none 0 0, .bool false] 29)).heap[b]? = w6.heap[b]? := fun b hb => heap_new_lt _ _ hb
    have d7 := heap_alloc_new w6 (.cells #[.slice none 0 0, .slice none 0 0, .slice none 0 0, .bool false] 29)
    have hc6 : ∀ {b j : Nat} {v : Value}, w6.cell? ⟨b, j, none⟩ = some v → b < w6.heap.size := fun h => cell_lt' h
    have l1 := hc6 a0
    have l2 := hc6 k0
    have l3 := hc6 k1
    have l4 := hc6 t0
    clear hc6
    generalize hT1 : w6.heap.size = T1 at *
    generalize w6.alloc (.cells #[.slice none 0 0, .slice none 0 0, .slice none 0 0, .bool false] 29) = w7 at *
    refine Walk.storeS 29 (.tmp 1) (.tmp 8) (ho_of (by conv => lhs; whnf) (by kernel_rfl)) (by rfl) (by decide) rfl T1 #[.slice (some ⟨b, o, none⟩) 2 ac, .slice oa 5 oc, .slice (some ⟨sb, so, none⟩) 3 sc, .bool false] _ 29 rfl rfl d7 (by kernel_rfl) (by rfl) (by simp [Value.oneCell']) (hA _) ?_
    have d8 := setRow_self (cells := #[.slice (some ⟨b, o, none⟩) 2 ac, .slice oa 5 oc, .slice (some ⟨sb, so, none⟩) 3 sc, .bool false]) d7
    have o8 : ∀ x, x < T1 → (w7.setRow T1 #[.slice (some ⟨b, o, none⟩) 2 ac, .slice oa 5 oc, .slice (some ⟨sb, so, none⟩) 3 sc, .bool false]).heap[x]? = w6.heap[x]? := fun x hx => (setRow_other _ _ (by omega)).trans (o7 x hx)
    have s8 := setRow_size w7 T1 #[.slice (some ⟨b, o, none⟩) 2 ac, .slice oa 5 oc, .slice (some ⟨sb, so, none⟩) 3 sc, .bool false]
    rw [s7] at s8
    replace s8 := Nat.le_of_eq s8.symm
    generalize w7.setRow T1 #[.slice (some ⟨b, o, none⟩) 2 ac, .slice oa 5 oc, .slice (some ⟨sb, so, none⟩) 3 sc, .bool false] = w8 at *
    have hc8 : ∀ {x j : Nat} {v : Value}, x < T1 → w6.cell? ⟨x, j, none⟩ = some v → w8.cell? ⟨x, j, none⟩ = some v := fun {x j v} hx h => (World.cell?_of_block (a := ⟨x, j, none⟩) (o8 x hx)).trans h
    have C8 : SeCells T1 none oa none ac oc sc b o b0 o0 b1 o1' sb so tc0 tc1 w8 := ⟨d8, hc8 l1 a0, hc8 l1 a1, hc8 l2 k0, hc8 l2 v0, hc8 l3 k1, hc8 l3 v1, hc8 l4 t0, hc8 l4 t1⟩
    clear n1 n2 n3 A0 A1 a0 a1 k0 v0 k1 v1 t0 t1 d1 d2 d3 d4 d7 d8 hTr s1 s2 s3 s4 s7 hT hA hc8
    have x0 : w8.cell? ⟨T1, 0, none⟩ = some (.slice (some ⟨b, o, none⟩) 2 ac) := (cell_of C8.x 0).trans rfl
    have x1' : w8.cell? ⟨T1, 1, none⟩ = some (.slice oa 5 oc) := (cell_of C8.x 1).trans rfl
    have x2' : w8.cell? ⟨T1, 2, none⟩ = some (.slice (some ⟨sb, so, none⟩) 3 sc) := (cell_of C8.x 2).trans rfl
    have a0 := C8.a0
    have a1 := C8.a1
    walk_nrm
    repeat (first | refine Walk.c rfl ?_ | refine Walk.cRet ?_ | refine Walk.cEnd ?_ | (refine Walk.cReg ?_; simp only [size9_0, size9_1, size9_2, size9_3, size9_4, List.range, List.range.loop]) | (refine Walk.oq ?_; try walk_nrm) | (refine Walk.un ?_; walk_nrm))
    refine Walk.callW (Post := NewOut w8) ?_ (ho_of (by conv => lhs; whnf) (by kernel_rfl)) (by rfl) (by decide) rfl Try.func13 (by kernel_rfl) (by rfl) ?_
    · walk_nrm
      exact once_new w8
    rintro v w9 ⟨rfl, O9, Z9⟩
    clear x0 x1' x2' a0 a1
    have hp1 := fun w => run_eql_ptr (P := Try.prog) 35 undOnce (some ⟨w8.heap.size, 0, none⟩) w
    have hp2 := fun w es => ev_eql_ptr (P := Try.prog) 35 undOnce (some ⟨w8.heap.size, 0, none⟩) w es
    simp only [Option.isNone_some] at hp1
    walk_nrm
    repeat (first | refine Walk.c rfl ?_ | refine Walk.cRet ?_ | refine Walk.cEnd ?_ | (refine Walk.cReg ?_; simp only [size9_0, size9_1, size9_2, size9_3, size9_4, List.range, List.range.loop]) | (refine Walk.oq ?_; try walk_nrm) | (refine Walk.un ?_; walk_nrm))
    refine Walk.callW (Post := NewOut w9) ?_ (ho_of (by conv => lhs; whnf) (by kernel_rfl)) (by rfl) (by decide) rfl Try.func25 (by kernel_rfl) (by rfl) ?_
    · walk_nrm
      exact once_box w9
    rintro v w10 ⟨rfl, O10, Z10⟩
    clear hp1 hp2
    have hp1 := fun w => run_eql_ptr (P := Try.prog) 85 undBoxI (some ⟨w9.heap.size, 0, none⟩) w
    have hp2 := fun w es => ev_eql_ptr (P := Try.prog) 85 undBoxI (some ⟨w9.heap.size, 0, none⟩) w es
    simp only [Option.isNone_some] at hp1
    walk_nrm
    repeat (first | refine Walk.c rfl ?_ | refine Walk.cRet ?_ | refine Walk.cEnd ?_ | (refine Walk.cReg ?_; simp only [size9_0, size9_1, size9_2, size9_3, size9_4, List.range, List.range.loop]) | (refine Walk.oq ?_; try walk_nrm) | (refine Walk.un ?_; walk_nrm))
    refine Walk.callW (Post := NewOut w10) ?_ (ho_of (by conv => lhs; whnf) (by kernel_rfl)) (by rfl) (by decide) rfl Try.func26 (by kernel_rfl) (by rfl) ?_
    · walk_nrm
      exact once_lazy w10
    rintro v w11 ⟨rfl, O11, Z11⟩
    clear hp1 hp2
    have hp1 := fun w => run_eql_ptr (P := Try.prog) 87 undLazyI (some ⟨w10.heap.size, 0, none⟩) w
    have hp2 := fun w es => ev_eql_ptr (P := Try.prog) 87 undLazyI (some ⟨w10.heap.size, 0, none⟩) w es
    simp only [Option.isNone_some] at hp1
    have O : ∀ x, x < w8.heap.size → w11.heap[x]? = w8.heap[x]? := fun x hx => (O11 x (by omega)).trans ((O10 x (by omega)).trans (O9 x hx))
    have C := C8.old O
    have O' : ∀ x, x < T1 → w11.heap[x]? = w6.heap[x]? := fun x hx => (O x (by omega)).trans (o8 x hx)
    have Z : T1 ≤ w11.heap.size := by omega
    clear C8 O9 O10 O11 o8 O
    have x0 : w11.cell? ⟨T1, 0, none⟩ = some (.slice (some ⟨b, o, none⟩) 2 ac) := (cell_of C.x 0).trans rfl
    have x2' : w11.cell? ⟨T1, 2, none⟩ = some (.slice (some ⟨sb, so, none⟩) 3 sc) := (cell_of C.x 2).trans rfl
    have x3' : w11.cell? ⟨T1, 3, none⟩ = some (.bool false) := (cell_of C.x 3).trans rfl
    obtain ⟨_, a0, a1, k0, v0, k1, v1, t0, t1⟩ := C
    walk_nrm
    repeat (first | refine Walk.c rfl ?_ | refine Walk.cRet ?_ | refine Walk.cEnd ?_ | (refine Walk.cReg ?_; simp only [size9_0, size9_1, size9_2, size9_3, size9_4, List.range, List.range.loop]) | (refine Walk.oq ?_; try walk_nrm) | (refine Walk.un ?_; walk_nrm))
    refine Walk.on1 rfl rfl Try.func9 rfl (.stop fun d => ⟨rfl, O', Z⟩)
structure Closing (f : FuncId) (t : Tmp) (v : Value) (g : Goroutine) : Prop where
  all : ∃ fr, g = G fr [] ∧ fr.mode = .returning ∧ fr.kind = .normal ∧ fr.defers = [] ∧ fr.fn = f ∧ fr.tmps.getD t undef = v
theorem q5 {α β γ δ ε : Type} {a a' : α} {b b' : β} {c c' : γ} {d d' : δ} {e e' : ε} (h : (a, b, c, d, e) = (a', b', c', d', e')) : a = a' ∧ b = b' ∧ c = c' ∧ d = d' ∧ e = e' := by simpa using h
theorem sets_run (c : Frame) (cs : List Frame) (w : World) : Runs (fun g w' => g = G (c.finish (.bool true)) cs ∧ (∀ b, b < w.heap.size → w'.heap[b]? = w.heap[b]?) ∧ w.heap.size ≤ w'.heap.size) (G (Frame.enter Try.prog 9 #[] .normal) (c :: cs)) w := by
  refine Runs.walk (sets_in c cs w) ?_
  rintro _ w1 ⟨fr, rfl, O1, Z1, I1, hs1, hB⟩
  refine Runs.then (oplay_any 1 (.slice (some ⟨w.heap.size + 2, 0, none⟩) 2 2) 100 (some ⟨w.heap.size + 2, 0, none⟩) (w.heap.size + 2) 0 2 2 (fun _ => rfl) (by decide) (seOa w.heap.size) (fun _ => 1) (fun _ => 1) seOps (some ⟨w.heap.size + 3, 0, none⟩) 5 seSl (by decide) fr (c :: cs) w1 I1 (fun j z hz => ⟨_, _, rfl, hs1 j z hz⟩) fun w' _ => firstOps_some (some ⟨w.heap.size + 2, 0, none⟩) 2 2 w' (Nat.le_refl _) (.inr ⟨_, rfl⟩)) ?_
  rintro _ w2 ⟨cells, H, rfl⟩
  have O2 := H.old
  have Z2 := H.size
  have hT := H.tr
  rw [cellsN1] at hT
  obtain ⟨e1, e2, e3, e4, e5⟩ := q5 (se_run (w1.heap.size + 1))
  unfold sePlay at e1 e2 e3 e4 e5
  rw [e1, e2] at hT
  refine Runs.walk (hB cells _ _ w2 hT e3 e4 e5) ?_
  rintro _ w3 ⟨rfl, O3, Z3⟩
  exact .now ⟨rfl, fun b hb => (O3 b (by omega)).trans ((O2 b (by omega)).trans (O1 b hb)), by omega⟩
theorem tick_facts {p n : Nat} {w : World} (hc : w.heap[p]? = some (.cells #[.int .i64 n] 48)) :
    (w.setCell ⟨p, 0, none⟩ (.int .i64 ((n : Int) + 1))).heap[p]? = some (.cells #[.int .i64 ((n + 1 : Nat) : Int)] 48) ∧ (∀ b, b ≠ p → (w.setCell ⟨p, 0, none⟩ (.int .i64 ((n : Int) + 1))).heap[b]? = w.heap[b]?) ∧ (w.setCell ⟨p, 0, none⟩ (.int .i64 ((n : Int) + 1))).heap.size = w.heap.size := by
  refine ⟨?_, fun b hb => ?_, ?_⟩
  · simp [World.setCell, Array.getElem?_modify, hc]
  · simp [World.setCell, Array.getElem?_modify, Ne.symm hb]
  · simp
theorem lay_facts {b : Nat} {v x : Value} {t : TypeId} {w : World} (hc : w.heap[b]? = some (.cells #[v] t)) :
    (w.setCell ⟨b, 0, none⟩ x).heap[b]? = some (.cells #[x] t) ∧ (∀ c, c ≠ b → (w.setCell ⟨b, 0, none⟩ x).heap[c]? = w.heap[c]?) ∧ (w.setCell ⟨b, 0, none⟩ x).heap.size = w.heap.size := by
  refine ⟨?_, fun c hb => ?_, ?_⟩
  · simp [World.setCell, Array.getElem?_modify, hc]
  · simp [World.setCell, Array.getElem?_modify, Ne.symm hb]
  · simp
noncomputable def reg8_0 : Array Oper := match Try.f8.body with | some (.seq (.region _ ops _) _) => ops | _ => #[]
theorem size8_0 : reg8_0.size = 1 := by kernel_rfl
noncomputable def reg8_1 : Array Oper := match Try.f8.body with | some (.seq _ (.seq (.seq (.region _ ops _) _) _)) => ops | _ => #[]
theorem size8_1 : reg8_1.size = 2 := by kernel_rfl
noncomputable def reg8_2 : Array Oper := match Try.f8.body with | some (.seq _ (.seq (.seq _ (.cond _ (.seq (.region _ ops _) _) _)) _)) => ops | _ => #[]
theorem size8_2 : reg8_2.size = 1 := by kernel_rfl
noncomputable def reg8_3 : Array Oper := match Try.f8.body with | some (.seq _ (.seq _ (.seq (.region _ ops _) _))) => ops | _ => #[]
theorem size8_3 : reg8_3.size = 6 := by kernel_rfl
noncomputable def reg8_4 : Array Oper := match Try.f8.body with | some (.seq _ (.seq _ (.seq _ (.seq (.region _ ops _) _)))) => ops | _ => #[]
theorem size8_4 : reg8_4.size = 9 := by kernel_rfl
noncomputable def reg8_5 : Array Oper := match Try.f8.body with | some (.seq _ (.seq _ (.seq _ (.seq _ (.seq (.seq (.region _ ops _) _) _))))) => ops | _ => #[]
theorem size8_5 : reg8_5.size = 12 := by kernel_rfl
noncomputable def reg8_6 : Array Oper := match Try.f8.body with | some (.seq _ (.seq _ (.seq _ (.seq _ (.seq (.seq _ (.cond _ (.seq (.region _ ops _) _) _)) _))))) => ops | _ => #[]
theorem size8_6 : reg8_6.size = 1 := by kernel_rfl
noncomputable def reg8_7 : Array Oper := match Try.f8.body with | some (.seq _ (.seq _ (.seq _ (.seq _ (.seq _ (.seq (.region _ ops _) _)))))) => ops | _ => #[]
theorem size8_7 : reg8_7.size = 10 := by kernel_rfl
noncomputable def reg8_8 : Array Oper := match Try.f8.body with | some (.seq _ (.seq _ (.seq _ (.seq _ (.seq _ (.seq _ (.seq (.seq (.region _ ops _) _) _))))))) => ops | _ => #[]
theorem size8_8 : reg8_8.size = 14 := by kernel_rfl
noncomputable def reg8_9 : Array Oper := match Try.f8.body with | some (.seq _ (.seq _ (.seq _ (.seq _ (.seq _ (.seq _ (.seq (.seq _ (.cond _ (.seq (.region _ ops _) _) _)) _))))))) => ops | _ => #[]
theorem size8_9 : reg8_9.size = 1 := by kernel_rfl
noncomputable def reg8_10 : Array Oper := match Try.f8.body with | some (.seq _ (.seq _ (.seq _ (.seq _ (.seq _ (.seq _ (.seq _ (.seq (.region _ ops _) _)))))))) => ops | _ => #[]
theorem size8_10 : reg8_10.size = 10 := by kernel_rfl
noncomputable def reg8_11 : Array Oper := match Try.f8.body with | some (.seq _ (.seq _ (.seq _ (.seq _ (.seq _ (.seq _ (.seq _ (.seq _ (.seq (.seq (.region _ ops _) _) _))))))))) => ops | _ => #[]
theorem size8_11 : reg8_11.size = 13 := by kernel_rfl
noncomputable def reg8_12 : Array Oper := match Try.f8.body with | some (.seq _ (.seq _ (.seq _ (.seq _ (.seq _ (.seq _ (.seq _ (.seq _ (.seq (.seq _ (.cond _ (.seq (.region _ ops _) _) _)) _))))))))) => ops | _ => #[]
theorem size8_12 : reg8_12.size = 1 := by kernel_rfl
noncomputable def reg8_13 : Array Oper := match Try.f8.body with | some (.seq _ (.seq _ (.seq _ (.seq _ (.seq _ (.seq _ (.seq _ (.seq _ (.seq _ (.seq (.region _ ops _) _)))))))))) => ops | _ => #[]
theorem size8_13 : reg8_13.size = 9 := by kernel_rfl
noncomputable def reg8_14 : Array Oper := match Try.f8.body with | some (.seq _ (.seq _ (.seq _ (.seq _ (.seq _ (.seq _ (.seq _ (.seq _ (.seq _ (.seq _ (.seq (.region _ ops _) _))))))))))) => ops | _ => #[]
theorem size8_14 : reg8_14.size = 14 := by kernel_rfl
theorem code8_is : Try.f8.body = some (.seq (.region 0 reg8_0 false) (.seq (.seq (.region 1 reg8_1 false) (.cond (.tmp 10 ) (.seq (.region 2 reg8_2 false) (.ret)) (.skip))) (.seq (.region 3 reg8_3 false) (.seq (.region 4 reg8_4 false) (.seq (.seq (.region 5 reg8_5 false) (.cond (.tmp 33 ) (.seq (.region 6 reg8_6 false) (.ret)) (.skip))) (.seq (.region 7 reg8_7 false) (.seq (.seq (.region 8 reg8_8 false) (.cond (.tmp 55 ) (.seq (.region 9 reg8_9 false) (.ret)) (.skip))) (.seq (.region 10 reg8_10 false) (.seq (.seq (.region 11 reg8_11 false) (.cond (.tmp 76 ) (.seq (.region 12 reg8_12 false) (.ret)) (.skip))) (.seq (.region 13 reg8_13 false) (.seq (.region 14 reg8_14 false) (.ret)))))))))))) := by kernel_rfl
def BsBack (fr : Frame) : Prop := ∀ w : World, Walk Try.prog true (DR (fun _ => none)) (fun g w' => Closing 8 4 (.bool true) g ∧ ∀ b, b < w.heap.size → w'.heap[b]? = w.heap[b]?) (G (fr.finish (.bool true)) []) w
theorem bs_in (v s : ByteArray) (w : World) : Walk Try.prog true (DR (fun _ => none)) (fun g w' => ∃ fr, g = G (Frame.enter Try.prog 9 #[] .normal) [fr] ∧ (∃ d, w' = w.at d) ∧ BsBack fr) (G (Frame.enter Try.prog 8 #[.string v, .string s] .normal) []) w := by
  have hA : ∀ b, Apart (fun _ => none) b := fun b => ⟨fun _ _ _ _ h => (by cases h), fun _ _ h => (by cases h)⟩
  have hif1 := run_ifaceSteps
  have hif2 := ev_ifaceSteps
  have hbq : ∀ a : ByteArray, (a.toList == a.toList) = true := fun a => by simp
  rw [enter_at _ Try.func8 code8_is]
  simp only [Try.ntmps8, List.size_toArray, List.length_cons, List.length_nil, Nat.reduceAdd, Nat.reduceSub, Array.replicate_succ, Array.replicate_zero, List.push_toArray, List.append_toArray, List.nil_append, List.cons_append]
  repeat (first | refine Walk.c rfl ?_ | refine Walk.cRet ?_ | refine Walk.cEnd ?_ | (refine Walk.cReg ?_; simp only [size8_0, size8_1, size8_2, size8_3, size8_4, size8_5, size8_6, size8_7, size8_8, size8_9, size8_10, size8_11, size8_12, size8_13, size8_14, List.range, List.range.loop]) | (refine Walk.oq ?_; try walk_nrm) | (refine Walk.un ?_; walk_nrm))
  refine Walk.callE (ho_of (by conv => lhs; whnf) (by kernel_rfl)) (by rfl) (by decide) rfl Try.func9 (by kernel_rfl) (by rfl) ?_
  walk_nrm
  refine .stop fun d => ⟨_, rfl, ⟨d, rfl⟩, ?_⟩
  intro w1
  refine Walk.finish (ho_of (by conv => lhs; whnf) (by kernel_rfl)) ?_
  walk_nrm
  repeat (first | refine Walk.c rfl ?_ | refine Walk.cRet ?_ | refine Walk.cEnd ?_ | (refine Walk.cReg ?_; simp only [size8_0, size8_1, size8_2, size8_3, size8_4, size8_5, size8_6, size8_7, size8_8, size8_9, size8_10, size8_11, size8_12, size8_13, size8_14, List.range, List.range.loop]) | (refine Walk.oq ?_; try walk_nrm) | (refine Walk.un ?_; walk_nrm))
  (refine Walk.oa ?_; try walk_nrm)
  have s4 : (w1.alloc (.cells #[.pointer none] 83)).heap.size = w1.heap.size + 1 := by simp
  have o4 : ∀ b, b < w1.heap.size → (w1.alloc (.cells #[.pointer none] 83)).heap[b]? = w1.heap[b]? := fun b hb => heap_new_lt _ _ hb
  have d4 := heap_alloc_new w1 (.cells #[.pointer none] 83)
  generalize hX : w1.heap.size = X at *
  generalize w1.alloc (.cells #[.pointer none] 83) = w4 at *
  repeat (first | refine Walk.c rfl ?_ | refine Walk.cRet ?_ | refine Walk.cEnd ?_ | (refine Walk.cReg ?_; simp only [size8_0, size8_1, size8_2, size8_3, size8_4, size8_5, size8_6, size8_7, size8_8, size8_9, size8_10, size8_11, size8_12, size8_13, size8_14, List.range, List.range.loop]) | (refine Walk.oq ?_; try walk_nrm) | (refine Walk.un ?_; walk_nrm))
  (refine Walk.oa ?_; try walk_nrm)
  have s5 : (w4.alloc (.cells #[.int .i64 0] 48)).heap.size = X + 2 := by simp [s4]
  have o5 : ∀ b, b < X + 1 → (w4.alloc (.cells #[.int .i64 0] 48)).heap[b]? = w4.heap[b]? := fun b hb => heap_new_lt _ _ (by omega)
  have d5 := heap_alloc_new w4 (.cells #[.int .i64 0] 48)
  rw [s4] at d5
  try simp only [s4]
  generalize w4.alloc (.cells #[.int .i64 0] 48) = w5 at *
  have k5 := (o5 X (by omega)).trans d4
  repeat (first | refine Walk.c rfl ?_ | refine Walk.cRet ?_ | refine Walk.cEnd ?_ | (refine Walk.cReg ?_; simp only [size8_0, size8_1, size8_2, size8_3, size8_4, size8_5, size8_6, size8_7, size8_8, size8_9, size8_10, size8_11, size8_12, size8_13, size8_14, List.range, List.range.loop]) | (refine Walk.oq ?_; try walk_nrm) | (refine Walk.un ?_; walk_nrm))
  obtain ⟨f6, g6, z6⟩ := tick_facts (p := X + 1) (n := 0) d5
  have t6 := ostep_cnt (main := true) (V := fun _ => none) (X + 1) 0 w5 d5 (by decide) (hA _)
  generalize w5.setCell ⟨X + 1, 0, none⟩ (.int .i64 (((0 : Nat) : Int) + 1)) = w6 at *
  have k6 := (g6 X (by omega)).trans k5
  refine Walk.callV (x := .tuple #[noStr, .bool false]) (W := w6) ?_ (ho_of (by conv => lhs; whnf) (by kernel_rfl)) (by rfl) (by decide) rfl Try.func24 (by kernel_rfl) (by rfl) ?_
  · walk_nrm
    exact boxget_none t6 X ((cell_of k6 0).trans rfl)
  clear t6
  have c6 : w6.cell? ⟨X + 1, 0, none⟩ = some (.int .i64 1) := (cell_of f6 0).trans rfl
  unfold noStr
  walk_nrm
  repeat (first | refine Walk.c rfl ?_ | refine Walk.cRet ?_ | refine Walk.cEnd ?_ | (refine Walk.cReg ?_; simp only [size8_0, size8_1, size8_2, size8_3, size8_4, size8_5, size8_6, size8_7, size8_8, size8_9, size8_10, size8_11, size8_12, size8_13, size8_14, List.range, List.range.loop]) | (refine Walk.oq ?_; try walk_nrm) | (refine Walk.un ?_; walk_nrm))
  clear c6
  have s7 : (w6.alloc (.cells #[.string v] 9)).heap.size = X + 3 := by simp [z6, s5]
  have o7 : ∀ b, b < X + 2 → (w6.alloc (.cells #[.string v] 9)).heap[b]? = w6.heap[b]? := fun b hb => heap_new_lt _ _ (by omega)
  have d7 := heap_alloc_new w6 (.cells #[.string v] 9)
  have e6 : w6.heap.size = X + 2 := by omega
  rw [e6] at d7
  have S6 := boxset_first (main := true) (V := fun _ => none) (sv := .iface 46 (.pointer (some ⟨X + 1, 0, none⟩))) (w := w6) (W := (w6.alloc (.cells #[.string v] 9)).setCell ⟨X + 1, 0, none⟩ (.int .i64 (((1 : Nat) : Int) + 1))) X v
  rw [e6] at S6
  generalize w6.alloc (.cells #[.string v] 9) = w7 at *
  have f7 := (o7 (X + 1) (by omega)).trans f6
  have k7 := (o7 X (by omega)).trans k6
  obtain ⟨f8, g8, z8⟩ := tick_facts (p := X + 1) (n := 1) f7
  have t8 := ostep_cnt (main := true) (V := fun _ => none) (X + 1) 1 w7 f7 (by decide) (hA _)
  generalize w7.setCell ⟨X + 1, 0, none⟩ (.int .i64 (((1 : Nat) : Int) + 1)) = w8 at *
  have k8 := (g8 X (by omega)).trans k7
  have d8 := (g8 (X + 2) (by omega)).trans d7
  obtain ⟨l9, m9, z9⟩ := lay_facts (x := .pointer (some ⟨X + 2, 0, none⟩)) k8
  have d9 := (m9 (X + 2) (by omega)).trans d8
  have f9 := (m9 (X + 1) (by omega)).trans f8
  have S6 := S6 t8 ((cell_of k8 0).trans rfl) (frozen_of k8 0) ((hA X).1 _ rfl) d8 ((cell_of d9 0).trans rfl)
  generalize w8.setCell ⟨X, 0, none⟩ (.pointer (some ⟨X + 2, 0, none⟩)) = w9 at *
  refine Walk.callV (x := .tuple #[.string v, .bool true]) (W := w9) ?_ (ho_of (by conv => lhs; whnf) (by kernel_rfl)) (by rfl) (by decide) rfl Try.func22 (by kernel_rfl) (by rfl) ?_
  · walk_nrm
    exact S6
  clear S6 t8
  have c9 : w9.cell? ⟨X + 1, 0, none⟩ = some (.int .i64 2) := (cell_of f9 0).trans rfl
  walk_nrm
  repeat (first | refine Walk.c rfl ?_ | refine Walk.cRet ?_ | refine Walk.cEnd ?_ | (refine Walk.cReg ?_; simp only [size8_0, size8_1, size8_2, size8_3, size8_4, size8_5, size8_6, size8_7, size8_8, size8_9, size8_10, size8_11, size8_12, size8_13, size8_14, List.range, List.range.loop]) | (refine Walk.oq ?_; try walk_nrm) | (refine Walk.un ?_; walk_nrm))
  clear c9
  have e9 : w9.heap.size = X + 3 := by omega
  have s10 : (w9.alloc (.cells #[.string s] 9)).heap.size = X + 4 := by simp [e9]
  have o10 : ∀ b, b < X + 3 → (w9.alloc (.cells #[.string s] 9)).heap[b]? = w9.heap[b]? := fun b hb => heap_new_lt _ _ (by omega)
  have d10 := heap_alloc_new w9 (.cells #[.string s] 9)
  rw [e9] at d10
  have S9 := boxset_again (main := true) (V := fun _ => none) (sv := .iface 46 (.pointer (some ⟨X + 1, 0, none⟩))) (w := w9) (W := (w9.alloc (.cells #[.string s] 9)).setCell ⟨X + 1, 0, none⟩ (.int .i64 (((2 : Nat) : Int) + 1))) X (X + 2) s v (W2 := ((w9.alloc (.cells #[.string s] 9)).setCell ⟨X + 1, 0, none⟩ (.int .i64 (((2 : Nat) : Int) + 1))).setCell ⟨X + 1, 0, none⟩ (.int .i64 (((3 : Nat) : Int) + 1)))
  rw [e9] at S9
  generalize w9.alloc (.cells #[.string s] 9) = w10 at *
  have f10 := (o10 (X + 1) (by omega)).trans f9
  have k10 := (o10 X (by omega)).trans l9
  have v10 := (o10 (X + 2) (by omega)).trans d9
  obtain ⟨f11, g11, z11⟩ := tick_facts (p := X + 1) (n := 2) f10
  have t11 := ostep_cnt (main := true) (V := fun _ => none) (X + 1) 2 w10 f10 (by decide) (hA _)
  generalize w10.setCell ⟨X + 1, 0, none⟩ (.int .i64 (((2 : Nat) : Int) + 1)) = w11 at *
  have k11 := (g11 X (by omega)).trans k10
  have v11 := (g11 (X + 2) (by omega)).trans v10
  have d11 := (g11 (X + 3) (by omega)).trans d10
  obtain ⟨f12, g12, z12⟩ := tick_facts (p := X + 1) (n := 3) f11
  have t12 := ostep_cnt (main := true) (V := fun _ => none) (X + 1) 3 w11 f11 (by decide) (hA _)
  generalize w11.setCell ⟨X + 1, 0, none⟩ (.int .i64 (((3 : Nat) : Int) + 1)) = w12 at *
  have k12 := (g12 X (by omega)).trans k11
  have v12 := (g12 (X + 2) (by omega)).trans v11
  have S9 := S9 t11 ((cell_of k11 0).trans rfl) (frozen_of k11 0) t12 ((cell_of k12 0).trans rfl) d11 v12
  refine Walk.callV (x := .tuple #[.string v, .bool false]) (W := w12) ?_ (ho_of (by conv => lhs; whnf) (by kernel_rfl)) (by rfl) (by decide) rfl Try.func22 (by kernel_rfl) (by rfl) ?_
  · walk_nrm
    exact S9
  clear S9 t11 t12
  have c12 : w12.cell? ⟨X + 1, 0, none⟩ = some (.int .i64 4) := (cell_of f12 0).trans rfl
  walk_nrm
  repeat (first | refine Walk.c rfl ?_ | refine Walk.cRet ?_ | refine Walk.cEnd ?_ | (refine Walk.cReg ?_; simp only [size8_0, size8_1, size8_2, size8_3, size8_4, size8_5, size8_6, size8_7, size8_8, size8_9, size8_10, size8_11, size8_12, size8_13, size8_14, List.range, List.range.loop]) | (refine Walk.oq ?_; try walk_nrm) | (refine Walk.un ?_; walk_nrm))
  clear c12
  obtain ⟨f13, g13, z13⟩ := tick_facts (p := X + 1) (n := 4) f12
  have t13 := ostep_cnt (main := true) (V := fun _ => none) (X + 1) 4 w12 f12 (by decide) (hA _)
  generalize w12.setCell ⟨X + 1, 0, none⟩ (.int .i64 (((4 : Nat) : Int) + 1)) = w13 at *
  have k13 := (g13 X (by omega)).trans k12
  have v13 := (g13 (X + 2) (by omega)).trans v12
  refine Walk.callV (x := .tuple #[.string v, .bool true]) (W := w13) ?_ (ho_of (by conv => lhs; whnf) (by kernel_rfl)) (by rfl) (by decide) rfl Try.func24 (by kernel_rfl) (by rfl) ?_
  · walk_nrm
    exact boxget_some t13 X (X + 2) v ((cell_of k13 0).trans rfl) v13
  clear t13
  have c13 : w13.cell? ⟨X + 1, 0, none⟩ = some (.int .i64 5) := (cell_of f13 0).trans rfl
  have old : ∀ b, b < X → w13.heap[b]? = w1.heap[b]? := fun b hb => by rw [g13 b (by omega), g12 b (by omega), g11 b (by omega), o10 b (by omega), m9 b (by omega), g8 b (by omega), o7 b (by omega), g6 b (by omega), o5 b (by omega), o4 b hb]
  walk_nrm
  repeat (first | refine Walk.c rfl ?_ | refine Walk.cRet ?_ | refine Walk.cEnd ?_ | (refine Walk.cReg ?_; simp only [size8_0, size8_1, size8_2, size8_3, size8_4, size8_5, size8_6, size8_7, size8_8, size8_9, size8_10, size8_11, size8_12, size8_13, size8_14, List.range, List.range.loop]) | (refine Walk.oq ?_; try walk_nrm) | (refine Walk.un ?_; walk_nrm))
  refine .stop fun d => ⟨⟨_, rfl, rfl, rfl, rfl, rfl, ?_⟩, fun b hb => old b hb⟩
  rfl
theorem bs_all (v s : ByteArray) (W : World) : Runs (fun g w' => Closing 8 4 (.bool true) g ∧ ∀ b, b < W.heap.size → w'.heap[b]? = W.heap[b]?) (G (Frame.enter Try.prog 8 #[.string v, .string s] .normal) []) W := by
  refine Runs.walk (bs_in v s W) ?_
  rintro _ _ ⟨fr1, rfl, ⟨d1, rfl⟩, hB1⟩
  refine Runs.then (sets_run fr1 [] (W.at d1)) ?_
  rintro _ w1 ⟨rfl, O1, Z1⟩
  refine Runs.walk (hB1 w1) ?_
  rintro _ w2 ⟨hC, hO⟩
  exact .now ⟨hC, fun b hb => (hO b (Nat.lt_of_lt_of_le hb Z1)).trans (O1 b hb)⟩
section
open Go.ChangeShapes Go.WideShapes Go.ChangeAt Go.Joins Go.Deep
theorem prog_own : ownKnob Try.prog.godebug = none := by kernel_rfl
def Left (W : World) (v : Value) (w' : World) : Prop := v = .bool true ∧ w'.os = W.os ∧ w'.output = W.output ∧ ∀ b, b < W.heap.size → w'.heap[b]? = W.heap[b]?
theorem Left.kept {W w' : World} {v : Value} (h : Left W v w') (may : MemPlace → Prop) : W.keptBut w' may := by
  refine ⟨h.2.1, h.2.2.1, fun i hi => ?_⟩
  rw [h.2.2.2 i hi]
  split <;> simp_all
theorem und4_is : Try.prog.underlying 4 = some .bool := by kernel_rfl
theorem stepG_done {P : Program} {fr : Frame} {w : World} {fn : Func} {v : Value} (hm : fr.mode = .returning) (hn : fr.kind = .normal) (hd : fr.defers = []) (hf : P.funcs[fr.fn]? = some fn) (hr : (results fn fr.tmps).run P w = .ok v w) (he : (results fn fr.tmps).events P w #[] = #[]) (hi : P.inits.idxOf? fr.fn = none) :
    stepG P true (G fr []) w = .ended (.done v) w #[] := by
  simp [G, stepG, unwind, doReturn, hm, hd, hn, hf, hr, he, hi, GStep.after, seen_none]
theorem run_claim {f : FuncId} {fn : Func} {args : Array Value} {W : World} {Post : Value → World → Prop} {v : Value} {t : Tmp} (hf : Try.prog.funcs[f]? = some fn) (hres : fn.results = #[.tmp t]) (hi : Try.prog.inits.idxOf? f = none)
    (h : Runs (fun g w' => Closing f t v g ∧ (OsSame W w' → ∀ d, Post v (w'.at d))) (G (Frame.enter Try.prog f args .normal) []) W) :
    ∃ M last o w' t', runNT Try.prog (M + 1) (solo (G (Frame.enter Try.prog f args .normal) []) W) #[] = (.ended o w', t') ∧ Go.runN Try.prog M (solo (G (Frame.enter Try.prog f args .normal) []) W) = .next last ∧ step Try.prog last = .ended o w' ∧ Go.Conc.Good Try.prog Post last o w' t' := by
  rw [solo_eq_crowd]
  have A0 := at_begin (P := Try.prog) (gs := #[G (Frame.enter Try.prog f args .normal) []]) (a := G (Frame.enter Try.prog f args .normal) []) (sl := none) (w := W) rfl (leavers_one Try.prog _) past_nil
  obtain ⟨N1, m1, T1, r1, ⟨nG, g1, w1, _, ⟨⟨fr, rfl, hm, hn, hd, hfn, hv⟩, hP⟩, A1⟩, ho⟩ := h 1 _ _ (Nat.le_refl _) A0
  obtain ⟨gs, sl, q, B, rfl, _, hg0, hL, hPast⟩ := A1.ends (fun _ => rfl)
  have hP := hP ho
  have hs : ∀ d, stepG Try.prog true (G fr []) (w1.at d) = .ended (.done v) (w1.at d) #[] := fun d =>
    stepG_done hm hn hd (by rw [hfn]; exact hf) (by rw [results_tmp hres, hv]) (events_results_tmp hres _ _) (by rw [hfn]; exact hi)
  have hG : Goes Try.prog true AtRel (fun _ _ es => ∀ e ∈ es, EvL (fun _ => False) B e) (AtEnd Try.prog (fun _ => False) B Post) 0 (G fr []) w1 := by
    rintro _ ⟨d, rfl⟩
    exact ⟨rfl, v, #[], hs d, by simp, hP d⟩
  obtain ⟨M8, last, o, w', t', e1, e2, e3, e4⟩ := beside_ends (P := Try.prog) (Post := Post) (sl := sl) (fun _ _ _ h => h) hg0 hL hPast hG
  refine ⟨N1 + M8, last, o, w', t', ?_, ?_, e3, e4⟩
  · rw [Nat.add_assoc, runNT_add, r1]; exact e1
  · rw [Go.runN_add, ← runNT_fst Try.prog _ _ #[], r1]; exact e2
end
section
open Go.Conc Go.RowKit Go.Relay Go.ChangeShapes Go.WideShapes Go.ChangeAt Go.Joins Go.Deep
theorem laid_out : laidOutB Try.prog = true := by kernel_rfl
section
variable {H : Type} {enc : TypeId × Value → H} {W w' : World}
theorem Left.stays {r : Value} {t : TypeId} {v : Value} {d : DataW H} {ps : List MemPlace} (K : Left W r w') (hr : Try.prog.readableRec t = true) (hrow : t < Try.prog.types.size) (h : DataW.Trod enc Try.prog W 0 (fun _ => true) true t v d ps) (hlt : ∀ x ∈ ps, x.block < W.heap.size) :
    DataW.Trod enc Try.prog w' 0 (fun b => decide (b < W.heap.size)) true t v d ps :=
  WideElems.Trod_stays laid_out hr hrow h (fun x hx => by
    have hb := K.2.2.2 x.block (hlt x hx)
    cases x with
    | cell b o => exact World.cell?_of_block (w := W) (a := ⟨b, o, none⟩) hb
    | map b => exact hb) (fun x hx => by simpa using hlt x hx)
end
end
section
open Go.ChangeShapes Go.WideShapes Go.ChangeAt Go.Joins Go.Deep
theorem onceBoxSteps_lifted (os : Os) (started : os.Started) (H : Type) (enc : TypeId × Value → H) :
    ReturnsInLeavingWide {} Try.checked os 8 .any (Rows.onceBoxStepsSpec.pre6 enc Try.prog Try.f8 Rows.onceBoxStepsRow.domain false) (Rows.onceBoxStepsSpec.post enc Try.prog Try.f8 false true false false) := by
  refine returnsInLeavingWide_of_change_sized (C := Try.checked) prog_own started Try.func8
    (ChangeSpec.witness6 (enc := enc) (C := Try.checked) false ⟨#[], #[.string ⟨#[]⟩, .string ⟨#[]⟩], []⟩ 8 (by kernel_rfl) (by kernel_rfl) (by kernel_rfl) (by kernel_rfl)) ?_
  intro W base args ds gs before hval0 hW _ hsz0 _
  have hval : ∀ (j : Nat) t v, Try.f8.params[j]? = some t → args[j]? = some v → Value.okWide Try.prog W .any base t v := hval0
  have hW' := hW
  obtain ⟨p, q, hA0, hV, rfl, _, _⟩ := hW
  have hA : DataW.TrodAll enc Try.prog W 0 (fun _ => true) true Try.f8.params.toList args.toList ds p := hA0
  rw [Try.params8] at hA hval
  obtain ⟨v0, v1, d0, d1, p0, p1, rfl, rfl, rfl, h0, h1⟩ := trodAll_two hA
  obtain ⟨rfl, rfl⟩ := trodVars_none hV
  have hlt := hW'.lt
  obtain ⟨x, rfl⟩ := okWide_string (t := 9) (by kernel_rfl) (hval 0 9 v0 rfl rfl)
  obtain ⟨y, rfl⟩ := okWide_string (t := 9) (by kernel_rfl) (hval 1 9 v1 rfl rfl)
  clear hA0 hval0 hsz0
  simp only [List.append_nil] at hW' hlt
  obtain ⟨M, last, o, w', t', r1, r2, r3, r4⟩ := run_claim (Post := Left W) (t := 4) Try.func8 rfl (by kernel_rfl) (Runs.then (bs_all x y W) fun g w' ⟨hC, hO⟩ => .now ⟨hC, fun ho d => ⟨rfl, ho.1, ho.2, hO⟩⟩)
  refine ⟨M, last, o, w', t', r1, r2, r3, r4.mono fun v hF => ?_⟩
  have hk : Left W (.bool true) w' := ⟨rfl, hF.2⟩
  obtain rfl : v = .bool true := hF.1
  exact ⟨_, _, _, [], _, [], hW', trodAll_mk1 (shut_bool und4_is true), trodAll_mk2 (hk.stays (by kernel_rfl) (of_decide_eq_true (by kernel_rfl)) h0 fun x hx => hlt x (by simp [hx])) (hk.stays (by kernel_rfl) (of_decide_eq_true (by kernel_rfl)) h1 fun x hx => hlt x (by simp [hx])), rfl, hk.kept _, fun h => by cases h⟩
theorem onceBoxSteps_holds : Rows.OnceBoxStepsSaid :=
  OpenClaim.holds_of_wide_leaving 8 Try.f8 rfl rfl rfl rfl rfl rfl rfl ⟨rfl, rfl, rfl, rfl, rfl⟩ rfl rfl rfl rfl rfl (by kernel_rfl) Try.func8 (by kernel_rfl)
    (of_decide_eq_true (by kernel_rfl)) (by unfold Func.isWrapper; first | (rw [if_pos (by decide +kernel)]; kernel_rfl) | (rw [if_neg (by decide +kernel)]; exact ⟨rfl, rfl⟩))
    (fun os started H enc _ => onceBoxSteps_lifted os started H enc)
end
end Go.Proofs.Ytdcjgmlgmjjogaa
