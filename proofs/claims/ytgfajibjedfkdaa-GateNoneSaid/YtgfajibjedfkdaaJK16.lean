/- Part 16. -/
import Derived.Test.YtgfajibjedfkdaaJK4
import Derived.Test.YtgfajibjedfkdaaJK10
import Derived.Test.YtgfajibjedfkdaaJK11
import Derived.Test.YtgfajibjedfkdaaJK14
import Derived.Test.YtgfajibjedfkdaaJK15
import Derived.LaidEql
import Derived.Laws.CopyRow
import Derived.Conc.AppendEvents
set_option linter.unusedSimpArgs false
set_option linter.unusedVariables false
set_option linter.unusedVariables false
set_option maxHeartbeats 8000000
set_option maxRecDepth 100000
namespace Go.Relay
section
open Go.Conc
variable {P : Program}
theorem same_addr (a : Addr) (w : World) (es : Array Event) : (samePointer (some a) (some a)).run P w = .ok true w ∧ (samePointer (some a) (some a)).events P w es = es := by
  constructor <;> simp [samePointer, sameAddr]
theorem same_other {a b : Addr} {w : World} {ca cb : Array Value} {ta tb : TypeId} (hne : a ≠ b) (ha : w.heap[a.block]? = some (.cells ca ta)) (hb : w.heap[b.block]? = some (.cells cb tb)) (es : Array Event) : (samePointer (some a) (some b)).run P w = .ok false w ∧ (samePointer (some a) (some b)).events P w es = es := by
  by_cases hbl : a.block = b.block
  · constructor <;> simp [samePointer, sameAddr, hbl, hne]
  · constructor <;> simp [samePointer, sameAddr, hbl, World.frozen?, ha, hb, noView, viewAt, World.shape?, mayBeOne, stringish, Result.andThen, Result.evThen]
theorem eqIn_ptr_same2 (d : Nat) (t : TypeId) (a : Addr) (w : World) (es : Array Event) {e} {j : TypeInfo} (hu : P.underlying t = some (.pointer e)) (he : P.info? e = some j) : (Op.equalIn (d + 1) t (.pointer (some a)) (.pointer (some a))).run P w = .ok true w ∧ (Op.equalIn (d + 1) t (.pointer (some a)) (.pointer (some a))).events P w es = es := by
  constructor <;> simp [Op.equalIn, run_underlying hu, sizeOf, typeInfo, he, sameAddr]
end
end Go.Relay
namespace Go.Proofs.Ytgfajibjedfkdaa
open Go.Conc Go.RowKit Go.Relay
open Go.ConcN (upd upd_ne upd_same)
section
theorem undPL : Try.prog.underlying 91 = some (.pointer 213) := by kernel_rfl
theorem undUP : Try.prog.underlying 93 = some .unsafePointer := by kernel_rfl
theorem szL : (Try.prog.info? 213).map (fun i => decide (i.size = 0)) = some false := by kernel_rfl
theorem liesL : liesAt Try.prog Try.prog.depth 213 (2 / Try.prog.cellsOf 213) 0 213 1 = true := by kernel_rfl
theorem infoL : ∃ ti, Try.prog.info? 213 = some ti := Option.isSome_iff_exists.1 (by kernel_rfl)
theorem undBoxL : Try.prog.underlying 177 = some (.pointer 97) := by kernel_rfl
def PtrOK (x : Option Nat) (w : World) : Prop := ∀ p, x = some p → ∃ arr : Array Value, w.heap[p]? = some (.cells arr 213) ∧ arr.size = 2
theorem HlI.ptr {h : Hl} {w : World} (H : HlI h w) : PtrOK h.p w := fun p e => ⟨_, H.blk p e, rfl⟩
theorem cTo {x : Option Nat} {w : World} (hx : PtrOK x w) (d : Nat) (es : Array Event) : (convert 91 93 (ptrV x)).run Try.prog (w.at d) = .ok (ptrV x) (w.at d) ∧ (convert 91 93 (ptrV x)).events Try.prog (w.at d) es = es := by
  cases x with
  | none => exact conv_to_nil undPL undUP _ _
  | some p =>
    obtain ⟨arr, hb, hs⟩ := hx p rfl
    exact conv_to (w := w.at d) undPL undUP szL hb (by omega) es
theorem cOf {x : Option Nat} {w : World} (hx : PtrOK x w) (d : Nat) (es : Array Event) : (convert 93 91 (ptrV x)).run Try.prog (w.at d) = .ok (ptrV x) (w.at d) ∧ (convert 93 91 (ptrV x)).events Try.prog (w.at d) es = es := by
  cases x with
  | none => exact conv_of_nil undUP undPL _ _
  | some p =>
    obtain ⟨arr, hb, hs⟩ := hx p rfl
    obtain ⟨ti, hi⟩ := infoL
    exact conv_of (w := w.at d) undUP undPL hb hs liesL hi es
theorem sameP_is (x : Option Nat) (w : World) (es : Array Event) : (samePointer (x.map fun b => (⟨b, 0, none⟩ : Addr)) (x.map fun b => ⟨b, 0, none⟩)).run Try.prog w = .ok true w ∧ (samePointer (x.map fun b => (⟨b, 0, none⟩ : Addr)) (x.map fun b => ⟨b, 0, none⟩)).events Try.prog w es = es := by
  cases x with
  | none => constructor <;> simp [samePointer]
  | some p => exact same_addr _ _ _
theorem sameP_ne {x y : Option Nat} {w : World} (hne : x ≠ y) (hx : PtrOK x w) (hy : PtrOK y w) (d : Nat) (es : Array Event) : (samePointer (x.map fun b => (⟨b, 0, none⟩ : Addr)) (y.map fun b => ⟨b, 0, none⟩)).run Try.prog (w.at d) = .ok false (w.at d) ∧ (samePointer (x.map fun b => (⟨b, 0, none⟩ : Addr)) (y.map fun b => ⟨b, 0, none⟩)).events Try.prog (w.at d) es = es := by
  cases x with
  | none =>
    cases y with
    | none => exact absurd rfl hne
    | some q => constructor <;> simp [samePointer]
  | some p =>
    cases y with
    | none => constructor <;> simp [samePointer]
    | some q =>
      obtain ⟨a1, h1, _⟩ := hx p rfl
      obtain ⟨a2, h2, _⟩ := hy q rfl
      exact same_other (w := w.at d) (fun e => hne (by cases e; rfl)) h1 h2 es
section
variable {main : Bool} {V : Nat → Option Wait}
noncomputable def reg177_0 := rg Try.f177.body [0]
noncomputable def reg177_1 := rg Try.f177.body [1, 0]
theorem z177 : List.range reg177_0.size = [0] ∧ List.range reg177_1.size = [0, 1, 2, 3, 4, 5] := by refine ⟨?_, ?_⟩ <;> kernel_rfl
theorem code177_is : Try.f177.body = some (.seq (.region 0 reg177_0 false) (.seq (.region 1 reg177_1 false) (.ret))) := by kernel_rfl
theorem loadL (b q : Nat) (x : Option Nat) (w : World) (hc : w.cell? ⟨b, q, none⟩ = some (ptrV x)) (hx : PtrOK x w) : CallV Try.prog main V 177 #[.pointer (some ⟨b, q, none⟩)] w (ptrV x) w := by
  have hv1 := fun d => (cOf hx d #[]).1
  have hv2 := fun d es => (cOf hx d es).2
  refine callW_in Try.func177 code177_is fun fr cs => ?_
  simp only [Try.ntmps177, ez, Nat.reduceAdd, Nat.reduceSub]
  repeat (first | refine Walk.cx ?_ | (refine Walk.cReg ?_; simp only [z177]) | (refine Walk.oq ?_; try walk_nrm) | (refine Walk.un ?_; walk_nrm))
  refine Walk.evs (fun _ => #[⟨.cell ⟨b, q, none⟩, false, true⟩]) rfl (fun d => stepG_loadp (w := w.at d) (v := x.map fun b => ⟨b, 0, none⟩) (ho_of (by conv => lhs; whnf) (by kernel_rfl)) (by rfl) (by decide) rfl Try.func178 (by kernel_rfl) (by rfl) (by kernel_rfl) (by kernel_rfl) rfl hc) (fun d e he => by simp at he; subst he; exact evR_read _ _) ?_
  change Walk _ _ _ _ (G (Frame.at _ (Act.put _ _ (ptrV x)) _) _) _
  walk_nrm
  repeat (first | refine Walk.cx ?_ | (refine Walk.cReg ?_; simp only [z177]) | (refine Walk.oq ?_; try walk_nrm) | (refine Walk.un ?_; walk_nrm))
  exact Walk.ret1 rfl rfl Try.func177 rfl fun d => ⟨rfl, d, rfl⟩
noncomputable def reg121_0 := rg Try.f121.body [0]
noncomputable def reg121_1 := rg Try.f121.body [1, 0]
theorem z121 : List.range reg121_0.size = [0] ∧ List.range reg121_1.size = [0, 1, 2, 3, 4, 5, 6, 7, 8] := by refine ⟨?_, ?_⟩ <;> kernel_rfl
theorem code121_is : Try.f121.body = some (.seq (.region 0 reg121_0 false) (.seq (.region 1 reg121_1 false) (.ret))) := by kernel_rfl
theorem casL_hit (b q : Nat) (x y : Option Nat) (w : World) (hc : w.cell? ⟨b, q, none⟩ = some (ptrV x)) (hz : w.frozen? ⟨b, q, none⟩ = false) (hf : Free V ⟨b, q, none⟩) (hx : PtrOK x w) (hy : PtrOK y w) : CallV Try.prog main V 121 #[.pointer (some ⟨b, q, none⟩), ptrV x, ptrV y] w (.bool true) (w.setCell ⟨b, q, none⟩ (ptrV y)) := by
  have hv1 := fun d => (cTo hx d #[]).1
  have hv2 := fun d es => (cTo hx d es).2
  have hv3 := fun d => (cTo hy d #[]).1
  have hv4 := fun d es => (cTo hy d es).2
  refine callW_in Try.func121 code121_is fun fr cs => ?_
  simp only [Try.ntmps121, ez, Nat.reduceAdd, Nat.reduceSub]
  repeat (first | refine Walk.cx ?_ | (refine Walk.cReg ?_; simp only [z121]) | (refine Walk.oq ?_; try walk_nrm) | (refine Walk.un ?_; walk_nrm))
  refine Walk.turn (W := w.setCell ⟨b, q, none⟩ (ptrV y)) rfl (fun d => stepG_casp_hit (w := w.at d) (v := x.map fun b => ⟨b, 0, none⟩) (old := x.map fun b => ⟨b, 0, none⟩) (n := y.map fun b => ⟨b, 0, none⟩) (ho_of (by conv => lhs; whnf) (by kernel_rfl)) (by rfl) (by decide) rfl Try.func144 (by kernel_rfl) (by rfl) (by kernel_rfl) (by kernel_rfl) (fun w' es => sameP_is x w' es) rfl rfl rfl hc hz) (fun d => DR.set' hf hc d _ (evR_rw hf)) ?_
  walk_nrm
  repeat (first | refine Walk.cx ?_ | (refine Walk.cReg ?_; simp only [z121]) | (refine Walk.oq ?_; try walk_nrm) | (refine Walk.un ?_; walk_nrm))
  exact Walk.ret1 rfl rfl Try.func121 rfl fun d => ⟨rfl, d, rfl⟩
theorem casL_miss (b q : Nat) (v x y : Option Nat) (w : World) (hc : w.cell? ⟨b, q, none⟩ = some (ptrV v)) (hz : w.frozen? ⟨b, q, none⟩ = false) (hne : v ≠ x) (hv : PtrOK v w) (hx : PtrOK x w) (hy : PtrOK y w) : CallV Try.prog main V 121 #[.pointer (some ⟨b, q, none⟩), ptrV x, ptrV y] w (.bool false) w := by
  have hv1 := fun d => (cTo hx d #[]).1
  have hv2 := fun d es => (cTo hx d es).2
  have hv3 := fun d => (cTo hy d #[]).1
  have hv4 := fun d es => (cTo hy d es).2
  have hss := fun d es => sameP_ne hne hv hx d es
  clear hne
  refine callW_in Try.func121 code121_is fun fr cs => ?_
  simp only [Try.ntmps121, ez, Nat.reduceAdd, Nat.reduceSub]
  repeat (first | refine Walk.cx ?_ | (refine Walk.cReg ?_; simp only [z121]) | (refine Walk.oq ?_; try walk_nrm) | (refine Walk.un ?_; walk_nrm))
  refine Walk.evs (fun _ => #[⟨.cell ⟨b, q, none⟩, false, true⟩]) rfl (fun d => stepG_casp_miss (w := w.at d) (v := v.map fun b => ⟨b, 0, none⟩) (old := x.map fun b => ⟨b, 0, none⟩) (n := y.map fun b => ⟨b, 0, none⟩) (ho_of (by conv => lhs; whnf) (by kernel_rfl)) (by rfl) (by decide) rfl Try.func144 (by kernel_rfl) (by rfl) (by kernel_rfl) (by kernel_rfl) (fun es => hss d es) rfl rfl rfl hc hz) (fun d e he => by simp at he; subst he; exact evR_read _ _) ?_
  walk_nrm
  repeat (first | refine Walk.cx ?_ | (refine Walk.cReg ?_; simp only [z121]) | (refine Walk.oq ?_; try walk_nrm) | (refine Walk.un ?_; walk_nrm))
  exact Walk.ret1 rfl rfl Try.func121 rfl fun d => ⟨rfl, d, rfl⟩
noncomputable def reg120_0 := rg Try.f120.body [0]
noncomputable def reg120_1 := rg Try.f120.body [1, 0, 0]
noncomputable def reg120_2 := rg Try.f120.body [1, 0, 1, 0, 0]
noncomputable def reg120_3 := rg Try.f120.body [1, 0, 1, 0, 1, 0]
noncomputable def reg120_4 := rg Try.f120.body [1, 1, 0]
theorem z120 : List.range reg120_0.size = [0] ∧ List.range reg120_1.size = [0, 1] ∧ List.range reg120_2.size = [0] ∧ List.range reg120_3.size = [0, 1] ∧ List.range reg120_4.size = [0, 1, 2, 3, 4] := by refine ⟨?_, ?_, ?_, ?_, ?_⟩ <;> kernel_rfl
theorem code120_is : Try.f120.body = some (.seq (.region 0 reg120_0 false) (.seq (.seq (.region 1 reg120_1 false) (.cond (.tmp 5 ) (.seq (.region 2 reg120_2 false) (.seq (.region 3 reg120_3 false) (.ret))) (.skip))) (.seq (.region 4 reg120_4 false) (.ret)))) := by kernel_rfl
theorem get_l (h : Hl) (w : World) (H : HlI h w) : CallV Try.prog main V 120 #[ptrV h.p] w h.sl w := by
  obtain ⟨p, sl, l⟩ := h
  cases p with
  | none =>
    obtain ⟨rfl, rfl⟩ := H.no rfl
    have hp1 := fun w => run_eql_ptr (P := Try.prog) 91 undPL none w
    have hp2 := fun w es => ev_eql_ptr (P := Try.prog) 91 undPL none w es
    simp only [Option.isNone_none] at hp1
    clear H
    simp only [ptrV, Option.map_none]
    refine callW_in Try.func120 code120_is fun fr cs => ?_
    simp only [Try.ntmps120, ez, Nat.reduceAdd, Nat.reduceSub]
    repeat (first | refine Walk.cx ?_ | (refine Walk.cReg ?_; simp only [z120]) | (refine Walk.oq ?_; try walk_nrm) | (refine Walk.un ?_; walk_nrm))
    exact Walk.ret1 rfl rfl Try.func120 rfl fun d => ⟨rfl, d, rfl⟩
  | some b =>
    have hb := H.blk b rfl
    have c0 := (cell_of hb 0).trans rfl
    have hp1 := fun w => run_eql_ptr (P := Try.prog) 91 undPL (some ⟨b, 0, none⟩) w
    have hp2 := fun w es => ev_eql_ptr (P := Try.prog) 91 undPL (some ⟨b, 0, none⟩) w es
    simp only [Option.isNone_some] at hp1
    clear H hb
    simp only [ptrV, Option.map_some]
    refine callW_in Try.func120 code120_is fun fr cs => ?_
    simp only [Try.ntmps120, ez, Nat.reduceAdd, Nat.reduceSub]
    repeat (first | refine Walk.cx ?_ | (refine Walk.cReg ?_; simp only [z120]) | (refine Walk.oq ?_; try walk_nrm) | (refine Walk.un ?_; walk_nrm))
    exact Walk.ret1 rfl rfl Try.func120 rfl fun d => ⟨rfl, d, rfl⟩
def heldV (bx : Value) (x : Option Nat) : Value := .agg #[bx, ptrV x]
noncomputable def reg92_0 := rg Try.f92.body [0]
noncomputable def reg92_1 := rg Try.f92.body [1, 0]
theorem z92 : List.range reg92_0.size = [0, 1] ∧ List.range reg92_1.size = [0, 1, 2, 3] := by refine ⟨?_, ?_⟩ <;> kernel_rfl
theorem code92_is : Try.f92.body = some (.seq (.region 0 reg92_0 false) (.seq (.region 1 reg92_1 false) (.ret))) := by kernel_rfl
theorem held_w (h : Hl) (bx : Option Addr) (w : World) (H : HlI h w) : CallW Try.prog main V 92 #[heldV (.pointer bx) h.p] w (fun v w' => v = h.sl ∧ (∀ b, b < w.heap.size → w'.heap[b]? = w.heap[b]?) ∧ w.heap.size ≤ w'.heap.size) := by
  obtain ⟨q, hq⟩ : ∃ q, h.p.map (fun b => (⟨b, 0, none⟩ : Addr)) = q := ⟨_, rfl⟩
  have d1 := heap_alloc_new w (.cells #[.pointer bx, .pointer q] 179)
  have s1 : (w.alloc (.cells #[.pointer bx, .pointer q] 179)).heap.size = w.heap.size + 1 := by simp
  have o1 : ∀ b, b < w.heap.size → (w.alloc (.cells #[.pointer bx, .pointer q] 179)).heap[b]? = w.heap[b]? := fun b hb => heap_new_lt _ _ hb
  have hg := get_l (main := main) (V := V) h (w.alloc (.cells #[.pointer bx, .pointer q] 179)) (H.same fun b hb => o1 b (H.lt hb))
  clear H
  unfold heldV
  unfold ptrV at hg ⊢
  rw [hq] at hg ⊢
  generalize h.sl = sl at *
  clear hq
  refine callW_in Try.func92 code92_is fun fr cs => ?_
  simp only [Try.ntmps92, ez, Nat.reduceAdd, Nat.reduceSub]
  repeat (first | refine Walk.cx ?_ | (refine Walk.cReg ?_; simp only [z92]) | (refine Walk.oq ?_; try walk_nrm) | (refine Walk.un ?_; walk_nrm))
  (refine Walk.oa ?_; try walk_nrm)
  generalize hw1 : w.alloc (.cells #[.pointer bx, .pointer q] 179) = w1 at *
  have c1 := (cell_of d1 1).trans rfl
  clear hw1
  repeat (first | refine Walk.cx ?_ | (refine Walk.cReg ?_; simp only [z92]) | (refine Walk.oq ?_; try walk_nrm) | (refine Walk.un ?_; walk_nrm))
  refine Walk.callV (x := sl) (W := w1) ?_ (ho_of (by conv => lhs; whnf) (by kernel_rfl)) (by rfl) (by decide) rfl Try.func120 (by kernel_rfl) (by rfl) ?_
  · walk_nrm
    exact hg
  walk_nrm
  repeat (first | refine Walk.cx ?_ | (refine Walk.cReg ?_; simp only [z92]) | (refine Walk.oq ?_; try walk_nrm) | (refine Walk.un ?_; walk_nrm))
  exact Walk.on1 rfl rfl Try.func92 rfl (.stop fun d => ⟨_, ⟨rfl, fun b hb => o1 b hb, by show w.heap.size ≤ w1.heap.size; omega⟩, rfl⟩)
end
end
section
noncomputable def reg119_0 := rg Try.f119.body [0]
noncomputable def reg119_1 := rg Try.f119.body [1, 0, 0]
noncomputable def reg119_2 := rg Try.f119.body [1, 0, 1, 0, 0, 0]
noncomputable def reg119_3 := rg Try.f119.body [1, 0, 1, 0, 0, 1, 1, 0, 0, 0]
noncomputable def reg119_4 := rg Try.f119.body [1, 0, 1, 0, 0, 1, 1, 0, 0, 1, 0]
noncomputable def reg119_5 := rg Try.f119.body [1, 0, 1, 0, 0, 1, 1, 0, 0, 1, 1, 0, 0]
noncomputable def reg119_6 := rg Try.f119.body [1, 0, 1, 0, 0, 1, 1, 1]
noncomputable def reg119_7 := rg Try.f119.body [1, 1, 0]
theorem z119 : List.range reg119_0.size = [0] ∧ List.range reg119_1.size = [0, 1, 2] ∧ List.range reg119_2.size = [0] ∧ List.range reg119_3.size = [0, 1] ∧ List.range reg119_4.size = [0, 1, 2, 3, 4, 5] ∧ List.range reg119_5.size = [0, 1] ∧ List.range reg119_6.size = [0, 1] ∧ List.range reg119_7.size = [0] := by refine ⟨?_, ?_, ?_, ?_, ?_, ?_, ?_, ?_⟩ <;> kernel_rfl
theorem code119_is : Try.f119.body = some (.seq (.region 0 reg119_0 false) (.seq (.seq (.region 1 reg119_1 false) (.block 0 (.loop (.seq (.region 2 reg119_2 false) (.seq (.cond (.tmp 9 ) (.skip) (.exit 0)) (.seq (.block 1 (.seq (.region 3 reg119_3 false) (.seq (.region 4 reg119_4 false) (.cond (.tmp 16 ) (.seq (.region 5 reg119_5 false) (.ret)) (.skip))))) (.region 6 reg119_6 false))))))) (.seq (.region 7 reg119_7 false) (.ret)))) := by kernel_rfl
noncomputable def reg91_0 := rg Try.f91.body [0]
noncomputable def reg91_1 := rg Try.f91.body [1, 0]
theorem z91 : List.range reg91_0.size = [0] ∧ List.range reg91_1.size = [0, 1, 2, 3, 4] := by refine ⟨?_, ?_⟩ <;> kernel_rfl
theorem code91_is : Try.f91.body = some (.seq (.region 0 reg91_0 false) (.seq (.region 1 reg91_1 false) (.ret))) := by kernel_rfl
noncomputable def hdIx (sl : Value) (n : Nat) (p : Int) (i : Nat) (u : Nat → Value) : Frame :=
  (base 119).at { tmps := #[sl, .int .i64 p, u 2, u 3, .int .i64 0, u 5, u 6, .int .i64 n, .int .i64 i, u 9, u 10, u 11, u 12, u 13, u 14, u 15, u 16, u 17, u 18], defers := [] } [.code (.seq (.region 2 reg119_2 false) (.seq (.cond (.tmp 9 ) (.skip) (.exit 0)) (.seq (.block 1 (.seq (.region 3 reg119_3 false) (.seq (.region 4 reg119_4 false) (.cond (.tmp 16 ) (.seq (.region 5 reg119_5 false) (.ret)) (.skip))))) (.region 6 reg119_6 false)))), .inLoop (.seq (.region 2 reg119_2 false) (.seq (.cond (.tmp 9 ) (.skip) (.exit 0)) (.seq (.block 1 (.seq (.region 3 reg119_3 false) (.seq (.region 4 reg119_4 false) (.cond (.tmp 16 ) (.seq (.region 5 reg119_5 false) (.ret)) (.skip))))) (.region 6 reg119_6 false)))), .inBlock 0, .code (.seq (.region 7 reg119_7 false) (.ret))]
section
variable {main : Bool} {V : Nat → Option Wait}
theorem ix_in (a : Option Addr) (n ca : Nat) (p : Int) (cs : List Frame) (w : World) :
    Walk Try.prog main (DR V) (fun g w' => (∃ u, g = G (hdIx (.slice a n ca) n p 0 u) cs) ∧ ∃ d, w' = w.at d) (G (Frame.enter Try.prog 119 #[.slice a n ca, .int .i64 p] .normal) cs) w := by
  rw [enter_at _ Try.func119 code119_is]
  simp only [Try.ntmps119, ez, Nat.reduceAdd, Nat.reduceSub]
  repeat (first | refine Walk.cx ?_ | (refine Walk.cReg ?_; simp only [z119]) | (refine Walk.oq ?_; try walk_nrm) | (refine Walk.un ?_; walk_nrm))
  refine Walk.ctl rfl (fun w => stepG_loop) ?_
  refine .stop fun d => ⟨at_slots ?_, d, rfl⟩
  simp only [hdIx]
  rfl
theorem ix_out (sl : Value) (n : Nat) (p : Int) (u : Nat → Value) (c : Frame) (cs : List Frame) (w : World) :
    Walk Try.prog main (DR V) (fun g w' => g = G (c.finish (.int .i64 (-1))) cs ∧ ∃ d, w' = w.at d) (G (hdIx sl n p n u) (c :: cs)) w := by
  unfold hdIx
  repeat (first | refine Walk.cx ?_ | (refine Walk.cReg ?_; simp only [z119]) | (refine Walk.oq ?_; try walk_nrm) | (refine Walk.un ?_; walk_nrm))
  exact Walk.on1 rfl rfl Try.func119 rfl (.stop fun d => ⟨rfl, d, rfl⟩)
theorem ix_hit (ab ao n ca i : Nat) (p : Int) (u : Nat → Value) (c : Frame) (cs : List Frame) (w : World) (hi : i < n) (hn : n ≤ 17592186044416) (ha : w.cell? ⟨ab, ao + i, none⟩ = some (.int .i64 p)) :
    Walk Try.prog main (DR V) (fun g w' => g = G (c.finish (.int .i64 i)) cs ∧ ∃ d, w' = w.at d) (G (hdIx (.slice (some ⟨ab, ao, none⟩) n ca) n p i u) (c :: cs)) w := by
  have hi1 : decide ((i : Int) < n) = true := by simp; omega
  have hi3 : decide (i < n) = true := by simp; omega
  have hi4 : (i : Int) < n := by omega
  have hi0 : (0 : Int) ≤ i := by omega
  conv => arg 5; unfold hdIx
  repeat (first | refine Walk.cx ?_ | (refine Walk.cReg ?_; simp only [z119]) | (refine Walk.oq ?_; try walk_nrm) | (refine Walk.un ?_; walk_nrm))
  exact Walk.on1 rfl rfl Try.func119 rfl (.stop fun d => ⟨rfl, d, rfl⟩)
theorem ix_go (ab ao n ca i : Nat) (p x : Int) (hx : p ≠ x) (u : Nat → Value) (cs : List Frame) (w : World) (hi : i < n) (hn : n ≤ 17592186044416) (ha : w.cell? ⟨ab, ao + i, none⟩ = some (.int .i64 x)) :
    Walk Try.prog main (DR V) (fun g w' => (∃ u', g = G (hdIx (.slice (some ⟨ab, ao, none⟩) n ca) n p (i + 1) u') cs) ∧ ∃ d, w' = w.at d) (G (hdIx (.slice (some ⟨ab, ao, none⟩) n ca) n p i u) cs) w := by
  have hi1 : decide ((i : Int) < n) = true := by simp; omega
  have hi3 : decide (i < n) = true := by simp; omega
  have hi4 : (i : Int) < n := by omega
  have hi0 : (0 : Int) ≤ i := by omega
  have hw1 : IntKind.wrap .i64 ((i : Int) + 1) = (i : Int) + 1 := by rw [IntKind.wrap_i64]; omega
  have hb : (p == x) = false := by simpa using hx
  clear hx
  conv => arg 5; unfold hdIx
  repeat (first | refine Walk.cx ?_ | (refine Walk.cReg ?_; simp only [z119]) | (refine Walk.oq ?_; try walk_nrm) | (refine Walk.un ?_; walk_nrm))
  refine Walk.ctl rfl (fun w => stepG_inLoop) ?_
  refine .stop fun d' => ⟨at_slots ?_, d', rfl⟩
  have hc : ((i + 1 : Nat) : Int) = (i : Int) + 1 := by simp
  simp only [hdIx, hc]
  rfl
theorem ix_loop (a : Option Addr) (l : List Int) (ca : Nat) (p : Int) (hn : l.length ≤ 17592186044416) (c : Frame) (cs : List Frame) (w : World) (ha : NumA a l w) : ∀ (r i : Nat) (u : Nat → Value), i + r = l.length → (∀ x ∈ l.take i, p ≠ x) →
    Walk Try.prog main (DR V) (fun g w' => (∃ z : Int, (0 ≤ z ↔ p ∈ l) ∧ g = G (c.finish (.int .i64 z)) cs) ∧ ∃ d, w' = w.at d) (G (hdIx (.slice a l.length ca) l.length p i u) (c :: cs)) w := by
  intro r
  induction r with
  | zero =>
    intro i u hi hno
    have hi : i = l.length := hi
    subst hi
    refine (ix_out _ l.length p u c cs w).mono ?_
    rintro g w' ⟨rfl, d, rfl⟩
    rw [List.take_length] at hno
    exact ⟨⟨-1, ⟨fun h => (by omega), fun h => absurd rfl (hno p h)⟩, rfl⟩, d, rfl⟩
  | succ r ih =>
    intro i u hi hno
    have hin : i < l.length := by omega
    have hx := List.getElem?_eq_getElem hin
    obtain ⟨ab, ao, rfl, h1⟩ := ha i _ hx
    by_cases he : p = l[i]
    · rw [← he] at h1
      refine (ix_hit ab ao l.length ca i p u c cs w hin hn h1).mono ?_
      rintro g w' ⟨rfl, d, rfl⟩
      exact ⟨⟨i, ⟨fun _ => he ▸ List.getElem_mem hin, fun _ => Int.natCast_nonneg _⟩, rfl⟩, d, rfl⟩
    · refine (ix_go ab ao l.length ca i p _ he u (c :: cs) w hin hn h1).then ?_
      rintro g w' ⟨⟨u', rfl⟩, d, rfl⟩
      refine Walk.back (ih (i + 1) u' (by omega) (fun x hx' => ?_)) d
      rw [List.take_add_one, hx] at hx'
      rcases List.mem_append.1 hx' with h | h
      · exact hno x h
      · simp at h
        rw [h]
        exact he
theorem index_w (a : Option Addr) (l : List Int) (ca : Nat) (p : Int) (hn : l.length ≤ 17592186044416) (w : World) (ha : NumA a l w) : CallW Try.prog main V 119 #[.slice a l.length ca, .int .i64 p] w (fun v w' => (∃ z : Int, (0 ≤ z ↔ p ∈ l) ∧ v = .int .i64 z) ∧ ∃ d, w' = w.at d) := by
  intro fr cs
  refine (ix_in a l.length ca p (fr :: cs) w).then ?_
  rintro g w1 ⟨⟨u, rfl⟩, d, rfl⟩
  refine Walk.back ?_ d
  refine (ix_loop a l ca p hn fr cs w ha l.length 0 u (by omega) (fun x h => (by simp at h))).mono ?_
  rintro g w' ⟨⟨z, hz, rfl⟩, d, rfl⟩
  exact ⟨_, ⟨⟨z, hz, rfl⟩, d, rfl⟩, rfl⟩
theorem contains_w (a : Option Addr) (l : List Int) (ca : Nat) (p : Int) (hn : l.length ≤ 17592186044416) (w : World) (ha : NumA a l w) : CallV Try.prog main V 91 #[.slice a l.length ca, .int .i64 p] w (.bool (decide (p ∈ l))) w := by
  have hi := index_w (main := main) (V := V) a l ca p hn w ha
  refine callW_in Try.func91 code91_is fun fr cs => ?_
  simp only [Try.ntmps91, ez, Nat.reduceAdd, Nat.reduceSub]
  repeat (first | refine Walk.cx ?_ | (refine Walk.cReg ?_; simp only [z91]) | (refine Walk.oq ?_; try walk_nrm) | (refine Walk.un ?_; walk_nrm))
  refine Walk.callW (Post := fun v w' => (∃ z : Int, (0 ≤ z ↔ p ∈ l) ∧ v = .int .i64 z) ∧ ∃ d, w' = w.at d) ?_ (ho_of (by conv => lhs; whnf) (by kernel_rfl)) (by rfl) (by decide) rfl Try.func119 (by kernel_rfl) (by rfl) ?_
  · walk_nrm
    exact hi
  rintro v w1 ⟨⟨z, hz, rfl⟩, d, rfl⟩
  refine Walk.back ?_ d
  have hz1 : decide (0 ≤ z) = decide (p ∈ l) := by simp [hz]
  clear hi hz ha
  walk_nrm
  repeat (first | refine Walk.cx ?_ | (refine Walk.cReg ?_; simp only [z91]) | (refine Walk.oq ?_; try walk_nrm) | (refine Walk.un ?_; walk_nrm))
  first
  | exact Walk.ret1 rfl rfl Try.func91 rfl fun d => ⟨rfl, d, rfl⟩
  | exact Walk.ret1 rfl rfl Try.func91 rfl fun d => ⟨by simp [Act.put, hz1], d, rfl⟩
end
end
section
def LsI (base : Nat) (P : Nat → Prop) (sl : Value) (l : List Int) (w : World) : Prop := ∃ a c, sl = .slice a l.length c ∧ l.length ≤ 1048576 ∧ (∀ {p : Prop}, p → w.ownsRow base 3 1 sl l.length (l.map fun z => .int .i64 z) ∧ ∀ b, sl.ownBlock = some b → P b)
theorem LsI.same {base : Nat} {P : Nat → Prop} {sl : Value} {l : List Int} {w w' : World} (h : LsI base P sl l w) (hb : ∀ b, P b → w'.heap[b]? = w.heap[b]?) : LsI base P sl l w' := by
  obtain ⟨a, c, e, hn, hr⟩ := h
  exact ⟨a, c, e, hn, fun hl => ⟨row_same (hr hl).1 fun b e => hb b ((hr hl).2 b e), (hr hl).2⟩⟩
theorem LsI.imp {base : Nat} {P P' : Nat → Prop} {sl : Value} {l : List Int} {w : World} (h : LsI base P sl l w) (hP : ∀ b, P b → P' b) : LsI base P' sl l w := by
  obtain ⟨a, c, e, hn, hr⟩ := h
  exact ⟨a, c, e, hn, fun hl => ⟨(hr hl).1, fun b e => hP b ((hr hl).2 b e)⟩⟩
theorem LsI.low {base base' : Nat} {P : Nat → Prop} {sl : Value} {l : List Int} {w : World} (h : LsI base P sl l w) (hb : base' ≤ base) : LsI base' P sl l w := by
  obtain ⟨a, c, e, hn, hr⟩ := h
  exact ⟨a, c, e, hn, fun hl => ⟨⟨(hr hl).1.1, (hr hl).1.2.imp id fun ⟨g, cap, cur, h1, h2, h3⟩ => ⟨g, cap, cur, h1, Nat.le_trans hb h2, h3⟩⟩, (hr hl).2⟩⟩
section
variable {main : Bool} {V : Nat → Option Wait}
noncomputable def reg105_0 := rg Try.f105.body [0]
noncomputable def reg105_1 := rg Try.f105.body [1, 0, 0]
noncomputable def reg105_2 := rg Try.f105.body [1, 0, 1, 0, 0]
noncomputable def reg105_3 := rg Try.f105.body [1, 1, 0]
theorem z105 : List.range reg105_0.size = [0] ∧ List.range reg105_1.size = [0, 1] ∧ List.range reg105_2.size = [0] ∧ List.range reg105_3.size = [0, 1, 2, 3] := by refine ⟨?_, ?_, ?_, ?_⟩ <;> kernel_rfl
theorem code105_is : Try.f105.body = some (.seq (.region 0 reg105_0 false) (.seq (.seq (.region 1 reg105_1 false) (.cond (.tmp 4 ) (.seq (.region 2 reg105_2 false) (.ret)) (.skip))) (.seq (.region 3 reg105_3 false) (.ret)))) := by kernel_rfl
theorem huIn : Try.prog.underlying 57 = some (.slice 3) := by kernel_rfl
theorem cloneI_nil (w : World) : CallV Try.prog main V 105 #[.slice none 0 0] w (.slice none 0 0) w := by
  have hn1 := fun w => run_eql_nilSlice (P := Try.prog) (w := w) 57 huIn
  have hn2 := fun w es => ev_eql_nilSlice (P := Try.prog) (w := w) 57 es huIn
  refine callW_in Try.func105 code105_is fun fr cs => ?_
  simp only [Try.ntmps105, ez, Nat.reduceAdd, Nat.reduceSub]
  repeat (first | refine Walk.cx ?_ | (refine Walk.cReg ?_; simp only [z105]) | (refine Walk.oq ?_; try walk_nrm) | (refine Walk.un ?_; walk_nrm))
  exact Walk.ret1 rfl rfl Try.func105 rfl fun d => ⟨rfl, d, rfl⟩
theorem cloneI_some (w : World) (a : Addr) (c : Nat) (l : List Int) (h63 : l.length ≤ 1048576) (hA : ∀ b, w.heap.size ≤ b → Apart V b) (hcells : ∀ (j : Nat) (z : Int), l[j]? = some z → ∃ b off, some a = some ⟨b, off, none⟩ ∧ w.cell? ⟨b, off + j, none⟩ = some (.int .i64 z)) :
    CallW Try.prog main V 105 #[.slice (some a) l.length c] w (fun v w' => LsI w.heap.size (fun b => w.heap.size ≤ b ∧ b < w'.heap.size) v l w' ∧ w.heap.size ≤ w'.heap.size ∧ ∀ b, b < w.heap.size → w'.heap[b]? = w.heap[b]?) := by
  have hi1 := Option.some_get (show (Try.prog.info? 3).isSome = true by kernel_rfl)
  have hn1 := fun w => run_eql_someSlice (P := Try.prog) 57 huIn a l.length c w
  have hn2 := fun w es => ev_eql_someSlice (P := Try.prog) 57 huIn a l.length c w es
  refine callW_in Try.func105 code105_is fun fr cs => ?_
  simp only [Try.ntmps105, ez, Nat.reduceAdd, Nat.reduceSub]
  repeat (first | refine Walk.cx ?_ | (refine Walk.cReg ?_; simp only [z105]) | (refine Walk.oq ?_; try walk_nrm) | (refine Walk.un ?_; walk_nrm))
  (refine Walk.oa ?_; try walk_nrm)
  have s1 : (w.alloc (.cells #[] 3)).heap.size = w.heap.size + 1 := by simp
  have o1 : ∀ b, b < w.heap.size → (w.alloc (.cells #[] 3)).heap[b]? = w.heap[b]? := fun b hb => heap_new_lt _ _ hb
  have hown : (w.alloc (.cells #[] 3)).ownsRow w.heap.size 3 1 (.slice (some ⟨w.heap.size, 0, none⟩) 0 0) 0 [] := World.ownsRow_made w #[] 0 (Nat.le_refl _) (by decide) (by simp)
  have hap := hA w.heap.size (Nat.le_refl _)
  have hcells1 : ∀ (j : Nat) (z : Int), l[j]? = some z → ∃ b off, a = ⟨b, off, none⟩ ∧ (w.alloc (.cells #[] 3)).cell? ⟨b, off + j, none⟩ = some (.int .i64 z) := fun j z hj => by
    obtain ⟨b, off, e, h⟩ := hcells j z hj
    exact ⟨b, off, Option.some.inj e, cell_alloc w _ h⟩
  generalize w.alloc (.cells #[] 3) = w1 at *
  generalize hT : w.heap.size = T at *
  cases l with
  | nil =>
    have hz := fun w es => run_app0 huIn hi1.symm 57 ⟨T, 0, none⟩ (some a) c w es
    have hz1 := fun w => (hz w #[]).1
    have hz2 := fun w es => (hz w es).2
    clear hz
    repeat (first | refine Walk.cx ?_ | (refine Walk.cReg ?_; simp only [z105]) | (refine Walk.oq ?_; try walk_nrm) | (refine Walk.un ?_; walk_nrm))
    refine Walk.ret1 rfl rfl Try.func105 rfl fun d => ⟨⟨some ⟨T, 0, none⟩, 0, rfl, Nat.zero_le _, fun _ => ⟨row_same hown fun _ _ => rfl, fun b hb => ?_⟩⟩, ?_, o1⟩
    · have hb : some T = some b := hb
      obtain rfl := Option.some.inj hb
      exact ⟨Nat.le_refl _, show T < w1.heap.size by omega⟩
    · show T ≤ w1.heap.size
      omega
  | cons z l =>
    obtain ⟨b, off, rfl, _⟩ := hcells1 0 z rfl
    repeat (first | refine Walk.cx ?_ | (refine Walk.cReg ?_; simp only [z105]) | (refine Walk.oq ?_; try walk_nrm) | (refine Walk.un ?_; walk_nrm))
    refine Walk.append (.tmp 5) (.tmp 6) 57 (ho_of (by conv => lhs; whnf) (by kernel_rfl)) (by rfl) (by decide) rfl T 3 _ (.int .i64 0) 1 8 huIn hi1.symm (by rfl) (by rfl) (by rfl) (by rfl) (by decide) (.slice (some ⟨T, 0, none⟩) 0 0) 0 [] rfl hown ⟨b, off, none⟩ (z :: l).length c ((z :: l).map fun z => .int .i64 z) rfl (by simp) (fun j u hu => ?_) (fun u hu => ?_) (by simp) (by simp only [maxLen]; omega) (by omega) (by omega) (fun g hg => ?_) (fun g cap w' hown' hgr hat hlt => ?_)
    · rw [List.getElem?_map, Option.map_eq_some_iff] at hu
      obtain ⟨y, hy, rfl⟩ := hu
      obtain ⟨b', off', e, h⟩ := hcells1 j y hy
      obtain ⟨rfl, rfl, _⟩ := Addr.mk.inj e
      rw [add_none]; exact h
    · obtain ⟨y, _, rfl⟩ := List.mem_map.1 hu
      rfl
    · simp only [Value.ownBlock, Option.some.injEq] at hg
      rw [← hg]; exact hap
    · walk_nrm
      repeat (first | refine Walk.cx ?_ | (refine Walk.cReg ?_; simp only [z105]) | (refine Walk.oq ?_; try walk_nrm) | (refine Walk.un ?_; walk_nrm))
      have hgT : T ≤ g := by
        rcases hat with h | h
        · simp only [Value.ownBlock, Option.some.injEq] at h
          omega
        · omega
      refine Walk.ret1 rfl rfl Try.func105 rfl fun d => ⟨⟨some ⟨g, 0, none⟩, cap, by simp, h63, fun _ => ⟨?_, fun b' hb' => ?_⟩⟩, ?_, fun b' hb' => ?_⟩
      · have h := hown'
        simp only [Nat.zero_add, List.nil_append] at h
        exact row_same h fun _ _ => rfl
      · have hb' : some g = some b' := hb'
        obtain rfl := Option.some.inj hb'
        exact ⟨hgT, hlt⟩
      · show T ≤ w'.heap.size
        have := hgr.size; omega
      · exact (hgr.block b' (by omega) (by simp [Value.ownBlock]; omega)).trans (o1 b' hb')
theorem cloneI_w (w : World) (sl : Value) (l : List Int) (hl : LsR sl l w) (h63 : l.length ≤ 1048576) (hA : ∀ b, w.heap.size ≤ b → Apart V b) :
    CallW Try.prog main V 105 #[sl] w (fun v w' => LsI w.heap.size (fun b => w.heap.size ≤ b ∧ b < w'.heap.size) v l w' ∧ w.heap.size ≤ w'.heap.size ∧ ∀ b, b < w.heap.size → w'.heap[b]? = w.heap[b]?) := by
  obtain ⟨a, c, rfl, hc, hn, hcells⟩ := hl
  cases a with
  | none =>
    obtain rfl := hn rfl
    have h0 : l.length = 0 := Nat.le_zero.1 hc
    rw [h0]
    intro fr cs
    refine (cloneI_nil w fr cs).mono ?_
    rintro g w' ⟨v, ⟨rfl, d, rfl⟩, rfl⟩
    exact ⟨_, ⟨⟨none, 0, by rw [h0], by omega, fun _ => ⟨by rw [List.eq_nil_of_length_eq_zero h0]; exact ⟨rfl, .inl ⟨rfl, rfl⟩⟩, fun b h => by simp [Value.ownBlock] at h⟩⟩, Nat.le_refl _, fun _ _ => rfl⟩, rfl⟩
  | some a => exact cloneI_some w a c l h63 hA hcells
end
end
end Go.Proofs.Ytgfajibjedfkdaa
namespace Go.Relay
section
open Go.Conc Go.RowKit
variable {P : Program} {main : Bool} {V : Nat → Option Wait} {Stop : Goroutine → World → Prop} {w : World} {b : Frame} {a : Act} {k : List Item} {cs : List Frame} {ops : Array Oper} {i : Nat} {rest : List Nat} {o : Oper}
theorem run_clear_op {v v' : Value} {w' : World} (s : Operand) (t : TypeId) (ho : o.op = .call { callee := .builtin .clear, args := #[s], argTypes := #[t] }) (hs : a.eval s = v) {K : Act → World → Prop}
    (hr : (Builtin.clear_ #[t] o.type #[v]).run P w = .ok v' w') (h : K (a.put o.dst v') w') : uponK o a K ((execOp a.eval o).run P w) := by
  unfold execOp
  simp only [ho, resolve, invoke, builtin, Sem.run_bind, Sem.run_pure, Result.andThen_ok, List.map_toArray, List.map_cons, List.map_nil, hs, hr]
  exact h
theorem events_clear_op {v : Value} (s : Operand) (t : TypeId) (ho : o.op = .call { callee := .builtin .clear, args := #[s], argTypes := #[t] }) (hs : a.eval s = v) (es : Array Event) :
    (execOp a.eval o).events P w es = (Builtin.clear_ #[t] o.type #[v]).events P w es := by
  unfold execOp
  simp only [ho, resolve, invoke, builtin, Sem.events_bind, Sem.run_pure, Sem.events_pure, Result.evThen_ok, List.map_toArray, List.map_cons, List.map_nil, hs]
  cases (Builtin.clear_ #[t] o.type #[v]).run P w <;> rfl
theorem Walk.clear (s : Operand) (t e : TypeId) (ho : ops[i]? = some o) (hw : Region.wanted o (yielded ops a.tmps) = true) (hk : b.kind ≠ .early) (hop : o.op = .call { callee := .builtin .clear, args := #[s], argTypes := #[t] })
    (ti : TypeInfo) (z : Value) (ht : P.underlying t = some (.slice e)) (hi : P.info? e = some ti) (hz : ti.zero = some z) (hzs : z.cells.size = 1) (h1 : ∀ n, ∀ v ∈ (Builtin.zeroCells z.cells n).toList, v.oneCell' = true)
    (g off m c : Nat) (hs : a.eval s = .slice (some ⟨g, off, none⟩) (m + 1) c) (cur : Array Value) (tt : TypeId) (hg : w.heap[g]? = some (.cells cur tt (0, 0))) (hfit : off + (m + 1) ≤ cur.size) (hap : Apart V g)
    (h : Walk P main (DR V) Stop (G (b.at (a.put o.dst (.tuple #[])) (.inRegion ops rest :: k)) cs) (w.setRow g (cur.toList.take off ++ (Builtin.zeroCells z.cells (m + 1)).toList ++ cur.toList.drop (off + (m + 1))).toArray)) :
    Walk P main (DR V) Stop (G (b.at a (.inRegion ops (i :: rest) :: k)) cs) w := by
  have hl : (Builtin.zeroCells z.cells (m + 1)).toList.length = m + 1 := by simp [Builtin.zeroCells, hzs]
  have hrun := fun w' (hg' : w'.heap[g]? = some (.cells cur tt (0, 0))) => run_storeCells_at (P := P) g off tt (Builtin.zeroCells z.cells (m + 1)).toList 0 cur w' hg' (by rw [hl]; omega) (h1 (m + 1))
  rw [hl] at hrun
  simp only [Nat.add_zero] at hrun
  have hgr : ∀ (cells : Array Value) d, (w.at d).grownBy ((w.setRow g cells).at d) (some g) := fun cells d => by
    refine ⟨rfl, rfl, rfl, ?_, fun k hk hne => ?_⟩
    · simp [World.setRow, World.at]
    · have : k ≠ g := fun e => hne (by rw [e])
      simp only [World.setRow, World.at]
      rw [Array.getElem?_modify, if_neg (Ne.symm this)]
  refine Walk.opw (W := w.setRow g (cur.toList.take off ++ (Builtin.zeroCells z.cells (m + 1)).toList ++ cur.toList.drop (off + (m + 1))).toArray) ho hw hk (fun dd e he => ?_) (fun dd es hes => DR.grown (hgr _ dd) (fun g' e => by cases e; exact hap) hes) (fun dd K hK => ?_)
  · rw [events_clear_op s t hop hs] at he
    have hr1 := hrun (w.at dd) hg
    simp [Builtin.clear_, run_underlying ht, zeroValue, typeInfo, hi, hz, hr1] at he
    rcases events_storeCells_at (P := P) g off tt (Builtin.zeroCells z.cells (m + 1)).toList 0 cur (w.at dd) _ hg (by rw [hl]; omega) (h1 (m + 1)) e he with h' | ⟨ad, h', hb⟩
    · simp at h'
    · exact evR_cell h' (hap.1 ad hb)
  · refine run_clear_op s t hop hs (w' := ((w.setRow g (cur.toList.take off ++ (Builtin.zeroCells z.cells (m + 1)).toList ++ cur.toList.drop (off + (m + 1))).toArray).at dd)) (v' := .tuple #[]) ?_ (hK _ h)
    have hr1 := hrun (w.at dd) hg
    simp [Builtin.clear_, run_underlying ht, zeroValue, typeInfo, hi, hz, hr1]
    rfl
end
end Go.Relay
namespace Go.Proofs.Ytgfajibjedfkdaa
open Go.Conc Go.RowKit Go.Relay
open Go.ConcN (upd upd_ne upd_same)
section
def NumB (w : World) (B : Nat) (xs : List Int) : Prop := w.heap[B]? = some (.cells (xs.map fun z => Value.int .i64 z).toArray 2)
theorem NumB.cell {w : World} {B : Nat} {xs : List Int} (h : NumB w B xs) {j : Nat} {z : Int} (hj : xs[j]? = some z) : w.cell? ⟨B, j, none⟩ = some (.int .i64 z) := by
  refine (cell_of h j).trans ?_
  simp [hj]
theorem NumB.frozen {w : World} {B : Nat} {xs : List Int} (h : NumB w B xs) (j : Nat) : w.frozen? ⟨B, j, none⟩ = false := frozen_of h j
theorem NumB.set {w : World} {B : Nat} {xs : List Int} (h : NumB w B xs) (j : Nat) (z : Int) : NumB (w.setCell ⟨B, j, none⟩ (.int .i64 z)) B (xs.set j z) := by
  unfold NumB
  rw [heap_set_self _ _ h]
  simp [List.map_set]
theorem NumB.same {w w' : World} {B : Nat} {xs : List Int} (h : NumB w B xs) (hb : w'.heap[B]? = w.heap[B]?) : NumB w' B xs := hb.trans h
theorem NumB.lt {w : World} {B : Nat} {xs : List Int} (h : NumB w B xs) : B < w.heap.size := (Array.getElem?_eq_some_iff.1 h).1
theorem NumB.row {w : World} {B : Nat} {xs : List Int} (h : NumB w B xs) {base : Nat} (hb : base ≤ B) (hn : xs.length ≤ maxLen) : w.ownsRow base 2 1 (.slice (some ⟨B, 0, none⟩) xs.length xs.length) xs.length (xs.map fun z => .int .i64 z) :=
  ⟨by simp, .inr ⟨B, xs.length, _, rfl, hb, h, Nat.le_refl _, hn, by simp, by simpa using List.take_of_length_le (by simp)⟩⟩
theorem NumB.lsR {w : World} {B : Nat} {xs : List Int} (h : NumB w B xs) : LsR (.slice (some ⟨B, 0, none⟩) xs.length xs.length) xs w :=
  ⟨_, _, rfl, Nat.le_refl _, fun e => (by cases e), fun j z hj => ⟨B, 0, rfl, by rw [Nat.zero_add]; exact h.cell hj⟩⟩
theorem made_zero (n : Nat) : madeCells #[Value.int .i64 0] n = ((List.replicate n (0 : Int)).map fun z => Value.int .i64 z).toArray := by
  apply Array.ext'
  rw [toList_madeCells_one]
  simp
def padL (l : List Int) (n : Nat) : List Int := l ++ List.replicate (n - l.length) 0
theorem padL_full {l : List Int} {n : Nat} (h : l.length = n) : padL l n = l := by simp [padL, h]
theorem padL_set {l : List Int} {n : Nat} (h : l.length < n) (v : Int) : (padL l n).set l.length v = padL (l ++ [v]) n := by
  unfold padL
  obtain ⟨m, hm⟩ : ∃ m, n - l.length = m + 1 := ⟨n - l.length - 1, by omega⟩
  have hm2 : n - (l ++ [v]).length = m := by simp; omega
  rw [hm, hm2, List.replicate_succ, List.set_append_right _ _ (Nat.le_refl _)]
  simp
def GatL {L : La} {sv : Value} (K : Lg L sv) (e : K.E) (sl : Value) (ls : List Int) : Prop := (∃ a c, sl = .slice a ls.length c) ∧ (K.w e).ownsRow 0 2 1 sl ls.length (ls.map fun z => .int .i64 z) ∧ ∀ b, sl.ownBlock = some b → K.mine e b
theorem SCall.ofV {L : La} {sv : Value} (K : Lg L sv) (e : K.E) {f : FuncId} {args : Array Value} {x : Value} {Q : Value → K.E → Prop} (h : CallV Try.prog K.main (K.V e) f args (K.w e) x (K.w e)) (hq : Q x e) : SCall K.toLb f args e Q := fun fr l hp hl hk => by
  unfold LW
  refine (h fr (l ++ K.bot e)).then ?_
  rintro g w' ⟨v, ⟨rfl, d, rfl⟩, rfl⟩
  refine Walk.back ?_ d
  exact hk _ e hq
theorem GatL.ne {L : La} {sv : Value} {K : Lg L sv} {e : K.E} {sl : Value} {ls : List Int} (h : GatL K e sl ls) {R : Nat} {arr : Array Value} (hR : (K.w e).heap[R]? = some (.cells arr 81)) : ∀ b, sl.ownBlock = some b → b ≠ R := fun b hb e' => by
  subst e'
  rcases h.2.1.2 with ⟨e1, _⟩ | ⟨g, cap, cur, e1, _, h2, _⟩
  · rw [e1] at hb; cases hb
  · rw [e1] at hb
    cases hb
    rw [hR] at h2
    cases h2
theorem GatL.keep {L : La} {sv : Value} {K : Lg L sv} {e e' : K.E} {sl : Value} {ls : List Int} (h : GatL K e sl ls) (hm : ∀ b, K.mine e b → K.mine e' b) (hb : ∀ b, K.mine e b → sl.ownBlock = some b → (K.w e').heap[b]? = (K.w e).heap[b]?) : GatL K e' sl ls :=
  ⟨h.1, row_same h.2.1 fun b hb' => hb b (h.2.2 b hb') hb', fun b hb' => hm b (h.2.2 b hb')⟩
theorem GatL.lsR {L : La} {sv : Value} {K : Lg L sv} {e : K.E} {sl : Value} {ls : List Int} (h : GatL K e sl ls) : LsR sl ls (K.w e) := by
  obtain ⟨⟨a, c, rfl⟩, hr, _⟩ := h
  have hx : ls.length ≤ c ∧ (a = none → c = 0) := by
    rcases hr.2 with ⟨e1, _⟩ | ⟨g, cap, cur, e1, _, _, hle, _⟩
    · injection e1 with _ en ec
      exact ⟨by omega, fun _ => ec⟩
    · injection e1 with e1 _ e3
      subst e1 e3
      exact ⟨hle, fun h => by cases h⟩
  refine ⟨a, c, rfl, hx.1, hx.2, fun j z hz => ?_⟩
  obtain ⟨g, e1, _, _, hc⟩ := row_at hr (j := j) (x := .int .i64 z) (by rw [List.getElem?_map, hz]; rfl)
  exact ⟨g, 0, e1, by rw [Nat.zero_add]; exact hc⟩
theorem GatL.nil {L : La} {sv : Value} (K : Lg L sv) (e : K.E) : GatL K e (.slice none 0 0) [] := ⟨⟨_, _, rfl⟩, ⟨rfl, .inl ⟨rfl, rfl⟩⟩, fun b h => by simp [Value.ownBlock] at h⟩
theorem cell_backG {L : La} {sv : Value} (K : Lg L sv) {F : FuncId} {fn : Func} {e2 : K.E} {fr c : Frame} {l : List Frame} {R : Nat} {a : Ans} {sl : Value} (hm : K.mine e2 R) (hR : (K.w e2).heap[R]? = some (.cells #[.bool false, .int .i64 0, .slice none 0 0] 81))
    (ht : K.tgt e2 = (K.s e2, .inl a)) (hsl : GatL K e2 sl a.l) (hk : ∀ e', K.tgt e' = (K.s e', .inl a) → GatL K e' sl a.l → LW K.toLb e' (G (c.finish (ansV a sl)) (l ++ K.bot e')))
    (hF : Try.prog.funcs[F]? = some fn) (hres : fn.results = #[.cell 8 81]) (hfr : fr.mode = .returning ∧ fr.kind = .normal ∧ fr.defers = [] ∧ fr.fn = F ∧ fr.tmps.getD 8 undef = .pointer (some ⟨R, 0, none⟩)) :
    Walk Try.prog K.main (DR (K.V e2)) (K.Stop e2) (G fr (c :: (l ++ K.bot e2))) ((K.w e2).setRow R #[.bool a.ok, .int .i64 a.n, sl]) := by
  obtain ⟨h1, h2, h3, h4, h5⟩ := hfr
  obtain ⟨e3, m⟩ := K.own e2 (w' := (K.w e2).setRow R #[.bool a.ok, .int .i64 a.n, sl]) (by rw [setRow_size]; exact Nat.le_refl _) (fun b _ hbm => setRow_other _ _ (fun he : b = R => hbm (by rw [he]; exact hm)))
  have c9 := setRow_self (cells := #[.bool a.ok, .int .i64 a.n, sl]) hR
  refine Walk.onCell (T := R) h1 h2 h3 (by rw [h4]; exact hF) hres h5 c9 (by kernel_rfl) (by kernel_rfl) ?_
  refine LW.to m (hk e3 ?_ ?_)
  · rw [m.tgt, m.s]
    exact ht
  · refine hsl.keep (fun b h => (m.mine b).2 (.inl h)) fun b _ hb => ?_
    rw [m.w]
    exact setRow_other _ _ (hsl.ne hR b hb)
section
variable {P : Program} {t e : TypeId} {ti : TypeInfo}
theorem run_from (hu : P.underlying t = some (.slice e)) (hi : P.info? e = some ti) (hz : ti.size = 1) (b o p y cap : Nat) (hc : p + y ≤ cap) : ∃ a' : Option Addr, (0 < y → a' = some ⟨b, o + p, none⟩) ∧ ∀ (w : World) (es : Array Event), (Instr.sliceAt t (.slice (some ⟨b, o, none⟩) (p + y) cap) (some (.int .i64 (p : Nat))) none none).run P w = .ok (.slice a' y (cap - p)) w ∧
    (Instr.sliceAt t (.slice (some ⟨b, o, none⟩) (p + y) cap) (some (.int .i64 (p : Nat))) none none).events P w es = es := by
  have g1 : (p : Int) ≤ ((p + y : Nat) : Int) := by omega
  have g3 : (p : Int) ≤ (p : Int) + y := by omega
  have g4 : ¬ ((p : Int) + y < p) := by omega
  have g5 : (0 : Int) ≤ p := by omega
  have g6 : ¬ ((p : Int) < 0) := by omega
  have g7 : p + y - p = y := by omega
  have g8 : ¬ (p + y < p) := by omega
  by_cases g2 : cap = p
  · subst g2
    have hy : y = 0 := by omega
    subst hy
    refine ⟨some ⟨b, o, none⟩, fun h => by omega, fun w es => ?_⟩
    constructor <;> simp [Instr.sliceAt, Instr.slice, run_underlying hu, Instr.sliceBounds, Instr.sliceBound, asIntOf, sizeOf, typeInfo, hi, hz, g6, Addr.add]
  · have g9 : ¬ p = cap := fun e => g2 e.symm
    have g10 : ¬ (cap ≤ p) := by omega
    refine ⟨some ⟨b, o + p, none⟩, fun _ => rfl, fun w es => ?_⟩
    constructor <;> simp [Instr.sliceAt, Instr.slice, run_underlying hu, Instr.sliceBounds, Instr.sliceBound, asIntOf, sizeOf, typeInfo, hi, hz, g1, g2, g3, g4, g5, g6, g7, g8, g9, g10, Addr.add]
theorem run_upto (hu : P.underlying t = some (.slice e)) (hi : P.info? e = some ti) (hz : ti.size = 1) (b o q y cap : Nat) (hq : q ≤ y) (hy : 0 < y) (hc : y ≤ cap) (w : World) (es : Array Event) : (Instr.sliceAt t (.slice (some ⟨b, o, none⟩) y cap) none (some (.int .i64 (q : Nat))) none).run P w = .ok (.slice (some ⟨b, o, none⟩) q cap) w ∧ (Instr.sliceAt t (.slice (some ⟨b, o, none⟩) y cap) none (some (.int .i64 (q : Nat))) none).events P w es = es := by
  have g1 : (q : Int) ≤ (cap : Nat) := by omega
  have g2 : ¬ ((q : Int) < 0) := by omega
  have g3 : (0 : Int) ≤ q := by omega
  have g4 : ¬ cap = 0 := by omega
  have g5 : q ≤ cap := by omega
  have g6 : 0 < cap := by omega
  constructor <;> simp [Instr.sliceAt, Instr.slice, run_underlying hu, Instr.sliceBounds, Instr.sliceBound, asIntOf, sizeOf, typeInfo, hi, hz, g1, g2, g3, g4, g5, g6, Addr.add]
end
end
end Go.Proofs.Ytgfajibjedfkdaa
