/- Part 8. -/
import Derived.Test.YtcdcnmphjhfbpaaJ4
import Derived.Test.YtcdcnmphjhfbpaaJ6
import Derived.Test.YtcdcnmphjhfbpaaJ7
import Derived.Laws.CopyRow
set_option linter.unusedSimpArgs false
set_option linter.unusedVariables false
set_option maxHeartbeats 8000000
set_option maxRecDepth 100000
namespace Go.Proofs.Ytcdcnmphjhfbpaa
open Go.Conc Go.RowKit Go.Relay
open Go.ConcN (upd upd_ne upd_same)
section
structure Rg where
  st : Nat → Int
  va : Nat → Int
inductive RD where
  | p1 (q v : Int) | p2 (q v : Int) | p3 (q : Int) | g1 (q : Int) | g2 (q : Int) | g3 (q v : Int) | t (q : Int) | h (q l : Int) | a1 (q m : Int) (l : List Int) | a2 (q m : Int) (l : List Int) | a3 (q m : Int) (l : List Int) (v : Int)
def good (q : Int) : Prop := 0 ≤ q ∧ q < 4611686018427387904
instance (q : Int) : Decidable (good q) := inferInstanceAs (Decidable (_ ∧ _))
def ixR (n : Nat) (q : Int) : Nat := (q % n).toNat
def laR (n : Nat) (q : Int) : Int := 2 * (q / n)
def rgPutS (s : Rg) (i : Nat) (x : Int) : Rg := ⟨upd s.st i x, s.va⟩
def rgPutV (s : Rg) (i : Nat) (x : Int) : Rg := ⟨s.st, upd s.va i x⟩
def endA (l : List Int) (e : Int) : Ans := if l = [] then ⟨false, e, []⟩ else ⟨true, 0, l⟩
def rgEnter (n : Nat) (s : Rg) (_ : Int) (o : OpV) : Rg × (Ans ⊕ RD) :=
  if o.k = 1 then (s, if good o.a then .inr (.p1 o.a o.b) else .inl ⟨false, 1, []⟩)
  else if o.k = 2 then (s, if good o.a then .inr (.g1 o.a) else .inl ⟨false, 1, []⟩)
  else if o.k = 3 then (s, if good o.a then .inr (.t o.a) else .inl ⟨false, 0, []⟩)
  else if o.k = 4 then (s, if o.a = -9223372036854775808 then .inl ⟨true, o.a, []⟩ else if good o.a ∧ o.a ≤ o.b then .inr (.h o.a (min o.b (min 4611686018427387903 (o.a + n - 1)))) else .inl ⟨true, IntKind.i64.wrap (o.a - 1), []⟩)
  else if o.k = 5 then (s, if good o.a then (if min o.b n ≤ 0 then .inl ⟨true, 0, []⟩ else .inr (.a1 o.a (min o.b n) [])) else .inl ⟨false, 1, []⟩)
  else (s, .inl ⟨false, 0, []⟩)
def rgAct (n : Nat) (s : Rg) : RD → Rg × (Ans ⊕ RD)
  | .p1 q v => (rgPutS s (ixR n q) (laR n q - 1), .inr (.p2 q v))
  | .p2 q v => (rgPutV s (ixR n q) v, .inr (.p3 q))
  | .p3 q => (rgPutS s (ixR n q) (laR n q), .inl ⟨true, 0, []⟩)
  | .g1 q => (s, if s.st (ixR n q) < laR n q then .inl ⟨false, 6, []⟩ else if laR n q < s.st (ixR n q) then .inl ⟨false, 10, []⟩ else .inr (.g2 q))
  | .g2 q => (s, .inr (.g3 q (s.va (ixR n q))))
  | .g3 q v => (s, if s.st (ixR n q) = laR n q then .inl ⟨true, v, []⟩ else .inl ⟨false, 10, []⟩)
  | .t q => (s, .inl ⟨decide (s.st (ixR n q) = laR n q), 0, []⟩)
  | .h q l => (s, if s.st (ixR n q) = laR n q then (if q < l then .inr (.h (q + 1) l) else .inl ⟨true, l, []⟩) else .inl ⟨true, q - 1, []⟩)
  | .a1 q m l => (s, if s.st (ixR n q) < laR n q then .inl (endA l 6) else if laR n q < s.st (ixR n q) then .inl (endA l 10) else .inr (.a2 q m l))
  | .a2 q m l => (s, .inr (.a3 q m l (s.va (ixR n q))))
  | .a3 q m l v => (s, if s.st (ixR n q) = laR n q then (if ((l.length : Int) + 1 < m) ∧ good (q + 1) then .inr (.a1 (q + 1) m (l ++ [v])) else .inl ⟨true, 0, l ++ [v]⟩) else .inl (endA l 10))
structure RgI (rb sb n : Nat) (s : Rg) (w : World) : Prop where
  hd : w.heap[rb]? = some (.cells #[.slice (some ⟨sb, 0, none⟩) n n] 132)
  sl : ∃ arr : Array Value, w.heap[sb]? = some (.cells arr 134) ∧ arr.size = 2 * n ∧ (∀ i, i < n → arr[i * 2]? = some (.int .i64 (s.st i)) ∧ arr[i * 2 + 1]? = some (.int .i64 (s.va i)))
  pos : 1 ≤ n ∧ n ≤ 65536
theorem RgI.old {rb sb n : Nat} {s : Rg} {w w' : World} (h : RgI rb sb n s w) (hb : w'.heap[rb]? = w.heap[rb]?) (hc : w'.heap[sb]? = w.heap[sb]?) : RgI rb sb n s w' := by
  obtain ⟨arr, h1, h2⟩ := h.sl
  exact ⟨hb.trans h.hd, ⟨arr, hc.trans h1, h2⟩, h.pos⟩
theorem RgI.lt {rb sb n : Nat} {s : Rg} {w : World} (h : RgI rb sb n s w) : rb < w.heap.size ∧ sb < w.heap.size := by
  obtain ⟨arr, h1, h2⟩ := h.sl
  exact ⟨(Array.getElem?_eq_some_iff.1 h.hd).1, (Array.getElem?_eq_some_iff.1 h1).1⟩
theorem RgI.ne {rb sb n : Nat} {s : Rg} {w : World} (h : RgI rb sb n s w) : rb ≠ sb := fun e => by
  obtain ⟨arr, h1, h2⟩ := h.sl
  have := h.hd
  rw [e, h1] at this
  cases this
def rgLa (rb sb n : Nat) : La where
  Sg := Rg
  D := RD
  Gh := Unit
  le := fun _ _ => True
  refl := fun _ => trivial
  trans := fun _ _ => trivial
  enter := rgEnter n
  act := rgAct n
  sh := fun _ b => b = rb ∨ b = sb
  mono := fun _ h => h
  I := fun _ => RgI rb sb n
  stable := fun h hb => h.old (hb _ (.inl rfl)) (hb _ (.inr rfl))
  lt := fun h hb => hb.elim (fun e => e ▸ h.lt.1) (fun e => e ▸ h.lt.2)
section
variable {rb sb n : Nat}
theorem RgI.size {s : Rg} {w : World} (h : RgI rb sb n s w) : w.cell? ⟨rb, 0, none⟩ = some (.slice (some ⟨sb, 0, none⟩) n n) := (cell_of h.hd 0).trans rfl
theorem RgI.rdS {i : Nat} (hi : i < n) {s : Rg} {w : World} (h : RgI rb sb n s w) : w.cell? ⟨sb, i * 2, none⟩ = some (.int .i64 (s.st i)) ∧ w.frozen? ⟨sb, i * 2, none⟩ = false := by
  obtain ⟨arr, h1, h2, h3⟩ := h.sl
  exact ⟨(cell_of h1 _).trans (h3 i hi).1, frozen_of h1 _⟩
theorem RgI.rdV {i : Nat} (hi : i < n) {s : Rg} {w : World} (h : RgI rb sb n s w) : w.cell? ⟨sb, i * 2 + 1, none⟩ = some (.int .i64 (s.va i)) ∧ w.frozen? ⟨sb, i * 2 + 1, none⟩ = false := by
  obtain ⟨arr, h1, h2, h3⟩ := h.sl
  exact ⟨(cell_of h1 _).trans (h3 i hi).2, frozen_of h1 _⟩
theorem RgI.wrS {i : Nat} (hi : i < n) {s : Rg} {w : World} (v : Int) (h : RgI rb sb n s w) : RgI rb sb n (rgPutS s i v) (w.setCell ⟨sb, i * 2, none⟩ (.int .i64 v)) := by
  obtain ⟨arr, h1, h2, h3⟩ := h.sl
  refine ⟨(heap_set_other _ _ _ _ h.ne).trans h.hd, ⟨_, heap_set_self _ _ h1, by simp [h2], fun j hj => ⟨?_, ?_⟩⟩, h.pos⟩
  · show _ = some (Value.int .i64 (upd s.st i v j))
    by_cases e : j = i
    · subst e
      rw [upd_same]
      exact Array.getElem?_setIfInBounds_self_of_lt (by omega)
    · rw [upd_ne _ _ e, Array.getElem?_setIfInBounds_ne (by omega)]; exact (h3 j hj).1
  · rw [Array.getElem?_setIfInBounds_ne (by omega)]; exact (h3 j hj).2
theorem RgI.wrV {i : Nat} (hi : i < n) {s : Rg} {w : World} (v : Int) (h : RgI rb sb n s w) : RgI rb sb n (rgPutV s i v) (w.setCell ⟨sb, i * 2 + 1, none⟩ (.int .i64 v)) := by
  obtain ⟨arr, h1, h2, h3⟩ := h.sl
  refine ⟨(heap_set_other _ _ _ _ h.ne).trans h.hd, ⟨_, heap_set_self _ _ h1, by simp [h2], fun j hj => ⟨?_, ?_⟩⟩, h.pos⟩
  · rw [Array.getElem?_setIfInBounds_ne (by omega)]; exact (h3 j hj).1
  · show _ = some (Value.int .i64 (upd s.va i v j))
    by_cases e : j = i
    · subst e
      rw [upd_same]
      exact Array.getElem?_setIfInBounds_self_of_lt (by omega)
    · rw [upd_ne _ _ e, Array.getElem?_setIfInBounds_ne (by omega)]; exact (h3 j hj).2
def stpW (i : Nat) (hi : i < n) : Wd (rgLa rb sb n) where
  on := fun _ => True
  up := fun _ _ => trivial
  b := sb
  q := i * 2
  get := fun s => (s : Rg).st i
  put := fun s v => rgPutS s i v
  ok := fun _ => True
  sh := fun _ _ => .inr rfl
  rd := fun _ s w _ h => RgI.rdS hi h
  wr := fun _ s w v _ _ h => RgI.wrS hi v h
def vluW (i : Nat) (hi : i < n) : Wd (rgLa rb sb n) where
  on := fun _ => True
  up := fun _ _ => trivial
  b := sb
  q := i * 2 + 1
  get := fun s => (s : Rg).va i
  put := fun s v => rgPutV s i v
  ok := fun _ => True
  sh := fun _ _ => .inr rfl
  rd := fun _ s w _ h => RgI.rdV hi h
  wr := fun _ s w v _ _ h => RgI.wrV hi v h
end
theorem ixR_lt {n : Nat} (hn : 1 ≤ n) (q : Int) : ixR n q < n := by
  unfold ixR
  have h1 := Int.emod_nonneg q (show (n : Int) ≠ 0 by omega)
  have h2 := Int.emod_lt_of_pos q (show (0 : Int) < n by omega)
  omega
end
section
theorem undRing : Try.prog.underlying 35 = some (.pointer 132) := by kernel_rfl
noncomputable def reg75_0 := rg Try.f75.body [0]
noncomputable def reg75_1 := rg Try.f75.body [1, 0]
theorem z75 : List.range reg75_0.size = [0] ∧ List.range reg75_1.size = [0, 1, 2, 3, 4, 5, 6] := by refine ⟨?_, ?_⟩ <;> kernel_rfl
theorem code75_is : Try.f75.body = some (.seq (.region 0 reg75_0 false) (.seq (.region 1 reg75_1 false) (.ret))) := by kernel_rfl
noncomputable def reg19_0 := rg Try.f19.body [0]
noncomputable def reg19_1 := rg Try.f19.body [1, 0, 0]
noncomputable def reg19_2 := rg Try.f19.body [1, 0, 1, 0, 0]
noncomputable def reg19_3 := rg Try.f19.body [1, 1, 0]
theorem z19 : List.range reg19_0.size = [0] ∧ List.range reg19_1.size = [0, 1] ∧ List.range reg19_2.size = [0] ∧ List.range reg19_3.size = [0, 1, 2, 3, 4, 5] := by refine ⟨?_, ?_, ?_, ?_⟩ <;> kernel_rfl
theorem code19_is : Try.f19.body = some (.seq (.region 0 reg19_0 false) (.seq (.seq (.region 1 reg19_1 false) (.cond (.tmp 4 ) (.seq (.region 2 reg19_2 false) (.ret)) (.skip))) (.seq (.region 3 reg19_3 false) (.ret)))) := by kernel_rfl
noncomputable def reg74_0 := rg Try.f74.body [0]
noncomputable def reg74_1 := rg Try.f74.body [1, 0]
theorem z74 : List.range reg74_0.size = [0] ∧ List.range reg74_1.size = [0, 1, 2, 3, 4, 5, 6, 7] := by refine ⟨?_, ?_⟩ <;> kernel_rfl
theorem code74_is : Try.f74.body = some (.seq (.region 0 reg74_0 false) (.seq (.region 1 reg74_1 false) (.ret))) := by kernel_rfl
noncomputable def reg23_0 := rg Try.f23.body [0]
noncomputable def reg23_1 := rg Try.f23.body [1, 0, 0]
noncomputable def reg23_2 := rg Try.f23.body [1, 0, 1, 0, 0]
noncomputable def reg23_3 := rg Try.f23.body [1, 1, 0]
theorem z23 : List.range reg23_0.size = [0] ∧ List.range reg23_1.size = [0, 1, 2, 3] ∧ List.range reg23_2.size = [0] ∧ List.range reg23_3.size = [0, 1, 2, 3, 4] := by refine ⟨?_, ?_, ?_, ?_⟩ <;> kernel_rfl
theorem code23_is : Try.f23.body = some (.seq (.region 0 reg23_0 false) (.seq (.seq (.region 1 reg23_1 false) (.cond (.tmp 8 ) (.seq (.region 2 reg23_2 false) (.ret)) (.skip))) (.seq (.region 3 reg23_3 false) (.ret)))) := by kernel_rfl
noncomputable def reg24_0 := rg Try.f24.body [0]
noncomputable def reg24_1 := rg Try.f24.body [1, 0, 0, 0]
noncomputable def reg24_2 := rg Try.f24.body [1, 0, 0, 1, 0, 0]
noncomputable def reg24_3 := rg Try.f24.body [1, 0, 0, 1, 1, 0]
noncomputable def reg24_4 := rg Try.f24.body [1, 0, 0, 1, 1, 1, 0, 0]
noncomputable def reg24_5 := rg Try.f24.body [1, 1, 0]
theorem z24 : List.range reg24_0.size = [0] ∧ List.range reg24_1.size = [0, 1, 2, 3] ∧ List.range reg24_2.size = [0] ∧ List.range reg24_3.size = [0, 1, 2, 3, 4] ∧ List.range reg24_4.size = [0] ∧ List.range reg24_5.size = [0, 1, 2, 3, 4] := by refine ⟨?_, ?_, ?_, ?_, ?_, ?_⟩ <;> kernel_rfl
theorem code24_is : Try.f24.body = some (.seq (.region 0 reg24_0 false) (.seq (.block 0 (.seq (.region 1 reg24_1 false) (.cond (.tmp 5 ) (.seq (.region 2 reg24_2 false) (.ret)) (.seq (.region 3 reg24_3 false) (.cond (.tmp 9 ) (.seq (.region 4 reg24_4 false) (.ret)) (.skip)))))) (.seq (.region 5 reg24_5 false) (.ret)))) := by kernel_rfl
section
variable {main : Bool} {V : Nat → Option Wait} {rb sb n : Nat} {s : Rg}
theorem good_yes (q : Int) (w : World) (h0 : 0 ≤ q) : CallV Try.prog main V 75 #[.int .i64 q] w (.bool (decide (q < 4611686018427387904))) w := by
  refine callW_in Try.func75 code75_is fun fr cs => ?_
  simp only [Try.ntmps75, ez, Nat.reduceAdd, Nat.reduceSub]
  repeat (first | refine Walk.cx ?_ | (refine Walk.cReg ?_; simp only [z75]) | (refine Walk.oq ?_; try walk_nrm) | (refine Walk.un ?_; walk_nrm))
  exact Walk.ret1 rfl rfl Try.func75 rfl fun d => ⟨rfl, d, rfl⟩
theorem good_no (q : Int) (w : World) (h0 : ¬ 0 ≤ q) : CallV Try.prog main V 75 #[.int .i64 q] w (.bool false) w := by
  have h1 : q < 0 := by omega
  refine callW_in Try.func75 code75_is fun fr cs => ?_
  simp only [Try.ntmps75, ez, Nat.reduceAdd, Nat.reduceSub]
  repeat (first | refine Walk.cx ?_ | (refine Walk.cReg ?_; simp only [z75]) | (refine Walk.oq ?_; try walk_nrm) | (refine Walk.un ?_; walk_nrm))
  exact Walk.ret1 rfl rfl Try.func75 rfl fun d => ⟨rfl, d, rfl⟩
theorem good_w (q : Int) (w : World) : CallV Try.prog main V 75 #[.int .i64 q] w (.bool (decide (good q))) w := by
  by_cases h0 : 0 ≤ q
  · have e : decide (good q) = decide (q < 4611686018427387904) := by simp [good, h0]
    rw [e]
    exact good_yes q w h0
  · have e : decide (good q) = false := by simp [good, h0]
    rw [e]
    exact good_no q w h0
theorem size_w (w : World) (I : RgI rb sb n s w) : CallV Try.prog main V 19 #[.pointer (some ⟨rb, 0, none⟩)] w (.int .i64 (n : Nat)) w := by
  have c1 := I.size
  have hp1 := fun w => run_eql_ptr (P := Try.prog) 35 undRing (some ⟨rb, 0, none⟩) w
  have hp2 := fun w es => ev_eql_ptr (P := Try.prog) 35 undRing (some ⟨rb, 0, none⟩) w es
  simp only [Option.isNone_some] at hp1
  clear I
  refine callW_in Try.func19 code19_is fun fr cs => ?_
  simp only [Try.ntmps19, ez, Nat.reduceAdd, Nat.reduceSub]
  repeat (first | refine Walk.cx ?_ | (refine Walk.cReg ?_; simp only [z19]) | (refine Walk.oq ?_; try walk_nrm) | (refine Walk.un ?_; walk_nrm))
  exact Walk.ret1 rfl rfl Try.func19 rfl fun d => ⟨rfl, d, rfl⟩
theorem holds_yes (w : World) (I : RgI rb sb n s w) (q : Int) (h : good q) : CallV Try.prog main V 74 #[.pointer (some ⟨rb, 0, none⟩), .int .i64 q] w (.bool true) w := by
  have hg := good_w (main := main) (V := V) q w
  have hsz := size_w (main := main) (V := V) w I
  have hn := I.pos.1
  have hn1 : decide ((0 : Int) < (n : Int)) = true := by simp; omega
  have hn2 : decide (0 < n) = true := by simp; omega
  clear I
  have e : decide (good q) = true := by simp [h]
  rw [e] at hg
  refine callW_in Try.func74 code74_is fun fr cs => ?_
  simp only [Try.ntmps74, ez, Nat.reduceAdd, Nat.reduceSub]
  repeat (first | refine Walk.cx ?_ | (refine Walk.cReg ?_; simp only [z74]) | (refine Walk.oq ?_; try walk_nrm) | (refine Walk.un ?_; walk_nrm))
  refine Walk.callV (x := .bool true) (W := w) ?_ (ho_of (by conv => lhs; whnf) (by kernel_rfl)) (by rfl) (by decide) rfl Try.func75 (by kernel_rfl) (by rfl) ?_
  · walk_nrm
    exact hg
  walk_nrm
  repeat (first | refine Walk.cx ?_ | (refine Walk.cReg ?_; simp only [z74]) | (refine Walk.oq ?_; try walk_nrm) | (refine Walk.un ?_; walk_nrm))
  refine Walk.callV (x := .int .i64 (n : Nat)) (W := w) ?_ (ho_of (by conv => lhs; whnf) (by kernel_rfl)) (by rfl) (by decide) rfl Try.func19 (by kernel_rfl) (by rfl) ?_
  · walk_nrm
    exact hsz
  walk_nrm
  repeat (first | refine Walk.cx ?_ | (refine Walk.cReg ?_; simp only [z74]) | (refine Walk.oq ?_; try walk_nrm) | (refine Walk.un ?_; walk_nrm))
  exact Walk.ret1 rfl rfl Try.func74 rfl fun d => ⟨rfl, d, rfl⟩
theorem holds_no (r : Value) (w : World) (q : Int) (h : ¬ good q) : CallV Try.prog main V 74 #[r, .int .i64 q] w (.bool false) w := by
  have hg := good_w (main := main) (V := V) q w
  have e : decide (good q) = false := by simp [h]
  rw [e] at hg
  refine callW_in Try.func74 code74_is fun fr cs => ?_
  simp only [Try.ntmps74, ez, Nat.reduceAdd, Nat.reduceSub]
  repeat (first | refine Walk.cx ?_ | (refine Walk.cReg ?_; simp only [z74]) | (refine Walk.oq ?_; try walk_nrm) | (refine Walk.un ?_; walk_nrm))
  refine Walk.callV (x := .bool false) (W := w) ?_ (ho_of (by conv => lhs; whnf) (by kernel_rfl)) (by rfl) (by decide) rfl Try.func75 (by kernel_rfl) (by rfl) ?_
  · walk_nrm
    exact hg
  walk_nrm
  repeat (first | refine Walk.cx ?_ | (refine Walk.cReg ?_; simp only [z74]) | (refine Walk.oq ?_; try walk_nrm) | (refine Walk.un ?_; walk_nrm))
  exact Walk.ret1 rfl rfl Try.func74 rfl fun d => ⟨rfl, d, rfl⟩
theorem holds_w (w : World) (I : RgI rb sb n s w) (q : Int) : CallV Try.prog main V 74 #[.pointer (some ⟨rb, 0, none⟩), .int .i64 q] w (.bool (decide (good q))) w := by
  by_cases h : good q
  · rw [show decide (good q) = true by simp [h]]
    exact holds_yes w I q h
  · rw [show decide (good q) = false by simp [h]]
    exact holds_no _ w q h
theorem ixR_tmod {n : Nat} (hn : 1 ≤ n) {q : Int} (hq : 0 ≤ q) : q.tmod n = ((ixR n q : Nat) : Int) := by
  have h1 := Int.emod_nonneg q (show (n : Int) ≠ 0 by omega)
  rw [Int.tmod_eq_emod_of_nonneg hq]
  unfold ixR
  omega
theorem laR_tdiv {n : Nat} {q : Int} (hq : 0 ≤ q) : q.tdiv n = q / n := Int.tdiv_eq_ediv_of_nonneg hq
theorem slot_w (w : World) (I : RgI rb sb n s w) (q : Int) (hq : good q) : CallV Try.prog main V 23 #[.pointer (some ⟨rb, 0, none⟩), .int .i64 q] w (.int .i64 (ixR n q : Nat)) w := by
  have hh := holds_w (main := main) (V := V) w I q
  have hsz := size_w (main := main) (V := V) w I
  have e : decide (good q) = true := by simp [hq]
  rw [e] at hh
  have hn := I.pos
  have hm := ixR_tmod hn.1 hq.1
  have hn0 : ¬ ((n : Int) = 0) := by omega
  have hn1 : ¬ (n = 0) := by omega
  have hlt := ixR_lt hn.1 q
  have hw : IntKind.wrap .i64 (q.tmod n) = ((ixR n q : Nat) : Int) := by rw [hm, IntKind.wrap_i64]; omega
  clear I
  refine callW_in Try.func23 code23_is fun fr cs => ?_
  simp only [Try.ntmps23, ez, Nat.reduceAdd, Nat.reduceSub]
  repeat (first | refine Walk.cx ?_ | (refine Walk.cReg ?_; simp only [z23]) | (refine Walk.oq ?_; try walk_nrm) | (refine Walk.un ?_; walk_nrm))
  refine Walk.callV (x := .bool true) (W := w) ?_ (ho_of (by conv => lhs; whnf) (by kernel_rfl)) (by rfl) (by decide) rfl Try.func74 (by kernel_rfl) (by rfl) ?_
  · walk_nrm
    exact hh
  walk_nrm
  repeat (first | refine Walk.cx ?_ | (refine Walk.cReg ?_; simp only [z23]) | (refine Walk.oq ?_; try walk_nrm) | (refine Walk.un ?_; walk_nrm))
  refine Walk.callV (x := .int .i64 (n : Nat)) (W := w) ?_ (ho_of (by conv => lhs; whnf) (by kernel_rfl)) (by rfl) (by decide) rfl Try.func19 (by kernel_rfl) (by rfl) ?_
  · walk_nrm
    exact hsz
  walk_nrm
  repeat (first | refine Walk.cx ?_ | (refine Walk.cReg ?_; simp only [z23]) | (refine Walk.oq ?_; try walk_nrm) | (refine Walk.un ?_; walk_nrm))
  exact Walk.ret1 rfl rfl Try.func23 rfl fun d => ⟨by simp [hm, hw], d, rfl⟩
theorem lap_w (w : World) (I : RgI rb sb n s w) (q : Int) (hq : good q) : CallV Try.prog main V 24 #[.pointer (some ⟨rb, 0, none⟩), .int .i64 q] w (.int .i64 (q / n)) w := by
  have hg := good_w (main := main) (V := V) q w
  have hh := holds_w (main := main) (V := V) w I q
  have hsz := size_w (main := main) (V := V) w I
  have e : decide (good q) = true := by simp [hq]
  rw [e] at hh hg
  have hn := I.pos
  have hm := laR_tdiv (n := n) hq.1
  have hn0 : ¬ ((n : Int) = 0) := by omega
  have hn1 : ¬ (n = 0) := by omega
  have hb : 0 ≤ q / (n : Int) ∧ q / (n : Int) ≤ q := ⟨Int.ediv_nonneg hq.1 (by omega), Int.ediv_le_self _ hq.1⟩
  have hq2 := hq.2
  have hw : IntKind.wrap .i64 (q / (n : Int)) = q / n := by rw [IntKind.wrap_i64]; omega
  clear I
  refine callW_in Try.func24 code24_is fun fr cs => ?_
  simp only [Try.ntmps24, ez, Nat.reduceAdd, Nat.reduceSub]
  repeat (first | refine Walk.cx ?_ | (refine Walk.cReg ?_; simp only [z24]) | (refine Walk.oq ?_; try walk_nrm) | (refine Walk.un ?_; walk_nrm))
  refine Walk.callV (x := .bool true) (W := w) ?_ (ho_of (by conv => lhs; whnf) (by kernel_rfl)) (by rfl) (by decide) rfl Try.func75 (by kernel_rfl) (by rfl) ?_
  · walk_nrm
    exact hg
  walk_nrm
  repeat (first | refine Walk.cx ?_ | (refine Walk.cReg ?_; simp only [z24]) | (refine Walk.oq ?_; try walk_nrm) | (refine Walk.un ?_; walk_nrm))
  refine Walk.callV (x := .bool true) (W := w) ?_ (ho_of (by conv => lhs; whnf) (by kernel_rfl)) (by rfl) (by decide) rfl Try.func74 (by kernel_rfl) (by rfl) ?_
  · walk_nrm
    exact hh
  walk_nrm
  repeat (first | refine Walk.cx ?_ | (refine Walk.cReg ?_; simp only [z24]) | (refine Walk.oq ?_; try walk_nrm) | (refine Walk.un ?_; walk_nrm))
  refine Walk.callV (x := .int .i64 (n : Nat)) (W := w) ?_ (ho_of (by conv => lhs; whnf) (by kernel_rfl)) (by rfl) (by decide) rfl Try.func19 (by kernel_rfl) (by rfl) ?_
  · walk_nrm
    exact hsz
  walk_nrm
  repeat (first | refine Walk.cx ?_ | (refine Walk.cReg ?_; simp only [z24]) | (refine Walk.oq ?_; try walk_nrm) | (refine Walk.un ?_; walk_nrm))
  exact Walk.ret1 rfl rfl Try.func24 rfl fun d => ⟨by simp [hm, hw], d, rfl⟩
end
end
end Go.Proofs.Ytcdcnmphjhfbpaa
