/- Part 9. -/
import Derived.Test.YtcdcnmphjhfbpaaJ3
import Derived.Test.YtcdcnmphjhfbpaaJ6
import Derived.Test.YtcdcnmphjhfbpaaJ7
import Derived.Test.YtcdcnmphjhfbpaaJ8
set_option linter.unusedSimpArgs false
set_option linter.unusedVariables false
set_option maxHeartbeats 8000000
set_option maxRecDepth 100000
namespace Go.Proofs.Ytcdcnmphjhfbpaa
open Go.Conc Go.RowKit Go.Relay
open Go.ConcN (upd upd_ne upd_same)
section
noncomputable def reg110_0 := rg Try.f110.body [0]
noncomputable def reg110_1 := rg Try.f110.body [1, 0]
theorem size110_1 : reg110_1.size = 14 := by kernel_rfl
theorem z110 : List.range reg110_0.size = [0, 1] ∧ List.range reg110_1.size = [0, 1, 2, 3, 4, 5, 6, 7, 8, 9, 10, 11, 12, 13] := by refine ⟨?_, ?_⟩ <;> kernel_rfl
theorem code110_is : Try.f110.body = some (.seq (.region 0 reg110_0 false) (.seq (.region 1 reg110_1 true) (.ret))) := by kernel_rfl
noncomputable def reg60_0 := rg Try.f60.body [0]
noncomputable def reg60_1 := rg Try.f60.body [1, 0, 0]
noncomputable def reg60_2 := rg Try.f60.body [1, 0, 1, 0, 0]
noncomputable def reg60_3 := rg Try.f60.body [1, 1, 0]
noncomputable def reg60_4 := rg Try.f60.body [1, 1, 1, 0]
noncomputable def reg60_5 := rg Try.f60.body [1, 1, 1, 1, 0]
noncomputable def reg60_6 := rg Try.f60.body [1, 1, 1, 1, 1, 0]
noncomputable def reg60_7 := rg Try.f60.body [1, 1, 1, 1, 1, 1, 0]
theorem z60 : List.range reg60_0.size = [0] ∧ List.range reg60_1.size = [0, 1, 2, 3] ∧ List.range reg60_2.size = [0] ∧ List.range reg60_3.size = [0, 1, 2, 3, 4, 5, 6, 7] ∧ List.range reg60_4.size = [0, 1, 2, 3, 4, 5, 6] ∧ List.range reg60_5.size = [0, 1, 2, 3, 4, 5] ∧ List.range reg60_6.size = [0, 1, 2, 3, 4, 5] ∧ List.range reg60_7.size = [0] := by refine ⟨?_, ?_, ?_, ?_, ?_, ?_, ?_, ?_⟩ <;> kernel_rfl
theorem code60_is : Try.f60.body = some (.seq (.region 0 reg60_0 false) (.seq (.seq (.region 1 reg60_1 false) (.cond (.tmp 14 ) (.seq (.region 2 reg60_2 false) (.ret)) (.skip))) (.seq (.region 3 reg60_3 false) (.seq (.region 4 reg60_4 false) (.seq (.region 5 reg60_5 false) (.seq (.region 6 reg60_6 false) (.seq (.region 7 reg60_7 false) (.ret)))))))) := by kernel_rfl
theorem laR_in {n : Nat} (hn : 1 ≤ n) {q : Int} (hq : good q) : 0 ≤ laR n q ∧ laR n q < 9223372036854775808 := by
  have hb : 0 ≤ q / (n : Int) ∧ q / (n : Int) ≤ q := ⟨Int.ediv_nonneg hq.1 (by omega), Int.ediv_le_self _ hq.1⟩
  have := hq.2
  unfold laR
  omega
section
variable {main : Bool} {V : Nat → Option Wait} {rb sb n : Nat} {s : Rg}
theorem at_w (w : World) (I : RgI rb sb n s w) (q : Int) (hq : good q) : CallV Try.prog main V 110 #[.pointer (some ⟨rb, 0, none⟩), .int .i64 q] w (.tuple #[.pointer (some ⟨sb, ixR n q * 2, none⟩), .int .i64 (laR n q)]) w := by
  have hsl := slot_w (main := main) (V := V) w I q hq
  have hlp := lap_w (main := main) (V := V) w I q hq
  have c1 := I.size
  have hn := I.pos
  have hb := laR_in hn.1 hq
  have hw : IntKind.wrap .i64 (2 * (q / (n : Int))) = laR n q := by
    have e : laR n q = 2 * (q / (n : Int)) := rfl
    rw [← e, IntKind.wrap_i64]
    omega
  have hlt := ixR_lt hn.1 q
  have hl1 : ((ixR n q : Nat) : Int) < (n : Int) := by omega
  generalize laR n q = la at *
  generalize ixR n q = ix at *
  generalize q / (n : Int) = qn at *
  clear I
  refine callW_in Try.func110 code110_is fun fr cs => ?_
  simp only [Try.ntmps110, ez, Nat.reduceAdd, Nat.reduceSub]
  repeat (first | refine Walk.cx ?_ | (refine Walk.cReg ?_; simp only [z110]) | (refine Walk.oq ?_; try walk_nrm) | (refine Walk.un ?_; walk_nrm))
  (refine Walk.drawnCW (by kernel_rfl) size110_1 (by kernel_rfl) (by kernel_rfl) (by decide) ?_; simp only [List.range, List.range.loop]; repeat (first | (refine Cm.oq ?_) | (refine Cm.unw (ho_of (by conv => lhs; whnf) (by kernel_rfl)) (by rfl) ?_; walk_nrm)))
  refine Cm.callV (x := .int .i64 (ix : Nat)) ?_ (ho_of (by conv => lhs; whnf) (by kernel_rfl)) (by rfl) rfl Try.func23 (by kernel_rfl) (by rfl) ?_
  · intro w' he
    subst he
    walk_nrm
    exact hsl
  walk_nrm
  repeat (first | (refine Cm.oq ?_) | (refine Cm.unw (ho_of (by conv => lhs; whnf) (by kernel_rfl)) (by rfl) ?_; walk_nrm))
  refine Cm.callV (x := .int .i64 qn) ?_ (ho_of (by conv => lhs; whnf) (by kernel_rfl)) (by rfl) rfl Try.func24 (by kernel_rfl) (by rfl) ?_
  · intro w' he
    subst he
    walk_nrm
    exact hlp
  walk_nrm
  repeat (first | (refine Cm.oq ?_) | (refine Cm.unw (ho_of (by conv => lhs; whnf) (by kernel_rfl)) (by rfl) ?_; walk_nrm))
  refine Cm.done ?_
  repeat (first | refine Walk.cx ?_ | (refine Walk.cReg ?_; simp only [z110]) | (refine Walk.oq ?_; try walk_nrm) | (refine Walk.un ?_; walk_nrm))
  exact Walk.on2 rfl rfl Try.func110 rfl (.stop fun d => ⟨_, ⟨rfl, d, rfl⟩, rfl⟩)
end
section
variable {rb sb n : Nat} {sv : Value}
theorem load_stp (K : Lg (rgLa rb sb n) sv) (i : Nat) (hi : i < n) (e : K.E) (d : RD) (ht : K.tgt e = (K.s e, .inr d)) : SCall K.toLb 100 #[.pointer (some ⟨sb, i * 2, none⟩), sv] e (fun v e' => Aft K.toLb e d e' ∧ v = .int .i64 ((K.s e' : Rg).st i)) := word_load K (stpW i hi) e d trivial ht
theorem load_vlu (K : Lg (rgLa rb sb n) sv) (i : Nat) (hi : i < n) (e : K.E) (d : RD) (ht : K.tgt e = (K.s e, .inr d)) : SCall K.toLb 100 #[.pointer (some ⟨sb, i * 2 + 1, none⟩), sv] e (fun v e' => Aft K.toLb e d e' ∧ v = .int .i64 ((K.s e' : Rg).va i)) := word_load K (vluW i hi) e d trivial ht
theorem store_stp (K : Lg (rgLa rb sb n) sv) (i : Nat) (hi : i < n) (e : K.E) (d : RD) (x : Int) (ht : K.tgt e = (K.s e, .inr d)) : SCall K.toLb 71 #[.pointer (some ⟨sb, i * 2, none⟩), sv, .int .i64 x] e (fun _ e' => ∃ s : Rg, Wrote K e d s (rgPutS s i x) e') := word_store K (stpW i hi) e d x trivial trivial ht
theorem store_vlu (K : Lg (rgLa rb sb n) sv) (i : Nat) (hi : i < n) (e : K.E) (d : RD) (x : Int) (ht : K.tgt e = (K.s e, .inr d)) : SCall K.toLb 71 #[.pointer (some ⟨sb, i * 2 + 1, none⟩), sv, .int .i64 x] e (fun _ e' => ∃ s : Rg, Wrote K e d s (rgPutV s i x) e') := word_store K (vluW i hi) e d x trivial trivial ht
end
end
noncomputable def reg61_0 := rg Try.f61.body [0]
noncomputable def reg61_1 := rg Try.f61.body [1, 0, 0]
noncomputable def reg61_2 := rg Try.f61.body [1, 0, 1, 0, 0]
noncomputable def reg61_3 := rg Try.f61.body [1, 1, 0]
noncomputable def reg61_4 := rg Try.f61.body [1, 1, 1, 0, 0]
noncomputable def reg61_5 := rg Try.f61.body [1, 1, 1, 0, 1, 0, 0]
noncomputable def reg61_6 := rg Try.f61.body [1, 1, 1, 0, 1, 0, 1, 0, 0]
noncomputable def reg61_7 := rg Try.f61.body [1, 1, 1, 0, 1, 0, 1, 1, 0]
noncomputable def reg61_8 := rg Try.f61.body [1, 1, 1, 0, 1, 0, 1, 1, 1, 0, 0]
noncomputable def reg61_9 := rg Try.f61.body [1, 1, 1, 1, 0]
noncomputable def reg61_10 := rg Try.f61.body [1, 1, 1, 1, 1, 0, 0]
noncomputable def reg61_11 := rg Try.f61.body [1, 1, 1, 1, 1, 0, 1, 0, 0]
noncomputable def reg61_12 := rg Try.f61.body [1, 1, 1, 1, 1, 1, 0]
theorem z61 : List.range reg61_0.size = [0, 1] ∧ List.range reg61_1.size = [0, 1, 2, 3] ∧ List.range reg61_2.size = [0, 1] ∧ List.range reg61_3.size = [0, 1, 2, 3, 4, 5, 6, 7] ∧ List.range reg61_4.size = [0, 1, 2, 3, 4, 5] ∧ List.range reg61_5.size = [0, 1, 2, 3] ∧ List.range reg61_6.size = [0, 1] ∧ List.range reg61_7.size = [0, 1, 2, 3] ∧ List.range reg61_8.size = [0, 1] ∧ List.range reg61_9.size = [0, 1, 2, 3, 4, 5] ∧ List.range reg61_10.size = [0, 1, 2, 3, 4, 5, 6] ∧ List.range reg61_11.size = [0, 1] ∧ List.range reg61_12.size = [0, 1, 2] := by refine ⟨?_, ?_, ?_, ?_, ?_, ?_, ?_, ?_, ?_, ?_, ?_, ?_, ?_⟩ <;> kernel_rfl
theorem code61_is : Try.f61.body = some (.seq (.region 0 reg61_0 false) (.seq (.seq (.region 1 reg61_1 false) (.cond (.tmp 15 ) (.seq (.region 2 reg61_2 false) (.ret)) (.skip))) (.seq (.region 3 reg61_3 false) (.seq (.seq (.region 4 reg61_4 false) (.block 0 (.seq (.region 5 reg61_5 false) (.cond (.tmp 27 ) (.seq (.region 6 reg61_6 false) (.ret)) (.seq (.region 7 reg61_7 false) (.cond (.tmp 31 ) (.seq (.region 8 reg61_8 false) (.ret)) (.skip))))))) (.seq (.region 9 reg61_9 false) (.seq (.seq (.region 10 reg61_10 false) (.cond (.tmp 46 ) (.seq (.region 11 reg61_11 false) (.ret)) (.skip))) (.seq (.region 12 reg61_12 false) (.ret)))))))) := by kernel_rfl
noncomputable def reg73_0 := rg Try.f73.body [0]
noncomputable def reg73_1 := rg Try.f73.body [1, 0, 0]
noncomputable def reg73_2 := rg Try.f73.body [1, 0, 1, 0, 0]
noncomputable def reg73_3 := rg Try.f73.body [1, 1, 0]
noncomputable def reg73_4 := rg Try.f73.body [1, 1, 1, 0, 0, 0, 0, 0]
noncomputable def reg73_5 := rg Try.f73.body [1, 1, 1, 0, 0, 0, 1, 0, 0]
noncomputable def reg73_7 := rg Try.f73.body [1, 1, 1, 0, 0, 0, 1, 0, 1, 0, 0]
noncomputable def reg73_8 := rg Try.f73.body [1, 1, 1, 0, 0, 0, 1, 0, 1, 0, 1, 0]
noncomputable def reg73_9 := rg Try.f73.body [1, 1, 1, 0, 0, 0, 1, 0, 1, 0, 1, 1, 0]
noncomputable def reg73_10 := rg Try.f73.body [1, 1, 1, 0, 0, 0, 1, 0, 1, 0, 1, 1, 1, 0, 0]
noncomputable def reg73_6 := rg Try.f73.body [1, 1, 1, 0, 0, 0, 1, 0, 1, 0, 1, 1, 1, 1, 0]
noncomputable def reg73_11 := rg Try.f73.body [1, 1, 1, 1, 0]
theorem z73 : List.range reg73_0.size = [0, 1] ∧ List.range reg73_1.size = [0, 1, 2, 3] ∧ List.range reg73_2.size = [0, 1] ∧ List.range reg73_3.size = [0] ∧ List.range reg73_4.size = [0, 1, 2, 3, 4, 5, 6] ∧ List.range reg73_5.size = [0, 1, 2, 3, 4, 5, 6, 7, 8, 9, 10, 11] ∧ List.range reg73_6.size = [0, 1, 2] ∧ List.range reg73_7.size = [0, 1, 2] ∧ List.range reg73_8.size = [0, 1, 2, 3, 4] ∧ List.range reg73_9.size = [0, 1, 2, 3] ∧ List.range reg73_10.size = [0, 1, 2] ∧ List.range reg73_11.size = [0, 1, 2] := by refine ⟨?_, ?_, ?_, ?_, ?_, ?_, ?_, ?_, ?_, ?_, ?_, ?_⟩ <;> kernel_rfl
theorem code73_is : Try.f73.body = some (.seq (.region 0 reg73_0 false) (.seq (.seq (.region 1 reg73_1 false) (.cond (.tmp 16 ) (.seq (.region 2 reg73_2 false) (.ret)) (.skip))) (.seq (.region 3 reg73_3 false) (.seq (.block 0 (.loop (.seq (.seq (.region 4 reg73_4 false) (.cond (.tmp 23 ) (.skip) (.exit 0))) (.block 1 (.seq (.region 5 reg73_5 false) (.block 2 (.seq (.region 7 reg73_7 false) (.cond (.tmp 35 ) (.region 8 reg73_8 false) (.seq (.region 9 reg73_9 false) (.cond (.tmp 42 ) (.seq (.region 10 reg73_10 false) (.ret)) (.seq (.region 6 reg73_6 false) (.ret)))))))))))) (.seq (.region 11 reg73_11 false) (.ret)))))) := by kernel_rfl
noncomputable def hdGa (rb : Nat) (sv al : Value) (a m : Int) (u : Nat → Value) : Frame :=
  (base 73).at { tmps := #[.pointer (some ⟨rb, 0, none⟩), sv, .int .i64 a, .int .i64 m, u 4, u 5, u 6, u 7, .slice none 0 0, .int .i64 0, al, u 11, u 12, u 13, u 14, u 15, u 16, u 17, u 18, u 19, u 20, u 21, u 22, u 23, u 24, u 25, u 26, u 27, u 28, u 29, u 30, u 31, u 32, u 33, u 34, u 35, u 36, u 37, u 38, u 39, u 40, u 41, u 42, u 43, u 44, u 45, u 46, u 47], defers := [] } [.code (.seq (.seq (.region 4 reg73_4 false) (.cond (.tmp 23 ) (.skip) (.exit 0))) (.block 1 (.seq (.region 5 reg73_5 false) (.block 2 (.seq (.region 7 reg73_7 false) (.cond (.tmp 35 ) (.region 8 reg73_8 false) (.seq (.region 9 reg73_9 false) (.cond (.tmp 42 ) (.seq (.region 10 reg73_10 false) (.ret)) (.seq (.region 6 reg73_6 false) (.ret)))))))))), .inLoop (.seq (.seq (.region 4 reg73_4 false) (.cond (.tmp 23 ) (.skip) (.exit 0))) (.block 1 (.seq (.region 5 reg73_5 false) (.block 2 (.seq (.region 7 reg73_7 false) (.cond (.tmp 35 ) (.region 8 reg73_8 false) (.seq (.region 9 reg73_9 false) (.cond (.tmp 42 ) (.seq (.region 10 reg73_10 false) (.ret)) (.seq (.region 6 reg73_6 false) (.ret)))))))))), .inBlock 0, .code (.seq (.region 11 reg73_11 false) (.ret))]
theorem get_no {main : Bool} {V : Nat → Option Wait} (r sv : Value) (q : Int) (hq : ¬ good q) (w : World) : CallV Try.prog main V 61 #[r, sv, .int .i64 q] w (.tuple #[.int .i64 0, .int .i64 1]) w := by
  have hno := holds_no (main := main) (V := V) r w q hq
  refine callW_in Try.func61 code61_is fun fr cs => ?_
  simp only [Try.ntmps61, ez, Nat.reduceAdd, Nat.reduceSub]
  repeat (first | refine Walk.cx ?_ | (refine Walk.cReg ?_; simp only [z61]) | (refine Walk.oq ?_; try walk_nrm) | (refine Walk.un ?_; walk_nrm))
  refine Walk.callV (x := .bool false) (W := w) ?_ (ho_of (by conv => lhs; whnf) (by kernel_rfl)) (by rfl) (by decide) rfl Try.func74 (by kernel_rfl) (by rfl) ?_
  · walk_nrm
    exact hno
  walk_nrm
  repeat (first | refine Walk.cx ?_ | (refine Walk.cReg ?_; simp only [z61]) | (refine Walk.oq ?_; try walk_nrm) | (refine Walk.un ?_; walk_nrm))
  exact Walk.on2 rfl rfl Try.func61 rfl (.stop fun d => ⟨_, ⟨rfl, d, rfl⟩, rfl⟩)
def GatL {L : La} {sv : Value} (K : Lg L sv) (e : K.E) (sl : Value) (ls : List Int) : Prop := (∃ a c, sl = .slice a ls.length c) ∧ (K.w e).ownsRow 0 2 1 sl ls.length (ls.map fun z => .int .i64 z) ∧ ∀ b, sl.ownBlock = some b → K.mine e b
def gaD (n : Nat) (a : Int) (m : Int) (ls : List Int) : Ans ⊕ RD := if (ls.length : Int) < m ∧ good (a + ls.length) then .inr (.a1 (a + ls.length) m ls) else .inl ⟨true, 0, ls⟩
section
structure OSt (L : La) (g : OG) (S : Stile) : Prop where
  n : S.n = g.n
  alo : g.A < g.w0.heap.size
  tbs : ¬ g.sh S.tb ∧ S.tb ≠ g.A
  tb : ∀ i, i < g.n → g.w0.cell? ⟨S.tb, i, none⟩ = some (S.F i)
  sch : ∀ (j : Nat) (z : Int), S.sl[j]? = some z → ∃ s so, S.sa = some ⟨s, so, none⟩ ∧ g.w0.cell? ⟨s, so + j, none⟩ = some (.int .i64 z) ∧ ¬ g.sh s ∧ s ≠ g.A
def t0 (L : La) : Tst L := ⟨[], none, []⟩
structure OInv (L : La) (g : OG) (S : Stile) (k : Nat) (o : Nat → Option Role) (x : OX L) (cs : Nat → List Frame) (w : World) (pr : Nat → Option Nat) (hd : Nat → Value) (y : L.Gh) : Prop where
  st : OSt L g S
  kn : k ≤ g.n
  size : g.w0.heap.size ≤ w.heap.size
  base : ∀ b, b < g.w0.heap.size → o b = none
  old : ∀ b, b < g.w0.heap.size → ¬ g.sh b → b ≠ g.A → w.heap[b]? = g.w0.heap[b]?
  prl : ∀ b i, pr b = some i → g.w0.heap.size ≤ b ∧ b < w.heap.size ∧ o b = none ∧ ¬ L.sh y b
  shl : ∀ b, L.sh y b → o b = none ∧ b ≠ g.A ∧ b < w.heap.size ∧ (b < g.w0.heap.size → g.sh b)
  I : L.I y x.s w
  an : ∃ arr : Array Value, w.heap[g.A]? = some (.cells arr 44) ∧ arr.size = g.n ∧ ∀ i, i < g.n → arr[i]? = some (hd i)
  row : ∀ i, i < g.n → RowA g.w0.heap.size (fun b => pr b = some i) (hd i) (x.th i).ans w
  cont : ∀ i, i < k → i < g.n → x.out i = none → (x.th i).d.isSome = true ∧ cs i ≠ [] ∧ (∀ f ∈ cs i, Plain f) ∧ Cont L g S i (1048577 - x.cnt) (x.th i) (cs i) y (hd i) (fun b => pr b = some i) w
  fresh : ∀ i, k ≤ i → i < g.n → x.th i = t0 L
theorem cell_lt' {w : World} {b i : Nat} {v : Value} (h : w.cell? ⟨b, i, none⟩ = some v) : b < w.heap.size := by
  unfold World.cell? at h
  split at h
  · rename_i h'; exact (Array.getElem?_eq_some_iff.1 h').1
  · cases h
section
variable {L : La} {g : OG} {S : Stile} {k : Nat} {o o' : Nat → Option Role} {x : OX L} {cs : Nat → List Frame} {w w' : World} {pr : Nat → Option Nat} {hd : Nat → Value} {y yb : L.Gh}
theorem OInv.cell (P : OInv L g S k o x cs w pr hd y) {b i : Nat} {v : Value} (h : g.w0.cell? ⟨b, i, none⟩ = some v) (hs : ¬ g.sh b) (hA : b ≠ g.A) : w.cell? ⟨b, i, none⟩ = some v :=
  (World.cell?_of_block (a := ⟨b, i, none⟩) (P.old b (cell_lt' h) hs hA)).trans h
theorem OInv.rely (P : OInv L g S k o x cs w pr hd y) {V : Nat → Option Wait} {i : Nat} (hi : i < g.n) (hA : ∀ b, o b = none → Apart V b) (hlt : ∀ b r, o b = some r → b < w.heap.size) : Rely L g i V y w (hd i) (fun b => pr b = some i) := by
  refine ⟨P.size, P.old, ?_, fun b e => ⟨(P.prl b i e).1, (P.prl b i e).2.1, (P.prl b i e).2.2.2⟩, fun b e => hA b ?_, fun b h => (P.shl b h).2, P.st.alo, (P.row i hi).hdo⟩
  · obtain ⟨arr, ha, hz, hr⟩ := P.an
    exact ⟨arr, ha, hr i hi⟩
  · rcases e with e | e | e | e
    · exact P.base b e
    · exact (P.prl b i e).2.2.1
    · cases ho : o b with
      | none => rfl
      | some r => have := hlt b r ho; omega
    · exact (P.shl b e).1
end
end
section
noncomputable def reg120_0 := rg Try.f120.body [0]
noncomputable def reg120_1 := rg Try.f120.body [1, 0]
theorem z120 : List.range reg120_0.size = [0, 1] ∧ List.range reg120_1.size = [0, 1] := by refine ⟨?_, ?_⟩ <;> kernel_rfl
theorem code120_is : Try.f120.body = some (.seq (.region 0 reg120_0 false) (.cond (.tmp 3 ) (.region 1 reg120_1 false) (.skip))) := by kernel_rfl
theorem undStepper : ∃ ms, Try.prog.underlying 137 = some (.interface ms) := by
  have h : (match Try.prog.underlying 137 with | some (.interface _) => true | _ => false) = true := by kernel_rfl
  revert h
  cases Try.prog.underlying 137 with
  | none => simp
  | some d =>
    cases d with
    | interface fs => exact fun _ => ⟨fs, rfl⟩
    | _ => simp
structure EC (L : La) (g : OG) (S : Stile) (i : Nat) where
  τ : Tn L
  N : Nat
  w : World
  y : L.Gh
  s : L.Sg
  ans : List Ans
  hd : Value
  le : L.le τ.y y
  size : τ.w.heap.size ≤ w.heap.size
  frame : ∀ b, b < τ.w.heap.size → ¬ τ.M b → ¬ L.sh τ.y b → b ≠ g.A → w.heap[b]? = τ.w.heap[b]?
  pub : ∀ b, L.sh y b → L.sh τ.y b ∨ τ.M b ∨ τ.w.heap.size ≤ b
  rely : ∃ hd0, Rely L g i τ.V τ.y τ.w hd0 τ.M
  an : AnT g i τ.w w hd
  row : RowA g.w0.heap.size (ownT τ y w) hd ans w
  inv : L.I y s w
structure OC where
  left : List OpV
  ans : List Ans
  hd : Value
  K : Nat → Prop
  wK : World
structure EO (L : La) (g : OG) (S : Stile) (i : Nat) (c : OC) extends EC L g S i where
  tgt : L.Sg × (Ans ⊕ L.D)
  eqA : ans = c.ans
  eqH : hd = c.hd
  goal : τ.goal = landO L (i : Nat) tgt c.left ans
  Kown : ∀ b, c.K b → ownT τ y w b
  kept : ∀ b, c.K b → w.heap[b]? = c.wK.heap[b]?
  rowK : RowA g.w0.heap.size c.K hd ans w
section
variable {L : La} {g : OG} {S : Stile} {i : Nat} {c : OC}
theorem EC.lo (e : EC L g S i) {b : Nat} (h : ownT e.τ e.y e.w b) : g.w0.heap.size ≤ b ∧ b < e.w.heap.size := by
  obtain ⟨hd0, r⟩ := e.rely
  have := e.size
  rcases h.1 with h | h
  · have := r.lo b h; omega
  · have := r.size; omega
theorem EC.noA (e : EC L g S i) {b : Nat} (h : ownT e.τ e.y e.w b) : ¬ L.sh e.y b ∧ b ≠ g.A := by
  obtain ⟨hd0, r⟩ := e.rely
  have h1 := e.lo h
  exact ⟨h.2, fun h => by have := r.alo; omega⟩
theorem EC.shb (e : EC L g S i) {b : Nat} (h : L.sh e.y b) : b ≠ g.A ∧ (b < g.w0.heap.size → g.sh b) := by
  obtain ⟨hd0, r⟩ := e.rely
  rcases e.pub b h with h | h | h
  · exact ⟨(r.shlo b h).1, (r.shlo b h).2.2⟩
  · have := r.lo b h; have := r.alo; exact ⟨by omega, fun _ => by omega⟩
  · have := r.alo; have := r.size; exact ⟨by omega, fun _ => by omega⟩
theorem EC.apart (e : EC L g S i) {b : Nat} (h : b < g.w0.heap.size ∨ ownT e.τ e.y e.w b ∨ e.w.heap.size ≤ b ∨ L.sh e.y b) : Apart e.τ.V b := by
  obtain ⟨hd0, r⟩ := e.rely
  have := e.size
  refine r.apart b ?_
  rcases h with h | h | h | h
  · exact .inl h
  · rcases h.1 with h | h
    · exact .inr (.inl h)
    · exact .inr (.inr (.inl h.1))
  · exact .inr (.inr (.inl (by omega)))
  · rcases e.pub b h with h | h | h
    · exact .inr (.inr (.inr h))
    · exact .inr (.inl h)
    · exact .inr (.inr (.inl h))
theorem EC.hdo (e : EC L g S i) : ∀ b, e.hd.ownBlock = some b → ownT e.τ e.y e.w b := e.row.hdo
def crewB (L : La) (g : OG) (S : Stile) (i : Nat) (c : OC) : Lb L where
  main := false
  E := EO L g S i c
  V := fun e => e.τ.V
  Stop := fun e => StopT L g S i (Cont L g S i e.N) e.τ
  bot := fun e => e.τ.f :: e.τ.fs
  w := fun e => e.w
  s := fun e => e.s
  gh := fun e => e.y
  tgt := fun e => e.tgt
  fuel := fun e => e.N
  mine := fun e b => ownT e.τ e.y e.w b ∧ ¬ c.K b
theorem EO.mg (e : EO L g S i c) (y' : L.Gh) (s' : L.Sg) (w' : World) (hle : L.le e.y y') (hs : e.w.heap.size ≤ w'.heap.size) (hsame : ∀ b, b < e.w.heap.size → ¬ (ownT e.τ e.y e.w b ∧ ¬ c.K b) → ¬ L.sh e.y b → w'.heap[b]? = e.w.heap[b]?) (hI : L.I y' s' w')
    (hpub : ∀ b, L.sh y' b → L.sh e.y b ∨ (ownT e.τ e.y e.w b ∧ ¬ c.K b) ∨ e.w.heap.size ≤ b) : ∃ e' : EO L g S i c, Mg (crewB L g S i c) e e' y' s' w' := by
  obtain ⟨hd0, r⟩ := e.rely
  have hK : ∀ b, c.K b → w'.heap[b]? = e.w.heap[b]? := fun b h => hsame b (e.lo (e.Kown b h)).2 (fun x => x.2 h) (e.noA (e.Kown b h)).1
  have hA : w'.heap[g.A]? = e.w.heap[g.A]? := hsame _ (by have := r.alo; have := r.size; have := e.size; omega) (fun x => by have := (e.lo x.1).1; have := r.alo; omega) (fun h => (e.shb h).1 rfl)
  have hKn : ∀ b, c.K b → ¬ L.sh y' b := fun b h hs => by
    rcases hpub b hs with h1 | h1 | h1
    · exact (e.noA (e.Kown b h)).1 h1
    · exact h1.2 h
    · have := (e.lo (e.Kown b h)).2; omega
  have hown : ∀ b, ownT e.τ e.y e.w b → ¬ L.sh y' b → ownT e.τ y' w' b := fun b h hn => ⟨h.1.imp id fun h => ⟨h.1, by omega⟩, hn⟩
  have hKo : ∀ b, c.K b → ownT e.τ y' w' b := fun b h => hown b (e.Kown b h) (hKn b h)
  refine ⟨{ τ := e.τ, N := e.N, w := w', y := y', s := s', ans := e.ans, hd := e.hd, le := L.trans e.le hle, size := Nat.le_trans e.size hs, frame := fun b h1 h2 h3 h4 => ?_, pub := fun b h => ?_, rely := e.rely, an := ?_, row := (e.rowK.same hK).imp hKo, inv := hI, tgt := e.tgt, eqA := e.eqA, eqH := e.eqH, goal := e.goal, Kown := hKo, kept := fun b h => (hK b h).trans (e.kept b h), rowK := e.rowK.same hK }, ⟨rfl, rfl, rfl, rfl, rfl, rfl, rfl, rfl, fun b => ?_⟩⟩
  · refine (hsame b (Nat.lt_of_lt_of_le h1 e.size) (fun x => ?_) (fun x => ?_)).trans (e.frame b h1 h2 h3 h4)
    · rcases x.1.1 with h | h
      · exact h2 h
      · have := h.1; omega
    · rcases e.pub b x with h | h | h
      · exact h3 h
      · exact h2 h
      · omega
  · rcases hpub b h with h | h | h
    · exact e.pub b h
    · rcases h.1.1 with h | h
      · exact .inr (.inl h)
      · exact .inr (.inr h.1)
    · exact .inr (.inr (Nat.le_trans e.size h))
  · obtain ⟨arr, arr', h1, h2, h3⟩ := e.an
    exact ⟨arr, arr', h1, hA.trans h2, h3⟩
  · show (ownT e.τ y' w' b ∧ ¬ c.K b) ↔ ((ownT e.τ e.y e.w b ∧ ¬ c.K b) ∨ (e.w.heap.size ≤ b ∧ b < w'.heap.size)) ∧ ¬ L.sh y' b
    constructor
    · rintro ⟨⟨h | h, hn⟩, hk⟩
      · exact ⟨.inl ⟨⟨.inl h, fun hs => hn (L.mono hle hs)⟩, hk⟩, hn⟩
      · refine ⟨?_, hn⟩
        by_cases hb : b < e.w.heap.size
        · exact .inl ⟨⟨.inr ⟨h.1, hb⟩, fun hs => hn (L.mono hle hs)⟩, hk⟩
        · exact .inr ⟨by omega, h.2⟩
    · rintro ⟨⟨h, hk⟩ | h, hn⟩
      · exact ⟨hown b h hn, hk⟩
      · exact ⟨⟨.inr ⟨Nat.le_trans e.size h.1, h.2⟩, hn⟩, fun hk => by have := (e.lo (e.Kown b hk)).2; omega⟩
theorem EO.step (e : EO L g S i c) (d : L.D) (ht : e.tgt = (e.s, .inr d)) (fr : Frame) (l : List Frame) (hp : Plain fr) (hl : ∀ f ∈ l, Plain f) (hk : ∀ e' : EO L g S i c, Aft (crewB L g S i c) e d e' → LW (crewB L g S i c) e' (G (fr.finish (.tuple #[])) (l ++ e'.τ.f :: e'.τ.fs))) :
    LW (crewB L g S i c) e (G (Frame.enter Try.prog 120 #[.iface 259 (.pointer (some ⟨S.p i, 0, none⟩))] .normal) (fr :: (l ++ e.τ.f :: e.τ.fs))) := by
  obtain ⟨ms, hu⟩ := undStepper
  have hn1 := fun w => run_neq_iface (P := Try.prog) (w := w) 137 259 (.pointer (some ⟨S.p i, 0, none⟩)) hu
  have hn2 := fun w es => ev_neq_iface (P := Try.prog) (w := w) 137 259 (.pointer (some ⟨S.p i, 0, none⟩)) es hu
  unfold LW
  show Walk Try.prog false (DR e.τ.V) (StopT L g S i (Cont L g S i e.N) e.τ) _ e.w
  rw [enter_at _ Try.func120 code120_is]
  simp only [Try.ntmps120, ez, Nat.reduceAdd, Nat.reduceSub]
  repeat (first | refine Walk.cx ?_ | (refine Walk.cReg ?_; simp only [z120]) | (refine Walk.oq ?_; try walk_nrm) | (refine Walk.un ?_; walk_nrm))
  refine Walk.invokeStep (S.p i) (ho_of (by conv => lhs; whnf) (by kernel_rfl)) (by rfl) (by decide) rfl rfl ?_
  generalize hX : Frame.at _ _ _ = X
  have hgoal : e.τ.goal = (e.s, ⟨c.left, some d, e.ans⟩) := by rw [e.goal, ht]; rfl
  refine .stop fun dr => ⟨e.y, e.le, e.size, e.frame, ?_, e.pub, e.hd, e.an, ?_, .inr ⟨X :: fr :: l, ?_, by simp, ?_, ?_, rfl⟩⟩
  · rw [hgoal]; exact L.stable e.inv fun _ _ => rfl
  · rw [hgoal]; exact e.row.same fun _ _ => rfl
  · rw [hgoal]; rfl
  · intro x hx
    rcases List.mem_cons.1 hx with rfl | hx
    · subst hX; exact ⟨rfl, rfl, _, Try.func120⟩
    · rcases List.mem_cons.1 hx with rfl | hx
      · exact hp
      · exact hl x hx
  · rw [hgoal]
    have hN : ∀ N', e.N = N' → Cont L g S i N' ⟨c.left, some d, e.ans⟩ (X :: fr :: l) e.y e.hd (ownT e.τ e.y (e.w.at dr)) (e.w.at dr) := fun N' hN' => by
      cases N' with
      | zero => trivial
      | succ n =>
        intro V f fs y' w' s' c1 l' d' h0 h1 h2 h3 h4 h5 h6
        obtain rfl : d = d' := Option.some.inj h5
        obtain ⟨rfl, rfl⟩ := List.cons.inj h6
        rw [← hX, Frame.finish_at]
        repeat (first | (refine Walk.oq ?_; try walk_nrm) | (refine Walk.un ?_; walk_nrm))
        repeat (first | refine Walk.cx ?_ | (refine Walk.cReg ?_; simp only [z120]) | (refine Walk.oq ?_; try walk_nrm) | (refine Walk.un ?_; walk_nrm))
        refine Walk.on0 rfl rfl Try.func120 rfl ?_
        have hKo : ∀ b, c.K b → ownT (⟨V, f, fs, w', y', ownT e.τ e.y e.w, landO L (i : Nat) (L.act s' d) c.left e.ans⟩ : Tn L) y' w' b := fun b h => ⟨.inl (e.Kown b h), (h3.lo b (e.Kown b h)).2.2⟩
        have hKs : ∀ b, c.K b → w'.heap[b]? = e.w.heap[b]? := fun b h => h2 b (e.Kown b h)
        refine hk { τ := ⟨V, f, fs, w', y', ownT e.τ e.y e.w, landO L (i : Nat) (L.act s' d) c.left e.ans⟩, N := n, w := w', y := y', s := s', ans := e.ans, hd := e.hd, le := L.refl _, size := Nat.le_refl _, frame := fun _ _ _ _ _ => rfl, pub := fun b h => .inl h, rely := ⟨e.hd, h3⟩, an := ?_, row := (e.rowK.same hKs).imp hKo, inv := h4, tgt := L.act s' d, eqA := e.eqA, eqH := e.eqH, goal := rfl, Kown := hKo, kept := fun b h => (hKs b h).trans (e.kept b h), rowK := e.rowK.same hKs } ⟨rfl, ?_, h0, h1, fun b hb => ⟨⟨⟨.inl hb.1, (h3.lo b hb.1).2.2⟩, hb.2⟩, h2 b hb.1⟩⟩
        · obtain ⟨arr, ha, hb⟩ := h3.an
          exact ⟨arr, arr, ha, ha, rfl, hb, fun _ _ => rfl⟩
        · show n < e.N
          omega
    exact hN e.N rfl
end
end
end Go.Proofs.Ytcdcnmphjhfbpaa
