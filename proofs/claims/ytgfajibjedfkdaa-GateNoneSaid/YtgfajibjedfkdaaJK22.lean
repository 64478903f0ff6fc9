/- Part 22. -/
import Derived.Test.YtgfajibjedfkdaaJK13
import Derived.Test.YtgfajibjedfkdaaJK16
import Derived.Test.YtgfajibjedfkdaaJK21
set_option linter.unusedSimpArgs false
set_option linter.unusedVariables false
set_option linter.unusedVariables false
set_option maxHeartbeats 8000000
set_option maxRecDepth 100000
namespace Go.Proofs.Ytgfajibjedfkdaa
open Go.Conc Go.RowKit Go.Relay
open Go.ConcN (upd upd_ne upd_same)
section
noncomputable def reg98_0 := rg Try.f98.body [0]
noncomputable def reg98_1 := rg Try.f98.body [1, 0, 0]
noncomputable def reg98_2 := rg Try.f98.body [1, 0, 1, 0]
noncomputable def reg98_3 := rg Try.f98.body [1, 1, 0]
theorem z98 : List.range reg98_0.size = [0] ∧ List.range reg98_1.size = [0, 1] ∧ List.range reg98_2.size = [0, 1] ∧ List.range reg98_3.size = [0, 1, 2, 3, 4] := by refine ⟨?_, ?_, ?_, ?_⟩ <;> kernel_rfl
theorem code98_is : Try.f98.body = some (.seq (.region 0 reg98_0 false) (.seq (.seq (.region 1 reg98_1 false) (.cond (.tmp 6 ) (.region 2 reg98_2 false) (.skip))) (.seq (.region 3 reg98_3 false) (.ret)))) := by kernel_rfl
section
variable {main : Bool} {V : Nat → Option Wait}
def GansOf (x er : Int) (w : World) (v : Value) (w' : World) : Prop := v = .agg #[.bool (er == 0), .int .i64 (if er = 0 then x else er), .slice none 0 0] ∧ (∀ b, b < w.heap.size → w'.heap[b]? = w.heap[b]?) ∧ w.heap.size ≤ w'.heap.size
theorem gans_yes (x : Int) (w : World) (hA : ∀ b, w.heap.size ≤ b → Apart V b) : CallW Try.prog main V 98 #[.int .i64 x, .int .i64 0] w (GansOf x 0 w) := by
  have hap := hA w.heap.size (Nat.le_refl _)
  refine callW_in Try.func98 code98_is fun fr cs => ?_
  simp only [Try.ntmps98, ez, Nat.reduceAdd, Nat.reduceSub]
  repeat (first | refine Walk.cx ?_ | (refine Walk.cReg ?_; simp only [z98]) | (refine Walk.oq ?_; try walk_nrm) | (refine Walk.un ?_; walk_nrm))
  (refine Walk.oa ?_; try walk_nrm)
  have s1 : (w.alloc (.cells #[.bool false, .int .i64 0, .slice none 0 0] 81)).heap.size = w.heap.size + 1 := by simp
  have o1 : ∀ b, b < w.heap.size → (w.alloc (.cells #[.bool false, .int .i64 0, .slice none 0 0] 81)).heap[b]? = w.heap[b]? := fun b hb => heap_new_lt _ _ hb
  have d1 := heap_alloc_new w (.cells #[.bool false, .int .i64 0, .slice none 0 0] 81)
  generalize hN : w.heap.size = N at *
  generalize hw1 : w.alloc (.cells #[.bool false, .int .i64 0, .slice none 0 0] 81) = w1 at *
  repeat (first | refine Walk.cx ?_ | (refine Walk.cReg ?_; simp only [z98]) | (refine Walk.oq ?_; try walk_nrm) | (refine Walk.un ?_; walk_nrm))
  refine Walk.storeS 81 (.tmp 4) (.tmp 11) (ho_of (by conv => lhs; whnf) (by kernel_rfl)) (by rfl) (by decide) rfl N #[.bool true, .int .i64 x, .slice none 0 0] _ 81 rfl rfl d1 (by kernel_rfl) (by rfl) (by simp [Value.oneCell']) hap ?_
  have d2 := setRow_self (cells := #[.bool true, .int .i64 x, .slice none 0 0]) d1
  have o2 : ∀ b, b < N → (w1.setRow N #[.bool true, .int .i64 x, .slice none 0 0]).heap[b]? = w.heap[b]? := fun b hb => (setRow_other _ _ (by omega)).trans (o1 b hb)
  have s2 := setRow_size w1 N #[.bool true, .int .i64 x, .slice none 0 0]
  generalize w1.setRow N #[.bool true, .int .i64 x, .slice none 0 0] = w2 at *
  walk_nrm
  repeat (first | refine Walk.cx ?_ | (refine Walk.cReg ?_; simp only [z98]) | (refine Walk.oq ?_; try walk_nrm) | (refine Walk.un ?_; walk_nrm))
  refine Walk.onCell (T := N) rfl rfl rfl Try.func98 rfl (by rfl) d2 (by kernel_rfl) (by kernel_rfl) (.stop fun d => ⟨_, ⟨rfl, ?_, ?_⟩, rfl⟩)
  · rw [hN]
    exact o2
  · show w.heap.size ≤ w2.heap.size
    omega
theorem gans_no (x er : Int) (her : er ≠ 0) (w : World) (hA : ∀ b, w.heap.size ≤ b → Apart V b) : CallW Try.prog main V 98 #[.int .i64 x, .int .i64 er] w (GansOf x er w) := by
  have hap := hA w.heap.size (Nat.le_refl _)
  have hb1 : (er == 0) = false := by simp [her]
  have hb2 : (er != 0) = true := by simp [her]
  have hif : (if er = 0 then x else er) = er := if_neg her
  unfold GansOf
  rw [hif]
  refine callW_in Try.func98 code98_is fun fr cs => ?_
  simp only [Try.ntmps98, ez, Nat.reduceAdd, Nat.reduceSub]
  repeat (first | refine Walk.cx ?_ | (refine Walk.cReg ?_; simp only [z98]) | (refine Walk.oq ?_; try walk_nrm) | (refine Walk.un ?_; walk_nrm))
  (refine Walk.oa ?_; try walk_nrm)
  have s1 : (w.alloc (.cells #[.bool false, .int .i64 0, .slice none 0 0] 81)).heap.size = w.heap.size + 1 := by simp
  have o1 : ∀ b, b < w.heap.size → (w.alloc (.cells #[.bool false, .int .i64 0, .slice none 0 0] 81)).heap[b]? = w.heap[b]? := fun b hb => heap_new_lt _ _ hb
  have d1 := heap_alloc_new w (.cells #[.bool false, .int .i64 0, .slice none 0 0] 81)
  generalize hN : w.heap.size = N at *
  generalize hw1 : w.alloc (.cells #[.bool false, .int .i64 0, .slice none 0 0] 81) = w1 at *
  repeat (first | refine Walk.cx ?_ | (refine Walk.cReg ?_; simp only [z98]) | (refine Walk.oq ?_; try walk_nrm) | (refine Walk.un ?_; walk_nrm))
  refine Walk.storeS 81 (.tmp 4) (.tmp 11) (ho_of (by conv => lhs; whnf) (by kernel_rfl)) (by rfl) (by decide) rfl N #[.bool false, .int .i64 er, .slice none 0 0] _ 81 rfl rfl d1 (by kernel_rfl) (by rfl) (by simp [Value.oneCell']) hap ?_
  have d2 := setRow_self (cells := #[.bool false, .int .i64 er, .slice none 0 0]) d1
  have o2 : ∀ b, b < N → (w1.setRow N #[.bool false, .int .i64 er, .slice none 0 0]).heap[b]? = w.heap[b]? := fun b hb => (setRow_other _ _ (by omega)).trans (o1 b hb)
  have s2 := setRow_size w1 N #[.bool false, .int .i64 er, .slice none 0 0]
  generalize w1.setRow N #[.bool false, .int .i64 er, .slice none 0 0] = w2 at *
  walk_nrm
  repeat (first | refine Walk.cx ?_ | (refine Walk.cReg ?_; simp only [z98]) | (refine Walk.oq ?_; try walk_nrm) | (refine Walk.un ?_; walk_nrm))
  refine Walk.onCell (T := N) rfl rfl rfl Try.func98 rfl (by rfl) d2 (by kernel_rfl) (by kernel_rfl) (.stop fun d => ⟨_, ⟨by rw [hb1], ?_, ?_⟩, rfl⟩)
  · exact o2
  · show N ≤ w2.heap.size
    omega
theorem gans_w (x er : Int) (w : World) (hA : ∀ b, w.heap.size ≤ b → Apart V b) : CallW Try.prog main V 98 #[.int .i64 x, .int .i64 er] w (GansOf x er w) := by
  by_cases h : er = 0
  · subst h
    exact gans_yes x w hA
  · exact gans_no x er h w hA
end
end
section
noncomputable def reg99_0 := rg Try.f99.body [0]
noncomputable def reg99_1 := rg Try.f99.body [1, 0]
noncomputable def reg99_2 := rg Try.f99.body [1, 1, 0, 0]
noncomputable def reg99_3 := rg Try.f99.body [1, 1, 0, 1, 0, 0, 0]
noncomputable def reg99_4 := rg Try.f99.body [1, 1, 0, 1, 0, 0, 1, 1, 0, 0, 0]
noncomputable def reg99_5 := rg Try.f99.body [1, 1, 0, 1, 0, 0, 1, 1, 0, 0, 1]
noncomputable def reg99_6 := rg Try.f99.body [1, 1, 0, 1, 0, 0, 1, 1, 1]
noncomputable def reg99_7 := rg Try.f99.body [1, 1, 1, 0]
theorem z99 : List.range reg99_0.size = [0] ∧ List.range reg99_1.size = [0, 1, 2, 3] ∧ List.range reg99_2.size = [0, 1, 2] ∧ List.range reg99_3.size = [0] ∧ List.range reg99_4.size = [0, 1, 2, 3, 4] ∧ List.range reg99_5.size = [0, 1, 2, 3, 4] ∧ List.range reg99_6.size = [0, 1] ∧ List.range reg99_7.size = [0, 1] := by refine ⟨?_, ?_, ?_, ?_, ?_, ?_, ?_, ?_⟩ <;> kernel_rfl
theorem code99_is : Try.f99.body = some (.seq (.region 0 reg99_0 false) (.seq (.region 1 reg99_1 false) (.seq (.seq (.region 2 reg99_2 false) (.block 0 (.loop (.seq (.region 3 reg99_3 false) (.seq (.cond (.tmp 12 ) (.skip) (.exit 0)) (.seq (.block 1 (.seq (.region 4 reg99_4 false) (.region 5 reg99_5 false))) (.region 6 reg99_6 false))))))) (.seq (.region 7 reg99_7 false) (.ret))))) := by kernel_rfl
noncomputable def hdWd (sl : Value) (N n i : Nat) (u : Nat → Value) : Frame :=
  (base 99).at { tmps := #[sl, u 1, u 2, .slice (some ⟨N, 0, none⟩) n n, u 4, u 5, u 6, u 7, u 8, sl, .int .i64 n, .int .i64 i, u 12, u 13, u 14, u 15, u 16, u 17, u 18, u 19, u 20, u 21], defers := [] } [.code (.seq (.region 3 reg99_3 false) (.seq (.cond (.tmp 12 ) (.skip) (.exit 0)) (.seq (.block 1 (.seq (.region 4 reg99_4 false) (.region 5 reg99_5 false))) (.region 6 reg99_6 false)))), .inLoop (.seq (.region 3 reg99_3 false) (.seq (.cond (.tmp 12 ) (.skip) (.exit 0)) (.seq (.block 1 (.seq (.region 4 reg99_4 false) (.region 5 reg99_5 false))) (.region 6 reg99_6 false)))), .inBlock 0, .code (.seq (.region 7 reg99_7 false) (.ret))]
section
variable {main : Bool} {V : Nat → Option Wait}
structure WdI (w0 : World) (N : Nat) (l : List Int) (j : Nat) (w : World) : Prop where
  num : NumB w N (padL (l.take j) l.length)
  old : ∀ b, b < w0.heap.size → w.heap[b]? = w0.heap[b]?
  lo : w0.heap.size ≤ N ∧ N < w.heap.size
theorem NumA.old {a : Option Addr} {l : List Int} {w w' : World} (h : NumA a l w) (ho : ∀ b, b < w.heap.size → w'.heap[b]? = w.heap[b]?) : NumA a l w' := fun i x hx => by
  obtain ⟨b, o, e, hc⟩ := h i x hx
  refine ⟨b, o, e, ?_⟩
  have hb : b < w.heap.size := by
    unfold World.cell? at hc
    rcases h : w.heap[b]? with _ | v
    · simp [h] at hc
    · exact (Array.getElem?_eq_some_iff.1 h).1
  exact (World.cell?_of_block (a := ⟨b, o + i, none⟩) (ho b hb)).trans hc
theorem wd_in (a : Option Addr) (l : List Int) (c : Nat) (hn : l.length ≤ 64) (w : World) (cs : List Frame) :
    Walk Try.prog main (DR V) (fun g w' => (∃ u, g = G (hdWd (.slice a l.length c) w.heap.size l.length 0 u) cs) ∧ ∃ w1 d, WdI w w.heap.size l 0 w1 ∧ w' = w1.at d) (G (Frame.enter Try.prog 99 #[.slice a l.length c] .normal) cs) w := by
  have hi1 := Option.some_get (show (Try.prog.info? 2).isSome = true by kernel_rfl)
  have hpd : padL (l.take 0) l.length = List.replicate l.length 0 := by simp [padL]
  have hI : ∀ w1, NumB w1 w.heap.size (List.replicate l.length 0) → (∀ b, b < w.heap.size → w1.heap[b]? = w.heap[b]?) → w.heap.size < w1.heap.size → WdI w w.heap.size l 0 w1 := fun w1 x1 x2 x3 => ⟨by rw [hpd]; exact x1, x2, Nat.le_refl _, x3⟩
  clear hpd
  generalize l.length = n at *
  rw [enter_at _ Try.func99 code99_is]
  simp only [Try.ntmps99, ez, Nat.reduceAdd, Nat.reduceSub]
  repeat (first | refine Walk.cx ?_ | (refine Walk.cReg ?_; simp only [z99]) | (refine Walk.oq ?_; try walk_nrm) | (refine Walk.un ?_; walk_nrm))
  refine Walk.make 28 (.tmp 7) (.tmp 7) (ho_of (by conv => lhs; whnf) (by kernel_rfl)) (by rfl) (by decide) rfl 2 _ (.int .i64 0) 1 8 (by kernel_rfl) hi1.symm (by rfl) (by rfl) (by rfl) n (by rfl) (by rfl) (by omega) (by omega) ?_
  walk_nrm
  simp only [Value.cells, Nat.mul_one, made_zero]
  have s1 : (w.alloc (.cells ((List.replicate n (0 : Int)).map fun z => Value.int .i64 z).toArray 2)).heap.size = w.heap.size + 1 := by simp
  have o1 : ∀ b, b < w.heap.size → (w.alloc (.cells ((List.replicate n (0 : Int)).map fun z => Value.int .i64 z).toArray 2)).heap[b]? = w.heap[b]? := fun b hb => heap_new_lt _ _ hb
  have d1 := heap_alloc_new w (.cells ((List.replicate n (0 : Int)).map fun z => Value.int .i64 z).toArray 2)
  have hI1 := hI _ d1 o1 (by omega)
  clear hI d1 o1 s1
  generalize w.alloc (.cells ((List.replicate n (0 : Int)).map fun z => Value.int .i64 z).toArray 2) = w2 at *
  repeat (first | refine Walk.cx ?_ | (refine Walk.cReg ?_; simp only [z99]) | (refine Walk.oq ?_; try walk_nrm) | (refine Walk.un ?_; walk_nrm))
  refine Walk.ctl rfl (fun w => stepG_loop) ?_
  refine .stop fun d => ⟨at_slots ?_, w2, d, hI1, rfl⟩
  simp only [hdWd]
  rfl
theorem wd_go (a : Option Addr) (l : List Int) (c N j : Nat) (hn : l.length ≤ 64) (hj : j < l.length) (u : Nat → Value) (cs : List Frame) (w0 w : World) (M : WdI w0 N l j w) (ha : NumA a l w0) (hA : ∀ b, w0.heap.size ≤ b → Apart V b) :
    Walk Try.prog main (DR V) (fun g w' => (∃ u, g = G (hdWd (.slice a l.length c) N l.length (j + 1) u) cs) ∧ ∃ w1 d, WdI w0 N l (j + 1) w1 ∧ w' = w1.at d) (G (hdWd (.slice a l.length c) N l.length j u) cs) w := by
  obtain ⟨hnum, hold, hlo⟩ := M
  have hap := hA N hlo.1
  have hx := List.getElem?_eq_getElem hj
  obtain ⟨ab, ao, rfl, hc⟩ := (ha.old hold) j _ hx
  have hl : (l.take j).length = j := by simp; omega
  have c5 := hnum.cell (j := j) (z := 0) (by
    unfold padL
    rw [List.getElem?_append_right (by omega), hl, Nat.sub_self, List.getElem?_replicate, if_pos (by omega)])
  have z5 := hnum.frozen j
  have f5 := hap.1 ⟨N, j, none⟩ rfl
  have hset := hnum.set j l[j]
  have hpd := padL_set (l := l.take j) (n := l.length) (by omega) l[j]
  rw [hl] at hpd
  have htk : l.take j ++ [l[j]] = l.take (j + 1) := by rw [List.take_add_one, hx]; rfl
  rw [htk] at hpd
  rw [hpd] at hset
  have hs6 := size_set w ⟨N, j, none⟩ (.int .i64 l[j])
  have o6 : ∀ b, b ≠ N → (w.setCell ⟨N, j, none⟩ (.int .i64 l[j])).heap[b]? = w.heap[b]? := fun b hb => heap_set_other _ _ _ _ hb
  have hI : WdI w0 N l (j + 1) (w.setCell ⟨N, j, none⟩ (.int .i64 l[j])) := ⟨hset, fun b hb => (o6 b (by omega)).trans (hold b hb), hlo.1, by omega⟩
  clear hset hpd htk hs6 o6 hold hlo hnum hx hl ha hA
  generalize l[j] = x at *
  generalize hq : WdI w0 N l = Q at *
  generalize l.length = n at *
  have hi0 : (0 : Int) ≤ j := by omega
  have hi1 : decide ((j : Int) < n) = true := by simp; omega
  have hi3 : decide (j < n) = true := by simp; omega
  have hi4 : (j : Int) < n := by omega
  have hw1 : IntKind.wrap .i64 ((j : Int) + 1) = (j : Int) + 1 := by rw [IntKind.wrap_i64]; omega
  have hcc : ((j + 1 : Nat) : Int) = (j : Int) + 1 := by simp
  unfold hdWd
  repeat (first | refine Walk.cx ?_ | (refine Walk.cReg ?_; simp only [z99]) | (refine Walk.oq ?_; try walk_nrm) | (refine Walk.un ?_; walk_nrm))
  (refine Walk.os f5 c5 ?_; try walk_nrm)
  generalize w.setCell ⟨N, j, none⟩ (.int .i64 x) = w6 at *
  repeat (first | refine Walk.cx ?_ | (refine Walk.cReg ?_; simp only [z99]) | (refine Walk.oq ?_; try walk_nrm) | (refine Walk.un ?_; walk_nrm))
  refine Walk.ctl rfl (fun w => stepG_inLoop) ?_
  refine .stop fun d => ⟨at_slots ?_, w6, d, hI, rfl⟩
  simp only [hdWd, hcc]
  rfl
theorem wd_end (sl : Value) (N n : Nat) (u : Nat → Value) (c : Frame) (cs : List Frame) (w : World) :
    Walk Try.prog main (DR V) (fun g w' => g = G (c.finish (.slice (some ⟨N, 0, none⟩) n n)) cs ∧ ∃ d, w' = w.at d) (G (hdWd sl N n n u) (c :: cs)) w := by
  have h1 : decide ((n : Int) < n) = false := by simp
  have h2 : decide (n < n) = false := by simp
  unfold hdWd
  repeat (first | refine Walk.cx ?_ | (refine Walk.cReg ?_; simp only [z99]) | (refine Walk.oq ?_; try walk_nrm) | (refine Walk.un ?_; walk_nrm))
  exact Walk.on1 rfl rfl Try.func99 rfl (.stop fun d => ⟨rfl, d, rfl⟩)
def WideOf (l : List Int) (w : World) (v : Value) (w' : World) : Prop := v = .slice (some ⟨w.heap.size, 0, none⟩) l.length l.length ∧ NumB w' w.heap.size l ∧ (∀ b, b < w.heap.size → w'.heap[b]? = w.heap[b]?) ∧ w.heap.size < w'.heap.size
theorem wide_w (a : Option Addr) (l : List Int) (c : Nat) (hn : l.length ≤ 64) (w : World) (ha : NumA a l w) (hA : ∀ b, w.heap.size ≤ b → Apart V b) : CallW Try.prog main V 99 #[.slice a l.length c] w (WideOf l w) := by
  intro fr cs
  refine (wd_in a l c hn w (fr :: cs)).then ?_
  rintro g w' ⟨⟨u, rfl⟩, w1, d, M, rfl⟩
  refine Walk.back ?_ d
  have loop : ∀ (r i : Nat) (u : Nat → Value) (w1 : World), i + r = l.length → WdI w w.heap.size l i w1 →
      Walk Try.prog main (DR V) (fun g w' => ∃ v, (WideOf l w v w') ∧ g = G (fr.finish v) cs) (G (hdWd (.slice a l.length c) w.heap.size l.length i u) (fr :: cs)) w1 := by
    intro r
    induction r with
    | zero =>
      intro i u w1 hi M
      obtain rfl : i = l.length := hi
      refine (wd_end _ _ _ u fr cs w1).mono ?_
      rintro g w' ⟨rfl, d, rfl⟩
      have hnum := M.num
      rw [padL_full (by simp), List.take_of_length_le (Nat.le_refl _)] at hnum
      exact ⟨_, ⟨rfl, hnum, M.old, M.lo.2⟩, rfl⟩
    | succ r ih =>
      intro i u w1 hi M
      refine (wd_go a l c w.heap.size i hn (by omega) u (fr :: cs) w w1 M ha hA).then ?_
      rintro g w' ⟨⟨u', rfl⟩, w2, d, M2, rfl⟩
      exact Walk.back (ih (i + 1) u' w2 (by omega) M2) d
  exact loop l.length 0 u w1 (Nat.zero_add _) M
end
end
section
inductive GD where
  | j1 (p a : Int)
  | j2 (p a : Int) (k : Nat) (l : List Int)
  | j3 (p a : Int) (k : Nat) (l : List Int)
  | l1 (p : Int)
  | l2 (p : Int) (k : Nat) (l : List Int)
  | s1 (p a : Int)
  | g1 (p : Int)
  | t1
  | e1 (no : Int)
  | e2 (l : List Int) (i : Nat) (ls pl : Int)
  | m1 (q z : Int)
  | m2 (q z : Int) (l : List Int) (i : Nat) (ls pl : Int)
def gErr (c : Int) : Ans ⊕ GD := .inl ⟨c == 0, if c = 0 then 0 else c, []⟩
def gLe (ls pl : Int) : Ans ⊕ GD := .inl ⟨true, ls, [pl]⟩
def gMay (b : Bool) (pl : Int) : Ans ⊕ GD := .inl ⟨b, pl, []⟩
def gAt (d2 : List Int → Nat → Int → Int → GD) (F : Int → Int → Ans ⊕ GD) (l : List Int) (i : Nat) (ls pl : Int) : Ans ⊕ GD := if i < l.length then .inr (d2 l i ls pl) else F ls pl
def gtAct : Gt → GD → Gt × (Ans ⊕ GD)
  | s, .j1 p a => (s, if p ∈ s.l then gErr 7 else .inr (.j2 p a s.k s.l))
  | s, .j2 p a k l => (s.put p.toNat a, .inr (.j3 p a k l))
  | s, .j3 p a k l => if s.k = k then (s.lay (l ++ [p]), gErr 0) else (s, .inr (.j1 p a))
  | s, .l1 p => (s, if p ∈ s.l then .inr (.l2 p s.k s.l) else gErr 6)
  | s, .l2 p k l => if s.k = k then (s.lay (l.filter fun z => decide (z ≠ p)), gErr 0) else (s, .inr (.l1 p))
  | s, .s1 p a => (s.put p.toNat a, gErr 0)
  | s, .g1 p => (s, .inl ⟨true, s.n p.toNat, []⟩)
  | s, .t1 => (s, .inl ⟨true, 0, s.l⟩)
  | s, .e1 no => (s, gAt .e2 gLe s.l 0 no (-1))
  | s, .e2 l i ls pl => (s, gAt .e2 gLe l (i + 1) (eNx s l i ls pl).1 (eNx s l i ls pl).2)
  | s, .m1 q z => (s, gAt (.m2 q z) (fun ls pl => gMay (mayR q z ls pl).1 (mayR q z ls pl).2) s.l 0 0 (-1))
  | s, .m2 q z l i ls pl => (s, gAt (.m2 q z) (fun ls pl => gMay (mayR q z ls pl).1 (mayR q z ls pl).2) l (i + 1) (eNx s l i ls pl).1 (eNx s l i ls pl).2)
def gtEnter (s : Gt) (_ : Int) (o : OpV) : Gt × (Ans ⊕ GD) :=
  if o.k = 1 then (s, if gOK o.a then .inr (.j1 o.a o.b) else gErr 1) else
  if o.k = 2 then (s, if gOK o.a then .inr (.l1 o.a) else gErr 1) else
  if o.k = 3 then (s, if gOK o.a then .inr (.s1 o.a o.b) else gErr 1) else
  if o.k = 4 then (s, if gOK o.a then .inr (.g1 o.a) else gErr 1) else
  if o.k = 5 then (s, .inr .t1) else
  if o.k = 6 then (s, .inr (.e1 o.a)) else
  if o.k = 7 then (s, .inr (.m1 o.a o.b)) else (s, .inl ⟨false, 0, []⟩)
def gtLa (gb : Nat) : La where
  Sg := Gt
  D := GD
  Gh := List Hl
  le := fun y y' => y <+: y'
  refl := fun y => List.prefix_refl y
  trans := fun h h' => h.trans h'
  enter := gtEnter
  act := gtAct
  sh := gtSh gb
  mono := fun h hb => hb.elim .inl fun ⟨x, hx, e⟩ => .inr ⟨x, h.subset hx, e⟩
  I := GtI gb
  stable := fun h hb => h.same hb
  lt := fun h hb => h.lt hb
def gateIn (gb : Nat) : GateIn (gtLa gb) gb where
  gt := fun s => s
  put := Gt.put
  lay := Gt.lay
  gh := fun y => y
  ghl := fun (y : List Hl) h => y ++ [h]
  le := fun h => h
  lel := fun (y : List Hl) h => List.prefix_append y [h]
  sh := fun h => h
  shl := fun {y h b} hb => by
    rcases hb with e | ⟨x, hx, e⟩
    · exact .inl (.inl e)
    · rcases List.mem_append.1 hx with hx | hx
      · exact .inl (.inr ⟨x, hx, e⟩)
      · exact .inr (List.mem_singleton.1 hx ▸ e)
  I := fun h => h
  gput := fun _ _ _ => rfl
  glay := fun _ _ => rfl
  upN := fun hi h => GtI.wrN hi _ h
  upL := fun hb hH hsh h => GtI.wrL hb hH hsh h
section
variable {gb : Nat} {sv : Value}
theorem join_all (K : Lg (gtLa gb) sv) (e : K.E) (p a : Int) (ht : K.tgt e = (K.s e, if gOK p then .inr (.j1 p a) else gErr 1)) : SCall K.toLb 60 #[.pointer (some ⟨gb, 0, none⟩), sv, .int .i64 p, .int .i64 a] e (ErrOut K gErr) := by
  by_cases h : gOK p
  · rw [if_pos h] at ht
    exact join_s (gateIn gb) K e p a h (.j1 p a) (.j2 p a) (.j3 p a) gErr (fun _ => rfl) (fun _ _ _ => rfl) (fun _ _ _ => rfl) ht
  · rw [if_neg h] at ht
    exact SCall.ofV K e (join_no _ sv p a h (K.w e)) ⟨1, rfl, ht⟩
theorem leave_all (K : Lg (gtLa gb) sv) (e : K.E) (p : Int) (ht : K.tgt e = (K.s e, if gOK p then .inr (.l1 p) else gErr 1)) : SCall K.toLb 63 #[.pointer (some ⟨gb, 0, none⟩), sv, .int .i64 p] e (ErrOut K gErr) := by
  by_cases h : gOK p
  · rw [if_pos h] at ht
    exact leave_s (gateIn gb) K e p h (.l1 p) (.l2 p) gErr (fun _ => rfl) (fun _ _ _ => rfl) ht
  · rw [if_neg h] at ht
    exact SCall.ofV K e (leave_no _ sv p h (K.w e)) ⟨1, rfl, ht⟩
theorem gset_all (K : Lg (gtLa gb) sv) (e : K.E) (p a : Int) (ht : K.tgt e = (K.s e, if gOK p then .inr (.s1 p a) else gErr 1)) : SCall K.toLb 36 #[.pointer (some ⟨gb, 0, none⟩), sv, .int .i64 p, .int .i64 a] e (ErrOut K gErr) := by
  by_cases h : gOK p
  · rw [if_pos h] at ht
    obtain ⟨j, rfl⟩ : ∃ j : Nat, p = (j : Int) := ⟨p.toNat, by have := h.1; omega⟩
    refine (gset_s (gateIn gb) K e j (by have := h.2; omega) a (.s1 j a) (fun _ => gErr 0) (fun _ => rfl) ht).mono ?_
    rintro x e' ⟨rfl, h'⟩
    exact ⟨0, rfl, h'⟩
  · rw [if_neg h] at ht
    exact SCall.ofV K e (gset_no _ sv p a h (K.w e)) ⟨1, rfl, ht⟩
def GgetOut (K : Lg (gtLa gb) sv) (x : Value) (e' : K.E) : Prop := ∃ a c : Int, x = .tuple #[.int .i64 a, .int .i64 c] ∧ K.tgt e' = (K.s e', .inl ⟨c == 0, if c = 0 then a else c, []⟩)
theorem gget_all (K : Lg (gtLa gb) sv) (e : K.E) (p : Int) (ht : K.tgt e = (K.s e, if gOK p then .inr (.g1 p) else gErr 1)) : SCall K.toLb 71 #[.pointer (some ⟨gb, 0, none⟩), sv, .int .i64 p] e (GgetOut K) := by
  by_cases h : gOK p
  · rw [if_pos h] at ht
    obtain ⟨j, rfl⟩ : ∃ j : Nat, p = (j : Int) := ⟨p.toNat, by have := h.1; omega⟩
    refine (gget_s (gateIn gb) K e j (by have := h.2; omega) (.g1 j) (fun _ n => .inl ⟨true, n, []⟩) (fun _ => rfl) ht).mono ?_
    rintro x e' ⟨n, rfl, h'⟩
    exact ⟨n, 0, rfl, h'⟩
  · rw [if_neg h] at ht
    exact SCall.ofV K e (gget_no _ sv p h (K.w e)) ⟨0, 1, rfl, ht⟩
theorem glist_all (K : Lg (gtLa gb) sv) (e : K.E) (ht : K.tgt e = (K.s e, .inr .t1)) : SCall K.toLb 72 #[.pointer (some ⟨gb, 0, none⟩), sv] e (ListOut K (fun l => .inl ⟨true, 0, l⟩)) := list_s (gateIn gb) K e .t1 _ (fun _ => rfl) ht
theorem gleast_all (K : Lg (gtLa gb) sv) (e : K.E) (no : Int) (ht : K.tgt e = (K.s e, .inr (.e1 no))) : SCall K.toLb 61 #[.pointer (some ⟨gb, 0, none⟩), sv, .int .i64 no] e (LeastOut K gLe) := least_s (gateIn gb) K e no (.e1 no) .e2 gLe (fun _ => rfl) (fun _ _ _ _ _ _ => rfl) ht
theorem gmay_all (K : Lg (gtLa gb) sv) (e : K.E) (q z : Int) (ht : K.tgt e = (K.s e, .inr (.m1 q z))) : SCall K.toLb 62 #[.pointer (some ⟨gb, 0, none⟩), sv, .int .i64 q, .int .i64 z] e (MayOut K gMay) := may_s (gateIn gb) K e q z (.m1 q z) (.m2 q z) gMay (fun _ => rfl) (fun _ _ _ _ _ _ => rfl) ht
end
end
section
noncomputable def reg65_0 := rg Try.f65.body [0]
noncomputable def reg65_1 := rg Try.f65.body [1, 0, 0]
noncomputable def reg65_2 := rg Try.f65.body [1, 0, 1, 0, 0]
noncomputable def reg65_3 := rg Try.f65.body [1, 0, 1, 0, 1, 0, 0]
noncomputable def reg65_4 := rg Try.f65.body [1, 0, 1, 0, 1, 1, 0]
noncomputable def reg65_5 := rg Try.f65.body [1, 0, 1, 0, 1, 1, 1, 0, 0]
noncomputable def reg65_6 := rg Try.f65.body [1, 0, 1, 0, 1, 1, 1, 1, 0]
noncomputable def reg65_7 := rg Try.f65.body [1, 0, 1, 0, 1, 1, 1, 1, 1, 0, 0]
noncomputable def reg65_8 := rg Try.f65.body [1, 0, 1, 0, 1, 1, 1, 1, 1, 1, 0]
noncomputable def reg65_9 := rg Try.f65.body [1, 0, 1, 0, 1, 1, 1, 1, 1, 1, 1, 0, 0]
noncomputable def reg65_10 := rg Try.f65.body [1, 0, 1, 0, 1, 1, 1, 1, 1, 1, 1, 1, 0]
noncomputable def reg65_11 := rg Try.f65.body [1, 0, 1, 0, 1, 1, 1, 1, 1, 1, 1, 1, 1, 0, 0]
noncomputable def reg65_12 := rg Try.f65.body [1, 0, 1, 0, 1, 1, 1, 1, 1, 1, 1, 1, 1, 1, 0]
noncomputable def reg65_13 := rg Try.f65.body [1, 0, 1, 0, 1, 1, 1, 1, 1, 1, 1, 1, 1, 1, 1, 0, 0]
noncomputable def reg65_14 := rg Try.f65.body [1, 0, 1, 0, 1, 1, 1, 1, 1, 1, 1, 1, 1, 1, 1, 0, 1, 0]
noncomputable def reg65_15 := rg Try.f65.body [1, 0, 1, 0, 1, 1, 1, 1, 1, 1, 1, 1, 1, 1, 1, 1, 0]
noncomputable def reg65_16 := rg Try.f65.body [1, 0, 1, 0, 1, 1, 1, 1, 1, 1, 1, 1, 1, 1, 1, 1, 1, 0, 0]
noncomputable def reg65_17 := rg Try.f65.body [1, 0, 1, 0, 1, 1, 1, 1, 1, 1, 1, 1, 1, 1, 1, 1, 1, 0, 1, 0]
noncomputable def reg65_18 := rg Try.f65.body [1, 1, 0]
theorem z65 : List.range reg65_0.size = [0, 1] ∧ List.range reg65_1.size = [0, 1] ∧ List.range reg65_2.size = [0, 1] ∧ List.range reg65_3.size = [0, 1, 2, 3, 4, 5, 6, 7, 8] ∧ List.range reg65_4.size = [0, 1] ∧ List.range reg65_5.size = [0, 1, 2, 3, 4, 5, 6] ∧ List.range reg65_6.size = [0, 1] ∧ List.range reg65_7.size = [0, 1, 2, 3, 4, 5, 6, 7, 8] ∧ List.range reg65_8.size = [0, 1] ∧ List.range reg65_9.size = [0, 1, 2, 3, 4, 5, 6, 7, 8] ∧ List.range reg65_10.size = [0, 1] ∧ List.range reg65_11.size = [0, 1, 2, 3, 4, 5] ∧ List.range reg65_12.size = [0, 1] ∧ List.range reg65_13.size = [0, 1, 2, 3, 4, 5, 6, 7, 8, 9] ∧ List.range reg65_14.size = [0, 1, 2, 3, 4] ∧ List.range reg65_15.size = [0, 1] ∧ List.range reg65_16.size = [0, 1, 2, 3, 4, 5, 6, 7, 8, 9, 10, 11] ∧ List.range reg65_17.size = [0, 1, 2, 3] ∧ List.range reg65_18.size = [0, 1] := by refine ⟨?_, ?_, ?_, ?_, ?_, ?_, ?_, ?_, ?_, ?_, ?_, ?_, ?_, ?_, ?_, ?_, ?_, ?_, ?_⟩ <;> kernel_rfl
theorem code65_is : Try.f65.body = some (.seq (.region 0 reg65_0 false) (.seq (.seq (.region 1 reg65_1 false) (.block 0 (.seq (.region 2 reg65_2 false) (.cond (.tmp 15 ) (.seq (.region 3 reg65_3 false) (.ret)) (.seq (.region 4 reg65_4 false) (.cond (.tmp 25 ) (.seq (.region 5 reg65_5 false) (.ret)) (.seq (.region 6 reg65_6 false) (.cond (.tmp 33 ) (.seq (.region 7 reg65_7 false) (.ret)) (.seq (.region 8 reg65_8 false) (.cond (.tmp 43 ) (.seq (.region 9 reg65_9 false) (.ret)) (.seq (.region 10 reg65_10 false) (.cond (.tmp 53 ) (.seq (.region 11 reg65_11 false) (.ret)) (.seq (.region 12 reg65_12 false) (.cond (.tmp 60 ) (.seq (.region 13 reg65_13 false) (.seq (.region 14 reg65_14 false) (.ret))) (.seq (.region 15 reg65_15 false) (.cond (.tmp 74 ) (.seq (.region 16 reg65_16 false) (.seq (.region 17 reg65_17 false) (.ret))) (.skip))))))))))))))))) (.seq (.region 18 reg65_18 false) (.ret)))) := by kernel_rfl
section
variable {gb : Nat} {sv : Value}
def gNo : Ans := ⟨false, 0, []⟩
theorem gtEnter_no (s : Gt) (th : Int) (o : OpV) (h1 : o.k ≠ 1) (h2 : o.k ≠ 2) (h3 : o.k ≠ 3) (h4 : o.k ≠ 4) (h5 : o.k ≠ 5) (h6 : o.k ≠ 6) (h7 : o.k ≠ 7) : gtEnter s th o = (s, .inl gNo) := by
  unfold gtEnter
  rw [if_neg h1, if_neg h2, if_neg h3, if_neg h4, if_neg h5, if_neg h6, if_neg h7]
  rfl
def DoOutK {L : La} {sv : Value} (K : Lg L sv) (v : Value) (e' : K.E) : Prop := ∃ a sl, K.tgt e' = (K.s e', .inl a) ∧ v = ansV a sl ∧ GatL K e' sl a.l ∧ a.l.length ≤ 65536
theorem gdo_s (K : Lg (gtLa gb) sv) (e : K.E) (th ok oa ob oc : Int) (ht : K.tgt e = gtEnter (K.s e) th ⟨ok, oa, ob, oc⟩) :
    SCall K.toLb 65 #[.pointer (some ⟨gb, 0, none⟩), sv, .int .i64 th, .agg #[.int .i64 ok, .int .i64 oa, .int .i64 ob, .int .i64 oc]] e (DoOutK K) := by
  intro fr l hp hl hk
  have hp1 := fun w => run_eql_ptr (P := Try.prog) 74 undGate (some ⟨gb, 0, none⟩) w
  have hp2 := fun w es => ev_eql_ptr (P := Try.prog) 74 undGate (some ⟨gb, 0, none⟩) w es
  simp only [Option.isNone_some] at hp1
  unfold LW
  rw [enter_at _ Try.func65 code65_is]
  simp only [Try.ntmps65, ez, Nat.reduceAdd, Nat.reduceSub]
  repeat (first | refine Walk.cx ?_ | (refine Walk.cReg ?_; simp only [z65]) | (refine Walk.oq ?_; try walk_nrm) | (refine Walk.un ?_; walk_nrm))
  (refine Walk.oa ?_; try walk_nrm)
  (refine Walk.oa ?_; try walk_nrm)
  have hA1 : ((K.w e).alloc (.cells #[.int .i64 ok, .int .i64 oa, .int .i64 ob, .int .i64 oc] 84)).heap.size = (K.w e).heap.size + 1 := by simp
  have c1 : (((K.w e).alloc (.cells #[.int .i64 ok, .int .i64 oa, .int .i64 ob, .int .i64 oc] 84)).alloc (.cells #[.bool false, .int .i64 0, .slice none 0 0] 81)).heap[(K.w e).heap.size]? = some (.cells #[.int .i64 ok, .int .i64 oa, .int .i64 ob, .int .i64 oc] 84) := by
    rw [heap_new_lt _ _ (by omega)]
    exact heap_alloc_new _ _
  have c2 : (((K.w e).alloc (.cells #[.int .i64 ok, .int .i64 oa, .int .i64 ob, .int .i64 oc] 84)).alloc (.cells #[.bool false, .int .i64 0, .slice none 0 0] 81)).heap[(K.w e).heap.size + 1]? = some (.cells #[.bool false, .int .i64 0, .slice none 0 0] 81) := by
    have := heap_alloc_new ((K.w e).alloc (.cells #[.int .i64 ok, .int .i64 oa, .int .i64 ob, .int .i64 oc] 84)) (.cells #[.bool false, .int .i64 0, .slice none 0 0] 81)
    rwa [hA1] at this
  have hs2 : (((K.w e).alloc (.cells #[.int .i64 ok, .int .i64 oa, .int .i64 ob, .int .i64 oc] 84)).alloc (.cells #[.bool false, .int .i64 0, .slice none 0 0] 81)).heap.size = (K.w e).heap.size + 2 := by simp
  obtain ⟨e1, m1⟩ := K.grow e (w' := ((K.w e).alloc (.cells #[.int .i64 ok, .int .i64 oa, .int .i64 ob, .int .i64 oc] 84)).alloc (.cells #[.bool false, .int .i64 0, .slice none 0 0] 81)) (by omega) (fun b hb' => by
    rw [heap_new_lt _ _ (by omega)]
    exact heap_new_lt _ _ hb')
  try simp only [hA1]
  generalize hw2 : ((K.w e).alloc (.cells #[.int .i64 ok, .int .i64 oa, .int .i64 ob, .int .i64 oc] 84)).alloc (.cells #[.bool false, .int .i64 0, .slice none 0 0] 81) = w2 at *
  generalize hN : (K.w e).heap.size = N at *
  have hmn : K.mine e1 (N + 1) := m1.new (by omega) (by omega)
  have ht1 : K.tgt e1 = gtEnter (K.s e1) th ⟨ok, oa, ob, oc⟩ := by rw [m1.tgt, m1.s]; exact ht
  have d0 := (cell_of c1 0).trans rfl
  have d1 := (cell_of c1 1).trans rfl
  have d2 := (cell_of c1 2).trans rfl
  have hw1 := m1.w
  refine LW.to (l := fr :: l) m1 ?_
  unfold LW
  clear hw2 m1 ht
  subst hw1
  have hapN := (K.mineA e1 _ hmn).1
  repeat (first | refine Walk.cx ?_ | (refine Walk.cReg ?_; simp only [z65]) | (refine Walk.oq ?_; try walk_nrm) | (refine Walk.un ?_; walk_nrm))
  by_cases h1 : ok = 1
  · subst h1
    have ht3 : K.tgt e1 = (K.s e1, if gOK oa then .inr (.j1 oa ob) else gErr 1) := ht1
    repeat (first | refine Walk.cx ?_ | (refine Walk.cReg ?_; simp only [z65]) | (refine Walk.oq ?_; try walk_nrm) | (refine Walk.un ?_; walk_nrm))
    have hg := SCall.fz K (join_all (Fz K e1) (fz0 K e1) oa ob ht3)
    refine LW.callS (K := K.toLb) (e := e1) (l := fr :: l) (f := 60) (Q := fun x e' => ∃ h : Kept K e1 e', ErrOut (Fz K e1) gErr x ⟨e', h⟩) ?_ (ho_of (by conv => lhs; whnf) (by kernel_rfl)) (by rfl) (by decide) rfl Try.func60 (by kernel_rfl) (by rfl) ⟨rfl, rfl, _, Try.func65⟩ (plain_cons hp hl) ?_
    · walk_nrm
      exact hg
    rintro x e2 ⟨hkept, er, rfl, ht4⟩
    obtain ⟨hm2, hb2⟩ := hkept (N + 1) hmn
    rw [c2] at hb2
    clear hg
    replace ht4 : K.tgt e2 = (K.s e2, .inl ⟨er == 0, if er = 0 then 0 else er, []⟩) := ht4
    have hans := gans_w (main := K.main) (V := K.V e2) 0 er (K.w e2) (K.newA e2)
    unfold LW
    walk_nrm
    repeat (first | refine Walk.cx ?_ | (refine Walk.cReg ?_; simp only [z65]) | (refine Walk.oq ?_; try walk_nrm) | (refine Walk.un ?_; walk_nrm))
    refine Walk.callW (Post := GansOf 0 er (K.w e2)) ?_ (ho_of (by conv => lhs; whnf) (by kernel_rfl)) (by rfl) (by decide) rfl Try.func98 (by kernel_rfl) (by rfl) ?_
    · walk_nrm
      exact hans
    rintro v w3 ⟨rfl, o3, z3⟩
    clear hans
    have lN : N + 1 < (K.w e2).heap.size := (Array.getElem?_eq_some_iff.1 hb2).1
    obtain ⟨e3, m3⟩ := K.grow e2 (w' := w3) z3 o3
    have hm3 : K.mine e3 (N + 1) := (m3.mine _).2 (.inl hm2)
    have hb3 : (K.w e3).heap[N + 1]? = some (.cells #[.bool false, .int .i64 0, .slice none 0 0] 81) := by rw [m3.w]; exact (o3 _ lN).trans hb2
    have ht5 : K.tgt e3 = (K.s e3, .inl ⟨er == 0, if er = 0 then 0 else er, []⟩) := by rw [m3.tgt, m3.s]; exact ht4
    have hap3 := (K.mineA e3 _ hm3).1
    refine LW.to (l := fr :: l) m3 ?_
    unfold LW
    clear hb2 o3 m3 ht4
    generalize (if er = 0 then 0 else er) = y at *
    generalize (er == 0) = bb at *
    walk_nrm
    repeat (first | refine Walk.cx ?_ | (refine Walk.cReg ?_; simp only [z65]) | (refine Walk.oq ?_; try walk_nrm) | (refine Walk.un ?_; walk_nrm))
    refine Walk.storeS 81 (.tmp 8) (.tmp 24) (ho_of (by conv => lhs; whnf) (by kernel_rfl)) (by rfl) (by decide) rfl (N + 1) #[.bool bb, .int .i64 y, .slice none 0 0] _ 81 rfl rfl hb3 (by kernel_rfl) (by rfl) (by simp [Value.oneCell']) hap3 ?_
    walk_nrm
    repeat (first | refine Walk.cx ?_ | (refine Walk.cReg ?_; simp only [z65]) | (refine Walk.oq ?_; try walk_nrm) | (refine Walk.un ?_; walk_nrm))
    exact cell_backG K (a := ⟨bb, y, []⟩) (sl := .slice none 0 0) hm3 hb3 ht5 (GatL.nil K e3) (fun e' h h' => hk _ e' ⟨_, _, h, rfl, h', by simp⟩) Try.func65 rfl ⟨rfl, rfl, rfl, rfl, rfl⟩
  have hbk1 : (ok == 1) = false := by simp [h1]
  simp only [hbk1]
  repeat (first | refine Walk.cx ?_ | (refine Walk.cReg ?_; simp only [z65]) | (refine Walk.oq ?_; try walk_nrm) | (refine Walk.un ?_; walk_nrm))
  by_cases h2 : ok = 2
  · subst h2
    have ht3 : K.tgt e1 = (K.s e1, if gOK oa then .inr (.l1 oa) else gErr 1) := ht1
    repeat (first | refine Walk.cx ?_ | (refine Walk.cReg ?_; simp only [z65]) | (refine Walk.oq ?_; try walk_nrm) | (refine Walk.un ?_; walk_nrm))
    have hg := SCall.fz K (leave_all (Fz K e1) (fz0 K e1) oa ht3)
    refine LW.callS (K := K.toLb) (e := e1) (l := fr :: l) (f := 63) (Q := fun x e' => ∃ h : Kept K e1 e', ErrOut (Fz K e1) gErr x ⟨e', h⟩) ?_ (ho_of (by conv => lhs; whnf) (by kernel_rfl)) (by rfl) (by decide) rfl Try.func63 (by kernel_rfl) (by rfl) ⟨rfl, rfl, _, Try.func65⟩ (plain_cons hp hl) ?_
    · walk_nrm
      exact hg
    rintro x e2 ⟨hkept, er, rfl, ht4⟩
    obtain ⟨hm2, hb2⟩ := hkept (N + 1) hmn
    rw [c2] at hb2
    clear hg
    replace ht4 : K.tgt e2 = (K.s e2, .inl ⟨er == 0, if er = 0 then 0 else er, []⟩) := ht4
    have hans := gans_w (main := K.main) (V := K.V e2) 0 er (K.w e2) (K.newA e2)
    unfold LW
    walk_nrm
    repeat (first | refine Walk.cx ?_ | (refine Walk.cReg ?_; simp only [z65]) | (refine Walk.oq ?_; try walk_nrm) | (refine Walk.un ?_; walk_nrm))
    refine Walk.callW (Post := GansOf 0 er (K.w e2)) ?_ (ho_of (by conv => lhs; whnf) (by kernel_rfl)) (by rfl) (by decide) rfl Try.func98 (by kernel_rfl) (by rfl) ?_
    · walk_nrm
      exact hans
    rintro v w3 ⟨rfl, o3, z3⟩
    clear hans
    have lN : N + 1 < (K.w e2).heap.size := (Array.getElem?_eq_some_iff.1 hb2).1
    obtain ⟨e3, m3⟩ := K.grow e2 (w' := w3) z3 o3
    have hm3 : K.mine e3 (N + 1) := (m3.mine _).2 (.inl hm2)
    have hb3 : (K.w e3).heap[N + 1]? = some (.cells #[.bool false, .int .i64 0, .slice none 0 0] 81) := by rw [m3.w]; exact (o3 _ lN).trans hb2
    have ht5 : K.tgt e3 = (K.s e3, .inl ⟨er == 0, if er = 0 then 0 else er, []⟩) := by rw [m3.tgt, m3.s]; exact ht4
    have hap3 := (K.mineA e3 _ hm3).1
    refine LW.to (l := fr :: l) m3 ?_
    unfold LW
    clear hb2 o3 m3 ht4
    generalize (if er = 0 then 0 else er) = y at *
    generalize (er == 0) = bb at *
    walk_nrm
    repeat (first | refine Walk.cx ?_ | (refine Walk.cReg ?_; simp only [z65]) | (refine Walk.oq ?_; try walk_nrm) | (refine Walk.un ?_; walk_nrm))
    refine Walk.storeS 81 (.tmp 8) (.tmp 32) (ho_of (by conv => lhs; whnf) (by kernel_rfl)) (by rfl) (by decide) rfl (N + 1) #[.bool bb, .int .i64 y, .slice none 0 0] _ 81 rfl rfl hb3 (by kernel_rfl) (by rfl) (by simp [Value.oneCell']) hap3 ?_
    walk_nrm
    repeat (first | refine Walk.cx ?_ | (refine Walk.cReg ?_; simp only [z65]) | (refine Walk.oq ?_; try walk_nrm) | (refine Walk.un ?_; walk_nrm))
    exact cell_backG K (a := ⟨bb, y, []⟩) (sl := .slice none 0 0) hm3 hb3 ht5 (GatL.nil K e3) (fun e' h h' => hk _ e' ⟨_, _, h, rfl, h', by simp⟩) Try.func65 rfl ⟨rfl, rfl, rfl, rfl, rfl⟩
  have hbk2 : (ok == 2) = false := by simp [h2]
  simp only [hbk2]
  repeat (first | refine Walk.cx ?_ | (refine Walk.cReg ?_; simp only [z65]) | (refine Walk.oq ?_; try walk_nrm) | (refine Walk.un ?_; walk_nrm))
  by_cases h3 : ok = 3
  · subst h3
    have ht3 : K.tgt e1 = (K.s e1, if gOK oa then .inr (.s1 oa ob) else gErr 1) := ht1
    repeat (first | refine Walk.cx ?_ | (refine Walk.cReg ?_; simp only [z65]) | (refine Walk.oq ?_; try walk_nrm) | (refine Walk.un ?_; walk_nrm))
    have hg := SCall.fz K (gset_all (Fz K e1) (fz0 K e1) oa ob ht3)
    refine LW.callS (K := K.toLb) (e := e1) (l := fr :: l) (f := 36) (Q := fun x e' => ∃ h : Kept K e1 e', ErrOut (Fz K e1) gErr x ⟨e', h⟩) ?_ (ho_of (by conv => lhs; whnf) (by kernel_rfl)) (by rfl) (by decide) rfl Try.func36 (by kernel_rfl) (by rfl) ⟨rfl, rfl, _, Try.func65⟩ (plain_cons hp hl) ?_
    · walk_nrm
      exact hg
    rintro x e2 ⟨hkept, er, rfl, ht4⟩
    obtain ⟨hm2, hb2⟩ := hkept (N + 1) hmn
    rw [c2] at hb2
    clear hg
    replace ht4 : K.tgt e2 = (K.s e2, .inl ⟨er == 0, if er = 0 then 0 else er, []⟩) := ht4
    have hans := gans_w (main := K.main) (V := K.V e2) 0 er (K.w e2) (K.newA e2)
    unfold LW
    walk_nrm
    repeat (first | refine Walk.cx ?_ | (refine Walk.cReg ?_; simp only [z65]) | (refine Walk.oq ?_; try walk_nrm) | (refine Walk.un ?_; walk_nrm))
    refine Walk.callW (Post := GansOf 0 er (K.w e2)) ?_ (ho_of (by conv => lhs; whnf) (by kernel_rfl)) (by rfl) (by decide) rfl Try.func98 (by kernel_rfl) (by rfl) ?_
    · walk_nrm
      exact hans
    rintro v w3 ⟨rfl, o3, z3⟩
    clear hans
    have lN : N + 1 < (K.w e2).heap.size := (Array.getElem?_eq_some_iff.1 hb2).1
    obtain ⟨e3, m3⟩ := K.grow e2 (w' := w3) z3 o3
    have hm3 : K.mine e3 (N + 1) := (m3.mine _).2 (.inl hm2)
    have hb3 : (K.w e3).heap[N + 1]? = some (.cells #[.bool false, .int .i64 0, .slice none 0 0] 81) := by rw [m3.w]; exact (o3 _ lN).trans hb2
    have ht5 : K.tgt e3 = (K.s e3, .inl ⟨er == 0, if er = 0 then 0 else er, []⟩) := by rw [m3.tgt, m3.s]; exact ht4
    have hap3 := (K.mineA e3 _ hm3).1
    refine LW.to (l := fr :: l) m3 ?_
    unfold LW
    clear hb2 o3 m3 ht4
    generalize (if er = 0 then 0 else er) = y at *
    generalize (er == 0) = bb at *
    walk_nrm
    repeat (first | refine Walk.cx ?_ | (refine Walk.cReg ?_; simp only [z65]) | (refine Walk.oq ?_; try walk_nrm) | (refine Walk.un ?_; walk_nrm))
    refine Walk.storeS 81 (.tmp 8) (.tmp 42) (ho_of (by conv => lhs; whnf) (by kernel_rfl)) (by rfl) (by decide) rfl (N + 1) #[.bool bb, .int .i64 y, .slice none 0 0] _ 81 rfl rfl hb3 (by kernel_rfl) (by rfl) (by simp [Value.oneCell']) hap3 ?_
    walk_nrm
    repeat (first | refine Walk.cx ?_ | (refine Walk.cReg ?_; simp only [z65]) | (refine Walk.oq ?_; try walk_nrm) | (refine Walk.un ?_; walk_nrm))
    exact cell_backG K (a := ⟨bb, y, []⟩) (sl := .slice none 0 0) hm3 hb3 ht5 (GatL.nil K e3) (fun e' h h' => hk _ e' ⟨_, _, h, rfl, h', by simp⟩) Try.func65 rfl ⟨rfl, rfl, rfl, rfl, rfl⟩
  have hbk3 : (ok == 3) = false := by simp [h3]
  simp only [hbk3]
  repeat (first | refine Walk.cx ?_ | (refine Walk.cReg ?_; simp only [z65]) | (refine Walk.oq ?_; try walk_nrm) | (refine Walk.un ?_; walk_nrm))
  by_cases h4 : ok = 4
  · subst h4
    have ht3 : K.tgt e1 = (K.s e1, if gOK oa then .inr (.g1 oa) else gErr 1) := ht1
    repeat (first | refine Walk.cx ?_ | (refine Walk.cReg ?_; simp only [z65]) | (refine Walk.oq ?_; try walk_nrm) | (refine Walk.un ?_; walk_nrm))
    have hg := SCall.fz K (gget_all (Fz K e1) (fz0 K e1) oa ht3)
    refine LW.callS (K := K.toLb) (e := e1) (l := fr :: l) (f := 71) (Q := fun x e' => ∃ h : Kept K e1 e', GgetOut (Fz K e1) x ⟨e', h⟩) ?_ (ho_of (by conv => lhs; whnf) (by kernel_rfl)) (by rfl) (by decide) rfl Try.func71 (by kernel_rfl) (by rfl) ⟨rfl, rfl, _, Try.func65⟩ (plain_cons hp hl) ?_
    · walk_nrm
      exact hg
    rintro x e2 ⟨hkept, xv, er, rfl, ht4⟩
    obtain ⟨hm2, hb2⟩ := hkept (N + 1) hmn
    rw [c2] at hb2
    clear hg
    replace ht4 : K.tgt e2 = (K.s e2, .inl ⟨er == 0, if er = 0 then xv else er, []⟩) := ht4
    have hans := gans_w (main := K.main) (V := K.V e2) xv er (K.w e2) (K.newA e2)
    unfold LW
    walk_nrm
    repeat (first | refine Walk.cx ?_ | (refine Walk.cReg ?_; simp only [z65]) | (refine Walk.oq ?_; try walk_nrm) | (refine Walk.un ?_; walk_nrm))
    refine Walk.callW (Post := GansOf xv er (K.w e2)) ?_ (ho_of (by conv => lhs; whnf) (by kernel_rfl)) (by rfl) (by decide) rfl Try.func98 (by kernel_rfl) (by rfl) ?_
    · walk_nrm
      exact hans
    rintro v w3 ⟨rfl, o3, z3⟩
    clear hans
    have lN : N + 1 < (K.w e2).heap.size := (Array.getElem?_eq_some_iff.1 hb2).1
    obtain ⟨e3, m3⟩ := K.grow e2 (w' := w3) z3 o3
    have hm3 : K.mine e3 (N + 1) := (m3.mine _).2 (.inl hm2)
    have hb3 : (K.w e3).heap[N + 1]? = some (.cells #[.bool false, .int .i64 0, .slice none 0 0] 81) := by rw [m3.w]; exact (o3 _ lN).trans hb2
    have ht5 : K.tgt e3 = (K.s e3, .inl ⟨er == 0, if er = 0 then xv else er, []⟩) := by rw [m3.tgt, m3.s]; exact ht4
    have hap3 := (K.mineA e3 _ hm3).1
    refine LW.to (l := fr :: l) m3 ?_
    unfold LW
    clear hb2 o3 m3 ht4
    generalize (if er = 0 then xv else er) = y at *
    generalize (er == 0) = bb at *
    walk_nrm
    repeat (first | refine Walk.cx ?_ | (refine Walk.cReg ?_; simp only [z65]) | (refine Walk.oq ?_; try walk_nrm) | (refine Walk.un ?_; walk_nrm))
    refine Walk.storeS 81 (.tmp 8) (.tmp 52) (ho_of (by conv => lhs; whnf) (by kernel_rfl)) (by rfl) (by decide) rfl (N + 1) #[.bool bb, .int .i64 y, .slice none 0 0] _ 81 rfl rfl hb3 (by kernel_rfl) (by rfl) (by simp [Value.oneCell']) hap3 ?_
    walk_nrm
    repeat (first | refine Walk.cx ?_ | (refine Walk.cReg ?_; simp only [z65]) | (refine Walk.oq ?_; try walk_nrm) | (refine Walk.un ?_; walk_nrm))
    exact cell_backG K (a := ⟨bb, y, []⟩) (sl := .slice none 0 0) hm3 hb3 ht5 (GatL.nil K e3) (fun e' h h' => hk _ e' ⟨_, _, h, rfl, h', by simp⟩) Try.func65 rfl ⟨rfl, rfl, rfl, rfl, rfl⟩
  have hbk4 : (ok == 4) = false := by simp [h4]
  simp only [hbk4]
  repeat (first | refine Walk.cx ?_ | (refine Walk.cReg ?_; simp only [z65]) | (refine Walk.oq ?_; try walk_nrm) | (refine Walk.un ?_; walk_nrm))
  by_cases h5 : ok = 5
  · subst h5
    have ht3 : K.tgt e1 = (K.s e1, .inr .t1) := ht1
    repeat (first | refine Walk.cx ?_ | (refine Walk.cReg ?_; simp only [z65]) | (refine Walk.oq ?_; try walk_nrm) | (refine Walk.un ?_; walk_nrm))
    have hg := SCall.fz K (glist_all (Fz K e1) (fz0 K e1) ht3)
    refine LW.callS (K := K.toLb) (e := e1) (l := fr :: l) (f := 72) (Q := fun x e' => ∃ h : Kept K e1 e', ListOut (Fz K e1) (fun l => .inl ⟨true, 0, l⟩) x ⟨e', h⟩) ?_ (ho_of (by conv => lhs; whnf) (by kernel_rfl)) (by rfl) (by decide) rfl Try.func72 (by kernel_rfl) (by rfl) ⟨rfl, rfl, _, Try.func65⟩ (plain_cons hp hl) ?_
    · walk_nrm
      exact hg
    rintro x e2 ⟨hkept, ls, h64, ⟨sa, sc, rfl, hnum, _, _⟩, ht4⟩
    obtain ⟨hm2, hb2⟩ := hkept (N + 1) hmn
    rw [c2] at hb2
    clear hg
    replace ht4 : K.tgt e2 = (K.s e2, .inl ⟨true, 0, ls⟩) := ht4
    have hwd := wide_w (main := K.main) (V := K.V e2) sa ls sc h64 (K.w e2) hnum (K.newA e2)
    clear hnum
    unfold LW
    walk_nrm
    repeat (first | refine Walk.cx ?_ | (refine Walk.cReg ?_; simp only [z65]) | (refine Walk.oq ?_; try walk_nrm) | (refine Walk.un ?_; walk_nrm))
    refine Walk.callW (Post := WideOf ls (K.w e2)) ?_ (ho_of (by conv => lhs; whnf) (by kernel_rfl)) (by rfl) (by decide) rfl Try.func99 (by kernel_rfl) (by rfl) ?_
    · walk_nrm
      exact hwd
    rintro v w3 ⟨rfl, hn3, o3, z3⟩
    clear hwd
    have lN : N + 1 < (K.w e2).heap.size := (Array.getElem?_eq_some_iff.1 hb2).1
    obtain ⟨e3, m3⟩ := K.grow e2 (w' := w3) (by omega) o3
    have hm3 : K.mine e3 (N + 1) := (m3.mine _).2 (.inl hm2)
    have hb3 : (K.w e3).heap[N + 1]? = some (.cells #[.bool false, .int .i64 0, .slice none 0 0] 81) := by rw [m3.w]; exact (o3 _ lN).trans hb2
    have ht5 : K.tgt e3 = (K.s e3, .inl ⟨true, 0, ls⟩) := by rw [m3.tgt, m3.s]; exact ht4
    have hap3 := (K.mineA e3 _ hm3).1
    have hls3 : GatL K e3 (.slice (some ⟨(K.w e2).heap.size, 0, none⟩) ls.length ls.length) ls := ⟨⟨_, _, rfl⟩, by rw [m3.w]; exact hn3.row (Nat.zero_le _) (Nat.le_trans h64 (by decide)), fun b hb => by cases hb; exact m3.new (Nat.le_refl _) z3⟩
    have hcb := fun fr' hfr => cell_backG K (F := 65) (fr := fr') (c := fr) (l := l) (a := ⟨true, 0, ls⟩) hm3 hb3 ht5 hls3 (fun e' h h' => hk _ e' ⟨_, _, h, rfl, h', by show ls.length ≤ 65536; omega⟩) Try.func65 rfl hfr
    refine LW.to (l := fr :: l) m3 ?_
    unfold LW
    clear hb2 o3 m3 ht4 hk hn3 hls3 z3 lN ht5
    generalize (K.w e2).heap.size = B at *
    generalize ls.length = ln at *
    walk_nrm
    repeat (first | refine Walk.cx ?_ | (refine Walk.cReg ?_; simp only [z65]) | (refine Walk.oq ?_; try walk_nrm) | (refine Walk.un ?_; walk_nrm))
    refine Walk.storeS 81 (.tmp 8) (.tmp 59) (ho_of (by conv => lhs; whnf) (by kernel_rfl)) (by rfl) (by decide) rfl (N + 1) #[.bool true, .int .i64 0, .slice (some ⟨B, 0, none⟩) ln ln] _ 81 rfl rfl hb3 (by kernel_rfl) (by rfl) (by simp [Value.oneCell']) hap3 ?_
    walk_nrm
    repeat (first | refine Walk.cx ?_ | (refine Walk.cReg ?_; simp only [z65]) | (refine Walk.oq ?_; try walk_nrm) | (refine Walk.un ?_; walk_nrm))
    exact hcb _ ⟨rfl, rfl, rfl, rfl, rfl⟩
  have hbk5 : (ok == 5) = false := by simp [h5]
  simp only [hbk5]
  repeat (first | refine Walk.cx ?_ | (refine Walk.cReg ?_; simp only [z65]) | (refine Walk.oq ?_; try walk_nrm) | (refine Walk.un ?_; walk_nrm))
  by_cases h6 : ok = 6
  · subst h6
    have ht3 : K.tgt e1 = (K.s e1, .inr (.e1 oa)) := ht1
    repeat (first | refine Walk.cx ?_ | (refine Walk.cReg ?_; simp only [z65]) | (refine Walk.oq ?_; try walk_nrm) | (refine Walk.un ?_; walk_nrm))
    have hg := SCall.fz K (gleast_all (Fz K e1) (fz0 K e1) oa ht3)
    refine LW.callS (K := K.toLb) (e := e1) (l := fr :: l) (f := 61) (Q := fun x e' => ∃ h : Kept K e1 e', LeastOut (Fz K e1) gLe x ⟨e', h⟩) ?_ (ho_of (by conv => lhs; whnf) (by kernel_rfl)) (by rfl) (by decide) rfl Try.func61 (by kernel_rfl) (by rfl) ⟨rfl, rfl, _, Try.func65⟩ (plain_cons hp hl) ?_
    · walk_nrm
      exact hg
    rintro x e2 ⟨hkept, ls, pl, rfl, ht4⟩
    obtain ⟨hm2, hb2⟩ := hkept (N + 1) hmn
    rw [c2] at hb2
    clear hg
    replace ht4 : K.tgt e2 = (K.s e2, .inl ⟨true, ls, [pl]⟩) := ht4
    unfold LW
    walk_nrm
    repeat (first | refine Walk.cx ?_ | (refine Walk.cReg ?_; simp only [z65]) | (refine Walk.oq ?_; try walk_nrm) | (refine Walk.un ?_; walk_nrm))
    (refine Walk.oa ?_; try walk_nrm)
    have o3 : ∀ b, b < (K.w e2).heap.size → ((K.w e2).alloc (.cells #[.int .i64 pl] 2)).heap[b]? = (K.w e2).heap[b]? := fun b hb => heap_new_lt _ _ hb
    have hn3 := heap_alloc_new (K.w e2) (.cells #[.int .i64 pl] 2)
    have z3 : ((K.w e2).alloc (.cells #[.int .i64 pl] 2)).heap.size = (K.w e2).heap.size + 1 := by simp
    generalize (K.w e2).alloc (.cells #[.int .i64 pl] 2) = w3 at *
    have lN : N + 1 < (K.w e2).heap.size := (Array.getElem?_eq_some_iff.1 hb2).1
    have z4 : (K.w e2).heap.size < w3.heap.size := by rw [z3]; exact Nat.lt_succ_self _
    obtain ⟨e3, m3⟩ := K.grow e2 (w' := w3) (Nat.le_of_lt z4) o3
    have hm3 : K.mine e3 (N + 1) := (m3.mine _).2 (.inl hm2)
    have hb3 : (K.w e3).heap[N + 1]? = some (.cells #[.bool false, .int .i64 0, .slice none 0 0] 81) := by rw [m3.w]; exact (o3 _ lN).trans hb2
    have ht5 : K.tgt e3 = (K.s e3, .inl ⟨true, ls, [pl]⟩) := by rw [m3.tgt, m3.s]; exact ht4
    have hap3 := (K.mineA e3 _ hm3).1
    have hls3 : GatL K e3 (.slice (some ⟨(K.w e2).heap.size, 0, none⟩) 1 1) [pl] := ⟨⟨_, _, rfl⟩, by rw [m3.w]; exact NumB.row (xs := [pl]) hn3 (Nat.zero_le _) (show 1 ≤ maxLen by decide), fun b hb => by cases hb; exact m3.new (Nat.le_refl _) z4⟩
    have hcb := fun fr' hfr => cell_backG K (F := 65) (fr := fr') (c := fr) (l := l) (a := ⟨true, ls, [pl]⟩) hm3 hb3 ht5 hls3 (fun e' h h' => hk _ e' ⟨_, _, h, rfl, h', by simp⟩) Try.func65 rfl hfr
    refine LW.to (l := fr :: l) m3 ?_
    unfold LW
    clear hb2 o3 m3 ht4 hk hn3 hls3 z3 z4 lN ht5
    generalize (K.w e2).heap.size = B at *
    walk_nrm
    repeat (first | refine Walk.cx ?_ | (refine Walk.cReg ?_; simp only [z65]) | (refine Walk.oq ?_; try walk_nrm) | (refine Walk.un ?_; walk_nrm))
    refine Walk.storeS 81 (.tmp 8) (.tmp 73) (ho_of (by conv => lhs; whnf) (by kernel_rfl)) (by rfl) (by decide) rfl (N + 1) #[.bool true, .int .i64 ls, .slice (some ⟨B, 0, none⟩) 1 1] _ 81 rfl rfl hb3 (by kernel_rfl) (by rfl) (by simp [Value.oneCell']) hap3 ?_
    walk_nrm
    repeat (first | refine Walk.cx ?_ | (refine Walk.cReg ?_; simp only [z65]) | (refine Walk.oq ?_; try walk_nrm) | (refine Walk.un ?_; walk_nrm))
    exact hcb _ ⟨rfl, rfl, rfl, rfl, rfl⟩
  have hbk6 : (ok == 6) = false := by simp [h6]
  simp only [hbk6]
  repeat (first | refine Walk.cx ?_ | (refine Walk.cReg ?_; simp only [z65]) | (refine Walk.oq ?_; try walk_nrm) | (refine Walk.un ?_; walk_nrm))
  by_cases h7 : ok = 7
  · subst h7
    have ht3 : K.tgt e1 = (K.s e1, .inr (.m1 oa ob)) := ht1
    repeat (first | refine Walk.cx ?_ | (refine Walk.cReg ?_; simp only [z65]) | (refine Walk.oq ?_; try walk_nrm) | (refine Walk.un ?_; walk_nrm))
    have hg := SCall.fz K (gmay_all (Fz K e1) (fz0 K e1) oa ob ht3)
    refine LW.callS (K := K.toLb) (e := e1) (l := fr :: l) (f := 62) (Q := fun x e' => ∃ h : Kept K e1 e', MayOut (Fz K e1) gMay x ⟨e', h⟩) ?_ (ho_of (by conv => lhs; whnf) (by kernel_rfl)) (by rfl) (by decide) rfl Try.func62 (by kernel_rfl) (by rfl) ⟨rfl, rfl, _, Try.func65⟩ (plain_cons hp hl) ?_
    · walk_nrm
      exact hg
    rintro x e2 ⟨hkept, b, pl, rfl, ht4⟩
    obtain ⟨hm2, hb2⟩ := hkept (N + 1) hmn
    rw [c2] at hb2
    clear hg
    replace ht4 : K.tgt e2 = (K.s e2, .inl ⟨b, pl, []⟩) := ht4
    have hap2 := (K.mineA e2 _ hm2).1
    unfold LW
    walk_nrm
    repeat (first | refine Walk.cx ?_ | (refine Walk.cReg ?_; simp only [z65]) | (refine Walk.oq ?_; try walk_nrm) | (refine Walk.un ?_; walk_nrm))
    refine Walk.storeS 81 (.tmp 8) (.tmp 88) (ho_of (by conv => lhs; whnf) (by kernel_rfl)) (by rfl) (by decide) rfl (N + 1) #[.bool b, .int .i64 pl, .slice none 0 0] _ 81 rfl rfl hb2 (by kernel_rfl) (by rfl) (by simp [Value.oneCell']) hap2 ?_
    walk_nrm
    repeat (first | refine Walk.cx ?_ | (refine Walk.cReg ?_; simp only [z65]) | (refine Walk.oq ?_; try walk_nrm) | (refine Walk.un ?_; walk_nrm))
    exact cell_backG K (a := ⟨b, pl, []⟩) (sl := .slice none 0 0) hm2 hb2 ht4 (GatL.nil K e2) (fun e' h h' => hk _ e' ⟨_, _, h, rfl, h', by simp⟩) Try.func65 rfl ⟨rfl, rfl, rfl, rfl, rfl⟩
  have hbk7 : (ok == 7) = false := by simp [h7]
  simp only [hbk7]
  repeat (first | refine Walk.cx ?_ | (refine Walk.cReg ?_; simp only [z65]) | (refine Walk.oq ?_; try walk_nrm) | (refine Walk.un ?_; walk_nrm))
  have ht3 : K.tgt e1 = (K.s e1, .inl gNo) := ht1.trans (gtEnter_no _ _ _ h1 h2 h3 h4 h5 h6 h7)
  repeat (first | refine Walk.cx ?_ | (refine Walk.cReg ?_; simp only [z65]) | (refine Walk.oq ?_; try walk_nrm) | (refine Walk.un ?_; walk_nrm))
  refine Walk.storeS 81 (.tmp 8) (.tmp 89) (ho_of (by conv => lhs; whnf) (by kernel_rfl)) (by rfl) (by decide) rfl (N + 1) #[.bool false, .int .i64 0, .slice none 0 0] _ 81 rfl rfl c2 (by kernel_rfl) (by rfl) (by simp [Value.oneCell']) hapN ?_
  walk_nrm
  repeat (first | refine Walk.cx ?_ | (refine Walk.cReg ?_; simp only [z65]) | (refine Walk.oq ?_; try walk_nrm) | (refine Walk.un ?_; walk_nrm))
  exact cell_backG K (a := gNo) (sl := .slice none 0 0) hmn c2 ht3 (GatL.nil K e1) (fun e' h h' => hk _ e' ⟨_, _, h, rfl, h', by simp [gNo]⟩) Try.func65 rfl ⟨rfl, rfl, rfl, rfl, rfl⟩
theorem gdo_ok : DoFn (gtLa gb) 65 #[.pointer (some ⟨gb, 0, none⟩)] #[] :=
  ⟨⟨_, Try.func65, by kernel_rfl, by rfl⟩, fun sv K e th op ht => (gdo_s K e th op.k op.a op.b op.c ht).mono fun v e' ⟨a, sl, h1, h2, h3, h4⟩ => ⟨a, sl, h1, h2, h3.lsR, by omega⟩⟩
end
end
end Go.Proofs.Ytgfajibjedfkdaa
