/- Part 19. -/
import Derived.Test.YtdcjgmlgmjjogaaJ18
set_option linter.unusedSimpArgs false
set_option linter.unusedVariables false
set_option maxHeartbeats 8000000
set_option maxRecDepth 100000
namespace Go.Proofs.Ytdcjgmlgmjjogaa
open Go.Conc Go.RowKit Go.Relay
open Go.ConcN (upd upd_ne upd_same)
section
noncomputable def reg59_0 := rg Try.f59.body [0]
noncomputable def reg59_1 := rg Try.f59.body [1, 0]
theorem z59 : List.range reg59_0.size = [0, 1] ∧ List.range reg59_1.size = [0, 1] := by refine ⟨?_, ?_⟩ <;> kernel_rfl
theorem code59_is : Try.f59.body = some (.seq (.region 0 reg59_0 false) (.seq (.region 1 reg59_1 false) (.ret))) := by kernel_rfl
noncomputable def reg58_0 := rg Try.f58.body [0]
noncomputable def reg58_1 := rg Try.f58.body [1, 0]
theorem z58 : List.range reg58_0.size = [0, 1, 2] ∧ List.range reg58_1.size = [0, 1] := by refine ⟨?_, ?_⟩ <;> kernel_rfl
theorem code58_is : Try.f58.body = some (.seq (.region 0 reg58_0 false) (.seq (.region 1 reg58_1 false) (.ret))) := by kernel_rfl
noncomputable def reg84_0 := rg Try.f84.body [0]
noncomputable def reg84_1 := rg Try.f84.body [1, 0]
theorem size84_1 : reg84_1.size = 9 := by kernel_rfl
theorem z84 : List.range reg84_0.size = [0, 1] ∧ List.range reg84_1.size = [0, 1, 2, 3, 4, 5, 6, 7, 8] := by refine ⟨?_, ?_⟩ <;> kernel_rfl
theorem code84_is : Try.f84.body = some (.seq (.region 0 reg84_0 false) (.seq (.region 1 reg84_1 true) (.ret))) := by kernel_rfl
section
variable {cb m : Nat} {sv : Value}
theorem givesUp_ok (K : Lg (onLa cb m) sv) (i : Nat) (v : Int) : MkOK K true i v 59 #[] := by
 intro e ht fr l hp hl hk
 have ha : (#[] ++ #[sv] ++ #[] : Array Value) = #[sv] := rfl
 have hkk := hk (.tuple #[.int .i64 0, .bool false]) e (.inr ⟨0, rfl, ht⟩)
 rw [ha]
 unfold LW at hkk ⊢
 rw [enter_at _ Try.func59 code59_is]
 simp only [Try.ntmps59, ez, Nat.reduceAdd, Nat.reduceSub]
 repeat (first | refine Walk.cx ?_ | (refine Walk.cReg ?_; simp only [z59]) | (refine Walk.oq ?_; try walk_nrm) | (refine Walk.un ?_; walk_nrm))
 exact Walk.on2 rfl rfl Try.func59 rfl hkk
theorem counting_w {main : Bool} {V : Nat → Option Wait} (o : Option Addr) (v : Int) (w : World) : CallW Try.prog main V 58 #[.pointer o, .int .i64 v] w (fun x w' => x = .func (.func 84) #[] #[.pointer (some ⟨w.heap.size + 1, 0, none⟩), .pointer (some ⟨w.heap.size, 0, none⟩)] ∧
  w'.heap[w.heap.size]? = some (.cells #[.pointer o] 35) ∧ w'.heap[w.heap.size + 1]? = some (.cells #[.int .i64 v] 2) ∧ (∀ b, b < w.heap.size → w'.heap[b]? = w.heap[b]?) ∧ w'.heap.size = w.heap.size + 2) := by
 intro c cs
 rw [enter_at _ Try.func58 code58_is]
 simp only [Try.ntmps58, ez, Nat.reduceAdd, Nat.reduceSub]
 repeat (first | refine Walk.cx ?_ | (refine Walk.cReg ?_; simp only [z58]) | (refine Walk.oq ?_; try walk_nrm) | (refine Walk.un ?_; walk_nrm))
 (refine Walk.oa ?_; try walk_nrm)
 (refine Walk.oa ?_; try walk_nrm)
 have s1 : (w.alloc (.cells #[.pointer o] 35)).heap.size = w.heap.size + 1 := by simp
 have d1 : ((w.alloc (.cells #[.pointer o] 35)).alloc (.cells #[.int .i64 v] 2)).heap[w.heap.size]? = some (.cells #[.pointer o] 35) := by
  rw [heap_new_lt _ _ (by omega)]
  exact heap_alloc_new _ _
 have d2 : ((w.alloc (.cells #[.pointer o] 35)).alloc (.cells #[.int .i64 v] 2)).heap[w.heap.size + 1]? = some (.cells #[.int .i64 v] 2) := by
  have := heap_alloc_new (w.alloc (.cells #[.pointer o] 35)) (.cells #[.int .i64 v] 2)
  rwa [s1] at this
 have o2 : ∀ b, b < w.heap.size → ((w.alloc (.cells #[.pointer o] 35)).alloc (.cells #[.int .i64 v] 2)).heap[b]? = w.heap[b]? := fun b hb => by
  rw [heap_new_lt _ _ (by omega)]
  exact heap_new_lt _ _ hb
 have s2 : ((w.alloc (.cells #[.pointer o] 35)).alloc (.cells #[.int .i64 v] 2)).heap.size = w.heap.size + 2 := by simp
 try simp only [s1]
 generalize hN : w.heap.size = N at *
 generalize (w.alloc (.cells #[.pointer o] 35)).alloc (.cells #[.int .i64 v] 2) = w2 at *
 repeat (first | refine Walk.cx ?_ | (refine Walk.cReg ?_; simp only [z58]) | (refine Walk.oq ?_; try walk_nrm) | (refine Walk.un ?_; walk_nrm))
 exact Walk.on1 rfl rfl Try.func58 rfl (.stop fun d => ⟨_, ⟨rfl, d1, d2, o2, s2⟩, rfl⟩)
def tmC (sv : Value) (vb ob : Nat) (u : Nat → Value) : Array Value := #[sv, .pointer (some ⟨vb, 0, none⟩), .pointer (some ⟨ob, 0, none⟩), u 3, u 4, u 5, u 6, u 7, u 8, u 9, u 10, u 11, u 12]
def dsC : List Nat := [6, 7, 8, 9, 10, 11, 12, 4, 5]
def vsC (cb i : Nat) (sv : Value) (v y : Int) : List Value := [.int .i64 v, .pointer (some ⟨cb, i * 3, none⟩), .pointer (some ⟨cb, i * 3, none⟩), .pointer (some ⟨cb, i * 3 + 2, none⟩), sv, .int .i64 y, .int .i64 (IntKind.i64.wrap (v + y)), .int .i64 (IntKind.i64.wrap (v + y)), .bool true]
theorem vsC_y (cb i : Nat) (sv : Value) (v y y' : Int) {j : Nat} (h : j < 5 ∨ j = 8) : (vsC cb i sv v y)[j]? = (vsC cb i sv v y')[j]? := by
 match j, h with
 | 0, _ => rfl
 | 1, _ => rfl
 | 2, _ => rfl
 | 3, _ => rfl
 | 4, _ => rfl
 | 8, _ => rfl
def CntI (K : Lg (onLa cb m) sv) (i : Nat) (v : Int) (vb ob : Nat) (e : K.E) (f : Nat → Bool) (x : Act) (y : K.E × World) : Prop :=
 ∃ u yy, x = ⟨tmC sv vb ob u, []⟩ ∧ Facts dsC (vsC cb i sv v yy) f u ∧
  ((f 5 = false ∧ y.1 = e ∧ ∃ d, y.2 = (K.w e).at d) ∨ (f 5 = true ∧ K.tgt y.1 = (K.s y.1, .inr (.m6 i (IntKind.i64.wrap (v + yy)))) ∧ ∃ d, y.2 = (K.w y.1).at d))
theorem CntI.world {K : Lg (onLa cb m) sv} {e : K.E} {y : K.E × World} {A B C : Prop} (h : (A ∧ y.1 = e ∧ ∃ d, y.2 = (K.w e).at d) ∨ (B ∧ C ∧ ∃ d, y.2 = (K.w y.1).at d)) : ∃ d, y.2 = (K.w y.1).at d := by
 rcases h with ⟨_, h1, d, h2⟩ | ⟨_, _, h⟩
 ·exact ⟨d, by rw [h1]; exact h2⟩
 ·exact h
theorem counting1_ok (K : Lg (onLa cb m) sv) (i : Nat) (hi : i < m) (v : Int) (ob vb : Nat) (hcap : ∀ e : K.E, (K.w e).heap[vb]? = some (.cells #[.int .i64 v] 2) ∧ (K.w e).heap[ob]? = some (.cells #[onP cb i] 35)) :
  MkOK K false i v 84 #[.pointer (some ⟨vb, 0, none⟩), .pointer (some ⟨ob, 0, none⟩)] := by
 intro e ht fr l hp hl hk
 replace ht : K.tgt e = (K.s e, .inr (.m5 i v)) := ht
 have ha : (#[] ++ #[sv] ++ #[.pointer (some ⟨vb, 0, none⟩), .pointer (some ⟨ob, 0, none⟩)] : Array Value) = #[sv, .pointer (some ⟨vb, 0, none⟩), .pointer (some ⟨ob, 0, none⟩)] := rfl
 have w1 := word_load K (ctW i hi) e (.m5 i v) ht
 unfold Wd.p at w1
 unfold onP at hcap
 rw [ha]
 unfold LW
 rw [enter_at _ Try.func84 code84_is]
 simp only [Try.ntmps84, ez, Nat.reduceAdd, Nat.reduceSub]
 repeat (first | refine Walk.cx ?_ | (refine Walk.cReg ?_; simp only [z84]) | (refine Walk.oq ?_; try walk_nrm) | (refine Walk.un ?_; walk_nrm))
 refine slots_walk (F := fun u => G ((base 84).at ⟨tmC sv vb ob u, []⟩ [.code (.region 1 reg84_1 true), .code .ret]) (fr :: (l ++ K.bot e))) (fun u0 => ?_) rfl
 refine Walk.drawnE (E := K.E × World) (V := fun x => K.V x.1) (Stop := fun x => K.Stop x.1) (cs := fun x => fr :: (l ++ K.bot x.1)) (w := fun x => x.2) (Inv := CntI K i v vb ob e) (e, K.w e) (by kernel_rfl) (by kernel_rfl) ⟨u0, 0, rfl, Facts.none _ _ _, .inl ⟨rfl, rfl, (K.w e).drawn, rfl⟩⟩ ?_ ?_
 ·rintro f j op x ⟨e', w'⟩ ⟨u, yy, rfl, F0, hS⟩ hC hfj ho hdeps rest hr
  dsimp only at hS hr ⊢
  obtain ⟨dd, rfl⟩ : ∃ d, w' = (K.w e').at d := CntI.world (y := (e', w')) hS
  refine Walk.back ?_ dd
  have hc1 : (K.w e').cell? ⟨vb, 0, none⟩ = some (.int .i64 v) := (cell_of (hcap e').1 0).trans rfl
  have hc2 : (K.w e').cell? ⟨ob, 0, none⟩ = some (.pointer (some ⟨cb, i * 3, none⟩)) := (cell_of (hcap e').2 0).trans rfl
  have hS' : ∀ j, j ≠ 5 → ((upd f j true 5 = false ∧ e' = e ∧ ∃ d, (K.w e').at (K.w e').drawn = (K.w e).at d) ∨ (upd f j true 5 = true ∧ K.tgt e' = (K.s e', .inr (.m6 i (IntKind.i64.wrap (v + yy)))) ∧ ∃ d, (K.w e').at (K.w e').drawn = (K.w e').at d)) := fun j hj => by
   rw [upd_ne _ _ (Ne.symm hj)]
   rcases hS with ⟨h1, h2, _⟩ | ⟨h1, h2, _⟩
   ·exact .inl ⟨h1, h2, by rw [h2]; exact ⟨_, rfl⟩⟩
   ·exact .inr ⟨h1, h2, _, rfl⟩
  have hj : j < 9 := by have := (Array.getElem?_eq_some_iff.1 ho).1; rw [size84_1] at this; exact this
  match j, hj with
  | 0, _ =>
   clear hdeps hC
   simp only [tmC] at hr ⊢
   (refine Walk.oq ?_; try walk_nrm)
   refine hr _ (e', (K.w e').at (K.w e').drawn) ⟨upd u 6 (.int .i64 v), yy, ?_, F0.set (by decide) rfl rfl, hS' 0 (by decide)⟩
   simp [tmC, upd]
  | 1, _ =>
   clear hdeps hC
   simp only [tmC] at hr ⊢
   (refine Walk.oq ?_; try walk_nrm)
   refine hr _ (e', (K.w e').at (K.w e').drawn) ⟨upd u 7 (.pointer (some ⟨cb, i * 3, none⟩)), yy, ?_, F0.set (by decide) rfl rfl, hS' 1 (by decide)⟩
   simp [tmC, upd]
  | 2, _ =>
   have hd := deps_of (l := [1]) (by kernel_rfl) ho hdeps
   have e7 := F0 1 7 _ (hd 1 (by simp)) rfl rfl
   clear hdeps hC
   simp only [tmC] at hr ⊢
   simp only [e7]
   (refine Walk.oq ?_; try walk_nrm)
   refine hr _ (e', (K.w e').at (K.w e').drawn) ⟨upd u 8 (.pointer (some ⟨cb, i * 3, none⟩)), yy, ?_, F0.set (by decide) rfl rfl, hS' 2 (by decide)⟩
   simp [tmC, upd, e7]
  | 3, _ =>
   have hd := deps_of (l := [2]) (by kernel_rfl) ho hdeps
   have e8 := F0 2 8 _ (hd 2 (by simp)) rfl rfl
   clear hdeps hC
   simp only [tmC] at hr ⊢
   simp only [e8]
   (refine Walk.oq ?_; try walk_nrm)
   refine hr _ (e', (K.w e').at (K.w e').drawn) ⟨upd u 9 (.pointer (some ⟨cb, i * 3 + 2, none⟩)), yy, ?_, F0.set (by decide) rfl rfl, hS' 3 (by decide)⟩
   simp [tmC, upd, e8]
  | 4, _ =>
   clear hdeps hC
   simp only [tmC] at hr ⊢
   (refine Walk.oq ?_; try walk_nrm)
   refine hr _ (e', (K.w e').at (K.w e').drawn) ⟨upd u 10 sv, yy, ?_, F0.set (by decide) rfl rfl, hS' 4 (by decide)⟩
   simp [tmC, upd]
  | 5, _ =>
   have hd := deps_of (l := [3, 4]) (by kernel_rfl) ho hdeps
   have e9 := F0 3 9 _ (hd 3 (by simp)) rfl rfl
   have e10 := F0 4 10 _ (hd 4 (by simp)) rfl rfl
   have hno : ∀ j, (j = 6 ∨ j = 7) → f j = false := fun j hj => by
    have h6 : f 6 = true → False := fun h => by
     have := hC.deps (i := 6) (l := [5]) h (by kernel_rfl) 5 (by simp)
     rw [hfj] at this
     cases this
    cases hfx : f j with
    | false => rfl
    | true =>
     exfalso
     rcases hj with rfl | rfl
     ·exact h6 hfx
     ·exact h6 (hC.deps (i := 7) (l := [6]) hfx (by kernel_rfl) 6 (by simp))
   have he : e' = e := by
    rcases hS with ⟨_, h, _⟩ | ⟨h, _⟩
    ·exact h
    ·rw [hfj] at h; cases h
   subst he
   clear hdeps hC hS hS' hc1 hc2
   simp only [tmC] at hr ⊢
   simp only [e9, e10]
   refine LW.callS (K := K.toLb) (e := e') (l := fr :: l) (f := 65) (Q := fun v' e2 => Aft K.toLb e' (.m5 i v) e2 ∧ v' = .int .i64 (Oz.ct (K.s e2) i)) ?_ (ho_of (by conv => lhs; whnf) (by kernel_rfl)) (by rfl) (by decide) rfl Try.func65 (by kernel_rfl) (by rfl) ⟨rfl, rfl, _, Try.func84⟩ (plain_cons hp hl) ?_
   ·walk_nrm
    exact w1
   rintro v' e2 ⟨ha2, rfl⟩
   have ht2 : K.tgt e2 = (K.s e2, .inr (.m6 i (IntKind.i64.wrap (v + Oz.ct (K.s e2) i)))) := ha2.tgt
   generalize Oz.ct (K.s e2) i = y at *
   unfold LW
   walk_nrm
   refine hr _ (e2, (K.w e2).at (K.w e2).drawn) ⟨upd u 11 (.int .i64 y), y, ?_, Facts.set (fun j d x hf hd hx => ?_) (by decide) rfl rfl, .inr ⟨upd_same _ _ _, ht2, _, rfl⟩⟩
   ·simp [tmC, upd, e9, e10]
   ·have hj : j < 9 := (List.getElem?_eq_some_iff.1 hx).1
    have h5 : j ≠ 5 := fun h => by rw [h, hfj] at hf; cases hf
    have h6 : j ≠ 6 := fun h => by rw [hno j (.inl h)] at hf; cases hf
    have h7 : j ≠ 7 := fun h => by rw [hno j (.inr h)] at hf; cases hf
    exact F0 j d x hf hd ((vsC_y cb i sv v yy y (by omega)).trans hx)
  | 6, _ =>
   have hd := deps_of (l := [0, 5]) (by kernel_rfl) ho hdeps
   have e6 := F0 0 6 _ (hd 0 (by simp)) rfl rfl
   have e11 := F0 5 11 _ (hd 5 (by simp)) rfl rfl
   clear hdeps hC
   simp only [tmC] at hr ⊢
   simp only [e6, e11]
   (refine Walk.oq ?_; try walk_nrm)
   refine hr _ (e', (K.w e').at (K.w e').drawn) ⟨upd u 12 (.int .i64 (IntKind.i64.wrap (v + yy))), yy, ?_, F0.set (by decide) rfl rfl, hS' 6 (by decide)⟩
   simp [tmC, upd, e6, e11]
  | 7, _ =>
   have hd := deps_of (l := [6]) (by kernel_rfl) ho hdeps
   have e12 := F0 6 12 _ (hd 6 (by simp)) rfl rfl
   clear hdeps hC
   simp only [tmC] at hr ⊢
   simp only [e12]
   (refine Walk.oq ?_; try walk_nrm)
   refine hr _ (e', (K.w e').at (K.w e').drawn) ⟨upd u 4 (.int .i64 (IntKind.i64.wrap (v + yy))), yy, ?_, F0.set (by decide) rfl rfl, hS' 7 (by decide)⟩
   simp [tmC, upd, e12]
  | 8, _ =>
   clear hdeps hC
   simp only [tmC] at hr ⊢
   (refine Walk.oq ?_; try walk_nrm)
   refine hr _ (e', (K.w e').at (K.w e').drawn) ⟨upd u 5 (.bool true), yy, ?_, F0.set (by decide) rfl rfl, hS' 8 (by decide)⟩
   simp [tmC, upd]
 ·rintro f x ⟨e', w'⟩ ⟨u, yy, rfl, F0, hS⟩ hall
  have hall : ∀ j, j < 9 → f j = true := fun j hj => hall j (by rw [size84_1]; exact hj)
  dsimp only at hS ⊢
  rcases hS with ⟨h, _⟩ | ⟨_, ht2, dd, rfl⟩
  ·rw [hall 5 (by decide)] at h; cases h
  refine Walk.back ?_ dd
  have e4 := F0 7 4 _ (hall 7 (by decide)) rfl rfl
  have e5 := F0 8 5 _ (hall 8 (by decide)) rfl rfl
  have hkk := hk (.tuple #[.int .i64 (IntKind.i64.wrap (v + yy)), .bool true]) e' (.inl ⟨_, rfl, ht2⟩)
  unfold LW at hkk
  simp only [tmC, e4, e5]
  repeat (first | refine Walk.cx ?_ | (refine Walk.cReg ?_; simp only [z84]) | (refine Walk.oq ?_; try walk_nrm) | (refine Walk.un ?_; walk_nrm))
  exact Walk.on2 rfl rfl Try.func84 rfl hkk
end
end
section
noncomputable def reg68_0 := rg Try.f68.body [0]
noncomputable def reg68_1 := rg Try.f68.body [1, 0]
theorem z68 : List.range reg68_0.size = [0] ∧ List.range reg68_1.size = [0, 1, 2, 3] := by refine ⟨?_, ?_⟩ <;> kernel_rfl
theorem code68_is : Try.f68.body = some (.seq (.region 0 reg68_0 false) (.seq (.region 1 reg68_1 false) (.ret))) := by kernel_rfl
noncomputable def reg83_0 := rg Try.f83.body [0]
noncomputable def reg83_1 := rg Try.f83.body [1, 0]
theorem z83 : List.range reg83_0.size = [0] ∧ List.range reg83_1.size = [0, 1, 2, 3] := by refine ⟨?_, ?_⟩ <;> kernel_rfl
theorem code83_is : Try.f83.body = some (.seq (.region 0 reg83_0 false) (.seq (.region 1 reg83_1 false) (.ret))) := by kernel_rfl
noncomputable def reg57_0 := rg Try.f57.body [0]
noncomputable def reg57_1 := rg Try.f57.body [1, 0]
noncomputable def reg57_2 := rg Try.f57.body [1, 1, 0, 0]
noncomputable def reg57_3 := rg Try.f57.body [1, 1, 0, 1, 0, 0]
noncomputable def reg57_4 := rg Try.f57.body [1, 1, 1, 0]
theorem z57 : List.range reg57_0.size = [0] ∧ List.range reg57_1.size = [0, 1, 2, 3, 4, 5, 6, 7, 8, 9, 10] ∧ List.range reg57_2.size = [0, 1] ∧ List.range reg57_3.size = [0, 1, 2, 3] ∧ List.range reg57_4.size = [0, 1, 2] := by refine ⟨?_, ?_, ?_, ?_, ?_⟩ <;> kernel_rfl
theorem code57_is : Try.f57.body = some (.seq (.region 0 reg57_0 false) (.seq (.region 1 reg57_1 false) (.seq (.seq (.region 2 reg57_2 false) (.cond (.tmp 21 ) (.seq (.region 3 reg57_3 false) (.ret)) (.skip))) (.seq (.region 4 reg57_4 false) (.ret))))) := by kernel_rfl
theorem triesX_is (t : Int) : ((triesX t : Nat) : Int) = min (max t 1) 1024 := by unfold triesX; omega
theorem triesX_idem (t : Int) : triesX (min (max t 1) 1024) = triesX t := by unfold triesX; omega
theorem triesX_lo (t : Int) : 1 ≤ triesX t ∧ triesX t ≤ 1024 := by unfold triesX; omega
section
variable {main : Bool} {V : Nat → Option Wait}
theorem clampI_w (t : Int) (w : World) : CallV Try.prog main V 68 #[.int .i64 t] w (.int .i64 (triesX t : Nat)) w := by
 rw [triesX_is]
 have hmx := @events_max_ints Try.prog
 have hmn := @events_min_ints Try.prog
 refine callW_in Try.func68 code68_is fun fr cs => ?_
 simp only [Try.ntmps68, ez, Nat.reduceAdd, Nat.reduceSub]
 repeat (first | refine Walk.cx ?_ | (refine Walk.cReg ?_; simp only [z68]) | (refine Walk.oq ?_; try walk_nrm) | (refine Walk.un ?_; walk_nrm))
 exact Walk.ret1 rfl rfl Try.func68 rfl fun d => ⟨by simp, d, rfl⟩
theorem clampL_w (t : Int) (w : World) : CallV Try.prog main V 83 #[.int .i64 t] w (.int .i64 (triesX t : Nat)) w := by
 rw [triesX_is]
 have hmx := @events_max_ints Try.prog
 have hmn := @events_min_ints Try.prog
 refine callW_in Try.func83 code83_is fun fr cs => ?_
 simp only [Try.ntmps83, ez, Nat.reduceAdd, Nat.reduceSub]
 repeat (first | refine Walk.cx ?_ | (refine Walk.cReg ?_; simp only [z83]) | (refine Walk.oq ?_; try walk_nrm) | (refine Walk.un ?_; walk_nrm))
 exact Walk.ret1 rfl rfl Try.func83 rfl fun d => ⟨by simp, d, rfl⟩
end
section
variable {cb m : Nat} {sv : Value}
theorem make_s (K : Lg (onLa cb m) sv) (q : Bool) (i : Nat) (hi : i < m) (v : Int) (fm : FuncId) (fn : Func) (caps : Array Value) (hf : Try.prog.funcs[fm]? = some fn) (hname : (fn.name == "runtime.NumGoroutine") = false) (hb : fn.body.isNone = false) (hmk : MkOK K q i v fm caps)
  (t : Int) (e : K.E) (ht : K.tgt e = (K.s e, .inr (.m1 q i v (triesX t)))) : SCall K.toLb 42 #[onP cb i, sv, .int .i64 t, .func (.func fm) #[] caps] e (MakeOut K) := by
 intro fr l hp hl hk
 obtain ⟨t1, t2⟩ := triesX_lo t
 have hh := fun u => make_loop K q i hi v fm fn caps hf hname hb hmk (.int .i64 t) (triesX t) t2 fr l hp hl hk (triesX t) 0 e u (by omega) (ht.trans (by unfold lpT; rw [if_neg (by omega)]; rfl))
 have hc := clampI_w (main := K.main) (V := K.V e) t (K.w e)
 generalize triesX t = N at *
 unfold LW at hh ⊢
 unfold onP at *
 have hp1 := fun w => run_eql_ptr (P := Try.prog) 35 undOnce (some ⟨cb, i * 3, none⟩) w
 have hp2 := fun w es => ev_eql_ptr (P := Try.prog) 35 undOnce (some ⟨cb, i * 3, none⟩) w es
 have hn1 := fun w => run_eql_func (P := Try.prog) (w := w) 113 (.func fm) #[] caps (by kernel_rfl : Try.prog.underlying 113 = some (.func #[69] #[2, 4] false))
 have hn2 := fun w es => ev_eql_func (P := Try.prog) (w := w) 113 (.func fm) #[] caps es (by kernel_rfl : Try.prog.underlying 113 = some (.func #[69] #[2, 4] false))
 simp only [Option.isNone_some] at hp1
 rw [enter_at _ Try.func42 code42_is]
 simp only [Try.ntmps42, ez, Nat.reduceAdd, Nat.reduceSub]
 repeat (first | refine Walk.cx ?_ | (refine Walk.cReg ?_; simp only [z42]) | (refine Walk.oq ?_; try walk_nrm) | (refine Walk.un ?_; walk_nrm))
 refine Walk.callV (x := .int .i64 (N : Nat)) (W := K.w e) ?_ (ho_of (by conv => lhs; whnf) (by kernel_rfl)) (by rfl) (by decide) rfl Try.func68 (by kernel_rfl) (by rfl) ?_
 ·walk_nrm
  exact hc
 walk_nrm
 repeat (first | refine Walk.cx ?_ | (refine Walk.cReg ?_; simp only [z42]) | (refine Walk.oq ?_; try walk_nrm) | (refine Walk.un ?_; walk_nrm))
 refine Walk.ctl rfl (fun w => stepG_loop) ?_
 refine slots_walk (F := fun u => G (hdMake (.pointer (some ⟨cb, i * 3, none⟩)) sv (.int .i64 t) (.func (.func fm) #[] caps) N 0 u) (fr :: (l ++ K.bot e))) hh ?_
 simp only [hdMake]
 rfl
theorem cell_back {L : La} {sv : Value} (K : Lg L sv) {F : FuncId} {fn : Func} {e2 : K.E} {fr c : Frame} {l : List Frame} {R : Nat} {a : Ans} {Q : Value → K.E → Prop} (hm : K.mine e2 R) (hR : (K.w e2).heap[R]? = some (.cells #[.bool false, .int .i64 0, .slice none 0 0] 51))
  (ht : K.tgt e2 = (K.s e2, .inl a)) (hk : ∀ e', K.tgt e' = (K.s e', .inl a) → LW K.toLb e' (G (c.finish (ansVal a)) (l ++ K.bot e')))
  (hF : Try.prog.funcs[F]? = some fn) (hres : fn.results = #[.cell 8 51]) (hfr : fr.mode = .returning ∧ fr.kind = .normal ∧ fr.defers = [] ∧ fr.fn = F ∧ fr.tmps.getD 8 undef = .pointer (some ⟨R, 0, none⟩)) :
  Walk Try.prog K.main (DR (K.V e2)) (K.Stop e2) (G fr (c :: (l ++ K.bot e2))) ((K.w e2).setRow R #[.bool a.1, .int .i64 a.2, .slice none 0 0]) := by
 obtain ⟨h1, h2, h3, h4, h5⟩ := hfr
 obtain ⟨e3, m⟩ := K.own e2 (w' := (K.w e2).setRow R #[.bool a.1, .int .i64 a.2, .slice none 0 0]) (by rw [setRow_size]; exact Nat.le_refl _) (fun b _ hbm => setRow_other _ _ (fun he : b = R => hbm (by rw [he]; exact hm)))
 have c9 := setRow_self (cells := #[.bool a.1, .int .i64 a.2, .slice none 0 0]) hR
 refine Walk.onCell (T := R) h1 h2 h3 (by rw [h4]; exact hF) hres h5 c9 (by kernel_rfl) (by kernel_rfl) ?_
 refine LW.to m (hk e3 ?_)
 rw [m.tgt, m.s]
 exact ht
theorem answer_s (K : Lg (onLa cb m) sv) (q : Bool) (i : Nat) (hi : i < m) (v : Int) (fm : FuncId) (fn : Func) (caps : Array Value) (hf : Try.prog.funcs[fm]? = some fn) (hname : (fn.name == "runtime.NumGoroutine") = false) (hb : fn.body.isNone = false) (hmk : ∀ e1, MkOK (Fz K e1) q i v fm caps)
  (t : Int) (e : K.E) (ht : K.tgt e = (K.s e, .inr (.m1 q i v (triesX t)))) : SCall K.toLb 57 #[onP cb i, sv, .int .i64 t, .func (.func fm) #[] caps] e (fun x e' => ∃ a, K.tgt e' = (K.s e', .inl a) ∧ x = ansVal a) := by
 intro fr l hp hl hk
 unfold LW
 have hc := fun w => clampL_w (main := K.main) (V := K.V e) t w
 have hmm := fun e1 h => SCall.fz K (make_s (Fz K e1) q i hi v fm fn caps hf hname hb (hmk e1) (triesX t : Nat) (fz0 K e1) h)
 have htt : triesX ((triesX t : Nat) : Int) = triesX t := by rw [triesX_is, triesX_idem]
 rw [htt] at hmm
 generalize triesX t = N at *
 unfold onP at *
 rw [enter_at _ Try.func57 code57_is]
 simp only [Try.ntmps57, ez, Nat.reduceAdd, Nat.reduceSub]
 repeat (first | refine Walk.cx ?_ | (refine Walk.cReg ?_; simp only [z57]) | (refine Walk.oq ?_; try walk_nrm) | (refine Walk.un ?_; walk_nrm))
 (refine Walk.oa ?_; try walk_nrm)
 have c1 := heap_alloc_new (K.w e) (.cells #[.bool false, .int .i64 0, .slice none 0 0] 51)
 have s1 : ((K.w e).alloc (.cells #[.bool false, .int .i64 0, .slice none 0 0] 51)).heap.size = (K.w e).heap.size + 1 := by simp
 obtain ⟨e1, m1⟩ := K.grow e (w' := (K.w e).alloc (.cells #[.bool false, .int .i64 0, .slice none 0 0] 51)) (by omega) (fun b hb' => heap_new_lt _ _ hb')
 generalize hR : (K.w e).heap.size = R at *
 generalize (K.w e).alloc (.cells #[.bool false, .int .i64 0, .slice none 0 0] 51) = w1 at *
 have hmR : K.mine e1 R := m1.new (by omega) (by omega)
 have ht1 : K.tgt e1 = (K.s e1, .inr (.m1 q i v N)) := by rw [m1.tgt, m1.s]; exact ht
 have hw1 := m1.w
 have hV1 := m1.V
 rw [← hw1] at c1
 repeat (first | refine Walk.cx ?_ | (refine Walk.cReg ?_; simp only [z57]) | (refine Walk.oq ?_; try walk_nrm) | (refine Walk.un ?_; walk_nrm))
 refine Walk.callV (x := .int .i64 (N : Nat)) (W := w1) ?_ (ho_of (by conv => lhs; whnf) (by kernel_rfl)) (by rfl) (by decide) rfl Try.func83 (by kernel_rfl) (by rfl) ?_
 ·walk_nrm
  exact hc w1
 walk_nrm
 repeat (first | refine Walk.cx ?_ | (refine Walk.cReg ?_; simp only [z57]) | (refine Walk.oq ?_; try walk_nrm) | (refine Walk.un ?_; walk_nrm))
 refine LW.to (l := fr :: l) m1 ?_
 refine LW.callS (K := K.toLb) (e := e1) (l := fr :: l) (f := 42) (Q := fun x e' => ∃ h : Kept K e1 e', MakeOut (Fz K e1) x ⟨e', h⟩) ?_ (ho_of (by conv => lhs; whnf) (by kernel_rfl)) (by rfl) (by decide) rfl Try.func42 (by kernel_rfl) (by rfl) ⟨rfl, rfl, _, Try.func57⟩ (plain_cons hp hl) ?_
 ·walk_nrm
  exact hmm e1 ht1
 rintro x e2 ⟨hkept, y, n, rfl, h3⟩
 obtain ⟨hm2, hb2⟩ := hkept R hmR
 rw [c1] at hb2
 have hap2 := (K.mineA e2 _ hm2).1
 have hx : (n = 0 ∧ K.tgt e2 = (K.s e2, .inl (true, y))) ∨ (n = 4 ∧ y = 0 ∧ K.tgt e2 = (K.s e2, .inl (false, -4))) ∨ (n = 6 ∧ y = 0 ∧ K.tgt e2 = (K.s e2, .inl (false, -6))) := h3
 clear h3 hmm hmk
 unfold LW
 walk_nrm
 repeat (first | refine Walk.cx ?_ | (refine Walk.cReg ?_; simp only [z57]) | (refine Walk.oq ?_; try walk_nrm) | (refine Walk.un ?_; walk_nrm))
 rcases hx with ⟨rfl, ht2⟩ | ⟨rfl, rfl, ht2⟩ | ⟨rfl, rfl, ht2⟩
 ·repeat (first | refine Walk.cx ?_ | (refine Walk.cReg ?_; simp only [z57]) | (refine Walk.oq ?_; try walk_nrm) | (refine Walk.un ?_; walk_nrm))
  refine Walk.storeS 51 (.tmp 8) (.tmp 26) (ho_of (by conv => lhs; whnf) (by kernel_rfl)) (by rfl) (by decide) rfl R #[.bool true, .int .i64 y, .slice none 0 0] _ 51 rfl rfl hb2 (by kernel_rfl) (by rfl) (by simp [Value.oneCell']) hap2 ?_
  walk_nrm
  repeat (first | refine Walk.cx ?_ | (refine Walk.cReg ?_; simp only [z57]) | (refine Walk.oq ?_; try walk_nrm) | (refine Walk.un ?_; walk_nrm))
  exact cell_back K (a := (true, y)) (Q := fun _ _ => True) hm2 hb2 ht2 (fun e' h => hk _ e' ⟨_, h, rfl⟩) Try.func57 rfl ⟨rfl, rfl, rfl, rfl, rfl⟩
 ·repeat (first | refine Walk.cx ?_ | (refine Walk.cReg ?_; simp only [z57]) | (refine Walk.oq ?_; try walk_nrm) | (refine Walk.un ?_; walk_nrm))
  refine Walk.storeS 51 (.tmp 8) (.tmp 24) (ho_of (by conv => lhs; whnf) (by kernel_rfl)) (by rfl) (by decide) rfl R #[.bool false, .int .i64 (-4), .slice none 0 0] _ 51 rfl rfl hb2 (by kernel_rfl) (by rfl) (by simp [Value.oneCell']) hap2 ?_
  walk_nrm
  repeat (first | refine Walk.cx ?_ | (refine Walk.cReg ?_; simp only [z57]) | (refine Walk.oq ?_; try walk_nrm) | (refine Walk.un ?_; walk_nrm))
  exact cell_back K (a := (false, -4)) (Q := fun _ _ => True) hm2 hb2 ht2 (fun e' h => hk _ e' ⟨_, h, rfl⟩) Try.func57 rfl ⟨rfl, rfl, rfl, rfl, rfl⟩
 ·repeat (first | refine Walk.cx ?_ | (refine Walk.cReg ?_; simp only [z57]) | (refine Walk.oq ?_; try walk_nrm) | (refine Walk.un ?_; walk_nrm))
  refine Walk.storeS 51 (.tmp 8) (.tmp 24) (ho_of (by conv => lhs; whnf) (by kernel_rfl)) (by rfl) (by decide) rfl R #[.bool false, .int .i64 (-6), .slice none 0 0] _ 51 rfl rfl hb2 (by kernel_rfl) (by rfl) (by simp [Value.oneCell']) hap2 ?_
  walk_nrm
  repeat (first | refine Walk.cx ?_ | (refine Walk.cReg ?_; simp only [z57]) | (refine Walk.oq ?_; try walk_nrm) | (refine Walk.un ?_; walk_nrm))
  exact cell_back K (a := (false, -6)) (Q := fun _ _ => True) hm2 hb2 ht2 (fun e' h => hk _ e' ⟨_, h, rfl⟩) Try.func57 rfl ⟨rfl, rfl, rfl, rfl, rfl⟩
end
end
section
noncomputable def reg30_0 := rg Try.f30.body [0]
noncomputable def reg30_1 := rg Try.f30.body [1, 0, 0]
noncomputable def reg30_2 := rg Try.f30.body [1, 0, 1, 0, 0]
noncomputable def reg30_3 := rg Try.f30.body [1, 1, 0]
noncomputable def reg30_4 := rg Try.f30.body [1, 1, 1, 0, 0]
noncomputable def reg30_5 := rg Try.f30.body [1, 1, 1, 0, 1, 0, 0]
noncomputable def reg30_6 := rg Try.f30.body [1, 1, 1, 0, 1, 0, 1, 0, 0]
noncomputable def reg30_7 := rg Try.f30.body [1, 1, 1, 0, 1, 0, 1, 0, 1, 0]
noncomputable def reg30_8 := rg Try.f30.body [1, 1, 1, 0, 1, 0, 1, 1, 0]
noncomputable def reg30_9 := rg Try.f30.body [1, 1, 1, 0, 1, 0, 1, 1, 1, 0, 0]
noncomputable def reg30_10 := rg Try.f30.body [1, 1, 1, 0, 1, 0, 1, 1, 1, 0, 1, 0]
noncomputable def reg30_11 := rg Try.f30.body [1, 1, 1, 0, 1, 0, 1, 1, 1, 1, 0]
noncomputable def reg30_12 := rg Try.f30.body [1, 1, 1, 0, 1, 0, 1, 1, 1, 1, 1, 0, 0]
theorem size30_12 : reg30_12.size = 10 := by kernel_rfl
noncomputable def reg30_13 := rg Try.f30.body [1, 1, 1, 0, 1, 0, 1, 1, 1, 1, 1, 1, 0]
noncomputable def reg30_14 := rg Try.f30.body [1, 1, 1, 0, 1, 0, 1, 1, 1, 1, 1, 1, 1, 0, 0]
noncomputable def reg30_15 := rg Try.f30.body [1, 1, 1, 1, 0]
theorem z30 : List.range reg30_0.size = [0, 1] ∧ List.range reg30_1.size = [0, 1, 2, 3, 4, 5, 6, 7, 8, 9] ∧ List.range reg30_2.size = [0, 1] ∧ List.range reg30_3.size = [0, 1, 2, 3, 4] ∧ List.range reg30_4.size = [0, 1] ∧ List.range reg30_5.size = [0, 1] ∧ List.range reg30_6.size = [0, 1, 2, 3, 4, 5, 6, 7] ∧ List.range reg30_7.size = [0, 1, 2, 3] ∧ List.range reg30_8.size = [0, 1] ∧ List.range reg30_9.size = [0, 1, 2, 3, 4, 5, 6, 7, 8, 9] ∧ List.range reg30_10.size = [0, 1, 2, 3] ∧ List.range reg30_11.size = [0, 1] ∧ List.range reg30_12.size = [0, 1, 2, 3, 4, 5, 6, 7, 8, 9] ∧ List.range reg30_13.size = [0, 1] ∧ List.range reg30_14.size = [0, 1, 2, 3, 4, 5] ∧ List.range reg30_15.size = [0, 1] := by refine ⟨?_, ?_, ?_, ?_, ?_, ?_, ?_, ?_, ?_, ?_, ?_, ?_, ?_, ?_, ?_, ?_⟩ <;> kernel_rfl
theorem code30_is : Try.f30.body = some (.seq (.region 0 reg30_0 false) (.seq (.seq (.region 1 reg30_1 false) (.cond (.tmp 23 ) (.seq (.region 2 reg30_2 false) (.ret)) (.skip))) (.seq (.region 3 reg30_3 false) (.seq (.seq (.region 4 reg30_4 false) (.block 0 (.seq (.region 5 reg30_5 false) (.cond (.tmp 31 ) (.seq (.region 6 reg30_6 false) (.seq (.region 7 reg30_7 false) (.ret))) (.seq (.region 8 reg30_8 false) (.cond (.tmp 42 ) (.seq (.region 9 reg30_9 false) (.seq (.region 10 reg30_10 false) (.ret))) (.seq (.region 11 reg30_11 false) (.cond (.tmp 55 ) (.seq (.region 12 reg30_12 true) (.ret)) (.seq (.region 13 reg30_13 false) (.cond (.tmp 66 ) (.seq (.region 14 reg30_14 false) (.ret)) (.skip))))))))))) (.seq (.region 15 reg30_15 false) (.ret)))))) := by kernel_rfl
theorem facts_moreO {dsts : List Nat} {vals : List Value} {f : Nat → Bool} {u : Nat → Value} (F : Facts dsts vals f u) {i : Nat} (hd : dsts[i]? = none) : Facts dsts vals (upd f i true) u := by
 intro j d v hf hj hv
 by_cases e : j = i
 ·rw [e, hd] at hj; cases hj
 ·rw [upd_ne _ _ e] at hf
  exact F j d v hf hj hv
def mkV (B : Nat) : Value := .func (.func 84) #[] #[.pointer (some ⟨B + 1, 0, none⟩), .pointer (some ⟨B, 0, none⟩)]
def tmD (sv : Value) (N cb i : Nat) (u : Nat → Value) : Array Value := #[u 0, sv, u 2, u 3, u 4, u 5, u 6, .pointer (some ⟨N, 0, none⟩), .pointer (some ⟨N + 1, 0, none⟩), .pointer (some ⟨cb, i * 3, none⟩), u 10, u 11, u 12, u 13, u 14, u 15, u 16, u 17, u 18, u 19, u 20, u 21, u 22, u 23, u 24, u 25, u 26, u 27, u 28, u 29, u 30, u 31, u 32, u 33, u 34, u 35, u 36, u 37, u 38, u 39, u 40, u 41, u 42, u 43, u 44, u 45, u 46, u 47, u 48, u 49, u 50, u 51, u 52, u 53, u 54, u 55, u 56, u 57, u 58, u 59, u 60, u 61, u 62, u 63, u 64, u 65, u 66, u 67, u 68, u 69, u 70, u 71, u 72, u 73]
def dsD : List Nat := [57, 58, 59, 60, 61, 62, 63, 64, 65]
def vsD (sv : Value) (N cb i : Nat) (ob oc : Int) (B : Nat) (a : Ans) : List Value := [.pointer (some ⟨cb, i * 3, none⟩), sv, .pointer (some ⟨N, 3, none⟩), .int .i64 oc, .pointer (some ⟨cb, i * 3, none⟩), .pointer (some ⟨N, 2, none⟩), .int .i64 ob, mkV B, ansVal a]
theorem vsD_B (sv : Value) (N cb i : Nat) (ob oc : Int) (B B' : Nat) (a a' : Ans) {j : Nat} (h : j < 7) : (vsD sv N cb i ob oc B a)[j]? = (vsD sv N cb i ob oc B' a')[j]? := by
 match j, h with
 | 0, _ => rfl
 | 1, _ => rfl
 | 2, _ => rfl
 | 3, _ => rfl
 | 4, _ => rfl
 | 5, _ => rfl
 | 6, _ => rfl
theorem vsD_a (sv : Value) (N cb i : Nat) (ob oc : Int) (B : Nat) (a a' : Ans) {j : Nat} (h : j < 8) : (vsD sv N cb i ob oc B a)[j]? = (vsD sv N cb i ob oc B a')[j]? := by
 match j, h with
 | 0, _ => rfl
 | 1, _ => rfl
 | 2, _ => rfl
 | 3, _ => rfl
 | 4, _ => rfl
 | 5, _ => rfl
 | 6, _ => rfl
 | 7, _ => rfl
section
variable {cb m : Nat} {sv : Value}
inductive DoS (K : Lg (onLa cb m) sv) (N i : Nat) (ok oa ob oc : Int) (B : Nat) (a : Ans) (f : Nat → Bool) (e : K.E) (w : World) : Prop
 | early (h7 : f 7 = false) (h8 : f 8 = false) (h9 : f 9 = false) (op : (K.w e).heap[N]? = some (.cells #[.int .i64 ok, .int .i64 oa, .int .i64 ob, .int .i64 oc] 34)) (z : (K.w e).heap[N + 1]? = some (.cells #[.bool false, .int .i64 0, .slice none 0 0] 51))
   (t : K.tgt e = (K.s e, .inr (.m1 false i ob (triesX oc)))) (w : ∃ d, w = (K.w e).at d)
 | made (h7 : f 7 = true) (h8 : f 8 = false) (h9 : f 9 = false) (op : (K.w e).heap[N]? = some (.cells #[.int .i64 ok, .int .i64 oa, .int .i64 ob, .int .i64 oc] 34)) (z : (K.w e).heap[N + 1]? = some (.cells #[.bool false, .int .i64 0, .slice none 0 0] 51))
   (t : K.tgt e = (K.s e, .inr (.m1 false i ob (triesX oc)))) (b0 : K.mine e B) (b1 : K.mine e (B + 1)) (c0 : (K.w e).heap[B]? = some (.cells #[onP cb i] 35)) (c1 : (K.w e).heap[B + 1]? = some (.cells #[.int .i64 ob] 2)) (w : ∃ d, w = (K.w e).at d)
 | done (h8 : f 8 = true) (h9 : f 9 = false) (z : (K.w e).heap[N + 1]? = some (.cells #[.bool false, .int .i64 0, .slice none 0 0] 51)) (t : K.tgt e = (K.s e, .inl a)) (w : ∃ d, w = (K.w e).at d)
 | told (h9 : f 9 = true) (z : (K.w e).heap[N + 1]? = some (.cells #[.bool false, .int .i64 0, .slice none 0 0] 51)) (t : K.tgt e = (K.s e, .inl a)) (w : ∃ d, w = ((K.w e).setRow (N + 1) #[.bool a.1, .int .i64 a.2, .slice none 0 0]).at d)
theorem DoS.quiet {K : Lg (onLa cb m) sv} {N i : Nat} {ok oa ob oc : Int} {B : Nat} {a : Ans} {f : Nat → Bool} {e : K.E} {w : World} (h : DoS K N i ok oa ob oc B a f e w) {j : Nat} (hj : j < 7) (hf : f 8 = false ∧ f 9 = false) :
  DoS K N i ok oa ob oc B a (upd f j true) e ((K.w e).at (K.w e).drawn) ∧ (∃ d, w = (K.w e).at d) ∧ (K.w e).heap[N]? = some (.cells #[.int .i64 ok, .int .i64 oa, .int .i64 ob, .int .i64 oc] 34) := by
 have n7 : upd f j true 7 = f 7 := upd_ne _ _ (by omega)
 have n8 : upd f j true 8 = f 8 := upd_ne _ _ (by omega)
 have n9 : upd f j true 9 = f 9 := upd_ne _ _ (by omega)
 cases h with
 | early h7 h8 h9 op z t w => exact ⟨.early (n7.trans h7) (n8.trans h8) (n9.trans h9) op z t ⟨_, rfl⟩, w, op⟩
 | made h7 h8 h9 op z t b0 b1 c0 c1 w => exact ⟨.made (n7.trans h7) (n8.trans h8) (n9.trans h9) op z t b0 b1 c0 c1 ⟨_, rfl⟩, w, op⟩
 | done h8 => rw [hf.1] at h8; cases h8
 | told h9 => rw [hf.2] at h9; cases h9
theorem do_mk (K : Lg (onLa cb m) sv) (i : Nat) (hi : i < m) (N : Nat) (ok oa ob oc : Int) (e : K.E) (hmine : K.mine e (N + 1)) (hop : (K.w e).heap[N]? = some (.cells #[.int .i64 ok, .int .i64 oa, .int .i64 ob, .int .i64 oc] 34))
  (hz : (K.w e).heap[N + 1]? = some (.cells #[.bool false, .int .i64 0, .slice none 0 0] 51)) (ht : K.tgt e = (K.s e, .inr (.m1 false i ob (triesX oc)))) (fr : Frame) (l : List Frame) (hp : Plain fr) (hl : ∀ f ∈ l, Plain f)
  (hk : ∀ e' a, K.tgt e' = (K.s e', .inl a) → LW K.toLb e' (G (fr.finish (ansVal a)) (l ++ K.bot e'))) (k : List Item) (u0 : Nat → Value) (hret : ∀ (u : Nat → Value) (e' : K.E) (a : Ans), K.mine e' (N + 1) → (K.w e').heap[N + 1]? = some (.cells #[.bool false, .int .i64 0, .slice none 0 0] 51) → K.tgt e' = (K.s e', .inl a) →
   Walk Try.prog K.main (DR (K.V e')) (K.Stop e') (G ((base 30).at ⟨tmD sv N cb i u, []⟩ (.inRegion reg30_12 [] :: k)) (fr :: (l ++ K.bot e'))) ((K.w e').setRow (N + 1) #[.bool a.1, .int .i64 a.2, .slice none 0 0])) :
  LW K.toLb e (G ((base 30).at ⟨tmD sv N cb i u0, []⟩ (.code (.region 12 reg30_12 true) :: k)) (fr :: (l ++ K.bot e))) := by
 unfold LW
 refine Walk.drawnE (E := K.E × World) (V := fun x => K.V x.1) (Stop := fun x => K.Stop x.1) (cs := fun x => fr :: (l ++ K.bot x.1)) (w := fun x => x.2) (Inv := fun f x y => ∃ u B a, x = ⟨tmD sv N cb i u, []⟩ ∧ Facts dsD (vsD sv N cb i ob oc B a) f u ∧ K.mine y.1 (N + 1) ∧ DoS K N i ok oa ob oc B a f y.1 y.2) (e, K.w e) (by kernel_rfl) (by kernel_rfl)
  ⟨u0, 0, (false, 0), rfl, Facts.none _ _ _, hmine, .early rfl rfl rfl hop hz ht ⟨(K.w e).drawn, rfl⟩⟩ ?_ ?_
 ·rintro f j op x ⟨e', w'⟩ ⟨u, B, a, rfl, F0, hm, hS⟩ hC hfj ho hdeps rest hr
  dsimp only at hS hr hm ⊢
  have hj : j < 10 := by have := (Array.getElem?_eq_some_iff.1 ho).1; rw [size30_12] at this; exact this
  have h98 : f 9 = true → f 8 = true := fun h => hC.deps (i := 9) (l := [8]) h (by kernel_rfl) 8 (by simp)
  have h8 : f 8 = true → ∀ j, (j = 0 ∨ j = 1 ∨ j = 3 ∨ j = 7) → f j = true := fun h j hj => hC.deps (i := 8) (l := [0, 1, 3, 7]) h (by kernel_rfl) j (by simpa using hj)
  have h3 : f 3 = true → f 2 = true := fun h => hC.deps (i := 3) (l := [2]) h (by kernel_rfl) 2 (by simp)
  have h7 : f 7 = true → ∀ j, (j = 4 ∨ j = 6) → f j = true := fun h j hj => hC.deps (i := 7) (l := [4, 6]) h (by kernel_rfl) j (by simpa using hj)
  have h6 : f 6 = true → f 5 = true := fun h => hC.deps (i := 6) (l := [5]) h (by kernel_rfl) 5 (by simp)
  have hq : j < 7 → f 8 = false ∧ f 9 = false := fun hj7 => by
   have h : f 8 = false := by
    cases h : f 8 with
    | false => rfl
    | true =>
     exfalso
     have a0 := h8 h 0 (by simp)
     have a1 := h8 h 1 (by simp)
     have a3 := h8 h 3 (by simp)
     have a7 := h8 h 7 (by simp)
     have a2 := h3 a3
     have a4 := h7 a7 4 (by simp)
     have a6 := h7 a7 6 (by simp)
     have a5 := h6 a6
     have : f j = true := by
      match j, hj7 with
      | 0, _ => exact a0
      | 1, _ => exact a1
      | 2, _ => exact a2
      | 3, _ => exact a3
      | 4, _ => exact a4
      | 5, _ => exact a5
      | 6, _ => exact a6
     rw [hfj] at this
     cases this
   refine ⟨h, ?_⟩
   cases h9 : f 9 with
   | false => rfl
   | true => rw [h98 h9] at h; cases h
  match j, hj with
  | 0, _ =>
   obtain ⟨hS2, ⟨dd, rfl⟩, hop2⟩ := hS.quiet (j := 0) (by decide) (hq (by decide))
   refine Walk.back ?_ dd
   clear hdeps hC
   simp only [tmD] at hr ⊢
   (refine Walk.oq ?_; try walk_nrm)
   refine hr _ (e', (K.w e').at (K.w e').drawn) ⟨upd u 57 (.pointer (some ⟨cb, i * 3, none⟩)), B, a, ?_, F0.set (by decide) rfl rfl, hm, hS2⟩
   simp [tmD, upd]
  | 1, _ =>
   obtain ⟨hS2, ⟨dd, rfl⟩, hop2⟩ := hS.quiet (j := 1) (by decide) (hq (by decide))
   refine Walk.back ?_ dd
   clear hdeps hC
   simp only [tmD] at hr ⊢
   (refine Walk.oq ?_; try walk_nrm)
   refine hr _ (e', (K.w e').at (K.w e').drawn) ⟨upd u 58 (sv), B, a, ?_, F0.set (by decide) rfl rfl, hm, hS2⟩
   simp [tmD, upd]
  | 2, _ =>
   obtain ⟨hS2, ⟨dd, rfl⟩, hop2⟩ := hS.quiet (j := 2) (by decide) (hq (by decide))
   refine Walk.back ?_ dd
   clear hdeps hC
   simp only [tmD] at hr ⊢
   (refine Walk.oq ?_; try walk_nrm)
   refine hr _ (e', (K.w e').at (K.w e').drawn) ⟨upd u 59 (.pointer (some ⟨N, 3, none⟩)), B, a, ?_, F0.set (by decide) rfl rfl, hm, hS2⟩
   simp [tmD, upd]
  | 3, _ =>
   obtain ⟨hS2, ⟨dd, rfl⟩, hop2⟩ := hS.quiet (j := 3) (by decide) (hq (by decide))
   refine Walk.back ?_ dd
   have hd := deps_of (l := [2]) (by kernel_rfl) ho hdeps
   have e59 := F0 2 59 _ (hd 2 (by simp)) rfl rfl
   have hcc : (K.w e').cell? ⟨N, 3, none⟩ = some (.int .i64 oc) := (cell_of hop2 3).trans rfl
   clear hdeps hC
   simp only [tmD] at hr ⊢
   simp only [e59]
   (refine Walk.oq ?_; try walk_nrm)
   refine hr _ (e', (K.w e').at (K.w e').drawn) ⟨upd u 60 (.int .i64 oc), B, a, ?_, F0.set (by decide) rfl rfl, hm, hS2⟩
   simp [tmD, upd, e59]
  | 4, _ =>
   obtain ⟨hS2, ⟨dd, rfl⟩, hop2⟩ := hS.quiet (j := 4) (by decide) (hq (by decide))
   refine Walk.back ?_ dd
   clear hdeps hC
   simp only [tmD] at hr ⊢
   (refine Walk.oq ?_; try walk_nrm)
   refine hr _ (e', (K.w e').at (K.w e').drawn) ⟨upd u 61 (.pointer (some ⟨cb, i * 3, none⟩)), B, a, ?_, F0.set (by decide) rfl rfl, hm, hS2⟩
   simp [tmD, upd]
  | 5, _ =>
   obtain ⟨hS2, ⟨dd, rfl⟩, hop2⟩ := hS.quiet (j := 5) (by decide) (hq (by decide))
   refine Walk.back ?_ dd
   clear hdeps hC
   simp only [tmD] at hr ⊢
   (refine Walk.oq ?_; try walk_nrm)
   refine hr _ (e', (K.w e').at (K.w e').drawn) ⟨upd u 62 (.pointer (some ⟨N, 2, none⟩)), B, a, ?_, F0.set (by decide) rfl rfl, hm, hS2⟩
   simp [tmD, upd]
  | 6, _ =>
   obtain ⟨hS2, ⟨dd, rfl⟩, hop2⟩ := hS.quiet (j := 6) (by decide) (hq (by decide))
   refine Walk.back ?_ dd
   have hd := deps_of (l := [5]) (by kernel_rfl) ho hdeps
   have e62 := F0 5 62 _ (hd 5 (by simp)) rfl rfl
   have hcc : (K.w e').cell? ⟨N, 2, none⟩ = some (.int .i64 ob) := (cell_of hop2 2).trans rfl
   clear hdeps hC
   simp only [tmD] at hr ⊢
   simp only [e62]
   (refine Walk.oq ?_; try walk_nrm)
   refine hr _ (e', (K.w e').at (K.w e').drawn) ⟨upd u 63 (.int .i64 ob), B, a, ?_, F0.set (by decide) rfl rfl, hm, hS2⟩
   simp [tmD, upd, e62]
  | 7, _ =>
   have hd := deps_of (l := [4, 6]) (by kernel_rfl) ho hdeps
   have e61 := F0 4 61 _ (hd 4 (by simp)) rfl rfl
   have e63 := F0 6 63 _ (hd 6 (by simp)) rfl rfl
   have hno : ∀ j, (j = 8 ∨ j = 9) → f j = false := fun j hj => by
    have h8' : f 8 = true → False := fun h => by
     have := h8 h 7 (by simp)
     rw [hfj] at this
     cases this
    cases hfx : f j with
    | false => rfl
    | true =>
     exfalso
     rcases hj with rfl | rfl
     ·exact h8' hfx
     ·exact h8' (h98 hfx)
   cases hS with
   | made h7' => rw [hfj] at h7'; cases h7'
   | done h8' => rw [hno 8 (.inl rfl)] at h8'; cases h8'
   | told h9' => rw [hno 9 (.inr rfl)] at h9'; cases h9'
   | early g7 g8 g9 op z t hw =>
    obtain ⟨dd, rfl⟩ := hw
    refine Walk.back ?_ dd
    clear hdeps hC
    simp only [tmD] at hr ⊢
    simp only [e61, e63]
    refine Walk.callW (Post := fun x w' => x = .func (.func 84) #[] #[.pointer (some ⟨(K.w e').heap.size + 1, 0, none⟩), .pointer (some ⟨(K.w e').heap.size, 0, none⟩)] ∧
     w'.heap[(K.w e').heap.size]? = some (.cells #[.pointer (some ⟨cb, i * 3, none⟩)] 35) ∧ w'.heap[(K.w e').heap.size + 1]? = some (.cells #[.int .i64 ob] 2) ∧ (∀ b, b < (K.w e').heap.size → w'.heap[b]? = (K.w e').heap[b]?) ∧ w'.heap.size = (K.w e').heap.size + 2) ?_ (ho_of (by conv => lhs; whnf) (by kernel_rfl)) (by rfl) (by decide) rfl Try.func58 (by kernel_rfl) (by rfl) ?_
    ·walk_nrm
     exact counting_w _ ob (K.w e')
    rintro x w2 ⟨rfl, d1, d2, o2, s2⟩
    obtain ⟨e2, m2⟩ := K.grow e' (w' := w2) (by omega) o2
    have q0 : K.mine e2 (K.w e').heap.size := m2.new (Nat.le_refl _) (by omega)
    have q1 : K.mine e2 ((K.w e').heap.size + 1) := m2.new (by omega) (by omega)
    have hNl : N < (K.w e').heap.size := (Array.getElem?_eq_some_iff.1 op).1
    have hNl1 : N + 1 < (K.w e').heap.size := (Array.getElem?_eq_some_iff.1 z).1
    have hw2 := m2.w
    have op2 := (o2 _ hNl).trans op
    have z2 := (o2 _ hNl1).trans z
    have t2 : K.tgt e2 = (K.s e2, .inr (.m1 false i ob (triesX oc))) := by rw [m2.tgt, m2.s]; exact t
    generalize (K.w e').heap.size = B2 at *
    rw [← hw2] at op2 z2 d1 d2
    walk_nrm
    have hcast : ∀ g, LW K.toLb e2 (G g (fr :: (l ++ K.bot e2))) → Walk Try.prog K.main (DR (K.V e')) (K.Stop e') (G g (fr :: (l ++ K.bot e'))) w2 := fun g h => LW.to (l := fr :: l) m2 h
    refine hcast _ ?_
    unfold LW
    refine hr _ (e2, K.w e2) ⟨upd u 64 (mkV B2), B2, a, ?_, Facts.set (fun j d x hf hd hx => ?_) (by decide) rfl rfl, (m2.mine _).2 (.inl hm), .made (upd_same _ _ _) (by rw [upd_ne _ _ (by decide)]; exact g8) (by rw [upd_ne _ _ (by decide)]; exact g9) op2 z2 t2 q0 q1 d1 d2 ⟨(K.w e2).drawn, rfl⟩⟩
    ·simp [tmD, upd, e61, e63, mkV]
    ·have hj9 : j < 9 := (List.getElem?_eq_some_iff.1 hx).1
     have n7 : j ≠ 7 := fun h => by rw [h, hfj] at hf; cases hf
     have n8 : j ≠ 8 := fun h => by rw [hno j (.inl h)] at hf; cases hf
     exact F0 j d x hf hd ((vsD_B sv N cb i ob oc B B2 a a (by omega)).trans hx)
  | 8, _ =>
   have hd := deps_of (l := [0, 1, 3, 7]) (by kernel_rfl) ho hdeps
   have e57 := F0 0 57 _ (hd 0 (by simp)) rfl rfl
   have e58 := F0 1 58 _ (hd 1 (by simp)) rfl rfl
   have e60 := F0 3 60 _ (hd 3 (by simp)) rfl rfl
   have e64 := F0 7 64 _ (hd 7 (by simp)) rfl rfl
   have f7 := hd 7 (by simp)
   have f9 : f 9 = false := by
    cases h : f 9 with
    | false => rfl
    | true => have := h98 h; rw [hfj] at this; cases this
   cases hS with
   | early h7' => rw [f7] at h7'; cases h7'
   | done h8' => rw [hfj] at h8'; cases h8'
   | told h9' => rw [f9] at h9'; cases h9'
   | made g7 g8 g9 op z t b0 b1 c0 c1 hw =>
    obtain ⟨dd, rfl⟩ := hw
    refine Walk.back ?_ dd
    have hcap : ∀ x : (Fz K e').E, ((Fz K e').w x).heap[B + 1]? = some (.cells #[.int .i64 ob] 2) ∧ ((Fz K e').w x).heap[B]? = some (.cells #[onP cb i] 35) := fun x => ⟨(x.2 _ b1).2.trans c1, (x.2 _ b0).2.trans c0⟩
    have ha := SCall.fz K (answer_s (Fz K e') false i hi ob 84 Try.f84 #[.pointer (some ⟨B + 1, 0, none⟩), .pointer (some ⟨B, 0, none⟩)] Try.func84 (by kernel_rfl) (by rfl) (fun e1 => counting1_ok (Fz (Fz K e') e1) i hi ob B (B + 1) fun x => hcap x.1) oc (fz0 K e') t)
    unfold onP at ha
    clear hdeps hC
    simp only [tmD] at hr ⊢
    simp only [e57, e58, e60, e64, mkV]
    refine LW.callS (K := K.toLb) (e := e') (l := fr :: l) (f := 57) (Q := fun x e2 => ∃ h : Kept K e' e2, ∃ a, K.tgt e2 = (K.s e2, .inl a) ∧ x = ansVal a) ?_ (ho_of (by conv => lhs; whnf) (by kernel_rfl)) (by rfl) (by decide) rfl Try.func57 (by kernel_rfl) (by rfl) ⟨rfl, rfl, _, Try.func30⟩ (plain_cons hp hl) ?_
    ·walk_nrm
     exact ha
    rintro x e2 ⟨hkept, a2, ht2, rfl⟩
    obtain ⟨hm2, hz2⟩ := hkept _ hm
    rw [z] at hz2
    unfold LW
    walk_nrm
    refine hr _ (e2, K.w e2) ⟨upd u 65 (ansVal a2), B, a2, ?_, Facts.set (fun j d x hf hd hx => ?_) (by decide) rfl rfl, hm2, .done (upd_same _ _ _) (by rw [upd_ne _ _ (by decide)]; exact f9) hz2 ht2 ⟨(K.w e2).drawn, rfl⟩⟩
    ·simp [tmD, upd, e57, e58, e60, e64, mkV]
    ·have hj9 : j < 9 := (List.getElem?_eq_some_iff.1 hx).1
     have n8 : j ≠ 8 := fun h => by rw [h, hfj] at hf; cases hf
     exact F0 j d x hf hd ((vsD_a sv N cb i ob oc B a a2 (by omega)).trans hx)
  | 9, _ =>
   have hd := deps_of (l := [8]) (by kernel_rfl) ho hdeps
   have e65 := F0 8 65 _ (hd 8 (by simp)) rfl rfl
   have f8 := hd 8 (by simp)
   cases hS with
   | early _ h8' => rw [f8] at h8'; cases h8'
   | made _ h8' => rw [f8] at h8'; cases h8'
   | told h9' => rw [hfj] at h9'; cases h9'
   | done g8 g9 z t hw =>
    obtain ⟨dd, rfl⟩ := hw
    refine Walk.back ?_ dd
    have hap := (K.mineA e' _ hm).1
    clear hdeps hC
    simp only [tmD] at hr ⊢
    simp only [e65, ansVal]
    refine Walk.storeS 51 (.tmp 8) (.tmp 65) (ho_of (by conv => lhs; whnf) (by kernel_rfl)) (by rfl) (by decide) rfl (N + 1) #[.bool a.1, .int .i64 a.2, .slice none 0 0] _ 51 rfl rfl z (by kernel_rfl) (by rfl) (by simp [Value.oneCell']) hap ?_
    walk_nrm
    refine hr _ (e', (K.w e').setRow (N + 1) #[.bool a.1, .int .i64 a.2, .slice none 0 0]) ⟨u, B, a, ?_, facts_moreO F0 rfl, hm, .told (upd_same _ _ _) z t ⟨((K.w e').setRow (N + 1) #[.bool a.1, .int .i64 a.2, .slice none 0 0]).drawn, rfl⟩⟩
    simp [tmD, e65, ansVal]
 ·rintro f x ⟨e', w'⟩ ⟨u, B, a, rfl, F0, hm, hS⟩ hall
  have h9 : f 9 = true := hall 9 (by rw [size30_12]; decide)
  have h8 : f 8 = true := hall 8 (by rw [size30_12]; decide)
  dsimp only at hS hm ⊢
  cases hS with
  | early _ h8' => rw [h8] at h8'; cases h8'
  | made _ h8' => rw [h8] at h8'; cases h8'
  | done _ h9' => rw [h9] at h9'; cases h9'
  | told _ z t hw =>
   obtain ⟨dd, rfl⟩ := hw
   exact Walk.back (hret u e' a hm z t) dd
end
end
end Go.Proofs.Ytdcjgmlgmjjogaa
