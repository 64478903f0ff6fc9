/- Part 30. -/
import Derived.Test.YtnnakajldnaldaaJ3
import Derived.Test.YtnnakajldnaldaaJ28
import Derived.Conc.AtomicLaws2
import Derived.Conc.SmallLaws
import Derived.Laws.LoneSync
set_option linter.unusedSimpArgs false
set_option linter.unusedVariables false
set_option maxHeartbeats 8000000
set_option maxRecDepth 100000
namespace Go.Proofs.Ytnnakajldnaldaa
open Go.Conc Go.RowKit Go.Relay
open Go.ConcN (upd upd_ne upd_same)
section
section
variable {cb rb m rc : Nat} {ra : Option Addr}
theorem run_sum (s : Sp) : ∀ (r k : Nat), k + r = m → runN (spLa cb rb m ra rc) r (s, dU m k (stL s k)) = some (s, (true, sumZ (stL s m)))
  | 0, k, h => by
    have h : k = m := h
    subst h
    have e : dU k k (stL s k) = .inl (true, sumZ (stL s k)) := if_pos rfl
    rw [e]
    exact runN_inl _ _ _ _
  | r + 1, k, h => by
    have e : dU m k (stL s k) = .inr (.u1 k (stL s k)) := if_neg (by omega)
    rw [e]
    have e2 : (spLa cb rb m ra rc).act s (.u1 k (stL s k)) = (s, dU m (k + 1) (stL s (k + 1))) := by rw [stL_succ]; rfl
    show runN (spLa cb rb m ra rc) r ((spLa cb rb m ra rc).act s (.u1 k (stL s k))) = _
    rw [e2]
    exact run_sum s r (k + 1) (by omega)
def tkS (s : Sp) (k : Nat) : Sp := fun i => if i < k then 0 else s i
theorem tkS_succ (s : Sp) (k : Nat) : spPut (tkS s k) k 0 = tkS s (k + 1) := by
  funext i
  unfold spPut tkS
  by_cases h : i = k
  · subst h; rw [upd_same, if_pos (by omega)]
  · rw [upd_ne _ _ h]
    by_cases h2 : i < k
    · rw [if_pos h2, if_pos (by omega)]
    · rw [if_neg h2, if_neg (by omega)]
theorem run_take (s : Sp) : ∀ (r k : Nat), k + r = m → runN (spLa cb rb m ra rc) r (tkS s k, dT m k (stL s k)) = some (tkS s m, (true, sumZ (stL s m)))
  | 0, k, h => by
    have h : k = m := h
    subst h
    have e : dT k k (stL s k) = .inl (true, sumZ (stL s k)) := if_pos rfl
    rw [e]
    exact runN_inl _ _ _ _
  | r + 1, k, h => by
    have e : dT m k (stL s k) = .inr (.t1 k (stL s k)) := if_neg (by omega)
    rw [e]
    have e2 : (spLa cb rb m ra rc).act (tkS s k) (.t1 k (stL s k)) = (tkS s (k + 1), dT m (k + 1) (stL s (k + 1))) := by
      have e3 : tkS s k k = s k := if_neg (Nat.lt_irrefl k)
      show (spPut (tkS s k) k 0, if k + 1 = m then Sum.inl (true, sumZ (stL s k ++ [tkS s k k])) else Sum.inr (SD.t1 (k + 1) (stL s k ++ [tkS s k k]))) = _
      rw [tkS_succ, e3, ← stL_succ]
      rfl
    show runN (spLa cb rb m ra rc) r ((spLa cb rb m ra rc).act (tkS s k) (.t1 k (stL s k))) = _
    rw [e2]
    exact run_take s r (k + 1) (by omega)
theorem tkS_zero (s : Sp) : tkS s 0 = s := by
  funext i
  exact if_neg (Nat.not_lt_zero i)
noncomputable def reg22_0 := rg Try.f22.body [0]
noncomputable def reg22_1 := rg Try.f22.body [1, 0]
theorem z22 : List.range reg22_0.size = [0] ∧ List.range reg22_1.size = [0, 1, 2] := by refine ⟨?_, ?_⟩ <;> kernel_rfl
theorem code22_is : Try.f22.body = some (.seq (.region 0 reg22_0 false) (.seq (.region 1 reg22_1 false) (.ret))) := by kernel_rfl
structure Reads (cb rb m : Nat) (ra : Option Addr) (rc : Nat) (s : Sp) (w w' : World) : Prop where
  I : SpI cb rb m ra rc s w'
  size : w.heap.size ≤ w'.heap.size
  old : ∀ b, b < w.heap.size → ¬ (b = cb ∨ (1 < m ∧ b = rb)) → w'.heap[b]? = w.heap[b]?
variable {main : Bool} {V : Nat → Option Wait}
theorem total_w (hA : ∀ b, Apart V b) (s : Sp) (w : World) (I : SpI cb rb m ra rc s w) : CallW Try.prog main V 22 #[.pointer (some ⟨cb, 0, none⟩)] w (fun v w' => v = .int .i64 (sumZ (stL s m)) ∧ Reads cb rb m ra rc s w w') := by
  intro c cs
  rw [enter_at _ Try.func22 code22_is]
  simp only [Try.ntmps22, ez, Nat.reduceAdd, Nat.reduceSub]
  repeat (first | refine Walk.cx ?_ | (refine Walk.cReg ?_; simp only [z22]) | (refine Walk.oq ?_; try walk_nrm) | (refine Walk.un ?_; walk_nrm))
  refine Walk.callLone (L := spLa cb rb m ra rc) (R := (s, (true, sumZ (stL s m)))) (Rel := fun v x => v = .int .i64 x.2) m s (dU m 0 []) hA I (run_sum s m 0 (by omega)) (f := 27) (fun K e ht => ?_) (ho_of (by conv => lhs; whnf) (by kernel_rfl)) (by rfl) (by decide) rfl Try.func27 (by kernel_rfl) (by rfl) ⟨rfl, rfl, _, Try.func22⟩ ?_
  · walk_nrm
    have h := ssum_s K (dU m) .u1 (fun k l hk => if_neg (by omega)) (fun _ _ _ => rfl) e ht
    refine fun fr l hp hl hk => h fr l hp hl fun v e' ⟨ls, _, hv, ht'⟩ => hk v e' ⟨(true, sumZ ls), hv, ?_⟩
    rw [ht']
    exact congrArg (Prod.mk _) (if_pos rfl)
  rintro v w1 rfl H1
  have hI : SpI cb rb m ra rc s w1 := H1.I
  have hO := H1.old
  have hZ := H1.size
  walk_nrm
  repeat (first | refine Walk.cx ?_ | (refine Walk.cReg ?_; simp only [z22]) | (refine Walk.oq ?_; try walk_nrm) | (refine Walk.un ?_; walk_nrm))
  exact Walk.on1 rfl rfl Try.func22 rfl (.stop fun d => ⟨_, ⟨rfl, hI.old fun _ _ => rfl, hZ, hO⟩, rfl⟩)
end
def fxSl : List Int := [0, 1, 1, 0]
def fySl : List Int := [0, 1, 1, 0, 0]
theorem stN2 : stN 2 = 2 := by decide
def fxZ : Array Value := #[.int .i64 0, .int .i64 0]
def fxB : Array Value := #[.int .i64 1, .int .i64 0, .int .i64 1, .int .i64 0, .int .i64 1, .int .i64 1, .int .i64 1, .int .i64 0]
def fxA (k : Int) : Array Value := #[.int .i64 k, .int .i64 0, .int .i64 0, .int .i64 0]
def fxH (A B : Nat) : Array Value := #[.slice (some ⟨A, 0, none⟩) 1 1, .slice (some ⟨B, 0, none⟩) 2 2]
def fxOa (A B : Nat) (i : Nat) : Option Addr := if i = 0 then some ⟨A, 0, none⟩ else some ⟨B, 0, none⟩
def fxL (i : Nat) : Nat := if i = 0 then 1 else 2
def fkOps (k : Int) : Nat → List OpV := fun i => ([[⟨k, 0, 0, 0⟩], [⟨1, 0, 1, 0⟩, ⟨1, 1, 1, 0⟩]] : List (List OpV)).getD i []
theorem fx_run (cb rb : Nat) (ra : Option Addr) (rc : Nat) : ((playO (spLa cb rb 2 ra rc) (spJ [0, 0] (min ([0, 0] : List Int).length 64)) (fkOps 2) 2 99 fxSl).1.th 0).ans = [(true, 1)] := by kernel_rfl
theorem fy_run (cb rb : Nat) (ra : Option Addr) (rc : Nat) : ((playO (spLa cb rb 2 ra rc) (spJ [0, 0] (min ([0, 0] : List Int).length 64)) (fkOps 5) 2 99 fySl).1.th 0).ans = [(false, 0)] := by kernel_rfl
theorem fx_ops {k : Int} {A B Hd : Nat} {w : World} (h1 : w.heap[A]? = some (.cells (fxA k) 46)) (h2 : w.heap[B]? = some (.cells fxB 46)) (h4 : w.heap[Hd]? = some (.cells (fxH A B) 34)) : OpsIn Hd 0 2 (fxOa A B) fxL fxL (fkOps k) w := by
  refine ⟨fun i hi => ?_, fun i hi => Nat.le_refl _, fun i hi => .inr ?_, fun i hi => ?_, fun i hi j o ho => ?_⟩
  · rw [Nat.zero_add]
    refine (cell_of h4 i).trans ?_
    match i, hi with
    | 0, _ => rfl
    | 1, _ => rfl
  · match i, hi with
    | 0, _ => exact ⟨_, rfl⟩
    | 1, _ => exact ⟨_, rfl⟩
  · match i, hi with
    | 0, _ => rfl
    | 1, _ => rfl
  · match i, hi, ho with
    | 0, _, ho =>
      match j, ho with
      | 0, ho => cases ho; exact ⟨A, 0, rfl, (cell_of h1 _).trans rfl, (cell_of h1 _).trans rfl, (cell_of h1 _).trans rfl, (cell_of h1 _).trans rfl⟩
      | j + 1, ho => exact absurd ho (by simp [fkOps])
    | 1, _, ho =>
      match j, ho with
      | 0, ho => cases ho; exact ⟨B, 0, rfl, (cell_of h2 _).trans rfl, (cell_of h2 _).trans rfl, (cell_of h2 _).trans rfl, (cell_of h2 _).trans rfl⟩
      | 1, ho => cases ho; exact ⟨B, 0, rfl, (cell_of h2 _).trans rfl, (cell_of h2 _).trans rfl, (cell_of h2 _).trans rfl, (cell_of h2 _).trans rfl⟩
      | j + 2, ho => exact absurd ho (by simp [fkOps])
end
section
theorem undCnt : Try.prog.underlying 35 = some (.pointer 69) := by kernel_rfl
structure FxT (X b o ac b0 o0 tc0 : Nat) (v1 v2 : Value) (k : Bool) (w : World) : Prop where
  x : w.heap[X]? = some (.cells (trC (.slice (some ⟨b, o, none⟩) 2 ac) v1 v2 k) 31)
  a0 : w.cell? ⟨b, o, none⟩ = some (.slice (some ⟨b0, o0, none⟩) 1 tc0)
  n0 : w.cell? ⟨b0, o0 + 1, none⟩ = some (.int .i64 1)
theorem FxT.old {X b o ac b0 o0 tc0 : Nat} {v1 v2 : Value} {k : Bool} {w w' : World} (H : FxT X b o ac b0 o0 tc0 v1 v2 k w) (h : ∀ b, b < w.heap.size → w'.heap[b]? = w.heap[b]?) : FxT X b o ac b0 o0 tc0 v1 v2 k w' := by
  have hc : ∀ {b j : Nat} {v : Value}, w.cell? ⟨b, j, none⟩ = some v → w'.cell? ⟨b, j, none⟩ = some v := fun {b j v} e => (World.cell?_of_block (a := ⟨b, j, none⟩) (h b (cell_lt' e))).trans e
  exact ⟨(h X (Array.getElem?_eq_some_iff.1 H.x).1).trans H.x, hc H.a0, hc H.n0⟩
noncomputable def reg12_0 := rg Try.f12.body [0]
noncomputable def reg12_1 := rg Try.f12.body [1, 0]
noncomputable def reg12_2 := rg Try.f12.body [1, 1, 0]
noncomputable def reg12_3 := rg Try.f12.body [1, 1, 1, 0]
noncomputable def reg12_4 := rg Try.f12.body [1, 1, 1, 1, 0]
noncomputable def reg12_5 := rg Try.f12.body [1, 1, 1, 1, 1, 0, 0]
noncomputable def reg12_6 := rg Try.f12.body [1, 1, 1, 1, 1, 0, 1, 0, 0]
noncomputable def reg12_7 := rg Try.f12.body [1, 1, 1, 1, 1, 1, 0]
noncomputable def reg12_8 := rg Try.f12.body [1, 1, 1, 1, 1, 1, 1, 0]
theorem z12 : List.range reg12_0.size = [0] ∧ List.range reg12_1.size = [0, 1] ∧ List.range reg12_2.size = [0, 1, 2, 3] ∧ List.range reg12_3.size = [0, 1, 2, 3, 4, 5, 6, 7, 8] ∧ List.range reg12_4.size = [0, 1, 2, 3, 4, 5, 6, 7, 8] ∧ List.range reg12_5.size = [0, 1, 2, 3, 4, 5, 6, 7, 8, 9, 10, 11, 12, 13, 14, 15, 16, 17, 18, 19, 20, 21, 22, 23, 24, 25, 26, 27, 28, 29, 30, 31, 32, 33, 34, 35, 36, 37, 38, 39, 40, 41, 42, 43, 44, 45, 46, 47, 48, 49, 50, 51, 52, 53, 54] ∧ List.range reg12_6.size = [0] ∧ List.range reg12_7.size = [0, 1] ∧ List.range reg12_8.size = [0, 1, 2, 3, 4, 5, 6, 7, 8, 9, 10, 11, 12, 13, 14, 15, 16, 17, 18, 19, 20, 21, 22, 23, 24, 25, 26, 27] := by refine ⟨?_, ?_, ?_, ?_, ?_, ?_, ?_, ?_, ?_⟩ <;> kernel_rfl
theorem code12_is : Try.f12.body = some (.seq (.region 0 reg12_0 false) (.seq (.region 1 reg12_1 false) (.seq (.region 2 reg12_2 false) (.seq (.region 3 reg12_3 false) (.seq (.region 4 reg12_4 false) (.seq (.seq (.region 5 reg12_5 false) (.cond (.tmp 78 ) (.seq (.region 6 reg12_6 false) (.ret)) (.skip))) (.seq (.region 7 reg12_7 false) (.seq (.region 8 reg12_8 false) (.ret))))))))) := by kernel_rfl
def zTr' : Obj := .cells #[.slice none 0 0, .slice none 0 0, .slice none 0 0, .bool false] 31
def FxBack2 (X b o ac b0 o0 tc0 : Nat) (v1 v2 : Value) (k : Bool) (fr c : Frame) (cs : List Frame) : Prop := ∀ (cells : Array Value) (F : Nat → List Ans) (ord : List Nat) (sts : List Int) (k2 : Bool) (w : World), FxT X b o ac b0 o0 tc0 v1 v2 k w → TrA cells 2 F ord sts k2 w → F 0 = [(false, 0)] →
  Walk Try.prog true (DR (fun _ => none)) (fun g w' => g = G (c.finish (.bool true)) cs ∧ (∀ b, b < w.heap.size → w'.heap[b]? = w.heap[b]?) ∧ w.heap.size ≤ w'.heap.size) (G (fr.finish (.agg cells)) (c :: cs)) w
def FxBack1 (T : Nat) (fr c : Frame) (cs : List Frame) : Prop := ∀ (cells : Array Value) (F : Nat → List Ans) (ord : List Nat) (sts : List Int) (k : Bool) (w : World), TrA cells 2 F ord sts k w → F 0 = [(true, 1)] → w.heap[T]? = some (.cells fxZ 2) → w.heap[T + 1]? = some (.cells fxB 46) →
  Walk Try.prog true (DR (fun _ => none)) (fun g w' => ∃ fr2 b o ac b0 o0 tc0 v1 v2, g = G (Frame.enter Try.prog 14 #[.slice (some ⟨T, 0, none⟩) 2 2, .slice (some ⟨w.heap.size + 2, 0, none⟩) 2 2, .slice (some ⟨w.heap.size + 3, 0, none⟩) fySl.length 5, .int .i64 99] .normal) (fr2 :: c :: cs) ∧ (∀ b, b < w.heap.size → w'.heap[b]? = w.heap[b]?) ∧ w.heap.size ≤ w'.heap.size ∧
      FxT w.heap.size b o ac b0 o0 tc0 v1 v2 k w' ∧ w'.heap[T]? = some (.cells fxZ 2) ∧ OpsIn (w.heap.size + 2) 0 2 (fxOa (w.heap.size + 1) (T + 1)) fxL fxL (fkOps 5) w' ∧ (∀ (j : Nat) (z : Int), fySl[j]? = some z → w'.cell? ⟨w.heap.size + 3, 0 + j, none⟩ = some (.int .i64 z)) ∧ FxBack2 w.heap.size b o ac b0 o0 tc0 v1 v2 k fr2 c cs) (G (fr.finish (.agg cells)) (c :: cs)) w
section
variable {c : Frame} {cs : List Frame}
theorem fixed_in (c : Frame) (cs : List Frame) (w : World) :
    Walk Try.prog true (DR (fun _ => none)) (fun g w' => ∃ fr, g = G (Frame.enter Try.prog 14 #[.slice (some ⟨w.heap.size, 0, none⟩) 2 2, .slice (some ⟨w.heap.size + 3, 0, none⟩) 2 2, .slice (some ⟨w.heap.size + 4, 0, none⟩) fxSl.length 4, .int .i64 99] .normal) (fr :: c :: cs) ∧ (∀ b, b < w.heap.size → w'.heap[b]? = w.heap[b]?) ∧ w.heap.size ≤ w'.heap.size ∧
        w'.heap[w.heap.size]? = some (.cells fxZ 2) ∧ w'.heap[w.heap.size + 1]? = some (.cells fxB 46) ∧ OpsIn (w.heap.size + 3) 0 2 (fxOa (w.heap.size + 2) (w.heap.size + 1)) fxL fxL (fkOps 2) w' ∧ (∀ (j : Nat) (z : Int), fxSl[j]? = some z → w'.cell? ⟨w.heap.size + 4, 0 + j, none⟩ = some (.int .i64 z)) ∧ FxBack1 w.heap.size fr c cs)
      (G (Frame.enter Try.prog 12 #[] .normal) (c :: cs)) w := by
  have hA : ∀ b, Apart (fun _ => none) b := fun b => ⟨fun _ _ _ _ h => (by cases h), fun _ _ h => (by cases h)⟩
  rw [enter_at _ Try.func12 code12_is]
  simp only [Try.ntmps12, ez, Nat.reduceAdd, Nat.reduceSub]
  repeat (first | refine Walk.cx ?_ | (refine Walk.cReg ?_; simp only [z12]) | (refine Walk.oq ?_; try walk_nrm) | (refine Walk.un ?_; walk_nrm))
  (refine Walk.oa ?_; try walk_nrm)
  have s1 : (w.alloc (.cells fxZ 2)).heap.size = w.heap.size + 1 := by simp
  have o1 : ∀ b, b < w.heap.size → (w.alloc (.cells fxZ 2)).heap[b]? = w.heap[b]? := fun b hb => heap_new_lt _ _ hb
  have d1 := heap_alloc_new w (.cells fxZ 2)
  generalize hT : w.heap.size = T at *
  change Walk Try.prog true _ _ _ (w.alloc (.cells fxZ 2))
  generalize w.alloc (.cells fxZ 2) = x1 at *
  repeat (first | refine Walk.cx ?_ | (refine Walk.cReg ?_; simp only [z12]) | (refine Walk.oq ?_; try walk_nrm) | (refine Walk.un ?_; walk_nrm))
  (refine Walk.oa ?_; try walk_nrm)
  have s2 : (x1.alloc (.cells fxB 46)).heap.size = T + 2 := by simp [s1]
  have o2 : ∀ b, b < T + 1 → (x1.alloc (.cells fxB 46)).heap[b]? = x1.heap[b]? := fun b hb => heap_new_lt _ _ (by omega)
  have d2 : (x1.alloc (.cells fxB 46)).heap[T + 1]? = some (.cells fxB 46) := s1 ▸ heap_alloc_new x1 (.cells fxB 46)
  try simp only [s1]
  change Walk Try.prog true _ _ _ (x1.alloc (.cells fxB 46))
  generalize x1.alloc (.cells fxB 46) = x2 at *
  repeat (first | refine Walk.cx ?_ | (refine Walk.cReg ?_; simp only [z12]) | (refine Walk.oq ?_; try walk_nrm) | (refine Walk.un ?_; walk_nrm))
  (refine Walk.oa ?_; try walk_nrm)
  have s3 : (x2.alloc (.cells (fxA 2) 46)).heap.size = T + 3 := by simp [s2]
  have o3 : ∀ b, b < T + 2 → (x2.alloc (.cells (fxA 2) 46)).heap[b]? = x2.heap[b]? := fun b hb => heap_new_lt _ _ (by omega)
  have d3 : (x2.alloc (.cells (fxA 2) 46)).heap[T + 2]? = some (.cells (fxA 2) 46) := s2 ▸ heap_alloc_new x2 (.cells (fxA 2) 46)
  try simp only [s2]
  change Walk Try.prog true _ _ _ (x2.alloc (.cells (fxA 2) 46))
  generalize x2.alloc (.cells (fxA 2) 46) = x3 at *
  repeat (first | refine Walk.cx ?_ | (refine Walk.cReg ?_; simp only [z12]) | (refine Walk.oq ?_; try walk_nrm) | (refine Walk.un ?_; walk_nrm))
  (refine Walk.oa ?_; try walk_nrm)
  have s4 : (x3.alloc (.cells (fxH (T + 2) (T + 1)) 34)).heap.size = T + 4 := by simp [s3]
  have o4 : ∀ b, b < T + 3 → (x3.alloc (.cells (fxH (T + 2) (T + 1)) 34)).heap[b]? = x3.heap[b]? := fun b hb => heap_new_lt _ _ (by omega)
  have d4 : (x3.alloc (.cells (fxH (T + 2) (T + 1)) 34)).heap[T + 3]? = some (.cells (fxH (T + 2) (T + 1)) 34) := s3 ▸ heap_alloc_new x3 (.cells (fxH (T + 2) (T + 1)) 34)
  try simp only [s3]
  change Walk Try.prog true _ _ _ (x3.alloc (.cells (fxH (T + 2) (T + 1)) 34))
  generalize x3.alloc (.cells (fxH (T + 2) (T + 1)) 34) = x4 at *
  repeat (first | refine Walk.cx ?_ | (refine Walk.cReg ?_; simp only [z12]) | (refine Walk.oq ?_; try walk_nrm) | (refine Walk.un ?_; walk_nrm))
  (refine Walk.oa ?_; try walk_nrm)
  have s5 : (x4.alloc (.cells #[.int .i64 0, .int .i64 1, .int .i64 1, .int .i64 0] 3)).heap.size = T + 5 := by simp [s4]
  have o5 : ∀ b, b < T + 4 → (x4.alloc (.cells #[.int .i64 0, .int .i64 1, .int .i64 1, .int .i64 0] 3)).heap[b]? = x4.heap[b]? := fun b hb => heap_new_lt _ _ (by omega)
  have d5 : (x4.alloc (.cells #[.int .i64 0, .int .i64 1, .int .i64 1, .int .i64 0] 3)).heap[T + 4]? = some (.cells #[.int .i64 0, .int .i64 1, .int .i64 1, .int .i64 0] 3) := s4 ▸ heap_alloc_new x4 (.cells #[.int .i64 0, .int .i64 1, .int .i64 1, .int .i64 0] 3)
  try simp only [s4]
  generalize x4.alloc (.cells #[.int .i64 0, .int .i64 1, .int .i64 1, .int .i64 0] 3) = x5 at *
  repeat (first | refine Walk.cx ?_ | (refine Walk.cReg ?_; simp only [z12]) | (refine Walk.oq ?_; try walk_nrm) | (refine Walk.un ?_; walk_nrm))
  refine Walk.callE (ho_of (by conv => lhs; whnf) (by kernel_rfl)) (by rfl) (by decide) rfl Try.func14 (by kernel_rfl) (by rfl) ?_
  walk_nrm
  refine .stop fun d => ⟨_, rfl, fun b hb => ?_, ?_, ?_, ?_, fx_ops ?_ ?_ ?_, fun j z hz => ?_, ?_⟩
  · exact (o5 b (by omega)).trans ((o4 b (by omega)).trans ((o3 b (by omega)).trans ((o2 b (by omega)).trans (o1 b (by omega)))))
  · show T ≤ x5.heap.size
    omega
  · exact (o5 T (by omega)).trans ((o4 T (by omega)).trans ((o3 T (by omega)).trans ((o2 T (by omega)).trans d1)))
  · exact (o5 _ (by omega)).trans ((o4 _ (by omega)).trans ((o3 _ (by omega)).trans d2))
  · exact (o5 _ (by omega)).trans ((o4 _ (by omega)).trans d3)
  · exact (o5 _ (by omega)).trans ((o4 _ (by omega)).trans ((o3 _ (by omega)).trans d2))
  · exact (o5 _ (by omega)).trans d4
  · rw [Nat.zero_add]
    refine (cell_of (w := x5) d5 j).trans ?_
    have h : (fxSl.map (Value.int .i64))[j]? = some (.int .i64 z) := by rw [List.getElem?_map, hz]; rfl
    simpa [fxSl] using h
  · clear d1 d2 d3 d4 d5 s1 s2 s3 s4 s5 o1 o2 o3 o4 o5
    intro cells F ord sts k w6 hTr hF0 hz6 hb6
    obtain ⟨aa, ac, oa, oc, sa, sc, rfl, n1, n2, n3⟩ := hTr.all
    obtain ⟨b, o, ta0, tc0, rfl, a0, A0⟩ := n3 0 (by decide)
    rw [hF0] at a0 A0
    obtain ⟨b0, o0, rfl, k0, v0, _⟩ := A0 0 _ rfl
    simp only [Nat.zero_mul, Nat.add_zero, List.length_cons, List.length_nil, Nat.zero_add] at a0 k0 v0
    generalize ord.length = ol at *
    generalize sts.length = sl' at *
    simp only [trC]
    refine Walk.finish (ho_of (by conv => lhs; whnf) (by kernel_rfl)) ?_
    walk_nrm
    (refine Walk.oa ?_; try walk_nrm)
    have s7 : (w6.alloc zTr').heap.size = w6.heap.size + 1 := by simp
    have o7 : ∀ b, b < w6.heap.size → (w6.alloc zTr').heap[b]? = w6.heap[b]? := fun b hb => heap_new_lt _ _ hb
    have d7 := heap_alloc_new w6 zTr'
    have e7 : w6.alloc (.cells #[.slice none 0 0, .slice none 0 0, .slice none 0 0, .bool false] 31) = w6.alloc zTr' := rfl
    try rw [e7]
    clear e7
    have l1 := cell_lt' a0
    have l2 := cell_lt' v0
    have l3 := (Array.getElem?_eq_some_iff.1 hz6).1
    have l4 := (Array.getElem?_eq_some_iff.1 hb6).1
    generalize hT1 : w6.heap.size = T1 at *
    generalize w6.alloc zTr' = w7 at *
    unfold zTr' at d7
    refine Walk.storeS 31 (.tmp 3) (.tmp 16) (ho_of (by conv => lhs; whnf) (by kernel_rfl)) (by rfl) (by decide) rfl T1 #[.slice (some ⟨b, o, none⟩) 2 ac, .slice oa ol oc, .slice sa sl' sc, .bool k] _ 31 rfl rfl d7 (by kernel_rfl) (by rfl) (by simp [Value.oneCell']) (hA _) ?_
    have d8 := setRow_self (cells := #[.slice (some ⟨b, o, none⟩) 2 ac, .slice oa ol oc, .slice sa sl' sc, .bool k]) d7
    have o8 : ∀ x, x < T1 → (w7.setRow T1 #[.slice (some ⟨b, o, none⟩) 2 ac, .slice oa ol oc, .slice sa sl' sc, .bool k]).heap[x]? = w6.heap[x]? := fun x hx => (setRow_other _ _ (by omega)).trans (o7 x hx)
    have s8 := setRow_size w7 T1 #[.slice (some ⟨b, o, none⟩) 2 ac, .slice oa ol oc, .slice sa sl' sc, .bool k]
    rw [s7] at s8
    generalize w7.setRow T1 #[.slice (some ⟨b, o, none⟩) 2 ac, .slice oa ol oc, .slice sa sl' sc, .bool k] = w8 at *
    have C8 : FxT T1 b o ac b0 o0 tc0 (.slice oa ol oc) (.slice sa sl' sc) k w8 := ⟨d8, (World.cell?_of_block (a := ⟨b, o, none⟩) (o8 b (by omega))).trans a0, (World.cell?_of_block (a := ⟨b0, o0 + 1, none⟩) (o8 b0 (by omega))).trans v0⟩
    have z8 := (o8 T (by omega)).trans hz6
    have b8 := (o8 (T + 1) (by omega)).trans hb6
    clear n1 n2 n3 A0 a0 k0 v0 d7 d8 hTr s7 o7 hz6 hb6
    try walk_nrm
    repeat (first | refine Walk.cx ?_ | (refine Walk.cReg ?_; simp only [z12]) | (refine Walk.oq ?_; try walk_nrm) | (refine Walk.un ?_; walk_nrm))
    (refine Walk.oa ?_; try walk_nrm)
    have s9 : (w8.alloc (.cells (fxA 5) 46)).heap.size = T1 + 2 := by simp [s8]
    have o9 : ∀ b, b < T1 + 1 → (w8.alloc (.cells (fxA 5) 46)).heap[b]? = w8.heap[b]? := fun b hb => heap_new_lt _ _ (by omega)
    have d9 : (w8.alloc (.cells (fxA 5) 46)).heap[T1 + 1]? = some (.cells (fxA 5) 46) := s8 ▸ heap_alloc_new w8 (.cells (fxA 5) 46)
    try simp only [s8]
    change Walk Try.prog true _ _ _ (w8.alloc (.cells (fxA 5) 46))
    generalize w8.alloc (.cells (fxA 5) 46) = w9 at *
    repeat (first | refine Walk.cx ?_ | (refine Walk.cReg ?_; simp only [z12]) | (refine Walk.oq ?_; try walk_nrm) | (refine Walk.un ?_; walk_nrm))
    (refine Walk.oa ?_; try walk_nrm)
    have s10 : (w9.alloc (.cells (fxH (T1 + 1) (T + 1)) 34)).heap.size = T1 + 3 := by simp [s9]
    have o10 : ∀ b, b < T1 + 2 → (w9.alloc (.cells (fxH (T1 + 1) (T + 1)) 34)).heap[b]? = w9.heap[b]? := fun b hb => heap_new_lt _ _ (by omega)
    have d10 : (w9.alloc (.cells (fxH (T1 + 1) (T + 1)) 34)).heap[T1 + 2]? = some (.cells (fxH (T1 + 1) (T + 1)) 34) := s9 ▸ heap_alloc_new w9 (.cells (fxH (T1 + 1) (T + 1)) 34)
    try simp only [s9]
    change Walk Try.prog true _ _ _ (w9.alloc (.cells (fxH (T1 + 1) (T + 1)) 34))
    generalize w9.alloc (.cells (fxH (T1 + 1) (T + 1)) 34) = w10 at *
    repeat (first | refine Walk.cx ?_ | (refine Walk.cReg ?_; simp only [z12]) | (refine Walk.oq ?_; try walk_nrm) | (refine Walk.un ?_; walk_nrm))
    (refine Walk.oa ?_; try walk_nrm)
    have s11 : (w10.alloc (.cells #[.int .i64 0, .int .i64 1, .int .i64 1, .int .i64 0, .int .i64 0] 3)).heap.size = T1 + 4 := by simp [s10]
    have o11 : ∀ b, b < T1 + 3 → (w10.alloc (.cells #[.int .i64 0, .int .i64 1, .int .i64 1, .int .i64 0, .int .i64 0] 3)).heap[b]? = w10.heap[b]? := fun b hb => heap_new_lt _ _ (by omega)
    have d11 : (w10.alloc (.cells #[.int .i64 0, .int .i64 1, .int .i64 1, .int .i64 0, .int .i64 0] 3)).heap[T1 + 3]? = some (.cells #[.int .i64 0, .int .i64 1, .int .i64 1, .int .i64 0, .int .i64 0] 3) := s10 ▸ heap_alloc_new w10 (.cells #[.int .i64 0, .int .i64 1, .int .i64 1, .int .i64 0, .int .i64 0] 3)
    try simp only [s10]
    generalize w10.alloc (.cells #[.int .i64 0, .int .i64 1, .int .i64 1, .int .i64 0, .int .i64 0] 3) = w11 at *
    repeat (first | refine Walk.cx ?_ | (refine Walk.cReg ?_; simp only [z12]) | (refine Walk.oq ?_; try walk_nrm) | (refine Walk.un ?_; walk_nrm))
    refine Walk.callE (ho_of (by conv => lhs; whnf) (by kernel_rfl)) (by rfl) (by decide) rfl Try.func14 (by kernel_rfl) (by rfl) ?_
    walk_nrm
    have up : ∀ b, b < T1 + 1 → w11.heap[b]? = w8.heap[b]? := fun b hb => (o11 b (by omega)).trans ((o10 b (by omega)).trans (o9 b (by omega)))
    refine .stop fun d => ⟨_, b, o, ac, b0, o0, tc0, .slice oa ol oc, .slice sa sl' sc, rfl, fun b hb => (up b (by omega)).trans (o8 b (by omega)), ?_, C8.old fun b hb => up b (by omega), (up T (by omega)).trans z8, fx_ops ?_ ?_ ?_, fun j z hz => ?_, ?_⟩
    · show T1 ≤ w11.heap.size
      omega
    · exact (o11 _ (by omega)).trans ((o10 _ (by omega)).trans d9)
    · exact (up (T + 1) (by omega)).trans b8
    · exact (o11 _ (by omega)).trans d10
    · rw [Nat.zero_add]
      refine (cell_of (w := w11) d11 j).trans ?_
      have h : (fySl.map (Value.int .i64))[j]? = some (.int .i64 z) := by rw [List.getElem?_map, hz]; rfl
      simpa [fySl] using h
    · clear d9 d10 d11 s8 s9 s10 s11 o8 o9 o10 o11 up C8 z8 b8
      intro cells F ord sts k2 w12 C12 hTr hF0
      obtain ⟨aa, ac', oa', oc', sa', sc', rfl, n1, n2, n3⟩ := hTr.all
      obtain ⟨b', o', ta0, tc0', rfl, a0', A0⟩ := n3 0 (by decide)
      rw [hF0] at a0' A0
      obtain ⟨b0', o0', rfl, k0', v0', _⟩ := A0 0 _ rfl
      simp only [Nat.zero_mul, Nat.add_zero, List.length_cons, List.length_nil, Nat.zero_add] at a0' k0' v0'
      generalize ord.length = ol' at *
      generalize sts.length = sl2 at *
      simp only [trC]
      refine Walk.finish (ho_of (by conv => lhs; whnf) (by kernel_rfl)) ?_
      walk_nrm
      (refine Walk.oa ?_; try walk_nrm)
      have s13 : (w12.alloc zTr').heap.size = w12.heap.size + 1 := by simp
      have o13 : ∀ b, b < w12.heap.size → (w12.alloc zTr').heap[b]? = w12.heap[b]? := fun b hb => heap_new_lt _ _ hb
      have d13 := heap_alloc_new w12 zTr'
      have e13 : w12.alloc (.cells #[.slice none 0 0, .slice none 0 0, .slice none 0 0, .bool false] 31) = w12.alloc zTr' := rfl
      try rw [e13]
      clear e13
      have l1' := cell_lt' a0'
      have l2' := cell_lt' v0'
      generalize hT2 : w12.heap.size = T2 at *
      generalize w12.alloc zTr' = w13 at *
      unfold zTr' at d13
      refine Walk.storeS 31 (.tmp 4) (.tmp 23) (ho_of (by conv => lhs; whnf) (by kernel_rfl)) (by rfl) (by decide) rfl T2 #[.slice (some ⟨b', o', none⟩) 2 ac', .slice oa' ol' oc', .slice sa' sl2 sc', .bool k2] _ 31 rfl rfl d13 (by kernel_rfl) (by rfl) (by simp [Value.oneCell']) (hA _) ?_
      have d14 := setRow_self (cells := #[.slice (some ⟨b', o', none⟩) 2 ac', .slice oa' ol' oc', .slice sa' sl2 sc', .bool k2]) d13
      have o14 : ∀ x, x < T2 → (w13.setRow T2 #[.slice (some ⟨b', o', none⟩) 2 ac', .slice oa' ol' oc', .slice sa' sl2 sc', .bool k2]).heap[x]? = w12.heap[x]? := fun x hx => (setRow_other _ _ (by omega)).trans (o13 x hx)
      have s14 := setRow_size w13 T2 #[.slice (some ⟨b', o', none⟩) 2 ac', .slice oa' ol' oc', .slice sa' sl2 sc', .bool k2]
      rw [s13] at s14
      generalize w13.setRow T2 #[.slice (some ⟨b', o', none⟩) 2 ac', .slice oa' ol' oc', .slice sa' sl2 sc', .bool k2] = w14 at *
      have C14 := C12.old (w' := w14) fun b hb => o14 b (by omega)
      have x0 : w14.cell? ⟨T1, 0, none⟩ = some (.slice (some ⟨b, o, none⟩) 2 ac) := (cell_of C14.x 0).trans rfl
      have x1 := C14.a0
      have x2 := C14.n0
      have y0 : w14.cell? ⟨T2, 0, none⟩ = some (.slice (some ⟨b', o', none⟩) 2 ac') := (cell_of d14 0).trans rfl
      have y1 : w14.cell? ⟨b', o', none⟩ = some (.slice (some ⟨b0', o0', none⟩) 1 tc0') := (World.cell?_of_block (a := ⟨b', o', none⟩) (o14 b' (by omega))).trans a0'
      have y2 : w14.cell? ⟨b0', o0', none⟩ = some (.bool false) := (World.cell?_of_block (a := ⟨b0', o0', none⟩) (o14 b0' (by omega))).trans k0'
      have y3 : w14.cell? ⟨b0', o0' + 1, none⟩ = some (.int .i64 0) := (World.cell?_of_block (a := ⟨b0', o0' + 1, none⟩) (o14 b0' (by omega))).trans v0'
      clear n1 n2 n3 A0 a0' k0' v0' d13 d14 hTr s13 o13 C12 C14
      try walk_nrm
      repeat (first | refine Walk.cx ?_ | (refine Walk.cReg ?_; simp only [z12]) | (refine Walk.oq ?_; try walk_nrm) | (refine Walk.un ?_; walk_nrm))
      have hnew := new_w (main := true) (V := fun _ => none) 2 w14
      rw [stN2] at hnew
      refine Walk.callW (Post := fun v w' => v = .pointer (some ⟨w14.heap.size + 1, 0, none⟩) ∧ SpI (w14.heap.size + 1) w14.heap.size 2 (some ⟨w14.heap.size, 0, none⟩) (2 - 1) sp0 w' ∧ (∀ b, b < w14.heap.size → w'.heap[b]? = w14.heap[b]?) ∧ w'.heap.size = w14.heap.size + 2) ?_ (ho_of (by conv => lhs; whnf) (by kernel_rfl)) (by rfl) (by decide) rfl Try.func16 (by kernel_rfl) (by rfl) ?_
      · walk_nrm
        exact hnew
      rintro v w15 ⟨rfl, I15, O15, Z15⟩
      have Z15 := Nat.le_of_eq Z15.symm
      clear hnew x0 x1 x2 y0 y1 y2 y3
      rw [s14] at I15 O15 Z15 ⊢
      have hq1 := fun w => run_neq_ptr (P := Try.prog) 35 undCnt (some ⟨T2 + 1 + 1, 0, none⟩) w
      have hq2 := fun w es => ev_neq_ptr (P := Try.prog) 35 undCnt (some ⟨T2 + 1 + 1, 0, none⟩) w es
      simp only [Option.isNone_some, Bool.not_false] at hq1
      walk_nrm
      repeat (first | refine Walk.cx ?_ | (refine Walk.cReg ?_; simp only [z12]) | (refine Walk.oq ?_; try walk_nrm) | (refine Walk.un ?_; walk_nrm))
      refine Walk.callLone (L := spLa (T2 + 1 + 1) (T2 + 1) 2 (some ⟨T2 + 1, 0, none⟩) (2 - 1)) (R := (spPut sp0 0 5, (true, 5))) (Rel := fun v x => v = .int .i64 x.2) 1 sp0 (.inr (.a1 (stAt 2 0) 5)) hA I15 (by kernel_rfl) (f := 26) (fun K e ht => ?_) (ho_of (by conv => lhs; whnf) (by kernel_rfl)) (by rfl) (by decide) rfl Try.func26 (by kernel_rfl) (by rfl) ⟨rfl, rfl, _, Try.func12⟩ ?_
      · walk_nrm
        exact fun fr l hp hl hk => sadd_s K 0 5 (.a1 (stAt 2 0) 5) (fun y => .inl (true, y)) (fun _ => rfl) e ht fr l hp hl fun v e' ⟨y, hv, ht'⟩ => hk v e' ⟨(true, y), hv, ht'⟩
      rintro v w16 rfl H16
      walk_nrm
      repeat (first | (refine Walk.oq ?_; try walk_nrm) | (refine Walk.un ?_; walk_nrm))
      refine Walk.callLone (L := spLa (T2 + 1 + 1) (T2 + 1) 2 (some ⟨T2 + 1, 0, none⟩) (2 - 1)) (R := (spPut (spPut sp0 0 5) 1 7, (true, 7))) (Rel := fun v x => v = .int .i64 x.2) 1 (spPut sp0 0 5) (.inr (.a1 (stAt 2 3) 7)) hA H16.I (by kernel_rfl) (f := 26) (fun K e ht => ?_) (ho_of (by conv => lhs; whnf) (by kernel_rfl)) (by rfl) (by decide) rfl Try.func26 (by kernel_rfl) (by rfl) ⟨rfl, rfl, _, Try.func12⟩ ?_
      · walk_nrm
        exact fun fr l hp hl hk => sadd_s K 3 7 (.a1 (stAt 2 3) 7) (fun y => .inl (true, y)) (fun _ => rfl) e ht fr l hp hl fun v e' ⟨y, hv, ht'⟩ => hk v e' ⟨(true, y), hv, ht'⟩
      rintro v w17 rfl H17
      have I17 : SpI (T2 + 1 + 1) (T2 + 1) 2 (some ⟨T2 + 1, 0, none⟩) (2 - 1) (spPut (spPut sp0 0 5) 1 7) w17 := H17.I
      have t17 : sumZ (stL (spPut (spPut sp0 0 5) 1 7) 2) = 12 := by decide
      have hto := total_w (main := true) (V := fun _ => none) hA (spPut (spPut sp0 0 5) 1 7) w17 I17
      rw [t17] at hto
      walk_nrm
      repeat (first | (refine Walk.oq ?_; try walk_nrm) | (refine Walk.un ?_; walk_nrm))
      refine Walk.callW (Post := fun v w' => v = .int .i64 12 ∧ Reads (T2 + 1 + 1) (T2 + 1) 2 (some ⟨T2 + 1, 0, none⟩) (2 - 1) (spPut (spPut sp0 0 5) 1 7) w17 w') ?_ (ho_of (by conv => lhs; whnf) (by kernel_rfl)) (by rfl) (by decide) rfl Try.func22 (by kernel_rfl) (by rfl) ?_
      · walk_nrm
        exact hto
      rintro v w18 ⟨rfl, H18⟩
      clear hto
      walk_nrm
      repeat (first | (refine Walk.oq ?_; try walk_nrm) | (refine Walk.un ?_; walk_nrm))
      have hrt := run_take (cb := T2 + 1 + 1) (rb := T2 + 1) (m := 2) (rc := 2 - 1) (ra := some ⟨T2 + 1, 0, none⟩) (spPut (spPut sp0 0 5) 1 7) 2 0 rfl
      rw [tkS_zero, t17] at hrt
      refine Walk.callLone (L := spLa (T2 + 1 + 1) (T2 + 1) 2 (some ⟨T2 + 1, 0, none⟩) (2 - 1)) (R := (tkS (spPut (spPut sp0 0 5) 1 7) 2, (true, 12))) (Rel := fun v x => v = .int .i64 x.2) 2 (spPut (spPut sp0 0 5) 1 7) (dT 2 0 []) hA H18.I hrt (f := 28) (fun K e ht => ?_) (ho_of (by conv => lhs; whnf) (by kernel_rfl)) (by rfl) (by decide) rfl Try.func28 (by kernel_rfl) (by rfl) ⟨rfl, rfl, _, Try.func12⟩ ?_
      · walk_nrm
        exact fun fr l hp hl hk => stake_s K e ht fr l hp hl fun v e' ⟨ls, _, hv, ht'⟩ => hk v e' ⟨(true, sumZ ls), hv, ht'⟩
      rintro v w19 rfl H19
      have I19 : SpI (T2 + 1 + 1) (T2 + 1) 2 (some ⟨T2 + 1, 0, none⟩) (2 - 1) (tkS (spPut (spPut sp0 0 5) 1 7) 2) w19 := H19.I
      have t19 : sumZ (stL (tkS (spPut (spPut sp0 0 5) 1 7) 2) 2) = 0 := by decide
      have hto := total_w (main := true) (V := fun _ => none) hA (tkS (spPut (spPut sp0 0 5) 1 7) 2) w19 I19
      rw [t19] at hto
      walk_nrm
      repeat (first | (refine Walk.oq ?_; try walk_nrm) | (refine Walk.un ?_; walk_nrm))
      refine Walk.callW (Post := fun v w' => v = .int .i64 0 ∧ Reads (T2 + 1 + 1) (T2 + 1) 2 (some ⟨T2 + 1, 0, none⟩) (2 - 1) (tkS (spPut (spPut sp0 0 5) 1 7) 2) w19 w') ?_ (ho_of (by conv => lhs; whnf) (by kernel_rfl)) (by rfl) (by decide) rfl Try.func22 (by kernel_rfl) (by rfl) ?_
      · walk_nrm
        exact hto
      rintro v w20 ⟨rfl, H20⟩
      have z16 := H16.size
      have z17 := H17.size
      have z18 := H18.size
      have z19 := H19.size
      have z20 := H20.size
      have O20 : ∀ b, b < T2 → w20.heap[b]? = w12.heap[b]? := fun b hb => (H20.old b (by omega) (by omega)).trans ((H19.old b (by omega) (fun h => by rcases h with h | ⟨_, h⟩ <;> omega)).trans ((H18.old b (by omega) (by omega)).trans ((H17.old b (by omega) (fun h => by rcases h with h | ⟨_, h⟩ <;> omega)).trans ((H16.old b (by omega) (fun h => by rcases h with h | ⟨_, h⟩ <;> omega)).trans ((O15 b (by omega)).trans (o14 b hb))))))
      clear hto H16 H17 H18 H19 H20 I15 I17 I19 hrt t17 t19 hq1 hq2
      walk_nrm
      repeat (first | refine Walk.cx ?_ | (refine Walk.cReg ?_; simp only [z12]) | (refine Walk.oq ?_; try walk_nrm) | (refine Walk.un ?_; walk_nrm))
      exact Walk.on1 rfl rfl Try.func12 rfl (.stop fun d => ⟨rfl, O20, by show T2 ≤ w20.heap.size; omega⟩)
end
end
end Go.Proofs.Ytnnakajldnaldaa
