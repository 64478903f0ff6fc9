/- Part 12. -/
import Derived.Test.YtmfkjceeeffamaaJ11
set_option linter.unusedSimpArgs false
set_option linter.unusedVariables false
set_option maxHeartbeats 8000000
set_option maxRecDepth 100000
namespace Go.Proofs.Ytmfkjceeeffamaa
open Go.Conc Go.RowKit Go.Relay
open Go.ConcN (upd upd_ne upd_same)
section
section
variable {main : Bool} {V : Nat → Option Wait}
structure OpsIn (tb toff n : Nat) (oa : Nat → Option Addr) (ln oc : Nat → Nat) (ops : Nat → List OpV) (w : World) : Prop where
  hd : ∀ i, i < n → w.cell? ⟨tb, toff + i, none⟩ = some (.slice (oa i) (ln i) (oc i))
  cap : ∀ i, i < n → ln i ≤ oc i
  ad : ∀ i, i < n → (oa i = none ∧ oc i = 0) ∨ ∃ b o, oa i = some ⟨b, o, none⟩
  len : ∀ i, i < n → (ops i).length = min (ln i) 65536
  ops : ∀ i, i < n → ∀ (j : Nat) (o : OpV), (ops i)[j]? = some o → ∃ b off, oa i = some ⟨b, off, none⟩ ∧ w.cell? ⟨b, off + j * 4, none⟩ = some (.int .i64 o.k) ∧ w.cell? ⟨b, off + j * 4 + 1, none⟩ = some (.int .i64 o.a) ∧ w.cell? ⟨b, off + j * 4 + 2, none⟩ = some (.int .i64 o.b) ∧ w.cell? ⟨b, off + j * 4 + 3, none⟩ = some (.int .i64 o.c)
theorem opThreads_go (dv : Value) (tb toff tc N n i : Nat) (hn : n ≤ 64) (hi : i < n) (oa : Nat → Option Addr) (ln oc : Nat → Nat) (u : Nat → Value) (cs : List Frame) (w0 w : World) (hN : w0.heap.size = N) (M : MkO N n dv oa ln oc w0 w i) (hA : ∀ b, N ≤ b → Apart V b)
    (hh : w0.cell? ⟨tb, toff + i, none⟩ = some (.slice (oa i) (ln i) (oc i))) (hcap : ln i ≤ oc i) (had : (oa i = none ∧ oc i = 0) ∨ ∃ b o, oa i = some ⟨b, o, none⟩) :
    Walk Try.prog main (DR V) (fun g w' => (∃ u, g = G (hd46 dv tb toff tc N n (i + 1) u) cs) ∧ MkO N n dv oa ln oc w0 w' (i + 1)) (G (hd46 dv tb toff tc N n i u) cs) w := by
  have hmn := @events_min_ints Try.prog
  have hiOp := Option.some_get (show (Try.prog.info? 45).isSome = true by kernel_rfl)
  have hx : w.cell? ⟨tb, toff + i, none⟩ = some (.slice (oa i) (ln i) (oc i)) := (World.cell?_of_block (a := ⟨tb, toff + i, none⟩) (M.old tb (by have := cell_lt' hh; omega))).trans hh
  obtain ⟨arr, c5, hsz, hF⟩ := M.cF
  have hs := M.size
  have hi0 : (0 : Int) ≤ i := by omega
  have hi1 : decide ((i : Int) < n) = true := by simp; omega
  have hi2 : decide (n ≤ i) = false := by simp; omega
  have hi3 : decide (i < n) = true := by simp; omega
  have hw1 : IntKind.wrap .i64 ((i : Int) + 1) = (i : Int) + 1 := by rw [IntKind.wrap_i64]; omega
  unfold hd46
  repeat (first | refine Walk.c rfl ?_ | refine Walk.cRet ?_ | refine Walk.cEnd ?_ | (refine Walk.cReg ?_; simp only [size55_0, size55_1, size55_2, size55_3, size55_4, size55_5, size55_6, size55_7, size55_8, size55_9, size55_10, List.range, List.range.loop]) | (refine Walk.oq ?_; try walk_nrm) | (refine Walk.un ?_; walk_nrm))
  (refine Walk.oa ?_; try walk_nrm)
  have s1 : (w.alloc (.cells #[.int .i64 0] 3)).heap.size = N + 5 + 2 * i := by simp [hs]; omega
  have d1 : (w.alloc (.cells #[.int .i64 0] 3)).heap[N + 4 + 2 * i]? = some (.cells #[.int .i64 0] 3) := hs ▸ heap_alloc_new w (.cells #[.int .i64 0] 3)
  have o1 : ∀ b, b < N + 4 + 2 * i → (w.alloc (.cells #[.int .i64 0] 3)).heap[b]? = w.heap[b]? := fun b hb => heap_new_lt _ _ (by omega)
  try simp only [hs]
  generalize w.alloc (.cells #[.int .i64 0] 3) = w1 at *
  (refine Walk.oa ?_; try walk_nrm)
  have s2 : (w1.alloc (.cells #[.slice none 0 0] 37)).heap.size = N + 6 + 2 * i := by simp [s1]; omega
  have d2 : (w1.alloc (.cells #[.slice none 0 0] 37)).heap[N + 5 + 2 * i]? = some (.cells #[.slice none 0 0] 37) := s1 ▸ heap_alloc_new w1 (.cells #[.slice none 0 0] 37)
  have o2 : ∀ b, b < N + 5 + 2 * i → (w1.alloc (.cells #[.slice none 0 0] 37)).heap[b]? = w1.heap[b]? := fun b hb => heap_new_lt _ _ (by omega)
  try simp only [s1]
  generalize w1.alloc (.cells #[.slice none 0 0] 37) = w2 at *
  have d1' := (o2 (N + 4 + 2 * i) (by omega)).trans d1
  have c1 := (cell_of d1' 0).trans rfl
  have z1 := frozen_of d1' 0
  have f1 := (hA (N + 4 + 2 * i) (by omega)).1 ⟨N + 4 + 2 * i, 0, none⟩ rfl
  (refine Walk.os f1 c1 ?_; try walk_nrm)
  have s3 := size_set w2 ⟨N + 4 + 2 * i, 0, none⟩ (.int .i64 (i : Nat))
  have o3 : ∀ b, b ≠ N + 4 + 2 * i → (w2.setCell ⟨N + 4 + 2 * i, 0, none⟩ (.int .i64 (i : Nat))).heap[b]? = w2.heap[b]? := fun b hb => heap_set_other _ _ _ _ hb
  have d3 : (w2.setCell ⟨N + 4 + 2 * i, 0, none⟩ (.int .i64 (i : Nat))).heap[N + 4 + 2 * i]? = some (.cells #[.int .i64 (i : Nat)] 3) := by
    rw [heap_set_self _ _ d1']
    simp
  clear c1 z1 f1
  generalize w2.setCell ⟨N + 4 + 2 * i, 0, none⟩ (.int .i64 (i : Nat)) = w3 at *
  have d2' := (o3 (N + 5 + 2 * i) (by omega)).trans d2
  have c2 := (cell_of d2' 0).trans rfl
  have z2 := frozen_of d2' 0
  have f2 := (hA (N + 5 + 2 * i) (by omega)).1 ⟨N + 5 + 2 * i, 0, none⟩ rfl
  (refine Walk.os f2 c2 ?_; try walk_nrm)
  have s4 := size_set w3 ⟨N + 5 + 2 * i, 0, none⟩ (.slice (oa i) (ln i) (oc i))
  have o4 : ∀ b, b ≠ N + 5 + 2 * i → (w3.setCell ⟨N + 5 + 2 * i, 0, none⟩ (.slice (oa i) (ln i) (oc i))).heap[b]? = w3.heap[b]? := fun b hb => heap_set_other _ _ _ _ hb
  have d4 : (w3.setCell ⟨N + 5 + 2 * i, 0, none⟩ (.slice (oa i) (ln i) (oc i))).heap[N + 5 + 2 * i]? = some (.cells #[.slice (oa i) (ln i) (oc i)] 37) := by
    rw [heap_set_self _ _ d2']
    simp
  clear c2 z2
  generalize w3.setCell ⟨N + 5 + 2 * i, 0, none⟩ (.slice (oa i) (ln i) (oc i)) = w4 at *
  have c4 := (cell_of d4 0).trans rfl
  have z4 := frozen_of d4 0
  repeat (first | refine Walk.c rfl ?_ | refine Walk.cRet ?_ | refine Walk.cEnd ?_ | (refine Walk.cReg ?_; simp only [size55_0, size55_1, size55_2, size55_3, size55_4, size55_5, size55_6, size55_7, size55_8, size55_9, size55_10, List.range, List.range.loop]) | (refine Walk.oq ?_; try walk_nrm) | (refine Walk.un ?_; walk_nrm))
  have hmin : min (ln i : Int) 65536 = ((min (ln i) 65536 : Nat) : Int) := by omega
  try rw [hmin]
  have hxl : min (ln i) 65536 ≤ oc i := by omega
  generalize hxx : min (ln i) 65536 = x at hxl ⊢
  have hsl := fun w => (run_slx huOps hiOp.symm (oa i) (ln i) (oc i) x hxl (by rcases had with h | h; exact .inl h; exact .inr h) w #[]).1
  have hse := fun w es => (run_slx huOps hiOp.symm (oa i) (ln i) (oc i) x hxl (by rcases had with h | h; exact .inl h; exact .inr h) w es).2
  repeat (first | refine Walk.c rfl ?_ | refine Walk.cRet ?_ | refine Walk.cEnd ?_ | (refine Walk.cReg ?_; simp only [size55_0, size55_1, size55_2, size55_3, size55_4, size55_5, size55_6, size55_7, size55_8, size55_9, size55_10, List.range, List.range.loop]) | (refine Walk.oq ?_; try walk_nrm) | (refine Walk.un ?_; walk_nrm))
  (refine Walk.os f2 c4 ?_; try walk_nrm)
  have s5 := size_set w4 ⟨N + 5 + 2 * i, 0, none⟩ (.slice (oa i) x (oc i))
  have o5 : ∀ b, b ≠ N + 5 + 2 * i → (w4.setCell ⟨N + 5 + 2 * i, 0, none⟩ (.slice (oa i) x (oc i))).heap[b]? = w4.heap[b]? := fun b hb => heap_set_other _ _ _ _ hb
  have d5 : (w4.setCell ⟨N + 5 + 2 * i, 0, none⟩ (.slice (oa i) x (oc i))).heap[N + 5 + 2 * i]? = some (.cells #[.slice (oa i) x (oc i)] 37) := by
    rw [heap_set_self _ _ d4]
    simp
  clear c4 z4 hsl hse hmn
  generalize w4.setCell ⟨N + 5 + 2 * i, 0, none⟩ (.slice (oa i) x (oc i)) = w5 at *
  have d3' := (o5 (N + 4 + 2 * i) (by omega)).trans ((o4 (N + 4 + 2 * i) (by omega)).trans d3)
  have c3 := (cell_of d3' 0).trans rfl
  have old5 : ∀ b, b < N + 4 + 2 * i → w5.heap[b]? = w.heap[b]? := fun b hb => by rw [o5 b (by omega), o4 b (by omega), o3 b (by omega), o2 b (by omega), o1 b hb]
  have e5 := (old5 (N + 3) (by omega)).trans c5
  have hil : i < arr.size := by omega
  have c6 := (cell_of e5 i).trans (Array.getElem?_eq_getElem hil)
  have z6 := frozen_of e5 i
  have f6 := (hA (N + 3) (by omega)).1 ⟨N + 3, i, none⟩ rfl
  have hst : ∀ d, (store ⟨N + 3, i, none⟩ (thrO N i)).run Try.prog (w5.at d) = .ok () ((w5.setCell ⟨N + 3, i, none⟩ (thrO N i)).at d) := fun d => by
    have hy' : (w5.at d).cell? ⟨N + 3, i, none⟩ = some arr[i] := c6
    have hz' : (w5.at d).frozen? ⟨N + 3, i, none⟩ = false := z6
    rw [run_store Try.prog (w5.at d) _ _ _ rfl, hy']
    simp only [hz', Bool.false_eq_true, if_false]
    rfl
  have hse : ∀ d es, (store ⟨N + 3, i, none⟩ (thrO N i)).events Try.prog (w5.at d) es = es.push ⟨.cell ⟨N + 3, i, none⟩, true, false⟩ := fun d es => by
    have hy' : (w5.at d).cell? ⟨N + 3, i, none⟩ = some arr[i] := c6
    have hz' : (w5.at d).frozen? ⟨N + 3, i, none⟩ = false := z6
    rw [events_store Try.prog (w5.at d) es _ _ _ rfl, hy']
    simp only [hz', Bool.false_eq_true, if_false]
    rfl
  simp only [thrO] at hst hse
  repeat (first | refine Walk.c rfl ?_ | refine Walk.cRet ?_ | refine Walk.cEnd ?_ | (refine Walk.cReg ?_; simp only [size55_0, size55_1, size55_2, size55_3, size55_4, size55_5, size55_6, size55_7, size55_8, size55_9, size55_10, List.range, List.range.loop]) | (refine Walk.oq ?_; try walk_nrm) | (refine Walk.un ?_; walk_nrm))
  refine Walk.opw (W := w5.setCell ⟨N + 3, i, none⟩ (thrO N i)) (ho_of (by conv => lhs; whnf) (by kernel_rfl)) (by rfl) (by decide) (fun dd e he => ?_) (fun dd es hes => DR.set' f6 c6 dd es hes) (fun dd K hK => ?_)
  · simp [go_sem, storedEv, *] at he
    subst he
    exact evR_write _ _ f6
  · have e6 : (w5.setCell ⟨N + 3, i, none⟩ (thrO N i)).heap[N + 3]? = some (.cells (arr.setIfInBounds i (thrO N i)) 126) := heap_set_self _ _ e5
    have o6 : ∀ b, b ≠ N + 3 → (w5.setCell ⟨N + 3, i, none⟩ (thrO N i)).heap[b]? = w5.heap[b]? := fun b hb => heap_set_other _ _ _ _ hb
    have s6 := size_set w5 ⟨N + 3, i, none⟩ (thrO N i)
    go_simp
    try rw [hst dd]
    refine hK _ ?_
    clear hK K hst hse
    try walk_nrm
    repeat (first | refine Walk.c rfl ?_ | refine Walk.cRet ?_ | refine Walk.cEnd ?_ | (refine Walk.cReg ?_; simp only [size55_0, size55_1, size55_2, size55_3, size55_4, size55_5, size55_6, size55_7, size55_8, size55_9, size55_10, List.range, List.range.loop]) | (refine Walk.oq ?_; try walk_nrm) | (refine Walk.un ?_; walk_nrm))
    refine Walk.ctl rfl (fun w => stepG_inLoop) ?_
    refine .stop fun d' => ⟨at_slots ?_, MkO.at ⟨by omega, fun b hb => ?_, ?_, ?_, ?_, ⟨_, e6, by simp [hsz], fun j hj => ?_⟩, fun j hj => ?_, fun j hj => ?_⟩ d'⟩
    · have hc : ((i + 1 : Nat) : Int) = (i : Int) + 1 := by simp
      simp only [hd46, hc]
      rfl
    · rw [o6 b (by omega), old5 b (by omega)]; exact M.old b hb
    · rw [o6 _ (by omega), old5 _ (by omega)]; exact M.cD
    · rw [o6 _ (by omega), old5 _ (by omega)]; exact M.cN
    · rw [o6 _ (by omega), old5 _ (by omega)]; exact M.cA
    · by_cases h : j = i
      · subst h
        exact Array.getElem?_setIfInBounds_self_of_lt hil
      · rw [Array.getElem?_setIfInBounds_ne (Ne.symm h)]
        exact hF j (by omega)
    · by_cases h : j = i
      · subst h
        rw [o6 _ (by omega)]; exact d3'
      · rw [o6 _ (by omega), old5 _ (by omega)]; exact M.cI j (by omega)
    · by_cases h : j = i
      · subst h
        rw [o6 _ (by omega), hxx]; exact d5
      · rw [o6 _ (by omega), old5 _ (by omega)]; exact M.cO j (by omega)
theorem opThreads_out (dv : Value) (tb toff tc N n : Nat) (u : Nat → Value) (c : Frame) (cs : List Frame) (w : World) (hA2 : w.cell? ⟨N + 2, 0, none⟩ = some (.slice (some ⟨N + 1, 0, none⟩) n n)) :
    Walk Try.prog main (DR V) (fun g w' => g = G (c.finish (.tuple #[.slice (some ⟨N + 3, 0, none⟩) n n, .slice (some ⟨N + 1, 0, none⟩) n n])) cs ∧ ∃ d, w' = w.at d) (G (hd46 dv tb toff tc N n n u) (c :: cs)) w := by
  unfold hd46
  repeat (first | refine Walk.c rfl ?_ | refine Walk.cRet ?_ | refine Walk.cEnd ?_ | (refine Walk.cReg ?_; simp only [size55_0, size55_1, size55_2, size55_3, size55_4, size55_5, size55_6, size55_7, size55_8, size55_9, size55_10, List.range, List.range.loop]) | (refine Walk.oq ?_; try walk_nrm) | (refine Walk.un ?_; walk_nrm))
  (refine Walk.drawnCW (by kernel_rfl) size55_10 (by kernel_rfl) (by kernel_rfl) (by decide) ?_; simp only [List.range, List.range.loop]; repeat (first | (refine Cm.opqA (ho_of (by conv => lhs; whnf) (by kernel_rfl)) (by rfl) (fun dd e he => ?_) ?_; (· (simp [go_sem, *] at he; try (subst he; exact evR_read _ _))); apply Exists.intro; apply And.intro; (· (intro dd K hK; go_simp; exact hK))) | (refine Cm.unw (ho_of (by conv => lhs; whnf) (by kernel_rfl)) (by rfl) ?_; walk_nrm)))
  refine Cm.done ?_
  repeat (first | refine Walk.c rfl ?_ | refine Walk.cRet ?_ | refine Walk.cEnd ?_ | (refine Walk.cReg ?_; simp only [size55_0, size55_1, size55_2, size55_3, size55_4, size55_5, size55_6, size55_7, size55_8, size55_9, size55_10, List.range, List.range.loop]) | (refine Walk.oq ?_; try walk_nrm) | (refine Walk.un ?_; walk_nrm))
  refine Walk.on2 rfl rfl Try.func55 rfl (.stop fun d => ⟨rfl, d, rfl⟩)
end
end
section
section
variable {main : Bool} {V : Nat → Option Wait}
theorem opThreads_w (fdo : FuncId) (first cap : Array Value) (tv : Value) (tb toff tc n : Nat) (hn : n ≤ 64) (oa : Nat → Option Addr) (ln oc : Nat → Nat) (ops : Nat → List OpV) (w : World) (I : OpsIn tb toff n oa ln oc ops w) (hA : ∀ b, w.heap.size ≤ b → Apart V b)
    (hp : ∀ w' : World, (∀ b, b < w.heap.size → w'.heap[b]? = w.heap[b]?) → CallV Try.prog main V 67 #[tv] w' (.slice (some ⟨tb, toff, none⟩) n tc) w') :
    CallW Try.prog main V 55 #[tv, .func (.func fdo) first cap] w (fun v w' => v = .tuple #[.slice (some ⟨w.heap.size + 3, 0, none⟩) n n, .slice (some ⟨w.heap.size + 1, 0, none⟩) n n] ∧ MkO w.heap.size n (.func (.func fdo) first cap) oa ln oc w w' n) := by
  intro c cs
  refine (opThreads_in fdo first cap tv tb toff tc n hn (c :: cs) w hA hp oa ln oc).then ?_
  rintro g w1 ⟨⟨u, rfl⟩, M⟩
  have loop : ∀ (r i : Nat) (u : Nat → Value) (w1 : World), i + r = n → MkO w.heap.size n (.func (.func fdo) first cap) oa ln oc w w1 i →
      Walk Try.prog main (DR V) (fun g w' => ∃ v, (v = .tuple #[.slice (some ⟨w.heap.size + 3, 0, none⟩) n n, .slice (some ⟨w.heap.size + 1, 0, none⟩) n n] ∧ MkO w.heap.size n (.func (.func fdo) first cap) oa ln oc w w' n) ∧ g = G (c.finish v) cs) (G (hd46 (.func (.func fdo) first cap) tb toff tc w.heap.size n i u) (c :: cs)) w1 := by
    intro r
    induction r with
    | zero =>
      intro i u w1 hi M
      obtain rfl : i = n := hi
      refine (opThreads_out _ tb toff tc w.heap.size i u c cs w1 ((cell_of M.cA 0).trans rfl)).mono ?_
      rintro g w' ⟨rfl, d, rfl⟩
      exact ⟨_, ⟨rfl, M.at d⟩, rfl⟩
    | succ r ih =>
      intro i u w1 hi M
      have hin : i < n := by omega
      refine (opThreads_go _ tb toff tc w.heap.size n i hn hin oa ln oc u (c :: cs) w w1 rfl M hA (I.hd i hin) (I.cap i hin) (I.ad i hin)).then ?_
      rintro g w' ⟨⟨u', rfl⟩, M'⟩
      exact ih (i + 1) u' w' (by omega) M'
  exact loop n 0 u w1 (by omega) M
noncomputable def reg32_0 : Array Oper := match Try.f32.body with | some (.seq (.region _ ops _) _) => ops | _ => #[]
theorem size32_0 : reg32_0.size = 1 := by kernel_rfl
noncomputable def reg32_1 : Array Oper := match Try.f32.body with | some (.seq _ (.seq (.region _ ops _) _)) => ops | _ => #[]
theorem size32_1 : reg32_1.size = 8 := by kernel_rfl
noncomputable def reg32_2 : Array Oper := match Try.f32.body with | some (.seq _ (.seq _ (.seq (.region _ ops _) _))) => ops | _ => #[]
theorem size32_2 : reg32_2.size = 11 := by kernel_rfl
noncomputable def reg32_3 : Array Oper := match Try.f32.body with | some (.seq _ (.seq _ (.seq _ (.seq (.region _ ops _) _)))) => ops | _ => #[]
theorem size32_3 : reg32_3.size = 5 := by kernel_rfl
theorem code32_is : Try.f32.body = some (.seq (.region 0 reg32_0 false) (.seq (.region 1 reg32_1 false) (.seq (.region 2 reg32_2 false) (.seq (.region 3 reg32_3 false) (.ret))))) := by kernel_rfl
def OpsBack (main : Bool) (V : Nat → Option Wait) (T A n : Nat) (fr c : Frame) (cs : List Frame) : Prop := ∀ (oo : Option Addr) (ol ok : Nat) (bv : Value) (stuck : Bool) (w : World), w.heap[T]? = some (.cells #[.slice none 0 0, .slice none 0 0, .slice none 0 0, .bool false] 27) → Apart V T →
  Walk Try.prog main (DR V) (fun g w' => g = G (c.finish (.agg #[.slice (some ⟨A, 0, none⟩) n n, .slice oo ol ok, .slice none 0 0, .bool stuck])) cs ∧ ∃ d, w' = (w.setRow T #[.slice (some ⟨A, 0, none⟩) n n, .slice oo ol ok, .slice none 0 0, .bool stuck]).at d) (G (fr.finish (.tuple #[.slice oo ol ok, .bool stuck, bv])) (c :: cs)) w
theorem ops_in (fdo : FuncId) (first cap : Array Value) (tv sv : Value) (most : Int) (tb toff tc n : Nat) (hn : n ≤ 64) (oa : Nat → Option Addr) (ln oc : Nat → Nat) (ops : Nat → List OpV) (c : Frame) (cs : List Frame) (w : World) (I : OpsIn tb toff n oa ln oc ops w) (hA : ∀ b, w.heap.size ≤ b → Apart V b)
    (hp : ∀ w' : World, (∀ b, b < w.heap.size → w'.heap[b]? = w.heap[b]?) → CallV Try.prog main V 67 #[tv] w' (.slice (some ⟨tb, toff, none⟩) n tc) w') :
    Walk Try.prog main (DR V) (fun g w' => ∃ fr w1, g = G (Frame.enter Try.prog 56 #[.slice (some ⟨w.heap.size + 4, 0, none⟩) n n, sv, .int .i64 most] .normal) (fr :: c :: cs) ∧ (∀ b, b < w.heap.size → w1.heap[b]? = w.heap[b]?) ∧ w1.heap.size = w.heap.size + 1 ∧ w1.heap[w.heap.size]? = some (.cells #[.slice none 0 0, .slice none 0 0, .slice none 0 0, .bool false] 27) ∧ MkO (w.heap.size + 1) n (.func (.func fdo) first cap) oa ln oc w1 w' n ∧ OpsBack main V w.heap.size (w.heap.size + 2) n fr c cs)
      (G (Frame.enter Try.prog 32 #[tv, .func (.func fdo) first cap, sv, .int .i64 most] .normal) (c :: cs)) w := by
  rw [enter_at _ Try.func32 code32_is]
  simp only [Try.ntmps32, List.size_toArray, List.length_cons, List.length_nil, Nat.reduceAdd, Nat.reduceSub, Array.replicate_succ, Array.replicate_zero, List.push_toArray, List.append_toArray, List.nil_append, List.cons_append]
  repeat (first | refine Walk.c rfl ?_ | refine Walk.cRet ?_ | refine Walk.cEnd ?_ | (refine Walk.cReg ?_; simp only [size32_0, size32_1, size32_2, size32_3, List.range, List.range.loop]) | (refine Walk.oq ?_; try walk_nrm) | (refine Walk.un ?_; walk_nrm))
  (refine Walk.oa ?_; try walk_nrm)
  have s1 : (w.alloc (.cells #[.slice none 0 0, .slice none 0 0, .slice none 0 0, .bool false] 27)).heap.size = w.heap.size + 1 := by simp
  have o1 : ∀ b, b < w.heap.size → (w.alloc (.cells #[.slice none 0 0, .slice none 0 0, .slice none 0 0, .bool false] 27)).heap[b]? = w.heap[b]? := fun b hb => heap_new_lt _ _ hb
  have d1 := heap_alloc_new w (.cells #[.slice none 0 0, .slice none 0 0, .slice none 0 0, .bool false] 27)
  generalize hN : w.heap.size = T at *
  generalize w.alloc (.cells #[.slice none 0 0, .slice none 0 0, .slice none 0 0, .bool false] 27) = w1 at *
  have I1 : OpsIn tb toff n oa ln oc ops w1 := by
    have hc : ∀ {b j : Nat} {v : Value}, w.cell? ⟨b, j, none⟩ = some v → w1.cell? ⟨b, j, none⟩ = some v := fun {b j v} h => (World.cell?_of_block (a := ⟨b, j, none⟩) (o1 b (hN ▸ cell_lt' h))).trans h
    exact ⟨fun i hi => hc (I.hd i hi), I.cap, I.ad, I.len, fun i hi j o ho => by
      obtain ⟨b, off, e, c0, c1, c2, c3⟩ := I.ops i hi j o ho
      exact ⟨b, off, e, hc c0, hc c1, hc c2, hc c3⟩⟩
  repeat (first | refine Walk.c rfl ?_ | refine Walk.cRet ?_ | refine Walk.cEnd ?_ | (refine Walk.cReg ?_; simp only [size32_0, size32_1, size32_2, size32_3, List.range, List.range.loop]) | (refine Walk.oq ?_; try walk_nrm) | (refine Walk.un ?_; walk_nrm))
  refine Walk.callW (Post := fun v w' => v = .tuple #[.slice (some ⟨w1.heap.size + 3, 0, none⟩) n n, .slice (some ⟨w1.heap.size + 1, 0, none⟩) n n] ∧ MkO w1.heap.size n (.func (.func fdo) first cap) oa ln oc w1 w' n) ?_ (ho_of (by conv => lhs; whnf) (by kernel_rfl)) (by rfl) (by decide) rfl Try.func55 (by kernel_rfl) (by rfl) ?_
  · walk_nrm
    exact opThreads_w fdo first cap tv tb toff tc n hn oa ln oc ops w1 I1 (fun b hb => hA b (by omega)) (fun w' hw' => hp w' fun b hb => (hw' b (by omega)).trans (o1 b hb))
  rintro v w2 ⟨rfl, M⟩
  rw [s1] at M ⊢
  walk_nrm
  repeat (first | refine Walk.c rfl ?_ | refine Walk.cRet ?_ | refine Walk.cEnd ?_ | (refine Walk.cReg ?_; simp only [size32_0, size32_1, size32_2, size32_3, List.range, List.range.loop]) | (refine Walk.oq ?_; try walk_nrm) | (refine Walk.un ?_; walk_nrm))
  refine Walk.callE (ho_of (by conv => lhs; whnf) (by kernel_rfl)) (by rfl) (by decide) rfl Try.func56 (by kernel_rfl) (by rfl) ?_
  walk_nrm
  refine .stop fun d => ⟨_, w1, rfl, o1, s1, d1, M.at d, ?_⟩
  intro oo ol ok bv stuck w3 hT hap
  refine Walk.finish (ho_of (by conv => lhs; whnf) (by kernel_rfl)) ?_
  walk_nrm
  repeat (first | refine Walk.c rfl ?_ | refine Walk.cRet ?_ | refine Walk.cEnd ?_ | (refine Walk.cReg ?_; simp only [size32_0, size32_1, size32_2, size32_3, List.range, List.range.loop]) | (refine Walk.oq ?_; try walk_nrm) | (refine Walk.un ?_; walk_nrm))
  refine Walk.storeS 27 (.tmp 8) (.tmp 31) (ho_of (by conv => lhs; whnf) (by kernel_rfl)) (by rfl) (by decide) rfl T #[.slice (some ⟨T + 2, 0, none⟩) n n, .slice oo ol ok, .slice none 0 0, .bool stuck] _ 27 rfl rfl hT (by kernel_rfl) (by rfl) (by simp [Value.oneCell']) hap ?_
  have c9 := setRow_self (cells := #[.slice (some ⟨T + 2, 0, none⟩) n n, .slice oo ol ok, .slice none 0 0, .bool stuck]) hT
  walk_nrm
  repeat (first | refine Walk.c rfl ?_ | refine Walk.cRet ?_ | refine Walk.cEnd ?_ | (refine Walk.cReg ?_; simp only [size32_0, size32_1, size32_2, size32_3, List.range, List.range.loop]) | (refine Walk.oq ?_; try walk_nrm) | (refine Walk.un ?_; walk_nrm))
  exact Walk.onCell (T := T) rfl rfl rfl Try.func32 rfl (by rfl) c9 (by kernel_rfl) (by kernel_rfl) (.stop fun d => ⟨rfl, d, rfl⟩)
end
end
section
structure Abs (X : Type) where
  n : Nat
  most : Int
  born : X → Nat → X
  next : X → Nat → X
  out : X → Nat → Option Bool
section
variable {X : Type}
def goingA (C : Abs X) (x : X) : Nat := (List.range C.n).countP (fun i => (C.out x i).isNone)
def overA (C : Abs X) (st : X × List Nat) : Bool := decide (goingA C st.1 = 0) || decide (C.most ≤ st.2.length)
def stepA (C : Abs X) (st : X × List Nat) (z : Int) : X × List Nat :=
  if overA C st = false ∧ 0 ≤ z ∧ z < C.n ∧ C.out st.1 z.toNat = none then (C.next st.1 z.toNat, st.2 ++ [z.toNat]) else st
def roundA (C : Abs X) (st : X × List Nat) : X × List Nat := (List.range C.n).foldl (fun st i => stepA C st (i : Nat)) st
def restA (C : Abs X) : Nat → X × List Nat → X × List Nat
  | 0, st => st
  | f + 1, st => if overA C st then st else restA C f (roundA C st)
def followA (C : Abs X) (st : X × List Nat) (l : List Int) : X × List Nat := restA C C.most.toNat (l.foldl (stepA C) st)
def bornsA (C : Abs X) : Nat → Nat → X → X
  | 0, _, x => x
  | n + 1, k, x => bornsA C n (k + 1) (C.born x k)
def runA (C : Abs X) (x0 : X) (l : List Int) : X × List Nat := followA C (bornsA C C.n 0 x0, []) l
def absOf {S : Stile} (C : Crew S X) : Abs X := ⟨S.n, S.most, C.born, C.next, C.out⟩
theorem rest_abs {S : Stile} (C : Crew S X) : ∀ (f : Nat) (st : X × List Nat), restX C f st = restA (absOf C) f st
  | 0, _ => rfl
  | f + 1, st => by
    unfold restX restA
    rw [rest_abs C f]
    rfl
theorem born_abs {S : Stile} (C : Crew S X) : ∀ (n k : Nat) (x : X), bornAll C n k x = bornsA (absOf C) n k x
  | 0, _, _ => rfl
  | n + 1, k, x => by
    unfold bornAll bornsA
    exact born_abs C n (k + 1) _
theorem follow_abs {S : Stile} (C : Crew S X) (st : X × List Nat) (l : List Int) : followX C st l = followA (absOf C) st l := by
  unfold followX followA
  rw [rest_abs]
  rfl
end
def absO (L : La) (n : Nat) (most : Int) (ops : Nat → List OpV) : Abs (OX L) := ⟨n, most, bornO ops, nextO, OX.out⟩
def x0O (L : La) (s0 : L.Sg) : OX L := ⟨s0, fun _ => t0 L, fun _ => none, 0⟩
def playO (L : La) (s0 : L.Sg) (ops : Nat → List OpV) (n : Nat) (most : Int) (sl : List Int) : OX L × List Nat := runA (absO L n (min (max most 0) 1048576) ops) (x0O L s0) sl
def stuckO {L : La} (n : Nat) (x : OX L) : Bool := decide (0 < (List.range n).countP (fun i => (x.out i).isNone))
structure OpsOut (L : La) (s0 : L.Sg) (ops : Nat → List OpV) (n : Nat) (most : Int) (sl : List Int) (w w' : World) (cells : Array Value) : Prop where
  all : ∃ (A : Nat) (oo : Option Addr) (ok : Nat) (hd : Nat → Value) (arr : Array Value),
    cells = #[.slice (some ⟨A, 0, none⟩) n n, .slice oo (playO L s0 ops n most sl).2.length ok, .slice none 0 0, .bool (stuckO n (playO L s0 ops n most sl).1)] ∧
    w'.ownsRow w.heap.size 3 1 (.slice oo (playO L s0 ops n most sl).2.length ok) (playO L s0 ops n most sl).2.length ((playO L s0 ops n most sl).2.map fun i => .int .i64 (i : Nat)) ∧
    w.heap.size ≤ A ∧ w'.heap[A]? = some (.cells arr 29) ∧ (∀ i, i < n → arr[i]? = some (hd i)) ∧
    (∀ i, i < n → ∃ ta tc, hd i = .slice ta (((playO L s0 ops n most sl).1.th i).ans).length tc ∧ w'.ownsRow w.heap.size 32 3 (hd i) (((playO L s0 ops n most sl).1.th i).ans).length (ansRow (((playO L s0 ops n most sl).1.th i).ans)))
  I : L.I (playO L s0 ops n most sl).1.s w'
  old : ∀ b, b < w.heap.size → ¬ L.sh b → w'.heap[b]? = w.heap[b]?
  size : w.heap.size ≤ w'.heap.size
theorem row_raise {w : World} {base base' : Nat} {e : TypeId} {size : Nat} {v : Value} {n : Nat} {xs : List Value} (h : w.ownsRow base e size v n xs) (hb : ∀ g, v.ownBlock = some g → base' ≤ g) : w.ownsRow base' e size v n xs := by
  refine ⟨h.1, ?_⟩
  rcases h.2 with z | ⟨g, cap, cur, h0, h1, h2⟩
  · exact .inl z
  · exact .inr ⟨g, cap, cur, h0, hb g (by rw [h0]; rfl), h2⟩
section
variable {L : La} {fdo : FuncId} {first cap : Array Value}
theorem ops_run (hD : DoFn L fdo first cap) (s0 : L.Sg) (tv : Value) (most : Int) (tb toff tc n : Nat) (hn1 : 1 ≤ n) (hn : n ≤ 64) (oa : Nat → Option Addr) (ln oc : Nat → Nat) (ops : Nat → List OpV) (sa : Option Addr) (sc : Nat) (sl : List Int) (hsl : sl.length ≤ 17592186044416) (c : Frame) (cs : List Frame) (w : World)
    (I : OpsIn tb toff n oa ln oc ops w) (hI : L.I s0 w) (hns : ∀ i, i < n → ∀ (j : Nat) (o : OpV), (ops i)[j]? = some o → ∀ b off, oa i = some ⟨b, off, none⟩ → ¬ L.sh b)
    (hsc : ∀ (j : Nat) (z : Int), sl[j]? = some z → ∃ s so, sa = some ⟨s, so, none⟩ ∧ w.cell? ⟨s, so + j, none⟩ = some (.int .i64 z) ∧ ¬ L.sh s)
    (hp : ∀ w' : World, (∀ b, b < w.heap.size → w'.heap[b]? = w.heap[b]?) → CallV Try.prog true (fun _ => none) 67 #[tv] w' (.slice (some ⟨tb, toff, none⟩) n tc) w') :
    Runs (fun g w' => ∃ cells, OpsOut L s0 ops n most sl w w' cells ∧ g = G (c.finish (.agg cells)) cs) (G (Frame.enter Try.prog 32 #[tv, .func (.func fdo) first cap, .slice sa sl.length sc, .int .i64 most] .normal) (c :: cs)) w := by
  have hA : ∀ b, Apart (fun _ => none) b := fun b => ⟨fun _ _ _ _ h => (by cases h), fun _ _ h => (by cases h)⟩
  refine Runs.walk (ops_in fdo first cap tv (.slice sa sl.length sc) most tb toff tc n hn oa ln oc ops c cs w I (fun b _ => hA b) hp) ?_
  rintro _ w2 ⟨fr, w1, rfl, o1, s1, hT, M, hB⟩
  have hshw : ∀ b, L.sh b → b < w.heap.size := fun b h => L.lt hI h
  have s2 : w2.heap.size = w.heap.size + 1 + 4 + 2 * n := M.size
  have o2 : ∀ b, b < w.heap.size → w2.heap[b]? = w.heap[b]? := fun b hb => (M.old b (by omega)).trans (o1 b hb)
  have hc2 : ∀ {b j : Nat} {v : Value}, w.cell? ⟨b, j, none⟩ = some v → w2.cell? ⟨b, j, none⟩ = some v := fun {b j v} h => (World.cell?_of_block (a := ⟨b, j, none⟩) (o2 b (cell_lt' h))).trans h
  have hI2 : L.I s0 w2 := L.stable hI fun b h => o2 b (hshw b h)
  let g : OG := ⟨n, w2, w.heap.size + 1 + 1, ops⟩
  let Q : Given := ⟨0, n, w.heap.size + 4, n, most, fun i => thrO (w.heap.size + 1) i, sa, sc, sl⟩
  obtain ⟨farr, hF1, hF2, hF3⟩ := M.cF
  have hfree : ∀ b, w.heap.size ≤ b → ¬ L.sh b := fun b hb h => by have := hshw b h; omega
  refine Runs.then (over_run (fun S => crewO L g hD S) (x0O L s0) Q (.slice (some ⟨w.heap.size + 4, 0, none⟩) n n) w2 hn1 hn hsl (fun _ => rfl) (by
      have := first_some (main := true) (V := fun _ => none) (w.heap.size + 4) n n w2 (Nat.le_refl _)
      rw [Nat.min_eq_left hn] at this
      exact this) (fun g0 sb scap sts => ⟨fun _ => [], ?_, fun _ => none, fun _ => .slice none 0 0, ?_⟩) fr (c :: cs)) ?_
  · intro i hi
    refine ⟨w.heap.size + 1 + 5 + 2 * i, w.heap.size + 1 + 2, w.heap.size + 1 + 4 + 2 * i, w.heap.size + 1, n, oa i, oc i, ⟨hi, hn, by rw [show g.ops i = ops i from rfl, I.len i hi]; omega, ?_, (cell_of M.cA 0).trans rfl, (cell_of (M.cI i hi) 0).trans rfl, (cell_of M.cD 0).trans rfl, ⟨hfree _ (by omega), show _ ≠ w.heap.size + 1 + 1 by omega⟩, ⟨hfree _ (by omega), show _ ≠ w.heap.size + 1 + 1 by omega⟩, ⟨hfree _ (by omega), show _ ≠ w.heap.size + 1 + 1 by omega⟩, ⟨hfree _ (by omega), show _ ≠ w.heap.size + 1 + 1 by omega⟩, fun j o ho => ?_⟩, rfl⟩
    · rw [show (g.ops i).length = min (ln i) 65536 from I.len i hi]
      exact (cell_of (M.cO i hi) 0).trans rfl
    · obtain ⟨b, off, e, c0, c1, c2, c3⟩ := I.ops i hi j o ho
      exact ⟨b, off, e, hns i hi j o ho b off e, show b ≠ w.heap.size + 1 + 1 by have := cell_lt' c0; omega, hc2 c0, hc2 c1, hc2 c2, hc2 c3⟩
  · refine ⟨⟨rfl, fun b h => ⟨by have := hshw b h; show b < w2.heap.size; omega, show b ≠ w.heap.size + 1 + 1 by have := hshw b h; omega⟩, show w.heap.size + 1 + 1 < w2.heap.size by omega, ⟨hfree _ (show w.heap.size ≤ w.heap.size + 4 by omega), show w.heap.size + 4 ≠ w.heap.size + 1 + 1 by omega⟩, fun i hi => ?_, fun j z hz => ?_⟩, Nat.zero_le _, Nat.le_refl _, fun _ _ => rfl, fun _ _ _ _ => rfl, fun _ _ h => (by cases h), hI2, ⟨_, M.cN, fun i hi => madeCells_get _ n i hi⟩, fun i hi => ⟨none, 0, rfl, ⟨rfl, .inl ⟨rfl, rfl⟩⟩⟩, fun i hi b h => (by simp [Value.ownBlock] at h), fun i hi => absurd hi (Nat.not_lt_zero _), fun _ _ _ => rfl⟩
    · exact (cell_of hF1 i).trans (hF3 i hi)
    · obtain ⟨s, so, e, hc, h1⟩ := hsc j z hz
      exact ⟨s, so, e, hc2 hc, h1, show s ≠ w.heap.size + 1 + 1 by have := cell_lt' hc; omega⟩
  · rintro _ w4 ⟨_, ⟨g0, sb, scap, sts, x, ord, oa', oc', q, k, own, csx, hx, hov, rfl, ⟨hThr, pr, hd, P⟩, hrow, hrb, hq, hqs, hsz, _⟩, rfl⟩
    have hT4 : w4.heap[w.heap.size]? = some (.cells #[.slice none 0 0, .slice none 0 0, .slice none 0 0, .bool false] 27) := (P.old _ (show w.heap.size < w2.heap.size by omega) (hfree _ (Nat.le_refl _)) (show w.heap.size ≠ w.heap.size + 1 + 1 by omega)).trans ((M.old _ (by omega)).trans hT)
    have hp : (x, ord) = playO L s0 ops n most sl := by
      rw [hx, follow_abs, born_abs]
      rfl
    have hg : decide (0 < goingX (crewO L g hD (stile (Q.at g0) w2.heap.size sb scap sts)) x) = stuckO n x := rfl
    refine Runs.walk (hB oa' ord.length oc' _ _ w4 hT4 (hA _)) ?_
    rintro _ _ ⟨rfl, d, rfl⟩
    obtain ⟨arr, hAr, hAi⟩ := P.an
    have hset : ∀ b, b ≠ w.heap.size → (w4.setRow w.heap.size #[.slice (some ⟨w.heap.size + 2, 0, none⟩) n n, .slice oa' ord.length oc', .slice none 0 0, .bool (stuckO n x)]).heap[b]? = w4.heap[b]? := fun b hb => setRow_other _ _ hb
    have hle : w2.heap.size ≤ w4.heap.size := P.size
    refine .now ⟨_, ⟨⟨w.heap.size + 2, oa', oc', hd, arr, ?_, ?_, by omega, ?_, hAi, fun i hi => ?_⟩, ?_, fun b hb hs => ?_, ?_⟩, rfl⟩
    · rw [← hp, hg]
    · rw [← hp]
      refine row_same (row_raise hrow fun b hb => ?_) fun b hb => hset b ?_
      · have := hrow.lt b hb; omega
      · have := hrow.lt b hb; omega
    · exact (hset _ (by omega)).trans hAr
    · rw [← hp]
      obtain ⟨ta, tc', e, hr⟩ := P.row i hi
      refine ⟨ta, tc', e, row_same (row_raise hr fun b hb => ?_) fun b hb => hset b ?_⟩
      · have := (hr.lt b hb).1; have h2 : w2.heap.size ≤ b := this; omega
      · have := (hr.lt b hb).1; have h2 : w2.heap.size ≤ b := this; omega
    · rw [← hp]
      exact L.stable P.I fun b h => hset b (by have := hshw b h; omega)
    · exact (hset b (by omega)).trans ((P.old b (show b < w2.heap.size by omega) hs (show b ≠ w.heap.size + 1 + 1 by omega)).trans (o2 b hb))
    · show w.heap.size ≤ (w4.setRow _ _).heap.size
      rw [setRow_size]; omega
end
end
noncomputable def reg15_0 : Array Oper := match Try.f15.body with | some (.seq (.region _ ops _) _) => ops | _ => #[]
theorem size15_0 : reg15_0.size = 1 := by kernel_rfl
noncomputable def reg15_1 : Array Oper := match Try.f15.body with | some (.seq _ (.seq (.region _ ops _) _)) => ops | _ => #[]
theorem size15_1 : reg15_1.size = 4 := by kernel_rfl
noncomputable def reg15_2 : Array Oper := match Try.f15.body with | some (.seq _ (.seq _ (.seq (.region _ ops _) _))) => ops | _ => #[]
theorem size15_2 : reg15_2.size = 8 := by kernel_rfl
noncomputable def reg15_3 : Array Oper := match Try.f15.body with | some (.seq _ (.seq _ (.seq _ (.seq (.region _ ops _) _)))) => ops | _ => #[]
theorem size15_3 : reg15_3.size = 4 := by kernel_rfl
noncomputable def reg15_4 : Array Oper := match Try.f15.body with | some (.seq _ (.seq _ (.seq _ (.seq _ (.seq (.region _ ops _) _))))) => ops | _ => #[]
theorem size15_4 : reg15_4.size = 2 := by kernel_rfl
theorem code15_is : Try.f15.body = some (.seq (.region 0 reg15_0 false) (.seq (.region 1 reg15_1 false) (.seq (.region 2 reg15_2 false) (.seq (.region 3 reg15_3 false) (.seq (.region 4 reg15_4 false) (.ret)))))) := by kernel_rfl
def SPBack (T0 kb nb n : Nat) (tg : Bool) (fr c : Frame) (cs : List Frame) : Prop := ∀ (A na : Nat) (oo : Option Addr) (ol ok : Nat) (stuck : Bool) (s : Sk) (w : World), kb ≠ nb → n ≤ 65536 → SkI kb nb n tg s w → w.heap[T0]? = some (.cells #[.slice none 0 0, .slice none 0 0, .slice none 0 0, .bool false] 27) → valsX s n (nodeX s.hd) ≠ [] → (valsX s n (nodeX s.hd)).length ≤ 65536 →
  Walk Try.prog true (DR (fun _ => none)) (fun g w' => ∃ ta tc, g = G (c.finish (.agg #[.slice (some ⟨A, 0, none⟩) na na, .slice oo ol ok, .slice ta (stateX n s).length tc, .bool stuck])) cs ∧ w'.ownsRow w.heap.size 2 1 (.slice ta (stateX n s).length tc) (stateX n s).length (intRow (stateX n s)) ∧ (∀ b, b < w.heap.size → b ≠ T0 → w'.heap[b]? = w.heap[b]?) ∧ w.heap.size ≤ w'.heap.size)
    (G (fr.finish (.agg #[.slice (some ⟨A, 0, none⟩) na na, .slice oo ol ok, .slice none 0 0, .bool stuck])) (c :: cs)) w
theorem splay_in (sz : Int) (tg : Bool) (tv sv : Value) (most : Int) (c : Frame) (cs : List Frame) (w : World) :
    Walk Try.prog true (DR (fun _ => none)) (fun g w' => ∃ fr, g = G (Frame.enter Try.prog 32 #[tv, .func (.func 33) #[.pointer (some ⟨w.heap.size + 2, 0, none⟩)] #[], sv, .int .i64 most] .normal) (fr :: c :: cs) ∧ SkI (w.heap.size + 2) (w.heap.size + 1) (sizeN sz) tg (sk0 (sizeN sz)) w' ∧ (∀ b, b < w.heap.size → w'.heap[b]? = w.heap[b]?) ∧ w'.heap.size = w.heap.size + 3 ∧
        w'.heap[w.heap.size]? = some (.cells #[.slice none 0 0, .slice none 0 0, .slice none 0 0, .bool false] 27) ∧ SPBack w.heap.size (w.heap.size + 2) (w.heap.size + 1) (sizeN sz) tg fr c cs)
      (G (Frame.enter Try.prog 15 #[.int .i64 sz, .bool tg, tv, sv, .int .i64 most] .normal) (c :: cs)) w := by
  have hA : ∀ b, Apart (fun _ => none) b := fun b => ⟨fun _ _ _ _ h => (by cases h), fun _ _ h => (by cases h)⟩
  obtain ⟨fsT, huT⟩ := structT 27 (by kernel_rfl)
  rw [enter_at _ Try.func15 code15_is]
  simp only [Try.ntmps15, List.size_toArray, List.length_cons, List.length_nil, Nat.reduceAdd, Nat.reduceSub, Array.replicate_succ, Array.replicate_zero, List.push_toArray, List.append_toArray, List.nil_append, List.cons_append]
  repeat (first | refine Walk.c rfl ?_ | refine Walk.cRet ?_ | refine Walk.cEnd ?_ | (refine Walk.cReg ?_; simp only [size15_0, size15_1, size15_2, size15_3, size15_4, List.range, List.range.loop]) | (refine Walk.oq ?_; try walk_nrm) | (refine Walk.un ?_; walk_nrm))
  (refine Walk.oa ?_; try walk_nrm)
  have s1 : (w.alloc (.cells #[.slice none 0 0, .slice none 0 0, .slice none 0 0, .bool false] 27)).heap.size = w.heap.size + 1 := by simp
  have o1 : ∀ b, b < w.heap.size → (w.alloc (.cells #[.slice none 0 0, .slice none 0 0, .slice none 0 0, .bool false] 27)).heap[b]? = w.heap[b]? := fun b hb => heap_new_lt _ _ hb
  have d1 := heap_alloc_new w (.cells #[.slice none 0 0, .slice none 0 0, .slice none 0 0, .bool false] 27)
  generalize hN : w.heap.size = T0 at *
  generalize w.alloc (.cells #[.slice none 0 0, .slice none 0 0, .slice none 0 0, .bool false] 27) = w1 at *
  repeat (first | refine Walk.c rfl ?_ | refine Walk.cRet ?_ | refine Walk.cEnd ?_ | (refine Walk.cReg ?_; simp only [size15_0, size15_1, size15_2, size15_3, size15_4, List.range, List.range.loop]) | (refine Walk.oq ?_; try walk_nrm) | (refine Walk.un ?_; walk_nrm))
  refine Walk.callW (Post := fun v w' => v = .pointer (some ⟨w1.heap.size + 1, 0, none⟩) ∧ SkI (w1.heap.size + 1) w1.heap.size (sizeN sz) tg (sk0 (sizeN sz)) w' ∧ (∀ b, b < w1.heap.size → w'.heap[b]? = w1.heap[b]?) ∧ w'.heap.size = w1.heap.size + 2) ?_ (ho_of (by conv => lhs; whnf) (by kernel_rfl)) (by rfl) (by decide) rfl Try.func17 (by kernel_rfl) (by rfl) ?_
  · walk_nrm
    exact new_w sz tg w1 hA
  rintro v w2 ⟨rfl, hI, hO, hS⟩
  rw [s1] at hI hO hS ⊢
  generalize hn : sizeN sz = n at *
  walk_nrm
  repeat (first | refine Walk.c rfl ?_ | refine Walk.cRet ?_ | refine Walk.cEnd ?_ | (refine Walk.cReg ?_; simp only [size15_0, size15_1, size15_2, size15_3, size15_4, List.range, List.range.loop]) | (refine Walk.oq ?_; try walk_nrm) | (refine Walk.un ?_; walk_nrm))
  refine Walk.callE (ho_of (by conv => lhs; whnf) (by kernel_rfl)) (by rfl) (by decide) rfl Try.func32 (by kernel_rfl) (by rfl) ?_
  walk_nrm
  refine .stop fun d => ⟨_, rfl, hI.old fun _ _ => rfl, fun b hb => (hO b (by omega)).trans (o1 b (by omega)), hS, (hO T0 (by omega)).trans d1, ?_⟩
  intro A na oo ol ok stuck s w4 hne hn6 I4 hT hl hlen
  refine Walk.finish (ho_of (by conv => lhs; whnf) (by kernel_rfl)) ?_
  walk_nrm
  (refine Walk.oa ?_; try walk_nrm)
  have d5 := heap_alloc_new w4 (.cells #[.slice none 0 0, .slice none 0 0, .slice none 0 0, .bool false] 27)
  have s5 : (w4.alloc (.cells #[.slice none 0 0, .slice none 0 0, .slice none 0 0, .bool false] 27)).heap.size = w4.heap.size + 1 := by simp
  have o5 : ∀ b, b < w4.heap.size → (w4.alloc (.cells #[.slice none 0 0, .slice none 0 0, .slice none 0 0, .bool false] 27)).heap[b]? = w4.heap[b]? := fun b hb => heap_new_lt _ _ hb
  have hT0 : T0 < w4.heap.size := (Array.getElem?_eq_some_iff.1 hT).1
  generalize hT1 : w4.heap.size = T1 at *
  generalize w4.alloc (.cells #[.slice none 0 0, .slice none 0 0, .slice none 0 0, .bool false] 27) = w5 at *
  refine Walk.storeS 27 (.tmp 12) (.tmp 21) (ho_of (by conv => lhs; whnf) (by kernel_rfl)) (by rfl) (by decide) rfl T1 #[.slice (some ⟨A, 0, none⟩) na na, .slice oo ol ok, .slice none 0 0, .bool stuck] _ 27 rfl rfl d5 (by kernel_rfl) (by rfl) (by simp [Value.oneCell']) (hA _) ?_
  have d6 := setRow_self (cells := #[.slice (some ⟨A, 0, none⟩) na na, .slice oo ol ok, .slice none 0 0, .bool stuck]) d5
  have o6 : ∀ b, b < T1 → (w5.setRow T1 #[.slice (some ⟨A, 0, none⟩) na na, .slice oo ol ok, .slice none 0 0, .bool stuck]).heap[b]? = w4.heap[b]? := fun b hb => (setRow_other _ _ (by omega)).trans (o5 b (by omega))
  have s6 := setRow_size w5 T1 #[.slice (some ⟨A, 0, none⟩) na na, .slice oo ol ok, .slice none 0 0, .bool stuck]
  rw [s5] at s6
  generalize w5.setRow T1 #[.slice (some ⟨A, 0, none⟩) na na, .slice oo ol ok, .slice none 0 0, .bool stuck] = w6 at *
  have I6 : SkI (T0 + 1 + 1) (T0 + 1) n tg s w6 := I4.old fun b hb => o6 b (by omega)
  walk_nrm
  repeat (first | refine Walk.c rfl ?_ | refine Walk.cRet ?_ | refine Walk.cEnd ?_ | (refine Walk.cReg ?_; simp only [size15_0, size15_1, size15_2, size15_3, size15_4, List.range, List.range.loop]) | (refine Walk.oq ?_; try walk_nrm) | (refine Walk.un ?_; walk_nrm))
  refine Walk.callW (Post := ValOut w6 (stateX n s)) ?_ (ho_of (by conv => lhs; whnf) (by kernel_rfl)) (by rfl) (by decide) rfl Try.func34 (by kernel_rfl) (by rfl) ?_
  · walk_nrm
    exact state_w hne s w6 I6 hn6 hA hl hlen
  rintro v w7 ⟨ta, tc, rfl, H⟩
  generalize hst : stateX n s = st at *
  have d7 := (H.old T1 (by omega)).trans d6
  have c7 := (cell_of d7 2).trans rfl
  have z7 := frozen_of d7 2
  have hs7 := H.size
  walk_nrm
  repeat (first | (refine Walk.oq ?_; try walk_nrm) | (refine Walk.un ?_; walk_nrm))
  (have hfr := (hA T1).1 ⟨T1, 2, none⟩ rfl; refine Walk.os hfr c7 ?_; clear hfr; try walk_nrm)
  have d8 : (w7.setCell ⟨T1, 2, none⟩ (.slice ta st.length tc)).heap[T1]? = some (.cells #[.slice (some ⟨A, 0, none⟩) na na, .slice oo ol ok, .slice ta st.length tc, .bool stuck] 27) := by
    rw [heap_set_self _ _ d7]
    simp
  have o8 : ∀ b, b ≠ T1 → (w7.setCell ⟨T1, 2, none⟩ (.slice ta st.length tc)).heap[b]? = w7.heap[b]? := fun b hb => heap_set_other _ _ _ _ hb
  have s8 := size_set w7 ⟨T1, 2, none⟩ (.slice ta st.length tc)
  clear c7 z7
  generalize w7.setCell ⟨T1, 2, none⟩ (.slice ta st.length tc) = w8 at *
  repeat (first | refine Walk.c rfl ?_ | refine Walk.cRet ?_ | refine Walk.cEnd ?_ | (refine Walk.cReg ?_; simp only [size15_0, size15_1, size15_2, size15_3, size15_4, List.range, List.range.loop]) | (refine Walk.oq ?_; try walk_nrm) | (refine Walk.un ?_; walk_nrm))
  refine Walk.loadS 27 (.tmp 12) (ho_of (by conv => lhs; whnf) (by kernel_rfl)) (by rfl) (by decide) rfl T1 0 [.slice (some ⟨A, 0, none⟩) na na, .slice oo ol ok, .slice ta st.length tc, .bool stuck] (.struct fsT) rfl (fun j v hj => ?_) huT rfl (by kernel_rfl) ?_
  · rw [Nat.zero_add, cell_of d8]
    simpa using hj
  have dT : w8.heap[T0]? = some (.cells #[.slice none 0 0, .slice none 0 0, .slice none 0 0, .bool false] 27) := (o8 T0 (by omega)).trans ((H.old T0 (by omega)).trans ((o6 T0 (by omega)).trans hT))
  walk_nrm
  refine Walk.storeS 27 (.tmp 10) (.tmp 25) (ho_of (by conv => lhs; whnf) (by kernel_rfl)) (by rfl) (by decide) rfl T0 #[.slice (some ⟨A, 0, none⟩) na na, .slice oo ol ok, .slice ta st.length tc, .bool stuck] _ 27 rfl rfl dT (by kernel_rfl) (by rfl) (by simp [Value.oneCell']) (hA _) ?_
  have d9 := setRow_self (cells := #[.slice (some ⟨A, 0, none⟩) na na, .slice oo ol ok, .slice ta st.length tc, .bool stuck]) dT
  walk_nrm
  repeat (first | refine Walk.c rfl ?_ | refine Walk.cRet ?_ | refine Walk.cEnd ?_ | (refine Walk.cReg ?_; simp only [size15_0, size15_1, size15_2, size15_3, size15_4, List.range, List.range.loop]) | (refine Walk.oq ?_; try walk_nrm) | (refine Walk.un ?_; walk_nrm))
  refine Walk.onCell (T := T0) rfl rfl rfl Try.func15 rfl (by rfl) d9 (by kernel_rfl) (by kernel_rfl) (.stop fun d => ⟨ta, tc, rfl, ?_, fun b hb hbT => ?_, ?_⟩)
  · have hr := row_raise (base' := T1) H.row fun b hb => by have := (H.row.lt b hb).1; omega
    refine row_same hr fun b hb => ?_
    have := (H.row.lt b hb).1
    exact (setRow_other _ _ (by omega)).trans (o8 b (by omega))
  · exact (setRow_other _ _ hbT).trans ((o8 b (by omega)).trans ((H.old b (by omega)).trans (o6 b hb)))
  · show T1 ≤ (w8.setRow _ _).heap.size
    rw [setRow_size]
    omega
structure SPOut (sz : Int) (tg : Bool) (ops : Nat → List OpV) (n : Nat) (most : Int) (sl : List Int) (w w' : World) (cells : Array Value) : Prop where
  all : ∃ (kb nb A : Nat) (oo : Option Addr) (ok : Nat) (hd : Nat → Value) (arr : Array Value) (ta : Option Addr) (tc : Nat),
    cells = #[.slice (some ⟨A, 0, none⟩) n n, .slice oo (playO (skLa kb nb (sizeN sz) tg) (sk0 (sizeN sz)) ops n most sl).2.length ok, .slice ta (stateX (sizeN sz) (playO (skLa kb nb (sizeN sz) tg) (sk0 (sizeN sz)) ops n most sl).1.s).length tc, .bool (stuckO n (playO (skLa kb nb (sizeN sz) tg) (sk0 (sizeN sz)) ops n most sl).1)] ∧
    w'.ownsRow w.heap.size 3 1 (.slice oo (playO (skLa kb nb (sizeN sz) tg) (sk0 (sizeN sz)) ops n most sl).2.length ok) (playO (skLa kb nb (sizeN sz) tg) (sk0 (sizeN sz)) ops n most sl).2.length ((playO (skLa kb nb (sizeN sz) tg) (sk0 (sizeN sz)) ops n most sl).2.map fun i => .int .i64 (i : Nat)) ∧
    w'.ownsRow w.heap.size 2 1 (.slice ta (stateX (sizeN sz) (playO (skLa kb nb (sizeN sz) tg) (sk0 (sizeN sz)) ops n most sl).1.s).length tc) (stateX (sizeN sz) (playO (skLa kb nb (sizeN sz) tg) (sk0 (sizeN sz)) ops n most sl).1.s).length (intRow (stateX (sizeN sz) (playO (skLa kb nb (sizeN sz) tg) (sk0 (sizeN sz)) ops n most sl).1.s)) ∧
    w.heap.size ≤ A ∧ w'.heap[A]? = some (.cells arr 29) ∧ (∀ i, i < n → arr[i]? = some (hd i)) ∧
    (∀ i, i < n → ∃ ta tc, hd i = .slice ta (((playO (skLa kb nb (sizeN sz) tg) (sk0 (sizeN sz)) ops n most sl).1.th i).ans).length tc ∧ w'.ownsRow w.heap.size 32 3 (hd i) (((playO (skLa kb nb (sizeN sz) tg) (sk0 (sizeN sz)) ops n most sl).1.th i).ans).length (ansRow (((playO (skLa kb nb (sizeN sz) tg) (sk0 (sizeN sz)) ops n most sl).1.th i).ans)))
  old : ∀ b, b < w.heap.size → w'.heap[b]? = w.heap[b]?
  size : w.heap.size ≤ w'.heap.size
theorem OpsIn.old {tb toff n : Nat} {oa : Nat → Option Addr} {ln oc : Nat → Nat} {ops : Nat → List OpV} {w w' : World} (I : OpsIn tb toff n oa ln oc ops w) (h : ∀ b, b < w.heap.size → w'.heap[b]? = w.heap[b]?) : OpsIn tb toff n oa ln oc ops w' := by
  have hc : ∀ {b j : Nat} {v : Value}, w.cell? ⟨b, j, none⟩ = some v → w'.cell? ⟨b, j, none⟩ = some v := fun {b j v} e => (World.cell?_of_block (a := ⟨b, j, none⟩) (h b (cell_lt' e))).trans e
  exact ⟨fun i hi => hc (I.hd i hi), I.cap, I.ad, I.len, fun i hi j o ho => by
    obtain ⟨b, off, e, c0, c1, c2, c3⟩ := I.ops i hi j o ho
    exact ⟨b, off, e, hc c0, hc c1, hc c2, hc c3⟩⟩
theorem splay_run (sz : Int) (tg : Bool) (tv : Value) (most : Int) (tb toff tc n : Nat) (hn1 : 1 ≤ n) (hn : n ≤ 64) (oa : Nat → Option Addr) (ln oc : Nat → Nat) (ops : Nat → List OpV) (sa : Option Addr) (sc : Nat) (sl : List Int) (hsl : sl.length ≤ 17592186044416) (c : Frame) (cs : List Frame) (w : World)
    (I : OpsIn tb toff n oa ln oc ops w)
    (hsc : ∀ (j : Nat) (z : Int), sl[j]? = some z → ∃ s so, sa = some ⟨s, so, none⟩ ∧ w.cell? ⟨s, so + j, none⟩ = some (.int .i64 z))
    (hp : ∀ w' : World, (∀ b, b < w.heap.size → w'.heap[b]? = w.heap[b]?) → CallV Try.prog true (fun _ => none) 67 #[tv] w' (.slice (some ⟨tb, toff, none⟩) n tc) w')
    (hv : ∀ kb nb, valsX (playO (skLa kb nb (sizeN sz) tg) (sk0 (sizeN sz)) ops n most sl).1.s (sizeN sz) (nodeX (Sk.hd (playO (skLa kb nb (sizeN sz) tg) (sk0 (sizeN sz)) ops n most sl).1.s)) ≠ [] ∧ (valsX (playO (skLa kb nb (sizeN sz) tg) (sk0 (sizeN sz)) ops n most sl).1.s (sizeN sz) (nodeX (Sk.hd (playO (skLa kb nb (sizeN sz) tg) (sk0 (sizeN sz)) ops n most sl).1.s))).length ≤ 65536) :
    Runs (fun g w' => ∃ cells, SPOut sz tg ops n most sl w w' cells ∧ g = G (c.finish (.agg cells)) cs) (G (Frame.enter Try.prog 15 #[.int .i64 sz, .bool tg, tv, .slice sa sl.length sc, .int .i64 most] .normal) (c :: cs)) w := by
  obtain ⟨q1, q2, q3⟩ := sizeN_le sz
  refine Runs.walk (splay_in sz tg tv (.slice sa sl.length sc) most c cs w) ?_
  rintro _ w1 ⟨fr, rfl, hI, hO, hS, hT, hB⟩
  have hc1 : ∀ {b j : Nat} {v : Value}, w.cell? ⟨b, j, none⟩ = some v → w1.cell? ⟨b, j, none⟩ = some v := fun {b j v} e => (World.cell?_of_block (a := ⟨b, j, none⟩) (hO b (cell_lt' e))).trans e
  have hsh : ∀ b, b < w.heap.size → ¬ (b = w.heap.size + 2 ∨ b = w.heap.size + 1) := fun b hb h => by omega
  have I1 : OpsIn tb toff n oa ln oc ops w1 := I.old hO
  refine Runs.then (ops_run (L := skLa (w.heap.size + 2) (w.heap.size + 1) (sizeN sz) tg) (do_ok (by omega) q2) (sk0 (sizeN sz)) tv most tb toff tc n hn1 hn oa ln oc ops sa sc sl hsl fr (c :: cs) w1 I1 hI (fun i hi j o ho b off e => ?_) (fun j z hz => ?_) (fun w' hw' => hp w' fun b hb => (hw' b (by omega)).trans (hO b hb))) ?_
  · obtain ⟨b', off', e', c0, _⟩ := I.ops i hi j o ho
    rw [e] at e'
    injection e' with e'
    injection e' with e' _
    subst e'
    exact hsh b (cell_lt' c0)
  · obtain ⟨s, so, e, hc⟩ := hsc j z hz
    exact ⟨s, so, e, hc1 hc, hsh s (cell_lt' hc)⟩
  · rintro _ w4 ⟨cells, H, rfl⟩
    obtain ⟨A, oo, ok, hd, arr, rfl, hrow, hAl, hAr, hAi, hans⟩ := H.all
    obtain ⟨hv1, hv2⟩ := hv (w.heap.size + 2) (w.heap.size + 1)
    have hIf := H.I
    have hold := H.old
    have hsz := H.size
    have hT4 : w4.heap[w.heap.size]? = some (.cells #[.slice none 0 0, .slice none 0 0, .slice none 0 0, .bool false] 27) := (hold _ (by omega) (fun h => by rcases h with h | h <;> omega)).trans hT
    refine Runs.walk (hB A n oo _ ok _ _ w4 (by omega) q2 hIf hT4 hv1 hv2) ?_
    rintro _ w5 ⟨ta, tc', rfl, hst, hold5, hsz5⟩
    refine .now ⟨_, ⟨⟨w.heap.size + 2, w.heap.size + 1, A, oo, ok, hd, arr, ta, tc', rfl, ?_, ?_, by omega, (hold5 A (Array.getElem?_eq_some_iff.1 hAr).1 (by omega)).trans hAr, hAi, fun i hi => ?_⟩, fun b hb => ?_, by omega⟩, rfl⟩
    · refine row_same (row_raise hrow fun b hb => ?_) fun b hb => hold5 b (hrow.lt b hb).2 ?_
      · have := (hrow.lt b hb).1; omega
      · have := (hrow.lt b hb).1; omega
    · refine row_raise hst fun b hb => ?_
      have := (hst.lt b hb).1; omega
    · obtain ⟨ta', tc'', e, hr⟩ := hans i hi
      refine ⟨ta', tc'', e, row_same (row_raise hr fun b hb => ?_) fun b hb => hold5 b (hr.lt b hb).2 ?_⟩
      · have := (hr.lt b hb).1; omega
      · have := (hr.lt b hb).1; omega
    · exact (hold5 b (by omega) (by omega)).trans ((hold b (by omega) (hsh b hb)).trans (hO b hb))
def clOps : Nat → List OpV := fun i => ([[⟨2, 0, 0, 0⟩], [⟨1, 8, 0, 0⟩, ⟨1, 7, 0, 0⟩, ⟨2, 0, 0, 0⟩, ⟨2, 0, 0, 0⟩, ⟨1, 4, 0, 0⟩], [⟨1, 9, 0, 0⟩]] : List (List OpV)).getD i []
def clSl : List Int := List.replicate 14 1 ++ List.replicate 2 0 ++ List.replicate 14 1 ++ List.replicate 3 2 ++ List.replicate 7 1 ++ List.replicate 5 0 ++ List.replicate 4 2
def clPlay (kb nb : Nat) (tg : Bool) : OX (skLa kb nb 2 tg) × List Nat := playO (skLa kb nb 2 tg) (sk0 2) clOps 3 200 clSl
theorem cl_true (kb nb : Nat) : (stateX 2 (clPlay kb nb true).1.s, valsX (clPlay kb nb true).1.s 2 (nodeX (Sk.hd (clPlay kb nb true).1.s)), stuckO 3 (clPlay kb nb true).1, ((clPlay kb nb true).1.th 0).ans) = ([0, 7, 1, 7, 9], [9], false, [(true, 4)]) := by kernel_rfl
theorem cl_false (kb nb : Nat) : (stateX 2 (clPlay kb nb false).1.s, valsX (clPlay kb nb false).1.s 2 (nodeX (Sk.hd (clPlay kb nb false).1.s)), stuckO 3 (clPlay kb nb false).1, ((clPlay kb nb false).1.th 0).ans) = ([0, 0, 1, 0, 9, 9], [9, 9], false, [(true, 4)]) := by kernel_rfl
theorem clSl_len : clSl.length = 49 := by decide
theorem sizeN2 : sizeN 2 = 2 := by decide
section
structure MI (w0 w : World) (pre : List Int) (ta : Option Addr) (tc : Nat) : Prop where
  row : w.ownsRow w0.heap.size 3 1 (.slice ta pre.length tc) pre.length (intRow pre)
  old : ∀ b, b < w0.heap.size → w.heap[b]? = w0.heap[b]?
  size : w0.heap.size ≤ w.heap.size
theorem row_cells {w : World} {base : Nat} {e : TypeId} {l : List Int} {ta : Option Addr} {tc : Nat} (h : w.ownsRow base e 1 (.slice ta l.length tc) l.length (intRow l)) (hl : l ≠ []) : ∃ g, ta = some ⟨g, 0, none⟩ ∧ base ≤ g ∧ ∀ (j : Nat) (x : Value), (intRow l)[j]? = some x → w.cell? ⟨g, j, none⟩ = some x := by
  rcases h.2 with ⟨_, e⟩ | ⟨g, cap, cur, e, hb, hh, hc, _, hs, ht⟩
  · exact absurd (List.length_eq_zero_iff.1 e) hl
  · injection e with e1 _ _
    refine ⟨g, e1, hb, fun j x hx => ?_⟩
    refine (cell_of hh j).trans ?_
    rw [← ht, List.getElem?_take] at hx
    split at hx
    · simpa using hx
    · cases hx
noncomputable def reg30_0 : Array Oper := match Try.f30.body with | some (.seq (.region _ ops _) _) => ops | _ => #[]
theorem size30_0 : reg30_0.size = 1 := by kernel_rfl
noncomputable def reg30_1 : Array Oper := match Try.f30.body with | some (.seq _ (.seq (.seq (.region _ ops _) _) _)) => ops | _ => #[]
theorem size30_1 : reg30_1.size = 2 := by kernel_rfl
noncomputable def reg30_2 : Array Oper := match Try.f30.body with | some (.seq _ (.seq (.seq _ (.block _ (.loop (.seq (.region _ ops _) _)))) _)) => ops | _ => #[]
theorem size30_2 : reg30_2.size = 1 := by kernel_rfl
noncomputable def reg30_3 : Array Oper := match Try.f30.body with | some (.seq _ (.seq (.seq _ (.block _ (.loop (.seq _ (.seq _ (.seq (.block _ (.region _ ops _)) _)))))) _)) => ops | _ => #[]
theorem size30_3 : reg30_3.size = 5 := by kernel_rfl
noncomputable def reg30_4 : Array Oper := match Try.f30.body with | some (.seq _ (.seq (.seq _ (.block _ (.loop (.seq _ (.seq _ (.seq _ (.region _ ops _))))))) _)) => ops | _ => #[]
theorem size30_4 : reg30_4.size = 2 := by kernel_rfl
noncomputable def reg30_5 : Array Oper := match Try.f30.body with | some (.seq _ (.seq _ (.seq (.region _ ops _) _))) => ops | _ => #[]
theorem size30_5 : reg30_5.size = 2 := by kernel_rfl
theorem code30_is : Try.f30.body = some (.seq (.region 0 reg30_0 false) (.seq (.seq (.region 1 reg30_1 false) (.block 0 (.loop (.seq (.region 2 reg30_2 false) (.seq (.cond (.tmp 9 ) (.skip) (.exit 0)) (.seq (.block 1 (.region 3 reg30_3 false)) (.region 4 reg30_4 false))))))) (.seq (.region 5 reg30_5 false) (.ret)))) := by kernel_rfl
noncomputable def hdMany (lv : Value) (t : Int) (n i : Nat) (u : Nat → Value) : Frame :=
  (base 30).at { tmps := #[lv, .int .i64 t, u 2, u 3, u 4, u 5, u 6, .int .i64 n, .int .i64 i, u 9, u 10, u 11, u 12, u 13, u 14, u 15], defers := [] } [.code (.seq (.region 2 reg30_2 false) (.seq (.cond (.tmp 9 ) (.skip) (.exit 0)) (.seq (.block 1 (.region 3 reg30_3 false)) (.region 4 reg30_4 false)))), .inLoop (.seq (.region 2 reg30_2 false) (.seq (.cond (.tmp 9 ) (.skip) (.exit 0)) (.seq (.block 1 (.region 3 reg30_3 false)) (.region 4 reg30_4 false)))), .inBlock 0, .code (.seq (.region 5 reg30_5 false) (.ret))]
noncomputable def reg13_0 : Array Oper := match Try.f13.body with | some (.seq (.region _ ops _) _) => ops | _ => #[]
theorem size13_0 : reg13_0.size = 1 := by kernel_rfl
noncomputable def reg13_1 : Array Oper := match Try.f13.body with | some (.seq _ (.seq (.seq (.region _ ops _) _) _)) => ops | _ => #[]
theorem size13_1 : reg13_1.size = 5 := by kernel_rfl
noncomputable def reg13_2 : Array Oper := match Try.f13.body with | some (.seq _ (.seq (.seq _ (.cond _ (.seq (.region _ ops _) _) _)) _)) => ops | _ => #[]
theorem size13_2 : reg13_2.size = 1 := by kernel_rfl
noncomputable def reg13_3 : Array Oper := match Try.f13.body with | some (.seq _ (.seq _ (.seq (.seq (.region _ ops _) _) _))) => ops | _ => #[]
theorem size13_3 : reg13_3.size = 1 := by kernel_rfl
noncomputable def reg13_4 : Array Oper := match Try.f13.body with | some (.seq _ (.seq _ (.seq (.seq _ (.block _ (.loop (.seq (.seq (.region _ ops _) _) _)))) _))) => ops | _ => #[]
theorem size13_4 : reg13_4.size = 4 := by kernel_rfl
noncomputable def reg13_6 : Array Oper := match Try.f13.body with | some (.seq _ (.seq _ (.seq (.seq _ (.block _ (.loop (.seq _ (.seq (.block _ (.seq (.region _ ops _) _)) _))))) _))) => ops | _ => #[]
theorem size13_6 : reg13_6.size = 9 := by kernel_rfl
noncomputable def reg13_7 : Array Oper := match Try.f13.body with | some (.seq _ (.seq _ (.seq (.seq _ (.block _ (.loop (.seq _ (.seq (.block _ (.seq _ (.cond _ (.seq (.region _ ops _) _) _))) _))))) _))) => ops | _ => #[]
theorem size13_7 : reg13_7.size = 1 := by kernel_rfl
noncomputable def reg13_5 : Array Oper := match Try.f13.body with | some (.seq _ (.seq _ (.seq (.seq _ (.block _ (.loop (.seq _ (.seq _ (.region _ ops _)))))) _))) => ops | _ => #[]
theorem size13_5 : reg13_5.size = 3 := by kernel_rfl
noncomputable def reg13_8 : Array Oper := match Try.f13.body with | some (.seq _ (.seq _ (.seq _ (.seq (.region _ ops _) _)))) => ops | _ => #[]
theorem size13_8 : reg13_8.size = 1 := by kernel_rfl
theorem code13_is : Try.f13.body = some (.seq (.region 0 reg13_0 false) (.seq (.seq (.region 1 reg13_1 false) (.cond (.tmp 10 ) (.seq (.region 2 reg13_2 false) (.ret)) (.skip))) (.seq (.seq (.region 3 reg13_3 false) (.block 0 (.loop (.seq (.seq (.region 4 reg13_4 false) (.cond (.tmp 14 ) (.skip) (.exit 0))) (.seq (.block 1 (.seq (.region 6 reg13_6 true) (.cond (.tmp 25 ) (.seq (.region 7 reg13_7 false) (.ret)) (.skip)))) (.region 5 reg13_5 false)))))) (.seq (.region 8 reg13_8 false) (.ret))))) := by kernel_rfl
noncomputable def hdSame (av bv : Value) (i : Nat) (u : Nat → Value) : Frame :=
  (base 13).at { tmps := #[av, bv, u 2, u 3, u 4, .int .i64 i, u 6, u 7, u 8, u 9, u 10, u 11, u 12, u 13, u 14, u 15, u 16, u 17, u 18, u 19, u 20, u 21, u 22, u 23, u 24, u 25], defers := [] } [.code (.seq (.seq (.region 4 reg13_4 false) (.cond (.tmp 14 ) (.skip) (.exit 0))) (.seq (.block 1 (.seq (.region 6 reg13_6 true) (.cond (.tmp 25 ) (.seq (.region 7 reg13_7 false) (.ret)) (.skip)))) (.region 5 reg13_5 false))), .inLoop (.seq (.seq (.region 4 reg13_4 false) (.cond (.tmp 14 ) (.skip) (.exit 0))) (.seq (.block 1 (.seq (.region 6 reg13_6 true) (.cond (.tmp 25 ) (.seq (.region 7 reg13_7 false) (.ret)) (.skip)))) (.region 5 reg13_5 false))), .inBlock 0, .code (.seq (.region 8 reg13_8 false) (.ret))]
noncomputable def reg21_0 : Array Oper := match Try.f21.body with | some (.seq (.region _ ops _) _) => ops | _ => #[]
theorem size21_0 : reg21_0.size = 1 := by kernel_rfl
noncomputable def reg21_1 : Array Oper := match Try.f21.body with | some (.seq _ (.seq (.seq (.region _ ops _) _) _)) => ops | _ => #[]
theorem size21_1 : reg21_1.size = 2 := by kernel_rfl
noncomputable def reg21_2 : Array Oper := match Try.f21.body with | some (.seq _ (.seq (.seq _ (.cond _ (.seq (.region _ ops _) _) _)) _)) => ops | _ => #[]
theorem size21_2 : reg21_2.size = 1 := by kernel_rfl
noncomputable def reg21_3 : Array Oper := match Try.f21.body with | some (.seq _ (.seq _ (.seq (.region _ ops _) _))) => ops | _ => #[]
theorem size21_3 : reg21_3.size = 6 := by kernel_rfl
theorem code21_is : Try.f21.body = some (.seq (.region 0 reg21_0 false) (.seq (.seq (.region 1 reg21_1 false) (.cond (.tmp 4 ) (.seq (.region 2 reg21_2 false) (.ret)) (.skip))) (.seq (.region 3 reg21_3 false) (.ret)))) := by kernel_rfl
section
variable {main : Bool} {V : Nat → Option Wait}
theorem many_round (t : Int) (n i : Nat) (pre : List Int) (ta : Option Addr) (tc : Nat) (w0 w : World) (hi : i < n) (hn : n ≤ 65536) (hp : pre.length ≤ 65536) (H : MI w0 w pre ta tc) (hA : ∀ b, Apart V b) (u : Nat → Value) (cs : List Frame) :
    Walk Try.prog main (DR V) (fun g w' => ∃ ta' tc', (∃ u, g = G (hdMany (.slice ta' (pre ++ [t]).length tc') t n (i + 1) u) cs) ∧ MI w0 w' (pre ++ [t]) ta' tc') (G (hdMany (.slice ta pre.length tc) t n i u) cs) w := by
  have hi2 := Option.some_get (show (Try.prog.info? 3).isSome = true by kernel_rfl)
  have hi0 : (0 : Int) ≤ i := by omega
  have hi1 : decide ((i : Int) < n) = true := by simp; omega
  have hi3 : decide (i < n) = true := by simp; omega
  have hw1 : IntKind.wrap .i64 ((i : Int) + 1) = (i : Int) + 1 := by rw [IntKind.wrap_i64]; omega
  unfold hdMany
  repeat (first | refine Walk.c rfl ?_ | refine Walk.cRet ?_ | refine Walk.cEnd ?_ | (refine Walk.cReg ?_; simp only [size30_0, size30_1, size30_2, size30_3, size30_4, size30_5, List.range, List.range.loop]) | (refine Walk.oq ?_; try walk_nrm) | (refine Walk.un ?_; walk_nrm))
  (refine Walk.oa ?_; try walk_nrm)
  have hs1 : (w.alloc (.cells #[.int .i64 t] 3)).heap.size = w.heap.size + 1 := by simp
  have o1 : ∀ b, b < w.heap.size → (w.alloc (.cells #[.int .i64 t] 3)).heap[b]? = w.heap[b]? := fun b hb => heap_new_lt _ _ hb
  have d1 := heap_alloc_new w (.cells #[.int .i64 t] 3)
  have hrow : (w.alloc (.cells #[.int .i64 t] 3)).ownsRow w0.heap.size 3 1 (.slice ta pre.length tc) pre.length (intRow pre) := row_same H.row fun b hb => o1 b (H.row.lt b hb).2
  have hnews : ∀ (q : Nat) (x : Value), ([.int .i64 t] : List Value)[q]? = some x → (w.alloc (.cells #[.int .i64 t] 3)).cell? ((⟨w.heap.size, 0, none⟩ : Addr).add q) = some x := fun q x hx => by
    rw [add_none, Nat.zero_add]
    refine (cell_of d1 q).trans ?_
    simpa using hx
  have hHs := H.size
  refine Walk.append (.tmp 10) (.tmp 12) 24 (ho_of (by conv => lhs; whnf) (by kernel_rfl)) (by rfl) (by decide) rfl w0.heap.size 3 _ (.int .i64 0) 1 8 (by kernel_rfl) hi2.symm (by rfl) (by rfl) (by rfl) (by rfl) (by decide) (.slice ta pre.length tc) pre.length (intRow pre) rfl hrow ⟨w.heap.size, 0, none⟩ 1 1 [.int .i64 t] rfl (by rfl) hnews (by simp [Value.oneCell']) (by decide) (by simp [maxLen]; omega) (by omega) (by omega) (fun b _ => hA b) (fun g gcap w3 hown3 hgr hat hlt => ?_)
  have hold : ∀ b, b < w0.heap.size → w3.heap[b]? = w0.heap[b]? := fun b hb => (hgr.block b (by omega) (fun he => by have := (H.row.lt b he.symm).1; omega)).trans ((o1 b (by omega)).trans (H.old b hb))
  have hs3 := hgr.size
  have hsz : w0.heap.size ≤ w3.heap.size := by omega
  clear hrow hnews o1 d1
  walk_nrm
  repeat (first | refine Walk.c rfl ?_ | refine Walk.cRet ?_ | refine Walk.cEnd ?_ | (refine Walk.cReg ?_; simp only [size30_0, size30_1, size30_2, size30_3, size30_4, size30_5, List.range, List.range.loop]) | (refine Walk.oq ?_; try walk_nrm) | (refine Walk.un ?_; walk_nrm))
  refine Walk.ctl rfl (fun w => stepG_inLoop) ?_
  refine .stop fun d => ⟨some ⟨g, 0, none⟩, gcap, at_slots ?_, ?_, hold, hsz⟩
  · have hc : ((i + 1 : Nat) : Int) = (i : Int) + 1 := by simp
    rw [List.length_append, List.length_singleton]
    simp only [hdMany, hc]
    rfl
  · have : intRow (pre ++ [t]) = intRow pre ++ [.int .i64 t] := by simp [intRow]
    rw [this, List.length_append, List.length_singleton]
    exact hown3
theorem many_end (lv : Value) (t : Int) (n : Nat) (u : Nat → Value) (c : Frame) (cs : List Frame) (w : World) :
    Walk Try.prog main (DR V) (fun g w' => g = G (c.finish lv) cs ∧ ∃ d, w' = w.at d) (G (hdMany lv t n n u) (c :: cs)) w := by
  unfold hdMany
  repeat (first | refine Walk.c rfl ?_ | refine Walk.cRet ?_ | refine Walk.cEnd ?_ | (refine Walk.cReg ?_; simp only [size30_0, size30_1, size30_2, size30_3, size30_4, size30_5, List.range, List.range.loop]) | (refine Walk.oq ?_; try walk_nrm) | (refine Walk.un ?_; walk_nrm))
  exact Walk.on1 rfl rfl Try.func30 rfl (.stop fun d => ⟨rfl, d, rfl⟩)
theorem many_w (t : Int) (n : Nat) (pre : List Int) (ta : Option Addr) (tc : Nat) (w0 w : World) (hn : n ≤ 1000) (hp : pre.length ≤ 10000) (H : MI w0 w pre ta tc) (hA : ∀ b, Apart V b) :
    CallW Try.prog main V 30 #[.slice ta pre.length tc, .int .i64 t, .int .i64 (n : Nat)] w (fun v w' => ∃ ta' tc', v = .slice ta' (pre ++ List.replicate n t).length tc' ∧ MI w0 w' (pre ++ List.replicate n t) ta' tc') := by
  intro c cs
  have loop : ∀ (r i : Nat) (pre' : List Int) (ta : Option Addr) (tc : Nat) (u : Nat → Value) (w : World), i + r = n → pre' = pre ++ List.replicate i t → MI w0 w pre' ta tc →
      Walk Try.prog main (DR V) (fun g w' => ∃ v, (∃ ta' tc', v = .slice ta' (pre ++ List.replicate n t).length tc' ∧ MI w0 w' (pre ++ List.replicate n t) ta' tc') ∧ g = G (c.finish v) cs) (G (hdMany (.slice ta pre'.length tc) t n i u) (c :: cs)) w := by
    intro r
    induction r with
    | zero =>
      intro i pre' ta tc u w hi he H
      obtain rfl : i = n := hi
      subst he
      refine (many_end _ t i u c cs w).mono ?_
      rintro g w' ⟨rfl, d, rfl⟩
      exact ⟨_, ⟨ta, tc, rfl, H.row, H.old, H.size⟩, rfl⟩
    | succ r ih =>
      intro i pre' ta tc u w hi he H
      refine (many_round t n i pre' ta tc w0 w (by omega) (by omega) (by rw [he]; simp; omega) H hA u (c :: cs)).then ?_
      rintro g w' ⟨ta', tc', ⟨u', rfl⟩, H'⟩
      exact ih (i + 1) (pre' ++ [t]) ta' tc' u' w' (by omega) (by rw [he, List.replicate_succ', List.append_assoc]) H'
  have key := fun u => loop n 0 pre ta tc u w (by omega) (by simp) H
  rw [enter_at _ Try.func30 code30_is]
  simp only [Try.ntmps30, List.size_toArray, List.length_cons, List.length_nil, Nat.reduceAdd, Nat.reduceSub, Array.replicate_succ, Array.replicate_zero, List.push_toArray, List.append_toArray, List.nil_append, List.cons_append]
  repeat (first | refine Walk.c rfl ?_ | refine Walk.cRet ?_ | refine Walk.cEnd ?_ | (refine Walk.cReg ?_; simp only [size30_0, size30_1, size30_2, size30_3, size30_4, size30_5, List.range, List.range.loop]) | (refine Walk.oq ?_; try walk_nrm) | (refine Walk.un ?_; walk_nrm))
  refine Walk.ctl rfl (fun w => stepG_loop) ?_
  refine slots_walk (F := fun u => G (hdMany (.slice ta pre.length tc) t n 0 u) (c :: cs)) key ?_
  simp only [hdMany]
  rfl
theorem same_round (ga gb n ca cb i : Nat) (x : Int) (w : World) (hi : i < n) (hn : n ≤ 65536) (h1 : w.cell? ⟨ga, i, none⟩ = some (.int .i64 x)) (h2 : w.cell? ⟨gb, i, none⟩ = some (.int .i64 x)) (u : Nat → Value) (cs : List Frame) :
    Walk Try.prog main (DR V) (fun g w' => (∃ u, g = G (hdSame (.slice (some ⟨ga, 0, none⟩) n ca) (.slice (some ⟨gb, 0, none⟩) n cb) (i + 1) u) cs) ∧ ∃ d, w' = w.at d) (G (hdSame (.slice (some ⟨ga, 0, none⟩) n ca) (.slice (some ⟨gb, 0, none⟩) n cb) i u) cs) w := by
  have hi0 : (0 : Int) ≤ i := by omega
  have hi1 : decide ((i : Int) < n) = true := by simp; omega
  have hi3 : decide (i < n) = true := by simp; omega
  have hw1 : IntKind.wrap .i64 ((i : Int) + 1) = (i : Int) + 1 := by rw [IntKind.wrap_i64]; omega
  have hx : (x != x) = false := by simp
  unfold hdSame
  repeat (first | refine Walk.c rfl ?_ | refine Walk.cRet ?_ | refine Walk.cEnd ?_ | (refine Walk.cReg ?_; simp only [size13_0, size13_1, size13_2, size13_3, size13_4, size13_6, size13_7, size13_5, size13_8, List.range, List.range.loop]) | (refine Walk.oq ?_; try walk_nrm) | (refine Walk.un ?_; walk_nrm))
  (refine Walk.drawnCW (by kernel_rfl) size13_6 (by kernel_rfl) (by kernel_rfl) (by decide) ?_; simp only [List.range, List.range.loop]; repeat (first | (refine Cm.opqA (ho_of (by conv => lhs; whnf) (by kernel_rfl)) (by rfl) (fun dd e he => ?_) ?_; (· (simp [go_sem, *] at he; try (subst he; exact evR_read _ _))); apply Exists.intro; apply And.intro; (· (intro dd K hK; go_simp; exact hK))) | (refine Cm.unw (ho_of (by conv => lhs; whnf) (by kernel_rfl)) (by rfl) ?_; walk_nrm)))
  refine Cm.done ?_
  try simp only [hx]
  repeat (first | refine Walk.c rfl ?_ | refine Walk.cRet ?_ | refine Walk.cEnd ?_ | (refine Walk.cReg ?_; simp only [size13_0, size13_1, size13_2, size13_3, size13_4, size13_6, size13_7, size13_5, size13_8, List.range, List.range.loop]) | (refine Walk.oq ?_; try walk_nrm) | (refine Walk.un ?_; walk_nrm))
  refine Walk.ctl rfl (fun w => stepG_inLoop) ?_
  refine .stop fun d => ⟨at_slots ?_, d, rfl⟩
  have hc : ((i + 1 : Nat) : Int) = (i : Int) + 1 := by simp
  simp only [hdSame, hc]
  rfl
theorem same_end (av bv : Value) (ga gb n ca cb : Nat) (w : World) (u : Nat → Value) (c : Frame) (cs : List Frame) :
    Walk Try.prog main (DR V) (fun g w' => g = G (c.finish (.bool true)) cs ∧ ∃ d, w' = w.at d) (G (hdSame (.slice (some ⟨ga, 0, none⟩) n ca) (.slice (some ⟨gb, 0, none⟩) n cb) n u) (c :: cs)) w := by
  unfold hdSame
  repeat (first | refine Walk.c rfl ?_ | refine Walk.cRet ?_ | refine Walk.cEnd ?_ | (refine Walk.cReg ?_; simp only [size13_0, size13_1, size13_2, size13_3, size13_4, size13_6, size13_7, size13_5, size13_8, List.range, List.range.loop]) | (refine Walk.oq ?_; try walk_nrm) | (refine Walk.un ?_; walk_nrm))
  exact Walk.on1 rfl rfl Try.func13 rfl (.stop fun d => ⟨rfl, d, rfl⟩)
theorem same_w (l : List Int) (ga gb ca cb : Nat) (w : World) (hl : l.length ≤ 65536) (h1 : ∀ (j : Nat) (x : Value), (intRow l)[j]? = some x → w.cell? ⟨ga, j, none⟩ = some x) (h2 : ∀ (j : Nat) (x : Value), (intRow l)[j]? = some x → w.cell? ⟨gb, j, none⟩ = some x) :
    CallV Try.prog main V 13 #[.slice (some ⟨ga, 0, none⟩) l.length ca, .slice (some ⟨gb, 0, none⟩) l.length cb] w (.bool true) w := by
  intro c cs
  have loop : ∀ (r i : Nat) (u : Nat → Value) (d : Nat), i + r = l.length →
      Walk Try.prog main (DR V) (fun g w' => ∃ v, (v = .bool true ∧ ∃ d, w' = w.at d) ∧ g = G (c.finish v) cs) (G (hdSame (.slice (some ⟨ga, 0, none⟩) l.length ca) (.slice (some ⟨gb, 0, none⟩) l.length cb) i u) (c :: cs)) (w.at d) := by
    intro r
    induction r with
    | zero =>
      intro i u d hi
      obtain rfl : i = l.length := hi
      refine (same_end undef undef ga gb _ ca cb (w.at d) u c cs).mono ?_
      rintro g w' ⟨rfl, d', rfl⟩
      exact ⟨_, ⟨rfl, d', rfl⟩, rfl⟩
    | succ r ih =>
      intro i u d hi
      have hil : i < l.length := by omega
      have hget : (intRow l)[i]? = some (.int .i64 l[i]) := by simp [intRow, List.getElem?_eq_getElem hil]
      refine (same_round ga gb l.length ca cb i l[i] (w.at d) hil hl (h1 i _ hget) (h2 i _ hget) u (c :: cs)).then ?_
      rintro g w' ⟨⟨u', rfl⟩, d', rfl⟩
      exact ih (i + 1) u' d' (by omega)
  have key := fun u => loop l.length 0 u w.drawn (by omega)
  have hbn : ((l.length : Int) != l.length) = false := by simp
  rw [enter_at _ Try.func13 code13_is]
  simp only [Try.ntmps13, List.size_toArray, List.length_cons, List.length_nil, Nat.reduceAdd, Nat.reduceSub, Array.replicate_succ, Array.replicate_zero, List.push_toArray, List.append_toArray, List.nil_append, List.cons_append]
  repeat (first | refine Walk.c rfl ?_ | refine Walk.cRet ?_ | refine Walk.cEnd ?_ | (refine Walk.cReg ?_; simp only [size13_0, size13_1, size13_2, size13_3, size13_4, size13_6, size13_7, size13_5, size13_8, List.range, List.range.loop]) | (refine Walk.oq ?_; try walk_nrm) | (refine Walk.un ?_; walk_nrm))
  refine Walk.ctl rfl (fun w => stepG_loop) ?_
  refine slots_walk (F := fun u => G (hdSame (.slice (some ⟨ga, 0, none⟩) l.length ca) (.slice (some ⟨gb, 0, none⟩) l.length cb) 0 u) (c :: cs)) key ?_
  simp only [hdSame]
  rfl
theorem size_w (kb nb n : Nat) (tg : Bool) (s : Sk) (w : World) (I : SkI kb nb n tg s w) : CallV Try.prog main V 21 #[.pointer (some ⟨kb, 0, none⟩)] w (.int .i64 n) w := by
  have hp1 := fun w => run_eql_ptr (P := Try.prog) 38 (by kernel_rfl : Try.prog.underlying 38 = some (.pointer 70)) (some ⟨kb, 0, none⟩) w
  have hp2 := fun w es => ev_eql_ptr (P := Try.prog) 38 (by kernel_rfl : Try.prog.underlying 38 = some (.pointer 70)) (some ⟨kb, 0, none⟩) w es
  simp only [Option.isNone_some] at hp1
  have hsl := sk_nodes I
  refine callW_in Try.func21 code21_is fun fr cs => ?_
  simp only [Try.ntmps21, List.size_toArray, List.length_cons, List.length_nil, Nat.reduceAdd, Nat.reduceSub, Array.replicate_succ, Array.replicate_zero, List.push_toArray, List.append_toArray, List.nil_append, List.cons_append]
  repeat (first | refine Walk.c rfl ?_ | refine Walk.cRet ?_ | refine Walk.cEnd ?_ | (refine Walk.cReg ?_; simp only [size21_0, size21_1, size21_2, size21_3, List.range, List.range.loop]) | (refine Walk.oq ?_; try walk_nrm) | (refine Walk.un ?_; walk_nrm))
  exact Walk.ret1 rfl rfl Try.func21 rfl fun d => ⟨rfl, d, rfl⟩
end
end
end Go.Proofs.Ytmfkjceeeffamaa
