/- Part 2. -/
import Derived.Test.YtgfajibjedfkdaaJN1
set_option linter.unusedSimpArgs false
set_option linter.unusedVariables false
set_option maxHeartbeats 8000000
set_option maxRecDepth 100000
namespace Go.Proofs.Ytgfajibjedfkdaa
open Go.Conc Go.RowKit Go.Relay
open Go.ConcN (upd upd_ne upd_same)
section
def runG : Nat → Gt × (Ans ⊕ GD) → Option (Gt × Ans)
  | _, (s, .inl a) => some (s, a)
  | 0, (_, .inr _) => none
  | n + 1, (s, .inr d) => runG n (gtAct s d)
theorem runN_G (gb : Nat) : ∀ (N : Nat) (p : Gt × (Ans ⊕ GD)), runN (gtLa gb) N p = runG N p
  | 0, (_, .inl _) => rfl
  | 0, (_, .inr _) => rfl
  | _ + 1, (_, .inl _) => rfl
  | n + 1, (s, .inr d) => runN_G gb n (gtAct s d)
section
theorem ends_in (s : Gt) (a : Ans) : ∃ N R, runG N (s, .inl a) = some R := ⟨0, (s, a), rfl⟩
theorem ends_go {s : Gt} {d : GD} (h : ∃ N R, runG N (gtAct s d) = some R) : ∃ N R, runG N (s, .inr d) = some R := by
  obtain ⟨N, R, h⟩ := h
  exact ⟨N + 1, R, h⟩
theorem ends_at (s : Gt) (d2 : List Int → Nat → Int → Int → GD) (F : Int → Int → Ans ⊕ GD) (hF : ∀ ls pl, ∃ a, F ls pl = .inl a) (hd : ∀ l i ls pl, gtAct s (d2 l i ls pl) = (s, gAt d2 F l (i + 1) (eNx s l i ls pl).1 (eNx s l i ls pl).2)) (l : List Int) : ∀ (r i : Nat) (ls pl : Int), l.length - i ≤ r → ∃ N R, runG N (s, gAt d2 F l i ls pl) = some R := by
  intro r
  induction r with
  | zero =>
    intro i ls pl h
    unfold gAt
    rw [if_neg (by omega)]
    obtain ⟨a, e⟩ := hF ls pl
    rw [e]
    exact ends_in s a
  | succ r ih =>
    intro i ls pl h
    unfold gAt
    by_cases hi : i < l.length
    · rw [if_pos hi]
      refine ends_go ?_
      rw [hd]
      exact ih _ _ _ (by omega)
    · rw [if_neg hi]
      obtain ⟨a, e⟩ := hF ls pl
      rw [e]
      exact ends_in s a
theorem ends_g (s : Gt) (th : Int) (o : OpV) : ∃ N R, runG N (gtEnter s th o) = some R := by
  unfold gtEnter
  by_cases h1 : o.k = 1
  · rw [if_pos h1]
    by_cases h : gOK o.a
    · rw [if_pos h]
      refine ends_go ?_
      show ∃ N R, runG N (s, if o.a ∈ s.l then gErr 7 else .inr (.j2 o.a o.b s.k s.l)) = some R
      by_cases hm : o.a ∈ s.l
      · rw [if_pos hm]
        exact ends_in s _
      · rw [if_neg hm]
        refine ends_go (ends_go ?_)
        show ∃ N R, runG N (if s.k = s.k then ((s.put o.a.toNat o.b).lay (s.l ++ [o.a]), gErr 0) else _) = some R
        rw [if_pos rfl]
        exact ends_in _ _
    · rw [if_neg h]
      exact ends_in s _
  rw [if_neg h1]
  by_cases h2 : o.k = 2
  · rw [if_pos h2]
    by_cases h : gOK o.a
    · rw [if_pos h]
      refine ends_go ?_
      show ∃ N R, runG N (s, if o.a ∈ s.l then .inr (.l2 o.a s.k s.l) else gErr 6) = some R
      by_cases hm : o.a ∈ s.l
      · rw [if_pos hm]
        refine ends_go ?_
        show ∃ N R, runG N (if s.k = s.k then (s.lay (s.l.filter fun z => decide (z ≠ o.a)), gErr 0) else _) = some R
        rw [if_pos rfl]
        exact ends_in _ _
      · rw [if_neg hm]
        exact ends_in s _
    · rw [if_neg h]
      exact ends_in s _
  rw [if_neg h2]
  by_cases h3 : o.k = 3
  · rw [if_pos h3]
    by_cases h : gOK o.a
    · rw [if_pos h]
      exact ends_go (ends_in _ _)
    · rw [if_neg h]
      exact ends_in s _
  rw [if_neg h3]
  by_cases h4 : o.k = 4
  · rw [if_pos h4]
    by_cases h : gOK o.a
    · rw [if_pos h]
      exact ends_go (ends_in _ _)
    · rw [if_neg h]
      exact ends_in s _
  rw [if_neg h4]
  by_cases h5 : o.k = 5
  · rw [if_pos h5]
    exact ends_go (ends_in _ _)
  rw [if_neg h5]
  by_cases h6 : o.k = 6
  · rw [if_pos h6]
    exact ends_go (ends_at s .e2 gLe (fun _ _ => ⟨_, rfl⟩) (fun _ _ _ _ => rfl) s.l _ _ _ _ (Nat.le_refl _))
  rw [if_neg h6]
  by_cases h7 : o.k = 7
  · rw [if_pos h7]
    exact ends_go (ends_at s (.m2 o.a o.b) (fun ls pl => gMay (mayR o.a o.b ls pl).1 (mayR o.a o.b ls pl).2) (fun _ _ => ⟨_, rfl⟩) (fun _ _ _ _ => rfl) s.l _ _ _ _ (Nat.le_refl _))
  rw [if_neg h7]
  exact ends_in s _
end
def Two (Fr : Nat → Prop) (zb wb : Nat) (s t : Gt) (w : World) : Prop := ∃ y z, GtI zb y s w ∧ GtI wb z t w ∧ (∀ b, gtSh zb y b → ¬ gtSh wb z b) ∧ ∀ b, Fr b → b < w.heap.size ∧ ¬ gtSh zb y b ∧ ¬ gtSh wb z b
section
variable {Fr Fr' : Nat → Prop} {zb wb : Nat} {s t : Gt} {w w' : World}
theorem Two.swap (h : Two Fr zb wb s t w) : Two Fr wb zb t s w := by
  obtain ⟨y, z, h1, h2, h3, h4⟩ := h
  exact ⟨z, y, h2, h1, fun b hb hb' => h3 b hb' hb, fun b hb => ⟨(h4 b hb).1, (h4 b hb).2.2, (h4 b hb).2.1⟩⟩
theorem Two.at (h : Two Fr zb wb s t w) (d : Nat) : Two Fr zb wb s t (w.at d) := by
  obtain ⟨y, z, h1, h2, h3, h4⟩ := h
  exact ⟨y, z, h1.same fun _ _ => rfl, h2.same fun _ _ => rfl, h3, h4⟩
theorem Two.weak (h : Two Fr zb wb s t w) (hf : ∀ b, Fr' b → Fr b) : Two Fr' zb wb s t w := by
  obtain ⟨y, z, h1, h2, h3, h4⟩ := h
  exact ⟨y, z, h1, h2, h3, fun b hb => h4 b (hf b hb)⟩
theorem Two.on (h : Two Fr zb wb s t w) (ho : ∀ b, b < w.heap.size → w'.heap[b]? = w.heap[b]?) (hs : w.heap.size ≤ w'.heap.size) (hf : ∀ b, Fr' b → Fr b ∨ (w.heap.size ≤ b ∧ b < w'.heap.size)) : Two Fr' zb wb s t w' := by
  obtain ⟨y, z, h1, h2, h3, h4⟩ := h
  refine ⟨y, z, h1.same fun b hb => ho b (h1.lt hb), h2.same fun b hb => ho b (h2.lt hb), h3, fun b hb => ?_⟩
  rcases hf b hb with hb | hb
  · exact ⟨by have := (h4 b hb).1; omega, (h4 b hb).2⟩
  · exact ⟨hb.2, fun hx => by have := h1.lt hx; omega, fun hx => by have := h2.lt hx; omega⟩
theorem Two.own (h : Two Fr zb wb s t w) (hs : w'.heap.size = w.heap.size) (ho : ∀ b, ¬ Fr b → w'.heap[b]? = w.heap[b]?) : Two Fr zb wb s t w' := by
  obtain ⟨y, z, h1, h2, h3, h4⟩ := h
  exact ⟨y, z, h1.same fun b hb => ho b fun hf => (h4 b hf).2.1 hb, h2.same fun b hb => ho b fun hf => (h4 b hf).2.2 hb, h3, fun b hb => ⟨by have := (h4 b hb).1; omega, (h4 b hb).2⟩⟩
variable {main : Bool} {V : Nat → Option Wait}
theorem two_call (hA : ∀ b, Apart V b) (T : Two Fr zb wb s t w) {f : FuncId} {args : Array Value} {Rel : Value → Ans → World → (Nat → Prop) → Prop} {R : Gt × Ans} (N : Nat) (r0 : Ans ⊕ GD) (hat : ∀ v x w' P d, Rel v x w' P → Rel v x (w'.at d) P) (hrun : runG N (s, r0) = some R)
    (hc : ∀ (K : Lg (gtLa zb) .nilIface) (e : K.E), K.w e = w → K.tgt e = (K.s e, r0) → SCall K.toLb f args e (fun v e' => ∃ x, Rel v x (K.w e') (K.mine e') ∧ K.tgt e' = (K.s e', .inl x))) :
    CallP main V f args w (fun v w' => ∃ Q : Nat → Prop, Rel v R.2 w' Q ∧ (∀ b, Q b → w.heap.size ≤ b ∧ b < w'.heap.size) ∧ Two (fun b => Fr b ∨ Q b) zb wb R.1 t w' ∧ (∀ b, Fr b → w'.heap[b]? = w.heap[b]?) ∧ w.heap.size ≤ w'.heap.size) := by
  obtain ⟨y, z, h1, h2, h3, h4⟩ := T
  refine (CallP.lone (L := gtLa zb) (Rel := Rel) N y s r0 hat hA h1 ((runN_G zb N _).trans hrun) hc).mono ?_
  rintro v w' ⟨y', hr, hL⟩
  have hsz := hL.size
  refine ⟨_, hr, fun b h => h.1, ⟨y', z, hL.I, h2.same fun b hb => hL.old b (h2.lt hb) (fun h => h3 b h hb), fun b hb hb' => h3 b (hL.pub b hb (h2.lt hb')) hb', fun b hb => ?_⟩, fun b hb => hL.old b (h4 b hb).1 (h4 b hb).2.1, hsz⟩
  rcases hb with hb | hb
  · exact ⟨by have := (h4 b hb).1; omega, fun h => (h4 b hb).2.1 (hL.pub b h (h4 b hb).1), (h4 b hb).2.2⟩
  · exact ⟨hb.1.2, hb.2, fun h => by have := h2.lt h; have := hb.1.1; omega⟩
def GaR (v : Value) (x : Ans) (w' : World) (P : Nat → Prop) : Prop := ∃ sl, v = ansV x sl ∧ (∃ a c, sl = .slice a x.l.length c) ∧ w'.ownsRow 0 2 1 sl x.l.length (x.l.map fun z => .int .i64 z) ∧ x.l.length ≤ 65536 ∧ ∀ b, sl.ownBlock = some b → P b
theorem genter_eq (s : Gt) (th : Int) (o : OpV) : gtEnter s th o = (s, (gtEnter s 0 o).2) := by
  unfold gtEnter
  repeat' split
  all_goals rfl
theorem genter_any (s s' : Gt) (th : Int) (o : OpV) : (gtEnter s th o).2 = (gtEnter s' 0 o).2 := by
  unfold gtEnter
  repeat' split
  all_goals rfl
theorem two_lcall (hA : ∀ b, Apart V b) (T : Two Fr zb wb s t w) (N : Nat) (R : Gt × Ans) (ok oa ob oc : Int) (hrun : runG N (gtEnter s 0 ⟨ok, oa, ob, oc⟩) = some R) :
    CallP main V 30 #[.pointer (some ⟨zb, 0, none⟩), .nilIface, .agg #[.int .i64 ok, .int .i64 oa, .int .i64 ob, .int .i64 oc]] w (fun v w' => ∃ Q : Nat → Prop, GaR v R.2 w' Q ∧ (∀ b, Q b → w.heap.size ≤ b ∧ b < w'.heap.size) ∧ Two (fun b => Fr b ∨ Q b) zb wb R.1 t w' ∧ (∀ b, Fr b → w'.heap[b]? = w.heap[b]?) ∧ w.heap.size ≤ w'.heap.size) := by
  refine two_call hA T (Rel := GaR) N _ (fun _ _ _ _ _ h => h) ((congrArg (runG N) (genter_eq s 0 ⟨ok, oa, ob, oc⟩)).symm.trans hrun) (fun K e hw ht => (lcall_s K e 0 ok oa ob oc ?_).mono fun v e' ⟨a, sl, h1, h2, h3, h4⟩ => ⟨a, ⟨sl, h2, h3.1, h3.2.1, h4, h3.2.2⟩, h1⟩)
  rw [ht, genter_eq (K.s e) 0, genter_any (K.s e) s 0]
  rfl
end
end
section
theorem facts_more {dsts : List Nat} {vals : List Value} {f : Nat → Bool} {u : Nat → Value} (F : Facts dsts vals f u) {i : Nat} (hd : dsts[i]? = none) : Facts dsts vals (upd f i true) u := by
  intro j d v hf hj hv
  by_cases e : j = i
  · rw [e, hd] at hj; cases hj
  · rw [upd_ne _ _ e] at hf
    exact F j d v hf hj hv
theorem facts_vals {dsts : List Nat} {vals vals' : List Value} {f : Nat → Bool} {u : Nat → Value} (F : Facts dsts vals f u) (h : ∀ j v, f j = true → vals'[j]? = some v → vals[j]? = some v) : Facts dsts vals' f u := fun j d v hf hd hv => F j d v hf hd (h j v hf hv)
def ansB (a : Ans) (sl : Value) : Obj := .cells #[.bool a.ok, .int .i64 a.n, sl] 81
theorem row_ne {w w' : World} {base : Nat} {v : Value} {n : Nat} {xs : List Value} (h : w.ownsRow base 2 1 v n xs) {A : Nat} {x : Array Value} (hA : w.heap[A]? = some (.cells x 81)) (ho : ∀ b, b ≠ A → w'.heap[b]? = w.heap[b]?) : w'.ownsRow base 2 1 v n xs :=
  row_same h fun g hg => ho g fun e => by
    rcases h.2 with ⟨e2, _⟩ | ⟨g', cap, cur, e2, _, hc, _⟩
    · rw [e2] at hg; cases hg
    · rw [e2] at hg
      cases hg
      have e : g' = A := e
      rw [e, hA] at hc
      simp at hc
def RowL (sl : Value) (l : List Int) (w : World) : Prop := (∃ b c, sl = .slice b l.length c ∧ l.length ≤ 65536) ∧ w.ownsRow 0 2 1 sl l.length (l.map fun z => .int .i64 z)
noncomputable def reg10_0 : Array Oper := match Try.f10.body with | some (.seq (.region _ ops _) _) => ops | _ => #[]
theorem size10_0 : reg10_0.size = 1 := by kernel_rfl
noncomputable def reg10_1 : Array Oper := match Try.f10.body with | some (.seq _ (.seq (.seq (.region _ ops _) _) _)) => ops | _ => #[]
theorem size10_1 : reg10_1.size = 2 := by kernel_rfl
noncomputable def reg10_2 : Array Oper := match Try.f10.body with | some (.seq _ (.seq (.seq _ (.cond _ (.seq (.region _ ops _) _) _)) _)) => ops | _ => #[]
theorem size10_2 : reg10_2.size = 1 := by kernel_rfl
noncomputable def reg10_3 : Array Oper := match Try.f10.body with | some (.seq _ (.seq _ (.seq (.region _ ops _) _))) => ops | _ => #[]
theorem size10_3 : reg10_3.size = 1 := by kernel_rfl
noncomputable def reg10_4 : Array Oper := match Try.f10.body with | some (.seq _ (.seq _ (.seq _ (.seq (.region _ ops _) _)))) => ops | _ => #[]
theorem size10_4 : reg10_4.size = 3 := by kernel_rfl
noncomputable def reg10_5 : Array Oper := match Try.f10.body with | some (.seq _ (.seq _ (.seq _ (.seq _ (.seq (.region _ ops _) _))))) => ops | _ => #[]
theorem size10_5 : reg10_5.size = 2 := by kernel_rfl
noncomputable def reg10_6 : Array Oper := match Try.f10.body with | some (.seq _ (.seq _ (.seq _ (.seq _ (.seq _ (.seq (.seq (.region _ ops _) _) _)))))) => ops | _ => #[]
theorem size10_6 : reg10_6.size = 1 := by kernel_rfl
noncomputable def reg10_7 : Array Oper := match Try.f10.body with | some (.seq _ (.seq _ (.seq _ (.seq _ (.seq _ (.seq (.seq _ (.block _ (.loop (.seq (.seq (.region _ ops _) _) _)))) _)))))) => ops | _ => #[]
theorem size10_7 : reg10_7.size = 2 := by kernel_rfl
noncomputable def reg10_9 : Array Oper := match Try.f10.body with | some (.seq _ (.seq _ (.seq _ (.seq _ (.seq _ (.seq (.seq _ (.block _ (.loop (.seq _ (.seq (.block _ (.region _ ops _)) _))))) _)))))) => ops | _ => #[]
theorem size10_9 : reg10_9.size = 3 := by kernel_rfl
noncomputable def reg10_8 : Array Oper := match Try.f10.body with | some (.seq _ (.seq _ (.seq _ (.seq _ (.seq _ (.seq (.seq _ (.block _ (.loop (.seq _ (.seq _ (.region _ ops _)))))) _)))))) => ops | _ => #[]
theorem size10_8 : reg10_8.size = 3 := by kernel_rfl
noncomputable def reg10_10 : Array Oper := match Try.f10.body with | some (.seq _ (.seq _ (.seq _ (.seq _ (.seq _ (.seq _ (.seq (.seq (.region _ ops _) _) _))))))) => ops | _ => #[]
theorem size10_10 : reg10_10.size = 1 := by kernel_rfl
noncomputable def reg10_11 : Array Oper := match Try.f10.body with | some (.seq _ (.seq _ (.seq _ (.seq _ (.seq _ (.seq _ (.seq (.seq _ (.block _ (.loop (.seq (.seq (.region _ ops _) _) _)))) _))))))) => ops | _ => #[]
theorem size10_11 : reg10_11.size = 4 := by kernel_rfl
noncomputable def reg10_13 : Array Oper := match Try.f10.body with | some (.seq _ (.seq _ (.seq _ (.seq _ (.seq _ (.seq _ (.seq (.seq _ (.block _ (.loop (.seq _ (.seq (.block _ (.seq (.region _ ops _) _)) _))))) _))))))) => ops | _ => #[]
theorem size10_13 : reg10_13.size = 6 := by kernel_rfl
noncomputable def reg10_14 : Array Oper := match Try.f10.body with | some (.seq _ (.seq _ (.seq _ (.seq _ (.seq _ (.seq _ (.seq (.seq _ (.block _ (.loop (.seq _ (.seq (.block _ (.seq _ (.seq (.region _ ops _) _))) _))))) _))))))) => ops | _ => #[]
theorem size10_14 : reg10_14.size = 10 := by kernel_rfl
noncomputable def reg10_15 : Array Oper := match Try.f10.body with | some (.seq _ (.seq _ (.seq _ (.seq _ (.seq _ (.seq _ (.seq (.seq _ (.block _ (.loop (.seq _ (.seq (.block _ (.seq _ (.seq _ (.seq (.seq (.region _ ops _) _) _)))) _))))) _))))))) => ops | _ => #[]
theorem size10_15 : reg10_15.size = 24 := by kernel_rfl
noncomputable def reg10_16 : Array Oper := match Try.f10.body with | some (.seq _ (.seq _ (.seq _ (.seq _ (.seq _ (.seq _ (.seq (.seq _ (.block _ (.loop (.seq _ (.seq (.block _ (.seq _ (.seq _ (.seq (.seq _ (.cond _ (.seq (.region _ ops _) _) _)) _)))) _))))) _))))))) => ops | _ => #[]
theorem size10_16 : reg10_16.size = 1 := by kernel_rfl
noncomputable def reg10_17 : Array Oper := match Try.f10.body with | some (.seq _ (.seq _ (.seq _ (.seq _ (.seq _ (.seq _ (.seq (.seq _ (.block _ (.loop (.seq _ (.seq (.block _ (.seq _ (.seq _ (.seq _ (.seq (.region _ ops _) _))))) _))))) _))))))) => ops | _ => #[]
theorem size10_17 : reg10_17.size = 5 := by kernel_rfl
noncomputable def reg10_18 : Array Oper := match Try.f10.body with | some (.seq _ (.seq _ (.seq _ (.seq _ (.seq _ (.seq _ (.seq (.seq _ (.block _ (.loop (.seq _ (.seq (.block _ (.seq _ (.seq _ (.seq _ (.seq _ (.seq (.region _ ops _) _)))))) _))))) _))))))) => ops | _ => #[]
theorem size10_18 : reg10_18.size = 3 := by kernel_rfl
noncomputable def reg10_19 : Array Oper := match Try.f10.body with | some (.seq _ (.seq _ (.seq _ (.seq _ (.seq _ (.seq _ (.seq (.seq _ (.block _ (.loop (.seq _ (.seq (.block _ (.seq _ (.seq _ (.seq _ (.seq _ (.seq _ (.seq (.block _ (.seq (.region _ ops _) _)) _))))))) _))))) _))))))) => ops | _ => #[]
theorem size10_19 : reg10_19.size = 19 := by kernel_rfl
noncomputable def reg10_20 : Array Oper := match Try.f10.body with | some (.seq _ (.seq _ (.seq _ (.seq _ (.seq _ (.seq _ (.seq (.seq _ (.block _ (.loop (.seq _ (.seq (.block _ (.seq _ (.seq _ (.seq _ (.seq _ (.seq _ (.seq (.block _ (.seq _ (.cond _ (.region _ ops _) _))) _))))))) _))))) _))))))) => ops | _ => #[]
theorem size10_20 : reg10_20.size = 2 := by kernel_rfl
noncomputable def reg10_21 : Array Oper := match Try.f10.body with | some (.seq _ (.seq _ (.seq _ (.seq _ (.seq _ (.seq _ (.seq (.seq _ (.block _ (.loop (.seq _ (.seq (.block _ (.seq _ (.seq _ (.seq _ (.seq _ (.seq _ (.seq (.block _ (.seq _ (.cond _ _ (.seq (.region _ ops _) _)))) _))))))) _))))) _))))))) => ops | _ => #[]
theorem size10_21 : reg10_21.size = 9 := by kernel_rfl
noncomputable def reg10_22 : Array Oper := match Try.f10.body with | some (.seq _ (.seq _ (.seq _ (.seq _ (.seq _ (.seq _ (.seq (.seq _ (.block _ (.loop (.seq _ (.seq (.block _ (.seq _ (.seq _ (.seq _ (.seq _ (.seq _ (.seq (.block _ (.seq _ (.cond _ _ (.seq _ (.cond _ (.region _ ops _) _))))) _))))))) _))))) _))))))) => ops | _ => #[]
theorem size10_22 : reg10_22.size = 2 := by kernel_rfl
noncomputable def reg10_23 : Array Oper := match Try.f10.body with | some (.seq _ (.seq _ (.seq _ (.seq _ (.seq _ (.seq _ (.seq (.seq _ (.block _ (.loop (.seq _ (.seq (.block _ (.seq _ (.seq _ (.seq _ (.seq _ (.seq _ (.seq (.block _ (.seq _ (.cond _ _ (.seq _ (.cond _ _ (.seq (.region _ ops _) _)))))) _))))))) _))))) _))))))) => ops | _ => #[]
theorem size10_23 : reg10_23.size = 4 := by kernel_rfl
noncomputable def reg10_24 : Array Oper := match Try.f10.body with | some (.seq _ (.seq _ (.seq _ (.seq _ (.seq _ (.seq _ (.seq (.seq _ (.block _ (.loop (.seq _ (.seq (.block _ (.seq _ (.seq _ (.seq _ (.seq _ (.seq _ (.seq (.block _ (.seq _ (.cond _ _ (.seq _ (.cond _ _ (.seq _ (.cond _ (.region _ ops _) _))))))) _))))))) _))))) _))))))) => ops | _ => #[]
theorem size10_24 : reg10_24.size = 2 := by kernel_rfl
noncomputable def reg10_25 : Array Oper := match Try.f10.body with | some (.seq _ (.seq _ (.seq _ (.seq _ (.seq _ (.seq _ (.seq (.seq _ (.block _ (.loop (.seq _ (.seq (.block _ (.seq _ (.seq _ (.seq _ (.seq _ (.seq _ (.seq (.block _ (.seq _ (.cond _ _ (.seq _ (.cond _ _ (.seq _ (.cond _ _ (.seq (.region _ ops _) _)))))))) _))))))) _))))) _))))))) => ops | _ => #[]
theorem size10_25 : reg10_25.size = 4 := by kernel_rfl
noncomputable def reg10_26 : Array Oper := match Try.f10.body with | some (.seq _ (.seq _ (.seq _ (.seq _ (.seq _ (.seq _ (.seq (.seq _ (.block _ (.loop (.seq _ (.seq (.block _ (.seq _ (.seq _ (.seq _ (.seq _ (.seq _ (.seq (.block _ (.seq _ (.cond _ _ (.seq _ (.cond _ _ (.seq _ (.cond _ _ (.seq _ (.cond _ (.region _ ops _) _))))))))) _))))))) _))))) _))))))) => ops | _ => #[]
theorem size10_26 : reg10_26.size = 5 := by kernel_rfl
noncomputable def reg10_27 : Array Oper := match Try.f10.body with | some (.seq _ (.seq _ (.seq _ (.seq _ (.seq _ (.seq _ (.seq (.seq _ (.block _ (.loop (.seq _ (.seq (.block _ (.seq _ (.seq _ (.seq _ (.seq _ (.seq _ (.seq (.block _ (.seq _ (.cond _ _ (.seq _ (.cond _ _ (.seq _ (.cond _ _ (.seq _ (.cond _ _ (.seq (.region _ ops _) _)))))))))) _))))))) _))))) _))))))) => ops | _ => #[]
theorem size10_27 : reg10_27.size = 4 := by kernel_rfl
noncomputable def reg10_28 : Array Oper := match Try.f10.body with | some (.seq _ (.seq _ (.seq _ (.seq _ (.seq _ (.seq _ (.seq (.seq _ (.block _ (.loop (.seq _ (.seq (.block _ (.seq _ (.seq _ (.seq _ (.seq _ (.seq _ (.seq (.block _ (.seq _ (.cond _ _ (.seq _ (.cond _ _ (.seq _ (.cond _ _ (.seq _ (.cond _ _ (.seq _ (.cond _ (.region _ ops _) _))))))))))) _))))))) _))))) _))))))) => ops | _ => #[]
theorem size10_28 : reg10_28.size = 2 := by kernel_rfl
noncomputable def reg10_29 : Array Oper := match Try.f10.body with | some (.seq _ (.seq _ (.seq _ (.seq _ (.seq _ (.seq _ (.seq (.seq _ (.block _ (.loop (.seq _ (.seq (.block _ (.seq _ (.seq _ (.seq _ (.seq _ (.seq _ (.seq _ (.seq (.region _ ops _) _)))))))) _))))) _))))))) => ops | _ => #[]
theorem size10_29 : reg10_29.size = 18 := by kernel_rfl
noncomputable def reg10_30 : Array Oper := match Try.f10.body with | some (.seq _ (.seq _ (.seq _ (.seq _ (.seq _ (.seq _ (.seq (.seq _ (.block _ (.loop (.seq _ (.seq (.block _ (.seq _ (.seq _ (.seq _ (.seq _ (.seq _ (.seq _ (.seq _ (.cond _ (.seq (.region _ ops _) _) _))))))))) _))))) _))))))) => ops | _ => #[]
theorem size10_30 : reg10_30.size = 1 := by kernel_rfl
noncomputable def reg10_12 : Array Oper := match Try.f10.body with | some (.seq _ (.seq _ (.seq _ (.seq _ (.seq _ (.seq _ (.seq (.seq _ (.block _ (.loop (.seq _ (.seq _ (.region _ ops _)))))) _))))))) => ops | _ => #[]
theorem size10_12 : reg10_12.size = 3 := by kernel_rfl
noncomputable def reg10_31 : Array Oper := match Try.f10.body with | some (.seq _ (.seq _ (.seq _ (.seq _ (.seq _ (.seq _ (.seq _ (.seq (.region _ ops _) _)))))))) => ops | _ => #[]
theorem size10_31 : reg10_31.size = 1 := by kernel_rfl
theorem code10_is : Try.f10.body = some (.seq (.region 0 reg10_0 false) (.seq (.seq (.region 1 reg10_1 false) (.cond (.tmp 14 ) (.seq (.region 2 reg10_2 false) (.ret)) (.skip))) (.seq (.region 3 reg10_3 false) (.seq (.region 4 reg10_4 false) (.seq (.region 5 reg10_5 false) (.seq (.seq (.region 6 reg10_6 false) (.block 0 (.loop (.seq (.seq (.region 7 reg10_7 false) (.cond (.tmp 19 ) (.skip) (.exit 0))) (.seq (.block 1 (.region 9 reg10_9 false)) (.region 8 reg10_8 false)))))) (.seq (.seq (.region 10 reg10_10 false) (.block 2 (.loop (.seq (.seq (.region 11 reg10_11 false) (.cond (.tmp 28 ) (.skip) (.exit 2))) (.seq (.block 3 (.seq (.region 13 reg10_13 false) (.seq (.region 14 reg10_14 true) (.seq (.seq (.region 15 reg10_15 false) (.cond (.tmp 64 ) (.seq (.region 16 reg10_16 false) (.ret)) (.skip))) (.seq (.region 17 reg10_17 false) (.seq (.region 18 reg10_18 false) (.seq (.block 4 (.seq (.region 19 reg10_19 false) (.cond (.tmp 69 ) (.region 20 reg10_20 false) (.seq (.region 21 reg10_21 false) (.cond (.tmp 89 ) (.region 22 reg10_22 false) (.seq (.region 23 reg10_23 false) (.cond (.tmp 99 ) (.region 24 reg10_24 false) (.seq (.region 25 reg10_25 false) (.cond (.tmp 104 ) (.region 26 reg10_26 false) (.seq (.region 27 reg10_27 false) (.cond (.tmp 112 ) (.region 28 reg10_28 false) (.skip)))))))))))) (.seq (.region 29 reg10_29 false) (.cond (.tmp 134 ) (.seq (.region 30 reg10_30 false) (.ret)) (.skip)))))))))) (.region 12 reg10_12 false)))))) (.seq (.region 31 reg10_31 false) (.ret))))))))) := by kernel_rfl
noncomputable def tmN (lv : Value) (zb wb i E : Nat) (u : Nat → Value) : Array Value := #[lv, u 1, u 2, .pointer none, .pointer (some ⟨zb, 0, none⟩), .pointer (some ⟨wb, 0, none⟩), .int .i64 64, .int .i64 i, .pointer (some ⟨E, 0, none⟩), u 9, u 10, u 11, u 12, u 13, u 14, u 15, u 16, u 17, u 18, u 19, u 20, u 21, u 22, u 23, u 24, u 25, u 26, u 27, u 28, u 29, u 30, u 31, u 32, u 33, u 34, u 35, u 36, u 37, u 38, u 39, u 40, u 41, u 42, u 43, u 44, u 45, u 46, u 47, u 48, u 49, u 50, u 51, u 52, u 53, u 54, u 55, u 56, u 57, u 58, u 59, u 60, u 61, u 62, u 63, u 64, u 65, u 66, u 67, u 68, u 69, u 70, u 71, u 72, u 73, u 74, u 75, u 76, u 77, u 78, u 79, u 80, u 81, u 82, u 83, u 84, u 85, u 86, u 87, u 88, u 89, u 90, u 91, u 92, u 93, u 94, u 95, u 96, u 97, u 98, u 99, u 100, u 101, u 102, u 103, u 104, u 105, u 106, u 107, u 108, u 109, u 110, u 111, u 112, u 113, u 114, u 115, u 116, u 117, u 118, u 119, u 120, u 121, u 122, u 123, u 124, u 125, u 126, u 127, u 128, u 129, u 130, u 131, u 132, u 133, u 134]
def dsN : List Nat := [35, 36, 37, 38, 39, 40, 9, 10]
def vsN (zb wb : Nat) (o : OpV) (a : Ans) (A B : Nat) (sa sb : Value) : List Value := [.pointer (some ⟨zb, 0, none⟩), opVal o, ansV a sa, .pointer (some ⟨wb, 0, none⟩), opVal o, ansV a sb, .pointer (some ⟨A, 0, none⟩), .pointer (some ⟨B, 0, none⟩)]
def FrX (Fr : Nat → Prop) (f : Nat → Bool) (A B : Nat) (sa sb : Value) (b : Nat) : Prop := Fr b ∨ (f 6 = true ∧ b = A) ∨ (f 7 = true ∧ b = B) ∨ (f 2 = true ∧ sa.ownBlock = some b) ∨ (f 5 = true ∧ sb.ownBlock = some b)
structure NoQ (Fr : Nat → Prop) (zb wb : Nat) (s s' : Gt) (a : Ans) (W : World) (f : Nat → Bool) (A B : Nat) (sa sb : Value) (w : World) : Prop where
  two : Two (FrX Fr f A B sa sb) zb wb (if f 2 then s' else s) (if f 5 then s' else s) w
  la : f 2 = true → RowL sa a.l w
  lb : f 5 = true → RowL sb a.l w
  a1 : f 6 = true → W.heap.size ≤ A ∧ w.heap[A]? = some (if f 8 then ansB a sa else (.cells #[.bool false, .int .i64 0, .slice none 0 0] 81))
  b1 : f 7 = true → W.heap.size ≤ B ∧ w.heap[B]? = some (if f 9 then ansB a sb else (.cells #[.bool false, .int .i64 0, .slice none 0 0] 81))
  ne : f 6 = true → f 7 = true → A ≠ B
  old : ∀ b, Fr b → w.heap[b]? = W.heap[b]?
  size : W.heap.size ≤ w.heap.size
section
variable {Fr : Nat → Prop} {zb wb : Nat} {s s' : Gt} {a : Ans} {W : World} {f : Nat → Bool} {A B : Nat} {sa sb : Value} {w : World}
theorem NoQ.quiet (h : NoQ Fr zb wb s s' a W f A B sa sb w) {i : Nat} (h2 : i ≠ 2) (h5 : i ≠ 5) (h6 : i ≠ 6) (h7 : i ≠ 7) (h8 : i ≠ 8) (h9 : i ≠ 9) : NoQ Fr zb wb s s' a W (upd f i true) A B sa sb w := by
  refine ⟨?_, ?_, ?_, ?_, ?_, ?_, h.old, h.size⟩
  · unfold FrX
    rw [upd_ne _ _ (Ne.symm h2), upd_ne _ _ (Ne.symm h5), upd_ne _ _ (Ne.symm h6), upd_ne _ _ (Ne.symm h7)]; exact h.two
  · rw [upd_ne _ _ (Ne.symm h2)]; exact h.la
  · rw [upd_ne _ _ (Ne.symm h5)]; exact h.lb
  · rw [upd_ne _ _ (Ne.symm h6), upd_ne _ _ (Ne.symm h8)]; exact h.a1
  · rw [upd_ne _ _ (Ne.symm h7), upd_ne _ _ (Ne.symm h9)]; exact h.b1
  · rw [upd_ne _ _ (Ne.symm h6), upd_ne _ _ (Ne.symm h7)]; exact h.ne
theorem RowL.keep {sl : Value} {l : List Int} {w w' : World} (h : RowL sl l w) (ho : ∀ b, sl.ownBlock = some b → w'.heap[b]? = w.heap[b]?) : RowL sl l w' := ⟨h.1, row_same h.2 ho⟩
theorem calls_no {main : Bool} (lv : Value) (i E N : Nat) (o : OpV) (hFE : Fr E) (W : World) (T : Two Fr zb wb s s W) (hE : W.heap[E]? = some (.cells #[.int .i64 o.k, .int .i64 o.a, .int .i64 o.b, .int .i64 o.c] 84)) (hrun : runG N (gtEnter s 0 o) = some (s', a))
    (kx : List Item) (cs : List Frame) (u0 : Nat → Value) {Stop : Goroutine → World → Prop}
    (hend : ∀ (u : Nat → Value) (A B : Nat) (sa sb : Value) (w : World), u 9 = .pointer (some ⟨A, 0, none⟩) → u 10 = .pointer (some ⟨B, 0, none⟩) → NoQ Fr zb wb s s' a W (fun _ => true) A B sa sb w → Walk Try.prog main (DR (fun _ => none)) Stop (G ((base 10).at ⟨tmN lv zb wb i E u, []⟩ (.inRegion reg10_14 [] :: kx)) cs) w) :
    Walk Try.prog main (DR (fun _ => none)) Stop (G ((base 10).at ⟨tmN lv zb wb i E u0, []⟩ (.code (.region 14 reg10_14 true) :: kx)) cs) W := by
  obtain ⟨fsO, huO⟩ := structT 84 (by kernel_rfl)
  have hFW : ∀ b, Fr b → b < W.heap.size := fun b hb => by
    obtain ⟨_, _, _, _, _, h4⟩ := T
    exact (h4 b hb).1
  have hcZ := fun w Fr' t T' => two_lcall (main := main) (V := fun _ => none) (Fr := Fr') (zb := zb) (wb := wb) (s := s) (t := t) (w := w) ap0 T' N (s', a) o.k o.a o.b o.c hrun
  have hcW := fun w Fr' t T' => two_lcall (main := main) (V := fun _ => none) (Fr := Fr') (zb := wb) (wb := zb) (s := s) (t := t) (w := w) ap0 T' N (s', a) o.k o.a o.b o.c hrun
  clear hrun
  refine Walk.drawnJ (Inv := fun f ac' w => ∃ u A B sa sb, ac' = ⟨tmN lv zb wb i E u, []⟩ ∧ Facts dsN (vsN zb wb o a A B sa sb) f u ∧ NoQ Fr zb wb s s' a W f A B sa sb w) (by kernel_rfl) (by kernel_rfl) (fun d => ⟨u0, 0, 0, undef, undef, rfl, Facts.none _ _ _, ⟨(T.weak fun b hb => hb.elim id fun h => by simp at h).at d, fun h => (by cases h), fun h => (by cases h), fun h => (by cases h), fun h => (by cases h), fun h => (by cases h), fun _ _ => rfl, Nat.le_refl _⟩⟩) ?_ ?_
  · rintro f j op act w ⟨u, A, B, sa, sb, rfl, F0, Q⟩ hC hfj ho hdeps rest hr
    have hj : j < 10 := by have := (Array.getElem?_eq_some_iff.1 ho).1; rw [size10_14] at this; exact this
    have hC' := hC
    have hQs := Q.size
    match j, hj with
    | 0, _ =>
      clear hdeps hC hC' hcZ hcW hend
      simp only [tmN] at hr ⊢
      (refine Walk.oq ?_; try walk_nrm)
      refine hr _ _ ⟨upd u 35 (.pointer (some ⟨zb, 0, none⟩)), A, B, sa, sb, ?_, F0.set (by decide) rfl rfl, Q.quiet (by decide) (by decide) (by decide) (by decide) (by decide) (by decide)⟩
      simp [tmN, upd]
    | 1, _ =>
      have hEw := (Q.old E hFE).trans hE
      have hcs : ∀ (y : Nat) (v : Value), ([.int .i64 o.k, .int .i64 o.a, .int .i64 o.b, .int .i64 o.c] : List Value)[y]? = some v → w.cell? ⟨E, 0 + y, none⟩ = some v := fun y v hv => by
        rw [Nat.zero_add, cell_of hEw]
        simpa using hv
      clear hdeps hC hC' hcZ hcW hend
      simp only [tmN] at hr ⊢
      refine Walk.loadS 84 (.tmp 8) (ho_of (by conv => lhs; whnf) (by kernel_rfl)) (by rfl) (by decide) rfl E 0 [.int .i64 o.k, .int .i64 o.a, .int .i64 o.b, .int .i64 o.c] (.struct fsO) rfl hcs huO rfl (by kernel_rfl) ?_
      walk_nrm
      refine hr _ _ ⟨upd u 36 (opVal o), A, B, sa, sb, ?_, F0.set (by decide) rfl rfl, Q.quiet (by decide) (by decide) (by decide) (by decide) (by decide) (by decide)⟩
      simp [tmN, upd, opVal]
    | 2, _ =>
      have hd := deps_of (l := [0, 1]) (by kernel_rfl) ho hdeps
      have e35 := F0 0 35 _ (hd 0 (by simp)) rfl rfl
      have e36 := F0 1 36 _ (hd 1 (by simp)) rfl rfl
      have h5 : f 5 = false := by
        cases h : f 5 with
        | false => rfl
        | true => have := hC'.deps (i := 5) (l := [3, 4, 2]) h (by kernel_rfl) 2 (by simp); rw [hfj] at this; cases this
      have h8 : f 8 = false := by
        cases h : f 8 with
        | false => rfl
        | true => have := hC'.deps (i := 8) (l := [6, 2]) h (by kernel_rfl) 2 (by simp); rw [hfj] at this; cases this
      have tw := Q.two
      rw [hfj, h5] at tw
      simp only [Bool.false_eq_true, if_false] at tw
      have hcc := hcZ w _ _ tw
      clear hdeps hC hC' hend hcZ hcW tw
      simp only [tmN] at hr ⊢
      simp only [e35, e36, opVal]
      refine Walk.callP (Post := fun v w' => ∃ Q : Nat → Prop, GaR v a w' Q ∧ (∀ b, Q b → w.heap.size ≤ b ∧ b < w'.heap.size) ∧ Two (fun b => FrX Fr f A B sa sb b ∨ Q b) zb wb s' s w' ∧ (∀ b, FrX Fr f A B sa sb b → w'.heap[b]? = w.heap[b]?) ∧ w.heap.size ≤ w'.heap.size) ?_ (ho_of (by conv => lhs; whnf) (by kernel_rfl)) (by rfl) (by decide) rfl Try.func30 (by kernel_rfl) (by rfl) ⟨rfl, rfl, _, Try.func10⟩ ?_
      · walk_nrm
        exact hcc
      rintro v w1 ⟨P, ⟨sl, rfl, hsh, hrow, hlen, hP⟩, hPn, tw, hold, hsz⟩
      walk_nrm
      refine hr _ _ ⟨upd u 37 (ansV a sl), A, B, sl, sb, ?_, Facts.set (facts_vals F0 fun j v hf hv => ?_) (by decide) rfl rfl, ⟨?_, fun h => ?_, fun h => ?_, fun h => ?_, fun h => ?_, fun h h2 => ?_, fun b hb => ?_, by omega⟩⟩
      · simp [tmN, upd, ansV, opVal, e35, e36]
      · exact match j, hf, hv with
          | 0, _, hv => hv
          | 1, _, hv => hv
          | 2, hf, hv => by rw [hfj] at hf; cases hf
          | 3, _, hv => hv
          | 4, _, hv => hv
          | 5, _, hv => hv
          | 6, _, hv => hv
          | 7, _, hv => hv
          | j + 8, _, hv => hv
      · rw [upd_same, if_pos rfl, upd_ne _ _ (by decide), h5]
        refine tw.weak fun b hb => ?_
        unfold FrX at hb ⊢
        rw [upd_same, upd_ne _ _ (by decide), upd_ne _ _ (by decide), upd_ne _ _ (by decide)] at hb
        rcases hb with hb | hb | hb | hb | hb
        · exact .inl (.inl hb)
        · exact .inl (.inr (.inl hb))
        · exact .inl (.inr (.inr (.inl hb)))
        · exact .inr (hP b hb.2)
        · rw [h5] at hb; cases hb.1
      · exact ⟨by obtain ⟨b, c, e⟩ := hsh; exact ⟨b, c, e, hlen⟩, hrow⟩
      · rw [upd_ne _ _ (by decide), h5] at h; cases h
      · rw [upd_ne _ _ (by decide)] at h
        rw [upd_ne _ _ (by decide), h8]
        have z := Q.a1 h
        rw [h8] at z
        exact ⟨z.1, (hold A (.inr (.inl ⟨h, rfl⟩))).trans z.2⟩
      · rw [upd_ne _ _ (by decide)] at h
        rw [upd_ne _ _ (by decide)]
        exact ⟨(Q.b1 h).1, (hold B (.inr (.inr (.inl ⟨h, rfl⟩)))).trans (Q.b1 h).2⟩
      · rw [upd_ne _ _ (by decide)] at h h2
        exact Q.ne h h2
      · exact (hold b (.inl hb)).trans (Q.old b hb)
    | 3, _ =>
      clear hdeps hC hC' hcZ hcW hend
      simp only [tmN] at hr ⊢
      (refine Walk.oq ?_; try walk_nrm)
      refine hr _ _ ⟨upd u 38 (.pointer (some ⟨wb, 0, none⟩)), A, B, sa, sb, ?_, F0.set (by decide) rfl rfl, Q.quiet (by decide) (by decide) (by decide) (by decide) (by decide) (by decide)⟩
      simp [tmN, upd]
    | 4, _ =>
      have hEw := (Q.old E hFE).trans hE
      have hcs : ∀ (y : Nat) (v : Value), ([.int .i64 o.k, .int .i64 o.a, .int .i64 o.b, .int .i64 o.c] : List Value)[y]? = some v → w.cell? ⟨E, 0 + y, none⟩ = some v := fun y v hv => by
        rw [Nat.zero_add, cell_of hEw]
        simpa using hv
      clear hdeps hC hC' hcZ hcW hend
      simp only [tmN] at hr ⊢
      refine Walk.loadS 84 (.tmp 8) (ho_of (by conv => lhs; whnf) (by kernel_rfl)) (by rfl) (by decide) rfl E 0 [.int .i64 o.k, .int .i64 o.a, .int .i64 o.b, .int .i64 o.c] (.struct fsO) rfl hcs huO rfl (by kernel_rfl) ?_
      walk_nrm
      refine hr _ _ ⟨upd u 39 (opVal o), A, B, sa, sb, ?_, F0.set (by decide) rfl rfl, Q.quiet (by decide) (by decide) (by decide) (by decide) (by decide) (by decide)⟩
      simp [tmN, upd, opVal]
    | 5, _ =>
      have hd := deps_of (l := [3, 4, 2]) (by kernel_rfl) ho hdeps
      have e38 := F0 3 38 _ (hd 3 (by simp)) rfl rfl
      have e39 := F0 4 39 _ (hd 4 (by simp)) rfl rfl
      have h2' := hd 2 (by simp)
      have h9 : f 9 = false := by
        cases h : f 9 with
        | false => rfl
        | true => have := hC'.deps (i := 9) (l := [7, 5]) h (by kernel_rfl) 5 (by simp); rw [hfj] at this; cases this
      have tw := Q.two
      rw [hfj, h2'] at tw
      simp only [Bool.false_eq_true, if_false, if_true] at tw
      have hcc := hcW w _ _ tw.swap
      clear hdeps hC hC' hend hcZ hcW tw
      simp only [tmN] at hr ⊢
      simp only [e38, e39, opVal]
      refine Walk.callP (Post := fun v w' => ∃ Q : Nat → Prop, GaR v a w' Q ∧ (∀ b, Q b → w.heap.size ≤ b ∧ b < w'.heap.size) ∧ Two (fun b => FrX Fr f A B sa sb b ∨ Q b) wb zb s' s' w' ∧ (∀ b, FrX Fr f A B sa sb b → w'.heap[b]? = w.heap[b]?) ∧ w.heap.size ≤ w'.heap.size) ?_ (ho_of (by conv => lhs; whnf) (by kernel_rfl)) (by rfl) (by decide) rfl Try.func30 (by kernel_rfl) (by rfl) ⟨rfl, rfl, _, Try.func10⟩ ?_
      · walk_nrm
        exact hcc
      rintro v w1 ⟨P, ⟨sl, rfl, hsh, hrow, hlen, hP⟩, hPn, tw, hold, hsz⟩
      walk_nrm
      refine hr _ _ ⟨upd u 40 (ansV a sl), A, B, sa, sl, ?_, Facts.set (facts_vals F0 fun j v hf hv => ?_) (by decide) rfl rfl, ⟨?_, fun h => ?_, fun h => ?_, fun h => ?_, fun h => ?_, fun h h2 => ?_, fun b hb => ?_, by omega⟩⟩
      · simp [tmN, upd, ansV, opVal, e38, e39]
      · exact match j, hf, hv with
          | 0, _, hv => hv
          | 1, _, hv => hv
          | 2, _, hv => hv
          | 3, _, hv => hv
          | 4, _, hv => hv
          | 5, hf, hv => by rw [hfj] at hf; cases hf
          | 6, _, hv => hv
          | 7, _, hv => hv
          | j + 8, _, hv => hv
      · rw [upd_same, if_pos rfl, upd_ne _ _ (by decide), h2']
        refine tw.swap.weak fun b hb => ?_
        unfold FrX at hb ⊢
        rw [upd_same, upd_ne _ _ (by decide), upd_ne _ _ (by decide), upd_ne _ _ (by decide)] at hb
        rcases hb with hb | hb | hb | hb | hb
        · exact .inl (.inl hb)
        · exact .inl (.inr (.inl hb))
        · exact .inl (.inr (.inr (.inl hb)))
        · exact .inl (.inr (.inr (.inr (.inl hb))))
        · exact .inr (hP b hb.2)
      · exact (Q.la h2').keep fun b hb => hold b (.inr (.inr (.inr (.inl ⟨h2', hb⟩))))
      · exact ⟨by obtain ⟨b, c, e⟩ := hsh; exact ⟨b, c, e, hlen⟩, hrow⟩
      · rw [upd_ne _ _ (by decide)] at h
        rw [upd_ne _ _ (by decide)]
        exact ⟨(Q.a1 h).1, (hold A (.inr (.inl ⟨h, rfl⟩))).trans (Q.a1 h).2⟩
      · rw [upd_ne _ _ (by decide)] at h
        rw [upd_ne _ _ (by decide), h9]
        have z := Q.b1 h
        rw [h9] at z
        exact ⟨z.1, (hold B (.inr (.inr (.inl ⟨h, rfl⟩)))).trans z.2⟩
      · rw [upd_ne _ _ (by decide)] at h h2
        exact Q.ne h h2
      · exact (hold b (.inl hb)).trans (Q.old b hb)
    | 6, _ =>
      have hN := heap_alloc_new w (.cells #[.bool false, .int .i64 0, .slice none 0 0] 81)
      have hO : ∀ b, b < w.heap.size → (w.alloc (.cells #[.bool false, .int .i64 0, .slice none 0 0] 81)).heap[b]? = w.heap[b]? := fun b hb => heap_new_lt _ _ hb
      have hZ : (w.alloc (.cells #[.bool false, .int .i64 0, .slice none 0 0] 81)).heap.size = w.heap.size + 1 := by simp
      have hlt : ∀ b, FrX Fr f A B sa sb b → b < w.heap.size := fun b hb => by
        obtain ⟨y, z, _, _, _, h4⟩ := Q.two
        exact (h4 b hb).1
      have hx : f 8 = false := by
        cases h : f 8 with
        | false => rfl
        | true => have := hC'.deps (i := 8) (l := [6]) h (by kernel_rfl) 6 (by simp); rw [hfj] at this; cases this
      clear hdeps hC hC' hcZ hcW hend
      simp only [tmN] at hr ⊢
      (refine Walk.oa ?_; try walk_nrm)
      refine hr _ _ ⟨upd u 9 (.pointer (some ⟨w.heap.size, 0, none⟩)), w.heap.size, B, sa, sb, ?_, Facts.set (facts_vals F0 fun j v hf hv => ?_) (by decide) rfl rfl, ⟨?_, fun h => ?_, fun h => ?_, fun h => ?_, fun h => ?_, fun h h2 => ?_, fun b hb => (hO b (hlt b (.inl hb))).trans (Q.old b hb), by omega⟩⟩
      · simp [tmN, upd]
      · exact match j, hf, hv with
          | 0, _, hv => hv
          | 1, _, hv => hv
          | 2, _, hv => hv
          | 3, _, hv => hv
          | 4, _, hv => hv
          | 5, _, hv => hv
          | 6, hf, hv => by rw [hfj] at hf; cases hf
          | 7, _, hv => hv
          | j + 8, _, hv => hv
      · rw [upd_ne _ _ (by decide), upd_ne _ _ (by decide)]
        refine Q.two.on hO (by omega) fun b hb => ?_
        unfold FrX at hb ⊢
        rw [upd_same, upd_ne _ _ (by decide), upd_ne _ _ (by decide), upd_ne _ _ (by decide)] at hb
        rcases hb with hb | hb | hb | hb | hb
        · exact .inl (.inl hb)
        · exact .inr ⟨by omega, by omega⟩
        · exact .inl (.inr (.inr (.inl hb)))
        · exact .inl (.inr (.inr (.inr (.inl hb))))
        · exact .inl (.inr (.inr (.inr (.inr hb))))
      · rw [upd_ne _ _ (by decide)] at h
        exact (Q.la h).keep fun b hb => hO b (hlt b (.inr (.inr (.inr (.inl ⟨h, hb⟩)))))
      · rw [upd_ne _ _ (by decide)] at h
        exact (Q.lb h).keep fun b hb => hO b (hlt b (.inr (.inr (.inr (.inr ⟨h, hb⟩)))))
      · rw [upd_ne _ _ (by decide), hx]
        exact ⟨hQs, hN⟩
      · rw [upd_ne _ _ (by decide)] at h
        rw [upd_ne _ _ (by decide)]
        exact ⟨(Q.b1 h).1, (hO _ (hlt B (.inr (.inr (.inl ⟨h, rfl⟩))))).trans (Q.b1 h).2⟩
      · rw [upd_ne _ _ (by decide)] at h2
        have := hlt B (.inr (.inr (.inl ⟨h2, rfl⟩)))
        omega
    | 7, _ =>
      have hN := heap_alloc_new w (.cells #[.bool false, .int .i64 0, .slice none 0 0] 81)
      have hO : ∀ b, b < w.heap.size → (w.alloc (.cells #[.bool false, .int .i64 0, .slice none 0 0] 81)).heap[b]? = w.heap[b]? := fun b hb => heap_new_lt _ _ hb
      have hZ : (w.alloc (.cells #[.bool false, .int .i64 0, .slice none 0 0] 81)).heap.size = w.heap.size + 1 := by simp
      have hlt : ∀ b, FrX Fr f A B sa sb b → b < w.heap.size := fun b hb => by
        obtain ⟨y, z, _, _, _, h4⟩ := Q.two
        exact (h4 b hb).1
      have hx : f 9 = false := by
        cases h : f 9 with
        | false => rfl
        | true => have := hC'.deps (i := 9) (l := [7]) h (by kernel_rfl) 7 (by simp); rw [hfj] at this; cases this
      clear hdeps hC hC' hcZ hcW hend
      simp only [tmN] at hr ⊢
      (refine Walk.oa ?_; try walk_nrm)
      refine hr _ _ ⟨upd u 10 (.pointer (some ⟨w.heap.size, 0, none⟩)), A, w.heap.size, sa, sb, ?_, Facts.set (facts_vals F0 fun j v hf hv => ?_) (by decide) rfl rfl, ⟨?_, fun h => ?_, fun h => ?_, fun h => ?_, fun h => ?_, fun h h2 => ?_, fun b hb => (hO b (hlt b (.inl hb))).trans (Q.old b hb), by omega⟩⟩
      · simp [tmN, upd]
      · exact match j, hf, hv with
          | 0, _, hv => hv
          | 1, _, hv => hv
          | 2, _, hv => hv
          | 3, _, hv => hv
          | 4, _, hv => hv
          | 5, _, hv => hv
          | 6, _, hv => hv
          | 7, hf, hv => by rw [hfj] at hf; cases hf
          | j + 8, _, hv => hv
      · rw [upd_ne _ _ (by decide), upd_ne _ _ (by decide)]
        refine Q.two.on hO (by omega) fun b hb => ?_
        unfold FrX at hb ⊢
        rw [upd_same, upd_ne _ _ (by decide), upd_ne _ _ (by decide), upd_ne _ _ (by decide)] at hb
        rcases hb with hb | hb | hb | hb | hb
        · exact .inl (.inl hb)
        · exact .inl (.inr (.inl hb))
        · exact .inr ⟨by omega, by omega⟩
        · exact .inl (.inr (.inr (.inr (.inl hb))))
        · exact .inl (.inr (.inr (.inr (.inr hb))))
      · rw [upd_ne _ _ (by decide)] at h
        exact (Q.la h).keep fun b hb => hO b (hlt b (.inr (.inr (.inr (.inl ⟨h, hb⟩)))))
      · rw [upd_ne _ _ (by decide)] at h
        exact (Q.lb h).keep fun b hb => hO b (hlt b (.inr (.inr (.inr (.inr ⟨h, hb⟩)))))
      · rw [upd_ne _ _ (by decide)] at h
        rw [upd_ne _ _ (by decide)]
        exact ⟨(Q.a1 h).1, (hO _ (hlt A (.inr (.inl ⟨h, rfl⟩)))).trans (Q.a1 h).2⟩
      · rw [upd_ne _ _ (by decide), hx]
        exact ⟨hQs, hN⟩
      · rw [upd_ne _ _ (by decide)] at h
        have := hlt A (.inr (.inl ⟨h, rfl⟩))
        omega
    | 8, _ =>
      have hd := deps_of (l := [6, 2]) (by kernel_rfl) ho hdeps
      have e9 := F0 6 9 _ (hd 6 (by simp)) rfl rfl
      have e37 := F0 2 37 _ (hd 2 (by simp)) rfl rfl
      obtain ⟨z1, z2⟩ := Q.a1 (hd 6 (by simp))
      rw [hfj] at z2
      simp only [Bool.false_eq_true, if_false] at z2
      obtain ⟨sx, sz, rfl, _⟩ := (Q.la (hd 2 (by simp))).1
      have hO : ∀ b, b ≠ A → (w.setRow A #[.bool a.ok, .int .i64 a.n, .slice sx a.l.length sz]).heap[b]? = w.heap[b]? := fun b hb => setRow_other _ _ hb
      have hN := setRow_self (cells := #[.bool a.ok, .int .i64 a.n, .slice sx a.l.length sz]) z2
      have hZ : (w.setRow A #[.bool a.ok, .int .i64 a.n, .slice sx a.l.length sz]).heap.size = w.heap.size := setRow_size _ _ _
      have hin : FrX Fr f A B (.slice sx a.l.length sz) sb A := .inr (.inl ⟨hd 6 (by simp), rfl⟩)
      have hnF : ∀ b, Fr b → b ≠ A := fun b hb e => by
        have := hFW b hb
        omega
      clear hdeps hC hC' hcZ hcW hend
      simp only [tmN] at hr ⊢
      simp only [e9, e37, ansV]
      refine Walk.storeS 81 (.tmp 9) (.tmp 37) (ho_of (by conv => lhs; whnf) (by kernel_rfl)) (by rfl) (by decide) rfl A #[.bool a.ok, .int .i64 a.n, .slice sx a.l.length sz] _ 81 rfl rfl z2 (by kernel_rfl) (by rfl) (by simp [Value.oneCell']) (ap0 _) ?_
      walk_nrm
      refine hr _ _ ⟨u, A, B, .slice sx a.l.length sz, sb, ?_, facts_more F0 rfl, ⟨?_, fun h => ?_, fun h => ?_, fun h => ?_, fun h => ?_, fun h h2 => ?_, fun b hb => (hO b (hnF b hb)).trans (Q.old b hb), by omega⟩⟩
      · simp [tmN, e9, e37, ansV]
      · unfold FrX
        rw [upd_ne _ _ (by decide), upd_ne _ _ (by decide), upd_ne _ _ (by decide), upd_ne _ _ (by decide)]
        exact Q.two.own hZ fun b hb => hO b fun e => hb (e ▸ hin)
      · rw [upd_ne _ _ (by decide)] at h
        exact ⟨(Q.la h).1, row_ne (Q.la h).2 z2 hO⟩
      · rw [upd_ne _ _ (by decide)] at h
        exact ⟨(Q.lb h).1, row_ne (Q.lb h).2 z2 hO⟩
      · rw [upd_same, if_pos rfl]
        exact ⟨z1, hN⟩
      · rw [upd_ne _ _ (by decide)] at h
        rw [upd_ne _ _ (by decide)]
        exact ⟨(Q.b1 h).1, (hO _ (Ne.symm (Q.ne (hd 6 (by simp)) h))).trans (Q.b1 h).2⟩
      · rw [upd_ne _ _ (by decide)] at h h2
        exact Q.ne h h2
    | 9, _ =>
      have hd := deps_of (l := [7, 5]) (by kernel_rfl) ho hdeps
      have e10 := F0 7 10 _ (hd 7 (by simp)) rfl rfl
      have e40 := F0 5 40 _ (hd 5 (by simp)) rfl rfl
      obtain ⟨z1, z2⟩ := Q.b1 (hd 7 (by simp))
      rw [hfj] at z2
      simp only [Bool.false_eq_true, if_false] at z2
      obtain ⟨sx, sz, rfl, _⟩ := (Q.lb (hd 5 (by simp))).1
      have hO : ∀ b, b ≠ B → (w.setRow B #[.bool a.ok, .int .i64 a.n, .slice sx a.l.length sz]).heap[b]? = w.heap[b]? := fun b hb => setRow_other _ _ hb
      have hN := setRow_self (cells := #[.bool a.ok, .int .i64 a.n, .slice sx a.l.length sz]) z2
      have hZ : (w.setRow B #[.bool a.ok, .int .i64 a.n, .slice sx a.l.length sz]).heap.size = w.heap.size := setRow_size _ _ _
      have hin : FrX Fr f A B sa (.slice sx a.l.length sz) B := .inr (.inr (.inl ⟨hd 7 (by simp), rfl⟩))
      have hnF : ∀ b, Fr b → b ≠ B := fun b hb e => by
        have := hFW b hb
        omega
      clear hdeps hC hC' hcZ hcW hend
      simp only [tmN] at hr ⊢
      simp only [e10, e40, ansV]
      refine Walk.storeS 81 (.tmp 10) (.tmp 40) (ho_of (by conv => lhs; whnf) (by kernel_rfl)) (by rfl) (by decide) rfl B #[.bool a.ok, .int .i64 a.n, .slice sx a.l.length sz] _ 81 rfl rfl z2 (by kernel_rfl) (by rfl) (by simp [Value.oneCell']) (ap0 _) ?_
      walk_nrm
      refine hr _ _ ⟨u, A, B, sa, .slice sx a.l.length sz, ?_, facts_more F0 rfl, ⟨?_, fun h => ?_, fun h => ?_, fun h => ?_, fun h => ?_, fun h h2 => ?_, fun b hb => (hO b (hnF b hb)).trans (Q.old b hb), by omega⟩⟩
      · simp [tmN, e10, e40, ansV]
      · unfold FrX
        rw [upd_ne _ _ (by decide), upd_ne _ _ (by decide), upd_ne _ _ (by decide), upd_ne _ _ (by decide)]
        exact Q.two.own hZ fun b hb => hO b fun e => hb (e ▸ hin)
      · rw [upd_ne _ _ (by decide)] at h
        exact ⟨(Q.la h).1, row_ne (Q.la h).2 z2 hO⟩
      · rw [upd_ne _ _ (by decide)] at h
        exact ⟨(Q.lb h).1, row_ne (Q.lb h).2 z2 hO⟩
      · rw [upd_ne _ _ (by decide)] at h
        rw [upd_ne _ _ (by decide)]
        exact ⟨(Q.a1 h).1, (hO _ (Q.ne h (hd 7 (by simp)))).trans (Q.a1 h).2⟩
      · rw [upd_same, if_pos rfl]
        exact ⟨z1, hN⟩
      · rw [upd_ne _ _ (by decide)] at h h2
        exact Q.ne h h2
  · rintro f act w ⟨u, A, B, sa, sb, rfl, F0, Q⟩ hall
    have g : ∀ j, j < 10 → f j = true := fun j hj => hall j (by rw [size10_14]; exact hj)
    refine hend u A B sa sb w (F0 6 9 _ (g 6 (by decide)) rfl rfl) (F0 7 10 _ (g 7 (by decide)) rfl rfl) ?_
    obtain ⟨q1, q2, q3, q4, q5, q6, q7, q8⟩ := Q
    unfold FrX at q1
    rw [g 2 (by decide), g 5 (by decide), g 6 (by decide), g 7 (by decide)] at q1
    rw [g 8 (by decide)] at q4
    rw [g 9 (by decide)] at q5
    exact ⟨q1, fun _ => q2 (g 2 (by decide)), fun _ => q3 (g 5 (by decide)), fun _ => q4 (g 6 (by decide)), fun _ => q5 (g 7 (by decide)), fun _ _ => q6 (g 6 (by decide)) (g 7 (by decide)), q7, q8⟩
end
end
section
def nilE (p : Int) : Int := if gOK p then 6 else 1
theorem nilE_ne (p : Int) : nilE p ≠ 0 := by
  unfold nilE
  split <;> decide
section
variable {main : Bool} {V : Nat → Option Wait}
theorem ref_nil6 (p : Int) (hp : gOK p) (w : World) : CallV Try.prog main V 74 #[.pointer none, .int .i64 p] w (.int .i64 6) w := by
  have h1 : decide (p < 0) = false := decide_eq_false (by unfold gOK at hp; omega)
  have h2 : decide (64 ≤ p) = false := decide_eq_false (by unfold gOK at hp; omega)
  have h3 : ¬ 64 ≤ p := by unfold gOK at hp; omega
  have hp1 := fun w => run_eql_ptr (P := Try.prog) 74 undGate none w
  have hp2 := fun w es => ev_eql_ptr (P := Try.prog) 74 undGate none w es
  simp only [Option.isNone_none] at hp1
  clear hp
  refine callW_in Try.func74 code74_is fun fr cs => ?_
  simp only [Try.ntmps74, List.size_toArray, List.length_cons, List.length_nil, Nat.reduceAdd, Nat.reduceSub, Array.replicate_succ, Array.replicate_zero, List.push_toArray, List.append_toArray, List.nil_append, List.cons_append]
  repeat (first | refine Walk.c rfl ?_ | refine Walk.cRet ?_ | refine Walk.cEnd ?_ | (refine Walk.cReg ?_; simp only [size74_0, size74_1, size74_2, size74_3, size74_4, size74_5, List.range, List.range.loop]) | (refine Walk.oq ?_; try walk_nrm) | (refine Walk.un ?_; walk_nrm))
  exact Walk.ret1 rfl rfl Try.func74 rfl fun d => ⟨rfl, d, rfl⟩
theorem ref_nil (p : Int) (w : World) : CallV Try.prog main V 74 #[.pointer none, .int .i64 p] w (.int .i64 (nilE p)) w := by
  unfold nilE
  by_cases hp : gOK p
  · rw [if_pos hp]
    exact ref_nil6 p hp w
  · rw [if_neg hp]
    exact ref_no none p hp w
theorem join_nil (sv : Value) (p a : Int) (w : World) : CallV Try.prog main V 60 #[.pointer none, sv, .int .i64 p, .int .i64 a] w (.int .i64 (nilE p)) w := by
  have hr := ref_nil (main := main) (V := V) p w
  have hb : (nilE p != 0) = true := by simp [nilE_ne p]
  generalize nilE p = er at *
  refine callW_in Try.func60 code60_is fun fr cs => ?_
  simp only [Try.ntmps60, List.size_toArray, List.length_cons, List.length_nil, Nat.reduceAdd, Nat.reduceSub, Array.replicate_succ, Array.replicate_zero, List.push_toArray, List.append_toArray, List.nil_append, List.cons_append]
  repeat (first | refine Walk.c rfl ?_ | refine Walk.cRet ?_ | refine Walk.cEnd ?_ | (refine Walk.cReg ?_; simp only [size60_0, size60_1, size60_2, size60_3, size60_4, size60_5, size60_6, size60_7, size60_8, size60_9, List.range, List.range.loop]) | (refine Walk.oq ?_; try walk_nrm) | (refine Walk.un ?_; walk_nrm))
  refine Walk.callV (x := .int .i64 er) (W := w) ?_ (ho_of (by conv => lhs; whnf) (by kernel_rfl)) (by rfl) (by decide) rfl Try.func74 (by kernel_rfl) (by rfl) ?_
  · walk_nrm
    exact hr
  walk_nrm
  clear hr
  repeat (first | refine Walk.c rfl ?_ | refine Walk.cRet ?_ | refine Walk.cEnd ?_ | (refine Walk.cReg ?_; simp only [size60_0, size60_1, size60_2, size60_3, size60_4, size60_5, size60_6, size60_7, size60_8, size60_9, List.range, List.range.loop]) | (refine Walk.oq ?_; try walk_nrm) | (refine Walk.un ?_; walk_nrm))
  exact Walk.ret1 rfl rfl Try.func60 rfl fun d => ⟨rfl, d, rfl⟩
theorem leave_nil (sv : Value) (p : Int) (w : World) : CallV Try.prog main V 63 #[.pointer none, sv, .int .i64 p] w (.int .i64 (nilE p)) w := by
  have hr := ref_nil (main := main) (V := V) p w
  have hb : (nilE p != 0) = true := by simp [nilE_ne p]
  generalize nilE p = er at *
  refine callW_in Try.func63 code63_is fun fr cs => ?_
  simp only [Try.ntmps63, List.size_toArray, List.length_cons, List.length_nil, Nat.reduceAdd, Nat.reduceSub, Array.replicate_succ, Array.replicate_zero, List.push_toArray, List.append_toArray, List.nil_append, List.cons_append]
  repeat (first | refine Walk.c rfl ?_ | refine Walk.cRet ?_ | refine Walk.cEnd ?_ | (refine Walk.cReg ?_; simp only [size63_0, size63_1, size63_2, size63_3, size63_4, size63_5, size63_6, size63_7, size63_8, List.range, List.range.loop]) | (refine Walk.oq ?_; try walk_nrm) | (refine Walk.un ?_; walk_nrm))
  refine Walk.callV (x := .int .i64 er) (W := w) ?_ (ho_of (by conv => lhs; whnf) (by kernel_rfl)) (by rfl) (by decide) rfl Try.func74 (by kernel_rfl) (by rfl) ?_
  · walk_nrm
    exact hr
  walk_nrm
  clear hr
  repeat (first | refine Walk.c rfl ?_ | refine Walk.cRet ?_ | refine Walk.cEnd ?_ | (refine Walk.cReg ?_; simp only [size63_0, size63_1, size63_2, size63_3, size63_4, size63_5, size63_6, size63_7, size63_8, List.range, List.range.loop]) | (refine Walk.oq ?_; try walk_nrm) | (refine Walk.un ?_; walk_nrm))
  exact Walk.ret1 rfl rfl Try.func63 rfl fun d => ⟨rfl, d, rfl⟩
theorem set_nil (sv : Value) (p a : Int) (w : World) : CallV Try.prog main V 36 #[.pointer none, sv, .int .i64 p, .int .i64 a] w (.int .i64 (nilE p)) w := by
  have hr := ref_nil (main := main) (V := V) p w
  have hb : (nilE p != 0) = true := by simp [nilE_ne p]
  generalize nilE p = er at *
  refine callW_in Try.func36 code36_is fun fr cs => ?_
  simp only [Try.ntmps36, List.size_toArray, List.length_cons, List.length_nil, Nat.reduceAdd, Nat.reduceSub, Array.replicate_succ, Array.replicate_zero, List.push_toArray, List.append_toArray, List.nil_append, List.cons_append]
  repeat (first | refine Walk.c rfl ?_ | refine Walk.cRet ?_ | refine Walk.cEnd ?_ | (refine Walk.cReg ?_; simp only [size36_0, size36_1, size36_2, size36_3, size36_4, size36_5, List.range, List.range.loop]) | (refine Walk.oq ?_; try walk_nrm) | (refine Walk.un ?_; walk_nrm))
  refine Walk.callV (x := .int .i64 er) (W := w) ?_ (ho_of (by conv => lhs; whnf) (by kernel_rfl)) (by rfl) (by decide) rfl Try.func74 (by kernel_rfl) (by rfl) ?_
  · walk_nrm
    exact hr
  walk_nrm
  clear hr
  repeat (first | refine Walk.c rfl ?_ | refine Walk.cRet ?_ | refine Walk.cEnd ?_ | (refine Walk.cReg ?_; simp only [size36_0, size36_1, size36_2, size36_3, size36_4, size36_5, List.range, List.range.loop]) | (refine Walk.oq ?_; try walk_nrm) | (refine Walk.un ?_; walk_nrm))
  exact Walk.ret1 rfl rfl Try.func36 rfl fun d => ⟨rfl, d, rfl⟩
theorem get_nil (sv : Value) (p : Int) (w : World) : CallV Try.prog main V 71 #[.pointer none, sv, .int .i64 p] w (.tuple #[.int .i64 0, .int .i64 (nilE p)]) w := by
  have hr := ref_nil (main := main) (V := V) p w
  have hb : (nilE p != 0) = true := by simp [nilE_ne p]
  generalize nilE p = er at *
  refine callW_in Try.func71 code71_is fun fr cs => ?_
  simp only [Try.ntmps71, List.size_toArray, List.length_cons, List.length_nil, Nat.reduceAdd, Nat.reduceSub, Array.replicate_succ, Array.replicate_zero, List.push_toArray, List.append_toArray, List.nil_append, List.cons_append]
  repeat (first | refine Walk.c rfl ?_ | refine Walk.cRet ?_ | refine Walk.cEnd ?_ | (refine Walk.cReg ?_; simp only [size71_0, size71_1, size71_2, size71_3, size71_4, List.range, List.range.loop]) | (refine Walk.oq ?_; try walk_nrm) | (refine Walk.un ?_; walk_nrm))
  refine Walk.callV (x := .int .i64 er) (W := w) ?_ (ho_of (by conv => lhs; whnf) (by kernel_rfl)) (by rfl) (by decide) rfl Try.func74 (by kernel_rfl) (by rfl) ?_
  · walk_nrm
    exact hr
  walk_nrm
  clear hr
  repeat (first | refine Walk.c rfl ?_ | refine Walk.cRet ?_ | refine Walk.cEnd ?_ | (refine Walk.cReg ?_; simp only [size71_0, size71_1, size71_2, size71_3, size71_4, List.range, List.range.loop]) | (refine Walk.oq ?_; try walk_nrm) | (refine Walk.un ?_; walk_nrm))
  exact Walk.on2 rfl rfl Try.func71 rfl (.stop fun d => ⟨_, ⟨rfl, d, rfl⟩, rfl⟩)
theorem list_nil (sv : Value) (w : World) : CallV Try.prog main V 72 #[.pointer none, sv] w (.slice none 0 0) w := by
  have hp1 := fun w => run_eql_ptr (P := Try.prog) 74 undGate none w
  have hp2 := fun w es => ev_eql_ptr (P := Try.prog) 74 undGate none w es
  simp only [Option.isNone_none] at hp1
  refine callW_in Try.func72 code72_is fun fr cs => ?_
  simp only [Try.ntmps72, List.size_toArray, List.length_cons, List.length_nil, Nat.reduceAdd, Nat.reduceSub, Array.replicate_succ, Array.replicate_zero, List.push_toArray, List.append_toArray, List.nil_append, List.cons_append]
  repeat (first | refine Walk.c rfl ?_ | refine Walk.cRet ?_ | refine Walk.cEnd ?_ | (refine Walk.cReg ?_; simp only [size72_0, size72_1, size72_2, size72_3, List.range, List.range.loop]) | (refine Walk.oq ?_; try walk_nrm) | (refine Walk.un ?_; walk_nrm))
  exact Walk.ret1 rfl rfl Try.func72 rfl fun d => ⟨rfl, d, rfl⟩
theorem least_nil (sv : Value) (no : Int) (w : World) : CallV Try.prog main V 61 #[.pointer none, sv, .int .i64 no] w (.tuple #[.int .i64 no, .int .i64 (-1)]) w := by
  have hp1 := fun w => run_eql_ptr (P := Try.prog) 74 undGate none w
  have hp2 := fun w es => ev_eql_ptr (P := Try.prog) 74 undGate none w es
  simp only [Option.isNone_none] at hp1
  refine callW_in Try.func61 code61_is fun fr cs => ?_
  simp only [Try.ntmps61, List.size_toArray, List.length_cons, List.length_nil, Nat.reduceAdd, Nat.reduceSub, Array.replicate_succ, Array.replicate_zero, List.push_toArray, List.append_toArray, List.nil_append, List.cons_append]
  repeat (first | refine Walk.c rfl ?_ | refine Walk.cRet ?_ | refine Walk.cEnd ?_ | (refine Walk.cReg ?_; simp only [size61_0, size61_1, size61_2, size61_3, size61_4, size61_5, size61_6, size61_7, size61_8, size61_9, size61_10, size61_11, List.range, List.range.loop]) | (refine Walk.oq ?_; try walk_nrm) | (refine Walk.un ?_; walk_nrm))
  exact Walk.on2 rfl rfl Try.func61 rfl (.stop fun d => ⟨_, ⟨rfl, d, rfl⟩, rfl⟩)
theorem numbers_nil (w : World) : CallV Try.prog main V 35 #[.pointer none] w (.slice none 0 0) w := by
  have hp1 := fun w => run_eql_ptr (P := Try.prog) 74 undGate none w
  have hp2 := fun w es => ev_eql_ptr (P := Try.prog) 74 undGate none w es
  simp only [Option.isNone_none] at hp1
  refine callW_in Try.func35 code35_is fun fr cs => ?_
  simp only [Try.ntmps35, List.size_toArray, List.length_cons, List.length_nil, Nat.reduceAdd, Nat.reduceSub, Array.replicate_succ, Array.replicate_zero, List.push_toArray, List.append_toArray, List.nil_append, List.cons_append]
  repeat (first | refine Walk.c rfl ?_ | refine Walk.cRet ?_ | refine Walk.cEnd ?_ | (refine Walk.cReg ?_; simp only [size35_0, size35_1, size35_2, size35_3, size35_4, size35_5, size35_6, size35_7, size35_8, size35_9, List.range, List.range.loop]) | (refine Walk.oq ?_; try walk_nrm) | (refine Walk.un ?_; walk_nrm))
  exact Walk.ret1 rfl rfl Try.func35 rfl fun d => ⟨rfl, d, rfl⟩
theorem members_nil (w : World) : CallV Try.prog main V 34 #[.pointer none] w (.slice none 0 0) w := by
  have hr := list_nil (main := main) (V := V) .nilIface w
  refine callW_in Try.func34 code34_is fun fr cs => ?_
  simp only [Try.ntmps34, List.size_toArray, List.length_cons, List.length_nil, Nat.reduceAdd, Nat.reduceSub, Array.replicate_succ, Array.replicate_zero, List.push_toArray, List.append_toArray, List.nil_append, List.cons_append]
  repeat (first | refine Walk.c rfl ?_ | refine Walk.cRet ?_ | refine Walk.cEnd ?_ | (refine Walk.cReg ?_; simp only [size34_0, size34_1, List.range, List.range.loop]) | (refine Walk.oq ?_; try walk_nrm) | (refine Walk.un ?_; walk_nrm))
  refine Walk.callV (x := .slice none 0 0) (W := w) ?_ (ho_of (by conv => lhs; whnf) (by kernel_rfl)) (by rfl) (by decide) rfl Try.func72 (by kernel_rfl) (by rfl) ?_
  · walk_nrm
    exact hr
  walk_nrm
  clear hr
  repeat (first | refine Walk.c rfl ?_ | refine Walk.cRet ?_ | refine Walk.cEnd ?_ | (refine Walk.cReg ?_; simp only [size34_0, size34_1, List.range, List.range.loop]) | (refine Walk.oq ?_; try walk_nrm) | (refine Walk.un ?_; walk_nrm))
  exact Walk.ret1 rfl rfl Try.func34 rfl fun d => ⟨rfl, d, rfl⟩
theorem may_nil (sv : Value) (q z : Int) (w : World) : CallV Try.prog main V 62 #[.pointer none, sv, .int .i64 q, .int .i64 z] w (.tuple #[.bool true, .int .i64 (-1)]) w := by
  have hr := least_nil (main := main) (V := V) sv 0 w
  refine callW_in Try.func62 code62_is fun fr cs => ?_
  simp only [Try.ntmps62, List.size_toArray, List.length_cons, List.length_nil, Nat.reduceAdd, Nat.reduceSub, Array.replicate_succ, Array.replicate_zero, List.push_toArray, List.append_toArray, List.nil_append, List.cons_append]
  repeat (first | refine Walk.c rfl ?_ | refine Walk.cRet ?_ | refine Walk.cEnd ?_ | (refine Walk.cReg ?_; simp only [size62_0, size62_1, size62_2, size62_3, size62_4, List.range, List.range.loop]) | (refine Walk.oq ?_; try walk_nrm) | (refine Walk.un ?_; walk_nrm))
  refine Walk.callV (x := .tuple #[.int .i64 0, .int .i64 (-1)]) (W := w) ?_ (ho_of (by conv => lhs; whnf) (by kernel_rfl)) (by rfl) (by decide) rfl Try.func61 (by kernel_rfl) (by rfl) ?_
  · walk_nrm
    exact hr
  walk_nrm
  clear hr
  repeat (first | refine Walk.c rfl ?_ | refine Walk.cRet ?_ | refine Walk.cEnd ?_ | (refine Walk.cReg ?_; simp only [size62_0, size62_1, size62_2, size62_3, size62_4, List.range, List.range.loop]) | (refine Walk.oq ?_; try walk_nrm) | (refine Walk.un ?_; walk_nrm))
  exact Walk.on2 rfl rfl Try.func62 rfl (.stop fun d => ⟨_, ⟨rfl, d, rfl⟩, rfl⟩)
end
end
end Go.Proofs.Ytgfajibjedfkdaa
