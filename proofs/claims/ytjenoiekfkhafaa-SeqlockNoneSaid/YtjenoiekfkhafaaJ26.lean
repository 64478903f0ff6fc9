/- Part 26. -/
import Derived.Test.YtjenoiekfkhafaaJ25
set_option linter.unusedVariables false
set_option linter.unusedSimpArgs false
set_option maxHeartbeats 8000000
set_option maxRecDepth 100000
namespace Go.Proofs.Ytjenoiekfkhafaa
open Go.Conc Go.RowKit Go.Relay
open Go.ConcN (upd upd_ne upd_same)
section
structure Closing (f : FuncId) (t : Tmp) (v : Value) (g : Goroutine) : Prop where
  all : ∃ fr, g = G fr [] ∧ fr.mode = .returning ∧ fr.kind = .normal ∧ fr.defers = [] ∧ fr.fn = f ∧ fr.tmps.getD t undef = v
theorem fixed_run (c : Frame) (cs : List Frame) (w : World) : Runs (fun g w' => g = G (c.finish (.bool true)) cs ∧ (∀ b, b < w.heap.size → w'.heap[b]? = w.heap[b]?) ∧ w.heap.size ≤ w'.heap.size) (G (Frame.enter Try.prog 12 #[] .normal) (c :: cs)) w := by
  refine Runs.walk (fixed_in c cs w) ?_
  rintro _ w1 ⟨fr, rfl, O1, Z1, ha1, hw1, I1, hs1, hB⟩
  refine Runs.then (splay_any _ [1, 2] (by decide) (.slice (some ⟨w.heap.size + 3, 0, none⟩) 2 2) 99 (some ⟨w.heap.size + 3, 0, none⟩) (w.heap.size + 3) 0 2 2 (fun _ => rfl) (by decide) _ _ _ _ (some ⟨w.heap.size + 4, 0, none⟩) 9 fxSl (by decide) fr (c :: cs) w1 (fx_lsR hw1) I1 (fun j z hz => ⟨_, 0, rfl, hs1 j z hz⟩) (fun w' _ => firstOps_some _ 2 2 w' (by decide) (.inr ⟨_, rfl⟩))) ?_
  rintro _ w2 ⟨cells, H, rfl⟩
  have O2 := H.old
  have Z2 := H.size
  have hT := H.tr.tr
  rw [fx_state] at hT
  have l1 := (Array.getElem?_eq_some_iff.1 ha1).1
  refine Runs.walk (hB cells _ _ _ w2 hT (fx_run _) ((O2 _ l1).trans ha1)) ?_
  rintro _ w3 ⟨fr2, b, o, ac, b0, o0, tc0, sb, so, sc, v1, rfl, O3, Z3, C3, hw3, I3, hs3, hB3⟩
  refine Runs.then (splay_any _ [1, 2] (by decide) (.slice (some ⟨w2.heap.size + 3, 0, none⟩) 2 2) 99 (some ⟨w2.heap.size + 3, 0, none⟩) (w2.heap.size + 3) 0 2 2 (fun _ => rfl) (by decide) _ _ _ _ (some ⟨w2.heap.size + 4, 0, none⟩) 7 fySl (by decide) fr2 (c :: cs) w3 (fx_lsR hw3) I3 (fun j z hz => ⟨_, 0, rfl, hs3 j z hz⟩) (fun w' _ => firstOps_some _ 2 2 w' (by decide) (.inr ⟨_, rfl⟩))) ?_
  rintro _ w4 ⟨cells4, H4, rfl⟩
  have O4 := H4.old
  have Z4 := H4.size
  refine Runs.walk (hB3 cells4 _ _ _ _ w4 (C3.old O4) H4.tr.tr (fy_run _)) ?_
  rintro _ w5 ⟨rfl, O5, Z5⟩
  exact .now ⟨rfl, fun b hb => (O5 b (by omega)).trans ((O4 b (by omega)).trans ((O3 b (by omega)).trans ((O2 b (by omega)).trans (O1 b hb)))), by omega⟩
section
variable {main : Bool} {V : Nat → Option Wait} {Stop : Goroutine → World → Prop} {w : World} {b : Frame} {a : Act} {k : List Item} {cs : List Frame} {ops : Array Oper} {i : Nat} {rest : List Nat} {o : Oper}
theorem Walk.copied (s x : Operand) (ho : ops[i]? = some o) (hw : Region.wanted o (yielded ops a.tmps) = true) (hk : b.kind ≠ .early) (hop : o.op = .call { callee := .builtin .append, args := #[s, x], argTypes := #[22, 22] })
    (E : Nat) (hE : w.heap[E]? = some (.cells #[] 2)) (hap : Apart V E) (sl : Value) (vs : List Int) (hls : LsR sl vs w) (hn : vs.length ≤ 17592186044416) (hs : a.eval s = .slice (some ⟨E, 0, none⟩) 0 0) (hx : a.eval x = sl)
    (h : ∀ sa sc w', LsR (.slice sa vs.length sc) vs w' → (∀ b, b < w.heap.size → b ≠ E → w'.heap[b]? = w.heap[b]?) → w.heap.size ≤ w'.heap.size → Walk Try.prog main (DR V) Stop (G (b.at (a.put o.dst (.slice sa vs.length sc)) (.inRegion ops rest :: k)) cs) w') :
    Walk Try.prog main (DR V) Stop (G (b.at a (.inRegion ops (i :: rest) :: k)) cs) w := by
  obtain ⟨xa, xc, rfl, hc, hnn, hcells⟩ := hls
  have hi1 := Option.some_get (show (Try.prog.info? 2).isSome = true by kernel_rfl)
  cases vs with
  | nil =>
    have hz := fun w es => run_app0 huI64s hi1.symm o.type ⟨E, 0, none⟩ xa xc w es
    refine Walk.opq ho hw hk (fun dd e he => ?_) (fun dd K hK => ?_)
    · rw [events_append_op s x _ hop hs hx, List.length_nil, (hz (w.at dd) #[]).2] at he
      simp at he
    · exact uponK_append s x _ hop hs hx (hz (w.at dd) #[]).1 (hK _ (h (some ⟨E, 0, none⟩) 0 w ⟨_, _, rfl, Nat.le_refl _, fun e => (by cases e), fun j z hj => (by simp at hj)⟩ (fun _ _ _ => rfl) (Nat.le_refl _)))
  | cons z vs =>
    obtain ⟨xb, xo, e0, _⟩ := hcells 0 z rfl
    have hown : w.ownsRow 0 2 1 (.slice (some ⟨E, 0, none⟩) 0 0) 0 [] := ⟨rfl, .inr ⟨E, 0, #[], rfl, Nat.zero_le _, hE, Nat.le_refl _, by decide, rfl, rfl⟩⟩
    refine Walk.append s x 22 ho hw hk hop 0 2 _ (.int .i64 0) 1 8 huI64s hi1.symm (by rfl) (by rfl) (by rfl) (by rfl) (by decide) (.slice (some ⟨E, 0, none⟩) 0 0) 0 [] hs hown ⟨xb, xo, none⟩ (z :: vs).length xc ((z :: vs).map fun z => .int .i64 z) (by rw [hx, e0]) (by simp) (fun j u hu => ?_) (fun u hu => ?_) (by simp) (by simp only [maxLen]; omega) (by omega) (Nat.zero_le _) (fun g hg => ?_) (fun g cap w' hown' hgr hat hlt => ?_)
    · rw [List.getElem?_map, Option.map_eq_some_iff] at hu
      obtain ⟨y, hy, rfl⟩ := hu
      obtain ⟨b', off', e, h'⟩ := hcells j y hy
      rw [e0] at e
      obtain ⟨rfl, rfl, _⟩ := Addr.mk.inj (Option.some.inj e)
      rw [add_none]; exact h'
    · obtain ⟨y, _, rfl⟩ := List.mem_map.1 hu
      rfl
    · have hg : E = g := Option.some.inj hg
      rw [← hg]; exact hap
    · rw [Nat.zero_add] at hown' ⊢
      rw [List.nil_append] at hown'
      have hnum := numA_of (e := 2) (base := 0) (ta := some ⟨g, 0, none⟩) (m := (z :: vs).length) (tc := cap) (l := z :: vs) hown'
      refine h (some ⟨g, 0, none⟩) cap w' ⟨_, _, rfl, ?_, fun e => (by cases e), fun j z hj => hnum j z hj⟩ (fun b hb hne => hgr.block b hb fun e => hne (Option.some.inj e)) hgr.size
      rcases hown'.2 with ⟨e, _⟩ | ⟨g', cap', cur, e, _, _, hle, _⟩
      · cases e
      · injection e with _ _ e
        rw [e]; exact hle
end
theorem valsIn_getD (k : Nat) (vs : List Int) : ValsIn k (fun i => vs.getD i 0) vs := fun i hi => by
  unfold padL
  by_cases h : i < vs.length
  · rw [List.getElem?_append_left (by simp; omega), List.getElem?_take, if_pos (by omega)]
    simp [h]
  · rw [List.getElem?_append_right (by simp; omega), List.getElem?_replicate, if_pos (by simp; omega)]
    simp [h]
end
noncomputable def reg5_0 : Array Oper := match Try.f5.body with | some (.seq (.region _ ops _) _) => ops | _ => #[]
theorem size5_0 : reg5_0.size = 1 := by kernel_rfl
noncomputable def reg5_1 : Array Oper := match Try.f5.body with | some (.seq _ (.seq (.seq (.region _ ops _) _) _)) => ops | _ => #[]
theorem size5_1 : reg5_1.size = 2 := by kernel_rfl
noncomputable def reg5_2 : Array Oper := match Try.f5.body with | some (.seq _ (.seq (.seq _ (.cond _ (.seq (.region _ ops _) _) _)) _)) => ops | _ => #[]
theorem size5_2 : reg5_2.size = 1 := by kernel_rfl
noncomputable def reg5_3 : Array Oper := match Try.f5.body with | some (.seq _ (.seq _ (.seq (.region _ ops _) _))) => ops | _ => #[]
theorem size5_3 : reg5_3.size = 3 := by kernel_rfl
noncomputable def reg5_4 : Array Oper := match Try.f5.body with | some (.seq _ (.seq _ (.seq _ (.seq (.seq (.region _ ops _) _) _)))) => ops | _ => #[]
theorem size5_4 : reg5_4.size = 2 := by kernel_rfl
noncomputable def reg5_5 : Array Oper := match Try.f5.body with | some (.seq _ (.seq _ (.seq _ (.seq (.seq _ (.cond _ (.seq (.region _ ops _) _) _)) _)))) => ops | _ => #[]
theorem size5_5 : reg5_5.size = 1 := by kernel_rfl
noncomputable def reg5_6 : Array Oper := match Try.f5.body with | some (.seq _ (.seq _ (.seq _ (.seq _ (.seq (.region _ ops _) _))))) => ops | _ => #[]
theorem size5_6 : reg5_6.size = 3 := by kernel_rfl
noncomputable def reg5_7 : Array Oper := match Try.f5.body with | some (.seq _ (.seq _ (.seq _ (.seq _ (.seq _ (.seq (.seq (.region _ ops _) _) _)))))) => ops | _ => #[]
theorem size5_7 : reg5_7.size = 22 := by kernel_rfl
noncomputable def reg5_8 : Array Oper := match Try.f5.body with | some (.seq _ (.seq _ (.seq _ (.seq _ (.seq _ (.seq (.seq _ (.cond _ (.seq (.region _ ops _) _) _)) _)))))) => ops | _ => #[]
theorem size5_8 : reg5_8.size = 1 := by kernel_rfl
noncomputable def reg5_9 : Array Oper := match Try.f5.body with | some (.seq _ (.seq _ (.seq _ (.seq _ (.seq _ (.seq _ (.seq (.region _ ops _) _))))))) => ops | _ => #[]
theorem size5_9 : reg5_9.size = 7 := by kernel_rfl
noncomputable def reg5_10 : Array Oper := match Try.f5.body with | some (.seq _ (.seq _ (.seq _ (.seq _ (.seq _ (.seq _ (.seq _ (.seq (.seq (.region _ ops _) _) _)))))))) => ops | _ => #[]
theorem size5_10 : reg5_10.size = 8 := by kernel_rfl
noncomputable def reg5_11 : Array Oper := match Try.f5.body with | some (.seq _ (.seq _ (.seq _ (.seq _ (.seq _ (.seq _ (.seq _ (.seq (.seq _ (.cond _ (.seq (.region _ ops _) _) _)) _)))))))) => ops | _ => #[]
theorem size5_11 : reg5_11.size = 1 := by kernel_rfl
noncomputable def reg5_12 : Array Oper := match Try.f5.body with | some (.seq _ (.seq _ (.seq _ (.seq _ (.seq _ (.seq _ (.seq _ (.seq _ (.seq (.seq (.region _ ops _) _) _))))))))) => ops | _ => #[]
theorem size5_12 : reg5_12.size = 1 := by kernel_rfl
noncomputable def reg5_13 : Array Oper := match Try.f5.body with | some (.seq _ (.seq _ (.seq _ (.seq _ (.seq _ (.seq _ (.seq _ (.seq _ (.seq (.seq _ (.block _ (.loop (.seq (.seq (.region _ ops _) _) _)))) _))))))))) => ops | _ => #[]
theorem size5_13 : reg5_13.size = 3 := by kernel_rfl
noncomputable def reg5_15 : Array Oper := match Try.f5.body with | some (.seq _ (.seq _ (.seq _ (.seq _ (.seq _ (.seq _ (.seq _ (.seq _ (.seq (.seq _ (.block _ (.loop (.seq _ (.seq (.block _ (.seq (.region _ ops _) _)) _))))) _))))))))) => ops | _ => #[]
theorem size5_15 : reg5_15.size = 1 := by kernel_rfl
noncomputable def reg5_16 : Array Oper := match Try.f5.body with | some (.seq _ (.seq _ (.seq _ (.seq _ (.seq _ (.seq _ (.seq _ (.seq _ (.seq (.seq _ (.block _ (.loop (.seq _ (.seq (.block _ (.seq _ (.seq (.seq (.region _ ops _) _) _))) _))))) _))))))))) => ops | _ => #[]
theorem size5_16 : reg5_16.size = 4 := by kernel_rfl
noncomputable def reg5_17 : Array Oper := match Try.f5.body with | some (.seq _ (.seq _ (.seq _ (.seq _ (.seq _ (.seq _ (.seq _ (.seq _ (.seq (.seq _ (.block _ (.loop (.seq _ (.seq (.block _ (.seq _ (.seq (.seq _ (.cond _ (.region _ ops _) _)) _))) _))))) _))))))))) => ops | _ => #[]
theorem size5_17 : reg5_17.size = 7 := by kernel_rfl
noncomputable def reg5_18 : Array Oper := match Try.f5.body with | some (.seq _ (.seq _ (.seq _ (.seq _ (.seq _ (.seq _ (.seq _ (.seq _ (.seq (.seq _ (.block _ (.loop (.seq _ (.seq (.block _ (.seq _ (.seq _ (.seq (.seq (.region _ ops _) _) _)))) _))))) _))))))))) => ops | _ => #[]
theorem size5_18 : reg5_18.size = 4 := by kernel_rfl
noncomputable def reg5_19 : Array Oper := match Try.f5.body with | some (.seq _ (.seq _ (.seq _ (.seq _ (.seq _ (.seq _ (.seq _ (.seq _ (.seq (.seq _ (.block _ (.loop (.seq _ (.seq (.block _ (.seq _ (.seq _ (.seq (.seq _ (.cond _ (.region _ ops _) _)) _)))) _))))) _))))))))) => ops | _ => #[]
theorem size5_19 : reg5_19.size = 7 := by kernel_rfl
noncomputable def reg5_20 : Array Oper := match Try.f5.body with | some (.seq _ (.seq _ (.seq _ (.seq _ (.seq _ (.seq _ (.seq _ (.seq _ (.seq (.seq _ (.block _ (.loop (.seq _ (.seq (.block _ (.seq _ (.seq _ (.seq _ (.seq (.region _ ops _) _))))) _))))) _))))))))) => ops | _ => #[]
theorem size5_20 : reg5_20.size = 6 := by kernel_rfl
noncomputable def reg5_21 : Array Oper := match Try.f5.body with | some (.seq _ (.seq _ (.seq _ (.seq _ (.seq _ (.seq _ (.seq _ (.seq _ (.seq (.seq _ (.block _ (.loop (.seq _ (.seq (.block _ (.seq _ (.seq _ (.seq _ (.seq _ (.cond _ (.seq (.region _ ops _) _) _)))))) _))))) _))))))))) => ops | _ => #[]
theorem size5_21 : reg5_21.size = 1 := by kernel_rfl
noncomputable def reg5_14 : Array Oper := match Try.f5.body with | some (.seq _ (.seq _ (.seq _ (.seq _ (.seq _ (.seq _ (.seq _ (.seq _ (.seq (.seq _ (.block _ (.loop (.seq _ (.seq _ (.region _ ops _)))))) _))))))))) => ops | _ => #[]
theorem size5_14 : reg5_14.size = 3 := by kernel_rfl
noncomputable def reg5_22 : Array Oper := match Try.f5.body with | some (.seq _ (.seq _ (.seq _ (.seq _ (.seq _ (.seq _ (.seq _ (.seq _ (.seq _ (.seq (.region _ ops _) _)))))))))) => ops | _ => #[]
theorem size5_22 : reg5_22.size = 1 := by kernel_rfl
theorem code5_is : Try.f5.body = some (.seq (.region 0 reg5_0 false) (.seq (.seq (.region 1 reg5_1 false) (.cond (.tmp 14 ) (.seq (.region 2 reg5_2 false) (.ret)) (.skip))) (.seq (.region 3 reg5_3 false) (.seq (.seq (.region 4 reg5_4 false) (.cond (.tmp 18 ) (.seq (.region 5 reg5_5 false) (.ret)) (.skip))) (.seq (.region 6 reg5_6 false) (.seq (.seq (.region 7 reg5_7 false) (.cond (.tmp 42 ) (.seq (.region 8 reg5_8 false) (.ret)) (.skip))) (.seq (.region 9 reg5_9 false) (.seq (.seq (.region 10 reg5_10 false) (.cond (.tmp 55 ) (.seq (.region 11 reg5_11 false) (.ret)) (.skip))) (.seq (.seq (.region 12 reg5_12 false) (.block 0 (.loop (.seq (.seq (.region 13 reg5_13 false) (.cond (.tmp 58 ) (.skip) (.exit 0))) (.seq (.block 1 (.seq (.region 15 reg5_15 false) (.seq (.seq (.region 16 reg5_16 false) (.cond (.tmp 64 ) (.region 17 reg5_17 false) (.skip))) (.seq (.seq (.region 18 reg5_18 false) (.cond (.tmp 74 ) (.region 19 reg5_19 false) (.skip))) (.seq (.region 20 reg5_20 false) (.cond (.tmp 86 ) (.seq (.region 21 reg5_21 false) (.ret)) (.skip))))))) (.region 14 reg5_14 false)))))) (.seq (.region 22 reg5_22 false) (.ret))))))))))) := by kernel_rfl
noncomputable def hdSh (s1 s2 : Value) (B n i : Nat) (u : Nat → Value) : Frame :=
  (base 5).at { tmps := #[u 0, s1, s2, u 3, u 4, u 5, u 6, u 7, .int .i64 n, .slice (some ⟨B, 0, none⟩) n n, u 10, .int .i64 i, u 12, u 13, u 14, u 15, u 16, u 17, u 18, u 19, u 20, u 21, u 22, u 23, u 24, u 25, u 26, u 27, u 28, u 29, u 30, u 31, u 32, u 33, u 34, u 35, u 36, u 37, u 38, u 39, u 40, u 41, u 42, u 43, u 44, u 45, u 46, u 47, u 48, u 49, u 50, u 51, u 52, u 53, u 54, u 55, u 56, u 57, u 58, u 59, u 60, u 61, u 62, u 63, u 64, u 65, u 66, u 67, u 68, u 69, u 70, u 71, u 72, u 73, u 74, u 75, u 76, u 77, u 78, u 79, u 80, u 81, u 82, u 83, u 84, u 85, u 86], defers := [] } [.code (.seq (.seq (.region 13 reg5_13 false) (.cond (.tmp 58 ) (.skip) (.exit 0))) (.seq (.block 1 (.seq (.region 15 reg5_15 false) (.seq (.seq (.region 16 reg5_16 false) (.cond (.tmp 64 ) (.region 17 reg5_17 false) (.skip))) (.seq (.seq (.region 18 reg5_18 false) (.cond (.tmp 74 ) (.region 19 reg5_19 false) (.skip))) (.seq (.region 20 reg5_20 false) (.cond (.tmp 86 ) (.seq (.region 21 reg5_21 false) (.ret)) (.skip))))))) (.region 14 reg5_14 false))), .inLoop (.seq (.seq (.region 13 reg5_13 false) (.cond (.tmp 58 ) (.skip) (.exit 0))) (.seq (.block 1 (.seq (.region 15 reg5_15 false) (.seq (.seq (.region 16 reg5_16 false) (.cond (.tmp 64 ) (.region 17 reg5_17 false) (.skip))) (.seq (.seq (.region 18 reg5_18 false) (.cond (.tmp 74 ) (.region 19 reg5_19 false) (.skip))) (.seq (.region 20 reg5_20 false) (.cond (.tmp 86 ) (.seq (.region 21 reg5_21 false) (.ret)) (.skip))))))) (.region 14 reg5_14 false))), .inBlock 0, .code (.seq (.region 22 reg5_22 false) (.ret))]
def shV (vs us : List Int) (i : Nat) : Int := IntKind.i64.wrap (vs.getD i 0 + us.getD i 0)
def shS (k : Nat) (s : Sq) (vs us : List Int) : Sq := sqDone k (sqDone k s false fun i => vs.getD i 0) true fun i => us.getD i 0
theorem shS_words (k : Nat) (s : Sq) (vs us : List Int) : wdL k (shS k s vs us) = (List.range (k + 1)).map (shV vs us) := by
  unfold wdL
  refine List.map_congr_left fun i hi => ?_
  have hi := List.mem_range.1 hi
  show (if i < k + 1 then layV true (if i < k + 1 then layV false (s.w i) (vs.getD i 0) else s.w i) (us.getD i 0) else _) = _
  rw [if_pos hi, if_pos hi]
  rfl
theorem sq0_even (vs : List Int) : ¬ sqOdd (sq0 vs).v := by
  have h : decide (¬ sqOdd 0) = true := by decide
  exact of_decide_eq_true h
theorem sq1_even (k : Nat) (vs : List Int) (ad : Bool) (xs : Nat → Int) : ¬ sqOdd (sqDone k (sq0 vs) ad xs).v := by
  have h : decide (¬ sqOdd (IntKind.i64.wrap (0 + 2))) = true := by kernel_rfl
  exact of_decide_eq_true h
theorem sq2_even (k : Nat) (vs : List Int) (ad ad2 : Bool) (xs ys : Nat → Int) : ¬ sqOdd (sqDone k (sqDone k (sq0 vs) ad xs) ad2 ys).v := by
  have h : decide (¬ sqOdd (IntKind.i64.wrap (IntKind.i64.wrap (0 + 2) + 2))) = true := by kernel_rfl
  exact of_decide_eq_true h
theorem wrap_add (x y : Int) : IntKind.i64.wrap (IntKind.i64.wrap x + y) = IntKind.i64.wrap (x + y) := by
  simp only [IntKind.wrap_i64]
  omega
theorem sho_in (xsl : Value) (xs : List Int) (hxn : xs.length ≤ 17592186044416) (vsl : Value) (vs : List Int) (hvn : vs.length ≤ 17592186044416) (usl : Value) (us : List Int) (hun : us.length ≤ 17592186044416) (rs : List Int) (hrs : rs = (List.range (sqK xs.length + 1)).map (shV vs us)) (w : World) :
    Walk Try.prog true (DR (fun _ => none)) (fun g w' => ∃ fr, g = G (Frame.enter Try.prog 12 #[] .normal) [fr] ∧ (∃ d, w' = w.at d) ∧ ∀ w1, LsR xsl xs w1 → LsR vsl vs w1 → LsR usl us w1 →
      Walk Try.prog true (DR (fun _ => none)) (fun g w' => ∃ B, (∃ u, g = G (hdSh vsl usl B (sqK xs.length + 1) 0 u) []) ∧ NumB w' B rs ∧ (∀ b, b < w1.heap.size → w'.heap[b]? = w1.heap[b]?) ∧ w1.heap.size ≤ w'.heap.size) (G (fr.finish (.bool true)) []) w1)
    (G (Frame.enter Try.prog 5 #[xsl, vsl, usl] .normal) []) w := by
  have hA : ∀ b, Apart (fun _ => none) b := fun b => ⟨fun _ _ _ _ h => (by cases h), fun _ _ h => (by cases h)⟩
  rw [enter_at _ Try.func5 code5_is]
  simp only [Try.ntmps5, List.size_toArray, List.length_cons, List.length_nil, Nat.reduceAdd, Nat.reduceSub, Array.replicate_succ, Array.replicate_zero, List.push_toArray, List.append_toArray, List.nil_append, List.cons_append]
  repeat (first | refine Walk.c rfl ?_ | refine Walk.cRet ?_ | refine Walk.cEnd ?_ | (refine Walk.cReg ?_; simp only [size5_0, size5_1, size5_2, size5_3, size5_4, size5_5, size5_6, size5_7, size5_8, size5_9, size5_10, size5_11, size5_12, size5_13, size5_15, size5_16, size5_17, size5_18, size5_19, size5_20, size5_21, size5_14, size5_22, List.range, List.range.loop]) | (refine Walk.oq ?_; try walk_nrm) | (refine Walk.un ?_; walk_nrm))
  refine Walk.callE (ho_of (by conv => lhs; whnf) (by kernel_rfl)) (by rfl) (by decide) rfl Try.func12 (by kernel_rfl) (by rfl) ?_
  walk_nrm
  refine .stop fun d => ⟨_, rfl, ⟨d, rfl⟩, fun w1 hx1 hv1 hu1 => ?_⟩
  have hnew := new_w (main := true) (V := fun _ => none) w1 xsl xs hx1 hxn (fun b _ => hA b)
  obtain ⟨hk15, hkn⟩ := sqK_le xs.length
  have hmx := @events_max_ints Try.prog
  have hmn := @events_min_ints Try.prog
  have hq : min (max (xs.length : Int) 1) 16 = (sqK xs.length : Int) + 1 := by omega
  have e0 := sq0_even xs
  have e1 := sq1_even (sqK xs.length) xs false (fun i => vs.getD i 0)
  have e2 := sq2_even (sqK xs.length) xs false true (fun i => vs.getD i 0) (fun i => us.getD i 0)
  have hwd := shS_words (sqK xs.length) (sq0 xs) vs us
  unfold shS at hwd
  rw [← hrs] at hwd
  clear hrs
  obtain ⟨xa, xc, rfl, hxr⟩ := hx1
  clear hxr hkn
  generalize sq0 xs = s0 at *
  generalize sqK xs.length = k at *
  refine Walk.finish (ho_of (by conv => lhs; whnf) (by kernel_rfl)) ?_
  walk_nrm
  repeat (first | refine Walk.c rfl ?_ | refine Walk.cRet ?_ | refine Walk.cEnd ?_ | (refine Walk.cReg ?_; simp only [size5_0, size5_1, size5_2, size5_3, size5_4, size5_5, size5_6, size5_7, size5_8, size5_9, size5_10, size5_11, size5_12, size5_13, size5_15, size5_16, size5_17, size5_18, size5_19, size5_20, size5_21, size5_14, size5_22, List.range, List.range.loop]) | (refine Walk.oq ?_; try walk_nrm) | (refine Walk.un ?_; walk_nrm))
  refine Walk.callW (Post := fun v w' => v = .pointer (some ⟨w1.heap.size, 0, none⟩) ∧ SqI w1.heap.size k s0 w' ∧ (∀ b, b < w1.heap.size → w'.heap[b]? = w1.heap[b]?) ∧ w1.heap.size < w'.heap.size) ?_ (ho_of (by conv => lhs; whnf) (by kernel_rfl)) (by rfl) (by decide) rfl Try.func16 (by kernel_rfl) (by rfl) ?_
  · walk_nrm
    exact hnew
  rintro v w2 ⟨rfl, I2, O2, Z2⟩
  have hcu := fun (W' : World) (h : ∀ b, b < w1.heap.size → W'.heap[b]? = w1.heap[b]?) => hu1.same h
  have hv2 := hv1.same O2
  have hlen := len_w (main := true) (V := fun _ => none) w2 I2
  generalize hN : w1.heap.size = N at *
  have hq1 := fun w => run_eql_ptr (P := Try.prog) 35 undLock (some ⟨N, 0, none⟩) w
  have hq2 := fun w es => ev_eql_ptr (P := Try.prog) 35 undLock (some ⟨N, 0, none⟩) w es
  simp only [Option.isNone_some] at hq1
  obtain ⟨va, vc, rfl, _⟩ := id hv1
  obtain ⟨ua, uc, rfl, _⟩ := id hu1
  clear hnew hv1 hu1
  walk_nrm
  repeat (first | refine Walk.c rfl ?_ | refine Walk.cRet ?_ | refine Walk.cEnd ?_ | (refine Walk.cReg ?_; simp only [size5_0, size5_1, size5_2, size5_3, size5_4, size5_5, size5_6, size5_7, size5_8, size5_9, size5_10, size5_11, size5_12, size5_13, size5_15, size5_16, size5_17, size5_18, size5_19, size5_20, size5_21, size5_14, size5_22, List.range, List.range.loop]) | (refine Walk.oq ?_; try walk_nrm) | (refine Walk.un ?_; walk_nrm))
  refine Walk.callV (x := .int .i64 ((k : Int) + 1)) (W := w2) ?_ (ho_of (by conv => lhs; whnf) (by kernel_rfl)) (by rfl) (by decide) rfl Try.func17 (by kernel_rfl) (by rfl) ?_
  · walk_nrm
    exact hlen
  clear hlen
  walk_nrm
  repeat (first | refine Walk.c rfl ?_ | refine Walk.cRet ?_ | refine Walk.cEnd ?_ | (refine Walk.cReg ?_; simp only [size5_0, size5_1, size5_2, size5_3, size5_4, size5_5, size5_6, size5_7, size5_8, size5_9, size5_10, size5_11, size5_12, size5_13, size5_15, size5_16, size5_17, size5_18, size5_19, size5_20, size5_21, size5_14, size5_22, List.range, List.range.loop]) | (refine Walk.oq ?_; try walk_nrm) | (refine Walk.un ?_; walk_nrm))
  (refine Walk.oa ?_; try walk_nrm)
  have s3 : (w2.alloc (.cells #[] 2)).heap.size = w2.heap.size + 1 := by simp
  have o3 : ∀ b, b < w2.heap.size → (w2.alloc (.cells #[] 2)).heap[b]? = w2.heap[b]? := fun b hb => heap_new_lt _ _ hb
  have d3 := heap_alloc_new w2 (.cells #[] 2)
  have I3 := I2.old (w' := w2.alloc (.cells #[] 2)) (o3 N Z2)
  have hv3 := hv2.same o3
  generalize w2.alloc (.cells #[] 2) = w3 at *
  generalize hE : w2.heap.size = E at *
  repeat (first | refine Walk.c rfl ?_ | refine Walk.cRet ?_ | refine Walk.cEnd ?_ | (refine Walk.cReg ?_; simp only [size5_0, size5_1, size5_2, size5_3, size5_4, size5_5, size5_6, size5_7, size5_8, size5_9, size5_10, size5_11, size5_12, size5_13, size5_15, size5_16, size5_17, size5_18, size5_19, size5_20, size5_21, size5_14, size5_22, List.range, List.range.loop]) | (refine Walk.oq ?_; try walk_nrm) | (refine Walk.un ?_; walk_nrm))
  refine Walk.copied (.tmp 29) (.tmp 30) (ho_of (by conv => lhs; whnf) (by kernel_rfl)) (by rfl) (by decide) rfl E d3 (hA E) (.slice va vs.length vc) vs hv3 hvn rfl rfl (fun sa sc w4 hl4 O4 Z4 => ?_)
  have I4 := I3.old (O4 N (by omega) (by omega))
  have hwr := lwrite_w (main := true) (V := fun _ => none) hA I4 e0 1 _ vs hl4 _ (valsIn_getD k vs)
  have u4 : ∀ b, b < N → w4.heap[b]? = w1.heap[b]? := fun b hb => (O4 b (by omega) (by omega)).trans ((o3 b (by omega)).trans (O2 b hb))
  clear hv2 hv3 d3 O4 o3 O2 I2 I3
  walk_nrm
  repeat (first | refine Walk.c rfl ?_ | refine Walk.cRet ?_ | refine Walk.cEnd ?_ | (refine Walk.cReg ?_; simp only [size5_0, size5_1, size5_2, size5_3, size5_4, size5_5, size5_6, size5_7, size5_8, size5_9, size5_10, size5_11, size5_12, size5_13, size5_15, size5_16, size5_17, size5_18, size5_19, size5_20, size5_21, size5_14, size5_22, List.range, List.range.loop]) | (refine Walk.oq ?_; try walk_nrm) | (refine Walk.un ?_; walk_nrm))
  refine Walk.callP (Post := fun v w' => v = .bool true ∧ Solo N k (sqDone k s0 false fun i => vs.getD i 0) w4 w') ?_ (ho_of (by conv => lhs; whnf) (by kernel_rfl)) (by rfl) (by decide) rfl Try.func23 (by kernel_rfl) (by rfl) ⟨rfl, rfl, _, Try.func5⟩ ?_
  · walk_nrm
    exact hwr
  rintro v w5 ⟨rfl, H5⟩
  have I5 := H5.I
  have z5 := H5.size
  have u5 : ∀ b, b < N → w5.heap[b]? = w1.heap[b]? := fun b hb => (H5.old b (by omega) (by omega)).trans (u4 b hb)
  clear hwr hl4 H5 I4
  walk_nrm
  repeat (first | refine Walk.c rfl ?_ | refine Walk.cRet ?_ | refine Walk.cEnd ?_ | (refine Walk.cReg ?_; simp only [size5_0, size5_1, size5_2, size5_3, size5_4, size5_5, size5_6, size5_7, size5_8, size5_9, size5_10, size5_11, size5_12, size5_13, size5_15, size5_16, size5_17, size5_18, size5_19, size5_20, size5_21, size5_14, size5_22, List.range, List.range.loop]) | (refine Walk.oq ?_; try walk_nrm) | (refine Walk.un ?_; walk_nrm))
  (refine Walk.oa ?_; try walk_nrm)
  have s6 : (w5.alloc (.cells #[] 2)).heap.size = w5.heap.size + 1 := by simp
  have o6 : ∀ b, b < w5.heap.size → (w5.alloc (.cells #[] 2)).heap[b]? = w5.heap[b]? := fun b hb => heap_new_lt _ _ hb
  have d6 := heap_alloc_new w5 (.cells #[] 2)
  have I6 := I5.old (w' := w5.alloc (.cells #[] 2)) (o6 N (by omega))
  have u6 : ∀ b, b < N → (w5.alloc (.cells #[] 2)).heap[b]? = w1.heap[b]? := fun b hb => (o6 b (by omega)).trans (u5 b hb)
  have hu6 := hcu _ u6
  generalize w5.alloc (.cells #[] 2) = w6 at *
  generalize hE6 : w5.heap.size = E6 at *
  repeat (first | refine Walk.c rfl ?_ | refine Walk.cRet ?_ | refine Walk.cEnd ?_ | (refine Walk.cReg ?_; simp only [size5_0, size5_1, size5_2, size5_3, size5_4, size5_5, size5_6, size5_7, size5_8, size5_9, size5_10, size5_11, size5_12, size5_13, size5_15, size5_16, size5_17, size5_18, size5_19, size5_20, size5_21, size5_14, size5_22, List.range, List.range.loop]) | (refine Walk.oq ?_; try walk_nrm) | (refine Walk.un ?_; walk_nrm))
  refine Walk.copied (.tmp 37) (.tmp 38) (ho_of (by conv => lhs; whnf) (by kernel_rfl)) (by rfl) (by decide) rfl E6 d6 (hA E6) (.slice ua us.length uc) us hu6 hun rfl rfl (fun sa2 sc2 w7 hl7 O7 Z7 => ?_)
  have I7 := I6.old (O7 N (by omega) (by omega))
  have hwr := ladd_w (main := true) (V := fun _ => none) hA I7 e1 0 _ us hl7 _ (valsIn_getD k us)
  have u7 : ∀ b, b < N → w7.heap[b]? = w1.heap[b]? := fun b hb => (O7 b (by omega) (by omega)).trans (u6 b hb)
  clear hu6 d6 O7 o6 I5 I6
  walk_nrm
  repeat (first | refine Walk.c rfl ?_ | refine Walk.cRet ?_ | refine Walk.cEnd ?_ | (refine Walk.cReg ?_; simp only [size5_0, size5_1, size5_2, size5_3, size5_4, size5_5, size5_6, size5_7, size5_8, size5_9, size5_10, size5_11, size5_12, size5_13, size5_15, size5_16, size5_17, size5_18, size5_19, size5_20, size5_21, size5_14, size5_22, List.range, List.range.loop]) | (refine Walk.oq ?_; try walk_nrm) | (refine Walk.un ?_; walk_nrm))
  refine Walk.callP (Post := fun v w' => v = .bool true ∧ Solo N k (sqDone k (sqDone k s0 false fun i => vs.getD i 0) true fun i => us.getD i 0) w7 w') ?_ (ho_of (by conv => lhs; whnf) (by kernel_rfl)) (by rfl) (by decide) rfl Try.func24 (by kernel_rfl) (by rfl) ⟨rfl, rfl, _, Try.func5⟩ ?_
  · walk_nrm
    exact hwr
  rintro v w8 ⟨rfl, H8⟩
  have z8 := H8.size
  have hrd := lread_w (main := true) (V := fun _ => none) hA H8.I e2 (-4)
  have u8 : ∀ b, b < N → w8.heap[b]? = w1.heap[b]? := fun b hb => (H8.old b (by omega) (by omega)).trans (u7 b hb)
  rw [hwd] at hrd
  clear hwr hl7 I7 hwd e0 e1 e2
  walk_nrm
  repeat (first | refine Walk.c rfl ?_ | refine Walk.cRet ?_ | refine Walk.cEnd ?_ | (refine Walk.cReg ?_; simp only [size5_0, size5_1, size5_2, size5_3, size5_4, size5_5, size5_6, size5_7, size5_8, size5_9, size5_10, size5_11, size5_12, size5_13, size5_15, size5_16, size5_17, size5_18, size5_19, size5_20, size5_21, size5_14, size5_22, List.range, List.range.loop]) | (refine Walk.oq ?_; try walk_nrm) | (refine Walk.un ?_; walk_nrm))
  refine Walk.callP (Post := fun v w' => ∃ B, v = .tuple #[.slice (some ⟨B, 0, none⟩) (k + 1) (k + 1), .bool true] ∧ w8.heap.size ≤ B ∧ NumB w' B rs ∧ Solo N k (sqDone k (sqDone k s0 false fun i => vs.getD i 0) true fun i => us.getD i 0) w8 w') ?_ (ho_of (by conv => lhs; whnf) (by kernel_rfl)) (by rfl) (by decide) rfl Try.func25 (by kernel_rfl) (by rfl) ⟨rfl, rfl, _, Try.func5⟩ ?_
  · walk_nrm
    exact hrd
  rintro v w9 ⟨B, rfl, hB, hNB, H9⟩
  have z9 := H9.size
  have u9 : ∀ b, b < N → w9.heap[b]? = w1.heap[b]? := fun b hb => (H9.old b (by omega) (by omega)).trans (u8 b hb)
  clear hrd H8 H9 u8 u7 u5 u4 hcu hA hq1 hq2
  walk_nrm
  repeat (first | refine Walk.c rfl ?_ | refine Walk.cRet ?_ | refine Walk.cEnd ?_ | (refine Walk.cReg ?_; simp only [size5_0, size5_1, size5_2, size5_3, size5_4, size5_5, size5_6, size5_7, size5_8, size5_9, size5_10, size5_11, size5_12, size5_13, size5_15, size5_16, size5_17, size5_18, size5_19, size5_20, size5_21, size5_14, size5_22, List.range, List.range.loop]) | (refine Walk.oq ?_; try walk_nrm) | (refine Walk.un ?_; walk_nrm))
  refine Walk.ctl rfl (fun w => stepG_loop) ?_
  refine .stop fun d => ⟨B, at_slots ?_, hNB, u9, by show N ≤ w9.heap.size; omega⟩
  have hc : ((k + 1 : Nat) : Int) = (k : Int) + 1 := by simp
  simp only [hdSh, hc]
  rfl
theorem sho_go11 (nv vc vb vo nu uc ub uo B n i : Nat) (x y z : Int) (hz : IntKind.i64.wrap (x + y) = z) (hn : n ≤ 16) (hi : i < n) (u : Nat → Value) (w : World) (hnv : nv ≤ 17592186044416) (h1 : i < nv) (hc1 : w.cell? ⟨vb, vo + i, none⟩ = some (.int .i64 x)) (hnu : nu ≤ 17592186044416) (h2 : i < nu) (hc2 : w.cell? ⟨ub, uo + i, none⟩ = some (.int .i64 y)) (hc3 : w.cell? ⟨B, i, none⟩ = some (.int .i64 z)) :
    Walk Try.prog true (DR (fun _ => none)) (fun g w' => (∃ u, g = G (hdSh (.slice (some ⟨vb, vo, none⟩) nv vc) (.slice (some ⟨ub, uo, none⟩) nu uc) B n (i + 1) u) []) ∧ ∃ d, w' = w.at d) (G (hdSh (.slice (some ⟨vb, vo, none⟩) nv vc) (.slice (some ⟨ub, uo, none⟩) nu uc) B n i u) []) w := by
  have hw1 : IntKind.wrap .i64 ((i : Int) + 1) = (i : Int) + 1 := by rw [IntKind.wrap_i64]; omega
  have hi0 : (0 : Int) ≤ i := by omega
  have hi1 : decide ((i : Int) < n) = true := by simp; omega
  have hi2 : decide (n ≤ i) = false := by simp; omega
  have hi3 : decide (i < n) = true := by simp; omega
  have hv1 : decide ((i : Int) < nv) = true := by simp; omega
  have hv2 : decide (nv ≤ i) = false := by simp; omega
  have hv3 : decide (i < nv) = true := by simp; omega
  have hu1 : decide ((i : Int) < nu) = true := by simp; omega
  have hu2 : decide (nu ≤ i) = false := by simp; omega
  have hu3 : decide (i < nu) = true := by simp; omega
  have hz2 : IntKind.i64.wrap (IntKind.i64.wrap x + y) = z := by rw [wrap_add]; exact hz
  clear hz
  unfold hdSh
  repeat (first | refine Walk.c rfl ?_ | refine Walk.cRet ?_ | refine Walk.cEnd ?_ | (refine Walk.cReg ?_; simp only [size5_0, size5_1, size5_2, size5_3, size5_4, size5_5, size5_6, size5_7, size5_8, size5_9, size5_10, size5_11, size5_12, size5_13, size5_15, size5_16, size5_17, size5_18, size5_19, size5_20, size5_21, size5_14, size5_22, List.range, List.range.loop]) | (refine Walk.oq ?_; try walk_nrm) | (refine Walk.un ?_; walk_nrm))
  refine Walk.ctl rfl (fun w => stepG_inLoop) ?_
  refine .stop fun d => ⟨at_slots ?_, d, rfl⟩
  have hc : ((i + 1 : Nat) : Int) = (i : Int) + 1 := by simp
  simp only [hdSh, hc]
  rfl
theorem sho_go10 (nv vc vb vo nu uc B n i : Nat) (ua : Option Addr) (x y z : Int) (hz : IntKind.i64.wrap (x + y) = z) (hn : n ≤ 16) (hi : i < n) (u : Nat → Value) (w : World) (hnv : nv ≤ 17592186044416) (h1 : i < nv) (hc1 : w.cell? ⟨vb, vo + i, none⟩ = some (.int .i64 x)) (h2 : nu ≤ i) (hy : y = 0) (hc3 : w.cell? ⟨B, i, none⟩ = some (.int .i64 z)) :
    Walk Try.prog true (DR (fun _ => none)) (fun g w' => (∃ u, g = G (hdSh (.slice (some ⟨vb, vo, none⟩) nv vc) (.slice ua nu uc) B n (i + 1) u) []) ∧ ∃ d, w' = w.at d) (G (hdSh (.slice (some ⟨vb, vo, none⟩) nv vc) (.slice ua nu uc) B n i u) []) w := by
  have hw1 : IntKind.wrap .i64 ((i : Int) + 1) = (i : Int) + 1 := by rw [IntKind.wrap_i64]; omega
  have hi0 : (0 : Int) ≤ i := by omega
  have hi1 : decide ((i : Int) < n) = true := by simp; omega
  have hi2 : decide (n ≤ i) = false := by simp; omega
  have hi3 : decide (i < n) = true := by simp; omega
  have hv1 : decide ((i : Int) < nv) = true := by simp; omega
  have hv2 : decide (nv ≤ i) = false := by simp; omega
  have hv3 : decide (i < nv) = true := by simp; omega
  have hu1 : decide ((i : Int) < nu) = false := by simp; omega
  have hu3 : decide (i < nu) = false := by simp; omega
  subst hy
  have hz2 : IntKind.i64.wrap x = z := by rw [Int.add_zero] at hz; exact hz
  clear hz
  unfold hdSh
  repeat (first | refine Walk.c rfl ?_ | refine Walk.cRet ?_ | refine Walk.cEnd ?_ | (refine Walk.cReg ?_; simp only [size5_0, size5_1, size5_2, size5_3, size5_4, size5_5, size5_6, size5_7, size5_8, size5_9, size5_10, size5_11, size5_12, size5_13, size5_15, size5_16, size5_17, size5_18, size5_19, size5_20, size5_21, size5_14, size5_22, List.range, List.range.loop]) | (refine Walk.oq ?_; try walk_nrm) | (refine Walk.un ?_; walk_nrm))
  refine Walk.ctl rfl (fun w => stepG_inLoop) ?_
  refine .stop fun d => ⟨at_slots ?_, d, rfl⟩
  have hc : ((i + 1 : Nat) : Int) = (i : Int) + 1 := by simp
  simp only [hdSh, hc]
  rfl
theorem sho_go01 (nv vc nu uc ub uo B n i : Nat) (va : Option Addr) (x y z : Int) (hz : IntKind.i64.wrap (x + y) = z) (hn : n ≤ 16) (hi : i < n) (u : Nat → Value) (w : World) (h1 : nv ≤ i) (hx : x = 0) (hnu : nu ≤ 17592186044416) (h2 : i < nu) (hc2 : w.cell? ⟨ub, uo + i, none⟩ = some (.int .i64 y)) (hc3 : w.cell? ⟨B, i, none⟩ = some (.int .i64 z)) :
    Walk Try.prog true (DR (fun _ => none)) (fun g w' => (∃ u, g = G (hdSh (.slice va nv vc) (.slice (some ⟨ub, uo, none⟩) nu uc) B n (i + 1) u) []) ∧ ∃ d, w' = w.at d) (G (hdSh (.slice va nv vc) (.slice (some ⟨ub, uo, none⟩) nu uc) B n i u) []) w := by
  have hw1 : IntKind.wrap .i64 ((i : Int) + 1) = (i : Int) + 1 := by rw [IntKind.wrap_i64]; omega
  have hi0 : (0 : Int) ≤ i := by omega
  have hi1 : decide ((i : Int) < n) = true := by simp; omega
  have hi2 : decide (n ≤ i) = false := by simp; omega
  have hi3 : decide (i < n) = true := by simp; omega
  have hv1 : decide ((i : Int) < nv) = false := by simp; omega
  have hv3 : decide (i < nv) = false := by simp; omega
  subst hx
  have hu1 : decide ((i : Int) < nu) = true := by simp; omega
  have hu2 : decide (nu ≤ i) = false := by simp; omega
  have hu3 : decide (i < nu) = true := by simp; omega
  have hz2 : IntKind.i64.wrap y = z := by rw [Int.zero_add] at hz; exact hz
  clear hz
  unfold hdSh
  repeat (first | refine Walk.c rfl ?_ | refine Walk.cRet ?_ | refine Walk.cEnd ?_ | (refine Walk.cReg ?_; simp only [size5_0, size5_1, size5_2, size5_3, size5_4, size5_5, size5_6, size5_7, size5_8, size5_9, size5_10, size5_11, size5_12, size5_13, size5_15, size5_16, size5_17, size5_18, size5_19, size5_20, size5_21, size5_14, size5_22, List.range, List.range.loop]) | (refine Walk.oq ?_; try walk_nrm) | (refine Walk.un ?_; walk_nrm))
  refine Walk.ctl rfl (fun w => stepG_inLoop) ?_
  refine .stop fun d => ⟨at_slots ?_, d, rfl⟩
  have hc : ((i + 1 : Nat) : Int) = (i : Int) + 1 := by simp
  simp only [hdSh, hc]
  rfl
theorem sho_go00 (nv vc nu uc B n i : Nat) (va : Option Addr) (ua : Option Addr) (x y z : Int) (hz : IntKind.i64.wrap (x + y) = z) (hn : n ≤ 16) (hi : i < n) (u : Nat → Value) (w : World) (h1 : nv ≤ i) (hx : x = 0) (h2 : nu ≤ i) (hy : y = 0) (hc3 : w.cell? ⟨B, i, none⟩ = some (.int .i64 z)) :
    Walk Try.prog true (DR (fun _ => none)) (fun g w' => (∃ u, g = G (hdSh (.slice va nv vc) (.slice ua nu uc) B n (i + 1) u) []) ∧ ∃ d, w' = w.at d) (G (hdSh (.slice va nv vc) (.slice ua nu uc) B n i u) []) w := by
  have hw1 : IntKind.wrap .i64 ((i : Int) + 1) = (i : Int) + 1 := by rw [IntKind.wrap_i64]; omega
  have hi0 : (0 : Int) ≤ i := by omega
  have hi1 : decide ((i : Int) < n) = true := by simp; omega
  have hi2 : decide (n ≤ i) = false := by simp; omega
  have hi3 : decide (i < n) = true := by simp; omega
  have hv1 : decide ((i : Int) < nv) = false := by simp; omega
  have hv3 : decide (i < nv) = false := by simp; omega
  subst hx
  have hu1 : decide ((i : Int) < nu) = false := by simp; omega
  have hu3 : decide (i < nu) = false := by simp; omega
  subst hy
  have hz2 : z = 0 := by rw [← hz]; rfl
  subst hz2
  clear hz
  unfold hdSh
  repeat (first | refine Walk.c rfl ?_ | refine Walk.cRet ?_ | refine Walk.cEnd ?_ | (refine Walk.cReg ?_; simp only [size5_0, size5_1, size5_2, size5_3, size5_4, size5_5, size5_6, size5_7, size5_8, size5_9, size5_10, size5_11, size5_12, size5_13, size5_15, size5_16, size5_17, size5_18, size5_19, size5_20, size5_21, size5_14, size5_22, List.range, List.range.loop]) | (refine Walk.oq ?_; try walk_nrm) | (refine Walk.un ?_; walk_nrm))
  refine Walk.ctl rfl (fun w => stepG_inLoop) ?_
  refine .stop fun d => ⟨at_slots ?_, d, rfl⟩
  have hc : ((i + 1 : Nat) : Int) = (i : Int) + 1 := by simp
  simp only [hdSh, hc]
  rfl
theorem sho_end (s1 s2 : Value) (B n : Nat) (hn : n ≤ 16) (u : Nat → Value) (w : World) :
    Walk Try.prog true (DR (fun _ => none)) (fun g w' => Closing 5 6 (.bool true) g ∧ ∃ d, w' = w.at d) (G (hdSh s1 s2 B n n u) []) w := by
  unfold hdSh
  repeat (first | refine Walk.c rfl ?_ | refine Walk.cRet ?_ | refine Walk.cEnd ?_ | (refine Walk.cReg ?_; simp only [size5_0, size5_1, size5_2, size5_3, size5_4, size5_5, size5_6, size5_7, size5_8, size5_9, size5_10, size5_11, size5_12, size5_13, size5_15, size5_16, size5_17, size5_18, size5_19, size5_20, size5_21, size5_14, size5_22, List.range, List.range.loop]) | (refine Walk.oq ?_; try walk_nrm) | (refine Walk.un ?_; walk_nrm))
  exact .stop fun d => ⟨⟨_, rfl, rfl, rfl, rfl, rfl, rfl⟩, d, rfl⟩
theorem sho_loop (va ua : Option Addr) (vs us : List Int) (vc uc B n : Nat) (hn : n ≤ 16) (hvn : vs.length ≤ 17592186044416) (hun : us.length ≤ 17592186044416) (w : World) (hv : NumA va vs w) (hu : NumA ua us w) (hB : NumB w B ((List.range n).map (shV vs us))) : ∀ (r i : Nat) (u : Nat → Value), i + r = n →
    Walk Try.prog true (DR (fun _ => none)) (fun g w' => Closing 5 6 (.bool true) g ∧ ∃ d, w' = w.at d) (G (hdSh (.slice va vs.length vc) (.slice ua us.length uc) B n i u) []) w := by
  intro r
  induction r with
  | zero =>
    intro i u hi
    obtain rfl : i = n := hi
    exact sho_end _ _ B i hn u w
  | succ r ih =>
    intro i u hi
    have hin : i < n := by omega
    have c3 := hB.cell (j := i) (z := shV vs us i) (by rw [List.getElem?_map, List.getElem?_range hin]; rfl)
    have fin : ∀ g w', ((∃ u, g = G (hdSh (.slice va vs.length vc) (.slice ua us.length uc) B n (i + 1) u) []) ∧ ∃ d, w' = w.at d) → Walk Try.prog true (DR (fun _ => none)) (fun g w' => Closing 5 6 (.bool true) g ∧ ∃ d, w' = w.at d) g w' := by
      rintro g w' ⟨⟨u', rfl⟩, d, rfl⟩
      exact Walk.back (ih (i + 1) u' (by omega)) d
    have in1 : ∀ (l : List Int) (h : i < l.length), l.getD i 0 = l[i] := fun l h => by rw [List.getD_eq_getElem?_getD, List.getElem?_eq_getElem h]; rfl
    have out1 : ∀ (l : List Int), l.length ≤ i → l.getD i 0 = 0 := fun l h => by rw [List.getD_eq_getElem?_getD, List.getElem?_eq_none h]; rfl
    by_cases p : i < vs.length
    · obtain ⟨vb, vo, rfl, c1⟩ := hv i _ (List.getElem?_eq_getElem p)
      rw [← in1 vs p] at c1
      by_cases q : i < us.length
      · obtain ⟨ub, uo, rfl, c2⟩ := hu i _ (List.getElem?_eq_getElem q)
        rw [← in1 us q] at c2
        exact (sho_go11 _ _ _ _ _ _ _ _ B n i _ _ _ rfl hn hin u w hvn p c1 hun q c2 c3).then fin
      · exact (sho_go10 _ _ _ _ _ _ B n i ua _ _ _ rfl hn hin u w hvn p c1 (by omega) (out1 us (by omega)) c3).then fin
    · by_cases q : i < us.length
      · obtain ⟨ub, uo, rfl, c2⟩ := hu i _ (List.getElem?_eq_getElem q)
        rw [← in1 us q] at c2
        exact (sho_go01 _ _ _ _ _ _ B n i va _ _ _ rfl hn hin u w (by omega) (out1 vs (by omega)) hun q c2 c3).then fin
      · exact (sho_go00 _ _ _ _ B n i va ua _ _ _ rfl hn hin u w (by omega) (out1 vs (by omega)) (by omega) (out1 us (by omega)) c3).then fin
theorem sho_all (xsl : Value) (xs : List Int) (hxn : xs.length ≤ 17592186044416) (vsl : Value) (vs : List Int) (hvn : vs.length ≤ 17592186044416) (usl : Value) (us : List Int) (hun : us.length ≤ 17592186044416) (W : World) (hx : LsR xsl xs W) (hv : LsR vsl vs W) (hu : LsR usl us W) :
    Runs (fun g w' => Closing 5 6 (.bool true) g ∧ ∀ b, b < W.heap.size → w'.heap[b]? = W.heap[b]?) (G (Frame.enter Try.prog 5 #[xsl, vsl, usl] .normal) []) W := by
  refine Runs.walk (sho_in xsl xs hxn vsl vs hvn usl us hun _ rfl W) ?_
  rintro _ _ ⟨fr, rfl, ⟨d, rfl⟩, hB⟩
  refine Runs.then (fixed_run fr [] (W.at d)) ?_
  rintro _ w1 ⟨rfl, O1, Z1⟩
  have O1' : ∀ b, b < W.heap.size → w1.heap[b]? = W.heap[b]? := O1
  have Z1' : W.heap.size ≤ w1.heap.size := Z1
  refine Runs.walk (hB w1 (hx.same O1') (hv.same O1') (hu.same O1')) ?_
  rintro _ w2 ⟨B, ⟨u, rfl⟩, hN, O2, Z2⟩
  have hv2 := (hv.same O1').same O2
  have hu2 := (hu.same O1').same O2
  obtain ⟨va, vc, rfl, _, _, hvc⟩ := hv2
  obtain ⟨ua, uc, rfl, _, _, huc⟩ := hu2
  refine Runs.walk (sho_loop va ua vs us vc uc B _ (by have := (sqK_le xs.length).1; omega) hvn hun w2 hvc huc hN _ 0 u (Nat.zero_add _)) ?_
  rintro _ _ ⟨hC, d2, rfl⟩
  exact .now ⟨hC, fun b hb => (O2 b (by omega)).trans (O1' b hb)⟩
end Go.Proofs.Ytjenoiekfkhafaa
