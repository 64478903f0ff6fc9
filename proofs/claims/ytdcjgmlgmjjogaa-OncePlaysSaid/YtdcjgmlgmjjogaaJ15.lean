/- Part 15. -/
import Derived.Test.YtdcjgmlgmjjogaaJ5
import Derived.Test.YtdcjgmlgmjjogaaJ6
import Derived.Test.YtdcjgmlgmjjogaaJ13
import Derived.Test.YtdcjgmlgmjjogaaJ14
import Derived.Conc.AtomicLaws2
set_option linter.unusedSimpArgs false
set_option linter.unusedVariables false
set_option maxHeartbeats 8000000
set_option maxRecDepth 100000
namespace Go.Proofs.Ytdcjgmlgmjjogaa
open Go.Conc Go.RowKit Go.Relay
open Go.ConcN (upd upd_ne upd_same)
section
noncomputable def reg61_0 := rg Try.f61.body [0]
noncomputable def reg61_1 := rg Try.f61.body [1, 0]
theorem size61_1 : reg61_1.size = 11 := by kernel_rfl
noncomputable def reg61_2 := rg Try.f61.body [1, 1, 0]
noncomputable def reg61_3 := rg Try.f61.body [1, 1, 1, 0]
noncomputable def reg61_4 := rg Try.f61.body [1, 1, 1, 1]
theorem z61 : List.range reg61_0.size = [0] ∧ List.range reg61_1.size = [0, 1, 2, 3, 4, 5, 6, 7, 8, 9, 10] ∧ List.range reg61_2.size = [0, 1, 2, 3, 4, 5, 6, 7, 8] ∧ List.range reg61_3.size = [0, 1, 2, 3] ∧ List.range reg61_4.size = [0, 1, 2, 3] := by refine ⟨?_, ?_, ?_, ?_, ?_⟩ <;> kernel_rfl
theorem code61_is : Try.f61.body = some (.seq (.region 0 reg61_0 false) (.seq (.region 1 reg61_1 true) (.seq (.region 2 reg61_2 false) (.seq (.region 3 reg61_3 false) (.region 4 reg61_4 false))))) := by kernel_rfl
structure AppR (w1 : World) (a : Ans) (hd : Value) (ans : List Ans) (gb gcap : Nat) (w3 : World) : Prop where
  own : w3.ownsRow 0 51 3 (.slice (some ⟨gb, 0, none⟩) (ans.length + 1) gcap) (ans.length + 1) (ansRow ans ++ [.bool a.1, .int .i64 a.2, .slice none 0 0])
  grown : (ansA w1 a).grownBy w3 hd.ownBlock
  hat : hd.ownBlock = some gb ∨ gb = (ansA w1 a).heap.size
  hlt : gb < w3.heap.size
section
variable {main : Bool} {S : Nat → Prop} {b : Nat} {ops : List OpV} {oa : Option Addr} {oc k : Nat} {PC : Int} {N : Nat → Int} {ans : List Ans} {aa : Option Addr} {ac : Nat} {e : Bool}
theorem end_w (a : Ans) (w : World) (X : ThX S b ops oa oc (k : Nat) PC N ans aa ac e w) (hk : k ≤ 65536) (hl : ans.length ≤ 65536) :
    CallW Try.prog main (fun _ => none) 61 #[.pointer (some ⟨b, 0, none⟩), ansVal a] w (fun v w' => v = .tuple #[] ∧ (∃ aa' ac', ThX (fun g => S g ∨ w.heap.size ≤ g) b ops oa oc ((k + 1 : Nat) : Int) 0 N (ans ++ [a]) aa' ac' e w') ∧ Chg S w w') := by
  intro c cs
  obtain ⟨fsA, huA⟩ := structT 51 (by kernel_rfl)
  obtain ⟨a1, a2⟩ := a
  simp only [ansVal]
  have hbl := X.lt
  have hw1 : IntKind.wrap .i64 ((k : Int) + 1) = (k : Int) + 1 := by rw [IntKind.wrap_i64]; omega
  rw [enter_at _ Try.func61 code61_is]
  simp only [Try.ntmps61, ez, Nat.reduceAdd, Nat.reduceSub]
  repeat (first | refine Walk.cx ?_ | (refine Walk.cReg ?_; simp only [z61]) | (refine Walk.oq ?_; try walk_nrm) | (refine Walk.un ?_; walk_nrm))
  (refine Walk.oa ?_; try walk_nrm)
  have s0 : (w.alloc (.cells #[.bool a1, .int .i64 a2, .slice none 0 0] 51)).heap.size = w.heap.size + 1 := by simp
  have o0 : ∀ x, x < w.heap.size → (w.alloc (.cells #[.bool a1, .int .i64 a2, .slice none 0 0] 51)).heap[x]? = w.heap[x]? := fun x hx => heap_new_lt _ _ hx
  have d0 := heap_alloc_new w (.cells #[.bool a1, .int .i64 a2, .slice none 0 0] 51)
  generalize hT : w.heap.size = T at *
  generalize hw0 : w.alloc (.cells #[.bool a1, .int .i64 a2, .slice none 0 0] 51) = w0 at *
  replace s0 : T + 1 ≤ w0.heap.size ∧ w0.heap.size ≤ T + 1 := by omega
  have X0 : ThX S b ops oa oc (k : Nat) PC N ans aa ac e w0 := X.same fun g hg _ => o0 g (by omega)
  have hb0 := X0.blk
  have c12 : w0.cell? ⟨b, 12, none⟩ = some (.slice aa ans.length ac) := (cell_of hb0 12).trans rfl
  have hsz1 : w0.heap.size + 1 ≤ (ansA w0 (a1, a2)).heap.size ∧ (ansA w0 (a1, a2)).heap.size ≤ w0.heap.size + 1 := by simp [ansA]
  have hO1 : ∀ x, x < w0.heap.size → (ansA w0 (a1, a2)).heap[x]? = w0.heap[x]? := fun x hx => heap_new_lt _ _ hx
  have hown' : (ansA w0 (a1, a2)).ownsRow 0 51 3 (.slice aa ans.length ac) ans.length (ansRow ans) := row_same X0.rA fun g hg => hO1 g (X0.rA.lt g hg).2
  have hnews : ∀ (j : Nat) (u : Value), ([.bool a1, .int .i64 a2, .slice none 0 0] : List Value)[j]? = some u → (ansA w0 (a1, a2)).cell? ((⟨w0.heap.size, 0, none⟩ : Addr).add j) = some u := fun j u hu => by
    rw [add_none, Nat.zero_add]
    refine (cell_of (heap_alloc_new _ _) j).trans ?_
    simpa using hu
  have hnb : ∀ g, (Value.slice aa ans.length ac).ownBlock = some g → g ≠ b := fun g hg => (X0.sa g hg).2.1
  have hnT : ∀ g, (Value.slice aa ans.length ac).ownBlock = some g → g ≠ T := fun g hg => by have := (X.rA.lt g hg).2; omega
  have hfar : ∀ (x : Nat) (w2 : World), x < w0.heap.size → (∀ g, (Value.slice aa ans.length ac).ownBlock = some g → g ≠ x) → (ansA w0 (a1, a2)).grownBy w2 (Value.slice aa ans.length ac).ownBlock → w2.heap[x]? = w0.heap[x]? := fun x w2 hx hne hg => (hg.block x (by omega) (fun e => hne x e.symm rfl)).trans (hO1 x hx)
  have zT : ∀ x : World, x.heap[T]? = w0.heap[T]? → ∀ (j : Nat) (v : Value), ([.bool a1, .int .i64 a2, .slice none 0 0] : List Value)[j]? = some v → x.cell? ⟨T, 0 + j, none⟩ = some v := fun x hx j v hv => by
    rw [Nat.zero_add, cell_of (hx.trans d0)]
    simpa using hv
  repeat (first | refine Walk.cx ?_ | (refine Walk.cReg ?_; simp only [z61]) | (refine Walk.oq ?_; try walk_nrm) | (refine Walk.un ?_; walk_nrm))
  refine Walk.drawnT (iA := 6) (iB := 7) (w1 := ansA w0 (a1, a2)) (vA := .slice (some ⟨w0.heap.size, 0, none⟩) 1 1) (Z := fun x => x.cell? ⟨b, 12, none⟩ = some (.slice aa ans.length ac) ∧ x.heap[T]? = w0.heap[T]?)
    (fun v w2 => ∃ g cap, v = .slice (some ⟨g, 0, none⟩) (ans.length + 1) cap ∧ AppR w0 (a1, a2) (.slice aa ans.length ac) ans g cap w2) (by kernel_rfl) size61_1 (by kernel_rfl) (by kernel_rfl) (by kernel_rfl) (by kernel_rfl) (by decide) (ho_of (by conv => lhs; whnf) (by kernel_rfl)) (ho_of (by conv => lhs; whnf) (by kernel_rfl)) ⟨c12, rfl⟩ ⟨cell_alloc _ _ c12, hO1 T (by omega)⟩ ?_ ?_
  · rintro v w2 ⟨g, cap, _, hA⟩
    exact ⟨(World.cell?_of_block (a := ⟨b, 12, none⟩) (hfar b w2 (by omega) hnb hA.grown)).trans c12, hfar T w2 (by omega) hnT hA.grown⟩
  rw [show List.filter (quietQ 6 7) (List.range 10) = [0, 1, 2, 3, 4, 5, 8, 9] from by decide]
  repeat (first | (refine Cm.opqZ (ho_of (by conv => lhs; whnf) (by kernel_rfl)) (by rfl) (fun wz hz dd e he => ?_) ?_; (· (obtain ⟨z1, z2⟩ := hz; simp [go_sem, *] at he; try (subst he; exact evR_read _ _))); apply Exists.intro; apply And.intro; (· (intro wz hz dd K hK; obtain ⟨z1, z2⟩ := hz; go_simp; exact hK))) | (refine Cm.unw (ho_of (by conv => lhs; whnf) (by kernel_rfl)) (by rfl) ?_; walk_nrm))
  refine Cm.loadS 51 (.tmp 3) (ho_of (by conv => lhs; whnf) (by kernel_rfl)) (by rfl) rfl T 0 [.bool a1, .int .i64 a2, .slice none 0 0] (.struct fsA) rfl (fun x hx => zT x hx.2) huA rfl (by kernel_rfl) ?_
  walk_nrm
  repeat (first | (refine Cm.opqZ (ho_of (by conv => lhs; whnf) (by kernel_rfl)) (by rfl) (fun wz hz dd e he => ?_) ?_; (· (obtain ⟨z1, z2⟩ := hz; simp [go_sem, *] at he; try (subst he; exact evR_read _ _))); apply Exists.intro; apply And.intro; (· (intro wz hz dd K hK; obtain ⟨z1, z2⟩ := hz; go_simp; exact hK))) | (refine Cm.unw (ho_of (by conv => lhs; whnf) (by kernel_rfl)) (by rfl) ?_; walk_nrm))
  refine Cm.done ⟨?_, ?_, ?_⟩
  · intro x hev rest hr'
    have e1 : x.tmps[9]?.getD undef = .agg #[.bool a1, .int .i64 a2, .slice none 0 0] := by simpa [Act.eval] using hev (.tmp 9) (by simp [Op.operands])
    clear hev
    (refine Walk.oa ?_; try walk_nrm)
    exact hr' _ _ ⟨rfl, _, rfl⟩
  · intro x hev rest hr'
    have e1 : x.eval (.tmp 8) = .slice aa ans.length ac := by simpa [Act.eval] using hev (.tmp 8) (by simp [Op.operands, Call.operands])
    have e2 : x.eval (.tmp 10) = .slice (some ⟨w0.heap.size, 0, none⟩) 1 1 := by simpa [Act.eval] using hev (.tmp 10) (by simp [Op.operands, Call.operands])
    have hiA := Option.some_get (show (Try.prog.info? 51).isSome = true by kernel_rfl)
    refine Walk.append (.tmp 8) (.tmp 10) 49 (ho_of (by conv => lhs; whnf) (by kernel_rfl)) (by rfl) (by decide) rfl 0 51 _ (.agg #[.bool false, .int .i64 0, .slice none 0 0]) 3 40 (by kernel_rfl) hiA.symm (by rfl) (by rfl) (by rfl) (by rfl) (by decide) (.slice aa ans.length ac) ans.length (ansRow ans) e1 hown' ⟨w0.heap.size, 0, none⟩ 1 1 [.bool a1, .int .i64 a2, .slice none 0 0] e2 (by rfl) hnews (by simp [Value.oneCell']) (by decide) (by simp [maxLen]; omega) (by omega) (Nat.zero_le _) (fun g _ => ap0 g) (fun g cap w3 hown hg hat hlt => ?_)
    exact hr' _ _ ⟨_, w3, ⟨g, cap, rfl, hown, hg, hat, hlt⟩, rfl, w3.drawn, rfl⟩
  rintro v w2 ⟨g, cap, rfl, hA⟩ rest hr'
  have hb2 : w2.heap[b]? = w0.heap[b]? := hfar b w2 (by omega) hnb hA.grown
  have h12 : w2.cell? ⟨b, 12, none⟩ = some (.slice aa ans.length ac) := (World.cell?_of_block (a := ⟨b, 12, none⟩) hb2).trans c12
  have z12 : w2.frozen? ⟨b, 12, none⟩ = false := frozen_of (hb2.trans hb0) 12
  have f12 : Free (fun _ => none) ⟨b, 12, none⟩ := fr0 b 12
  (refine Walk.os f12 h12 ?_; try walk_nrm)
  refine hr' _ _ ?_
  have hgs := hA.grown.size
  have hgb : g ≠ b := fun e => by
    rcases hA.hat with h | h
    · exact hnb g h e
    · omega
  have hb3 : (w2.setCell ⟨b, 12, none⟩ (.slice (some ⟨g, 0, none⟩) (ans.length + 1) cap)).heap[b]? = some (.cells (thA (.slice oa ops.length oc) k PC N (.slice none 0 0) (.slice (some ⟨g, 0, none⟩) (ans.length + 1) cap) e) 158) := by
    rw [heap_set_self _ _ (hb2.trans hb0), thA_A]
  have hX3 : ThX (fun g => S g ∨ T ≤ g) b ops oa oc (k : Nat) PC N (ans ++ [(a1, a2)]) (some ⟨g, 0, none⟩) cap e (w2.setCell ⟨b, 12, none⟩ (.slice (some ⟨g, 0, none⟩) (ans.length + 1) cap)) := by
    have hlen : (ans ++ [(a1, a2)]).length = ans.length + 1 := by simp
    refine ⟨by rw [hlen]; exact hb3, ?_, ?_, .inl X.sb, fun x hx => ⟨.inl (X.so x hx).1, (X.so x hx).2⟩, fun x hx => ?_⟩
    · refine row_same X0.rO fun x hx => (heap_set_other _ _ _ _ (X.so x hx).2).trans ?_
      refine hfar x w2 (X0.rO.lt x hx).2 (fun y hy he => ?_) hA.grown
      exact (X.sa y hy).2.2 (by rw [hx, he])
    · rw [hlen, ansRow_snoc]
      exact row_same hA.own fun x hx => heap_set_other _ _ _ _ (by
        simp only [Value.ownBlock, Option.some.injEq] at hx
        show x ≠ b
        omega)
    · simp only [Value.ownBlock, Option.some.injEq] at hx
      subst hx
      rcases hA.hat with h | h
      · exact ⟨.inl (X.sa g h).1, (X.sa g h).2⟩
      · refine ⟨.inr (by omega), hgb, fun e => ?_⟩
        have := (X.rO.lt g e).2
        omega
  have hC3 : Chg S w (w2.setCell ⟨b, 12, none⟩ (.slice (some ⟨g, 0, none⟩) (ans.length + 1) cap)) := by
    refine ⟨by rw [size_set]; omega, fun x hx hn => ?_⟩
    rw [heap_set_other _ _ _ _ (fun e => hn (by rw [e]; exact X.sb)), hA.grown.block x (by omega) (fun e => hn (X.sa x e.symm).1), hO1 x (by omega), o0 x (by omega)]
  generalize w2.setCell ⟨b, 12, none⟩ (.slice (some ⟨g, 0, none⟩) (ans.length + 1) cap) = w3 at *
  walk_nrm
  have c1 := tcI hb3
  have z1 := frozen_of hb3 1
  repeat (first | refine Walk.cx ?_ | (refine Walk.cReg ?_; simp only [z61]) | (refine Walk.oq ?_; try walk_nrm) | (refine Walk.un ?_; walk_nrm))
  (have hfr := fr0 b 1; refine Walk.os hfr c1 ?_; clear hfr; try walk_nrm)
  have hb4 : (w3.setCell ⟨b, 1, none⟩ (.int .i64 ((k : Int) + 1))).heap[b]? = some (.cells (thA (.slice oa ops.length oc) ((k : Int) + 1) PC N (.slice none 0 0) (.slice (some ⟨g, 0, none⟩) (ans.length + 1) cap) e) 158) := by
    rw [heap_set_self _ _ hb3, thA_I]
  have o4 : ∀ x, x ≠ b → (w3.setCell ⟨b, 1, none⟩ (.int .i64 ((k : Int) + 1))).heap[x]? = w3.heap[x]? := fun x hx => heap_set_other _ _ _ _ hx
  have s4 := size_set w3 ⟨b, 1, none⟩ (.int .i64 ((k : Int) + 1))
  clear c1 z1
  generalize w3.setCell ⟨b, 1, none⟩ (.int .i64 ((k : Int) + 1)) = w4 at *
  have c2 := tcP hb4
  have z2 := frozen_of hb4 2
  repeat (first | refine Walk.cx ?_ | (refine Walk.cReg ?_; simp only [z61]) | (refine Walk.oq ?_; try walk_nrm) | (refine Walk.un ?_; walk_nrm))
  (have hfr := fr0 b 2; refine Walk.os hfr c2 ?_; clear hfr; try walk_nrm)
  have hb5 : (w4.setCell ⟨b, 2, none⟩ (.int .i64 0)).heap[b]? = some (.cells (thA (.slice oa ops.length oc) ((k : Int) + 1) 0 N (.slice none 0 0) (.slice (some ⟨g, 0, none⟩) (ans.length + 1) cap) e) 158) := by
    rw [heap_set_self _ _ hb4, thA_PC]
  have o5 : ∀ x, x ≠ b → (w4.setCell ⟨b, 2, none⟩ (.int .i64 0)).heap[x]? = w4.heap[x]? := fun x hx => heap_set_other _ _ _ _ hx
  have s5 := size_set w4 ⟨b, 2, none⟩ (.int .i64 0)
  clear c2 z2
  generalize w4.setCell ⟨b, 2, none⟩ (.int .i64 0) = w5 at *
  have c3 := tcL hb5
  have z3 := frozen_of hb5 11
  repeat (first | refine Walk.cx ?_ | (refine Walk.cReg ?_; simp only [z61]) | (refine Walk.oq ?_; try walk_nrm) | (refine Walk.un ?_; walk_nrm))
  (have hfr := fr0 b 11; refine Walk.os hfr c3 ?_; clear hfr; try walk_nrm)
  have hb6 : (w5.setCell ⟨b, 11, none⟩ (.slice none 0 0)).heap[b]? = some (.cells (thA (.slice oa ops.length oc) ((k : Int) + 1) 0 N (.slice none 0 0) (.slice (some ⟨g, 0, none⟩) (ans.length + 1) cap) e) 158) := by
    rw [heap_set_self _ _ hb5, thA_L]
  have o6 : ∀ x, x ≠ b → (w5.setCell ⟨b, 11, none⟩ (.slice none 0 0)).heap[x]? = w5.heap[x]? := fun x hx => heap_set_other _ _ _ _ hx
  have s6 := size_set w5 ⟨b, 11, none⟩ (.slice none 0 0)
  clear c3 z3
  generalize w5.setCell ⟨b, 11, none⟩ (.slice none 0 0) = w6 at *
  have hall : ∀ x, x ≠ b → w6.heap[x]? = w3.heap[x]? := fun x hx => (o6 x hx).trans ((o5 x hx).trans (o4 x hx))
  repeat (first | refine Walk.cx ?_ | (refine Walk.cReg ?_; simp only [z61]) | (refine Walk.oq ?_; try walk_nrm) | (refine Walk.un ?_; walk_nrm))
  refine Walk.ctl rfl (fun w => stepG_leave rfl rfl Try.func61 (results_none rfl _ _ w) (events_results_none rfl _ _)) (.stop fun d => ⟨_, ⟨rfl, ⟨_, _, ThX.at (hX3.put ?_ fun x hx _ _ => hall x hx) d⟩, ?_⟩, rfl⟩)
  · have hlen : (ans ++ [(a1, a2)]).length = ans.length + 1 := by simp
    rw [hlen]
    have hc : ((k + 1 : Nat) : Int) = (k : Int) + 1 := by simp
    rw [hc]
    exact hb6
  · have hs3 := hC3.size
    exact Chg.at ⟨by omega, fun x hx hn => (hall x (fun e => hn (by rw [e]; exact X.sb))).trans (hC3.same x hx hn)⟩ d
end
end
section
variable {main : Bool} {V : Nat → Option Wait}
theorem undAtomic : Try.prog.underlying 190 = some (.pointer 41) := by kernel_rfl
noncomputable def rowLoadB : Bool := match Try.prog.info? 190 with
  | some ti => (match ti.methods.find? (·.name == "Load") with
    | some m => m.path.isEmpty && (m.func == some (152, true))
    | none => false)
  | none => false
theorem rowLoad : ∃ ti m, Try.prog.info? 190 = some ti ∧ ti.methods.find? (·.name == "Load") = some m ∧ m.path = #[] ∧ m.func = some (152, true) := by
  have h : rowLoadB = true := by kernel_rfl
  unfold rowLoadB at h
  revert h
  cases h1 : Try.prog.info? 190 with
  | none => simp
  | some ti =>
    simp only []
    cases h2 : ti.methods.find? (·.name == "Load") with
    | none => simp
    | some m =>
      simp only [Bool.and_eq_true, Array.isEmpty_iff, beq_iff_eq]
      exact fun h => ⟨ti, m, rfl, h2, h.1, h.2⟩
theorem method_load (p q : Nat) (w : World) (es : Array Event) : (method (Try.prog.types.size + Made.depth) 190 (.pointer (some ⟨p, q, none⟩)) "Load").run Try.prog w = .ok (152, .pointer (some ⟨p, q, none⟩)) w ∧ (method (Try.prog.types.size + Made.depth) 190 (.pointer (some ⟨p, q, none⟩)) "Load").events Try.prog w es = es := by
  obtain ⟨ti, m, h1, h2, h3, h4⟩ := rowLoad
  obtain ⟨k, hk⟩ : ∃ k, Try.prog.types.size + Made.depth = k + 1 := ⟨Try.prog.types.size + (Made.depth - 1), by have : 1 ≤ Made.depth := by decide
                                                                                                                omega⟩
  rw [hk]
  unfold method
  refine ⟨?_, ?_⟩
  · simp [typeInfo, h1, h2, h3, h4, follow, receiverAt, run_underlying undAtomic, Place.get]
  · simp [typeInfo, h1, h2, h3, h4, follow, receiverAt, run_underlying undAtomic, Place.get]
section
variable {Stop : Goroutine → World → Prop} {w : World} {b : Frame} {a : Act} {k : List Item} {cs : List Frame} {ops : Array Oper} {i : Nat} {rest : List Nat} {o : Oper}
theorem stepG_invokeLoad {x : Operand} {ats : Array TypeId} (p q : Nat) (ho : ops[i]? = some o) (hw : Region.wanted o (yielded ops a.tmps) = true) (hk : b.kind ≠ .early) (hop : o.op = .call { callee := .invoke x "Load", args := #[], argTypes := ats }) (hx : a.eval x = .iface 190 (.pointer (some ⟨p, q, none⟩))) :
    stepG Try.prog main (G (b.at a (.inRegion ops (i :: rest) :: k)) cs) w = .go (G (Frame.enter Try.prog 152 #[.pointer (some ⟨p, q, none⟩)] .normal) (b.at a (.inRegion ops (i :: rest) :: k) :: cs)) w := by
  have h1 : ¬ Try.f152.name = "runtime.NumGoroutine" := by decide
  have h2 : ¬ Try.f152.body = none := by simp [Try.f152]
  have hm := method_load p q w #[]
  rw [show Try.prog.types.size = 248 from by kernel_rfl] at hm
  have hr : (execOp a.eval o).run Try.prog w = .ok (.enter 152 #[.pointer (some ⟨p, q, none⟩)]) w := by
    unfold execOp
    simp [hop, resolve, invoke, callMethod, callFunc, hm.1, Try.func152, h1, h2, hx]
  have he : (execOp a.eval o).events Try.prog w #[] = #[] := by
    unfold execOp
    simp [hop, resolve, invoke, callMethod, callFunc, hm.1, hm.2, Try.func152, h1, h2, hx]
  rw [stepG_enter ho hw hk hr]
  have : listed Try.prog b.fn a o w = #[] := by unfold listed; rw [he]; exact seen_none Try.prog _
  rw [this]
theorem Walk.invokeLoad {x : Operand} {ats : Array TypeId} (p q : Nat) (ho : ops[i]? = some o) (hw : Region.wanted o (yielded ops a.tmps) = true) (hk : b.kind ≠ .early) (hop : o.op = .call { callee := .invoke x "Load", args := #[], argTypes := ats }) (hx : a.eval x = .iface 190 (.pointer (some ⟨p, q, none⟩)))
    (h : Walk Try.prog main (DR V) Stop (G (Frame.enter Try.prog 152 #[.pointer (some ⟨p, q, none⟩)] .normal) (b.at a (.inRegion ops (i :: rest) :: k) :: cs)) w) : Walk Try.prog main (DR V) Stop (G (b.at a (.inRegion ops (i :: rest) :: k)) cs) w :=
  Walk.ctl rfl (fun _ => stepG_invokeLoad p q ho hw hk hop hx) h
end
section
variable {P : Program}
theorem eqIn_ptr (d : Nat) (t : TypeId) (q : Option Addr) (w : World) (es : Array Event) {e} (hu : P.underlying t = some (.pointer e)) : (Op.equalIn (d + 1) t (.pointer q) (.pointer none)).run P w = .ok q.isNone w ∧ (Op.equalIn (d + 1) t (.pointer q) (.pointer none)).events P w es = es := by
  cases q <;> simp [Op.equalIn, run_underlying hu]
theorem run_eql_ptr (t : TypeId) {e} (hu : P.underlying t = some (.pointer e)) (q : Option Addr) (w : World) : (binOp .eql t (.pointer q) (.pointer none)).run P w = .ok (.bool q.isNone) w := by
  simp only [binOp]
  simp [Op.equal, Op.maxDepth, (eqIn_ptr 9999 t q w #[] hu).1]
theorem ev_eql_ptr (t : TypeId) {e} (hu : P.underlying t = some (.pointer e)) (q : Option Addr) (w : World) (es : Array Event) : (binOp .eql t (.pointer q) (.pointer none)).events P w es = es := by
  simp only [binOp]
  simp [Op.equal, Op.maxDepth, (eqIn_ptr 9999 t q w #[] hu).1, (eqIn_ptr 9999 t q w es hu).2]
end
section
theorem run_ifaceAtomic (a : Option Addr) (w : World) : (Instr.makeInterface 190 (.pointer a)).run Try.prog w = .ok (.iface 190 (.pointer a)) w := by simp [Instr.makeInterface, run_underlying undAtomic]
theorem ev_ifaceAtomic (a : Option Addr) (w : World) (es : Array Event) : (Instr.makeInterface 190 (.pointer a)).events Try.prog w es = es := by simp [Instr.makeInterface, run_underlying undAtomic]
theorem undWord : Try.prog.underlying 171 = some (.pointer 43) := by kernel_rfl
end
end
section
section
variable {main : Bool} {V : Nat → Option Wait}
theorem Walk.turn {P : Program} {Stop : Goroutine → World → Prop} {g g' : Goroutine} {w W : World} {es : Array Event} (hr : g.status = .running) (hs : ∀ d, stepG P main g (w.at d) = .go g' (W.at d) es) (hd : ∀ d, DR V (w.at d) (W.at d) es) (h : Walk P main (DR V) Stop g' W) : Walk P main (DR V) Stop g w :=
  Walk.step hr (fun _ => g') (fun d => W.at d) (fun _ => es) hs hd (fun d => h.back d)
theorem evR_rw {ad : Addr} (hf : Free V ad) : ∀ e ∈ (#[⟨.cell ad, false, true⟩, ⟨.cell ad, true, true⟩] : Array Event), EvR V e := by
  intro e he
  simp only [List.mem_toArray, List.mem_cons, List.not_mem_nil, or_false] at he
  rcases he with rfl | rfl
  · exact evR_read _ _
  · exact evR_write _ _ hf
theorem atLoad (b q : Nat) (v : Int) (w : World) (hc : w.cell? ⟨b, q, none⟩ = some (.int .i64 v)) : CallV Try.prog main V 152 #[.pointer (some ⟨b, q, none⟩)] w (.int .i64 v) w := by
  refine callW_in Try.func152 rfl fun fr cs => ?_
  simp only [Try.ntmps152, ez, Nat.reduceAdd, Nat.reduceSub]
  repeat (first | refine Walk.cx ?_ | refine Walk.cR ?_ | (refine Walk.oq ?_; try walk_nrm) | (refine Walk.un ?_; walk_nrm))
  refine Walk.evs (fun _ => #[⟨.cell ⟨b, q, none⟩, false, true⟩]) rfl (fun d => stepG_load_atomic (w := w.at d) rfl (by rfl) (by decide) rfl Try.func153 (by kernel_rfl) (by rfl) (by kernel_rfl) .i64 (by kernel_rfl) rfl hc) (fun d e he => by simp at he; subst he; exact evR_read _ _) ?_
  walk_nrm
  repeat (first | refine Walk.cx ?_ | refine Walk.cR ?_ | (refine Walk.oq ?_; try walk_nrm) | (refine Walk.un ?_; walk_nrm))
  exact Walk.ret1 rfl rfl Try.func152 rfl fun d => ⟨rfl, d, rfl⟩
theorem atStore (b q : Nat) (u : Value) (v : Int) (w : World) (hc : w.cell? ⟨b, q, none⟩ = some u) (hz : w.frozen? ⟨b, q, none⟩ = false) (hf : Free V ⟨b, q, none⟩) : CallV Try.prog main V 98 #[.pointer (some ⟨b, q, none⟩), .int .i64 v] w (.tuple #[]) (w.setCell ⟨b, q, none⟩ (.int .i64 v)) := by
  refine callW_in Try.func98 rfl fun fr cs => ?_
  simp only [Try.ntmps98, ez, Nat.reduceAdd, Nat.reduceSub]
  repeat (first | refine Walk.cx ?_ | refine Walk.cR ?_ | (refine Walk.oq ?_; try walk_nrm) | (refine Walk.un ?_; walk_nrm))
  refine Walk.turn (W := w.setCell ⟨b, q, none⟩ (.int .i64 v)) rfl (fun d => stepG_store_atomic (w := w.at d) rfl (by rfl) (by decide) rfl Try.func116 (by kernel_rfl) (by rfl) (by kernel_rfl) (by kernel_rfl) rfl rfl hc hz) (fun d => DR.set' hf hc d _ (fun e he => by simp at he; subst he; exact evR_write _ _ hf)) ?_
  walk_nrm
  repeat (first | refine Walk.cx ?_ | refine Walk.cR ?_ | (refine Walk.oq ?_; try walk_nrm) | (refine Walk.un ?_; walk_nrm))
  exact Walk.ret0 rfl rfl Try.func98 rfl fun d => ⟨rfl, d, rfl⟩
theorem atCas_hit (b q : Nat) (v x : Int) (w : World) (hc : w.cell? ⟨b, q, none⟩ = some (.int .i64 v)) (hz : w.frozen? ⟨b, q, none⟩ = false) (hf : Free V ⟨b, q, none⟩) : CallV Try.prog main V 97 #[.pointer (some ⟨b, q, none⟩), .int .i64 v, .int .i64 x] w (.bool true) (w.setCell ⟨b, q, none⟩ (.int .i64 x)) := by
  refine callW_in Try.func97 rfl fun fr cs => ?_
  simp only [Try.ntmps97, ez, Nat.reduceAdd, Nat.reduceSub]
  repeat (first | refine Walk.cx ?_ | refine Walk.cR ?_ | (refine Walk.oq ?_; try walk_nrm) | (refine Walk.un ?_; walk_nrm))
  refine Walk.turn (W := w.setCell ⟨b, q, none⟩ (.int .i64 x)) rfl (fun d => stepG_cas_hit (w := w.at d) rfl (by rfl) (by decide) rfl Try.func115 (by kernel_rfl) (by rfl) (by kernel_rfl) .i64 (by kernel_rfl) rfl rfl rfl hc hz) (fun d => DR.set' hf hc d _ (evR_rw hf)) ?_
  walk_nrm
  repeat (first | refine Walk.cx ?_ | refine Walk.cR ?_ | (refine Walk.oq ?_; try walk_nrm) | (refine Walk.un ?_; walk_nrm))
  exact Walk.ret1 rfl rfl Try.func97 rfl fun d => ⟨rfl, d, rfl⟩
theorem atCas_miss (b q : Nat) (v old x : Int) (w : World) (hc : w.cell? ⟨b, q, none⟩ = some (.int .i64 v)) (hz : w.frozen? ⟨b, q, none⟩ = false) (hne : ¬ v = old) : CallV Try.prog main V 97 #[.pointer (some ⟨b, q, none⟩), .int .i64 old, .int .i64 x] w (.bool false) w := by
  refine callW_in Try.func97 rfl fun fr cs => ?_
  simp only [Try.ntmps97, ez, Nat.reduceAdd, Nat.reduceSub]
  repeat (first | refine Walk.cx ?_ | refine Walk.cR ?_ | (refine Walk.oq ?_; try walk_nrm) | (refine Walk.un ?_; walk_nrm))
  refine Walk.evs (fun _ => #[⟨.cell ⟨b, q, none⟩, false, true⟩]) rfl (fun d => stepG_cas_miss (w := w.at d) rfl (by rfl) (by decide) rfl Try.func115 (by kernel_rfl) (by rfl) (by kernel_rfl) .i64 (by kernel_rfl) rfl rfl rfl hc hz hne) (fun d e he => by simp at he; subst he; exact evR_read _ _) ?_
  walk_nrm
  repeat (first | refine Walk.cx ?_ | refine Walk.cR ?_ | (refine Walk.oq ?_; try walk_nrm) | (refine Walk.un ?_; walk_nrm))
  exact Walk.ret1 rfl rfl Try.func97 rfl fun d => ⟨rfl, d, rfl⟩
end
structure Wd (L : La) where
  b : Nat
  q : Nat
  get : L.Sg → Int
  put : L.Sg → Int → L.Sg
  ok : Int → Prop
  sh : L.sh b
  rd : ∀ s w, L.I s w → w.cell? ⟨b, q, none⟩ = some (.int .i64 (get s)) ∧ w.frozen? ⟨b, q, none⟩ = false
  wr : ∀ s w v, ok v → L.I s w → L.I (put s v) (w.setCell ⟨b, q, none⟩ (.int .i64 v))
def Wd.p {L : La} (W : Wd L) : Value := .pointer (some ⟨W.b, W.q, none⟩)
noncomputable def reg86_0 := rg Try.f86.body [0]
noncomputable def reg86_1 := rg Try.f86.body [1, 0]
noncomputable def reg86_2 := rg Try.f86.body [1, 1, 0]
theorem z86 : List.range reg86_0.size = [0] ∧ List.range reg86_1.size = [0, 1] ∧ List.range reg86_2.size = [0, 1, 2, 3] := by refine ⟨?_, ?_, ?_⟩ <;> kernel_rfl
theorem code86_is : Try.f86.body = some (.seq (.region 0 reg86_0 false) (.seq (.region 1 reg86_1 false) (.seq (.region 2 reg86_2 false) (.ret)))) := by kernel_rfl
noncomputable def reg65_0 := rg Try.f65.body [0]
noncomputable def reg65_1 := rg Try.f65.body [1, 0, 0]
noncomputable def reg65_2 := rg Try.f65.body [1, 0, 1, 0, 0]
noncomputable def reg65_3 := rg Try.f65.body [1, 1, 0]
theorem z65 : List.range reg65_0.size = [0] ∧ List.range reg65_1.size = [0, 1] ∧ List.range reg65_2.size = [0] ∧ List.range reg65_3.size = [0, 1, 2, 3, 4, 5] := by refine ⟨?_, ?_, ?_, ?_⟩ <;> kernel_rfl
theorem code65_is : Try.f65.body = some (.seq (.region 0 reg65_0 false) (.seq (.seq (.region 1 reg65_1 false) (.cond (.tmp 6 ) (.seq (.region 2 reg65_2 false) (.ret)) (.skip))) (.seq (.region 3 reg65_3 false) (.ret)))) := by kernel_rfl
noncomputable def reg88_0 := rg Try.f88.body [0, 0]
noncomputable def reg88_1 := rg Try.f88.body [1, 0]
noncomputable def reg88_2 := rg Try.f88.body [1, 1]
theorem z88 : List.range reg88_0.size = [0, 1] ∧ List.range reg88_1.size = [0, 1] ∧ List.range reg88_2.size = [0, 1, 2, 3, 4] := by refine ⟨?_, ?_, ?_⟩ <;> kernel_rfl
theorem code88_is : Try.f88.body = some (.seq (.seq (.region 0 reg88_0 false) (.cond (.tmp 7 ) (.ret) (.skip))) (.seq (.region 1 reg88_1 false) (.region 2 reg88_2 false))) := by kernel_rfl
noncomputable def reg87_0 := rg Try.f87.body [0]
noncomputable def reg87_1 := rg Try.f87.body [1, 0, 0]
noncomputable def reg87_2 := rg Try.f87.body [1, 0, 1, 0, 0]
noncomputable def reg87_3 := rg Try.f87.body [1, 1, 0]
noncomputable def reg87_4 := rg Try.f87.body [1, 1, 1, 0]
theorem z87 : List.range reg87_0.size = [0] ∧ List.range reg87_1.size = [0, 1] ∧ List.range reg87_2.size = [0] ∧ List.range reg87_3.size = [0, 1] ∧ List.range reg87_4.size = [0, 1, 2, 3, 4, 5, 6] := by refine ⟨?_, ?_, ?_, ?_, ?_⟩ <;> kernel_rfl
theorem code87_is : Try.f87.body = some (.seq (.region 0 reg87_0 false) (.seq (.seq (.region 1 reg87_1 false) (.cond (.tmp 10 ) (.seq (.region 2 reg87_2 false) (.ret)) (.skip))) (.seq (.region 3 reg87_3 false) (.seq (.region 4 reg87_4 false) (.ret))))) := by kernel_rfl
section
variable {L : La} {sv : Value}
theorem step_s (K : Lg L sv) (e : K.E) (d : L.D) (ht : K.tgt e = (K.s e, .inr d)) : SCall K.toLb 96 #[sv] e (fun _ e' => Aft K.toLb e d e') := fun fr l hp hl hk => K.step e d ht fr l hp hl fun e' ha => hk _ e' ha
theorem plain_cons {fr : Frame} {l : List Frame} (hp : Plain fr) (hl : ∀ f ∈ l, Plain f) : ∀ f ∈ fr :: l, Plain f := fun x hx => by
  rcases List.mem_cons.1 hx with rfl | hx
  · exact hp
  · exact hl x hx
theorem Wd.put_mv (W : Wd L) (K : Lg L sv) (e : K.E) (v : Int) (hv : W.ok v) : ∃ e', Mv K.toLb e e' (W.put (K.s e) v) ((K.w e).setCell ⟨W.b, W.q, none⟩ (.int .i64 v)) :=
  K.mv e _ _ (Nat.le_of_eq (size_set ..).symm) (fun b _ _ hs => heap_set_other _ _ _ _ fun he : b = W.b => hs (by rw [he]; exact W.sh)) (W.wr _ _ v hv (K.inv e))
theorem holds_s (K : Lg L sv) (W : Wd L) (e : K.E) (d : L.D) (ht : K.tgt e = (K.s e, .inr d)) : SCall K.toLb 86 #[sv, W.p] e (fun v e' => Aft K.toLb e d e' ∧ v = .int .i64 (W.get (K.s e'))) := by
  intro fr l hp hl hk
  unfold LW Wd.p
  rw [enter_at _ Try.func86 code86_is]
  simp only [Try.ntmps86, ez, Nat.reduceAdd, Nat.reduceSub]
  repeat (first | refine Walk.cx ?_ | (refine Walk.cReg ?_; simp only [z86]) | (refine Walk.oq ?_; try walk_nrm) | (refine Walk.un ?_; walk_nrm))
  refine LW.callS (K := K.toLb) (e := e) (l := fr :: l) (f := 96) (Q := fun _ e' => Aft K.toLb e d e') ?_ (ho_of (by conv => lhs; whnf) (by kernel_rfl)) (by rfl) (by decide) rfl Try.func96 (by kernel_rfl) (by rfl) ⟨rfl, rfl, _, Try.func86⟩ (plain_cons hp hl) ?_
  · walk_nrm
    exact step_s K e d ht
  intro v e' ha
  have hc := (W.rd _ _ (K.inv e')).1
  have hi1 := run_ifaceAtomic
  have hi2 := ev_ifaceAtomic
  unfold LW
  walk_nrm
  repeat (first | refine Walk.cx ?_ | (refine Walk.cReg ?_; simp only [z86]) | (refine Walk.oq ?_; try walk_nrm) | (refine Walk.un ?_; walk_nrm))
  refine Walk.invokeLoad W.b W.q (ho_of (by conv => lhs; whnf) (by kernel_rfl)) (by rfl) (by decide) rfl rfl ?_
  refine (atLoad W.b W.q _ (K.w e') hc _ _).then ?_
  rintro g' w' ⟨v', ⟨rfl, dd, rfl⟩, rfl⟩
  refine Walk.back ?_ dd
  refine Walk.finish (ho_of (by conv => lhs; whnf) (by kernel_rfl)) ?_
  walk_nrm
  repeat (first | refine Walk.cx ?_ | (refine Walk.cReg ?_; simp only [z86]) | (refine Walk.oq ?_; try walk_nrm) | (refine Walk.un ?_; walk_nrm))
  exact Walk.on1 rfl rfl Try.func86 rfl (hk _ e' ⟨ha, rfl⟩)
theorem word_load (K : Lg L sv) (W : Wd L) (e : K.E) (d : L.D) (ht : K.tgt e = (K.s e, .inr d)) : SCall K.toLb 65 #[W.p, sv] e (fun v e' => Aft K.toLb e d e' ∧ v = .int .i64 (W.get (K.s e'))) := by
  intro fr l hp hl hk
  have hh := holds_s K W e d ht
  unfold Wd.p at *
  unfold LW
  have hp1 := fun w => run_eql_ptr (P := Try.prog) 171 undWord (some ⟨W.b, W.q, none⟩) w
  have hp2 := fun w es => ev_eql_ptr (P := Try.prog) 171 undWord (some ⟨W.b, W.q, none⟩) w es
  simp only [Option.isNone_some] at hp1
  rw [enter_at _ Try.func65 code65_is]
  simp only [Try.ntmps65, ez, Nat.reduceAdd, Nat.reduceSub]
  repeat (first | refine Walk.cx ?_ | (refine Walk.cReg ?_; simp only [z65]) | (refine Walk.oq ?_; try walk_nrm) | (refine Walk.un ?_; walk_nrm))
  refine LW.callS (K := K.toLb) (e := e) (l := fr :: l) (f := 86) (Q := fun v e' => Aft K.toLb e d e' ∧ v = .int .i64 (W.get (K.s e'))) ?_ (ho_of (by conv => lhs; whnf) (by kernel_rfl)) (by rfl) (by decide) rfl Try.func86 (by kernel_rfl) (by rfl) ⟨rfl, rfl, _, Try.func65⟩ (plain_cons hp hl) ?_
  · walk_nrm
    exact hh
  rintro v e' ⟨ha, rfl⟩
  unfold LW
  walk_nrm
  repeat (first | refine Walk.cx ?_ | (refine Walk.cReg ?_; simp only [z65]) | (refine Walk.oq ?_; try walk_nrm) | (refine Walk.un ?_; walk_nrm))
  exact Walk.on1 rfl rfl Try.func65 rfl (hk _ e' ⟨ha, rfl⟩)
structure Wrote (K : Lg L sv) (e : K.E) (d : L.D) (s : L.Sg) (s' : L.Sg) (e' : K.E) : Prop where
  tgt : K.tgt e' = L.act s d
  fuel : K.fuel e' < K.fuel e
  s : K.s e' = s'
  size : (K.w e).heap.size ≤ (K.w e').heap.size
  mine : ∀ b, K.mine e b → K.mine e' b ∧ (K.w e').heap[b]? = (K.w e).heap[b]?
theorem Wrote.of {K : Lg L sv} {e e1 e' : K.E} {d : L.D} {s' : L.Sg} {W : Wd L} {v : Int} (ha : Aft K.toLb e d e1) (m : Mv K.toLb e1 e' s' ((K.w e1).setCell ⟨W.b, W.q, none⟩ (.int .i64 v))) : Wrote K e d (K.s e1) s' e' :=
  ⟨m.tgt.trans ha.tgt, by rw [m.fuel]; exact ha.fuel, m.s, by rw [m.w, size_set]; exact ha.size, fun b hb => by
    obtain ⟨h1, h2⟩ := ha.mine b hb
    have hne : b ≠ W.b := fun he => (K.mineA e1 b h1).2.1 (by rw [he]; exact W.sh)
    refine ⟨(m.mine b).2 (.inl h1), ?_⟩
    rw [m.w, heap_set_other _ _ _ _ hne]
    exact h2⟩
theorem Wrote.same {K : Lg L sv} {e e1 : K.E} {d : L.D} (ha : Aft K.toLb e d e1) : Wrote K e d (K.s e1) (K.s e1) e1 := ⟨ha.tgt, ha.fuel, rfl, ha.size, ha.mine⟩
theorem word_store (K : Lg L sv) (W : Wd L) (e : K.E) (d : L.D) (x : Int) (hx : W.ok x) (ht : K.tgt e = (K.s e, .inr d)) : SCall K.toLb 88 #[W.p, sv, .int .i64 x] e (fun _ e' => ∃ s, Wrote K e d s (W.put s x) e') := by
  intro fr l hp hl hk
  unfold Wd.p
  unfold LW
  have hp1 := fun w => run_eql_ptr (P := Try.prog) 171 undWord (some ⟨W.b, W.q, none⟩) w
  have hp2 := fun w es => ev_eql_ptr (P := Try.prog) 171 undWord (some ⟨W.b, W.q, none⟩) w es
  simp only [Option.isNone_some] at hp1
  rw [enter_at _ Try.func88 code88_is]
  simp only [Try.ntmps88, ez, Nat.reduceAdd, Nat.reduceSub]
  repeat (first | refine Walk.cx ?_ | (refine Walk.cReg ?_; simp only [z88]) | (refine Walk.oq ?_; try walk_nrm) | (refine Walk.un ?_; walk_nrm))
  refine LW.callS (K := K.toLb) (e := e) (l := fr :: l) (f := 96) (Q := fun _ e' => Aft K.toLb e d e') ?_ (ho_of (by conv => lhs; whnf) (by kernel_rfl)) (by rfl) (by decide) rfl Try.func96 (by kernel_rfl) (by rfl) ⟨rfl, rfl, _, Try.func88⟩ (plain_cons hp hl) ?_
  · walk_nrm
    exact step_s K e d ht
  intro v e1 ha
  obtain ⟨hc, hz⟩ := W.rd _ _ (K.inv e1)
  obtain ⟨e', m⟩ := W.put_mv K e1 x hx
  unfold LW
  walk_nrm
  repeat (first | refine Walk.cx ?_ | (refine Walk.cReg ?_; simp only [z88]) | (refine Walk.oq ?_; try walk_nrm) | (refine Walk.un ?_; walk_nrm))
  refine Walk.callV (x := .tuple #[]) (W := (K.w e1).setCell ⟨W.b, W.q, none⟩ (.int .i64 x)) ?_ (ho_of (by conv => lhs; whnf) (by kernel_rfl)) (by rfl) (by decide) rfl Try.func98 (by kernel_rfl) (by rfl) ?_
  · walk_nrm
    exact atStore W.b W.q _ x (K.w e1) hc hz ((K.shA e1 _ W.sh).1 _ rfl)
  walk_nrm
  repeat (first | refine Walk.cx ?_ | (refine Walk.cReg ?_; simp only [z88]) | (refine Walk.oq ?_; try walk_nrm) | (refine Walk.un ?_; walk_nrm))
  exact Walk.on0 rfl rfl Try.func88 rfl (LW.to m (hk _ e' ⟨K.s e1, Wrote.of ha m⟩))
theorem word_cas (K : Lg L sv) (W : Wd L) (e : K.E) (d : L.D) (old x : Int) (hx : W.ok x) (ht : K.tgt e = (K.s e, .inr d)) : SCall K.toLb 87 #[W.p, sv, .int .i64 old, .int .i64 x] e (fun v e' => ∃ s, (W.get s = old ∧ v = .bool true ∧ Wrote K e d s (W.put s x) e') ∨ (W.get s ≠ old ∧ v = .bool false ∧ Wrote K e d s s e')) := by
  intro fr l hp hl hk
  unfold Wd.p
  unfold LW
  have hp1 := fun w => run_eql_ptr (P := Try.prog) 171 undWord (some ⟨W.b, W.q, none⟩) w
  have hp2 := fun w es => ev_eql_ptr (P := Try.prog) 171 undWord (some ⟨W.b, W.q, none⟩) w es
  simp only [Option.isNone_some] at hp1
  rw [enter_at _ Try.func87 code87_is]
  simp only [Try.ntmps87, ez, Nat.reduceAdd, Nat.reduceSub]
  repeat (first | refine Walk.cx ?_ | (refine Walk.cReg ?_; simp only [z87]) | (refine Walk.oq ?_; try walk_nrm) | (refine Walk.un ?_; walk_nrm))
  refine LW.callS (K := K.toLb) (e := e) (l := fr :: l) (f := 96) (Q := fun _ e' => Aft K.toLb e d e') ?_ (ho_of (by conv => lhs; whnf) (by kernel_rfl)) (by rfl) (by decide) rfl Try.func96 (by kernel_rfl) (by rfl) ⟨rfl, rfl, _, Try.func87⟩ (plain_cons hp hl) ?_
  · walk_nrm
    exact step_s K e d ht
  intro v e1 ha
  obtain ⟨hc, hz⟩ := W.rd _ _ (K.inv e1)
  unfold LW
  walk_nrm
  repeat (first | refine Walk.cx ?_ | (refine Walk.cReg ?_; simp only [z87]) | (refine Walk.oq ?_; try walk_nrm) | (refine Walk.un ?_; walk_nrm))
  by_cases hv : W.get (K.s e1) = old
  · obtain ⟨e', m⟩ := W.put_mv K e1 x hx
    refine Walk.callV (x := .bool true) (W := (K.w e1).setCell ⟨W.b, W.q, none⟩ (.int .i64 x)) ?_ (ho_of (by conv => lhs; whnf) (by kernel_rfl)) (by rfl) (by decide) rfl Try.func97 (by kernel_rfl) (by rfl) ?_
    · walk_nrm
      rw [hv] at hc
      exact atCas_hit W.b W.q old x (K.w e1) hc hz ((K.shA e1 _ W.sh).1 _ rfl)
    walk_nrm
    repeat (first | refine Walk.cx ?_ | (refine Walk.cReg ?_; simp only [z87]) | (refine Walk.oq ?_; try walk_nrm) | (refine Walk.un ?_; walk_nrm))
    exact Walk.on1 rfl rfl Try.func87 rfl (LW.to m (hk _ e' ⟨K.s e1, .inl ⟨hv, rfl, Wrote.of ha m⟩⟩))
  · refine Walk.callV (x := .bool false) (W := K.w e1) ?_ (ho_of (by conv => lhs; whnf) (by kernel_rfl)) (by rfl) (by decide) rfl Try.func97 (by kernel_rfl) (by rfl) ?_
    · walk_nrm
      exact atCas_miss W.b W.q _ old x (K.w e1) hc hz hv
    walk_nrm
    repeat (first | refine Walk.cx ?_ | (refine Walk.cReg ?_; simp only [z87]) | (refine Walk.oq ?_; try walk_nrm) | (refine Walk.un ?_; walk_nrm))
    exact Walk.on1 rfl rfl Try.func87 rfl (hk _ e1 ⟨K.s e1, .inr ⟨hv, rfl, Wrote.same ha⟩⟩)
end
end
end Go.Proofs.Ytdcjgmlgmjjogaa
