/- Part 25. -/
import Derived.Test.YtflcclneedldoaaJ14
import Derived.Test.YtflcclneedldoaaJ24
set_option linter.unusedSimpArgs false
set_option linter.unusedVariables false
set_option maxHeartbeats 8000000
set_option maxRecDepth 100000
namespace Go.Proofs.Ytflcclneedldoaa
open Go.Conc Go.RowKit Go.Relay Try
open Go.ConcN (upd upd_ne upd_same)
structure Grew (S S' : Nat -> Prop) (w w' : World) : Prop where
 chg : Chg S w w'
 own : ∀ b, S' b -> S b ∨ w.heap.size <= b
theorem Grew.trans {S S1 S2 : Nat -> Prop} {w w1 w2 : World} (h1 : Grew S S1 w w1) (h2 : Grew S1 S2 w1 w2) : Grew S S2 w w2 :=
 ⟨h1.chg.trans h2.chg fun b hb h => (h1.own b h).resolve_right (by omega), fun b h => (h2.own b h).elim (h1.own b) fun h => .inr (Nat.le_trans h1.chg.size h)⟩
theorem Grew.at {S S' : Nat -> Prop} {w w' : World} (h : Grew S S' w w') (d : Nat) : Grew S S' w (w'.at d) := ⟨h.chg.at d, h.own⟩
theorem Got.grew {M m tb n : Nat} {cb : CB} {T T' : Nat -> R11} {w w' : World} (h : Got M cb m tb n T T' w w') : Grew (Fb M cb m tb n T) (Fb M cb m tb n T') w w' := ⟨h.chg, h.own⟩
def R11.new (oa : Option Addr) (ln oc i : Nat) (ops : List OpV) : R11 := ⟨.slice oa ln oc, ops, .slice none 0 0, [], i, 0, 0, 0, 0, 0, .slice none 0 0, [], True, fun _ => False⟩
theorem Ga (oa : Option Addr) (ln oc i : Nat) (ops : List OpV) (b : Nat) : ¬ (R11.new oa ln oc i ops).own b := by
 rintro (h | ⟨_, h⟩)
 ·exact h
 ·cases h
def Qu (oa : Option Addr) (ln oc i : Nat) : Obj := .cells #[.slice oa ln oc, .slice none 0 0, .int .i64 i, .int .i64 0, .int .i64 0, .int .i64 0, .int .i64 0, .int .i64 0, .slice none 0 0] 190
section
variable {a0 M tb tc n m : Nat} {cb : CB} {ta : Option Addr} {Sx : Rg} {T : Nat -> R11} {main : Bool}
def Qt (a0 M : Nat) (cb : CB) (m : Nat) (Sx : Rg) (T : Nat -> R11) (tb i : Nat) (t : R11) (w : World) (g cap : Nat) (w1 : World) : Prop :=
 M11 a0 M cb g cap (i + 1) m (some ⟨g, 0, none⟩) Sx (upd T i t) w1 /\ Grew (Fb M cb m tb i T) (Fb M cb m g (i + 1) (upd T i t)) w w1
theorem thread_le {i N : Nat} (hi : i < N) (hN : N <= 64) (b off n0 tcc : Nat) (sv : Value) (mo : Int) (R : Nat) (oa : Option Addr) (ln oc : Nat) (ops : List OpV) (hcap : ln <= oc) (hl : ln <= 65536) (had : (oa = none /\ oc = 0) ∨ ∃ p, oa = some p) (hn0 : N <= n0) (w : World) (I : M11 a0 M cb tb tc i m ta Sx T w) (hz : i = 0 -> ta = none /\ tc = 0) (hM0 : i = 0 -> tb = M) (ha0 : a0 <= w.heap.size)
  (hh : w.cell? ⟨b, off + i, none⟩ = some (.slice oa ln oc)) (hO : OpsAt a0 (.slice oa ln oc) ops w) (P : Nat -> Nat -> World -> Prop)
  (hset : ∀ g cap w1, Qt a0 M cb m Sx T tb i (R11.new oa ln oc i ops) w g cap w1 -> CallW prog main (fun _ => none) 116 #[.pointer (some ⟨M, 0, none⟩), .int .i64 i] w1 (fun v w2 => v = .tuple #[] /\ P g cap w2)) (u : Nat -> Value) (cs : List Frame) :
  Walk prog main (DR (fun _ => none)) (fun g' w' => (∃ u, g' = G (hdRun0 M (.slice (some ⟨b, off, none⟩) n0 tcc) sv mo R N (i + 1) u) cs) /\ ∃ g cap w2 d, P g cap w2 /\ w' = w2.at d) (G (hdRun0 M (.slice (some ⟨b, off, none⟩) n0 tcc) sv mo R N i u) cs) w := by
 have hb1 : decide ((65536 : Int) < ln) = false := by simp; omega
 have hb2 : decide (65536 < ln) = false := by simp; omega
 obtain ⟨hi0, hi1, hi3, hi4⟩ := hIx i n0
 have hi5 : decide ((i : Int) < N) = true := by simp; omega
 have hi6 : decide (i < N) = true := by simp; omega
 have hw1 := wI ((i : Int) + 1)
 have hcc : ((i + 1 : Nat) : Int) = (i : Int) + 1 := by simp
 have hiT := Option.some_get (show (prog.info? 190).isSome = true by kernel_rfl)
 have c1 : w.cell? ⟨M, 3, none⟩ = some (.slice ta i tc) := (Ab I.hd 3).trans rfl
 have hrow := I.row hz
 obtain ⟨b1, b2, b3, b4⟩ := I.base
 obtain ⟨l1, l2, l3⟩ := I.lt
 conv => arg 5; unfold hdRun0
 refine Aa z59 ?_
 (refine Wa ?_; try walk_nrm)
 have e1 : w.alloc (.cells #[.slice oa ln oc, .slice none 0 0, .int .i64 i, .int .i64 0, .int .i64 0, .int .i64 0, .int .i64 0, .int .i64 0, .slice none 0 0] 190) = w.alloc (Qu oa ln oc i) := rfl
 try rw [e1]
 clear e1
 have d1 := hAw w (Qu oa ln oc i)
 have o1 : ∀ x, x < w.heap.size -> (w.alloc (Qu oa ln oc i)).heap[x]? = w.heap[x]? := fun x hx => Ad _ _ hx
 have s1 : (w.alloc (Qu oa ln oc i)).heap.size = w.heap.size + 1 := by simp
 have hrow1 : (w.alloc (Qu oa ln oc i)).ownsRow a0 190 9 (.slice ta i tc) i (Ee T i) := As hrow fun g hg => o1 g (hrow.lt g hg).2
 have I1 := I.same o1
 have hO1 : OpsAt a0 (.slice oa ln oc) ops (w.alloc (Qu oa ln oc i)) := hO.same fun x _ hx => o1 x hx
 have hfar : ∀ x, x < w.heap.size -> (Value.slice ta i tc).ownBlock ≠ some x -> ∀ w3, (w.alloc (Qu oa ln oc i)).grownBy w3 (Value.slice ta i tc).ownBlock -> w3.heap[x]? = w.heap[x]? := fun x hx hne w3 hg => (hg.block x (by omega) (fun e => hne e.symm)).trans (o1 x hx)
 have hob : ∀ x, (Value.slice ta i tc).ownBlock = some x -> Fb M cb m tb i T x /\ x ≠ M /\ a0 <= x := fun x hx => by
  by_cases h0 : i = 0
  ·obtain ⟨rfl, rfl⟩ := hz h0
   cases hx
  ·obtain ⟨rfl, _⟩ := I.ts (by omega)
   simp only [Value.ownBlock, Option.some.injEq] at hx
   subst hx
   exact ⟨.inr (.inr (.inl rfl)), Ne.symm (b4 (by omega)).2.1, (b4 (by omega)).1⟩
 generalize hS : w.heap.size = S at *
 generalize hw0 : w.alloc (Qu oa ln oc i) = w0 at *
 repeat (first | (refine Wq ?_; try walk_nrm) | (refine Bh ?_; walk_nrm))
 refine Walk.append (.tmp 44) (.tmp 48) 186 Ah (by rfl) (by decide) rfl a0 190 _ (.agg #[.slice none 0 0, .slice none 0 0, .int .i64 0, .int .i64 0, .int .i64 0, .int .i64 0, .int .i64 0, .int .i64 0, .slice none 0 0]) 9 120 (by kernel_rfl) hiT.symm (by rfl) (by rfl) (by rfl) (by rfl) (by decide) (.slice ta i tc) i (Ee T i) rfl hrow1 ⟨S, 0, none⟩ 1 1 (R11.new oa ln oc i ops).cells rfl (by rfl) (fun j v hv => ?_) (by intro v hv; simp only [R11.cells, R11.new, List.mem_cons, List.not_mem_nil, or_false] at hv; rcases hv with rfl | rfl | rfl | rfl | rfl | rfl | rfl | rfl | rfl <;> rfl) (by decide) (by simp [maxLen]; omega) (by omega) (by omega) (fun g _ => Ov g) (fun g cap w3 hown hg hat hlt => ?_)
 ·rw [Bs, Nat.zero_add]
  refine (Ab d1 j).trans ?_
  simpa [R11.cells, R11.new] using hv
 have hgs := hg.size
 have hMw : w3.heap[M]? = w.heap[M]? := hfar M l1 (fun e => (hob M e).2.1 rfl) w3 hg
 have I3 := I.push hz (R11.new oa ln oc i ops) (Ga oa ln oc i ops) g cap w3 hown (fun x hx hne => hfar x (by omega) hne w3 hg) (hat.imp id fun h => by omega) ⟨hO1.same fun x hx hw => hg.block x hw fun e => by have := (hob x e.symm).2.2; omega, RowA.nil _ _ _, fun _ => ⟨rfl, .inl ⟨rfl, rfl⟩⟩, fun _ b hb => (by cases hb), fun b hb => hb.elim⟩
 have hcM : w3.cell? ⟨M, 3, none⟩ = some (.slice ta i tc) := (cBk (a := ⟨M, 3, none⟩) hMw).trans c1
 have hzM : w3.frozen? ⟨M, 3, none⟩ = false := Av (hMw.trans I.hd) 3
 have G3 : Grew (Fb M cb m tb i T) (Fb M cb m g (i + 1) (upd T i (R11.new oa ln oc i ops))) w (w3.setCell ⟨M, 3, none⟩ (.slice (some ⟨g, 0, none⟩) (i + 1) cap)) := by
  refine ⟨⟨by rw [Ai]; omega, fun x hx hn => ?_⟩, fun x hx => ?_⟩
  ·rw [Ac _ _ _ _ (fun e => hn (.inl e))]
   exact hfar x (by omega) (fun e => hn (hob x e).1) w3 hg
  ·rcases hx with hx | hx | hx | ⟨k, hk, hx⟩
   ·exact .inl (.inl hx)
   ·exact .inl (.inr (.inl hx))
   ·subst hx
    rcases hat with h | h
    ·exact .inl (hob _ h).1
    ·exact .inr (by omega)
   ·by_cases e : k = i
    ·subst e
     rw [upd_same] at hx
     exact absurd hx (Ga oa ln oc _ ops x)
    ·rw [upd_ne _ _ e] at hx
     exact .inl (.inr (.inr (.inr ⟨k, by omega, hx⟩)))
 have hT := hset g cap _ ⟨I3, G3⟩
 clear hrow1 I1 hO1 hrow hfar hob d1 o1 hown hset
 walk_nrm
 repeat (first | (refine Wq ?_; try walk_nrm) | (refine Bh ?_; walk_nrm))
 (have hfr := Ju M 3; refine Ws hfr hcM ?_; clear hfr; try walk_nrm)
 generalize w3.setCell ⟨M, 3, none⟩ (.slice (some ⟨g, 0, none⟩) (i + 1) cap) = w4 at *
 clear I I3 G3 hg hat hMw hcM hzM c1 hh hO
 try walk_nrm
 refine Aa z59 ?_
 refine qW (Post := fun v w' => v = .tuple #[] /\ P g cap w') func116 ?_ ?_
 ·walk_nrm
  exact hT
 rintro v w5 ⟨rfl, hP⟩
 walk_nrm
 refine Aa z59 ?_
 refine cIL ?_
 refine .stop fun d => ⟨Ak ?_, g, cap, w5, d, hP, rfl⟩
 simp only [hdRun0, hcc]
 rfl
theorem thread_gt {i N : Nat} (hi : i < N) (hN : N <= 64) (b off n0 tcc : Nat) (sv : Value) (mo : Int) (R : Nat) (oa : Option Addr) (ln oc : Nat) (ops : List OpV) (hcap : ln <= oc) (hl : 65536 < ln) (had : (oa = none /\ oc = 0) ∨ ∃ p, oa = some p) (hn0 : N <= n0) (w : World) (I : M11 a0 M cb tb tc i m ta Sx T w) (hz : i = 0 -> ta = none /\ tc = 0) (hM0 : i = 0 -> tb = M) (ha0 : a0 <= w.heap.size)
  (hh : w.cell? ⟨b, off + i, none⟩ = some (.slice oa ln oc)) (hO : OpsAt a0 (.slice oa 65536 oc) ops w) (P : Nat -> Nat -> World -> Prop)
  (hset : ∀ g cap w1, Qt a0 M cb m Sx T tb i (R11.new oa 65536 oc i ops) w g cap w1 -> CallW prog main (fun _ => none) 116 #[.pointer (some ⟨M, 0, none⟩), .int .i64 i] w1 (fun v w2 => v = .tuple #[] /\ P g cap w2)) (u : Nat -> Value) (cs : List Frame) :
  Walk prog main (DR (fun _ => none)) (fun g' w' => (∃ u, g' = G (hdRun0 M (.slice (some ⟨b, off, none⟩) n0 tcc) sv mo R N (i + 1) u) cs) /\ ∃ g cap w2 d, P g cap w2 /\ w' = w2.at d) (G (hdRun0 M (.slice (some ⟨b, off, none⟩) n0 tcc) sv mo R N i u) cs) w := by
 have hb1 : decide ((65536 : Int) < ln) = true := by simp; omega
 have hb2 : decide (65536 < ln) = true := by simp; omega
 have hiOp := Option.some_get (show (prog.info? 45).isSome = true by kernel_rfl)
 have hsl : ∀ w, (Instr.sliceAt 22 (.slice oa ln oc) none (some (.int .i64 65536)) none).run prog w = .ok (.slice oa 65536 oc) w := fun w => (Iu huOps hiOp.symm oa ln oc 65536 (by omega) had w #[]).1
 have hse : ∀ w es, (Instr.sliceAt 22 (.slice oa ln oc) none (some (.int .i64 65536)) none).events prog w es = es := fun w es => (Iu huOps hiOp.symm oa ln oc 65536 (by omega) had w es).2
 obtain ⟨hi0, hi1, hi3, hi4⟩ := hIx i n0
 have hi5 : decide ((i : Int) < N) = true := by simp; omega
 have hi6 : decide (i < N) = true := by simp; omega
 have hw1 := wI ((i : Int) + 1)
 have hcc : ((i + 1 : Nat) : Int) = (i : Int) + 1 := by simp
 have hiT := Option.some_get (show (prog.info? 190).isSome = true by kernel_rfl)
 have c1 : w.cell? ⟨M, 3, none⟩ = some (.slice ta i tc) := (Ab I.hd 3).trans rfl
 have hrow := I.row hz
 obtain ⟨b1, b2, b3, b4⟩ := I.base
 obtain ⟨l1, l2, l3⟩ := I.lt
 conv => arg 5; unfold hdRun0
 refine Aa z59 ?_
 (refine Wa ?_; try walk_nrm)
 have e1 : w.alloc (.cells #[.slice oa 65536 oc, .slice none 0 0, .int .i64 i, .int .i64 0, .int .i64 0, .int .i64 0, .int .i64 0, .int .i64 0, .slice none 0 0] 190) = w.alloc (Qu oa 65536 oc i) := rfl
 try rw [e1]
 clear e1
 have d1 := hAw w (Qu oa 65536 oc i)
 have o1 : ∀ x, x < w.heap.size -> (w.alloc (Qu oa 65536 oc i)).heap[x]? = w.heap[x]? := fun x hx => Ad _ _ hx
 have s1 : (w.alloc (Qu oa 65536 oc i)).heap.size = w.heap.size + 1 := by simp
 have hrow1 : (w.alloc (Qu oa 65536 oc i)).ownsRow a0 190 9 (.slice ta i tc) i (Ee T i) := As hrow fun g hg => o1 g (hrow.lt g hg).2
 have I1 := I.same o1
 have hO1 : OpsAt a0 (.slice oa 65536 oc) ops (w.alloc (Qu oa 65536 oc i)) := hO.same fun x _ hx => o1 x hx
 have hfar : ∀ x, x < w.heap.size -> (Value.slice ta i tc).ownBlock ≠ some x -> ∀ w3, (w.alloc (Qu oa 65536 oc i)).grownBy w3 (Value.slice ta i tc).ownBlock -> w3.heap[x]? = w.heap[x]? := fun x hx hne w3 hg => (hg.block x (by omega) (fun e => hne e.symm)).trans (o1 x hx)
 have hob : ∀ x, (Value.slice ta i tc).ownBlock = some x -> Fb M cb m tb i T x /\ x ≠ M /\ a0 <= x := fun x hx => by
  by_cases h0 : i = 0
  ·obtain ⟨rfl, rfl⟩ := hz h0
   cases hx
  ·obtain ⟨rfl, _⟩ := I.ts (by omega)
   simp only [Value.ownBlock, Option.some.injEq] at hx
   subst hx
   exact ⟨.inr (.inr (.inl rfl)), Ne.symm (b4 (by omega)).2.1, (b4 (by omega)).1⟩
 generalize hS : w.heap.size = S at *
 generalize hw0 : w.alloc (Qu oa 65536 oc i) = w0 at *
 repeat (first | (refine Wq ?_; try walk_nrm) | (refine Bh ?_; walk_nrm))
 refine Walk.append (.tmp 44) (.tmp 48) 186 Ah (by rfl) (by decide) rfl a0 190 _ (.agg #[.slice none 0 0, .slice none 0 0, .int .i64 0, .int .i64 0, .int .i64 0, .int .i64 0, .int .i64 0, .int .i64 0, .slice none 0 0]) 9 120 (by kernel_rfl) hiT.symm (by rfl) (by rfl) (by rfl) (by rfl) (by decide) (.slice ta i tc) i (Ee T i) rfl hrow1 ⟨S, 0, none⟩ 1 1 (R11.new oa 65536 oc i ops).cells rfl (by rfl) (fun j v hv => ?_) (by intro v hv; simp only [R11.cells, R11.new, List.mem_cons, List.not_mem_nil, or_false] at hv; rcases hv with rfl | rfl | rfl | rfl | rfl | rfl | rfl | rfl | rfl <;> rfl) (by decide) (by simp [maxLen]; omega) (by omega) (by omega) (fun g _ => Ov g) (fun g cap w3 hown hg hat hlt => ?_)
 ·rw [Bs, Nat.zero_add]
  refine (Ab d1 j).trans ?_
  simpa [R11.cells, R11.new] using hv
 have hgs := hg.size
 have hMw : w3.heap[M]? = w.heap[M]? := hfar M l1 (fun e => (hob M e).2.1 rfl) w3 hg
 have I3 := I.push hz (R11.new oa 65536 oc i ops) (Ga oa 65536 oc i ops) g cap w3 hown (fun x hx hne => hfar x (by omega) hne w3 hg) (hat.imp id fun h => by omega) ⟨hO1.same fun x hx hw => hg.block x hw fun e => by have := (hob x e.symm).2.2; omega, RowA.nil _ _ _, fun _ => ⟨rfl, .inl ⟨rfl, rfl⟩⟩, fun _ b hb => (by cases hb), fun b hb => hb.elim⟩
 have hcM : w3.cell? ⟨M, 3, none⟩ = some (.slice ta i tc) := (cBk (a := ⟨M, 3, none⟩) hMw).trans c1
 have hzM : w3.frozen? ⟨M, 3, none⟩ = false := Av (hMw.trans I.hd) 3
 have G3 : Grew (Fb M cb m tb i T) (Fb M cb m g (i + 1) (upd T i (R11.new oa 65536 oc i ops))) w (w3.setCell ⟨M, 3, none⟩ (.slice (some ⟨g, 0, none⟩) (i + 1) cap)) := by
  refine ⟨⟨by rw [Ai]; omega, fun x hx hn => ?_⟩, fun x hx => ?_⟩
  ·rw [Ac _ _ _ _ (fun e => hn (.inl e))]
   exact hfar x (by omega) (fun e => hn (hob x e).1) w3 hg
  ·rcases hx with hx | hx | hx | ⟨k, hk, hx⟩
   ·exact .inl (.inl hx)
   ·exact .inl (.inr (.inl hx))
   ·subst hx
    rcases hat with h | h
    ·exact .inl (hob _ h).1
    ·exact .inr (by omega)
   ·by_cases e : k = i
    ·subst e
     rw [upd_same] at hx
     exact absurd hx (Ga oa 65536 oc _ ops x)
    ·rw [upd_ne _ _ e] at hx
     exact .inl (.inr (.inr (.inr ⟨k, by omega, hx⟩)))
 have hT := hset g cap _ ⟨I3, G3⟩
 clear hrow1 I1 hO1 hrow hfar hob d1 o1 hown hset
 walk_nrm
 repeat (first | (refine Wq ?_; try walk_nrm) | (refine Bh ?_; walk_nrm))
 (have hfr := Ju M 3; refine Ws hfr hcM ?_; clear hfr; try walk_nrm)
 generalize w3.setCell ⟨M, 3, none⟩ (.slice (some ⟨g, 0, none⟩) (i + 1) cap) = w4 at *
 clear I I3 G3 hg hat hMw hcM hzM c1 hh hO
 try walk_nrm
 refine Aa z59 ?_
 refine qW (Post := fun v w' => v = .tuple #[] /\ P g cap w') func116 ?_ ?_
 ·walk_nrm
  exact hT
 rintro v w5 ⟨rfl, hP⟩
 walk_nrm
 refine Aa z59 ?_
 refine cIL ?_
 refine .stop fun d => ⟨Ak ?_, g, cap, w5, d, hP, rfl⟩
 simp only [hdRun0, hcc]
 rfl
end
section
variable {a0 M tb tc n m R : Nat} {cb : CB} {ta : Option Addr} {T : Nat -> R11} {main : Bool}
theorem M11.keep {Sx : Rg} {w w' : World} (I : M11 a0 M cb tb tc n m ta Sx T w) (h : ∀ b, b < w.heap.size -> (b < a0 ∨ Fb M cb m tb n T b) -> w'.heap[b]? = w.heap[b]?) : M11 a0 M cb tb tc n m ta Sx T w' := by
 obtain ⟨l1, l2, l3⟩ := I.lt
 refine ⟨(h M l1 (.inr (.inl rfl))).trans I.hd, Mx I.cs fun b hb => h b (l2 b hb) (.inr (.inr (.inl hb))), fun hn => ?_, fun i hi => ?_, I.far, I.base⟩
 ·obtain ⟨e, arr, h1, h2⟩ := I.ts hn
  exact ⟨e, arr, (h tb (l3 hn) (.inr (.inr (.inr (.inl rfl))))).trans h1, h2⟩
 ·have R := I.rows i hi
  exact R.same (fun b hb hw => h b hw (.inl hb)) fun b hb => h b (R.low hb).2 (.inr (.inr (.inr (.inr ⟨i, hi, hb⟩))))
theorem M11.noT {Sx : Rg} {w : World} (I : M11 a0 M cb 0 tc 0 m ta Sx T w) : M11 a0 M cb M tc 0 m ta Sx T w :=
 ⟨I.hd, I.cs, fun h => absurd h (Nat.lt_irrefl 0), fun i hi => absurd hi (Nat.not_lt_zero i), fun i hi => absurd hi (Nat.not_lt_zero i), I.base.1, I.base.2.1, I.base.2.2.1, fun h => absurd h (Nat.lt_irrefl 0)⟩
structure RN11 (a0 M : Nat) (cb : CB) (m R : Nat) (ops : Nat -> List OpV) (W : World) (tb tc : Nat) (ta : Option Addr) (T : Nat -> R11) (k : Nat) (x : OX (Cr m)) (w : World) : Prop where
 I : M11 a0 M cb tb tc k m ta x.s T w
 z : k = 0 -> ta = none /\ tc = 0
 zM : k = 0 -> tb = M
 th : ∀ i, i < k -> Th11 m (ops i) (x.th i).left (x.th i).d (x.th i).ans (T i)
 al : ∀ i, i < k -> (T i).ans.length <= (T i).at'
 out : ∀ i, i < k -> (x.out i).isSome = (x.th i).d.isNone
 res : w.heap[R]? = some Fl
 resS : ¬ Fb M cb m tb k T R
 old : ∀ b, b < a0 -> w.heap[b]? = W.heap[b]?
 le : a0 <= w.heap.size
theorem m11S_old {Sx : Rg} {w : World} (I : M11 a0 M cb tb tc n m ta Sx T w) (hz : n = 0 -> tb = M) {b : Nat} (h : Fb M cb m tb n T b) : a0 <= b := by
 obtain ⟨b1, b2, b3, b4⟩ := I.base
 rcases h with rfl | h | rfl | ⟨k, hk, h⟩
 ·exact b1
 ·exact I.cLo h
 ·by_cases h0 : n = 0
  ·have := hz h0; omega
  ·exact (b4 (by omega)).1
 ·exact ((I.rows k hk).low h).1
theorem putO_out {L : La} (x : OX L) (i : Nat) (r : L.Sg × Tst L) (c : Nat) : ((Ge x i r c).out i).isSome = ((Ge x i r c).th i).d.isNone := by
 unfold Ge
 simp only [upd_same]
 cases r.2.d <;> rfl
theorem putO_th {L : La} (x : OX L) (i : Nat) (r : L.Sg × Tst L) (c : Nat) : (Ge x i r c).th i = r.2 := upd_same _ _ _
theorem Gp {L : La} (x : OX L) {i j : Nat} (h : j ≠ i) (r : L.Sg × Tst L) (c : Nat) : (Ge x i r c).th j = x.th j /\ (Ge x i r c).out j = x.out j := ⟨upd_ne _ _ h, upd_ne _ _ h⟩
theorem RN11.more {ops : Nat -> List OpV} {W : World} {k : Nat} {x : OX (Cr m)} {w w1 w2 : World} (H : RN11 a0 M cb m R ops W tb tc ta T k x w) {oa : Option Addr} {ln oc g cap : Nat} {t' : R11}
  (h1 : Qt a0 M cb m x.s T tb k (R11.new oa ln oc k (ops k)) w g cap w1) (hS : Set11 m (upd T k (R11.new oa ln oc k (ops k)) k) t') (I2 : M11 a0 M cb g cap (k + 1) m (some ⟨g, 0, none⟩) x.s (upd (upd T k (R11.new oa ln oc k (ops k))) k t') w2) (g2 : Got M cb m g (k + 1) (upd T k (R11.new oa ln oc k (ops k))) (upd (upd T k (R11.new oa ln oc k (ops k))) k t') w1 w2) :
  RN11 a0 M cb m R ops W g cap (some ⟨g, 0, none⟩) (upd T k t') (k + 1) (Kr ops x k) w2 := by
 obtain ⟨I1, G1⟩ := h1
 have G := G1.trans g2.grew
 rw [An] at I2 G
 rw [upd_same] at hS
 obtain ⟨q, asw, s0, s1, s2, s3, s4⟩ := hS.how
 obtain ⟨th, e1, e2⟩ := settle11 (k : Nat) x.s q (R11.new oa ln oc k (ops k)) t' asw s0 s1 hS.ops s2 s3 s4
 have e1 : Bq (Cr m) (k : Nat) x.s (ops k) [] = (x.s, th) := e1
 have e2 : Th11 m (ops k) th.left th.d th.ans t' := e2
 have hx : Kr ops x k = Ge x k (x.s, th) x.cnt := by
  unfold Kr
  rw [e1]
 have hRl := (aEs H.res).1
 have hle := G.chg.size
 refine ⟨?_, fun h => absurd h (by omega), fun h => absurd h (by omega), fun i hi => ?_, fun i hi => ?_, fun i hi => ?_, ?_, fun h => ?_, fun b hb => ?_, by have := H.le; omega⟩
 ·rw [hx]; exact I2
 ·rw [hx]
  by_cases e : i = k
  ·subst e
   rw [putO_th, upd_same]
   exact e2
  ·rw [(Gp x e _ _).1, upd_ne _ _ e]
   exact H.th i (by omega)
 ·by_cases e : i = k
  ·subst e
   rw [upd_same, s3, s2]
   show (([] : List Ans) ++ _).length <= 0 + q
   simp
   omega
  ·rw [upd_ne _ _ e]
   exact H.al i (by omega)
 ·rw [hx]
  by_cases e : i = k
  ·subst e
   exact putO_out _ _ _ _
  ·rw [(Gp x e _ _).1, (Gp x e _ _).2]
   exact H.out i (by omega)
 ·exact (G.chg.same R hRl H.resS).trans H.res
 ·exact (G.own R h).elim H.resS fun h => by omega
 ·have := H.le
  exact (G.chg.same b (by omega) fun h => by have := m11S_old H.I H.zM h; omega).trans (H.old b hb)
theorem run_threads {N : Nat} (hN : N <= 64) (hm : m <= 65536) (b off n0 tcc : Nat) (sv : Value) (mo most : Int) (oa : Nat -> Option Addr) (ln oc : Nat -> Nat) (ops : Nat -> List OpV) (hn0 : N <= n0) (W : World) (ha0 : a0 = W.heap.size) (O : OpsIn b off N oa ln oc ops W) (hwr : ∀ k, k < N -> ∀ o, o ∈ ops k -> -9223372036854775808 <= o.a) (v : Value) (hv : 0 < N -> v = .slice (some ⟨b, off, none⟩) n0 tcc) (cs : List Frame) :
  ∀ (r k : Nat) (tb tc : Nat) (ta : Option Addr) (T : Nat -> R11) (x : OX (Cr m)) (u : Nat -> Value) (w : World), k + r = N -> RN11 a0 M cb m R ops W tb tc ta T k x w ->
  Walk prog main (DR (fun _ => none)) (fun g w' => (∃ u, g = G (hdRun0 M v sv mo R N N u) cs) /\ ∃ tb tc ta T, RN11 a0 M cb m R ops W tb tc ta T N (Js (Cc (Cr m) N most ops) r k x) w') (G (hdRun0 M v sv mo R N k u) cs) w := by
 intro r
 induction r with
 | zero =>
  intro k tb tc ta T x u w hk H
  have hk' : k = N := hk
  subst hk'
  exact .stop fun d => ⟨⟨u, rfl⟩, tb, tc, ta, T, ⟨H.I.same fun _ _ => rfl, H.z, H.zM, H.th, H.al, H.out, H.res, H.resS, H.old, H.le⟩⟩
 | succ r ih =>
  intro k tb tc ta T x u w hk H
  have hkN : k < N := by omega
  rw [hv (by omega)] at ih ⊢
  have hlen := O.len k hkN
  have hh : w.cell? ⟨b, off + k, none⟩ = some (.slice (oa k) (ln k) (oc k)) := (cBk (a := ⟨b, off + k, none⟩) (H.old b (by rw [ha0]; exact Al (O.hd k hkN)))).trans (O.hd k hkN)
  have hO : ∀ l, l = (ops k).length -> OpsAt a0 (.slice (oa k) l (oc k)) (ops k) w := fun l hl => by
   refine ⟨oa k, oc k, by rw [hl], fun j o ho => ?_⟩
   obtain ⟨b', off', e, c0, c1, c2, c3⟩ := O.ops k hkN j o ho
   have hb' : b' < a0 := by rw [ha0]; exact Al c0
   have hold := H.old b' hb'
   refine ⟨b', off', e, hb', by have := H.le; omega, hwr k hkN o (List.mem_of_getElem? ho), fun q z hz => (cBk (a := ⟨b', off' + j * 4 + q, none⟩) hold).trans ?_⟩
   match q, hz with
   | 0, hz => cases hz; exact c0
   | 1, hz => cases hz; exact c1
   | 2, hz => cases hz; exact c2
   | 3, hz => cases hz; exact c3
  have hfin : ∀ l, l = (ops k).length -> Walk prog main (DR (fun _ => none)) (fun g' w' => (∃ u, g' = G (hdRun0 M (.slice (some ⟨b, off, none⟩) n0 tcc) sv mo R N (k + 1) u) cs) /\ ∃ g cap w2 d, (∃ w1 t', Qt a0 M cb m x.s T tb k (R11.new (oa k) l (oc k) k (ops k)) w g cap w1 /\ Set11 m (upd T k (R11.new (oa k) l (oc k) k (ops k)) k) t' /\ M11 a0 M cb g cap (k + 1) m (some ⟨g, 0, none⟩) x.s (upd (upd T k (R11.new (oa k) l (oc k) k (ops k))) k t') w2 /\ Got M cb m g (k + 1) (upd T k (R11.new (oa k) l (oc k) k (ops k))) (upd (upd T k (R11.new (oa k) l (oc k) k (ops k))) k t') w1 w2) /\ w' = w2.at d) (G (hdRun0 M (.slice (some ⟨b, off, none⟩) n0 tcc) sv mo R N k u) cs) w := by
   intro l hl
   have hset : ∀ g cap w1, Qt a0 M cb m x.s T tb k (R11.new (oa k) l (oc k) k (ops k)) w g cap w1 -> CallW prog main (fun _ => none) 116 #[.pointer (some ⟨M, 0, none⟩), .int .i64 k] w1 (fun v w2 => v = .tuple #[] /\ (∃ w1 t', Qt a0 M cb m x.s T tb k (R11.new (oa k) l (oc k) k (ops k)) w g cap w1 /\ Set11 m (upd T k (R11.new (oa k) l (oc k) k (ops k)) k) t' /\ M11 a0 M cb g cap (k + 1) m (some ⟨g, 0, none⟩) x.s (upd (upd T k (R11.new (oa k) l (oc k) k (ops k))) k t') w2 /\ Got M cb m g (k + 1) (upd T k (R11.new (oa k) l (oc k) k (ops k))) (upd (upd T k (R11.new (oa k) l (oc k) k (ops k))) k t') w1 w2)) := by
    intro g cap w1 h1
    have hw := settle_w (main := main) (i := k) (n := k + 1) (T := upd T k (R11.new (oa k) l (oc k) k (ops k))) (by omega) (by omega) hm w1 (by rw [upd_same]; exact Nat.zero_le _) (by rw [upd_same]; show (ops k).length <= 65536; omega) (by rw [upd_same]; exact Nat.le_refl 0) (by rw [upd_same]; rfl) (by have := h1.2.chg.size; have := H.le; omega) h1.1
    intro c cs
    refine (hw c cs).mono ?_
    rintro g' w' ⟨v, ⟨rfl, t', S, I2, g2⟩, rfl⟩
    exact ⟨_, ⟨rfl, w1, t', h1, S, I2, g2⟩, rfl⟩
   by_cases hl6 : ln k <= 65536
   ·have e : l = ln k := by omega
    subst e
    exact thread_le hkN hN b off n0 tcc sv mo R (oa k) (ln k) (oc k) (ops k) (O.cap k hkN) hl6 (O.ad k hkN) hn0 w H.I H.z H.zM H.le hh (hO _ hl) (fun g cap w2 => ∃ w1 t', Qt a0 M cb m x.s T tb k (R11.new (oa k) (ln k) (oc k) k (ops k)) w g cap w1 /\ Set11 m (upd T k (R11.new (oa k) (ln k) (oc k) k (ops k)) k) t' /\ M11 a0 M cb g cap (k + 1) m (some ⟨g, 0, none⟩) x.s (upd (upd T k (R11.new (oa k) (ln k) (oc k) k (ops k))) k t') w2 /\ Got M cb m g (k + 1) (upd T k (R11.new (oa k) (ln k) (oc k) k (ops k))) (upd (upd T k (R11.new (oa k) (ln k) (oc k) k (ops k))) k t') w1 w2) hset u cs
   ·have e : l = 65536 := by omega
    subst e
    exact thread_gt hkN hN b off n0 tcc sv mo R (oa k) (ln k) (oc k) (ops k) (O.cap k hkN) (by omega) (O.ad k hkN) hn0 w H.I H.z H.zM H.le hh (hO _ hl) (fun g cap w2 => ∃ w1 t', Qt a0 M cb m x.s T tb k (R11.new (oa k) 65536 (oc k) k (ops k)) w g cap w1 /\ Set11 m (upd T k (R11.new (oa k) 65536 (oc k) k (ops k)) k) t' /\ M11 a0 M cb g cap (k + 1) m (some ⟨g, 0, none⟩) x.s (upd (upd T k (R11.new (oa k) 65536 (oc k) k (ops k))) k t') w2 /\ Got M cb m g (k + 1) (upd T k (R11.new (oa k) 65536 (oc k) k (ops k))) (upd (upd T k (R11.new (oa k) 65536 (oc k) k (ops k))) k t') w1 w2) hset u cs
  refine (hfin _ rfl).then ?_
  rintro g' w' ⟨⟨u', rfl⟩, g, cap, w2, d, ⟨w1, t', h1, hS, I2, g2⟩, rfl⟩
  refine Walk.back ?_ d
  exact ih (k + 1) g cap (some ⟨g, 0, none⟩) (upd T k t') (Kr ops x k) u' w2 (by omega) (H.more h1 hS I2 g2)
end
section
variable {X : Type}
inductive Stps (C : Abs X) : X × List Nat -> X × List Nat -> Prop
 | refl (st : X × List Nat) : Stps C st st
 | step {st st' : X × List Nat} (i : Nat) (h : Stps C st st') (hi : i < C.n) (ho : C.out st'.1 i = none) : Stps C st (C.next st'.1 i, st'.2 ++ [i])
theorem Stps.trans {C : Abs X} {a b c : X × List Nat} (h : Stps C a b) (k : Stps C b c) : Stps C a c := by
 induction k with
 | refl => exact h
 | step i _ hi ho ih => exact .step i ih hi ho
theorem Stps.out {C : Abs X} (hn : ∀ x i j, j ≠ i -> C.out (C.next x i) j = C.out x j) {a b : X × List Nat} (h : Stps C a b) {j : Nat} {v : Bool} (hv : C.out a.1 j = some v) : C.out b.1 j = some v := by
 induction h with
 | refl => exact hv
 | step i _ hi ho ih =>
  have hne : j ≠ i := fun e => by rw [e, ho] at ih; cases ih
  show C.out (C.next _ i) j = _
  rw [hn _ _ _ hne]; exact ih
theorem Stps.keep {C : Abs X} {P : X × List Nat -> Prop} (hP : ∀ st i, P st -> i < C.n -> C.out st.1 i = none -> P (C.next st.1 i, st.2 ++ [i])) {a b : X × List Nat} (h : Stps C a b) (ha : P a) : P b := by
 induction h with
 | refl => exact ha
 | step i _ hi ho ih => exact hP _ i ih hi ho
theorem step_stps (C : Abs X) (st : X × List Nat) (z : Int) : Stps C st (Bb C st z) := by
 unfold Bb
 split
 ·next h => exact .step _ (.refl st) (by omega) h.2.2.2
 ·exact .refl st
theorem Oi (C : Abs X) : ∀ (l : List Nat) (st : X × List Nat), Stps C st (l.foldl (fun st i => Bb C st (i : Nat)) st)
 | [], st => .refl st
 | z :: l, st => (step_stps C st z).trans (Oi C l _)
theorem round_stps (C : Abs X) (st : X × List Nat) : Stps C st (El C st) := Oi C _ st
theorem Le (C : Abs X) : ∀ (f : Nat) (st : X × List Nat), Stps C st (Bz C f st)
 | 0, st => .refl st
 | f + 1, st => by
  unfold Bz
  split
  ·exact .refl st
  ·exact (round_stps C st).trans (Le C f _)
theorem stepA_len (C : Abs X) (st : X × List Nat) (z : Int) : st.2.length <= (Bb C st z).2.length := by
 unfold Bb
 split
 ·simp
 ·exact Nat.le_refl _
theorem Ly (C : Abs X) : ∀ (l : List Nat) (st : X × List Nat), st.2.length <= (l.foldl (fun st i => Bb C st (i : Nat)) st).2.length
 | [], _ => Nat.le_refl _
 | _ :: l, _ => Nat.le_trans (stepA_len C _ _) (Ly C l _)
theorem Lz (C : Abs X) {i : Nat} (hi : i < C.n) : ∀ (l : List Nat) (st : X × List Nat), i ∈ l -> Bj C st = false -> C.out st.1 i = none -> st.2.length + 1 <= (l.foldl (fun st i => Bb C st (i : Nat)) st).2.length
 | [], _, h, _, _ => by cases h
 | a :: l, st, h, ho, hn => by
  rw [List.foldl_cons]
  by_cases hs : Bj C st = false /\ 0 <= (a : Int) /\ (a : Int) < C.n /\ C.out st.1 (a : Int).toNat = none
  ·have : (Bb C st a).2.length = st.2.length + 1 := by unfold Bb; rw [if_pos hs]; simp
   rw [<- this]
   exact Ly C l _
  ·have : Bb C st a = st := by unfold Bb; rw [if_neg hs]
   rw [this]
   rcases List.mem_cons.1 h with rfl | h
   ·exact absurd ⟨ho, by omega, by omega, by simpa using hn⟩ hs
   ·exact Lz C hi l st h ho hn
theorem Jl (C : Abs X) {st : X × List Nat} (h : Bj C st = false) : st.2.length + 1 <= (El C st).2.length := by
 have hg : Do C st.1 ≠ 0 := by
  intro e
  unfold Bj at h
  rw [e] at h
  simp at h
 obtain ⟨i, hi, hn⟩ := List.countP_pos_iff.1 (Nat.pos_of_ne_zero hg)
 have hi : i < C.n := List.mem_range.1 hi
 exact Lz C hi _ _ (List.mem_range.2 hi) h (by simpa using hn)
theorem Mq (C : Abs X) {f : Nat} {st : X × List Nat} (h : Bj C st = false) : Bz C (f + 1) st = Bz C f (El C st) := by
 show (if Bj C st then st else Bz C f (El C st)) = _
 rw [h]; rfl
theorem Kd (C : Abs X) {f : Nat} {st : X × List Nat} (h : Bj C st = true) : Bz C (f + 1) st = st := by
 show (if Bj C st then st else Bz C f (El C st)) = _
 rw [h]; rfl
def Abs.withMost (C : Abs X) (m : Int) : Abs X := { C with most := m }
section
variable {C : Abs X} {m1 m2 : Nat}
def Both2 (C : Abs X) (m1 : Nat) (a b : X × List Nat) : Prop := Stps C a b /\ a.2.length <= m1 /\ (a = b ∨ a.2.length = m1)
theorem Ky {m : Int} {a b : X × List Nat} (h : Stps (C.withMost m) a b) : Stps C a b := by
 induction h with
 | refl => exact .refl _
 | step i _ hi ho ih => exact .step i ih hi ho
theorem Dx (m : Nat) (st : X × List Nat) : Bj (C.withMost m) st = (decide (Do C st.1 = 0) || decide (m <= st.2.length)) := by
 unfold Bj
 have : decide ((C.withMost m).most <= (st.2.length : Int)) = decide (m <= st.2.length) := decide_eq_decide.2 (by show (m : Int) <= _ ↔ _; omega)
 rw [this]
 rfl
theorem Both2.stp (hm : m1 <= m2) {a b : X × List Nat} (h : Both2 C m1 a b) (z : Int) : Both2 C m1 (Bb (C.withMost m1) a z) (Bb (C.withMost m2) b z) := by
 obtain ⟨h1, h2, h3⟩ := h
 have sb := Ky (step_stps (C.withMost m2) b z)
 by_cases hc : Bj (C.withMost m1) a = false /\ 0 <= z /\ z < C.n /\ C.out a.1 z.toNat = none
 ·have ho := hc.1
  rw [Dx] at ho
  simp only [Bool.or_eq_false_iff, decide_eq_false_iff_not] at ho
  have hab : a = b := h3.resolve_right (by omega)
  subst hab
  have ho2 : Bj (C.withMost m2) a = false := by
   rw [Dx]
   simp only [Bool.or_eq_false_iff, decide_eq_false_iff_not]
   omega
  have e1 : Bb (C.withMost m1) a z = (C.next a.1 z.toNat, a.2 ++ [z.toNat]) := by unfold Bb; exact if_pos hc
  have e2 : Bb (C.withMost m2) a z = (C.next a.1 z.toNat, a.2 ++ [z.toNat]) := by unfold Bb; exact if_pos ⟨ho2, hc.2⟩
  rw [e1, e2]
  exact ⟨.refl _, by simp; omega, .inl rfl⟩
 ·have e1 : Bb (C.withMost m1) a z = a := by unfold Bb; exact if_neg hc
  rw [e1]
  refine ⟨h1.trans sb, h2, ?_⟩
  rcases h3 with rfl | h3
  ·by_cases hc2 : Bj (C.withMost m2) a = false /\ 0 <= z /\ z < C.n /\ C.out a.1 z.toNat = none
   ·right
    have ho2 := hc2.1
    rw [Dx] at ho2
    simp only [Bool.or_eq_false_iff, decide_eq_false_iff_not] at ho2
    have ho1 : Bj (C.withMost m1) a = true := by
     cases h : Bj (C.withMost m1) a with
     | true => rfl
     | false => exact absurd ⟨h, hc2.2⟩ hc
    rw [Dx] at ho1
    simp only [Bool.or_eq_true, decide_eq_true_eq] at ho1
    omega
   ·left
    unfold Bb
    exact (if_neg hc2).symm
  ·exact .inr h3
theorem Pb (hm : m1 <= m2) : ∀ (l : List Int) {a b : X × List Nat}, Both2 C m1 a b -> Both2 C m1 (l.foldl (Bb (C.withMost m1)) a) (l.foldl (Bb (C.withMost m2)) b)
 | [], _, _, h => h
 | z :: l, _, _, h => Pb hm l (h.stp hm z)
theorem Mj (hm : m1 <= m2) : ∀ (l : List Nat) {a b : X × List Nat}, Both2 C m1 a b -> Both2 C m1 (l.foldl (fun st i => Bb (C.withMost m1) st (i : Nat)) a) (l.foldl (fun st i => Bb (C.withMost m2) st (i : Nat)) b)
 | [], _, _, h => h
 | z :: l, _, _, h => Mj hm l (h.stp hm z)
theorem Pa (hm : m1 <= m2) : ∀ (f1 f2 : Nat) {a b : X × List Nat}, Both2 C m1 a b -> m1 <= a.2.length + f1 -> f1 <= f2 -> Both2 C m1 (Bz (C.withMost m1) f1 a) (Bz (C.withMost m2) f2 b)
 | 0, f2, a, b, h, hf, _ => by
  exact ⟨h.1.trans (Ky (Le (C.withMost m2) f2 b)), h.2.1, .inr (by show a.2.length = m1; have := h.2.1; omega)⟩
 | f1 + 1, 0, _, _, _, _, hf => absurd hf (by omega)
 | f1 + 1, f2 + 1, a, b, h, hf, hff => by
  obtain ⟨h1, h2, h3⟩ := h
  have sb := Ky (Le (C.withMost m2) (f2 + 1) b)
  cases ho : Bj (C.withMost m1) a with
  | true =>
   have e1 : Bz (C.withMost m1) (f1 + 1) a = a := Kd _ ho
   rw [e1]
   by_cases hl : a.2.length = m1
   ·exact ⟨h1.trans sb, h2, .inr hl⟩
   ·have hab : a = b := h3.resolve_right hl
    subst hab
    rw [Dx] at ho
    simp only [Bool.or_eq_true, decide_eq_true_eq] at ho
    have hg : Do C a.1 = 0 := by omega
    have ho2 : Bj (C.withMost m2) a = true := by
     rw [Dx]
     simp only [Bool.or_eq_true, decide_eq_true_eq]
     exact .inl hg
    have e2 : Bz (C.withMost m2) (f2 + 1) a = a := Kd _ ho2
    rw [e2]
    exact ⟨.refl a, h2, .inl rfl⟩
  | false =>
   have hlen := Jl (C.withMost m1) ho
   have e1 : Bz (C.withMost m1) (f1 + 1) a = Bz (C.withMost m1) f1 (El (C.withMost m1) a) := Mq _ ho
   rw [e1]
   rw [Dx] at ho
   simp only [Bool.or_eq_false_iff, decide_eq_false_iff_not] at ho
   have hab : a = b := h3.resolve_right (by omega)
   subst hab
   have ho2 : Bj (C.withMost m2) a = false := by
    rw [Dx]
    simp only [Bool.or_eq_false_iff, decide_eq_false_iff_not]
    omega
   have e2 : Bz (C.withMost m2) (f2 + 1) a = Bz (C.withMost m2) f2 (El (C.withMost m2) a) := Mq _ ho2
   rw [e2]
   exact Pa hm f1 f2 (Mj hm _ ⟨.refl a, h2, .inl rfl⟩) (by omega) (by omega)
theorem Both2.follow (hm : m1 <= m2) {a : X × List Nat} (ha : a.2.length <= m1) (l : List Int) : Both2 C m1 (Kl (C.withMost m1) a l) (Kl (C.withMost m2) a l) :=
 Pa hm _ _ (Pb hm l ⟨.refl a, ha, .inl rfl⟩) (by show m1 <= _ + (m1 : Int).toNat; omega) (by show (m1 : Int).toNat <= (m2 : Int).toNat; omega)
end
end
section
variable {X : Type} {A : Abs X} {F st : X × List Nat} {sl : List Int} {p rd : Nat}
structure Ahead (A : Abs X) (F : X × List Nat) (sl : List Int) (p rd : Nat) (st : X × List Nat) : Prop where
 run : ∃ f x, x <= A.n /\ rd % A.n = x % A.n /\ F = Bz A f ((List.range' x (A.n - x)).foldl (fun st i => Bb A st (i : Nat)) ((sl.drop p).foldl (Bb A) st)) /\
  A.most <= (((List.range' x (A.n - x)).foldl (fun st i => Bb A st (i : Nat)) ((sl.drop p).foldl (Bb A) st)).2.length + f : Nat)
 le : p <= sl.length
 short : (st.2.length : Int) <= A.most
theorem over_stay (h : Bj A st = true) (z : Int) : Bb A st z = st := by
 unfold Bb
 rw [if_neg]
 rintro ⟨h', _⟩
 rw [h] at h'; cases h'
theorem Jn (h : Bj A st = true) : ∀ l : List Int, l.foldl (Bb A) st = st
 | [] => rfl
 | z :: l => by rw [List.foldl_cons, over_stay h]; exact Jn h l
theorem Jo (h : Bj A st = true) : ∀ l : List Nat, l.foldl (fun st i => Bb A st (i : Nat)) st = st
 | [] => rfl
 | z :: l => by rw [List.foldl_cons, over_stay h]; exact Jo h l
theorem step_yes (h : Bj A st = false) {i : Nat} (hi : i < A.n) (ho : A.out st.1 i = none) : Bb A st (i : Nat) = (A.next st.1 i, st.2 ++ [i]) := by
 unfold Bb
 rw [if_pos ⟨h, by omega, by omega, by simpa using ho⟩]
 simp
theorem step_no {z : Int} (h : ¬ (0 <= z /\ z < A.n /\ A.out st.1 z.toNat = none)) : Bb A st z = st := by
 unfold Bb
 rw [if_neg]
 rintro ⟨_, h'⟩
 exact h h'
theorem Nv (h : Bj A st = false) : (st.2.length : Int) < A.most /\ ∃ j, j < A.n /\ A.out st.1 j = none := by
 unfold Bj at h
 simp only [Bool.or_eq_false_iff, decide_eq_false_iff_not] at h
 refine ⟨by omega, ?_⟩
 have : 0 < Do A st.1 := by omega
 obtain ⟨j, hj, ho⟩ := List.countP_pos_iff.1 this
 exact ⟨j, List.mem_range.1 hj, by simpa using ho⟩
theorem Jk (h : (st.2.length : Int) <= A.most) (z : Int) : ((Bb A st z).2.length : Int) <= A.most := by
 unfold Bb
 split
 ·next h' => have := (Nv h'.1).1; simp; omega
 ·exact h
theorem Ahead.done (H : Ahead A F sl p rd st) (h : Bj A st = true) : F = st := by
 obtain ⟨f, x, _, _, h3, _⟩ := H.run
 rw [h3, Jn h, Jo h]
 cases f with
 | zero => rfl
 | succ f => exact Kd _ h
theorem Ahead.take (H : Ahead A F sl p rd st) {z : Int} (hz : sl[p]? = some z) : Ahead A F sl (p + 1) rd (Bb A st z) := by
 obtain ⟨f, x, h1, h2, h3, h4⟩ := H.run
 obtain ⟨hl, e⟩ := lEs hz
 have ed : sl.drop p = z :: sl.drop (p + 1) := by rw [<- e]; exact List.drop_eq_getElem_cons hl
 rw [ed, List.foldl_cons] at h3 h4
 exact ⟨⟨f, x, h1, h2, h3, h4⟩, hl, Jk H.short z⟩
theorem Ahead.here (H : Ahead A F sl sl.length rd st) (h : Bj A st = false) : ∃ f x, x < A.n /\ rd % A.n = x /\ F = Bz A f ((List.range' x (A.n - x)).foldl (fun st i => Bb A st (i : Nat)) st) /\
  A.most <= (((List.range' x (A.n - x)).foldl (fun st i => Bb A st (i : Nat)) st).2.length + f : Nat) := by
 obtain ⟨f, x, h1, h2, h3, h4⟩ := H.run
 have ed : sl.drop sl.length = [] := List.drop_length
 rw [ed] at h3 h4
 simp only [List.foldl_nil] at h3 h4
 obtain ⟨hm, j, hj, _⟩ := Nv h
 by_cases hx : x < A.n
 ·exact ⟨f, x, hx, by rw [h2, Nat.mod_eq_of_lt hx], h3, h4⟩
 ·have hx : x = A.n := by omega
  subst hx
  rw [Nat.sub_self] at h3 h4
  have h3 : F = Bz A f st := h3
  have h4 : A.most <= (st.2.length + f : Nat) := h4
  obtain ⟨f', rfl⟩ : ∃ f', f = f' + 1 := ⟨f - 1, by omega⟩
  have e : (List.range' 0 (A.n - 0)).foldl (fun st i => Bb A st (i : Nat)) st = El A st := by
   unfold El
   rw [Nat.sub_zero, <- List.range_eq_range']
  refine ⟨f', 0, by omega, by rw [h2, Nat.mod_self], ?_, ?_⟩
  ·rw [e, h3]; exact Mq _ h
  ·rw [e]
   have := Jl A h
   omega
theorem Ahead.turn (H : Ahead A F sl sl.length rd st) (h : Bj A st = false) : Ahead A F sl sl.length (rd % A.n + 1) (Bb A st ((rd % A.n : Nat) : Int)) /\ Ahead A F sl sl.length (rd + 1) (Bb A st ((rd % A.n : Nat) : Int)) := by
 obtain ⟨f, x, h1, h2, h3, h4⟩ := H.here h
 rw [h2]
 have e : List.range' x (A.n - x) = x :: List.range' (x + 1) (A.n - (x + 1)) := by
  obtain ⟨r, hr⟩ : ∃ r, A.n - x = r + 1 := ⟨A.n - x - 1, by omega⟩
  rw [hr, List.range'_succ]
  congr 2
  omega
 rw [e, List.foldl_cons] at h3 h4
 have ed : sl.drop sl.length = [] := List.drop_length
 refine ⟨⟨⟨f, x + 1, by omega, rfl, ?_, ?_⟩, Nat.le_refl _, Jk H.short _⟩, ⟨⟨f, x + 1, by omega, ?_, ?_, ?_⟩, Nat.le_refl _, Jk H.short _⟩⟩
 ·rw [ed]; exact h3
 ·rw [ed]; exact h4
 ·rw [Nat.add_mod, h2, Nat.add_mod x 1, Nat.mod_eq_of_lt h1]
 ·rw [ed]; exact h3
 ·rw [ed]; exact h4
end
section
variable {a0 M tb tc n m : Nat} {cb : CB} {ta : Option Addr} {Sx : Rg} {T : Nat -> R11} {main : Bool}
theorem run_end0 (M : Nat) (v sv : Value) (mo : Int) (R N : Nat) (u : Nat -> Value) (cs : List Frame) (w : World) :
  Walk prog main (DR (fun _ => none)) (fun g w' => (∃ u, g = G (hdRun1 M sv mo R N (.slice none 0 0) 0 u) cs) /\ ∃ d, w' = w.at d) (G (hdRun0 M v sv mo R N N u) cs) w := by
 have hj1 : decide ((N : Int) < N) = false := by simp
 have hj3 : decide (N < N) = false := by simp
 conv => arg 5; unfold hdRun0
 refine Aa z59 ?_
 refine cLp ?_
 refine .stop fun d => ⟨Ak ?_, d, rfl⟩
 simp only [hdRun1]
 rfl
theorem sched_end (M : Nat) (sa : Option Addr) (ls sc : Nat) (mo : Int) (R N : Nat) (ov : Value) (u : Nat -> Value) (cs : List Frame) (w : World) :
  Walk prog main (DR (fun _ => none)) (fun g w' => (∃ u, g = G (hdRun2 M mo R N ov u) cs) /\ ∃ d, w' = w.at d) (G (hdRun1 M (.slice sa ls sc) mo R N ov ls u) cs) w := by
 have hj1 : decide ((ls : Int) < ls) = false := by simp
 have hj3 : decide (ls < ls) = false := by simp
 conv => arg 5; unfold hdRun1
 refine Aa z59 ?_
 refine cLp ?_
 refine .stop fun d => ⟨Ak ?_, d, rfl⟩
 simp only [hdRun2]
 rfl
theorem sched_full (M : Nat) (sa : Option Addr) (ls sc : Nat) (mo : Int) (R N : Nat) (oa : Option Addr) (ln oc k : Nat) (hk : k < ls) (hm : mo <= (ln : Int)) (u : Nat -> Value) (cs : List Frame) (w : World) :
  Walk prog main (DR (fun _ => none)) (fun g w' => (∃ u, g = G (hdRun2 M mo R N (.slice oa ln oc) u) cs) /\ ∃ d, w' = w.at d) (G (hdRun1 M (.slice sa ls sc) mo R N (.slice oa ln oc) k u) cs) w := by
 obtain ⟨_, hj1, hj3, hj4⟩ := hIx k ls
 have hj5 : decide ((ln : Int) < mo) = false := by simp; omega
 have hj6 : ¬ (ln : Int) < mo := by omega
 conv => arg 5; unfold hdRun1
 refine Aa z59 ?_
 refine cLp ?_
 refine .stop fun d => ⟨Ak ?_, d, rfl⟩
 simp only [hdRun2]
 rfl
theorem sched_neg (M : Nat) (s so ls sc : Nat) (mo : Int) (R N : Nat) (oa : Option Addr) (ln oc k : Nat) (hk : k < ls) (hls : ls <= 17592186044416) (hm : (ln : Int) < mo) (z : Int) (hz : z < 0) (u : Nat -> Value) (cs : List Frame) (w : World) (c0 : w.cell? ⟨s, so + k, none⟩ = some (.int .i64 z)) :
  Walk prog main (DR (fun _ => none)) (fun g w' => (∃ u, g = G (hdRun1 M (.slice (some ⟨s, so, none⟩) ls sc) mo R N (.slice oa ln oc) (k + 1) u) cs) /\ ∃ d, w' = w.at d) (G (hdRun1 M (.slice (some ⟨s, so, none⟩) ls sc) mo R N (.slice oa ln oc) k u) cs) w := by
 obtain ⟨hk0, hj1, hj3, hj4⟩ := hIx k ls
 have hj5 : decide ((ln : Int) < mo) = true := by simp; omega
 have hw1 := wI ((k : Int) + 1)
 have hcc : ((k + 1 : Nat) : Int) = (k : Int) + 1 := by simp
 have hz1 : decide (0 <= z) = false := by simp; omega
 have hz2 : ¬ 0 <= z := by omega
 conv => arg 5; unfold hdRun1
 refine Aa z59 ?_
 refine cIL ?_
 refine .stop fun d => ⟨Ak ?_, d, rfl⟩
 simp only [hdRun1, hcc]
 rfl
theorem sched_far (M : Nat) (s so ls sc : Nat) (mo : Int) (R N : Nat) (oa : Option Addr) (ln oc k : Nat) (hk : k < ls) (hls : ls <= 17592186044416) (hm : (ln : Int) < mo) (z : Int) (hz : 0 <= z) (hz0 : N <= z) (u : Nat -> Value) (cs : List Frame) (w : World) (c0 : w.cell? ⟨s, so + k, none⟩ = some (.int .i64 z)) :
  Walk prog main (DR (fun _ => none)) (fun g w' => (∃ u, g = G (hdRun1 M (.slice (some ⟨s, so, none⟩) ls sc) mo R N (.slice oa ln oc) (k + 1) u) cs) /\ ∃ d, w' = w.at d) (G (hdRun1 M (.slice (some ⟨s, so, none⟩) ls sc) mo R N (.slice oa ln oc) k u) cs) w := by
 obtain ⟨hk0, hj1, hj3, hj4⟩ := hIx k ls
 have hj5 : decide ((ln : Int) < mo) = true := by simp; omega
 have hw1 := wI ((k : Int) + 1)
 have hcc : ((k + 1 : Nat) : Int) = (k : Int) + 1 := by simp
 have hz1 : decide (0 <= z) = true := by simp; omega
 have hz3 : decide (z < N) = false := by simp; omega
 have hz2 : ¬ z < N := by omega
 conv => arg 5; unfold hdRun1
 refine Aa z59 ?_
 refine cIL ?_
 refine .stop fun d => ⟨Ak ?_, d, rfl⟩
 simp only [hdRun1, hcc]
 rfl
theorem sched_off (M : Nat) (s so ls sc : Nat) (mo : Int) (R : Nat) (oa : Option Addr) (ln oc k : Nat) (hk : k < ls) (hls : ls <= 17592186044416) (hm : (ln : Int) < mo) (w : World) {i : Nat} (hi : i < n) (I : M11 a0 M cb tb tc n m ta Sx T w) (hpc : ¬ 0 < (T i).pc) (u : Nat -> Value) (cs : List Frame) (c0 : w.cell? ⟨s, so + k, none⟩ = some (.int .i64 i)) :
  Walk prog main (DR (fun _ => none)) (fun g w' => (∃ u, g = G (hdRun1 M (.slice (some ⟨s, so, none⟩) ls sc) mo R n (.slice oa ln oc) (k + 1) u) cs) /\ ∃ d, w' = w.at d) (G (hdRun1 M (.slice (some ⟨s, so, none⟩) ls sc) mo R n (.slice oa ln oc) k u) cs) w := by
 obtain ⟨hk0, hj1, hj3, hj4⟩ := hIx k ls
 have hj5 : decide ((ln : Int) < mo) = true := by simp; omega
 have hw1 := wI ((k : Int) + 1)
 have hcc : ((k + 1 : Nat) : Int) = (k : Int) + 1 := by simp
 have hi0 : (0 : Int) <= i := by omega
 have hz1 : decide ((0 : Int) <= i) = true := by simp
 obtain ⟨_, hi1, hi3, hi4⟩ := hIx i n
 have hp1 : decide (0 < (T i).pc) = false := by simp only [decide_eq_false_iff_not]; exact hpc
 have c1 := I.cT (by omega)
 have c2 : w.cell? ⟨tb, i * 9 + 4, none⟩ = some (.int .i64 (T i).pc) := I.tcell hi rfl
 generalize (T i).pc = pc at *
 conv => arg 5; unfold hdRun1
 refine Aa z59 ?_
 refine cIL ?_
 refine .stop fun d => ⟨Ak ?_, d, rfl⟩
 simp only [hdRun1, hcc]
 rfl
end
end Go.Proofs.Ytflcclneedldoaa
