/- Part 25. -/
import Derived.Test.YtcdcnmphjhfbpaaJ12
import Derived.Test.YtcdcnmphjhfbpaaJ24
set_option linter.unusedSimpArgs false
set_option linter.unusedVariables false
set_option linter.unusedVariables false
set_option maxHeartbeats 8000000
set_option maxRecDepth 100000
namespace Go.Proofs.Ytcdcnmphjhfbpaa
open Go.Conc Go.RowKit Go.Relay
open Go.ConcN (upd upd_ne upd_same)
section
structure Grew (S S' : Nat -> Prop) (w w' : World) : Prop where
 chg : Chg S w w'
 own : ∀ b, S' b -> S b ∨ w.heap.size <= b
theorem Grew.trans {S S1 S2 : Nat -> Prop} {w w1 w2 : World} (h1 : Grew S S1 w w1) (h2 : Grew S1 S2 w1 w2) : Grew S S2 w w2 :=
 ⟨h1.chg.trans h2.chg fun b hb h => (h1.own b h).resolve_right (by omega), fun b h => (h2.own b h).elim (h1.own b) fun h => .inr (Nat.le_trans h1.chg.size h)⟩
theorem Got.grew {M m tb n : Nat} {cb : CB} {T T' : Nat -> R11} {w w' : World} (h : Got M cb m tb n T T' w w') : Grew (Ev M cb m tb n T) (Ev M cb m tb n T') w w' := ⟨h.chg, h.own⟩
def R11.new (oa : Option Addr) (ln oc i : Nat) (ops : List OpV) : R11 := ⟨.slice oa ln oc, ops, .slice none 0 0, [], i, 0, 0, 0, 0, 0, .slice none 0 0, [], True, fun _ => False⟩
theorem Ft (oa : Option Addr) (ln oc i : Nat) (ops : List OpV) (b : Nat) : ¬ (R11.new oa ln oc i ops).own b := by
 rintro (h | ⟨_, h⟩)
 ·exact h
 ·cases h
def Oi (oa : Option Addr) (ln oc i : Nat) : Obj := .cells #[.slice oa ln oc, .slice none 0 0, .int .i64 i, .int .i64 0, .int .i64 0, .int .i64 0, .int .i64 0, .int .i64 0, .slice none 0 0] 192
section
variable {a0 M tb tc n m : Nat} {cb : CB} {ta : Option Addr} {Sx : Rg} {T : Nat -> R11} {main : Bool}
def Og (a0 M : Nat) (cb : CB) (m : Nat) (Sx : Rg) (T : Nat -> R11) (tb i : Nat) (t : R11) (w : World) (g cap : Nat) (w1 : World) : Prop :=
 M11 a0 M cb g cap (i + 1) m (some ⟨g, 0, none⟩) Sx (upd T i t) w1 /\ Grew (Ev M cb m tb i T) (Ev M cb m g (i + 1) (upd T i t)) w w1
theorem thread_le {i N : Nat} (hi : i < N) (hN : N <= 64) (b off n0 tcc : Nat) (sv : Value) (mo : Int) (R : Nat) (oa : Option Addr) (ln oc : Nat) (ops : List OpV) (hcap : ln <= oc) (hl : ln <= 65536) (had : (oa = none /\ oc = 0) ∨ ∃ p, oa = some p) (hn0 : N <= n0) (w : World) (I : M11 a0 M cb tb tc i m ta Sx T w) (hz : i = 0 -> ta = none /\ tc = 0) (hM0 : i = 0 -> tb = M) (ha0 : a0 <= w.heap.size)
  (hh : w.cell? ⟨b, off + i, none⟩ = some (.slice oa ln oc)) (hO : OpsAt a0 (.slice oa ln oc) ops w) (P : Nat -> Nat -> World -> Prop)
  (hset : ∀ g cap w1, Og a0 M cb m Sx T tb i (R11.new oa ln oc i ops) w g cap w1 -> CallW Try.prog main (fun _ => none) 116 #[.pointer (some ⟨M, 0, none⟩), .int .i64 i] w1 (fun v w2 => v = .tuple #[] /\ P g cap w2)) (u : Nat -> Value) (cs : List Frame) :
  Walk Try.prog main (DR (fun _ => none)) (fun g' w' => (∃ u, g' = G (hdRun0 M (.slice (some ⟨b, off, none⟩) n0 tcc) sv mo R N (i + 1) u) cs) /\ ∃ g cap w2 d, P g cap w2 /\ w' = w2.at d) (G (hdRun0 M (.slice (some ⟨b, off, none⟩) n0 tcc) sv mo R N i u) cs) w := by
 have hb1 : decide ((65536 : Int) < ln) = false := by simp; omega
 have hb2 : decide (65536 < ln) = false := by simp; omega
 have hi0 : (0 : Int) <= i := by omega
 have hi1 : decide ((i : Int) < n0) = true := by simp; omega
 have hi3 : decide (i < n0) = true := by simp; omega
 have hi4 : (i : Int) < n0 := by omega
 have hi5 : decide ((i : Int) < N) = true := by simp; omega
 have hi6 : decide (i < N) = true := by simp; omega
 have hw1 : IntKind.wrap .i64 ((i : Int) + 1) = (i : Int) + 1 := by rw [IntKind.wrap_i64]; omega
 have hcc : ((i + 1 : Nat) : Int) = (i : Int) + 1 := by simp
 have hiT := Option.some_get (show (Try.prog.info? 192).isSome = true by kernel_rfl)
 have c1 : w.cell? ⟨M, 3, none⟩ = some (.slice ta i tc) := (Ac I.hd 3).trans rfl
 have hrow := I.row hz
 obtain ⟨b1, b2, b3, b4⟩ := I.base
 obtain ⟨l1, l2, l3⟩ := I.lt
 conv => arg 5; unfold hdRun0
 refine Aa z70 ?_
 (refine Walk.oa ?_; try walk_nrm)
 have e1 : w.alloc (.cells #[.slice oa ln oc, .slice none 0 0, .int .i64 i, .int .i64 0, .int .i64 0, .int .i64 0, .int .i64 0, .int .i64 0, .slice none 0 0] 192) = w.alloc (Oi oa ln oc i) := rfl
 try rw [e1]
 clear e1
 have d1 := heap_alloc_new w (Oi oa ln oc i)
 have o1 : ∀ x, x < w.heap.size -> (w.alloc (Oi oa ln oc i)).heap[x]? = w.heap[x]? := fun x hx => Ad _ _ hx
 have s1 : (w.alloc (Oi oa ln oc i)).heap.size = w.heap.size + 1 := by simp
 have hrow1 : (w.alloc (Oi oa ln oc i)).ownsRow a0 192 9 (.slice ta i tc) i (Ea T i) := Ao hrow fun g hg => o1 g (hrow.lt g hg).2
 have I1 := I.same o1
 have hO1 : OpsAt a0 (.slice oa ln oc) ops (w.alloc (Oi oa ln oc i)) := hO.same fun x _ hx => o1 x hx
 have hfar : ∀ x, x < w.heap.size -> (Value.slice ta i tc).ownBlock ≠ some x -> ∀ w3, (w.alloc (Oi oa ln oc i)).grownBy w3 (Value.slice ta i tc).ownBlock -> w3.heap[x]? = w.heap[x]? := fun x hx hne w3 hg => (hg.block x (by omega) (fun e => hne e.symm)).trans (o1 x hx)
 have hob : ∀ x, (Value.slice ta i tc).ownBlock = some x -> Ev M cb m tb i T x /\ x ≠ M /\ a0 <= x := fun x hx => by
  by_cases h0 : i = 0
  ·obtain ⟨rfl, rfl⟩ := hz h0
   cases hx
  ·obtain ⟨rfl, _⟩ := I.ts (by omega)
   simp only [Value.ownBlock, Option.some.injEq] at hx
   subst hx
   exact ⟨.inr (.inr (.inl rfl)), Ne.symm (b4 (by omega)).2.1, (b4 (by omega)).1⟩
 generalize hS : w.heap.size = S at *
 generalize hw0 : w.alloc (Oi oa ln oc i) = w0 at *
 repeat (first | (refine Walk.oq ?_; try walk_nrm) | (refine Bn ?_; walk_nrm))
 refine Walk.append (.tmp 44) (.tmp 48) 188 Aj (by rfl) (by decide) rfl a0 192 _ (.agg #[.slice none 0 0, .slice none 0 0, .int .i64 0, .int .i64 0, .int .i64 0, .int .i64 0, .int .i64 0, .int .i64 0, .slice none 0 0]) 9 120 (by kernel_rfl) hiT.symm (by rfl) (by rfl) (by rfl) (by rfl) (by decide) (.slice ta i tc) i (Ea T i) rfl hrow1 ⟨S, 0, none⟩ 1 1 (R11.new oa ln oc i ops).cells rfl (by rfl) (fun j v hv => ?_) (by intro v hv; simp only [R11.cells, R11.new, List.mem_cons, List.not_mem_nil, or_false] at hv; rcases hv with rfl | rfl | rfl | rfl | rfl | rfl | rfl | rfl | rfl <;> rfl) (by decide) (by simp [maxLen]; omega) (by omega) (by omega) (fun g _ => Nx g) (fun g cap w3 hown hg hat hlt => ?_)
 ·rw [Bm, Nat.zero_add]
  refine (Ac d1 j).trans ?_
  simpa [R11.cells, R11.new] using hv
 have hgs := hg.size
 have hMw : w3.heap[M]? = w.heap[M]? := hfar M l1 (fun e => (hob M e).2.1 rfl) w3 hg
 have I3 := I.push hz (R11.new oa ln oc i ops) (Ft oa ln oc i ops) g cap w3 hown (fun x hx hne => hfar x (by omega) hne w3 hg) (hat.imp id fun h => by omega) ⟨hO1.same fun x hx hw => hg.block x hw fun e => by have := (hob x e.symm).2.2; omega, RowA.nil _ _ _, fun _ => ⟨rfl, .inl ⟨rfl, rfl⟩⟩, fun _ b hb => (by cases hb), fun b hb => hb.elim⟩
 have hcM : w3.cell? ⟨M, 3, none⟩ = some (.slice ta i tc) := (World.cell?_of_block (a := ⟨M, 3, none⟩) hMw).trans c1
 have hzM : w3.frozen? ⟨M, 3, none⟩ = false := Aq (hMw.trans I.hd) 3
 have G3 : Grew (Ev M cb m tb i T) (Ev M cb m g (i + 1) (upd T i (R11.new oa ln oc i ops))) w (w3.setCell ⟨M, 3, none⟩ (.slice (some ⟨g, 0, none⟩) (i + 1) cap)) := by
  refine ⟨⟨by rw [Af]; omega, fun x hx hn => ?_⟩, fun x hx => ?_⟩
  ·rw [Ab _ _ _ _ (fun e => hn (.inl e))]
   exact hfar x (by omega) (fun e => hn (hob x e).1) w3 hg
  ·rcases hx with hx | hx | hx | ⟨k, hk, hx⟩
   ·exact .inl (.inl hx)
   ·exact .inl (.inr (.inl hx))
   ·subst hx
    rcases hat with h | h
    ·exact .inl (hob _ h).1
    ·exact .inr (by omega)
   ·by_cases e : k = i
    ·subst e
     rw [upd_same] at hx
     exact absurd hx (Ft oa ln oc _ ops x)
    ·rw [upd_ne _ _ e] at hx
     exact .inl (.inr (.inr (.inr ⟨k, by omega, hx⟩)))
 have hT := hset g cap _ ⟨I3, G3⟩
 clear hrow1 I1 hO1 hrow hfar hob d1 o1 hown hset
 walk_nrm
 repeat (first | (refine Walk.oq ?_; try walk_nrm) | (refine Bn ?_; walk_nrm))
 (have hfr := Dq M 3; refine Walk.os hfr hcM ?_; clear hfr; try walk_nrm)
 generalize w3.setCell ⟨M, 3, none⟩ (.slice (some ⟨g, 0, none⟩) (i + 1) cap) = w4 at *
 clear I I3 G3 hg hat hMw hcM hzM c1 hh hO
 try walk_nrm
 refine Aa z70 ?_
 refine Ah (Post := fun v w' => v = .tuple #[] /\ P g cap w') ?_ Aj (by rfl) (by decide) rfl Try.func116 (by kernel_rfl) (by rfl) ?_
 ·walk_nrm
  exact hT
 rintro v w5 ⟨rfl, hP⟩
 walk_nrm
 refine Aa z70 ?_
 refine Walk.ctl rfl (fun w => stepG_inLoop) ?_
 refine .stop fun d => ⟨Ak ?_, g, cap, w5, d, hP, rfl⟩
 simp only [hdRun0, hcc]
 rfl
theorem thread_gt {i N : Nat} (hi : i < N) (hN : N <= 64) (b off n0 tcc : Nat) (sv : Value) (mo : Int) (R : Nat) (oa : Option Addr) (ln oc : Nat) (ops : List OpV) (hcap : ln <= oc) (hl : 65536 < ln) (had : (oa = none /\ oc = 0) ∨ ∃ p, oa = some p) (hn0 : N <= n0) (w : World) (I : M11 a0 M cb tb tc i m ta Sx T w) (hz : i = 0 -> ta = none /\ tc = 0) (hM0 : i = 0 -> tb = M) (ha0 : a0 <= w.heap.size)
  (hh : w.cell? ⟨b, off + i, none⟩ = some (.slice oa ln oc)) (hO : OpsAt a0 (.slice oa 65536 oc) ops w) (P : Nat -> Nat -> World -> Prop)
  (hset : ∀ g cap w1, Og a0 M cb m Sx T tb i (R11.new oa 65536 oc i ops) w g cap w1 -> CallW Try.prog main (fun _ => none) 116 #[.pointer (some ⟨M, 0, none⟩), .int .i64 i] w1 (fun v w2 => v = .tuple #[] /\ P g cap w2)) (u : Nat -> Value) (cs : List Frame) :
  Walk Try.prog main (DR (fun _ => none)) (fun g' w' => (∃ u, g' = G (hdRun0 M (.slice (some ⟨b, off, none⟩) n0 tcc) sv mo R N (i + 1) u) cs) /\ ∃ g cap w2 d, P g cap w2 /\ w' = w2.at d) (G (hdRun0 M (.slice (some ⟨b, off, none⟩) n0 tcc) sv mo R N i u) cs) w := by
 have hb1 : decide ((65536 : Int) < ln) = true := by simp; omega
 have hb2 : decide (65536 < ln) = true := by simp; omega
 have hiOp := Option.some_get (show (Try.prog.info? 49).isSome = true by kernel_rfl)
 have hsl : ∀ w, (Instr.sliceAt 34 (.slice oa ln oc) none (some (.int .i64 65536)) none).run Try.prog w = .ok (.slice oa 65536 oc) w := fun w => (Hy huOps hiOp.symm oa ln oc 65536 (by omega) had w #[]).1
 have hse : ∀ w es, (Instr.sliceAt 34 (.slice oa ln oc) none (some (.int .i64 65536)) none).events Try.prog w es = es := fun w es => (Hy huOps hiOp.symm oa ln oc 65536 (by omega) had w es).2
 have hi0 : (0 : Int) <= i := by omega
 have hi1 : decide ((i : Int) < n0) = true := by simp; omega
 have hi3 : decide (i < n0) = true := by simp; omega
 have hi4 : (i : Int) < n0 := by omega
 have hi5 : decide ((i : Int) < N) = true := by simp; omega
 have hi6 : decide (i < N) = true := by simp; omega
 have hw1 : IntKind.wrap .i64 ((i : Int) + 1) = (i : Int) + 1 := by rw [IntKind.wrap_i64]; omega
 have hcc : ((i + 1 : Nat) : Int) = (i : Int) + 1 := by simp
 have hiT := Option.some_get (show (Try.prog.info? 192).isSome = true by kernel_rfl)
 have c1 : w.cell? ⟨M, 3, none⟩ = some (.slice ta i tc) := (Ac I.hd 3).trans rfl
 have hrow := I.row hz
 obtain ⟨b1, b2, b3, b4⟩ := I.base
 obtain ⟨l1, l2, l3⟩ := I.lt
 conv => arg 5; unfold hdRun0
 refine Aa z70 ?_
 (refine Walk.oa ?_; try walk_nrm)
 have e1 : w.alloc (.cells #[.slice oa 65536 oc, .slice none 0 0, .int .i64 i, .int .i64 0, .int .i64 0, .int .i64 0, .int .i64 0, .int .i64 0, .slice none 0 0] 192) = w.alloc (Oi oa 65536 oc i) := rfl
 try rw [e1]
 clear e1
 have d1 := heap_alloc_new w (Oi oa 65536 oc i)
 have o1 : ∀ x, x < w.heap.size -> (w.alloc (Oi oa 65536 oc i)).heap[x]? = w.heap[x]? := fun x hx => Ad _ _ hx
 have s1 : (w.alloc (Oi oa 65536 oc i)).heap.size = w.heap.size + 1 := by simp
 have hrow1 : (w.alloc (Oi oa 65536 oc i)).ownsRow a0 192 9 (.slice ta i tc) i (Ea T i) := Ao hrow fun g hg => o1 g (hrow.lt g hg).2
 have I1 := I.same o1
 have hO1 : OpsAt a0 (.slice oa 65536 oc) ops (w.alloc (Oi oa 65536 oc i)) := hO.same fun x _ hx => o1 x hx
 have hfar : ∀ x, x < w.heap.size -> (Value.slice ta i tc).ownBlock ≠ some x -> ∀ w3, (w.alloc (Oi oa 65536 oc i)).grownBy w3 (Value.slice ta i tc).ownBlock -> w3.heap[x]? = w.heap[x]? := fun x hx hne w3 hg => (hg.block x (by omega) (fun e => hne e.symm)).trans (o1 x hx)
 have hob : ∀ x, (Value.slice ta i tc).ownBlock = some x -> Ev M cb m tb i T x /\ x ≠ M /\ a0 <= x := fun x hx => by
  by_cases h0 : i = 0
  ·obtain ⟨rfl, rfl⟩ := hz h0
   cases hx
  ·obtain ⟨rfl, _⟩ := I.ts (by omega)
   simp only [Value.ownBlock, Option.some.injEq] at hx
   subst hx
   exact ⟨.inr (.inr (.inl rfl)), Ne.symm (b4 (by omega)).2.1, (b4 (by omega)).1⟩
 generalize hS : w.heap.size = S at *
 generalize hw0 : w.alloc (Oi oa 65536 oc i) = w0 at *
 repeat (first | (refine Walk.oq ?_; try walk_nrm) | (refine Bn ?_; walk_nrm))
 refine Walk.append (.tmp 44) (.tmp 48) 188 Aj (by rfl) (by decide) rfl a0 192 _ (.agg #[.slice none 0 0, .slice none 0 0, .int .i64 0, .int .i64 0, .int .i64 0, .int .i64 0, .int .i64 0, .int .i64 0, .slice none 0 0]) 9 120 (by kernel_rfl) hiT.symm (by rfl) (by rfl) (by rfl) (by rfl) (by decide) (.slice ta i tc) i (Ea T i) rfl hrow1 ⟨S, 0, none⟩ 1 1 (R11.new oa 65536 oc i ops).cells rfl (by rfl) (fun j v hv => ?_) (by intro v hv; simp only [R11.cells, R11.new, List.mem_cons, List.not_mem_nil, or_false] at hv; rcases hv with rfl | rfl | rfl | rfl | rfl | rfl | rfl | rfl | rfl <;> rfl) (by decide) (by simp [maxLen]; omega) (by omega) (by omega) (fun g _ => Nx g) (fun g cap w3 hown hg hat hlt => ?_)
 ·rw [Bm, Nat.zero_add]
  refine (Ac d1 j).trans ?_
  simpa [R11.cells, R11.new] using hv
 have hgs := hg.size
 have hMw : w3.heap[M]? = w.heap[M]? := hfar M l1 (fun e => (hob M e).2.1 rfl) w3 hg
 have I3 := I.push hz (R11.new oa 65536 oc i ops) (Ft oa 65536 oc i ops) g cap w3 hown (fun x hx hne => hfar x (by omega) hne w3 hg) (hat.imp id fun h => by omega) ⟨hO1.same fun x hx hw => hg.block x hw fun e => by have := (hob x e.symm).2.2; omega, RowA.nil _ _ _, fun _ => ⟨rfl, .inl ⟨rfl, rfl⟩⟩, fun _ b hb => (by cases hb), fun b hb => hb.elim⟩
 have hcM : w3.cell? ⟨M, 3, none⟩ = some (.slice ta i tc) := (World.cell?_of_block (a := ⟨M, 3, none⟩) hMw).trans c1
 have hzM : w3.frozen? ⟨M, 3, none⟩ = false := Aq (hMw.trans I.hd) 3
 have G3 : Grew (Ev M cb m tb i T) (Ev M cb m g (i + 1) (upd T i (R11.new oa 65536 oc i ops))) w (w3.setCell ⟨M, 3, none⟩ (.slice (some ⟨g, 0, none⟩) (i + 1) cap)) := by
  refine ⟨⟨by rw [Af]; omega, fun x hx hn => ?_⟩, fun x hx => ?_⟩
  ·rw [Ab _ _ _ _ (fun e => hn (.inl e))]
   exact hfar x (by omega) (fun e => hn (hob x e).1) w3 hg
  ·rcases hx with hx | hx | hx | ⟨k, hk, hx⟩
   ·exact .inl (.inl hx)
   ·exact .inl (.inr (.inl hx))
   ·subst hx
    rcases hat with h | h
    ·exact .inl (hob _ h).1
    ·exact .inr (by omega)
   ·by_cases e : k = i
    ·subst e
     rw [upd_same] at hx
     exact absurd hx (Ft oa 65536 oc _ ops x)
    ·rw [upd_ne _ _ e] at hx
     exact .inl (.inr (.inr (.inr ⟨k, by omega, hx⟩)))
 have hT := hset g cap _ ⟨I3, G3⟩
 clear hrow1 I1 hO1 hrow hfar hob d1 o1 hown hset
 walk_nrm
 repeat (first | (refine Walk.oq ?_; try walk_nrm) | (refine Bn ?_; walk_nrm))
 (have hfr := Dq M 3; refine Walk.os hfr hcM ?_; clear hfr; try walk_nrm)
 generalize w3.setCell ⟨M, 3, none⟩ (.slice (some ⟨g, 0, none⟩) (i + 1) cap) = w4 at *
 clear I I3 G3 hg hat hMw hcM hzM c1 hh hO
 try walk_nrm
 refine Aa z70 ?_
 refine Ah (Post := fun v w' => v = .tuple #[] /\ P g cap w') ?_ Aj (by rfl) (by decide) rfl Try.func116 (by kernel_rfl) (by rfl) ?_
 ·walk_nrm
  exact hT
 rintro v w5 ⟨rfl, hP⟩
 walk_nrm
 refine Aa z70 ?_
 refine Walk.ctl rfl (fun w => stepG_inLoop) ?_
 refine .stop fun d => ⟨Ak ?_, g, cap, w5, d, hP, rfl⟩
 simp only [hdRun0, hcc]
 rfl
end
end
section
section
variable {a0 M tb tc n m R : Nat} {cb : CB} {ta : Option Addr} {T : Nat -> R11} {main : Bool}
theorem M11.keep {Sx : Rg} {w w' : World} (I : M11 a0 M cb tb tc n m ta Sx T w) (h : ∀ b, b < w.heap.size -> (b < a0 ∨ Ev M cb m tb n T b) -> w'.heap[b]? = w.heap[b]?) : M11 a0 M cb tb tc n m ta Sx T w' := by
 obtain ⟨l1, l2, l3⟩ := I.lt
 refine ⟨(h M l1 (.inr (.inl rfl))).trans I.hd, Lj I.cs fun b hb => h b (l2 b hb) (.inr (.inr (.inl hb))), fun hn => ?_, fun i hi => ?_, I.far, I.base⟩
 ·obtain ⟨e, arr, h1, h2⟩ := I.ts hn
  exact ⟨e, arr, (h tb (l3 hn) (.inr (.inr (.inr (.inl rfl))))).trans h1, h2⟩
 ·have R := I.rows i hi
  exact R.same (fun b hb hw => h b hw (.inl hb)) fun b hb => h b (R.low hb).2 (.inr (.inr (.inr (.inr ⟨i, hi, hb⟩))))
theorem M11.noT {Sx : Rg} {w : World} (I : M11 a0 M cb 0 tc 0 m ta Sx T w) : M11 a0 M cb M tc 0 m ta Sx T w :=
 ⟨I.hd, I.cs, fun h => absurd h (Nat.lt_irrefl 0), fun i hi => absurd hi (Nat.not_lt_zero i), fun i hi => absurd hi (Nat.not_lt_zero i), I.base.1, I.base.2.1, I.base.2.2.1, fun h => absurd h (Nat.lt_irrefl 0)⟩
structure RN11 (a0 M : Nat) (cb : CB) (m R : Nat) (ops : Nat -> List OpV) (W : World) (tb tc : Nat) (ta : Option Addr) (T : Nat -> R11) (k : Nat) (x : OX (Bp m)) (w : World) : Prop where
 I : M11 a0 M cb tb tc k m ta x.s T w
 z : k = 0 -> ta = none /\ tc = 0
 zM : k = 0 -> tb = M
 th : ∀ i, i < k -> Th11 m (ops i) (x.th i).left (x.th i).d (x.th i).ans (T i)
 al : ∀ i, i < k -> (T i).ans.length <= (T i).at'
 out : ∀ i, i < k -> (x.out i).isSome = (x.th i).d.isNone
 res : w.heap[R]? = some Ga
 resS : ¬ Ev M cb m tb k T R
 old : ∀ b, b < a0 -> w.heap[b]? = W.heap[b]?
 le : a0 <= w.heap.size
theorem m11S_old {Sx : Rg} {w : World} (I : M11 a0 M cb tb tc n m ta Sx T w) (hz : n = 0 -> tb = M) {b : Nat} (h : Ev M cb m tb n T b) : a0 <= b := by
 obtain ⟨b1, b2, b3, b4⟩ := I.base
 rcases h with rfl | h | rfl | ⟨k, hk, h⟩
 ·exact b1
 ·exact I.cLo h
 ·by_cases h0 : n = 0
  ·have := hz h0; omega
  ·exact (b4 (by omega)).1
 ·exact ((I.rows k hk).low h).1
theorem putO_out {L : La} (x : OX L) (i : Nat) (r : L.Sg × Tst L) (c : Nat) : ((Dy x i r c).out i).isSome = ((Dy x i r c).th i).d.isNone := by
 unfold Dy
 simp only [upd_same]
 cases r.2.d <;> rfl
theorem putO_th {L : La} (x : OX L) (i : Nat) (r : L.Sg × Tst L) (c : Nat) : (Dy x i r c).th i = r.2 := upd_same _ _ _
theorem Gf {L : La} (x : OX L) {i j : Nat} (h : j ≠ i) (r : L.Sg × Tst L) (c : Nat) : (Dy x i r c).th j = x.th j /\ (Dy x i r c).out j = x.out j := ⟨upd_ne _ _ h, upd_ne _ _ h⟩
theorem RN11.more {ops : Nat -> List OpV} {W : World} {k : Nat} {x : OX (Bp m)} {w w1 w2 : World} (H : RN11 a0 M cb m R ops W tb tc ta T k x w) {oa : Option Addr} {ln oc g cap : Nat} {t' : R11}
  (h1 : Og a0 M cb m x.s T tb k (R11.new oa ln oc k (ops k)) w g cap w1) (hS : Set11 m (upd T k (R11.new oa ln oc k (ops k)) k) t') (I2 : M11 a0 M cb g cap (k + 1) m (some ⟨g, 0, none⟩) x.s (upd (upd T k (R11.new oa ln oc k (ops k))) k t') w2) (g2 : Got M cb m g (k + 1) (upd T k (R11.new oa ln oc k (ops k))) (upd (upd T k (R11.new oa ln oc k (ops k))) k t') w1 w2) :
  RN11 a0 M cb m R ops W g cap (some ⟨g, 0, none⟩) (upd T k t') (k + 1) (Gl ops x k) w2 := by
 obtain ⟨I1, G1⟩ := h1
 have G := G1.trans g2.grew
 rw [Ag] at I2 G
 rw [upd_same] at hS
 obtain ⟨q, asw, s0, s1, s2, s3, s4⟩ := hS.how
 obtain ⟨th, e1, e2⟩ := settle11 (k : Nat) x.s q (R11.new oa ln oc k (ops k)) t' asw s0 s1 hS.ops s2 s3 s4
 have e1 : Bc (Bp m) (k : Nat) x.s (ops k) [] = (x.s, th) := e1
 have e2 : Th11 m (ops k) th.left th.d th.ans t' := e2
 have hx : Gl ops x k = Dy x k (x.s, th) x.cnt := by
  unfold Gl
  rw [e1]
 have hRl := (Array.getElem?_eq_some_iff.1 H.res).1
 have hle := G.chg.size
 refine ⟨?_, fun h => absurd h (by omega), fun h => absurd h (by omega), fun i hi => ?_, fun i hi => ?_, fun i hi => ?_, ?_, fun h => ?_, fun b hb => ?_, by have := H.le; omega⟩
 ·rw [hx]; exact I2
 ·rw [hx]
  by_cases e : i = k
  ·subst e
   rw [putO_th, upd_same]
   exact e2
  ·rw [(Gf x e _ _).1, upd_ne _ _ e]
   exact H.th i (by omega)
 ·by_cases e : i = k
  ·subst e
   rw [upd_same, s3, s2]
   show (([] : List Ans) ++ _).length <= 0 + q
   simp
   omega
  ·rw [upd_ne _ _ e]
   exact H.al i (by omega)
 ·rw [hx]
  by_cases e : i = k
  ·subst e
   exact putO_out _ _ _ _
  ·rw [(Gf x e _ _).1, (Gf x e _ _).2]
   exact H.out i (by omega)
 ·exact (G.chg.same R hRl H.resS).trans H.res
 ·exact (G.own R h).elim H.resS fun h => by omega
 ·have := H.le
  exact (G.chg.same b (by omega) fun h => by have := m11S_old H.I H.zM h; omega).trans (H.old b hb)
theorem run_threads {N : Nat} (hN : N <= 64) (hm : m <= 65536) (b off n0 tcc : Nat) (sv : Value) (mo most : Int) (oa : Nat -> Option Addr) (ln oc : Nat -> Nat) (ops : Nat -> List OpV) (hn0 : N <= n0) (W : World) (ha0 : a0 = W.heap.size) (O : OpsIn b off N oa ln oc ops W) (hwr : ∀ k, k < N -> ∀ o, o ∈ ops k -> -9223372036854775808 <= o.a) (v : Value) (hv : 0 < N -> v = .slice (some ⟨b, off, none⟩) n0 tcc) (cs : List Frame) :
  ∀ (r k : Nat) (tb tc : Nat) (ta : Option Addr) (T : Nat -> R11) (x : OX (Bp m)) (u : Nat -> Value) (w : World), k + r = N -> RN11 a0 M cb m R ops W tb tc ta T k x w ->
  Walk Try.prog main (DR (fun _ => none)) (fun g w' => (∃ u, g = G (hdRun0 M v sv mo R N N u) cs) /\ ∃ tb tc ta T, RN11 a0 M cb m R ops W tb tc ta T N (Fh (Cc (Bp m) N most ops) r k x) w') (G (hdRun0 M v sv mo R N k u) cs) w := by
 intro r
 induction r with
 | zero =>
  intro k tb tc ta T x u w hk H
  have hk' : k = N := hk
  subst hk'
  exact .stop fun d => ⟨⟨u, rfl⟩, tb, tc, ta, T, ⟨H.I.same fun _ _ => rfl, H.z, H.zM, H.th, H.al, H.out, H.res, H.resS, H.old, H.le⟩⟩
 | succ r ih =>
  intro k tb tc ta T x u w hk H
  have hkN : k < N := by omega
  rw [hv (by omega)] at ih ⊢
  have hlen := O.len k hkN
  have hh : w.cell? ⟨b, off + k, none⟩ = some (.slice (oa k) (ln k) (oc k)) := (World.cell?_of_block (a := ⟨b, off + k, none⟩) (H.old b (by rw [ha0]; exact Aw (O.hd k hkN)))).trans (O.hd k hkN)
  have hO : ∀ l, l = (ops k).length -> OpsAt a0 (.slice (oa k) l (oc k)) (ops k) w := fun l hl => by
   refine ⟨oa k, oc k, by rw [hl], fun j o ho => ?_⟩
   obtain ⟨b', off', e, c0, c1, c2, c3⟩ := O.ops k hkN j o ho
   have hb' : b' < a0 := by rw [ha0]; exact Aw c0
   have hold := H.old b' hb'
   refine ⟨b', off', e, hb', by have := H.le; omega, hwr k hkN o (List.mem_of_getElem? ho), fun q z hz => (World.cell?_of_block (a := ⟨b', off' + j * 4 + q, none⟩) hold).trans ?_⟩
   match q, hz with
   | 0, hz => cases hz; exact c0
   | 1, hz => cases hz; exact c1
   | 2, hz => cases hz; exact c2
   | 3, hz => cases hz; exact c3
  have hfin : ∀ l, l = (ops k).length -> Walk Try.prog main (DR (fun _ => none)) (fun g' w' => (∃ u, g' = G (hdRun0 M (.slice (some ⟨b, off, none⟩) n0 tcc) sv mo R N (k + 1) u) cs) /\ ∃ g cap w2 d, (∃ w1 t', Og a0 M cb m x.s T tb k (R11.new (oa k) l (oc k) k (ops k)) w g cap w1 /\ Set11 m (upd T k (R11.new (oa k) l (oc k) k (ops k)) k) t' /\ M11 a0 M cb g cap (k + 1) m (some ⟨g, 0, none⟩) x.s (upd (upd T k (R11.new (oa k) l (oc k) k (ops k))) k t') w2 /\ Got M cb m g (k + 1) (upd T k (R11.new (oa k) l (oc k) k (ops k))) (upd (upd T k (R11.new (oa k) l (oc k) k (ops k))) k t') w1 w2) /\ w' = w2.at d) (G (hdRun0 M (.slice (some ⟨b, off, none⟩) n0 tcc) sv mo R N k u) cs) w := by
   intro l hl
   have hset : ∀ g cap w1, Og a0 M cb m x.s T tb k (R11.new (oa k) l (oc k) k (ops k)) w g cap w1 -> CallW Try.prog main (fun _ => none) 116 #[.pointer (some ⟨M, 0, none⟩), .int .i64 k] w1 (fun v w2 => v = .tuple #[] /\ (∃ w1 t', Og a0 M cb m x.s T tb k (R11.new (oa k) l (oc k) k (ops k)) w g cap w1 /\ Set11 m (upd T k (R11.new (oa k) l (oc k) k (ops k)) k) t' /\ M11 a0 M cb g cap (k + 1) m (some ⟨g, 0, none⟩) x.s (upd (upd T k (R11.new (oa k) l (oc k) k (ops k))) k t') w2 /\ Got M cb m g (k + 1) (upd T k (R11.new (oa k) l (oc k) k (ops k))) (upd (upd T k (R11.new (oa k) l (oc k) k (ops k))) k t') w1 w2)) := by
    intro g cap w1 h1
    have hw := settle_w (main := main) (i := k) (n := k + 1) (T := upd T k (R11.new (oa k) l (oc k) k (ops k))) (by omega) (by omega) hm w1 (by rw [upd_same]; exact Nat.zero_le _) (by rw [upd_same]; show (ops k).length <= 65536; omega) (by rw [upd_same]; exact Nat.le_refl 0) (by rw [upd_same]; rfl) (by have := h1.2.chg.size; have := H.le; omega) h1.1
    intro c cs
    refine (hw c cs).mono ?_
    rintro g' w' ⟨v, ⟨rfl, t', S, I2, g2⟩, rfl⟩
    exact ⟨_, ⟨rfl, w1, t', h1, S, I2, g2⟩, rfl⟩
   by_cases hl6 : ln k <= 65536
   ·have e : l = ln k := by omega
    subst e
    exact thread_le hkN hN b off n0 tcc sv mo R (oa k) (ln k) (oc k) (ops k) (O.cap k hkN) hl6 (O.ad k hkN) hn0 w H.I H.z H.zM H.le hh (hO _ hl) (fun g cap w2 => ∃ w1 t', Og a0 M cb m x.s T tb k (R11.new (oa k) (ln k) (oc k) k (ops k)) w g cap w1 /\ Set11 m (upd T k (R11.new (oa k) (ln k) (oc k) k (ops k)) k) t' /\ M11 a0 M cb g cap (k + 1) m (some ⟨g, 0, none⟩) x.s (upd (upd T k (R11.new (oa k) (ln k) (oc k) k (ops k))) k t') w2 /\ Got M cb m g (k + 1) (upd T k (R11.new (oa k) (ln k) (oc k) k (ops k))) (upd (upd T k (R11.new (oa k) (ln k) (oc k) k (ops k))) k t') w1 w2) hset u cs
   ·have e : l = 65536 := by omega
    subst e
    exact thread_gt hkN hN b off n0 tcc sv mo R (oa k) (ln k) (oc k) (ops k) (O.cap k hkN) (by omega) (O.ad k hkN) hn0 w H.I H.z H.zM H.le hh (hO _ hl) (fun g cap w2 => ∃ w1 t', Og a0 M cb m x.s T tb k (R11.new (oa k) 65536 (oc k) k (ops k)) w g cap w1 /\ Set11 m (upd T k (R11.new (oa k) 65536 (oc k) k (ops k)) k) t' /\ M11 a0 M cb g cap (k + 1) m (some ⟨g, 0, none⟩) x.s (upd (upd T k (R11.new (oa k) 65536 (oc k) k (ops k))) k t') w2 /\ Got M cb m g (k + 1) (upd T k (R11.new (oa k) 65536 (oc k) k (ops k))) (upd (upd T k (R11.new (oa k) 65536 (oc k) k (ops k))) k t') w1 w2) hset u cs
  refine (hfin _ rfl).then ?_
  rintro g' w' ⟨⟨u', rfl⟩, g, cap, w2, d, ⟨w1, t', h1, hS, I2, g2⟩, rfl⟩
  refine Walk.back ?_ d
  exact ih (k + 1) g cap (some ⟨g, 0, none⟩) (upd T k t') (Gl ops x k) u' w2 (by omega) (H.more h1 hS I2 g2)
end
end
section
section
variable {X : Type}
inductive Stps (C : Abs X) : X × List Nat -> X × List Nat -> Prop
 | refl (st : X × List Nat) : Stps C st st
 | step {st st' : X × List Nat} (i : Nat) (h : Stps C st st') (hi : i < C.n) (ho : C.out st'.1 i = none) : Stps C st (C.next st'.1 i, st'.2 ++ [i])
theorem stepA_len (C : Abs X) (st : X × List Nat) (z : Int) : st.2.length <= (Bj C st z).2.length := by
 unfold Bj
 split
 ·simp
 ·exact Nat.le_refl _
theorem Kl (C : Abs X) : ∀ (l : List Nat) (st : X × List Nat), st.2.length <= (l.foldl (fun st i => Bj C st (i : Nat)) st).2.length
 | [], _ => Nat.le_refl _
 | _ :: l, _ => Nat.le_trans (stepA_len C _ _) (Kl C l _)
theorem Km (C : Abs X) {i : Nat} (hi : i < C.n) : ∀ (l : List Nat) (st : X × List Nat), i ∈ l -> Bv C st = false -> C.out st.1 i = none -> st.2.length + 1 <= (l.foldl (fun st i => Bj C st (i : Nat)) st).2.length
 | [], _, h, _, _ => by cases h
 | a :: l, st, h, ho, hn => by
  rw [List.foldl_cons]
  by_cases hs : Bv C st = false /\ 0 <= (a : Int) /\ (a : Int) < C.n /\ C.out st.1 (a : Int).toNat = none
  ·have : (Bj C st a).2.length = st.2.length + 1 := by unfold Bj; rw [if_pos hs]; simp
   rw [<- this]
   exact Kl C l _
  ·have : Bj C st a = st := by unfold Bj; rw [if_neg hs]
   rw [this]
   rcases List.mem_cons.1 h with rfl | h
   ·exact absurd ⟨ho, by omega, by omega, by simpa using hn⟩ hs
   ·exact Km C hi l st h ho hn
theorem roundA_one (C : Abs X) {st : X × List Nat} (h : Bv C st = false) : st.2.length + 1 <= (Hm C st).2.length := by
 have hg : Dg C st.1 ≠ 0 := by
  intro e
  unfold Bv at h
  rw [e] at h
  simp at h
 obtain ⟨i, hi, hn⟩ := List.countP_pos_iff.1 (Nat.pos_of_ne_zero hg)
 have hi : i < C.n := List.mem_range.1 hi
 exact Km C hi _ _ (List.mem_range.2 hi) h (by simpa using hn)
theorem rest_on (C : Abs X) {f : Nat} {st : X × List Nat} (h : Bv C st = false) : Dj C (f + 1) st = Dj C f (Hm C st) := by
 show (if Bv C st then st else Dj C f (Hm C st)) = _
 rw [h]; rfl
theorem rest_off (C : Abs X) {f : Nat} {st : X × List Nat} (h : Bv C st = true) : Dj C (f + 1) st = st := by
 show (if Bv C st then st else Dj C f (Hm C st)) = _
 rw [h]; rfl
def Abs.withMost (C : Abs X) (m : Int) : Abs X := { C with most := m }
section
variable {C : Abs X} {m1 m2 : Nat}
def Both2 (C : Abs X) (m1 : Nat) (a b : X × List Nat) : Prop := Stps C a b /\ a.2.length <= m1 /\ (a = b ∨ a.2.length = m1)
end
end
end
section
section
variable {X : Type} {A : Abs X} {F st : X × List Nat} {sl : List Int} {p rd : Nat}
structure Ahead (A : Abs X) (F : X × List Nat) (sl : List Int) (p rd : Nat) (st : X × List Nat) : Prop where
 run : ∃ f x, x <= A.n /\ rd % A.n = x % A.n /\ F = Dj A f ((List.range' x (A.n - x)).foldl (fun st i => Bj A st (i : Nat)) ((sl.drop p).foldl (Bj A) st)) /\
  A.most <= (((List.range' x (A.n - x)).foldl (fun st i => Bj A st (i : Nat)) ((sl.drop p).foldl (Bj A) st)).2.length + f : Nat)
 le : p <= sl.length
 short : (st.2.length : Int) <= A.most
theorem over_stay (h : Bv A st = true) (z : Int) : Bj A st z = st := by
 unfold Bj
 rw [if_neg]
 rintro ⟨h', _⟩
 rw [h] at h'; cases h'
theorem Ma (h : Bv A st = true) : ∀ l : List Int, l.foldl (Bj A) st = st
 | [] => rfl
 | z :: l => by rw [List.foldl_cons, over_stay h]; exact Ma h l
theorem Mb (h : Bv A st = true) : ∀ l : List Nat, l.foldl (fun st i => Bj A st (i : Nat)) st = st
 | [] => rfl
 | z :: l => by rw [List.foldl_cons, over_stay h]; exact Mb h l
theorem step_yes (h : Bv A st = false) {i : Nat} (hi : i < A.n) (ho : A.out st.1 i = none) : Bj A st (i : Nat) = (A.next st.1 i, st.2 ++ [i]) := by
 unfold Bj
 rw [if_pos ⟨h, by omega, by omega, by simpa using ho⟩]
 simp
theorem step_no {z : Int} (h : ¬ (0 <= z /\ z < A.n /\ A.out st.1 z.toNat = none)) : Bj A st z = st := by
 unfold Bj
 rw [if_neg]
 rintro ⟨_, h'⟩
 exact h h'
theorem over_len (h : Bv A st = false) : (st.2.length : Int) < A.most /\ ∃ j, j < A.n /\ A.out st.1 j = none := by
 unfold Bv at h
 simp only [Bool.or_eq_false_iff, decide_eq_false_iff_not] at h
 refine ⟨by omega, ?_⟩
 have : 0 < Dg A st.1 := by omega
 obtain ⟨j, hj, ho⟩ := List.countP_pos_iff.1 this
 exact ⟨j, List.mem_range.1 hj, by simpa using ho⟩
theorem Lp (h : (st.2.length : Int) <= A.most) (z : Int) : ((Bj A st z).2.length : Int) <= A.most := by
 unfold Bj
 split
 ·next h' => have := (over_len h'.1).1; simp; omega
 ·exact h
end
end
section
section
variable {a0 M tb tc n m : Nat} {cb : CB} {ta : Option Addr} {Sx : Rg} {T : Nat -> R11} {main : Bool}
theorem run_end0 (M : Nat) (v sv : Value) (mo : Int) (R N : Nat) (u : Nat -> Value) (cs : List Frame) (w : World) :
  Walk Try.prog main (DR (fun _ => none)) (fun g w' => (∃ u, g = G (hdRun1 M sv mo R N (.slice none 0 0) 0 u) cs) /\ ∃ d, w' = w.at d) (G (hdRun0 M v sv mo R N N u) cs) w := by
 have hj1 : decide ((N : Int) < N) = false := by simp
 have hj3 : decide (N < N) = false := by simp
 conv => arg 5; unfold hdRun0
 refine Aa z70 ?_
 refine Walk.ctl rfl (fun w => stepG_loop) ?_
 refine .stop fun d => ⟨Ak ?_, d, rfl⟩
 simp only [hdRun1]
 rfl
theorem sched_end (M : Nat) (sa : Option Addr) (ls sc : Nat) (mo : Int) (R N : Nat) (ov : Value) (u : Nat -> Value) (cs : List Frame) (w : World) :
  Walk Try.prog main (DR (fun _ => none)) (fun g w' => (∃ u, g = G (hdRun2 M mo R N ov u) cs) /\ ∃ d, w' = w.at d) (G (hdRun1 M (.slice sa ls sc) mo R N ov ls u) cs) w := by
 have hj1 : decide ((ls : Int) < ls) = false := by simp
 have hj3 : decide (ls < ls) = false := by simp
 conv => arg 5; unfold hdRun1
 refine Aa z70 ?_
 refine Walk.ctl rfl (fun w => stepG_loop) ?_
 refine .stop fun d => ⟨Ak ?_, d, rfl⟩
 simp only [hdRun2]
 rfl
theorem sched_full (M : Nat) (sa : Option Addr) (ls sc : Nat) (mo : Int) (R N : Nat) (oa : Option Addr) (ln oc k : Nat) (hk : k < ls) (hm : mo <= (ln : Int)) (u : Nat -> Value) (cs : List Frame) (w : World) :
  Walk Try.prog main (DR (fun _ => none)) (fun g w' => (∃ u, g = G (hdRun2 M mo R N (.slice oa ln oc) u) cs) /\ ∃ d, w' = w.at d) (G (hdRun1 M (.slice sa ls sc) mo R N (.slice oa ln oc) k u) cs) w := by
 have hj1 : decide ((k : Int) < ls) = true := by simp; omega
 have hj3 : decide (k < ls) = true := by simp; omega
 have hj4 : (k : Int) < ls := by omega
 have hj5 : decide ((ln : Int) < mo) = false := by simp; omega
 have hj6 : ¬ (ln : Int) < mo := by omega
 conv => arg 5; unfold hdRun1
 refine Aa z70 ?_
 refine Walk.ctl rfl (fun w => stepG_loop) ?_
 refine .stop fun d => ⟨Ak ?_, d, rfl⟩
 simp only [hdRun2]
 rfl
theorem sched_neg (M : Nat) (s so ls sc : Nat) (mo : Int) (R N : Nat) (oa : Option Addr) (ln oc k : Nat) (hk : k < ls) (hls : ls <= 17592186044416) (hm : (ln : Int) < mo) (z : Int) (hz : z < 0) (u : Nat -> Value) (cs : List Frame) (w : World) (c0 : w.cell? ⟨s, so + k, none⟩ = some (.int .i64 z)) :
  Walk Try.prog main (DR (fun _ => none)) (fun g w' => (∃ u, g = G (hdRun1 M (.slice (some ⟨s, so, none⟩) ls sc) mo R N (.slice oa ln oc) (k + 1) u) cs) /\ ∃ d, w' = w.at d) (G (hdRun1 M (.slice (some ⟨s, so, none⟩) ls sc) mo R N (.slice oa ln oc) k u) cs) w := by
 have hk0 : (0 : Int) <= k := by omega
 have hj1 : decide ((k : Int) < ls) = true := by simp; omega
 have hj3 : decide (k < ls) = true := by simp; omega
 have hj4 : (k : Int) < ls := by omega
 have hj5 : decide ((ln : Int) < mo) = true := by simp; omega
 have hw1 : IntKind.wrap .i64 ((k : Int) + 1) = (k : Int) + 1 := by rw [IntKind.wrap_i64]; omega
 have hcc : ((k + 1 : Nat) : Int) = (k : Int) + 1 := by simp
 have hz1 : decide (0 <= z) = false := by simp; omega
 have hz2 : ¬ 0 <= z := by omega
 conv => arg 5; unfold hdRun1
 refine Aa z70 ?_
 refine Walk.ctl rfl (fun w => stepG_inLoop) ?_
 refine .stop fun d => ⟨Ak ?_, d, rfl⟩
 simp only [hdRun1, hcc]
 rfl
theorem sched_far (M : Nat) (s so ls sc : Nat) (mo : Int) (R N : Nat) (oa : Option Addr) (ln oc k : Nat) (hk : k < ls) (hls : ls <= 17592186044416) (hm : (ln : Int) < mo) (z : Int) (hz : 0 <= z) (hz0 : N <= z) (u : Nat -> Value) (cs : List Frame) (w : World) (c0 : w.cell? ⟨s, so + k, none⟩ = some (.int .i64 z)) :
  Walk Try.prog main (DR (fun _ => none)) (fun g w' => (∃ u, g = G (hdRun1 M (.slice (some ⟨s, so, none⟩) ls sc) mo R N (.slice oa ln oc) (k + 1) u) cs) /\ ∃ d, w' = w.at d) (G (hdRun1 M (.slice (some ⟨s, so, none⟩) ls sc) mo R N (.slice oa ln oc) k u) cs) w := by
 have hk0 : (0 : Int) <= k := by omega
 have hj1 : decide ((k : Int) < ls) = true := by simp; omega
 have hj3 : decide (k < ls) = true := by simp; omega
 have hj4 : (k : Int) < ls := by omega
 have hj5 : decide ((ln : Int) < mo) = true := by simp; omega
 have hw1 : IntKind.wrap .i64 ((k : Int) + 1) = (k : Int) + 1 := by rw [IntKind.wrap_i64]; omega
 have hcc : ((k + 1 : Nat) : Int) = (k : Int) + 1 := by simp
 have hz1 : decide (0 <= z) = true := by simp; omega
 have hz3 : decide (z < N) = false := by simp; omega
 have hz2 : ¬ z < N := by omega
 conv => arg 5; unfold hdRun1
 refine Aa z70 ?_
 refine Walk.ctl rfl (fun w => stepG_inLoop) ?_
 refine .stop fun d => ⟨Ak ?_, d, rfl⟩
 simp only [hdRun1, hcc]
 rfl
theorem sched_off (M : Nat) (s so ls sc : Nat) (mo : Int) (R : Nat) (oa : Option Addr) (ln oc k : Nat) (hk : k < ls) (hls : ls <= 17592186044416) (hm : (ln : Int) < mo) (w : World) {i : Nat} (hi : i < n) (I : M11 a0 M cb tb tc n m ta Sx T w) (hpc : ¬ 0 < (T i).pc) (u : Nat -> Value) (cs : List Frame) (c0 : w.cell? ⟨s, so + k, none⟩ = some (.int .i64 i)) :
  Walk Try.prog main (DR (fun _ => none)) (fun g w' => (∃ u, g = G (hdRun1 M (.slice (some ⟨s, so, none⟩) ls sc) mo R n (.slice oa ln oc) (k + 1) u) cs) /\ ∃ d, w' = w.at d) (G (hdRun1 M (.slice (some ⟨s, so, none⟩) ls sc) mo R n (.slice oa ln oc) k u) cs) w := by
 have hk0 : (0 : Int) <= k := by omega
 have hj1 : decide ((k : Int) < ls) = true := by simp; omega
 have hj3 : decide (k < ls) = true := by simp; omega
 have hj4 : (k : Int) < ls := by omega
 have hj5 : decide ((ln : Int) < mo) = true := by simp; omega
 have hw1 : IntKind.wrap .i64 ((k : Int) + 1) = (k : Int) + 1 := by rw [IntKind.wrap_i64]; omega
 have hcc : ((k + 1 : Nat) : Int) = (k : Int) + 1 := by simp
 have hi0 : (0 : Int) <= i := by omega
 have hz1 : decide ((0 : Int) <= i) = true := by simp
 have hi1 : decide ((i : Int) < n) = true := by simp; omega
 have hi3 : decide (i < n) = true := by simp; omega
 have hi4 : (i : Int) < n := by omega
 have hp1 : decide (0 < (T i).pc) = false := by simp only [decide_eq_false_iff_not]; exact hpc
 have c1 : w.cell? ⟨M, 3, none⟩ = some (.slice (some ⟨tb, 0, none⟩) n tc) := I.cT (by omega)
 have c2 : w.cell? ⟨tb, i * 9 + 4, none⟩ = some (.int .i64 (T i).pc) := I.tcell hi rfl
 generalize (T i).pc = pc at *
 conv => arg 5; unfold hdRun1
 refine Aa z70 ?_
 refine Walk.ctl rfl (fun w => stepG_inLoop) ?_
 refine .stop fun d => ⟨Ak ?_, d, rfl⟩
 simp only [hdRun1, hcc]
 rfl
end
end
end Go.Proofs.Ytcdcnmphjhfbpaa
