/- Part 27. -/
import Derived.Test.YtnnakajldnaldaaJ11
import Derived.Test.YtnnakajldnaldaaJ13
import Derived.Test.YtnnakajldnaldaaJ15
import Derived.Test.YtnnakajldnaldaaJ16
import Derived.Test.YtnnakajldnaldaaJ22
set_option linter.unusedSimpArgs false
set_option linter.unusedVariables false
set_option maxHeartbeats 8000000
set_option maxRecDepth 100000
namespace Go.Proofs.Ytnnakajldnaldaa
open Go.Conc Go.RowKit Go.Relay
open Go.ConcN (upd upd_ne upd_same)
section
def runN (L : La) : Nat → L.Sg × (Ans ⊕ L.D) → Option (L.Sg × Ans)
  | _, (s, .inl a) => some (s, a)
  | 0, (_, .inr _) => none
  | n + 1, (s, .inr d) => runN L n (L.act s d)
theorem runN_inl (L : La) (n : Nat) (s : L.Sg) (a : Ans) : runN L n (s, .inl a) = some (s, a) := by cases n <;> rfl
theorem undStepperN : ∃ ms, Try.prog.underlying 84 = some (.interface ms) := by
  have h : (match Try.prog.underlying 84 with | some (.interface _) => true | _ => false) = true := by kernel_rfl
  revert h
  cases Try.prog.underlying 84 with
  | none => simp
  | some d =>
    cases d with
    | interface fs => exact fun _ => ⟨fs, rfl⟩
    | _ => simp
structure NilE (L : La) (base : World) (R : L.Sg × Ans) where
  w : World
  s : L.Sg
  tgt : L.Sg × (Ans ⊕ L.D)
  fuel : Nat
  inv : L.I s w
  size : base.heap.size ≤ w.heap.size
  old : ∀ b, b < base.heap.size → ¬ L.sh b → w.heap[b]? = base.heap[b]?
  run : runN L fuel tgt = some R
section
variable {L : La} {main : Bool} {V : Nat → Option Wait} {Stop : Goroutine → World → Prop} {cs : List Frame} {base : World} {R : L.Sg × Ans}
def nilB (main : Bool) (V : Nat → Option Wait) (Stop : Goroutine → World → Prop) (cs : List Frame) (base : World) (R : L.Sg × Ans) : Lb L where
  main := main
  E := NilE L base R
  V := fun _ => V
  Stop := fun _ => Stop
  bot := fun _ => cs
  w := fun e => e.w
  s := fun e => e.s
  tgt := fun e => e.tgt
  fuel := fun e => e.fuel
  mine := fun e b => base.heap.size ≤ b ∧ b < e.w.heap.size
theorem nil_step (e : NilE L base R) (d : L.D) (ht : e.tgt = (e.s, .inr d)) (fr : Frame) (l : List Frame) (hk : ∀ e' : NilE L base R, Aft (nilB main V Stop cs base R) e d e' → LW (nilB main V Stop cs base R) e' (G (fr.finish (.tuple #[])) (l ++ cs))) :
    LW (nilB main V Stop cs base R) e (G (Frame.enter Try.prog 55 #[.nilIface] .normal) (fr :: (l ++ cs))) := by
  obtain ⟨ms, hu⟩ := undStepperN
  have hn1 := fun w => run_neq_nilIface (P := Try.prog) (w := w) 84 hu
  have hn2 := fun w es => ev_neq_nilIface (P := Try.prog) (w := w) 84 es hu
  obtain ⟨n, hn, hr⟩ : ∃ n, e.fuel = n + 1 ∧ runN L n (L.act e.s d) = some R := by
    have h := e.run
    rw [ht] at h
    cases hf : e.fuel with
    | zero => rw [hf] at h; cases h
    | succ n => rw [hf] at h; exact ⟨n, rfl, h⟩
  have hh := hk { w := e.w, s := e.s, tgt := L.act e.s d, fuel := n, inv := e.inv, size := e.size, old := e.old, run := hr } ⟨rfl, show n < e.fuel by omega, Nat.le_refl _, fun b h => ⟨h, rfl⟩⟩
  unfold LW at hh ⊢
  show Walk Try.prog main (DR V) Stop _ e.w
  replace hh : Walk Try.prog main (DR V) Stop (G (fr.finish (.tuple #[])) (l ++ cs)) e.w := hh
  rw [enter_at _ Try.func55 code55_is]
  simp only [Try.ntmps55, ez, Nat.reduceAdd, Nat.reduceSub]
  repeat (first | refine Walk.cx ?_ | (refine Walk.cReg ?_; simp only [z55]) | (refine Walk.oq ?_; try walk_nrm) | (refine Walk.un ?_; walk_nrm))
  exact Walk.on0 rfl rfl Try.func55 rfl hh
def nilL (hA : ∀ b, Apart V b) (hsh : ∀ b, L.sh b → b < base.heap.size) (main : Bool) (Stop : Goroutine → World → Prop) (cs : List Frame) (R : L.Sg × Ans) : Lg L .nilIface where
  toLb := nilB main V Stop cs base R
  one := rfl
  inv := fun e => e.inv
  shA := fun _ b _ => hA b
  mineA := fun e b h => ⟨hA b, fun hs => by have := hsh b hs; have := h.1; omega, h.2⟩
  newA := fun _ b _ => hA b
  mv := fun e s' w' h1 h2 h3 => ⟨{ w := w', s := s', tgt := e.tgt, fuel := e.fuel, inv := h3, size := Nat.le_trans e.size h1, old := fun b hb hs => (h2 b (Nat.lt_of_lt_of_le hb e.size) (fun hm => by have := hm.1; omega) hs).trans (e.old b hb hs), run := e.run }, rfl, rfl, rfl, rfl, rfl, rfl, rfl, fun b => by
    show (base.heap.size ≤ b ∧ b < w'.heap.size) ↔ ((base.heap.size ≤ b ∧ b < e.w.heap.size) ∨ (e.w.heap.size ≤ b ∧ b < w'.heap.size))
    have := e.size
    have h1 : e.w.heap.size ≤ w'.heap.size := h1
    constructor
    · rintro ⟨a, b'⟩
      by_cases hb : b < e.w.heap.size
      · exact .inl ⟨a, hb⟩
      · exact .inr ⟨by omega, b'⟩
    · rintro (⟨a, b'⟩ | ⟨a, b'⟩)
      · exact ⟨a, by omega⟩
      · exact ⟨by omega, b'⟩⟩
  step := fun e d ht fr l _ _ hk => nil_step e d ht fr l hk
structure Lone (L : La) (w : World) (R : L.Sg × Ans) (w' : World) : Prop where
  I : L.I R.1 w'
  size : w.heap.size ≤ w'.heap.size
  old : ∀ b, b < w.heap.size → ¬ L.sh b → w'.heap[b]? = w.heap[b]?
variable {b : Frame} {a : Act} {k : List Item} {ops : Array Oper} {i : Nat} {rest : List Nat} {o : Oper} {w : World}
theorem Walk.callLone {f : FuncId} {fn : Func} {args : Array Operand} {ats : Array TypeId} {Rel : Value → Ans → Prop} (N : Nat) (s : L.Sg) (r0 : Ans ⊕ L.D) (hA : ∀ b, Apart V b) (hI : L.I s w) (hrun : runN L N (s, r0) = some R)
    (hc : ∀ (K : Lg L .nilIface) (e : K.E), K.tgt e = (K.s e, r0) → SCall K.toLb f (args.map a.eval) e (fun v e' => ∃ x, Rel v x ∧ K.tgt e' = (K.s e', .inl x)))
    (ho : ops[i]? = some o) (hw : Region.wanted o (yielded ops a.tmps) = true) (hk : b.kind ≠ .early) (hop : o.op = .call { callee := .value (.func f), args, argTypes := ats })
    (hf : Try.prog.funcs[f]? = some fn) (hname : (fn.name == "runtime.NumGoroutine") = false) (hb : fn.body.isNone = false) (hp : Plain (b.at a (.inRegion ops (i :: rest) :: k)))
    (h : ∀ v w', Rel v R.2 → Lone L w R w' → Walk Try.prog main (DR V) Stop (G (b.at (a.put o.dst v) (.inRegion ops rest :: k)) cs) w') :
    Walk Try.prog main (DR V) Stop (G (b.at a (.inRegion ops (i :: rest) :: k)) cs) w := by
  refine Walk.callE ho hw hk hop hf hname hb ?_
  have key := hc (nilL (V := V) (base := w) hA (fun b h => L.lt hI h) main Stop cs R) { w := w, s := s, tgt := (s, r0), fuel := N, inv := hI, size := Nat.le_refl _, old := fun _ _ _ => rfl, run := hrun } rfl (b.at a (.inRegion ops (i :: rest) :: k)) [] hp (fun _ h => by cases h) ?_
  · exact key
  · rintro v e' ⟨x, hr, ht⟩
    have hrn := e'.run
    have ht : e'.tgt = (e'.s, .inl x) := ht
    rw [ht, runN_inl] at hrn
    have hR := Option.some.inj hrn
    have r1 : R.1 = e'.s := (congrArg Prod.fst hR).symm
    have r2 : R.2 = x := (congrArg Prod.snd hR).symm
    have := h v e'.w (by rw [r2]; exact hr) ⟨by rw [r1]; exact e'.inv, e'.size, e'.old⟩
    rw [Frame.finish_at, ho]
    exact this
end
end
section
def stN (sz : Int) : Nat := (min (max sz 1) 64).toNat
theorem stN_le (sz : Int) : 1 ≤ stN sz ∧ stN sz ≤ 64 ∧ ((stN sz : Nat) : Int) = min (max sz 1) 64 := by
  unfold stN
  omega
def sp0 : Sp := fun _ => 0
theorem made1 (n j : Nat) (hj : j < n * 1) : (madeCells #[.int .i64 0] (n * 1))[j]? = some (.int .i64 0) := by
  unfold madeCells
  rw [Array.getElem?_map, Array.getElem?_range, if_pos hj]
  simp [Nat.mod_one]
theorem infoW : ∃ ti : TypeInfo, Try.prog.info? 66 = some ti ∧ ti.zero.map Value.cells = some #[.int .i64 0] ∧ ti.size = 1 ∧ ti.bytes = 8 := by
  cases h : Try.prog.info? 66 with
  | none => exact absurd (by kernel_rfl : (Try.prog.info? 66).isSome = true) (by rw [h]; decide)
  | some ti =>
    have h1 : ((Try.prog.info? 66).bind fun x => x.zero.map Value.cells) = some #[.int .i64 0] := by kernel_rfl
    have h2 : (Try.prog.info? 66).map (fun x => x.size) = some 1 := by kernel_rfl
    have h3 : (Try.prog.info? 66).map (fun x => x.bytes) = some 8 := by kernel_rfl
    rw [h] at h1 h2 h3
    simp only [Option.bind_some, Option.map_some, Option.some.injEq] at h2 h3
    exact ⟨ti, rfl, h1, h2, h3⟩
noncomputable def reg16_0 := rg Try.f16.body [0]
noncomputable def reg16_1 := rg Try.f16.body [1, 0]
theorem z16 : List.range reg16_0.size = [0] ∧ List.range reg16_1.size = [0, 1, 2, 3, 4, 5, 6, 7] := by refine ⟨?_, ?_⟩ <;> kernel_rfl
theorem code16_is : Try.f16.body = some (.seq (.region 0 reg16_0 false) (.seq (.region 1 reg16_1 false) (.ret))) := by kernel_rfl
section
variable {main : Bool} {V : Nat → Option Wait}
theorem new_w (sz : Int) (w : World) : CallW Try.prog main V 16 #[.int .i64 sz] w (fun v w' => v = .pointer (some ⟨w.heap.size + 1, 0, none⟩) ∧ SpI (w.heap.size + 1) w.heap.size (stN sz) (some ⟨w.heap.size, 0, none⟩) (stN sz - 1) sp0 w' ∧ (∀ b, b < w.heap.size → w'.heap[b]? = w.heap[b]?) ∧ w'.heap.size = w.heap.size + 2) := by
  intro c cs
  have hmx := @events_max_ints Try.prog
  have hmn := @events_min_ints Try.prog
  obtain ⟨ti, hi1, hz, hsz, hby⟩ := infoW
  obtain ⟨z, hz1, hz2⟩ : ∃ z, ti.zero = some z ∧ z.cells = #[.int .i64 0] := by
    cases h : ti.zero with
    | none => rw [h] at hz; cases hz
    | some z => rw [h] at hz; exact ⟨z, rfl, by simpa using hz⟩
  obtain ⟨q1, q2, q3⟩ := stN_le sz
  obtain ⟨k, hk⟩ : ∃ k, stN sz = k + 1 := ⟨stN sz - 1, by omega⟩
  rw [hk] at q1 q2 q3 ⊢
  have hq : min (max sz 1) 64 = (k : Int) + 1 := by omega
  have hw1 : IntKind.i64.wrap ((k : Int) + 1 - 1) = (k : Int) := by rw [IntKind.wrap_i64]; omega
  have hw2 : IntKind.i64.wrap (k : Int) = (k : Int) := by rw [IntKind.wrap_i64]; omega
  clear q1 q3 hk hz
  rw [enter_at _ Try.func16 code16_is]
  simp only [Try.ntmps16, ez, Nat.reduceAdd, Nat.reduceSub]
  repeat (first | refine Walk.cx ?_ | (refine Walk.cReg ?_; simp only [z16]) | (refine Walk.oq ?_; try walk_nrm) | (refine Walk.un ?_; walk_nrm))
  refine Walk.make 67 (.tmp 6) (.tmp 6) (ho_of (by conv => lhs; whnf) (by kernel_rfl)) (by rfl) (by decide) rfl 66 _ z 1 8 (by kernel_rfl) hi1 hz1 hsz hby k (by rfl) (by rfl) (by omega) (by omega) ?_
  rw [hz2]
  walk_nrm
  have s1 : (w.alloc (.cells (madeCells #[.int .i64 0] (k * 1)) 66)).heap.size = w.heap.size + 1 := by simp
  have o1 : ∀ b, b < w.heap.size → (w.alloc (.cells (madeCells #[.int .i64 0] (k * 1)) 66)).heap[b]? = w.heap[b]? := fun b hb => heap_new_lt _ _ hb
  have d1 := heap_alloc_new w (.cells (madeCells #[.int .i64 0] (k * 1)) 66)
  generalize hT : w.heap.size = T at *
  generalize w.alloc (.cells (madeCells #[.int .i64 0] (k * 1)) 66) = w1 at *
  clear hi1 hz1 hsz hby hz2 hmx hmn hq hw1 hw2
  repeat (first | refine Walk.cx ?_ | (refine Walk.cReg ?_; simp only [z16]) | (refine Walk.oq ?_; try walk_nrm) | (refine Walk.un ?_; walk_nrm))
  (refine Walk.oa ?_; try walk_nrm)
  have d2 := heap_alloc_new w1 (.cells #[.int .i64 0, .slice (some ⟨T, 0, none⟩) k k] 69)
  have s2 : (w1.alloc (.cells #[.int .i64 0, .slice (some ⟨T, 0, none⟩) k k] 69)).heap.size = w1.heap.size + 1 := by simp
  have o2 : ∀ b, b < w1.heap.size → (w1.alloc (.cells #[.int .i64 0, .slice (some ⟨T, 0, none⟩) k k] 69)).heap[b]? = w1.heap[b]? := fun b hb => heap_new_lt _ _ hb
  rw [s1] at d2 s2 o2
  try simp only [s1]
  generalize w1.alloc (.cells #[.int .i64 0, .slice (some ⟨T, 0, none⟩) k k] 69) = w2 at *
  repeat (first | refine Walk.cx ?_ | (refine Walk.cReg ?_; simp only [z16]) | (refine Walk.oq ?_; try walk_nrm) | (refine Walk.un ?_; walk_nrm))
  refine Walk.on1 rfl rfl Try.func16 rfl (.stop fun d => ⟨_, ⟨rfl, ⟨d2, fun _ => ⟨rfl, _, (o2 T (by omega)).trans d1, fun i h1 h2 => made1 k _ (by omega)⟩, fun _ => by omega, by omega⟩, fun b hb => (o2 b (by omega)).trans (o1 b hb), s2⟩, rfl⟩)
end
structure QuE (L : La) (base : World) (P : Nat → L.Sg × (Ans ⊕ L.D) → Prop) where
  w : World
  s : L.Sg
  tgt : L.Sg × (Ans ⊕ L.D)
  fuel : Nat
  inv : L.I s w
  size : base.heap.size ≤ w.heap.size
  old : ∀ b, b < base.heap.size → ¬ L.sh b → w.heap[b]? = base.heap[b]?
  run : P fuel tgt
section
variable {L : La} {main : Bool} {V : Nat → Option Wait} {Stop : Goroutine → World → Prop} {cs : List Frame} {base : World} {P : Nat → L.Sg × (Ans ⊕ L.D) → Prop}
def quB (main : Bool) (V : Nat → Option Wait) (Stop : Goroutine → World → Prop) (cs : List Frame) (base : World) (P : Nat → L.Sg × (Ans ⊕ L.D) → Prop) : Lb L where
  main := main
  E := QuE L base P
  V := fun _ => V
  Stop := fun _ => Stop
  bot := fun _ => cs
  w := fun e => e.w
  s := fun e => e.s
  tgt := fun e => e.tgt
  fuel := fun e => e.fuel
  mine := fun e b => base.heap.size ≤ b ∧ b < e.w.heap.size
theorem qu_step (hP : ∀ n s d, P n (s, .inr d) → ∃ n', n' < n ∧ P n' (L.act s d)) (e : QuE L base P) (d : L.D) (ht : e.tgt = (e.s, .inr d)) (fr : Frame) (l : List Frame) (hk : ∀ e' : QuE L base P, Aft (quB main V Stop cs base P) e d e' → LW (quB main V Stop cs base P) e' (G (fr.finish (.tuple #[])) (l ++ cs))) :
    LW (quB main V Stop cs base P) e (G (Frame.enter Try.prog 55 #[.nilIface] .normal) (fr :: (l ++ cs))) := by
  obtain ⟨ms, hu⟩ := undStepperN
  have hn1 := fun w => run_neq_nilIface (P := Try.prog) (w := w) 84 hu
  have hn2 := fun w es => ev_neq_nilIface (P := Try.prog) (w := w) 84 es hu
  obtain ⟨n, hn, hr⟩ : ∃ n, n < e.fuel ∧ P n (L.act e.s d) := hP _ _ _ (by have h := e.run; rw [ht] at h; exact h)
  have hh := hk { w := e.w, s := e.s, tgt := L.act e.s d, fuel := n, inv := e.inv, size := e.size, old := e.old, run := hr } ⟨rfl, hn, Nat.le_refl _, fun b h => ⟨h, rfl⟩⟩
  unfold LW at hh ⊢
  show Walk Try.prog main (DR V) Stop _ e.w
  replace hh : Walk Try.prog main (DR V) Stop (G (fr.finish (.tuple #[])) (l ++ cs)) e.w := hh
  rw [enter_at _ Try.func55 code55_is]
  simp only [Try.ntmps55, ez, Nat.reduceAdd, Nat.reduceSub]
  repeat (first | refine Walk.cx ?_ | (refine Walk.cReg ?_; simp only [z55]) | (refine Walk.oq ?_; try walk_nrm) | (refine Walk.un ?_; walk_nrm))
  exact Walk.on0 rfl rfl Try.func55 rfl hh
def quL (hP : ∀ n s d, P n (s, .inr d) → ∃ n', n' < n ∧ P n' (L.act s d)) (hA : ∀ b, Apart V b) (hsh : ∀ b, L.sh b → b < base.heap.size) (main : Bool) (Stop : Goroutine → World → Prop) (cs : List Frame) : Lg L .nilIface where
  toLb := quB main V Stop cs base P
  one := rfl
  inv := fun e => e.inv
  shA := fun _ b _ => hA b
  mineA := fun e b h => ⟨hA b, fun hs => by have := hsh b hs; have := h.1; omega, h.2⟩
  newA := fun _ b _ => hA b
  mv := fun e s' w' h1 h2 h3 => ⟨{ w := w', s := s', tgt := e.tgt, fuel := e.fuel, inv := h3, size := Nat.le_trans e.size h1, old := fun b hb hs => (h2 b (Nat.lt_of_lt_of_le hb e.size) (fun hm => by have := hm.1; omega) hs).trans (e.old b hb hs), run := e.run }, rfl, rfl, rfl, rfl, rfl, rfl, rfl, fun b => by
    show (base.heap.size ≤ b ∧ b < w'.heap.size) ↔ ((base.heap.size ≤ b ∧ b < e.w.heap.size) ∨ (e.w.heap.size ≤ b ∧ b < w'.heap.size))
    have := e.size
    have h1 : e.w.heap.size ≤ w'.heap.size := h1
    constructor
    · rintro ⟨a, b'⟩
      by_cases hb : b < e.w.heap.size
      · exact .inl ⟨a, hb⟩
      · exact .inr ⟨by omega, b'⟩
    · rintro (⟨a, b'⟩ | ⟨a, b'⟩)
      · exact ⟨a, by omega⟩
      · exact ⟨by omega, b'⟩⟩
  step := fun e d ht fr l _ _ hk => qu_step hP e d ht fr l hk
variable {b : Frame} {a : Act} {k : List Item} {ops : Array Oper} {i : Nat} {rest : List Nat} {o : Oper} {w : World}
theorem Walk.callQu {f : FuncId} {fn : Func} {args : Array Operand} {ats : Array TypeId} (hP : ∀ n s d, P n (s, .inr d) → ∃ n', n' < n ∧ P n' (L.act s d)) (N : Nat) (s : L.Sg) (r0 : Ans ⊕ L.D) (hA : ∀ b, Apart V b) (hI : L.I s w) (h0 : P N (s, r0)) (Q : (K : Lg L .nilIface) → Value → K.E → Prop)
    (hc : ∀ (K : Lg L .nilIface) (e : K.E), K.tgt e = (K.s e, r0) → SCall K.toLb f (args.map a.eval) e (Q K))
    (ho : ops[i]? = some o) (hw : Region.wanted o (yielded ops a.tmps) = true) (hk : b.kind ≠ .early) (hop : o.op = .call { callee := .value (.func f), args, argTypes := ats })
    (hf : Try.prog.funcs[f]? = some fn) (hname : (fn.name == "runtime.NumGoroutine") = false) (hb : fn.body.isNone = false) (hp : Plain (b.at a (.inRegion ops (i :: rest) :: k)))
    (h : ∀ v (e' : QuE L w P), Q (quL (V := V) (base := w) hP hA (fun b h => L.lt hI h) main Stop cs) v e' → Walk Try.prog main (DR V) Stop (G (b.at (a.put o.dst v) (.inRegion ops rest :: k)) cs) e'.w) :
    Walk Try.prog main (DR V) Stop (G (b.at a (.inRegion ops (i :: rest) :: k)) cs) w := by
  refine Walk.callE ho hw hk hop hf hname hb ?_
  have key := hc (quL (V := V) (base := w) hP hA (fun b h => L.lt hI h) main Stop cs) { w := w, s := s, tgt := (s, r0), fuel := N, inv := hI, size := Nat.le_refl _, old := fun _ _ _ => rfl, run := h0 } rfl (b.at a (.inRegion ops (i :: rest) :: k)) [] hp (fun _ h => by cases h) ?_
  · exact key
  · intro v e' hq
    have := h v e' hq
    rw [Frame.finish_at, ho]
    exact this
end
def stL (s : Sp) (m : Nat) : List Int := (List.range m).map s
theorem stL_succ (s : Sp) (k : Nat) : stL s (k + 1) = stL s k ++ [s k] := by simp [stL, List.range_succ]
theorem stL_get (s : Sp) (m k : Nat) (hk : k < m) : (stL s m).getD k 0 = s k := by simp [stL, List.getD_eq_getElem?_getD, hk]
def evP (m : Nat) (s : Sp) (n : Nat) (t : Sp × (Ans ⊕ SD)) : Prop :=
  t.1 = s ∧ ((∃ k, k ≤ m ∧ t.2 = dE m k (stL s k) ∧ n = 2 * m + 1 - k) ∨ (∃ k, k < m ∧ t.2 = .inr (.e2 k (stL s m)) ∧ n = m - k) ∨ ∃ a, t.2 = .inl a)
theorem evP_two {m : Nat} (s : Sp) (k : Nat) (hk : k < m) (n : Nat) (hn : m - k ≤ n) : ∃ n', n' < n ∧ evP m s n' (spAct m s (.e2 k (stL s m))) := by
  have h : spAct m s (.e2 k (stL s m)) = (s, if k + 1 = m then .inl (true, sumZ (stL s m)) else .inr (.e2 (k + 1) (stL s m))) := by
    simp only [spAct, stL_get s m k hk, ne_eq, not_true_eq_false, if_false]
  rw [h]
  refine ⟨m - (k + 1), by omega, rfl, .inr ?_⟩
  by_cases hm : k + 1 = m
  · exact .inr ⟨_, if_pos hm⟩
  · exact .inl ⟨k + 1, by omega, if_neg hm, rfl⟩
theorem evP_step {m : Nat} (hm : 0 < m) (s : Sp) (n : Nat) (s' : Sp) (d : SD) (h : evP m s n (s', .inr d)) : ∃ n', n' < n ∧ evP m s n' (spAct m s' d) := by
  obtain ⟨h0, h1⟩ := h
  replace h0 : s' = s := h0
  subst h0
  rcases h1 with ⟨k, hk, e, rfl⟩ | ⟨k, hk, e, rfl⟩ | ⟨a, e⟩
  · replace e : Sum.inr d = dE m k (stL s' k) := e
    unfold dE at e
    by_cases hkm : k = m
    · rw [if_pos hkm] at e
      cases e
      subst hkm
      exact evP_two s' 0 hm _ (by omega)
    · rw [if_neg hkm] at e
      cases e
      have h : spAct m s' (.e1 k (stL s' k)) = (s', dE m (k + 1) (stL s' (k + 1))) := by rw [stL_succ]; rfl
      rw [h]
      exact ⟨2 * m + 1 - (k + 1), by omega, rfl, .inl ⟨k + 1, by omega, rfl, rfl⟩⟩
  · cases e
    exact evP_two s' k hk _ (Nat.le_refl _)
  · cases e
theorem evP_end {m : Nat} {s s' : Sp} {n : Nat} {l : List Int} (h : evP m s n (s', dE m m l)) : l = stL s m ∧ s' = s := by
  obtain ⟨h0, h1⟩ := h
  refine ⟨?_, h0⟩
  have e0 : dE m m l = .inr (.e2 0 l) := if_pos rfl
  rw [e0] at h1
  rcases h1 with ⟨k, hk, e, _⟩ | ⟨k, hk, e, _⟩ | ⟨a, e⟩
  · unfold dE at e
    by_cases hkm : k = m
    · rw [if_pos hkm] at e
      cases e
      rw [hkm]
    · rw [if_neg hkm] at e
      cases e
  · cases e; rfl
  · cases e
noncomputable def reg21_0 := rg Try.f21.body [0]
noncomputable def reg21_1 := rg Try.f21.body [1, 0]
theorem z21 : List.range reg21_0.size = [0] ∧ List.range reg21_1.size = [0, 1, 2] := by refine ⟨?_, ?_⟩ <;> kernel_rfl
theorem code21_is : Try.f21.body = some (.seq (.region 0 reg21_0 false) (.seq (.region 1 reg21_1 false) (.ret))) := by kernel_rfl
structure AllOut (cb rb m : Nat) (ra : Option Addr) (rc : Nat) (s : Sp) (w : World) (v : Value) (w' : World) : Prop where
  row : ∃ B, v = .slice (some ⟨B, 0, none⟩) m m ∧ w.heap.size ≤ B ∧ B < w'.heap.size ∧ Told w' B m (stL s m)
  I : SpI cb rb m ra rc s w'
  old : ∀ b, b < w.heap.size → ¬ (b = cb ∨ (1 < m ∧ b = rb)) → w'.heap[b]? = w.heap[b]?
  size : w.heap.size ≤ w'.heap.size
section
variable {main : Bool} {V : Nat → Option Wait} {cb rb m : Nat} {ra : Option Addr} {rc : Nat}
theorem all_w (hA : ∀ b, Apart V b) (s : Sp) (w : World) (I : SpI cb rb m ra rc s w) : CallW Try.prog main V 21 #[.pointer (some ⟨cb, 0, none⟩)] w (AllOut cb rb m ra rc s w) := by
  intro c cs
  have hm0 := I.pos.1
  rw [enter_at _ Try.func21 code21_is]
  simp only [Try.ntmps21, ez, Nat.reduceAdd, Nat.reduceSub]
  repeat (first | refine Walk.cx ?_ | (refine Walk.cReg ?_; simp only [z21]) | (refine Walk.oq ?_; try walk_nrm) | (refine Walk.un ?_; walk_nrm))
  refine Walk.callQu (L := spLa cb rb m ra rc) (P := evP m s) (fun n s' d h => evP_step hm0 s n s' d h) (2 * m + 1) s (dE m 0 []) hA I ⟨rfl, .inl ⟨0, by omega, rfl, by omega⟩⟩ (fun K => EachOut K (dE m)) (f := 36) ?_ (ho_of (by conv => lhs; whnf) (by kernel_rfl)) (by rfl) (by decide) rfl Try.func36 (by kernel_rfl) (by rfl) ⟨rfl, rfl, _, Try.func21⟩ ?_
  · intro K e ht
    walk_nrm
    exact loadAll_s K (dE m) .e1 (fun k l hk => if_neg (by omega)) (fun _ _ _ => rfl) e ht
  rintro v e ⟨B, l, rfl, hl, hmB, hT, ht⟩
  have hr := e.run
  have ht : e.tgt = (e.s, dE m m l) := ht
  rw [ht] at hr
  obtain ⟨rfl, hs⟩ := evP_end hr
  have hI : SpI cb rb m ra rc s e.w := by have := e.inv; rw [hs] at this; exact this
  have hT : Told e.w B m (stL s m) := hT
  have hB : w.heap.size ≤ B ∧ B < e.w.heap.size := hmB
  have ho := e.old
  have hz := e.size
  walk_nrm
  generalize e.w = w1 at *
  repeat (first | refine Walk.cx ?_ | (refine Walk.cReg ?_; simp only [z21]) | (refine Walk.oq ?_; try walk_nrm) | (refine Walk.un ?_; walk_nrm))
  exact Walk.on1 rfl rfl Try.func21 rfl (.stop fun d => ⟨_, ⟨⟨B, rfl, hB.1, hB.2, hT⟩, hI.old fun _ _ => rfl, ho, hz⟩, rfl⟩)
end
end
section
variable {main : Bool} {V : Nat → Option Wait}
theorem end_zero (B : Nat) (c : Frame) (cs : List Frame) (w : World) (h0 : w.cell? ⟨B, 0, none⟩ = some (.slice none 0 0)) :
    Walk Try.prog main (DR V) (fun g w' => g = G (c.finish (.slice (some ⟨w.heap.size, 0, none⟩) 0 0)) cs ∧ ∃ d, w' = (w.alloc (.cells (madeCells #[.bool false] 0) 4)).at d) (G (Frame.enter Try.prog 65 #[.pointer (some ⟨B, 0, none⟩)] .normal) (c :: cs)) w := by
  rw [enter_at _ Try.func65 rfl]
  simp only [Try.f65, ez, Nat.reduceAdd, Nat.reduceSub]
  repeat (first | refine Walk.cx ?_ | refine Walk.cR ?_ | (refine Walk.oq ?_; try walk_nrm) | (refine Walk.un ?_; walk_nrm))
  have hi4 := Option.some_get (show (Try.prog.info? 4).isSome = true by kernel_rfl)
  refine Walk.make 98 (.tmp 10) (.tmp 10) rfl (by rfl) (by decide) rfl 4 _ (.bool false) 1 1 (by kernel_rfl) hi4.symm (by rfl) (by rfl) (by rfl) 0 (by rfl) (by rfl) (by omega) (by omega) ?_
  have h0' := cell_alloc w (.cells (madeCells #[.bool false] 0) 4) h0
  walk_nrm
  simp only [Value.cells, Nat.mul_one]
  repeat (first | refine Walk.cx ?_ | refine Walk.cR ?_ | (refine Walk.oq ?_; try walk_nrm) | (refine Walk.un ?_; walk_nrm))
  refine Walk.ctl rfl (fun w => stepG_loop) ?_
  repeat (first | refine Walk.cx ?_ | refine Walk.cR ?_ | (refine Walk.oq ?_; try walk_nrm) | (refine Walk.un ?_; walk_nrm))
  exact (Walk.ret1 (Post := fun v w' => v = .slice (some ⟨w.heap.size, 0, none⟩) 0 0 ∧ ∃ d, w' = (w.alloc (.cells (madeCells #[.bool false] 0) 4)).at d) rfl rfl Try.func65 rfl fun d => ⟨by simp, d, rfl⟩).mono fun g w' ⟨v, ⟨e, d, e'⟩, hg⟩ => ⟨by rw [hg, e], d, e'⟩
end
section
section
variable {main : Bool} {V : Nat → Option Wait}
theorem begin_zero' (B tc : Nat) (ta : Option Addr) (c : Frame) (cs : List Frame) (w : World) (h0 : w.cell? ⟨B, 0, none⟩ = some (.slice none 0 0)) :
    Walk Try.prog main (DR V) (fun g w' => g = G (c.finish (.tuple #[])) cs ∧ ∃ d, w' = w.at d) (G (Frame.enter Try.prog 63 #[.pointer (some ⟨B, 0, none⟩), .slice ta 0 tc] .normal) (c :: cs)) w := by
  rw [enter_at _ Try.func63 rfl]
  simp only [Try.f63, ez, Nat.reduceAdd, Nat.reduceSub]
  repeat (first | refine Walk.cx ?_ | refine Walk.cR ?_ | (refine Walk.oq ?_; try walk_nrm) | (refine Walk.un ?_; walk_nrm))
  refine Walk.ctl rfl (fun w => stepG_loop) ?_
  repeat (first | refine Walk.cx ?_ | refine Walk.cR ?_ | (refine Walk.oq ?_; try walk_nrm) | (refine Walk.un ?_; walk_nrm))
  exact Walk.ctl rfl (fun w => stepG_leave rfl rfl Try.func63 (results_none rfl _ _ w) (events_results_none rfl _ _)) (.stop fun d => ⟨rfl, d, rfl⟩)
theorem over_zero' (sa : Option Addr) (m sc tc : Nat) (ta : Option Addr) (most : Int) (og : Value) (c : Frame) (cs : List Frame) (w : World) (hog : CallV Try.prog main V 61 #[og] w (.slice ta 0 tc) w)
    (hs : 0 < m → ∃ s so x, sa = some ⟨s, so, none⟩ ∧ w.cell? ⟨s, so, none⟩ = some (.int .i64 x)) :
    Walk Try.prog main (DR V) (fun g w' => g = G (c.finish (.tuple #[.slice none 0 0, .bool false, .slice (some ⟨w.heap.size + 1, 0, none⟩) 0 0])) cs ∧ ∃ d, w' = ((turnW w 0 most).alloc (.cells (madeCells #[.bool false] 0) 4)).at d)
      (G (Frame.enter Try.prog 47 #[og, .slice sa m sc, .int .i64 most] .normal) (c :: cs)) w := by
  have hs1 : (turnW w 0 most).heap.size = w.heap.size + 1 := by simp [turnW]
  have ht : ∀ i, (turnW w 0 most).cell? ⟨w.heap.size, i, none⟩ = (#[.slice none 0 0, .int .i64 (0 : Nat), .int .i64 (min (max most 0) 1048576), .slice none 0 0] : Array Value)[i]? := fun i => cell_of (heap_alloc_new w _) i
  have t0 := (ht 0).trans rfl
  have t1 := (ht 1).trans rfl
  have t2 := (ht 2).trans rfl
  have t3 := (ht 3).trans rfl
  clear ht
  refine (over_in 0 tc m sc ta sa og most (c :: cs) w hog (nt_in 0 tc ta most (fr23t 0 tc m sc ta sa og most :: c :: cs) w)).then ?_
  rintro _ _ ⟨rfl, d1, rfl⟩
  refine Walk.back ?_ d1
  refine (nt_out w.heap.size 0 tc ta most _ (fr23t 0 tc m sc ta sa og most) (c :: cs) _).then ?_
  rintro _ _ ⟨rfl, d2, rfl⟩
  refine Walk.back ?_ d2
  refine (over_begin w.heap.size 0 tc m sc ta sa og most (c :: cs) _ (begin_zero' w.heap.size tc ta _ (c :: cs) _ t0)).then ?_
  rintro _ _ ⟨rfl, d3, rfl⟩
  refine Walk.back ?_ d3
  refine (over_follow w.heap.size 0 tc m sc ta sa og most (c :: cs) _ (follow_in w.heap.size sa m sc _ _)).then ?_
  rintro _ _ ⟨⟨u4, rfl⟩, d4, rfl⟩
  refine Walk.back ?_ d4
  have back : Walk Try.prog main (DR V) (fun g w' => g = G ((fr23b w.heap.size 0 tc m sc ta sa og most).finish (.tuple #[])) (c :: cs) ∧ ∃ d, w' = (turnW w 0 most).at d) (G (hd55 w.heap.size sa m sc 0 u4) (fr23b w.heap.size 0 tc m sc ta sa og most :: c :: cs)) (turnW w 0 most) := by
    rcases Nat.eq_zero_or_pos m with hm | hm
    · subst hm
      refine (follow_past w.heap.size sa 0 sc u4 _ _).then ?_
      rintro _ _ ⟨⟨u5, rfl⟩, d5, rfl⟩
      refine Walk.back ?_ d5
      exact round_over w.heap.size sa 0 sc (0 : Nat) _ none 0 0 u5 _ (c :: cs) _ t1 t2 t3 (by simp)
    · obtain ⟨s, so, x, rfl, hc⟩ := hs hm
      refine follow_over w.heap.size s so m sc 0 x (0 : Nat) _ none 0 0 u4 _ (c :: cs) _ hm ?_ t1 t2 t3 (by simp)
      exact cell_alloc w _ hc
  refine back.then ?_
  rintro _ _ ⟨rfl, d5, rfl⟩
  refine Walk.back ?_ d5
  refine (over_end w.heap.size 0 tc m sc ta sa og most (0 : Nat) (c :: cs) _ t1 (end_zero w.heap.size _ (c :: cs) _ t0)).then ?_
  rintro _ _ ⟨rfl, d6, rfl⟩
  refine Walk.back ?_ d6
  have t3' := cell_alloc _ (.cells (madeCells #[.bool false] 0) 4) t3
  rw [hs1]
  refine (over_out w.heap.size (w.heap.size + 1) 0 tc m sc ta sa og most (0 : Nat) none 0 0 c cs _ t3').mono ?_
  rintro _ _ ⟨rfl, d7, rfl⟩
  exact ⟨by simp, d7, rfl⟩
theorem huOpsS : Try.prog.underlying 23 = some (.slice 34) := by kernel_rfl
theorem firstOps_some (a : Option Addr) (m cap : Nat) (w : World) (hm : m ≤ cap) (ha : a = none ∧ cap = 0 ∨ ∃ p, a = some p) : CallV Try.prog main V 58 #[.slice a m cap] w (.slice a (min m 64) cap) w := by
  refine callW_in Try.func58 rfl fun fr cs => ?_
  simp only [Try.ntmps58, ez, Nat.reduceAdd, Nat.reduceSub]
  have hmn := @events_min_ints Try.prog
  repeat (first | refine Walk.cx ?_ | refine Walk.cR ?_ | (refine Walk.oq ?_; try walk_nrm) | (refine Walk.un ?_; walk_nrm))
  have hmin : min (m : Int) 64 = ((min m 64 : Nat) : Int) := by omega
  rw [hmin]
  have hxl : min m 64 ≤ cap := by omega
  generalize min m 64 = x at hxl ⊢
  have hi := Option.some_get (show (Try.prog.info? 34).isSome = true by kernel_rfl)
  have hs := fun w => (run_slx huOpsS hi.symm a m cap x hxl ha w #[]).1
  have hse := fun w es => (run_slx huOpsS hi.symm a m cap x hxl ha w es).2
  clear hi
  repeat (first | refine Walk.cx ?_ | refine Walk.cR ?_ | (refine Walk.oq ?_; try walk_nrm) | (refine Walk.un ?_; walk_nrm))
  exact Walk.ret1 rfl rfl Try.func58 rfl fun d => ⟨by simp, d, rfl⟩
end
theorem playO_zero (L : La) (s0 : L.Sg) (ops : Nat → List OpV) (most : Int) (sl : List Int) : playO L s0 ops 0 most sl = (x0O L s0, []) := by
  have hov : overA (absO L 0 (min (max most 0) 1048576) ops) (x0O L s0, []) = true := rfl
  have hst : ∀ z, stepA (absO L 0 (min (max most 0) 1048576) ops) (x0O L s0, []) z = (x0O L s0, []) := fun z => by
    unfold stepA
    rw [hov]
    exact if_neg fun h => by cases h.1
  have hfold : ∀ l : List Int, l.foldl (stepA (absO L 0 (min (max most 0) 1048576) ops)) (x0O L s0, []) = (x0O L s0, []) := fun l => by
    induction l with
    | nil => rfl
    | cons z l ih => rw [List.foldl_cons, hst, ih]
  show restA _ _ (sl.foldl _ (x0O L s0, [])) = _
  rw [hfold]
  generalize (absO L 0 (min (max most 0) 1048576) ops).most.toNat = f
  cases f with
  | zero => rfl
  | succ f =>
    unfold restA
    rw [hov]
    rfl
section
variable {L : La} {fdo : FuncId} {first cap : Array Value}
theorem ops_any (hD : DoFn L fdo first cap) (s0 : L.Sg) (tv : Value) (most : Int) (ta : Option Addr) (tb toff tc n : Nat) (hta : 0 < n → ta = some ⟨tb, toff, none⟩) (hn : n ≤ 64) (oa : Nat → Option Addr) (ln oc : Nat → Nat) (ops : Nat → List OpV) (sa : Option Addr) (sc : Nat) (sl : List Int) (hsl : sl.length ≤ 17592186044416) (c : Frame) (cs : List Frame) (w : World)
    (I : OpsIn tb toff n oa ln oc ops w) (hI : L.I s0 w) (hns : ∀ i, i < n → ∀ (j : Nat) (o : OpV), (ops i)[j]? = some o → ∀ b off, oa i = some ⟨b, off, none⟩ → ¬ L.sh b)
    (hsc : ∀ (j : Nat) (z : Int), sl[j]? = some z → ∃ s so, sa = some ⟨s, so, none⟩ ∧ w.cell? ⟨s, so + j, none⟩ = some (.int .i64 z) ∧ ¬ L.sh s)
    (hp : ∀ w' : World, (∀ b, b < w.heap.size → w'.heap[b]? = w.heap[b]?) → CallV Try.prog true (fun _ => none) 58 #[tv] w' (.slice ta n tc) w') :
    Runs (fun g w' => ∃ cells, OpsOut L s0 ops n most sl w w' cells ∧ g = G (c.finish (.agg cells)) cs) (G (Frame.enter Try.prog 31 #[tv, .func (.func fdo) first cap, .slice sa sl.length sc, .int .i64 most] .normal) (c :: cs)) w := by
  rcases Nat.eq_zero_or_pos n with h0 | h1
  · subst h0
    have hA : ∀ b, Apart (fun _ => none) b := fun b => ⟨fun _ _ _ _ h => (by cases h), fun _ _ h => (by cases h)⟩
    refine Runs.walk (ops_in fdo first cap tv (.slice sa sl.length sc) most ta tb toff tc 0 hta hn oa ln oc ops c cs w I (fun b _ => hA b) hp) ?_
    rintro _ w2 ⟨fr, w1, rfl, o1, s1, hT, M, hB⟩
    have s2 : w2.heap.size = w.heap.size + 1 + 4 + 2 * 0 := M.size
    have hN := M.cN
    have o2 : ∀ b, b < w.heap.size + 1 → w2.heap[b]? = w1.heap[b]? := fun b hb => M.old b hb
    have hc2 : ∀ {b j : Nat} {v : Value}, w.cell? ⟨b, j, none⟩ = some v → w2.cell? ⟨b, j, none⟩ = some v := fun {b j v} h => (World.cell?_of_block (a := ⟨b, j, none⟩) ((o2 b (by have := cell_lt' h; omega)).trans (o1 b (cell_lt' h)))).trans h
    refine Runs.walk (over_zero' sa sl.length sc 0 (some ⟨w.heap.size + 4, 0, none⟩) most _ fr (c :: cs) w2 ?_ fun h => ?_) ?_
    · have := first_some (main := true) (V := fun _ => none) (w.heap.size + 4) 0 0 w2 (Nat.le_refl _)
      simpa using this
    · obtain ⟨s, so, e, hc, _⟩ := hsc 0 (sl[0]'h) (List.getElem?_eq_getElem h)
      exact ⟨s, so, _, e, hc2 hc⟩
    rintro _ _ ⟨rfl, d, rfl⟩
    have o3 : ∀ b, b < w2.heap.size → ((turnW w2 0 most).alloc (.cells (madeCells #[.bool false] 0) 4)).heap[b]? = w2.heap[b]? := fun b hb => by
      rw [heap_new_lt _ _ (by simp [turnW]; omega)]
      exact heap_new_lt _ _ hb
    have s3 : w2.heap.size ≤ ((turnW w2 0 most).alloc (.cells (madeCells #[.bool false] 0) 4)).heap.size := by simp [turnW]; omega
    generalize (turnW w2 0 most).alloc (.cells (madeCells #[.bool false] 0) 4) = w3 at *
    have hT3 : (w3.at d).heap[w.heap.size]? = some (.cells #[.slice none 0 0, .slice none 0 0, .slice none 0 0, .bool false] 31) := (o3 _ (by omega)).trans ((o2 _ (by omega)).trans hT)
    refine Runs.walk (hB none 0 0 _ false _ hT3 (hA _)) ?_
    rintro _ _ ⟨rfl, d', rfl⟩
    have hset : ∀ b, b ≠ w.heap.size → ((w3.at d).setRow w.heap.size #[.slice (some ⟨w.heap.size + 2, 0, none⟩) 0 0, .slice none 0 0, .slice none 0 0, .bool false]).heap[b]? = w3.heap[b]? := fun b hb => setRow_other _ _ hb
    have hold : ∀ b, b < w.heap.size → ((w3.at d).setRow w.heap.size #[.slice (some ⟨w.heap.size + 2, 0, none⟩) 0 0, .slice none 0 0, .slice none 0 0, .bool false]).heap[b]? = w.heap[b]? := fun b hb => (hset b (by omega)).trans ((o3 b (by omega)).trans ((o2 b (by omega)).trans (o1 b hb)))
    have e1 : (playO L s0 ops 0 most sl).2 = [] := by rw [playO_zero]
    have e2 : (playO L s0 ops 0 most sl).1 = x0O L s0 := by rw [playO_zero]
    refine .now ⟨_, ⟨⟨w.heap.size + 2, none, 0, fun _ => .slice none 0 0, madeCells #[.slice none 0 0] 0, ?_, ?_, by omega, ?_, fun i hi => absurd hi (Nat.not_lt_zero _), fun i hi => absurd hi (Nat.not_lt_zero _)⟩, ?_, fun b hb _ => hold b hb, ?_⟩, rfl⟩
    · rw [e1, e2]; rfl
    · rw [e1]; exact ⟨rfl, .inl ⟨rfl, rfl⟩⟩
    · exact (hset _ (by omega)).trans ((o3 _ (by omega)).trans hN)
    · rw [e2]
      exact L.stable hI fun b h => hold b (L.lt hI h)
    · show w.heap.size ≤ (World.setRow _ _ _).heap.size
      rw [setRow_size]
      show _ ≤ w3.heap.size
      omega
  · obtain rfl := hta h1
    exact ops_run hD s0 tv most tb toff tc n h1 hn oa ln oc ops sa sc sl hsl c cs w I hI hns hsc hp
end
end
end Go.Proofs.Ytnnakajldnaldaa
