/- Part 25. -/
import Derived.Test.YtjenoiekfkhafaaJ9
import Derived.Test.YtjenoiekfkhafaaJ10
import Derived.Test.YtjenoiekfkhafaaJ11
import Derived.Test.YtjenoiekfkhafaaJ13
import Derived.Test.YtjenoiekfkhafaaJ24
set_option linter.unusedSimpArgs false
set_option linter.unusedVariables false
set_option linter.unusedVariables false
set_option maxHeartbeats 8000000
set_option maxRecDepth 100000
namespace Go.Proofs.Ytjenoiekfkhafaa
open Go.Conc Go.RowKit Go.Relay
open Go.ConcN (upd upd_ne upd_same)
section
def runN (L : La) : Nat → L.Sg × (Ans ⊕ L.D) → Option (L.Sg × Ans)
 | _, (s, .inl a) => some (s, a)
 | 0, (_, .inr _) => none
 | n + 1, (s, .inr d) => runN L n (L.act s d)
theorem runN_inl (L : La) (n : Nat) (s : L.Sg) (a : Ans) : runN L n (s, .inl a) = some (s, a) := by cases n <;> rfl
theorem undStepperN : ∃ ms, Try.prog.underlying 90 = some (.interface ms) := by
 have h : (match Try.prog.underlying 90 with | some (.interface _) => true | _ => false) = true := by kernel_rfl
 revert h
 cases Try.prog.underlying 90 with
 | none => simp
 | some d =>
  cases d with
  | interface fs => exact fun _ => ⟨fs, rfl⟩
  | _ => simp
structure NilE (L : La) (y0 : L.Gh) (base : World) (R : L.Sg × Ans) where
 w : World
 y : L.Gh
 s : L.Sg
 tgt : L.Sg × (Ans ⊕ L.D)
 fuel : Nat
 le : L.le y0 y
 inv : L.I y s w
 size : base.heap.size ≤ w.heap.size
 old : ∀ b, b < base.heap.size → ¬ L.sh y0 b → w.heap[b]? = base.heap[b]?
 pub : ∀ b, L.sh y b → b < base.heap.size → L.sh y0 b
 run : runN L fuel tgt = some R
section
variable {L : La} {main : Bool} {V : Nat → Option Wait} {Stop : Goroutine → World → Prop} {cs : List Frame} {y0 : L.Gh} {base : World} {R : L.Sg × Ans}
def nilB (main : Bool) (V : Nat → Option Wait) (Stop : Goroutine → World → Prop) (cs : List Frame) (y0 : L.Gh) (base : World) (R : L.Sg × Ans) : Lb L where
 main := main
 E := NilE L y0 base R
 V := fun _ => V
 Stop := fun _ => Stop
 bot := fun _ => cs
 w := fun e => e.w
 s := fun e => e.s
 gh := fun e => e.y
 tgt := fun e => e.tgt
 fuel := fun e => e.fuel
 mine := fun e b => (base.heap.size ≤ b ∧ b < e.w.heap.size) ∧ ¬ L.sh e.y b
theorem nil_step (e : NilE L y0 base R) (d : L.D) (ht : e.tgt = (e.s, .inr d)) (fr : Frame) (l : List Frame) (hk : ∀ e' : NilE L y0 base R, Aft (nilB main V Stop cs y0 base R) e d e' → LW (nilB main V Stop cs y0 base R) e' (G (fr.finish (.tuple #[])) (l ++ cs))) :
  LW (nilB main V Stop cs y0 base R) e (G (Frame.enter Try.prog 56 #[.nilIface] .normal) (fr :: (l ++ cs))) := by
 obtain ⟨ms, hu⟩ := undStepperN
 have hn1 := fun w => run_neq_nilIface (P := Try.prog) (w := w) 90 hu
 have hn2 := fun w es => ev_neq_nilIface (P := Try.prog) (w := w) 90 es hu
 obtain ⟨n, hn, hr⟩ : ∃ n, e.fuel = n + 1 ∧ runN L n (L.act e.s d) = some R := by
  have h := e.run
  rw [ht] at h
  cases hf : e.fuel with
  | zero => rw [hf] at h; cases h
  | succ n => rw [hf] at h; exact ⟨n, rfl, h⟩
 have hh := hk { w := e.w, y := e.y, s := e.s, tgt := L.act e.s d, fuel := n, le := e.le, inv := e.inv, size := e.size, old := e.old, pub := e.pub, run := hr } ⟨rfl, show n < e.fuel by omega, L.refl _, Nat.le_refl _, fun b h => ⟨h, rfl⟩⟩
 unfold LW at hh ⊢
 show Walk Try.prog main (DR V) Stop _ e.w
 replace hh : Walk Try.prog main (DR V) Stop (G (fr.finish (.tuple #[])) (l ++ cs)) e.w := hh
 rw [enter_at _ Try.func56 code56_is]
 simp only [Try.ntmps56, ez, Nat.reduceAdd, Nat.reduceSub]
 refine Walk.gz z56 ?_
 exact Walk.on0 rfl rfl Try.func56 rfl hh
theorem nil_mine {y0 y' : L.Gh} {base : World} {e : NilE L y0 base R} {w' : World} {b : Nat} (hle : L.le e.y y') (hs : e.w.heap.size ≤ w'.heap.size) : ((base.heap.size ≤ b ∧ b < w'.heap.size) ∧ ¬ L.sh y' b) ↔ ((((base.heap.size ≤ b ∧ b < e.w.heap.size) ∧ ¬ L.sh e.y b) ∨ (e.w.heap.size ≤ b ∧ b < w'.heap.size)) ∧ ¬ L.sh y' b) := by
 have := e.size
 constructor
 ·rintro ⟨⟨a, b'⟩, hn⟩
  refine ⟨?_, hn⟩
  by_cases hb : b < e.w.heap.size
  ·exact .inl ⟨⟨a, hb⟩, fun h => hn (L.mono hle h)⟩
  ·exact .inr ⟨by omega, b'⟩
 ·rintro ⟨⟨⟨a, b'⟩, _⟩ | ⟨a, b'⟩, hn⟩
  ·exact ⟨⟨a, by omega⟩, hn⟩
  ·exact ⟨⟨by omega, b'⟩, hn⟩
def nilL (hA : ∀ b, Apart V b) (main : Bool) (Stop : Goroutine → World → Prop) (cs : List Frame) (y0 : L.Gh) (base : World) (R : L.Sg × Ans) : Lg L .nilIface where
 toLb := nilB main V Stop cs y0 base R
 one := rfl
 inv := fun e => e.inv
 shA := fun _ b _ => hA b
 mineA := fun e b h => ⟨hA b, h.2, h.1.2⟩
 newA := fun _ b _ => hA b
 mg := fun e y' s' w' h0 h1 h2 h3 h4 => ⟨{ w := w', y := y', s := s', tgt := e.tgt, fuel := e.fuel, le := L.trans e.le h0, inv := h3, size := Nat.le_trans e.size h1, old := fun b hb hs => (h2 b (Nat.lt_of_lt_of_le hb e.size) (fun hm => by have := hm.1.1; omega) (fun hm => hs (e.pub b hm hb))).trans (e.old b hb hs), pub := fun b hb hlt => (h4 b hb).elim (fun h => e.pub b h hlt) fun h => h.elim (fun h => absurd h.1.1 (Nat.not_le_of_lt hlt)) fun h => absurd (Nat.le_trans e.size h) (Nat.not_le_of_lt hlt), run := e.run }, rfl, rfl, rfl, rfl, rfl, rfl, rfl, rfl, fun b => nil_mine h0 h1⟩
 step := fun e d ht fr l _ _ hk => nil_step e d ht fr l hk
structure Lone (L : La) (y0 : L.Gh) (w : World) (R : L.Sg × Ans) (w' : World) (y : L.Gh) : Prop where
 le : L.le y0 y
 I : L.I y R.1 w'
 size : w.heap.size ≤ w'.heap.size
 old : ∀ b, b < w.heap.size → ¬ L.sh y0 b → w'.heap[b]? = w.heap[b]?
 pub : ∀ b, L.sh y b → b < w.heap.size → L.sh y0 b
variable {b : Frame} {a : Act} {k : List Item} {ops : Array Oper} {i : Nat} {rest : List Nat} {o : Oper} {w : World}
theorem Walk.callLone {f : FuncId} {fn : Func} {args : Array Operand} {ats : Array TypeId} {Rel : Value → Ans → World → (Nat → Prop) → Prop} (N : Nat) (y0 : L.Gh) (s : L.Sg) (r0 : Ans ⊕ L.D) (hA : ∀ b, Apart V b) (hI : L.I y0 s w) (hrun : runN L N (s, r0) = some R)
  (hc : ∀ (K : Lg L .nilIface) (e : K.E), K.tgt e = (K.s e, r0) → SCall K.toLb f (args.map a.eval) e (fun v e' => ∃ x, Rel v x (K.w e') (K.mine e') ∧ K.tgt e' = (K.s e', .inl x)))
  (ho : ops[i]? = some o) (hw : Region.wanted o (yielded ops a.tmps) = true) (hk : b.kind ≠ .early) (hop : o.op = .call { callee := .value (.func f), args, argTypes := ats })
  (hf : Try.prog.funcs[f]? = some fn) (hname : (fn.name == "runtime.NumGoroutine") = false) (hb : fn.body.isNone = false) (hp : Plain (b.at a (.inRegion ops (i :: rest) :: k)))
  (h : ∀ v w' y, Rel v R.2 w' (fun b => (w.heap.size ≤ b ∧ b < w'.heap.size) ∧ ¬ L.sh y b) → Lone L y0 w R w' y → Walk Try.prog main (DR V) Stop (G (b.at (a.put o.dst v) (.inRegion ops rest :: k)) cs) w') :
  Walk Try.prog main (DR V) Stop (G (b.at a (.inRegion ops (i :: rest) :: k)) cs) w := by
 refine Walk.callE ho hw hk hop hf hname hb ?_
 have key := hc (nilL (V := V) hA main Stop cs y0 w R) { w := w, y := y0, s := s, tgt := (s, r0), fuel := N, le := L.refl _, inv := hI, size := Nat.le_refl _, old := fun _ _ _ => rfl, pub := fun _ h _ => h, run := hrun } rfl (b.at a (.inRegion ops (i :: rest) :: k)) [] hp (fun _ h => by cases h) ?_
 ·exact key
 ·rintro v e' ⟨x, hr, ht⟩
  have hrn := e'.run
  have ht : e'.tgt = (e'.s, .inl x) := ht
  rw [ht, runN_inl] at hrn
  have hR := Option.some.inj hrn
  have r1 : R.1 = e'.s := (congrArg Prod.fst hR).symm
  have r2 : R.2 = x := (congrArg Prod.snd hR).symm
  have := h v e'.w e'.y (by rw [r2]; exact hr) ⟨e'.le, by rw [r1]; exact e'.inv, e'.size, e'.old, e'.pub⟩
  rw [Frame.finish_at, ho]
  exact this
end
end
section
section
variable {main : Bool} {V : Nat → Option Wait}
theorem step_nil (w : World) : CallV Try.prog main V 56 #[.nilIface] w (.tuple #[]) w := by
 obtain ⟨ms, hu⟩ := undStepperN
 have hn1 := fun w => run_neq_nilIface (P := Try.prog) (w := w) 90 hu
 have hn2 := fun w es => ev_neq_nilIface (P := Try.prog) (w := w) 90 es hu
 refine callW_in Try.func56 code56_is fun fr cs => ?_
 simp only [Try.ntmps56, ez, Nat.reduceAdd, Nat.reduceSub]
 refine Walk.gz z56 ?_
 exact Walk.ret0 rfl rfl Try.func56 rfl fun d => ⟨rfl, d, rfl⟩
theorem store_nil (b q : Nat) (u : Value) (v : Int) (w : World) (hc : w.cell? ⟨b, q, none⟩ = some u) (hz : w.frozen? ⟨b, q, none⟩ = false) (hf : Free V ⟨b, q, none⟩) : CallV Try.prog main V 39 #[.pointer (some ⟨b, q, none⟩), .nilIface, .int .i64 v] w (.tuple #[]) (w.setCell ⟨b, q, none⟩ (.int .i64 v)) := by
 have hp1 := fun w => run_eql_ptr (P := Try.prog) 93 undWord (some ⟨b, q, none⟩) w
 have hp2 := fun w es => ev_eql_ptr (P := Try.prog) 93 undWord (some ⟨b, q, none⟩) w es
 simp only [Option.isNone_some] at hp1
 refine callW_in Try.func39 code39_is fun fr cs => ?_
 simp only [Try.ntmps39, ez, Nat.reduceAdd, Nat.reduceSub]
 refine Walk.gz z39 ?_
 refine Walk.callV (x := .tuple #[]) (W := w) ?_ hoA (by rfl) (by decide) rfl Try.func56 (by kernel_rfl) (by rfl) ?_
 ·walk_nrm
  exact step_nil w
 walk_nrm
 refine Walk.gz z39 ?_
 refine Walk.callV (x := .tuple #[]) (W := w.setCell ⟨b, q, none⟩ (.int .i64 v)) ?_ hoA (by rfl) (by decide) rfl Try.func57 (by kernel_rfl) (by rfl) ?_
 ·walk_nrm
  exact atStore b q u v w hc hz hf
 walk_nrm
 refine Walk.gz z39 ?_
 exact Walk.ret0 rfl rfl Try.func39 rfl fun d => ⟨rfl, d, rfl⟩
end
end
section
noncomputable def reg16_0 := rg Try.f16.body [0]
noncomputable def reg16_1 := rg Try.f16.body [1, 0]
noncomputable def reg16_2 := rg Try.f16.body [1, 1, 0, 0]
noncomputable def reg16_3 := rg Try.f16.body [1, 1, 0, 1, 0, 0, 0]
noncomputable def reg16_4 := rg Try.f16.body [1, 1, 0, 1, 0, 0, 1, 1, 0, 0, 0]
noncomputable def reg16_5 := rg Try.f16.body [1, 1, 0, 1, 0, 0, 1, 1, 0, 0, 1]
noncomputable def reg16_6 := rg Try.f16.body [1, 1, 0, 1, 0, 0, 1, 1, 1]
noncomputable def reg16_7 := rg Try.f16.body [1, 1, 1, 0]
theorem z16 : List.range reg16_0.size = [0] ∧ List.range reg16_1.size = [0, 1, 2, 3, 4, 5, 6, 7] ∧ List.range reg16_2.size = [0, 1, 2, 3, 4] ∧ List.range reg16_3.size = [0] ∧ List.range reg16_4.size = [0, 1, 2, 3, 4] ∧ List.range reg16_5.size = [0, 1, 2, 3, 4, 5, 6] ∧ List.range reg16_6.size = [0, 1] ∧ List.range reg16_7.size = [0, 1] := by refine ⟨?_, ?_, ?_, ?_, ?_, ?_, ?_, ?_⟩ <;> kernel_rfl
theorem code16_is : Try.f16.body = some (.seq (.region 0 reg16_0 false) (.seq (.region 1 reg16_1 false) (.seq (.seq (.region 2 reg16_2 false) (.block 0 (.loop (.seq (.region 3 reg16_3 false) (.seq (.cond (.tmp 18 ) (.skip) (.exit 0)) (.seq (.block 1 (.seq (.region 4 reg16_4 false) (.region 5 reg16_5 false))) (.region 6 reg16_6 false))))))) (.seq (.region 7 reg16_7 false) (.ret))))) := by kernel_rfl
noncomputable def hdNw (N B n j : Nat) (u : Nat → Value) : Frame :=
 (base 16).at { tmps := #[u 0, u 1, u 2, .pointer (some ⟨N, 0, none⟩), u 4, u 5, u 6, u 7, u 8, u 9, u 10, u 11, u 12, u 13, u 14, .slice (some ⟨B, 0, none⟩) n n, .int .i64 n, .int .i64 j, u 18, u 19, u 20, u 21, u 22, u 23, u 24, u 25, u 26, u 27, u 28, u 29, u 30], defers := [] } [.code (.seq (.region 3 reg16_3 false) (.seq (.cond (.tmp 18 ) (.skip) (.exit 0)) (.seq (.block 1 (.seq (.region 4 reg16_4 false) (.region 5 reg16_5 false))) (.region 6 reg16_6 false)))), .inLoop (.seq (.region 3 reg16_3 false) (.seq (.cond (.tmp 18 ) (.skip) (.exit 0)) (.seq (.block 1 (.seq (.region 4 reg16_4 false) (.region 5 reg16_5 false))) (.region 6 reg16_6 false)))), .inBlock 0, .code (.seq (.region 7 reg16_7 false) (.ret))]
def sqK (n : Nat) : Nat := min (max n 1) 16 - 1
theorem sqK_le (n : Nat) : sqK n ≤ 15 ∧ ((min (max n 1) 16 : Nat) : Int) = (sqK n : Int) + 1 := by unfold sqK; omega
def sqN (ls : List Int) (j : Nat) : Sq := ⟨0, fun i => if i < j then ls.getD i 0 else 0⟩
theorem sqN_put (ls : List Int) (j : Nat) {z : Int} (hz : ls[j]? = some z) : sqPutW (sqN ls j) j z = sqN ls (j + 1) := by
 unfold sqPutW sqN
 congr 1
 funext i
 by_cases e : i = j
 ·subst e
  rw [upd_same, if_pos (by omega), List.getD_eq_getElem?_getD, hz]
  rfl
 ·rw [upd_ne _ _ e]
  show (if i < j then ls.getD i 0 else 0) = (if i < j + 1 then ls.getD i 0 else 0)
  by_cases h : i < j
  ·rw [if_pos h, if_pos (by omega)]
  ·rw [if_neg h, if_neg (by omega)]
section
variable {main : Bool} {V : Nat → Option Wait}
structure NwI (w0 : World) (N B k : Nat) (ls : List Int) (j : Nat) (w : World) : Prop where
 I : SqI N k (sqN ls j) w
 num : NumB w B ls
 old : ∀ b, b < w0.heap.size → w.heap[b]? = w0.heap[b]?
 lo : w0.heap.size = N ∧ N < B ∧ B < w.heap.size
theorem NwI.at {w0 : World} {N B k : Nat} {ls : List Int} {j : Nat} {w : World} (h : NwI w0 N B k ls j w) (d : Nat) : NwI w0 N B k ls j (w.at d) := ⟨h.I.old rfl, h.num, h.old, h.lo⟩
theorem nw_in (w : World) (sl : Value) (vs : List Int) (hl : LsR sl vs w) (hv : vs.length ≤ 17592186044416) (hA : ∀ b, w.heap.size ≤ b → Apart V b) (cs : List Frame) :
  Walk Try.prog main (DR V) (fun g w' => ∃ B, (∃ u, g = G (hdNw w.heap.size B (sqK vs.length + 1) 0 u) cs) ∧ NwI w w.heap.size B (sqK vs.length) (padL (vs.take (sqK vs.length + 1)) (sqK vs.length + 1)) 0 w') (G (Frame.enter Try.prog 16 #[sl] .normal) cs) w := by
 have hls := hl
 obtain ⟨sa, sc, rfl, hc, hnn, hcells⟩ := hl
 obtain ⟨hk15, hkn⟩ := sqK_le vs.length
 have hmx := @events_max_ints Try.prog
 have hmn := @events_min_ints Try.prog
 have hq : min (max (vs.length : Int) 1) 16 = (sqK vs.length : Int) + 1 := by omega
 have hwh := fun w1 s (I : SqI w.heap.size (sqK vs.length) s w1) h1 h2 => whole_w (main := main) (V := V) w1 I (.slice sa vs.length sc) vs h1 h2
 have hpl : (padL (vs.take (sqK vs.length + 1)) (sqK vs.length + 1)).length = sqK vs.length + 1 := padL_len (by simp; omega)
 have hw1 : ∀ k : Nat, k ≤ 15 → IntKind.i64.wrap ((k : Int) + 1 - 1) = (k : Int) := fun k hk => by rw [IntKind.wrap_i64]; omega
 replace hw1 := hw1 _ hk15
 have hw2 : IntKind.i64.wrap (sqK vs.length : Int) = (sqK vs.length : Int) := by rw [IntKind.wrap_i64]; omega
 generalize padL (vs.take (sqK vs.length + 1)) (sqK vs.length + 1) = ls at *
 clear hcells hc hnn hkn hmn
 have hmn := @events_min_ints Try.prog
 generalize sqK vs.length = k at *
 rw [enter_at _ Try.func16 code16_is]
 simp only [Try.ntmps16, ez, Nat.reduceAdd, Nat.reduceSub]
 refine Walk.gz z16 ?_
 (refine Walk.oa ?_; try walk_nrm)
 have d1 := heap_alloc_new w (.cells #[.int .i64 0, .int .i64 0, .int .i64 0, .int .i64 0, .int .i64 0, .int .i64 0, .int .i64 0, .int .i64 0, .int .i64 0, .int .i64 0, .int .i64 0, .int .i64 0, .int .i64 0, .int .i64 0, .int .i64 0, .int .i64 0, .int .i64 0, .int .i64 k] 75)
 have s1 : (w.alloc (.cells #[.int .i64 0, .int .i64 0, .int .i64 0, .int .i64 0, .int .i64 0, .int .i64 0, .int .i64 0, .int .i64 0, .int .i64 0, .int .i64 0, .int .i64 0, .int .i64 0, .int .i64 0, .int .i64 0, .int .i64 0, .int .i64 0, .int .i64 0, .int .i64 k] 75)).heap.size = w.heap.size + 1 := by simp
 have o1 : ∀ b, b < w.heap.size → (w.alloc (.cells #[.int .i64 0, .int .i64 0, .int .i64 0, .int .i64 0, .int .i64 0, .int .i64 0, .int .i64 0, .int .i64 0, .int .i64 0, .int .i64 0, .int .i64 0, .int .i64 0, .int .i64 0, .int .i64 0, .int .i64 0, .int .i64 0, .int .i64 0, .int .i64 k] 75)).heap[b]? = w.heap[b]? := fun b hb => heap_new_lt _ _ hb
 have hls1 := hls.same o1
 generalize w.alloc (.cells #[.int .i64 0, .int .i64 0, .int .i64 0, .int .i64 0, .int .i64 0, .int .i64 0, .int .i64 0, .int .i64 0, .int .i64 0, .int .i64 0, .int .i64 0, .int .i64 0, .int .i64 0, .int .i64 0, .int .i64 0, .int .i64 0, .int .i64 0, .int .i64 k] 75) = w1 at *
 have I1 : SqI w.heap.size k (sqN ls 0) w1 := ⟨⟨_, d1, rfl, rfl, fun i hi => by
  have h : i < 16 := by omega
  show _ = some (Value.int .i64 (if i < 0 then ls.getD i 0 else 0))
  rw [if_neg (by omega)]
  match i, h with
  | 0, _ => exact rfl
  | 1, _ => exact rfl
  | 2, _ => exact rfl
  | 3, _ => exact rfl
  | 4, _ => exact rfl
  | 5, _ => exact rfl
  | 6, _ => exact rfl
  | 7, _ => exact rfl
  | 8, _ => exact rfl
  | 9, _ => exact rfl
  | 10, _ => exact rfl
  | 11, _ => exact rfl
  | 12, _ => exact rfl
  | 13, _ => exact rfl
  | 14, _ => exact rfl
  | 15, _ => exact rfl
  | m + 16, h => exact absurd h (by omega), rfl⟩, hk15⟩
 have hwh1 := hwh w1 _ I1 hls1 (fun b hb => hA b (by omega))
 clear hwh hls hls1 hmx hmn hq hw1 hw2
 generalize hN : w.heap.size = N at *
 refine Walk.gz z16 ?_
 refine Walk.callW (Post := NewNum ls w1) ?_ hoA (by rfl) (by decide) rfl Try.func38 (by kernel_rfl) (by rfl) ?_
 ·walk_nrm
  exact hwh1
 rintro v w2 ⟨B, rfl, hB1, hB2, hN2, hold, hsz⟩
 rw [hpl]
 have I2 : SqI N k (sqN ls 0) w2 := I1.old (hold N (by omega))
 clear hwh1
 walk_nrm
 refine Walk.gz z16 ?_
 refine Walk.ctl rfl (fun w => stepG_loop) ?_
 refine .stop fun d => ⟨B, at_slots ?_, NwI.at ⟨I2, hN2, fun b hb => (hold b (by omega)).trans (o1 b (by omega)), hN, by omega, hB2⟩ d⟩
 simp only [hdNw]
 rfl
theorem nw_go (N B k j : Nat) (ls : List Int) (hlen : ls.length = k + 1) (hj : j < k + 1) (hk15 : k ≤ 15) (u : Nat → Value) (cs : List Frame) (w0 w : World) (M : NwI w0 N B k ls j w) (hA : ∀ b, w0.heap.size ≤ b → Apart V b) :
  Walk Try.prog main (DR V) (fun g w' => (∃ u, g = G (hdNw N B (k + 1) (j + 1) u) cs) ∧ NwI w0 N B k ls (j + 1) w') (G (hdNw N B (k + 1) j u) cs) w := by
 obtain ⟨I, hnum, hold, hlo⟩ := M
 obtain ⟨z, hz⟩ : ∃ z, ls[j]? = some z := ⟨_, List.getElem?_eq_getElem (by omega)⟩
 have cz := hnum.cell hz
 have hjk : j ≤ k := by omega
 obtain ⟨c5, z5⟩ := I.rdW hjk
 have f5 := (hA N (by omega)).1 ⟨N, 1 + j, none⟩ rfl
 have I6 := I.wrW hjk z
 rw [sqN_put ls j hz] at I6
 have hN6 := hnum.same (w' := w.setCell ⟨N, 1 + j, none⟩ (.int .i64 z)) (heap_set_other _ _ _ _ (show B ≠ N by omega))
 have hs6 := size_set w ⟨N, 1 + j, none⟩ (.int .i64 z)
 have o6 : ∀ b, b ≠ N → (w.setCell ⟨N, 1 + j, none⟩ (.int .i64 z)).heap[b]? = w.heap[b]? := fun b hb => heap_set_other _ _ _ _ hb
 have hst := store_nil (main := main) (V := V) N (1 + j) _ z w c5 z5 f5
 have hj6 : j < 16 := by omega
 have hx1 := fun w => (ix_word N j hj6 w #[]).1
 have hx2 := fun w es => (ix_word N j hj6 w es).2
 have hi0 : (0 : Int) ≤ j := by omega
 have hi1 : decide ((j : Int) < ((k + 1 : Nat) : Int)) = true := by simp; omega
 have hi3 : decide (j < k + 1) = true := by simp; omega
 have hi4 : (j : Int) < ((k + 1 : Nat) : Int) := by omega
 have hw1 : IntKind.wrap .i64 ((j : Int) + 1) = ((j + 1 : Nat) : Int) := by rw [IntKind.wrap_i64]; omega
 clear c5 I hlen hjk
 generalize k + 1 = n at *
 unfold hdNw
 refine Walk.gz z16 ?_
 refine Walk.callV (x := .tuple #[]) (W := w.setCell ⟨N, 1 + j, none⟩ (.int .i64 z)) ?_ hoA (by rfl) (by decide) rfl Try.func39 (by kernel_rfl) (by rfl) ?_
 ·walk_nrm
  exact hst
 clear hst
 generalize w.setCell ⟨N, 1 + j, none⟩ (.int .i64 z) = w6 at *
 walk_nrm
 refine Walk.gz z16 ?_
 refine Walk.ctl rfl (fun w => stepG_inLoop) ?_
 refine .stop fun d => ⟨at_slots ?_, NwI.at ⟨I6, hN6, fun b hb => (o6 b (by omega)).trans (hold b hb), hlo.1, hlo.2.1, by omega⟩ d⟩
 simp only [hdNw]
 rfl
theorem nw_end (N B n : Nat) (u : Nat → Value) (c : Frame) (cs : List Frame) (w : World) :
  Walk Try.prog main (DR V) (fun g w' => g = G (c.finish (.pointer (some ⟨N, 0, none⟩))) cs ∧ ∃ d, w' = w.at d) (G (hdNw N B n n u) (c :: cs)) w := by
 unfold hdNw
 refine Walk.gz z16 ?_
 exact Walk.on1 rfl rfl Try.func16 rfl (.stop fun d => ⟨rfl, d, rfl⟩)
def sq0 (vs : List Int) : Sq := sqN (padL (vs.take (sqK vs.length + 1)) (sqK vs.length + 1)) (sqK vs.length + 1)
theorem new_w (w : World) (sl : Value) (vs : List Int) (hl : LsR sl vs w) (hv : vs.length ≤ 17592186044416) (hA : ∀ b, w.heap.size ≤ b → Apart V b) :
  CallW Try.prog main V 16 #[sl] w (fun v w' => v = .pointer (some ⟨w.heap.size, 0, none⟩) ∧ SqI w.heap.size (sqK vs.length) (sq0 vs) w' ∧ (∀ b, b < w.heap.size → w'.heap[b]? = w.heap[b]?) ∧ w.heap.size < w'.heap.size) := by
 intro c cs
 have hk15 := (sqK_le vs.length).1
 have hpl : (padL (vs.take (sqK vs.length + 1)) (sqK vs.length + 1)).length = sqK vs.length + 1 := padL_len (by simp; omega)
 refine (nw_in w sl vs hl hv hA (c :: cs)).then ?_
 rintro g w1 ⟨B, ⟨u, rfl⟩, M⟩
 unfold sq0
 generalize padL (vs.take (sqK vs.length + 1)) (sqK vs.length + 1) = ls at *
 generalize sqK vs.length = k at *
 have loop : ∀ (r i : Nat) (u : Nat → Value) (w1 : World), i + r = k + 1 → NwI w w.heap.size B k ls i w1 →
   Walk Try.prog main (DR V) (fun g w' => ∃ v, (v = .pointer (some ⟨w.heap.size, 0, none⟩) ∧ SqI w.heap.size k (sqN ls (k + 1)) w' ∧ (∀ b, b < w.heap.size → w'.heap[b]? = w.heap[b]?) ∧ w.heap.size < w'.heap.size) ∧ g = G (c.finish v) cs) (G (hdNw w.heap.size B (k + 1) i u) (c :: cs)) w1 := by
  intro r
  induction r with
  | zero =>
   intro i u w1 hi M
   obtain rfl : i = k + 1 := hi
   refine (nw_end _ _ _ u c cs w1).mono ?_
   rintro g w' ⟨rfl, d, rfl⟩
   exact ⟨_, ⟨rfl, M.I.old rfl, M.old, by have := M.lo; show w.heap.size < w1.heap.size; omega⟩, rfl⟩
  | succ r ih =>
   intro i u w1 hi M
   refine (nw_go _ _ k i ls hpl (by omega) hk15 u (c :: cs) w w1 M hA).then ?_
   rintro g w' ⟨⟨u', rfl⟩, M'⟩
   exact ih (i + 1) u' w' (by omega) M'
 exact loop (k + 1) 0 u w1 (by omega) M
end
end
section
noncomputable def reg18_0 := rg Try.f18.body [0]
noncomputable def reg18_1 := rg Try.f18.body [1, 0]
noncomputable def reg18_2 := rg Try.f18.body [1, 1, 0]
theorem z18 : List.range reg18_0.size = [0] ∧ List.range reg18_1.size = [0, 1, 2, 3, 4, 5, 6] ∧ List.range reg18_2.size = [0, 1] := by refine ⟨?_, ?_, ?_⟩ <;> kernel_rfl
theorem code18_is : Try.f18.body = some (.seq (.region 0 reg18_0 false) (.seq (.region 1 reg18_1 false) (.seq (.region 2 reg18_2 false) (.ret)))) := by kernel_rfl
noncomputable def reg22_0 := rg Try.f22.body [0]
noncomputable def reg22_1 := rg Try.f22.body [1, 0]
theorem z22 : List.range reg22_0.size = [0] ∧ List.range reg22_1.size = [0, 1, 2] := by refine ⟨?_, ?_⟩ <;> kernel_rfl
theorem code22_is : Try.f22.body = some (.seq (.region 0 reg22_0 false) (.seq (.region 1 reg22_1 false) (.ret))) := by kernel_rfl
noncomputable def reg35_0 := rg Try.f35.body [0]
noncomputable def reg35_1 := rg Try.f35.body [1, 0]
theorem z35 : List.range reg35_0.size = [0] ∧ List.range reg35_1.size = [0, 1, 2, 3, 4, 5, 6] := by refine ⟨?_, ?_⟩ <;> kernel_rfl
theorem code35_is : Try.f35.body = some (.seq (.region 0 reg35_0 false) (.seq (.region 1 reg35_1 false) (.ret))) := by kernel_rfl
section
variable {lb k : Nat} {s : Sq} {main : Bool} {V : Nat → Option Wait}
def wdL (k : Nat) (s : Sq) : List Int := (List.range (k + 1)).map s.w
def stL (k : Nat) (s : Sq) : List Int := s.v :: wdL k s
def dQ (k : Nat) (i : Nat) (l : List Int) : Ans ⊕ QD := if i = k + 1 then .inl ⟨true, 0, l⟩ else .inr (.q i l)
theorem dQ_eq {i : Nat} {l : List Int} (hi : i ≤ k) : dQ k i l = .inr (.q i l) := if_neg (by omega)
theorem dQ_act (s : Sq) (i : Nat) (l : List Int) : sqAct k s (.q i l) = (s, dQ k (i + 1) (l ++ [s.w i])) := by
 show (s, if i = k then _ else _) = _
 unfold dQ
 by_cases e : i = k
 ·rw [if_pos e, if_pos (by omega)]
 ·rw [if_neg e, if_neg (by omega)]
theorem dQ_run : ∀ (r i : Nat) (l : List Int), i + r = k + 1 → runN (sqLa lb k) r (s, dQ k i l) = some (s, ⟨true, 0, l ++ (List.range' i r).map s.w⟩)
 | 0, i, l, h => by
  have h : i = k + 1 := h
  unfold dQ
  rw [if_pos h]
  exact (runN_inl (sqLa lb k) 0 s _).trans (by simp; rfl)
 | r + 1, i, l, h => by
  have h1 : dQ k i l = .inr (.q i l) := dQ_eq (by omega)
  rw [h1]
  refine (congrArg (runN (sqLa lb k) r) (dQ_act (k := k) s i l)).trans ?_
  refine (dQ_run r (i + 1) (l ++ [s.w i]) (by omega)).trans ?_
  rw [List.range'_succ]
  simp
  rfl
structure Calm (lb k : Nat) (s : Sq) (w w' : World) : Prop where
 I : SqI lb k s w'
 old : ∀ b, b < w.heap.size → b ≠ lb → w'.heap[b]? = w.heap[b]?
 size : w.heap.size ≤ w'.heap.size
def ValsOut (lb k : Nat) (s : Sq) (w : World) (v : Value) (w' : World) : Prop := ∃ B, v = .slice (some ⟨B, 0, none⟩) (k + 1) (k + 1) ∧ NumB w' B (wdL k s) ∧ w.heap.size ≤ B ∧ Calm lb k s w w'
theorem lvalues_w (hA : ∀ b, Apart V b) (w : World) (I : SqI lb k s w) : CallW Try.prog main V 22 #[.pointer (some ⟨lb, 0, none⟩)] w (ValsOut lb k s w) := by
 have hrun := dQ_run (lb := lb) (k := k) (s := s) (k + 1) 0 [] (by omega)
 rw [List.nil_append, ← List.range_eq_range'] at hrun
 refine callW_in Try.func22 code22_is fun fr cs => ?_
 simp only [Try.ntmps22, ez, Nat.reduceAdd, Nat.reduceSub]
 refine Walk.gz z22 ?_
 refine Walk.callLone (L := sqLa lb k) (Rel := fun v x w' P => ∃ B, v = .slice (some ⟨B, 0, none⟩) (k + 1) (k + 1) ∧ P B ∧ NumB w' B x.l) (k + 1) () s (dQ k 0 []) hA I hrun (fun K e ht => ?_) hoA (by rfl) (by decide) rfl Try.func31 (by kernel_rfl) (by rfl) ⟨rfl, rfl, _, Try.func22⟩ ?_
 ·walk_nrm
  exact (raw_s K (dQ k) .q (fun i l hi => dQ_eq hi) (fun s i l _ => dQ_act s i l) e ht).mono fun v e' ⟨B, l, h1, h2, h3, h4, h5⟩ => ⟨⟨true, 0, l⟩, ⟨B, h1, h3, h4⟩, h5.trans (by unfold dQ; rw [if_pos rfl] <;> rfl)⟩
 rintro v w' y ⟨B, rfl, hB, hN⟩ hL
 walk_nrm
 refine Walk.gz z22 ?_
 exact Walk.ret1 rfl rfl Try.func22 rfl fun d => ⟨B, rfl, hN, hB.1.1, hL.I.old rfl, fun b hb hne => hL.old b hb hne, hL.size⟩
theorem version_w (hA : ∀ b, Apart V b) (w : World) (I : SqI lb k s w) : CallW Try.prog main V 18 #[.pointer (some ⟨lb, 0, none⟩)] w (fun v w' => v = .int .i64 s.v ∧ Calm lb k s w w') := by
 have hrun : runN (sqLa lb k) 1 (s, .inr (.n1 0)) = some (s, ⟨decide (0 < s.v), s.v, []⟩) := rfl
 refine callW_in Try.func18 code18_is fun fr cs => ?_
 simp only [Try.ntmps18, ez, Nat.reduceAdd, Nat.reduceSub]
 refine Walk.gz z18 ?_
 refine Walk.callLone (L := sqLa lb k) (Rel := fun v x w' P => v = .tuple #[.int .i64 x.n, .bool x.ok]) 1 () s (.inr (.n1 0)) hA I hrun (fun K e ht => ?_) hoA (by rfl) (by decide) rfl Try.func30 (by kernel_rfl) (by rfl) ⟨rfl, rfl, _, Try.func18⟩ ?_
 ·walk_nrm
  exact (newer_s K e 0 ht).mono fun v e' ⟨b, x, h1, h2⟩ => ⟨⟨b, x, []⟩, h1, h2⟩
 rintro v w' y rfl hL
 walk_nrm
 refine Walk.gz z18 ?_
 exact Walk.ret1 rfl rfl Try.func18 rfl fun d => ⟨rfl, hL.I.old rfl, fun b hb hne => hL.old b hb hne, hL.size⟩
theorem Calm.trans {w w1 w2 : World} (h1 : Calm lb k s w w1) (h2 : Calm lb k s w1 w2) : Calm lb k s w w2 :=
 ⟨h2.I, fun b hb hn => (h2.old b (Nat.lt_of_lt_of_le hb h1.size) hn).trans (h1.old b hb hn), Nat.le_trans h1.size h2.size⟩
def StOut (lb k : Nat) (s : Sq) (w : World) (v : Value) (w' : World) : Prop := ∃ B c, v = .slice (some ⟨B, 0, none⟩) (k + 2) c ∧ w'.ownsRow w.heap.size 2 1 (.slice (some ⟨B, 0, none⟩) (k + 2) c) (k + 2) ((stL k s).map fun z => .int .i64 z) ∧ Calm lb k s w w'
theorem state_w (hA : ∀ b, Apart V b) (w : World) (I : SqI lb k s w) : CallW Try.prog main V 35 #[.pointer (some ⟨lb, 0, none⟩)] w (StOut lb k s w) := by
 have hk15 := I.pos
 have hi1 := Option.some_get (show (Try.prog.info? 2).isSome = true by kernel_rfl)
 have hlen : (wdL k s).length = k + 1 := by simp [wdL]
 have hv := version_w (main := main) hA w I
 have hlt0 := I.lt
 refine callW_in Try.func35 code35_is fun fr cs => ?_
 simp only [Try.ntmps35, ez, Nat.reduceAdd, Nat.reduceSub]
 refine Walk.gz z35 ?_
 refine Walk.callW (Post := fun v w' => v = .int .i64 s.v ∧ Calm lb k s w w') ?_ hoA (by rfl) (by decide) rfl Try.func18 (by kernel_rfl) (by rfl) ?_
 ·walk_nrm
  exact hv
 rintro v w1 ⟨rfl, hC1⟩
 walk_nrm
 (refine Walk.oa ?_; try walk_nrm)
 have d1 := heap_alloc_new w1 (.cells #[.int .i64 s.v] 2)
 have s1 : (w1.alloc (.cells #[.int .i64 s.v] 2)).heap.size = w1.heap.size + 1 := by simp
 have o1 : ∀ b, b < w1.heap.size → (w1.alloc (.cells #[.int .i64 s.v] 2)).heap[b]? = w1.heap[b]? := fun b hb => heap_new_lt _ _ hb
 have hC2 : Calm lb k s w (w1.alloc (.cells #[.int .i64 s.v] 2)) := hC1.trans ⟨hC1.I.old (o1 lb (by have := hC1.size; omega)), fun b hb _ => o1 b hb, by omega⟩
 have hw1s := hC1.size
 generalize hN : w1.heap.size = N at *
 generalize w1.alloc (.cells #[.int .i64 s.v] 2) = w2 at *
 have hvl := lvalues_w (main := main) hA w2 hC2.I
 refine Walk.gz z35 ?_
 refine Walk.callW (Post := ValsOut lb k s w2) ?_ hoA (by rfl) (by decide) rfl Try.func22 (by kernel_rfl) (by rfl) ?_
 ·walk_nrm
  exact hvl
 rintro v w3 ⟨B, rfl, hNB, hB, hC3⟩
 have d3 := (hC3.old N (by omega) (by omega)).trans d1
 have hC4 := hC2.trans hC3
 have hown : w3.ownsRow w.heap.size 2 1 (.slice (some ⟨N, 0, none⟩) 1 1) 1 [.int .i64 s.v] := ⟨rfl, .inr ⟨N, 1, _, rfl, by omega, d3, Nat.le_refl _, by decide, rfl, rfl⟩⟩
 clear hv hvl
 walk_nrm
 refine Walk.gz z35 ?_
 refine Walk.append (.tmp 5) (.tmp 7) 22 hoA (by rfl) (by decide) rfl w.heap.size 2 _ (.int .i64 0) 1 8 huI64s hi1.symm (by rfl) (by rfl) (by rfl) (by rfl) (by decide) (.slice (some ⟨N, 0, none⟩) 1 1) 1 [.int .i64 s.v] rfl hown ⟨B, 0, none⟩ (k + 1) (k + 1) ((wdL k s).map fun z => .int .i64 z) rfl (by simp [hlen]) (fun j u hu => ?_) (fun u hu => ?_) (by omega) (by simp only [maxLen]; omega) (by omega) hC4.size (fun g hg => hA g) (fun g cap w' hown' hgr hat hlt => ?_)
 ·rw [List.getElem?_map, Option.map_eq_some_iff] at hu
  obtain ⟨y, hy, rfl⟩ := hu
  rw [add_none, Nat.zero_add]
  exact hNB.cell hy
 ·obtain ⟨y, _, rfl⟩ := List.mem_map.1 hu
  rfl
 have hgN : some lb ≠ (Value.slice (some ⟨N, 0, none⟩) 1 1).ownBlock := fun e => by
  have : lb = N := Option.some.inj e
  omega
 have hC5 : Calm lb k s w w' := ⟨hC4.I.old (hgr.block lb (by have := hC4.size; omega) hgN), fun b hb hn => (hgr.block b (by have := hC4.size; omega) fun e => by
  have : b = N := Option.some.inj e
  omega).trans (hC4.old b hb hn), Nat.le_trans hC4.size hgr.size⟩
 walk_nrm
 refine Walk.gz z35 ?_
 refine Walk.ret1 rfl rfl Try.func35 rfl fun d => ⟨g, cap, by rw [Nat.add_comm 1]; rfl, ?_, hC5.I.old rfl, hC5.old, hC5.size⟩
 have h := hown'
 rw [Nat.add_comm 1] at h
 exact row_same h fun _ _ => rfl
end
end
section
variable {main : Bool} {V : Nat → Option Wait}
theorem end_zero (B : Nat) (c : Frame) (cs : List Frame) (w : World) (h0 : w.cell? ⟨B, 0, none⟩ = some (.slice none 0 0)) :
  Walk Try.prog main (DR V) (fun g w' => g = G (c.finish (.slice (some ⟨w.heap.size, 0, none⟩) 0 0)) cs ∧ ∃ d, w' = (w.alloc (.cells (madeCells #[.bool false] 0) 4)).at d) (G (Frame.enter Try.prog 69 #[.pointer (some ⟨B, 0, none⟩)] .normal) (c :: cs)) w := by
 rw [enter_at _ Try.func69 rfl]
 simp only [Try.f69, ez, Nat.reduceAdd, Nat.reduceSub]
 refine Walk.gzr ?_
 have hi4 := Option.some_get (show (Try.prog.info? 4).isSome = true by kernel_rfl)
 refine Walk.make 104 (.tmp 10) (.tmp 10) rfl (by rfl) (by decide) rfl 4 _ (.bool false) 1 1 (by kernel_rfl) hi4.symm (by rfl) (by rfl) (by rfl) 0 (by rfl) (by rfl) (by omega) (by omega) ?_
 have h0' := cell_alloc w (.cells (madeCells #[.bool false] 0) 4) h0
 walk_nrm
 simp only [Value.cells, Nat.mul_one]
 refine Walk.gzr ?_
 refine Walk.ctl rfl (fun w => stepG_loop) ?_
 refine Walk.gzr ?_
 exact (Walk.ret1 (Post := fun v w' => v = .slice (some ⟨w.heap.size, 0, none⟩) 0 0 ∧ ∃ d, w' = (w.alloc (.cells (madeCells #[.bool false] 0) 4)).at d) rfl rfl Try.func69 rfl fun d => ⟨by simp, d, rfl⟩).mono fun g w' ⟨v, ⟨e, d, e'⟩, hg⟩ => ⟨by rw [hg, e], d, e'⟩
end
section
section
variable {main : Bool} {V : Nat → Option Wait}
theorem begin_zero' (B tc : Nat) (ta : Option Addr) (c : Frame) (cs : List Frame) (w : World) (h0 : w.cell? ⟨B, 0, none⟩ = some (.slice none 0 0)) :
  Walk Try.prog main (DR V) (fun g w' => g = G (c.finish (.tuple #[])) cs ∧ ∃ d, w' = w.at d) (G (Frame.enter Try.prog 67 #[.pointer (some ⟨B, 0, none⟩), .slice ta 0 tc] .normal) (c :: cs)) w := by
 rw [enter_at _ Try.func67 rfl]
 simp only [Try.f67, ez, Nat.reduceAdd, Nat.reduceSub]
 refine Walk.gzr ?_
 refine Walk.ctl rfl (fun w => stepG_loop) ?_
 refine Walk.gzr ?_
 exact Walk.ctl rfl (fun w => stepG_leave rfl rfl Try.func67 (results_none rfl _ _ w) (events_results_none rfl _ _)) (.stop fun d => ⟨rfl, d, rfl⟩)
theorem over_zero' (sa : Option Addr) (m sc tc : Nat) (ta : Option Addr) (most : Int) (og : Value) (c : Frame) (cs : List Frame) (w : World) (hog : CallV Try.prog main V 65 #[og] w (.slice ta 0 tc) w)
  (hs : 0 < m → ∃ s so x, sa = some ⟨s, so, none⟩ ∧ w.cell? ⟨s, so, none⟩ = some (.int .i64 x)) :
  Walk Try.prog main (DR V) (fun g w' => g = G (c.finish (.tuple #[.slice none 0 0, .bool false, .slice (some ⟨w.heap.size + 1, 0, none⟩) 0 0])) cs ∧ ∃ d, w' = ((turnW w 0 most).alloc (.cells (madeCells #[.bool false] 0) 4)).at d)
   (G (Frame.enter Try.prog 50 #[og, .slice sa m sc, .int .i64 most] .normal) (c :: cs)) w := by
 have hs1 : (turnW w 0 most).heap.size = w.heap.size + 1 := by simp [turnW]
 have ht : ∀ i, (turnW w 0 most).cell? ⟨w.heap.size, i, none⟩ = (#[.slice none 0 0, .int .i64 (0 : Nat), .int .i64 (min (max most 0) 1048576), .slice none 0 0] : Array Value)[i]? := fun i => cell_of (heap_alloc_new w _) i
 have t0 := (ht 0).trans rfl
 have t1 := (ht 1).trans rfl
 have t2 := (ht 2).trans rfl
 have t3 := (ht 3).trans rfl
 clear ht
 refine (over_in 0 tc m sc ta sa og most (c :: cs) w hog (nt_in 0 tc ta most (fr23t 0 tc m sc ta sa og most :: c :: cs) w)).then ?_
 rintro _ _ ⟨rfl, d1, rfl⟩
 refine Walk.back ?_ d1
 refine (nt_out w.heap.size 0 tc ta most _ (fr23t 0 tc m sc ta sa og most) (c :: cs) _).then ?_
 rintro _ _ ⟨rfl, d2, rfl⟩
 refine Walk.back ?_ d2
 refine (over_begin w.heap.size 0 tc m sc ta sa og most (c :: cs) _ (begin_zero' w.heap.size tc ta _ (c :: cs) _ t0)).then ?_
 rintro _ _ ⟨rfl, d3, rfl⟩
 refine Walk.back ?_ d3
 refine (over_follow w.heap.size 0 tc m sc ta sa og most (c :: cs) _ (follow_in w.heap.size sa m sc _ _)).then ?_
 rintro _ _ ⟨⟨u4, rfl⟩, d4, rfl⟩
 refine Walk.back ?_ d4
 have back : Walk Try.prog main (DR V) (fun g w' => g = G ((fr23b w.heap.size 0 tc m sc ta sa og most).finish (.tuple #[])) (c :: cs) ∧ ∃ d, w' = (turnW w 0 most).at d) (G (hd55 w.heap.size sa m sc 0 u4) (fr23b w.heap.size 0 tc m sc ta sa og most :: c :: cs)) (turnW w 0 most) := by
  rcases Nat.eq_zero_or_pos m with hm | hm
  ·subst hm
   refine (follow_past w.heap.size sa 0 sc u4 _ _).then ?_
   rintro _ _ ⟨⟨u5, rfl⟩, d5, rfl⟩
   refine Walk.back ?_ d5
   exact round_over w.heap.size sa 0 sc (0 : Nat) _ none 0 0 u5 _ (c :: cs) _ t1 t2 t3 (by simp)
  ·obtain ⟨s, so, x, rfl, hc⟩ := hs hm
   refine follow_over w.heap.size s so m sc 0 x (0 : Nat) _ none 0 0 u4 _ (c :: cs) _ hm ?_ t1 t2 t3 (by simp)
   exact cell_alloc w _ hc
 refine back.then ?_
 rintro _ _ ⟨rfl, d5, rfl⟩
 refine Walk.back ?_ d5
 refine (over_end w.heap.size 0 tc m sc ta sa og most (0 : Nat) (c :: cs) _ t1 (end_zero w.heap.size _ (c :: cs) _ t0)).then ?_
 rintro _ _ ⟨rfl, d6, rfl⟩
 refine Walk.back ?_ d6
 have t3' := cell_alloc _ (.cells (madeCells #[.bool false] 0) 4) t3
 rw [hs1]
 refine (over_out w.heap.size (w.heap.size + 1) 0 tc m sc ta sa og most (0 : Nat) none 0 0 c cs _ t3').mono ?_
 rintro _ _ ⟨rfl, d7, rfl⟩
 exact ⟨by simp, d7, rfl⟩
theorem huOpsS : Try.prog.underlying 23 = some (.slice 34) := by kernel_rfl
theorem firstOps_some (a : Option Addr) (m cap : Nat) (w : World) (hm : m ≤ cap) (ha : a = none ∧ cap = 0 ∨ ∃ p, a = some p) : CallV Try.prog main V 62 #[.slice a m cap] w (.slice a (min m 64) cap) w := by
 refine callW_in Try.func62 rfl fun fr cs => ?_
 simp only [Try.ntmps62, ez, Nat.reduceAdd, Nat.reduceSub]
 have hmn := @events_min_ints Try.prog
 refine Walk.gzr ?_
 have hmin : min (m : Int) 64 = ((min m 64 : Nat) : Int) := by omega
 rw [hmin]
 have hxl : min m 64 ≤ cap := by omega
 generalize min m 64 = x at hxl ⊢
 have hi := Option.some_get (show (Try.prog.info? 34).isSome = true by kernel_rfl)
 have hs := fun w => (run_slx huOpsS hi.symm a m cap x hxl ha w #[]).1
 have hse := fun w es => (run_slx huOpsS hi.symm a m cap x hxl ha w es).2
 clear hi
 refine Walk.gzr ?_
 exact Walk.ret1 rfl rfl Try.func62 rfl fun d => ⟨by simp, d, rfl⟩
end
theorem playO_zero (L : La) (s0 : L.Sg) (ops : Nat → List OpV) (most : Int) (sl : List Int) : playO L s0 ops 0 most sl = (x0O L s0, []) := by
 have hov : overA (absO L 0 (min (max most 0) 1048576) ops) (x0O L s0, []) = true := rfl
 have hst : ∀ z, stepA (absO L 0 (min (max most 0) 1048576) ops) (x0O L s0, []) z = (x0O L s0, []) := fun z => by
  unfold stepA
  rw [hov]
  exact if_neg fun h => by cases h.1
 have hfold : ∀ l : List Int, l.foldl (stepA (absO L 0 (min (max most 0) 1048576) ops)) (x0O L s0, []) = (x0O L s0, []) := fun l => by
  induction l with
  | nil => rfl
  | cons z l ih => rw [List.foldl_cons, hst, ih]
 show restA _ _ (sl.foldl _ (x0O L s0, [])) = _
 rw [hfold]
 generalize (absO L 0 (min (max most 0) 1048576) ops).most.toNat = f
 cases f with
 | zero => rfl
 | succ f =>
  unfold restA
  rw [hov]
  rfl
section
variable {L : La} {fdo : FuncId} {first cap : Array Value}
theorem ops_any (hD : DoFn L fdo first cap) (y0 : L.Gh) (s0 : L.Sg) (tv : Value) (most : Int) (ta : Option Addr) (tb toff tc n : Nat) (hta : 0 < n → ta = some ⟨tb, toff, none⟩) (hn : n ≤ 64) (oa : Nat → Option Addr) (ln oc : Nat → Nat) (ops : Nat → List OpV) (sa : Option Addr) (sc : Nat) (sl : List Int) (hsl : sl.length ≤ 17592186044416) (c : Frame) (cs : List Frame) (w : World)
  (I : OpsIn tb toff n oa ln oc ops w) (hI : L.I y0 s0 w) (hns : ∀ i, i < n → ∀ (j : Nat) (o : OpV), (ops i)[j]? = some o → ∀ b off, oa i = some ⟨b, off, none⟩ → ¬ L.sh y0 b)
  (hsc : ∀ (j : Nat) (z : Int), sl[j]? = some z → ∃ s so, sa = some ⟨s, so, none⟩ ∧ w.cell? ⟨s, so + j, none⟩ = some (.int .i64 z) ∧ ¬ L.sh y0 s)
  (hp : ∀ w' : World, (∀ b, b < w.heap.size → w'.heap[b]? = w.heap[b]?) → CallV Try.prog true (fun _ => none) 62 #[tv] w' (.slice ta n tc) w') :
  Runs (fun g w' => ∃ cells, OpsOut L y0 s0 ops n most sl w w' cells ∧ g = G (c.finish (.agg cells)) cs) (G (Frame.enter Try.prog 33 #[tv, .func (.func fdo) first cap, .slice sa sl.length sc, .int .i64 most] .normal) (c :: cs)) w := by
 rcases Nat.eq_zero_or_pos n with h0 | h1
 ·subst h0
  have hA : ∀ b, Apart (fun _ => none) b := fun b => ⟨fun _ _ _ _ h => (by cases h), fun _ _ h => (by cases h)⟩
  refine Runs.walk (ops_in fdo first cap tv (.slice sa sl.length sc) most ta tb toff tc 0 hta hn oa ln oc ops c cs w I (fun b _ => hA b) hp) ?_
  rintro _ w2 ⟨fr, w1, rfl, o1, s1, hT, M, hB⟩
  have s2 : w2.heap.size = w.heap.size + 1 + 4 + 2 * 0 := M.size
  have hN := M.cN
  have o2 : ∀ b, b < w.heap.size + 1 → w2.heap[b]? = w1.heap[b]? := fun b hb => M.old b hb
  have hc2 : ∀ {b j : Nat} {v : Value}, w.cell? ⟨b, j, none⟩ = some v → w2.cell? ⟨b, j, none⟩ = some v := fun {b j v} h => (World.cell?_of_block (a := ⟨b, j, none⟩) ((o2 b (by have := cell_lt' h; omega)).trans (o1 b (cell_lt' h)))).trans h
  refine Runs.walk (over_zero' sa sl.length sc 0 (some ⟨w.heap.size + 4, 0, none⟩) most _ fr (c :: cs) w2 ?_ fun h => ?_) ?_
  ·have := first_some (main := true) (V := fun _ => none) (w.heap.size + 4) 0 0 w2 (Nat.le_refl _)
   simpa using this
  ·obtain ⟨s, so, e, hc, _⟩ := hsc 0 (sl[0]'h) (List.getElem?_eq_getElem h)
   exact ⟨s, so, _, e, hc2 hc⟩
  rintro _ _ ⟨rfl, d, rfl⟩
  have o3 : ∀ b, b < w2.heap.size → ((turnW w2 0 most).alloc (.cells (madeCells #[.bool false] 0) 4)).heap[b]? = w2.heap[b]? := fun b hb => by
   rw [heap_new_lt _ _ (by simp [turnW]; omega)]
   exact heap_new_lt _ _ hb
  have s3 : w2.heap.size ≤ ((turnW w2 0 most).alloc (.cells (madeCells #[.bool false] 0) 4)).heap.size := by simp [turnW]; omega
  generalize (turnW w2 0 most).alloc (.cells (madeCells #[.bool false] 0) 4) = w3 at *
  have hT3 : (w3.at d).heap[w.heap.size]? = some (.cells #[.slice none 0 0, .slice none 0 0, .slice none 0 0, .bool false] 31) := (o3 _ (by omega)).trans ((o2 _ (by omega)).trans hT)
  refine Runs.walk (hB none 0 0 _ false _ hT3 (hA _)) ?_
  rintro _ _ ⟨rfl, d', rfl⟩
  have hset : ∀ b, b ≠ w.heap.size → ((w3.at d).setRow w.heap.size #[.slice (some ⟨w.heap.size + 2, 0, none⟩) 0 0, .slice none 0 0, .slice none 0 0, .bool false]).heap[b]? = w3.heap[b]? := fun b hb => setRow_other _ _ hb
  have hold : ∀ b, b < w.heap.size → ((w3.at d).setRow w.heap.size #[.slice (some ⟨w.heap.size + 2, 0, none⟩) 0 0, .slice none 0 0, .slice none 0 0, .bool false]).heap[b]? = w.heap[b]? := fun b hb => (hset b (by omega)).trans ((o3 b (by omega)).trans ((o2 b (by omega)).trans (o1 b hb)))
  have e1 : (playO L s0 ops 0 most sl).2 = [] := by rw [playO_zero]
  have e2 : (playO L s0 ops 0 most sl).1 = x0O L s0 := by rw [playO_zero]
  refine .now ⟨_, ⟨?_, fun b hb _ => hold b hb, ?_⟩, rfl⟩
  ·rw [e1, e2]
   refine ⟨y0, w.heap.size + 2, none, 0, fun _ => .slice none 0 0, fun _ _ => False, ⟨rfl, ⟨rfl, .inl ⟨rfl, rfl⟩⟩, by omega, ⟨madeCells #[.slice none 0 0] 0, (hset _ (by omega)).trans ((o3 _ (by omega)).trans hN), madeCells_size _ _, fun i hi => absurd hi (Nat.not_lt_zero _)⟩, fun i hi => absurd hi (Nat.not_lt_zero _), fun _ _ _ h => h.elim, fun _ _ h => h.elim, fun _ _ h => h.elim, fun b h => ⟨?_, fun e => (by cases e)⟩, fun e => (by cases e), L.refl _, L.stable hI fun b h => hold b (L.lt hI h), fun b h _ => h⟩⟩
   have := L.lt hI h; omega
  ·show w.heap.size ≤ (World.setRow _ _ _).heap.size
   rw [setRow_size]
   show _ ≤ w3.heap.size
   omega
 ·obtain rfl := hta h1
  exact ops_run hD y0 s0 tv most tb toff tc n h1 hn oa ln oc ops sa sc sl hsl c cs w I hI hns hsc hp
end
end
end Go.Proofs.Ytjenoiekfkhafaa
