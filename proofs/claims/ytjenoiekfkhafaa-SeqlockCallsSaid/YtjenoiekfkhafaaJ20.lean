/- Part 20. -/
import Derived.Test.YtjenoiekfkhafaaJ3
import Derived.Test.YtjenoiekfkhafaaJ16
import Derived.Test.YtjenoiekfkhafaaJ17
import Derived.Test.YtjenoiekfkhafaaJ19
set_option linter.unusedSimpArgs false
set_option linter.unusedVariables false
set_option linter.unusedVariables false
set_option maxHeartbeats 8000000
set_option maxRecDepth 100000
namespace Go.Proofs.Ytjenoiekfkhafaa
open Go.Conc Go.RowKit Go.Relay
open Go.ConcN (upd upd_ne upd_same)
section
section
variable {lb k : Nat}
def Cj (k : Nat) (s : Sq) (o : OpV) : Sq × Ans :=
 if o.k = 1 then (Ht k s false (Ar o), ⟨true, 0, []⟩) else if o.k = 2 then (Ht k s true (Ar o), ⟨true, 0, []⟩) else if o.k = 3 then (s, ⟨true, 0, Je k s⟩) else if o.k = 4 then (s, ⟨true, 0, Je k s⟩) else if o.k = 5 then (s, ⟨decide (o.a < s.v), s.v, []⟩) else (s, Fw)
theorem run_q (s : Sq) : ∀ (r i : Nat) (l : List Int), i + r = k -> runN (Aj lb k) (r + 1) (s, .inr (.q i l)) = some (s, ⟨true, 0, l ++ (List.range' i (r + 1)).map s.w⟩)
 | 0, i, l, h => by
  have h : i = k := h
  subst h
  have e : Bo i s (.q i l) = (s, .inl ⟨true, 0, l ++ [s.w i]⟩) := by
   show (s, if i = i then _ else _) = _
   rw [if_pos rfl]
  refine (congrArg (runN (Aj lb i) 0) e).trans ?_
  rfl
 | r + 1, i, l, h => by
  have e : Bo k s (.q i l) = (s, .inr (.q (i + 1) (l ++ [s.w i]))) := by
   show (s, if i = k then _ else _) = _
   rw [if_neg (by omega)]
  refine (congrArg (runN (Aj lb k) (r + 1)) e).trans ?_
  refine (run_q s r (i + 1) (l ++ [s.w i]) (by omega)).trans ?_
  rw [show List.range' i (r + 1 + 1) = i :: List.range' (i + 1) (r + 1) from List.range'_succ ..]
  simp
  rfl
theorem enter_eq (s : Sq) (th : Int) (o : OpV) : By s th o = (s, (By s th o).2) := by
 unfold By
 repeat' split
 all_goals rfl
theorem run_one (s : Sq) (hs : ¬ Ba s.v) (th : Int) (o : OpV) : runN (Aj lb k) (k + 4) (By s th o) = some (Cj k s o) := by
 unfold By Cj
 by_cases h1 : o.k = 1
 ·rw [if_pos h1, if_pos h1]; exact Gy s hs false _ _
 rw [if_neg h1, if_neg h1]
 by_cases h2 : o.k = 2
 ·rw [if_pos h2, if_pos h2]; exact Gy s hs true _ _
 rw [if_neg h2, if_neg h2]
 by_cases h3 : o.k = 3
 ·rw [if_pos h3, if_pos h3]; exact Ip (k + 3) _ _ (run_read s hs _) 1
 rw [if_neg h3, if_neg h3]
 by_cases h4 : o.k = 4
 ·rw [if_pos h4, if_pos h4]
  have e : Je k s = (List.range' 0 (k + 1)).map s.w := by rw [<- List.range_eq_range']; rfl
  rw [e]
  exact Ip (k + 1) _ _ (run_q s k 0 [] (Nat.zero_add k)) 3
 rw [if_neg h4, if_neg h4]
 by_cases h5 : o.k = 5
 ·rw [if_pos h5, if_pos h5]
  have h := Ip (L := Aj lb k) 1 (s, .inr (.n1 o.a)) (s, ⟨decide (o.a < s.v), s.v, []⟩) rfl (k + 3)
  rw [show 1 + (k + 3) = k + 4 from by omega] at h
  exact h
 rw [if_neg h5, if_neg h5]
 exact Hw (Aj lb k) (k + 4) s Fw
theorem sqOdd_iff (v : Int) : Ba v ↔ v % 2 ≠ 0 := by
 unfold Ba
 constructor
 ·intro h e
  exact h (Int.tmod_eq_zero_of_dvd (Int.dvd_of_emod_eq_zero e))
 ·intro h e
  exact h (Int.emod_eq_zero_of_dvd (Int.dvd_of_tmod_eq_zero e))
theorem one_even (s : Sq) (hs : ¬ Ba s.v) (o : OpV) : ¬ Ba (Cj k s o).1.v := by
 have h2 : ∀ ad xs, ¬ Ba (Ht k s ad xs).v := fun ad xs => by
  show ¬ Ba (IntKind.i64.wrap (s.v + 2))
  rw [sqOdd_iff] at hs ⊢
  rw [IntKind.wrap_i64]
  omega
 unfold Cj
 repeat' split
 all_goals first | exact h2 _ _ | exact hs
theorem one_len (s : Sq) (o : OpV) : (Cj k s o).2.l.length <= k + 1 := by
 unfold Cj
 repeat' split
 all_goals simp [Je, Fw]
def LsN (base : Nat) (sl : Value) (ls : List Int) (w : World) : Prop := (sl = .slice none 0 0 /\ ls = []) ∨ ∃ B, sl = .slice (some ⟨B, 0, none⟩) ls.length ls.length /\ base <= B /\ NumB w B ls
variable {main : Bool} {V : Nat -> Option Wait} {s : Sq} {w : World}
theorem lcall_w (hA : ∀ b, Ay V b) (I : SqI lb k s w) (hs : ¬ Ba s.v) (n : Nat) (hn1 : n <= k + 1) (hn2 : k + 1 <= n) (ok oa ob oc : Int) :
  CallP main V 19 #[.pointer (some ⟨lb, 0, none⟩), .nilIface, .agg #[.int .i64 ok, .int .i64 oa, .int .i64 ob, .int .i64 oc], .int .i64 n] w (fun v w' => ∃ sl, v = Bw (Cj k s ⟨ok, oa, ob, oc⟩).2 sl /\ LsN w.heap.size sl (Cj k s ⟨ok, oa, ob, oc⟩).2.l w' /\ Solo lb k (Cj k s ⟨ok, oa, ob, oc⟩).1 w w') := by
 refine (Hk (L := Aj lb k) (Rel := fun v x w' P => ∃ sl, v = Bw x sl /\ ((sl = .slice none 0 0 /\ x.l = []) ∨ ∃ B, sl = .slice (some ⟨B, 0, none⟩) x.l.length x.l.length /\ P B /\ NumB w' B x.l)) (k + 4) () s _ (fun _ _ _ _ _ h => h) hA I ((congrArg (runN (Aj lb k) (k + 4)) (enter_eq s 0 ⟨ok, oa, ob, oc⟩)).symm.trans (run_one s hs 0 ⟨ok, oa, ob, oc⟩)) (fun K e hw ht => (call_s K e 0 n hn1 hn2 ok oa ob oc ?_).mono fun v e' ⟨a, sl, h1, h2, h3, h4⟩ => ⟨a, ⟨sl, h2, h3⟩, h1⟩)).mono ?_
 ·rw [ht]
  unfold By
  repeat' split
  all_goals rfl
 ·rintro v w' ⟨y, ⟨sl, rfl, h⟩, hL⟩
  refine ⟨sl, rfl, ?_, Solo.of hL⟩
  rcases h with h | ⟨B, h1, h2, h3⟩
  ·exact .inl h
  ·exact .inr ⟨B, h1, h2.1.1, h3⟩
end
end
section
theorem Jt : Try.prog.underlying 37 = some (.pointer 39) := by kernel_rfl
theorem run_ifaceSteps (a : Option Addr) (w : World) : (Instr.makeInterface 37 (.pointer a)).run Try.prog w = .ok (.iface 37 (.pointer a)) w := by simp [Instr.makeInterface, run_underlying Jt]
theorem ev_ifaceSteps (a : Option Addr) (w : World) (es : Array Event) : (Instr.makeInterface 37 (.pointer a)).events Try.prog w es = es := by simp [Instr.makeInterface, run_underlying Jt]
noncomputable def rowStepsB : Bool := match Try.prog.info? 37 with
 | some ti => (match ti.methods.find? (·.name == "Step") with
  | some m => m.path.isEmpty && (m.func == some (135, true))
  | none => false)
 | none => false
theorem rowSteps : ∃ ti m, Try.prog.info? 37 = some ti /\ ti.methods.find? (·.name == "Step") = some m /\ m.path = #[] /\ m.func = some (135, true) := by
 have h : rowStepsB = true := by kernel_rfl
 unfold rowStepsB at h
 revert h
 cases h1 : Try.prog.info? 37 with
 | none => simp
 | some ti =>
  simp only []
  cases h2 : ti.methods.find? (·.name == "Step") with
  | none => simp
  | some m =>
   simp only [Bool.and_eq_true, Array.isEmpty_iff, beq_iff_eq]
   exact fun h => ⟨ti, m, rfl, h2, h.1, h.2⟩
theorem method_steps (p : Nat) (w : World) (es : Array Event) : (method (Try.prog.types.size + Made.depth) 37 (.pointer (some ⟨p, 0, none⟩)) "Step").run Try.prog w = .ok (135, .pointer (some ⟨p, 0, none⟩)) w /\ (method (Try.prog.types.size + Made.depth) 37 (.pointer (some ⟨p, 0, none⟩)) "Step").events Try.prog w es = es := by
 obtain ⟨ti, m, h1, h2, h3, h4⟩ := rowSteps
 obtain ⟨k, hk⟩ : ∃ k, Try.prog.types.size + Made.depth = k + 1 := ⟨Try.prog.types.size + (Made.depth - 1), by have : 1 <= Made.depth := by decide
                                                                                                               omega⟩
 rw [hk]
 unfold method
 refine ⟨?_, ?_⟩
 ·simp [typeInfo, h1, h2, h3, h4, follow, receiverAt, run_underlying Jt, Place.get]
 ·simp [typeInfo, h1, h2, h3, h4, follow, receiverAt, run_underlying Jt, Place.get]
section
variable {main : Bool} {V : Nat -> Option Wait} {Stop : Goroutine -> World -> Prop} {w : World} {b : Frame} {a : Act} {k : List Item} {cs : List Frame} {ops : Array Oper} {i : Nat} {rest : List Nat} {o : Oper}
theorem Jv {x : Operand} {ats : Array TypeId} (p : Nat) (ho : ops[i]? = some o) (hw : Region.wanted o (yielded ops a.tmps) = true) (hk : b.kind ≠ .early) (hop : o.op = .call { callee := .invoke x "Step", args := #[], argTypes := ats }) (hx : a.eval x = .iface 37 (.pointer (some ⟨p, 0, none⟩))) :
  stepG Try.prog main (G (b.at a (.inRegion ops (i :: rest) :: k)) cs) w = .go (G (Frame.enter Try.prog 135 #[.pointer (some ⟨p, 0, none⟩)] .normal) (b.at a (.inRegion ops (i :: rest) :: k) :: cs)) w := by
 have h1 : ¬ Try.f135.name = "runtime.NumGoroutine" := by decide
 have h2 : ¬ Try.f135.body = none := by simp [Try.f135]
 have hm := method_steps p w #[]
 rw [show Try.prog.types.size = 197 from by kernel_rfl] at hm
 have hr : (execOp a.eval o).run Try.prog w = .ok (.enter 135 #[.pointer (some ⟨p, 0, none⟩)]) w := by
  unfold execOp
  simp [hop, resolve, invoke, callMethod, callFunc, hm.1, Try.func135, h1, h2, hx]
 have he : (execOp a.eval o).events Try.prog w #[] = #[] := by
  unfold execOp
  simp [hop, resolve, invoke, callMethod, callFunc, hm.1, hm.2, Try.func135, h1, h2, hx]
 rw [stepG_enter ho hw hk hr]
 have : listed Try.prog b.fn a o w = #[] := by unfold listed; rw [he]; exact seen_none Try.prog _
 rw [this]
theorem Walk.invokeSteps {x : Operand} {ats : Array TypeId} (p : Nat) (ho : ops[i]? = some o) (hw : Region.wanted o (yielded ops a.tmps) = true) (hk : b.kind ≠ .early) (hop : o.op = .call { callee := .invoke x "Step", args := #[], argTypes := ats }) (hx : a.eval x = .iface 37 (.pointer (some ⟨p, 0, none⟩)))
  (h : Walk Try.prog main (DR V) Stop (G (Frame.enter Try.prog 135 #[.pointer (some ⟨p, 0, none⟩)] .normal) (b.at a (.inRegion ops (i :: rest) :: k) :: cs)) w) : Walk Try.prog main (DR V) Stop (G (b.at a (.inRegion ops (i :: rest) :: k)) cs) w :=
 Walk.ctl rfl (fun _ => Jv p ho hw hk hop hx) h
end
noncomputable def reg135_0 := rk Try.f135.body 0
theorem z135 : reg135_0.size = 8 := by kernel_rfl
theorem code135_is : Try.f135.body = some (.region 0 reg135_0 false) := by kernel_rfl
section
variable {main : Bool} {V : Nat -> Option Wait}
theorem steps_w (p : Nat) (n : Int) (w : World) (hc : w.heap[p]? = some (.cells #[.int .i64 n] 39)) (hz : w.frozen? ⟨p, 0, none⟩ = false) (hn0 : 0 <= n) (hn : n < 4611686018427387904) (hf : Ay V p) :
  Bn Try.prog main V 135 #[.pointer (some ⟨p, 0, none⟩)] w (.tuple #[]) (w.setCell ⟨p, 0, none⟩ (.int .i64 (n + 1))) := by
 have hw1 : IntKind.wrap .i64 (n + 1) = n + 1 := by rw [IntKind.wrap_i64]; omega
 have h1 : w.cell? ⟨p, 0, none⟩ = some (.int .i64 n) := (Ad hc 0).trans rfl
 have hf' : Df V ⟨p, 0, none⟩ := hf.1 _ rfl
 refine Bg Try.func135 code135_is fun fr cs => ?_
 simp only [Try.ntmps135, ez, Nat.reduceAdd, Nat.reduceSub]
 refine Aa z135 ?_
 (refine Walk.os hf' h1 ?_; try walk_nrm)
 refine Aa z135 ?_
 exact Iv rfl rfl Try.func135 rfl fun d => ⟨rfl, d, rfl⟩
end
def Iz (L : La) : Nat -> Nat -> L.Sg × (Ans ⊕ L.D) -> Option (Nat × L.Sg × Ans)
 | _, c, (s, .inl a) => some (c, s, a)
 | 0, _, (_, .inr _) => none
 | n + 1, c, (s, .inr d) => Iz L n (c + 1) (L.act s d)
theorem Np (L : La) (n c : Nat) (s : L.Sg) (a : Ans) : Iz L n c (s, .inl a) = some (c, s, a) := by cases n <;> rfl
structure CntE (L : La) (y0 : L.Gh) (base : World) (p : Nat) (R : Nat × L.Sg × Ans) where
 w : World
 y : L.Gh
 s : L.Sg
 tgt : L.Sg × (Ans ⊕ L.D)
 fuel : Nat
 n : Nat
 le : L.le y0 y
 inv : L.I y s w
 size : base.heap.size <= w.heap.size
 old : ∀ b, b < base.heap.size -> ¬ L.sh y0 b -> b ≠ p -> w.heap[b]? = base.heap[b]?
 pub : ∀ b, L.sh y b -> b < base.heap.size -> L.sh y0 b
 cnt : w.heap[p]? = some (.cells #[.int .i64 n] 39)
 few : n + fuel < 4611686018427387904
 run : Iz L fuel n tgt = some R
section
variable {L : La} {main : Bool} {V : Nat -> Option Wait} {Stop : Goroutine -> World -> Prop} {cs : List Frame} {y0 : L.Gh} {base : World} {p : Nat} {R : Nat × L.Sg × Ans}
def cntB (main : Bool) (V : Nat -> Option Wait) (Stop : Goroutine -> World -> Prop) (cs : List Frame) (y0 : L.Gh) (base : World) (p : Nat) (R : Nat × L.Sg × Ans) : Lb L where
 main := main
 E := CntE L y0 base p R
 V := fun _ => V
 Stop := fun _ => Stop
 bot := fun _ => cs
 w := fun e => e.w
 s := fun e => e.s
 gh := fun e => e.y
 tgt := fun e => e.tgt
 fuel := fun e => e.fuel
 mine := fun e b => (base.heap.size <= b /\ b < e.w.heap.size) /\ ¬ L.sh e.y b
theorem cnt_step (hA : Ay V p) (hp : ¬ L.sh y0 p) (hlo : p < base.heap.size) (e : CntE L y0 base p R) (d : L.D) (ht : e.tgt = (e.s, .inr d)) (fr : Frame) (l : List Frame) (hk : ∀ e' : CntE L y0 base p R, Aft (cntB main V Stop cs y0 base p R) e d e' -> LW (cntB main V Stop cs y0 base p R) e' (G (fr.finish (.tuple #[])) (l ++ cs))) :
  LW (cntB main V Stop cs y0 base p R) e (G (Frame.enter Try.prog 56 #[.iface 37 (.pointer (some ⟨p, 0, none⟩))] .normal) (fr :: (l ++ cs))) := by
 obtain ⟨ms, hu⟩ := Hq
 have hn1 := fun w => Ex (P := Try.prog) (w := w) 90 37 (.pointer (some ⟨p, 0, none⟩)) hu
 have hn2 := fun w es => Fm (P := Try.prog) (w := w) 90 37 (.pointer (some ⟨p, 0, none⟩)) es hu
 obtain ⟨n, hn, hr⟩ : ∃ n, e.fuel = n + 1 /\ Iz L n (e.n + 1) (L.act e.s d) = some R := by
  have h := e.run
  rw [ht] at h
  cases hf : e.fuel with
  | zero => rw [hf] at h; cases h
  | succ n => rw [hf] at h; exact ⟨n, rfl, h⟩
 have hz : e.w.frozen? ⟨p, 0, none⟩ = false := An e.cnt 0
 have hoth : ∀ b, b ≠ p -> (e.w.setCell ⟨p, 0, none⟩ (.int .i64 ((e.n : Int) + 1))).heap[b]? = e.w.heap[b]? := fun b hb => by simp [World.setCell, Array.getElem?_modify, Ne.symm hb]
 have hsz : (e.w.setCell ⟨p, 0, none⟩ (.int .i64 ((e.n : Int) + 1))).heap.size = e.w.heap.size := by simp
 have hcn : (e.w.setCell ⟨p, 0, none⟩ (.int .i64 ((e.n : Int) + 1))).heap[p]? = some (.cells #[.int .i64 ((e.n + 1 : Nat) : Int)] 39) := by
  have h := e.cnt
  simp [World.setCell, Array.getElem?_modify, h]
 have hfew := e.few
 have hs0 := e.size
 have hps : ¬ L.sh e.y p := fun h => hp (e.pub p h hlo)
 have hh := hk { w := e.w.setCell ⟨p, 0, none⟩ (.int .i64 ((e.n : Int) + 1)), y := e.y, s := e.s, tgt := L.act e.s d, fuel := n, n := e.n + 1, le := e.le, inv := L.stable e.inv fun b hb => hoth b fun x => hps (x ▸ hb), size := by rw [hsz]; exact e.size, old := fun b h1 h2 h3 => (hoth b h3).trans (e.old b h1 h2 h3), pub := e.pub, cnt := hcn, few := by omega, run := hr } ⟨rfl, show n < e.fuel by omega, L.refl _, Nat.le_of_eq hsz.symm, fun b h => ⟨⟨⟨h.1.1, Nat.lt_of_lt_of_eq h.1.2 hsz.symm⟩, h.2⟩, hoth b (fun x => by have := h.1.1; omega)⟩⟩
 unfold LW at hh ⊢
 show Walk Try.prog main (DR V) Stop _ e.w
 replace hh : Walk Try.prog main (DR V) Stop (G (fr.finish (.tuple #[])) (l ++ cs)) (e.w.setCell ⟨p, 0, none⟩ (.int .i64 ((e.n : Int) + 1))) := hh
 rw [enter_at _ Try.func56 code56_is]
 simp only [Try.ntmps56, ez, Nat.reduceAdd, Nat.reduceSub]
 refine Aa z56 ?_
 refine Walk.invokeSteps p Ao (by rfl) (by decide) rfl rfl ?_
 refine (steps_w p e.n e.w e.cnt hz (by omega) (by omega) hA _ _).then ?_
 rintro g' w' ⟨v', ⟨rfl, dd, rfl⟩, rfl⟩
 refine Walk.back ?_ dd
 refine Walk.finish Ao ?_
 walk_nrm
 refine Aa z56 ?_
 exact Av rfl rfl Try.func56 rfl hh
theorem cnt_mine {y' : L.Gh} {e : CntE L y0 base p R} {w' : World} {b : Nat} (hle : L.le e.y y') (hs : e.w.heap.size <= w'.heap.size) : ((base.heap.size <= b /\ b < w'.heap.size) /\ ¬ L.sh y' b) ↔ ((((base.heap.size <= b /\ b < e.w.heap.size) /\ ¬ L.sh e.y b) ∨ (e.w.heap.size <= b /\ b < w'.heap.size)) /\ ¬ L.sh y' b) := by
 have := e.size
 constructor
 ·rintro ⟨⟨a, b'⟩, hn⟩
  refine ⟨?_, hn⟩
  by_cases hb : b < e.w.heap.size
  ·exact .inl ⟨⟨a, hb⟩, fun h => hn (L.mono hle h)⟩
  ·exact .inr ⟨by omega, b'⟩
 ·rintro ⟨⟨⟨a, b'⟩, _⟩ | ⟨a, b'⟩, hn⟩
  ·exact ⟨⟨a, by omega⟩, hn⟩
  ·exact ⟨⟨by omega, b'⟩, hn⟩
def cntL (hA : ∀ b, Ay V b) (hp : ¬ L.sh y0 p) (hlo : p < base.heap.size) (main : Bool) (Stop : Goroutine -> World -> Prop) (cs : List Frame) (R : Nat × L.Sg × Ans) : Lg L (.iface 37 (.pointer (some ⟨p, 0, none⟩))) where
 toLb := cntB main V Stop cs y0 base p R
 one := rfl
 inv := fun e => e.inv
 shA := fun _ b _ => hA b
 mineA := fun e b h => ⟨hA b, h.2, h.1.2⟩
 newA := fun _ b _ => hA b
 mg := fun e y' s' w' h0 h1 h2 h3 h4 => ⟨{ w := w', y := y', s := s', tgt := e.tgt, fuel := e.fuel, n := e.n, le := L.trans e.le h0, inv := h3, size := Nat.le_trans e.size h1, old := fun b hb hs hb' => (h2 b (Nat.lt_of_lt_of_le hb e.size) (fun hm => by have := hm.1.1; omega) (fun hm => hs (e.pub b hm hb))).trans (e.old b hb hs hb'), pub := fun b hb hlt => (h4 b hb).elim (fun h => e.pub b h hlt) fun h => h.elim (fun h => absurd h.1.1 (Nat.not_le_of_lt hlt)) fun h => absurd (Nat.le_trans e.size h) (Nat.not_le_of_lt hlt), cnt := (h2 p (Nat.lt_of_lt_of_le hlo e.size) (fun hm => by have := hm.1.1; omega) (fun hm => hp (e.pub p hm hlo))).trans e.cnt, few := e.few, run := e.run }, rfl, rfl, rfl, rfl, rfl, rfl, rfl, rfl, fun b => cnt_mine h0 h1⟩
 step := fun e d ht fr l _ _ hk => cnt_step (hA p) hp hlo e d ht fr l hk
structure Counted (L : La) (y0 : L.Gh) (w : World) (p : Nat) (R : Nat × L.Sg × Ans) (w' : World) (y : L.Gh) : Prop where
 le : L.le y0 y
 I : L.I y R.2.1 w'
 size : w.heap.size <= w'.heap.size
 old : ∀ b, b < w.heap.size -> ¬ L.sh y0 b -> b ≠ p -> w'.heap[b]? = w.heap[b]?
 pub : ∀ b, L.sh y b -> b < w.heap.size -> L.sh y0 b
 cnt : w'.heap[p]? = some (.cells #[.int .i64 R.1] 39)
theorem CallP.cnt {f : FuncId} {args : Array Value} {w : World} {Rel : Value -> Ans -> World -> (Nat -> Prop) -> Prop} (N n : Nat) (y0 : L.Gh) (s : L.Sg) (r0 : Ans ⊕ L.D) (hat : ∀ v x w' P d, Rel v x w' P -> Rel v x (w'.at d) P) (hA : ∀ b, Ay V b) (hI : L.I y0 s w) (hp0 : ¬ L.sh y0 p) (hcnt : w.heap[p]? = some (.cells #[.int .i64 n] 39)) (hfew : n + N < 4611686018427387904) (hrun : Iz L N n (s, r0) = some R)
  (hc : ∀ (K : Lg L (.iface 37 (.pointer (some ⟨p, 0, none⟩)))) (e : K.E), K.w e = w -> K.tgt e = (K.s e, r0) -> SCall K.toLb f args e (fun v e' => ∃ x, Rel v x (K.w e') (K.mine e') /\ K.tgt e' = (K.s e', .inl x))) :
  CallP main V f args w (fun v w' => ∃ y, Rel v R.2.2 w' (fun b => (w.heap.size <= b /\ b < w'.heap.size) /\ ¬ L.sh y b) /\ Counted L y0 w p R w' y) := by
 intro c cs hp
 have key := hc (cntL (V := V) (y0 := y0) (base := w) hA hp0 (Array.getElem?_eq_some_iff.1 hcnt).1 main (fun g w' => ∃ v, (∃ y, Rel v R.2.2 w' (fun b => (w.heap.size <= b /\ b < w'.heap.size) /\ ¬ L.sh y b) /\ Counted L y0 w p R w' y) /\ g = G (c.finish v) cs) cs R) { w := w, y := y0, s := s, tgt := (s, r0), fuel := N, n := n, le := L.refl _, inv := hI, size := Nat.le_refl _, old := fun _ _ _ _ => rfl, pub := fun _ h _ => h, cnt := hcnt, few := hfew, run := hrun } rfl rfl c [] hp (fun _ h => by cases h) ?_
 ·exact key
 ·rintro v e' ⟨x, hr, ht⟩
  have hrn := e'.run
  have hcn := e'.cnt
  have ht : e'.tgt = (e'.s, .inl x) := ht
  rw [ht, Np] at hrn
  have hR := Option.some.inj hrn
  have r0 : R.1 = e'.n := (congrArg Prod.fst hR).symm
  have r1 : R.2.1 = e'.s := (congrArg (fun x => x.2.1) hR).symm
  have r2 : R.2.2 = x := (congrArg (fun x => x.2.2) hR).symm
  refine .stop fun d => ⟨v, ⟨e'.y, ?_, ⟨e'.le, ?_, e'.size, fun b h1 h2 h3 => e'.old b h1 h2 h3, e'.pub, ?_⟩⟩, rfl⟩
  ·rw [r2]
   exact hat _ _ _ _ d hr
  ·rw [r1]; exact L.stable e'.inv fun _ _ => rfl
  ·rw [r0]; exact hcn
end
end
section
inductive Whole (L : La) (N : Nat) : Nat -> L.Sg -> List OpV -> List Ans -> Nat -> L.Sg -> List Ans -> Prop
 | nil (c : Nat) (s : L.Sg) (az : List Ans) : Whole L N c s [] az c s az
 | cons {c c1 c2 : Nat} {s s1 s2 : L.Sg} {o : OpV} {l : List OpV} {az az2 : List Ans} {a : Ans} (h : Iz L N c (L.enter s 0 o) = some (c1, s1, a)) (k : Whole L N c1 s1 l (az ++ [a]) c2 s2 az2) : Whole L N c s (o :: l) az c2 s2 az2
section
variable {L : La}
structure At1 (x : OX L) (r : L.Sg × Tst L) : Prop where
 s : x.s = r.1
 th : x.th 0 = r.2
 out : x.out 0 = (match r.2.d with | none => some false | some _ => none)
theorem At1.put (x : OX L) (r : L.Sg × Tst L) (c : Nat) : At1 (Gi x 0 r c) r := ⟨rfl, (upd_same x.th 0 r.2 : _), (upd_same x.out 0 _ : _)⟩
theorem At1.next {x : OX L} {s : L.Sg} {left : List OpV} {d : L.D} {az : List Ans} (h : At1 x (s, ⟨left, some d, az⟩)) : At1 (Cz x 0) (Em L 0 (L.act s d) left az) := by
 have hd : (x.th 0).d = some d := by rw [h.th]
 have e : Cz x 0 = Gi x 0 (Em L ((0 : Nat) : Int) (L.act x.s d) (x.th 0).left (x.th 0).ans) (x.cnt + 1) := by
  unfold Cz
  rw [hd]
 rw [e, h.th, h.s]
 exact At1.put _ _ _
inductive Go1 : Nat -> OX L -> OX L -> Prop
 | refl (x : OX L) : Go1 0 x x
 | step {m : Nat} {x y : OX L} (h : x.out 0 = none) (k : Go1 m (Cz x 0) y) : Go1 (m + 1) x y
theorem Go1.trans {m n : Nat} {x y z : OX L} (h : Go1 m x y) (k : Go1 n y z) : Go1 (m + n) x z := by
 induction h with
 | refl => rw [Nat.zero_add]; exact k
 | step h _ ih =>
  rw [Nat.add_right_comm]
  exact .step h (ih k)
theorem go_call {N : Nat} : ∀ {c c1 : Nat} {s s1 : L.Sg} {r : Ans ⊕ L.D} {a : Ans}, Iz L N c (s, r) = some (c1, s1, a) -> ∀ (left : List OpV) (az : List Ans) (x : OX L), At1 x (Em L 0 (s, r) left az) -> c <= c1 /\ ∃ y, Go1 (c1 - c) x y /\ At1 y (Bs L 0 s1 left (az ++ [a])) := by
 induction N with
 | zero =>
  intro c c1 s s1 r a h left az x hx
  cases r with
  | inl a' =>
   rw [Np] at h
   simp only [Option.some.injEq, Prod.mk.injEq] at h
   obtain ⟨rfl, rfl, rfl⟩ := h
   exact ⟨Nat.le_refl _, x, by rw [Nat.sub_self]; exact .refl x, hx⟩
  | inr d => exact absurd h (by simp [Iz])
 | succ N ih =>
  intro c c1 s s1 r a h left az x hx
  cases r with
  | inl a' =>
   rw [Np] at h
   simp only [Option.some.injEq, Prod.mk.injEq] at h
   obtain ⟨rfl, rfl, rfl⟩ := h
   exact ⟨Nat.le_refl _, x, by rw [Nat.sub_self]; exact .refl x, hx⟩
  | inr d =>
   have h' : Iz L N (c + 1) ((L.act s d).1, (L.act s d).2) = some (c1, s1, a) := h
   have hx' : At1 x (s, ⟨left, some d, az⟩) := hx
   obtain ⟨h1, y, h2, h3⟩ := ih h' left az (Cz x 0) hx'.next
   refine ⟨by omega, y, ?_, h3⟩
   have e : c1 - c = (c1 - (c + 1)) + 1 := by omega
   rw [e]
   exact .step hx'.out h2
theorem go_whole {N c c2 : Nat} {s s2 : L.Sg} {l : List OpV} {az az2 : List Ans} (h : Whole L N c s l az c2 s2 az2) : ∀ x : OX L, At1 x (Bs L 0 s l az) -> c <= c2 /\ ∃ y, Go1 (c2 - c) x y /\ At1 y (s2, ⟨[], none, az2⟩) := by
 induction h with
 | nil c s az => exact fun x hx => ⟨Nat.le_refl _, x, by rw [Nat.sub_self]; exact .refl x, hx⟩
 | @cons c c1 c2 s s1 s2 o l az az2 a h _ ih =>
  intro x hx
  rw [Gx] at hx
  have h' : Iz L N c ((L.enter s 0 o).1, (L.enter s 0 o).2) = some (c1, s1, a) := h
  obtain ⟨h1, y, h2, h3⟩ := go_call h' l az x hx
  obtain ⟨k1, z, k2, k3⟩ := ih y h3
  refine ⟨by omega, z, ?_, k3⟩
  have e : c2 - c = (c1 - c) + (c2 - c1) := by omega
  rw [e]
  exact h2.trans k2
theorem rest_alone (most : Int) (ops : Nat -> List OpV) {m : Nat} {x y : OX L} (h : Go1 m x y) (hy : y.out 0 ≠ none) : ∀ (f : Nat) (ord : List Nat), (Dl (Ce L 1 most ops) f (x, ord)).1.out 0 ≠ none -> Dl (Ce L 1 most ops) f (x, ord) = (y, ord ++ List.replicate m 0) := by
 induction h with
 | refl x =>
  intro f ord _
  have hov : Ch (Ce L 1 most ops) (x, ord) = true := by
   unfold Ch Eh
   have hn : (x.out 0).isNone = false := by
    cases h : x.out 0 with
    | none => exact absurd h hy
    | some _ => rfl
   have : (List.range 1).countP (fun i => (x.out i).isNone) = 0 := by
    show List.countP (fun i => (x.out i).isNone) [0] = 0
    simp [hn]
   show (decide ((List.range 1).countP (fun i => (x.out i).isNone) = 0) || _) = true
   rw [this]
   rfl
  cases f with
  | zero => simp [Dl]
  | succ f =>
   unfold Dl
   rw [hov]
   simp
 | @step m x y hx _ ih =>
  intro f ord hF
  cases f with
  | zero => exact absurd hx hF
  | succ f =>
   unfold Dl at hF ⊢
   cases hov : Ch (Ce L 1 most ops) (x, ord) with
   | true =>
    rw [hov] at hF
    exact absurd hx hF
   | false =>
    rw [hov] at hF
    have hr : Hx (Ce L 1 most ops) (x, ord) = (Cz x 0, ord ++ [0]) := by
     show Bk (Ce L 1 most ops) (x, ord) (0 : Nat) = _
     unfold Bk
     rw [if_pos ⟨hov, by decide, by show ((0 : Nat) : Int) < ((1 : Nat) : Int); decide, hx⟩]
     rfl
    simp only [Bool.false_eq_true, if_false] at hF ⊢
    rw [hr] at hF ⊢
    rw [ih hy f (ord ++ [0]) hF]
    simp [List.replicate_succ]
theorem play_alone {N c2 : Nat} {s0 s2 : L.Sg} {ops : Nat -> List OpV} {az2 : List Ans} (most : Int) (h : Whole L N 0 s0 (ops 0) [] c2 s2 az2) (hs : Dy 1 (Bt L s0 ops 1 most []).1 = false) :
  (Bt L s0 ops 1 most []).1.s = s2 /\ ((Bt L s0 ops 1 most []).1.th 0).ans = az2 /\ (Bt L s0 ops 1 most []).2.length = c2 := by
 have hb : At1 (Kr ops (Qc L s0) 0) (Bs L 0 s0 (ops 0) []) := At1.put _ _ _
 obtain ⟨_, y, h1, h2⟩ := go_whole h _ hb
 have hy : y.out 0 ≠ none := by rw [h2.out]; exact fun e => by cases e
 have e : Bt L s0 ops 1 most [] = Dl (Ce L 1 (min (max most 0) 1048576) ops) (min (max most 0) 1048576).toNat (Kr ops (Qc L s0) 0, []) := rfl
 have ho : (Bt L s0 ops 1 most []).1.out 0 ≠ none := fun hn => by
  have : Dy 1 (Bt L s0 ops 1 most []).1 = true := by
   show decide (0 < List.countP (fun i => ((Bt L s0 ops 1 most []).1.out i).isNone) [0]) = true
   simp [hn]
  rw [this] at hs
  cases hs
 rw [e] at ho
 have hF := rest_alone _ ops h1 hy _ [] ho
 rw [e, hF]
 exact ⟨h2.s, by rw [h2.th], by simp⟩
end
end
section
def Gw {A D X : Type} (act : A -> D -> A × (X ⊕ D)) : Nat -> A × (X ⊕ D) -> Nat
 | _, (_, .inl _) => 0
 | 0, (_, .inr _) => 0
 | n + 1, (s, .inr d) => Gw act n (act s d) + 1
theorem stepsF_le {A D X : Type} (act : A -> D -> A × (X ⊕ D)) : ∀ (N : Nat) (p : A × (X ⊕ D)), Gw act N p <= N
 | 0, (_, .inl _) => Nat.le_refl _
 | 0, (_, .inr _) => Nat.le_refl _
 | n + 1, (_, .inl _) => Nat.zero_le _
 | n + 1, (s, .inr d) => Nat.succ_le_succ (stepsF_le act n (act s d))
theorem lonC_of {L : La} : ∀ {N c : Nat} {p : L.Sg × (Ans ⊕ L.D)} {s1 : L.Sg} {a : Ans}, runN L N p = some (s1, a) -> Iz L N c p = some (c + Gw L.act N p, s1, a) := by
 intro N
 induction N with
 | zero =>
  rintro c ⟨s, r⟩ s1 a h
  cases r with
  | inl x => simp [runN] at h; simp [Iz, Gw, h]
  | inr d => simp [runN] at h
 | succ N ih =>
  rintro c ⟨s, r⟩ s1 a h
  cases r with
  | inl x => simp [runN] at h; simp [Iz, Gw, h]
  | inr d =>
   have h1 := ih (c := c + 1) (p := L.act s d) h
   show Iz L N (c + 1) (L.act s d) = some (c + (Gw L.act N (L.act s d) + 1), s1, a)
   rw [h1, show c + 1 + Gw L.act N (L.act s d) = c + (Gw L.act N (L.act s d) + 1) by omega]
section
variable {lb k : Nat}
def Ob (k : Nat) (s : Sq) (o : OpV) : Nat := Gw (Bo k) (k + 4) (By s 0 o)
theorem cntQ_le (s : Sq) (o : OpV) : Ob k s o <= k + 4 := stepsF_le _ _ _
theorem one_lon (s : Sq) (hs : ¬ Ba s.v) (o : OpV) (c : Nat) : Iz (Aj lb k) (k + 4) c (By s 0 o) = some (c + Ob k s o, Cj k s o) := lonC_of (run_one (lb := lb) s hs 0 o)
def Gu (k : Nat) (s0 : Sq) (l : List OpV) (i : Nat) : Sq × Nat := (l.take i).foldl (fun p o => ((Cj k p.1 o).1, p.2 + Ob k p.1 o)) (s0, 0)
theorem prQ_zero (s0 : Sq) (l : List OpV) : Gu k s0 l 0 = (s0, 0) := rfl
theorem Kb (s0 : Sq) (l : List OpV) (i : Nat) (o : OpV) (ho : l[i]? = some o) : Gu k s0 l (i + 1) = ((Cj k (Gu k s0 l i).1 o).1, (Gu k s0 l i).2 + Ob k (Gu k s0 l i).1 o) := by
 obtain ⟨hi, e⟩ := List.getElem?_eq_some_iff.1 ho
 unfold Gu
 rw [List.take_succ_eq_append_getElem hi, List.foldl_append, e]
 rfl
theorem prQ_more (s0 : Sq) (l : List OpV) (i : Nat) (ho : l[i]? = none) : Gu k s0 l (i + 1) = Gu k s0 l i := by
 have hl := List.getElem?_eq_none_iff.1 ho
 unfold Gu
 rw [List.take_of_length_le hl, List.take_of_length_le (by omega)]
theorem Kc (s0 : Sq) (h0 : ¬ Ba s0.v) (l : List OpV) : ∀ i, ¬ Ba (Gu k s0 l i).1.v
 | 0 => h0
 | i + 1 => by
  cases ho : l[i]? with
  | none => rw [prQ_more s0 l i ho]; exact Kc s0 h0 l i
  | some o => rw [Kb s0 l i o ho]; exact one_even _ (Kc s0 h0 l i) o
theorem prQ_le (s0 : Sq) (l : List OpV) : ∀ i, (Gu k s0 l i).2 <= i * (k + 4)
 | 0 => Nat.zero_le _
 | i + 1 => by
  have ih := prQ_le s0 l i
  rw [Nat.add_mul, Nat.one_mul]
  cases ho : l[i]? with
  | none => rw [prQ_more s0 l i ho]; omega
  | some o =>
   rw [Kb s0 l i o ho]
   have := cntQ_le (k := k) (Gu k s0 l i).1 o
   show (Gu k s0 l i).2 + Ob k (Gu k s0 l i).1 o <= _
   omega
def anQ (k : Nat) (s0 : Sq) (l : List OpV) (i : Nat) : Ans := match l[i]? with
 | some o => (Cj k (Gu k s0 l i).1 o).2
 | none => Fw
def azQ (k : Nat) (s0 : Sq) (l : List OpV) (i : Nat) : List Ans := (List.range i).map (anQ k s0 l)
theorem azQ_succ (s0 : Sq) (l : List OpV) (i : Nat) : azQ k s0 l (i + 1) = azQ k s0 l i ++ [anQ k s0 l i] := by simp [azQ, List.range_succ]
theorem azQ_len (s0 : Sq) (l : List OpV) (i : Nat) : (azQ k s0 l i).length = i := by simp [azQ]
theorem azQ_get (s0 : Sq) (l : List OpV) (n i : Nat) (hi : i < n) : (azQ k s0 l n)[i]? = some (anQ k s0 l i) := by simp [azQ, hi]
theorem whole_Q (s0 : Sq) (h0 : ¬ Ba s0.v) (l : List OpV) : ∀ (r i : Nat), i + r = l.length -> Whole (Aj lb k) (k + 4) (Gu k s0 l i).2 (Gu k s0 l i).1 (l.drop i) (azQ k s0 l i) (Gu k s0 l l.length).2 (Gu k s0 l l.length).1 (azQ k s0 l l.length)
 | 0, i, h => by
  have h : i = l.length := h
  rw [h, List.drop_length]
  exact .nil _ _ _
 | r + 1, i, h => by
  have hi : i < l.length := by omega
  have ho : l[i]? = some l[i] := List.getElem?_eq_getElem hi
  rw [List.drop_eq_getElem_cons hi]
  have ha : anQ k s0 l i = (Cj k (Gu k s0 l i).1 l[i]).2 := by unfold anQ; rw [ho]
  have h1 := one_lon (lb := lb) (k := k) (Gu k s0 l i).1 (Kc s0 h0 l i) l[i] (Gu k s0 l i).2
  have hp := Kb (k := k) s0 l i _ ho
  have hw := whole_Q s0 h0 l r (i + 1) (by omega)
  rw [azQ_succ, ha] at hw
  rw [hp] at hw
  exact .cons h1 hw
theorem alone_Q (s0 : Sq) (h0 : ¬ Ba s0.v) (ops : Nat -> List OpV) (most : Int) (hs : Dy 1 (Bt (Aj lb k) s0 ops 1 most []).1 = false) :
  (Bt (Aj lb k) s0 ops 1 most []).1.s = (Gu k s0 (ops 0) (ops 0).length).1 /\ ((Bt (Aj lb k) s0 ops 1 most []).1.th 0).ans = azQ k s0 (ops 0) (ops 0).length /\ (Bt (Aj lb k) s0 ops 1 most []).2.length = (Gu k s0 (ops 0) (ops 0).length).2 :=
 play_alone most (whole_Q s0 h0 (ops 0) (ops 0).length 0 (by omega)) hs
structure SoloC (lb k p : Nat) (s : Sq) (c : Nat) (w w' : World) : Prop where
 I : SqI lb k s w'
 cn : w'.heap[p]? = some (.cells #[.int .i64 (c : Nat)] 39)
 old : ∀ b, b < w.heap.size -> b ≠ lb -> b ≠ p -> w'.heap[b]? = w.heap[b]?
 size : w.heap.size <= w'.heap.size
variable {main : Bool} {V : Nat -> Option Wait} {s : Sq} {w : World}
theorem lcallC_w (hA : ∀ b, Ay V b) (I : SqI lb k s w) (hs : ¬ Ba s.v) (n : Nat) (hn1 : n <= k + 1) (hn2 : k + 1 <= n) (p : Nat) (hp : p ≠ lb) (c : Nat) (hc : w.heap[p]? = some (.cells #[.int .i64 (c : Nat)] 39)) (hfew : c <= 9223372036854) (hk : k <= 15) (ok oa ob oc : Int) :
  CallP main V 19 #[.pointer (some ⟨lb, 0, none⟩), .iface 37 (.pointer (some ⟨p, 0, none⟩)), .agg #[.int .i64 ok, .int .i64 oa, .int .i64 ob, .int .i64 oc], .int .i64 n] w (fun v w' => ∃ sl, v = Bw (Cj k s ⟨ok, oa, ob, oc⟩).2 sl /\ LsN w.heap.size sl (Cj k s ⟨ok, oa, ob, oc⟩).2.l w' /\ SoloC lb k p (Cj k s ⟨ok, oa, ob, oc⟩).1 (c + Ob k s ⟨ok, oa, ob, oc⟩) w w') := by
 refine (CallP.cnt (L := Aj lb k) (p := p) (R := (c + Ob k s ⟨ok, oa, ob, oc⟩, Cj k s ⟨ok, oa, ob, oc⟩)) (Rel := fun v x w' P => ∃ sl, v = Bw x sl /\ ((sl = .slice none 0 0 /\ x.l = []) ∨ ∃ B, sl = .slice (some ⟨B, 0, none⟩) x.l.length x.l.length /\ P B /\ NumB w' B x.l)) (k + 4) c () s _ (fun _ _ _ _ _ h => h) hA I hp hc (by omega) ((congrArg (Iz (Aj lb k) (k + 4) c) (enter_eq s 0 ⟨ok, oa, ob, oc⟩)).symm.trans (one_lon s hs ⟨ok, oa, ob, oc⟩ c)) (fun K e hw ht => (call_s K e 0 n hn1 hn2 ok oa ob oc ?_).mono fun v e' ⟨a, sl, h1, h2, h3, h4⟩ => ⟨a, ⟨sl, h2, h3⟩, h1⟩)).mono ?_
 ·rw [ht]
  unfold By
  repeat' split
  all_goals rfl
 ·rintro v w' ⟨y, ⟨sl, rfl, h⟩, hL⟩
  refine ⟨sl, rfl, ?_, ⟨hL.I, hL.cnt, fun b h1 h2 h3 => hL.old b h1 h2 h3, hL.size⟩⟩
  rcases h with h | ⟨B, h1, h2, h3⟩
  ·exact .inl h
  ·exact .inr ⟨B, h1, h2.1.1, h3⟩
end
end
section
theorem Ny {dsts : List Nat} {vals : List Value} {f : Nat -> Bool} {u : Nat -> Value} (F : Facts dsts vals f u) {i : Nat} (hd : dsts[i]? = none) : Facts dsts vals (upd f i true) u := by
 intro j d v hf hj hv
 by_cases e : j = i
 ·rw [e, hd] at hj; cases hj
 ·rw [upd_ne _ _ e] at hf
  exact F j d v hf hj hv
theorem Dn {dsts : List Nat} {vals vals' : List Value} {f : Nat -> Bool} {u : Nat -> Value} (F : Facts dsts vals f u) (h : ∀ j v, f j = true -> vals'[j]? = some v -> vals[j]? = some v) : Facts dsts vals' f u := fun j d v hf hd hv => F j d v hf hd (h j v hf hv)
def ansB (a : Ans) (sl : Value) : Obj := .cells #[.bool a.ok, .int .i64 a.n, sl] 44
theorem LsN.far {base : Nat} {sl : Value} {ls : List Int} {w w' : World} (h : LsN base sl ls w) (hb : ∀ b x, base <= b -> w.heap[b]? = some (.cells x 2) -> w'.heap[b]? = w.heap[b]?) : LsN base sl ls w' := by
 rcases h with h | ⟨B, h1, h2, h3⟩
 ·exact .inl h
 ·exact .inr ⟨B, h1, h2, h3.same (hb B _ h2 h3)⟩
theorem LsN.low {base base' : Nat} {sl : Value} {ls : List Int} {w : World} (h : LsN base sl ls w) (hb : base' <= base) : LsN base' sl ls w := by
 rcases h with h | ⟨B, h1, h2, h3⟩
 ·exact .inl h
 ·exact .inr ⟨B, h1, Nat.le_trans hb h2, h3⟩
theorem LsN.slice {base : Nat} {sl : Value} {ls : List Int} {w : World} (h : LsN base sl ls w) : ∃ x y z, sl = .slice x y z := by
 rcases h with ⟨e, _⟩ | ⟨B, e, _⟩ <;> exact ⟨_, _, _, e⟩
noncomputable def reg4_0 := rk Try.f4.body 0
noncomputable def reg4_1 := rk Try.f4.body 1
noncomputable def reg4_2 := rk Try.f4.body 2
noncomputable def reg4_3 := rk Try.f4.body 3
noncomputable def reg4_4 := rk Try.f4.body 4
noncomputable def reg4_5 := rk Try.f4.body 5
noncomputable def reg4_6 := rk Try.f4.body 6
noncomputable def reg4_7 := rk Try.f4.body 7
noncomputable def reg4_8 := rk Try.f4.body 8
noncomputable def reg4_9 := rk Try.f4.body 9
noncomputable def reg4_10 := rk Try.f4.body 10
noncomputable def reg4_11 := rk Try.f4.body 11
noncomputable def reg4_12 := rk Try.f4.body 12
noncomputable def reg4_14 := rk Try.f4.body 14
theorem size4_14 : reg4_14.size = 20 := by kernel_rfl
noncomputable def reg4_15 := rk Try.f4.body 15
theorem size4_15 : reg4_15.size = 20 := by kernel_rfl
noncomputable def reg4_16 := rk Try.f4.body 16
noncomputable def reg4_13 := rk Try.f4.body 13
noncomputable def reg4_17 := rk Try.f4.body 17
theorem size4_17 : reg4_17.size = 34 := by kernel_rfl
theorem z4 : reg4_0.size = 1 /\ reg4_1.size = 2 /\ reg4_2.size = 1 /\ reg4_3.size = 6 /\ reg4_4.size = 6 /\ reg4_5.size = 12 /\ reg4_6.size = 10 /\ reg4_7.size = 3 /\ reg4_8.size = 5 /\ reg4_9.size = 17 /\ reg4_10.size = 1 /\ reg4_11.size = 1 /\ reg4_12.size = 7 /\ reg4_13.size = 3 /\ reg4_14.size = 20 /\ reg4_15.size = 20 /\ reg4_16.size = 1 /\ reg4_17.size = 34 := by and_intros <;> kernel_rfl
theorem code4_is : Try.f4.body = some (.seq (.region 0 reg4_0 false) (.seq (.seq (.region 1 reg4_1 false) (.cond (.tmp 15 ) (.seq (.region 2 reg4_2 false) (.ret)) (.skip))) (.seq (.region 3 reg4_3 false) (.seq (.region 4 reg4_4 false) (.seq (.region 5 reg4_5 false) (.seq (.seq (.region 6 reg4_6 false) (.cond (.tmp 43 ) (.seq (.region 7 reg4_7 false) (.ret)) (.skip))) (.seq (.region 8 reg4_8 false) (.seq (.seq (.region 9 reg4_9 false) (.cond (.tmp 66 ) (.seq (.region 10 reg4_10 false) (.ret)) (.skip))) (.seq (.seq (.region 11 reg4_11 false) (.block 0 (.loop (.seq (.seq (.region 12 reg4_12 false) (.cond (.tmp 73 ) (.skip) (.exit 0))) (.seq (.block 1 (.seq (.region 14 reg4_14 true) (.seq (.region 15 reg4_15 true) (.cond (.tmp 111 ) (.seq (.region 16 reg4_16 false) (.ret)) (.skip))))) (.region 13 reg4_13 false)))))) (.seq (.region 17 reg4_17 true) (.ret))))))))))) := by kernel_rfl
noncomputable def tmI (xv iv : Value) (tb toff n0 tc Q kb lb p n i : Nat) (u : Nat -> Value) : Array Value := #[xv, .slice (some ⟨tb, toff, none⟩) n0 tc, u 2, u 3, .bool false, .pointer (some ⟨Q, 0, none⟩), iv, .pointer (some ⟨kb, 0, none⟩), .pointer (some ⟨lb, 0, none⟩), .pointer (some ⟨p, 0, none⟩), .int .i64 n, .int .i64 i, u 12, u 13, u 14, u 15, u 16, u 17, u 18, u 19, u 20, u 21, u 22, u 23, u 24, u 25, u 26, u 27, u 28, u 29, u 30, u 31, u 32, u 33, u 34, u 35, u 36, u 37, u 38, u 39, u 40, u 41, u 42, u 43, u 44, u 45, u 46, u 47, u 48, u 49, u 50, u 51, u 52, u 53, u 54, u 55, u 56, u 57, u 58, u 59, u 60, u 61, u 62, u 63, u 64, u 65, u 66, u 67, u 68, u 69, u 70, u 71, u 72, u 73, u 74, u 75, u 76, u 77, u 78, u 79, u 80, u 81, u 82, u 83, u 84, u 85, u 86, u 87, u 88, u 89, u 90, u 91, u 92, u 93, u 94, u 95, u 96, u 97, u 98, u 99, u 100, u 101, u 102, u 103, u 104, u 105, u 106, u 107, u 108, u 109, u 110, u 111, u 112, u 113, u 114, u 115, u 116, u 117, u 118, u 119, u 120, u 121, u 122, u 123, u 124, u 125, u 126, u 127, u 128, u 129, u 130, u 131, u 132, u 133, u 134, u 135, u 136, u 137, u 138, u 139, u 140, u 141, u 142, u 143, u 144]
def dsI : List Nat := [76, 77, 78, 79, 80, 81, 82, 83, 84, 85, 86, 87, 88, 89, 90, 91, 12, 13]
def vsI (tb toff n0 tc kb lb p n i : Nat) (o : OpV) (a : Ans) (A B : Nat) (sa sb : Value) : List Value := [.pointer (some ⟨kb, 0, none⟩), .slice (some ⟨tb, toff, none⟩) n0 tc, .int .i64 i, .pointer (some ⟨tb, toff + i * 4, none⟩), Bu o, .int .i64 n, Bw a sa, .pointer (some ⟨lb, 0, none⟩), .pointer (some ⟨p, 0, none⟩), .iface 37 (.pointer (some ⟨p, 0, none⟩)), .slice (some ⟨tb, toff, none⟩) n0 tc, .int .i64 i, .pointer (some ⟨tb, toff + i * 4, none⟩), Bu o, .int .i64 n, Bw a sb, .pointer (some ⟨A, 0, none⟩), .pointer (some ⟨B, 0, none⟩)]
structure AloQ (kb lb k p : Nat) (S S' : Sq) (c c' : Nat) (a : Ans) (W : World) (f : Nat -> Bool) (A B : Nat) (sa sb : Value) (w : World) : Prop where
 ik : SqI kb k (if f 6 then S' else S) w
 il : SqI lb k (if f 15 then S' else S) w
 cn : w.heap[p]? = some (.cells #[.int .i64 ((if f 15 then c' else c : Nat) : Int)] 39)
 la : f 6 = true -> LsN W.heap.size sa a.l w
 lc : f 15 = true -> LsN W.heap.size sb a.l w
 a1 : f 16 = true -> W.heap.size <= A /\ w.heap[A]? = some (if f 18 then ansB a sa else (.cells #[.bool false, .int .i64 0, .slice none 0 0] 44))
 b1 : f 17 = true -> W.heap.size <= B /\ w.heap[B]? = some (if f 19 then ansB a sb else (.cells #[.bool false, .int .i64 0, .slice none 0 0] 44))
 ne : f 16 = true -> f 17 = true -> A ≠ B
 old : ∀ b, b < W.heap.size -> b ≠ kb -> b ≠ lb -> b ≠ p -> w.heap[b]? = W.heap[b]?
 size : W.heap.size <= w.heap.size
section
variable {kb lb k p : Nat} {S S' : Sq} {c c' : Nat} {a : Ans} {W : World} {f : Nat -> Bool} {A B : Nat} {sa sb : Value} {w : World}
theorem AloQ.at (h : AloQ kb lb k p S S' c c' a W f A B sa sb w) (d : Nat) : AloQ kb lb k p S S' c c' a W f A B sa sb (w.at d) := ⟨h.ik.old rfl, h.il.old rfl, h.cn, h.la, h.lc, h.a1, h.b1, h.ne, h.old, h.size⟩
theorem AloQ.quiet (h : AloQ kb lb k p S S' c c' a W f A B sa sb w) {i : Nat} (h6 : i ≠ 6) (h15 : i ≠ 15) (h16 : i ≠ 16) (h17 : i ≠ 17) (h18 : i ≠ 18) (h19 : i ≠ 19) : AloQ kb lb k p S S' c c' a W (upd f i true) A B sa sb w := by
 refine ⟨?_, ?_, ?_, ?_, ?_, ?_, ?_, ?_, h.old, h.size⟩
 ·rw [upd_ne _ _ (Ne.symm h6)]; exact h.ik
 ·rw [upd_ne _ _ (Ne.symm h15)]; exact h.il
 ·rw [upd_ne _ _ (Ne.symm h15)]; exact h.cn
 ·rw [upd_ne _ _ (Ne.symm h6)]; exact h.la
 ·rw [upd_ne _ _ (Ne.symm h15)]; exact h.lc
 ·rw [upd_ne _ _ (Ne.symm h16), upd_ne _ _ (Ne.symm h18)]; exact h.a1
 ·rw [upd_ne _ _ (Ne.symm h17), upd_ne _ _ (Ne.symm h19)]; exact h.b1
 ·rw [upd_ne _ _ (Ne.symm h16), upd_ne _ _ (Ne.symm h17)]; exact h.ne
theorem calls_do {main : Bool} (xv iv : Value) (tb toff n0 tc Q n i : Nat) (o : OpV) (hi : i < n0) (hn0 : n0 <= 17592186044416) (hn1 : n <= k + 1) (hn2 : k + 1 <= n) (W : World)
  (hk : SqI kb k S W) (hl : SqI lb k S W) (hev : ¬ Ba S.v) (hc : W.heap[p]? = some (.cells #[.int .i64 (c : Nat)] 39)) (hfew : c <= 9223372036854) (t1 : kb ≠ lb) (t2 : kb ≠ p) (t3 : lb ≠ p) (h1 : tb ≠ kb) (h2 : tb ≠ lb) (h3 : tb ≠ p)
  (o0 : W.cell? ⟨tb, toff + i * 4, none⟩ = some (.int .i64 o.k)) (o1 : W.cell? ⟨tb, toff + i * 4 + 1, none⟩ = some (.int .i64 o.a)) (o2 : W.cell? ⟨tb, toff + i * 4 + 2, none⟩ = some (.int .i64 o.b)) (o3 : W.cell? ⟨tb, toff + i * 4 + 3, none⟩ = some (.int .i64 o.c))
  (kx : List Item) (cs : List Frame) (u0 : Nat -> Value) {Stop : Goroutine -> World -> Prop}
  (hend : ∀ (u : Nat -> Value) (A B : Nat) (sa sb : Value) (w : World), u 12 = .pointer (some ⟨A, 0, none⟩) -> u 13 = .pointer (some ⟨B, 0, none⟩) -> AloQ kb lb k p S (Cj k S o).1 c (c + Ob k S o) (Cj k S o).2 W (fun _ => true) A B sa sb w -> Walk Try.prog main (DR (fun _ => none)) Stop (G ((base 4).at ⟨tmI xv iv tb toff n0 tc Q kb lb p n i u, []⟩ (.inRegion reg4_14 [] :: kx)) cs) w) :
  Walk Try.prog main (DR (fun _ => none)) Stop (G ((base 4).at ⟨tmI xv iv tb toff n0 tc Q kb lb p n i u0, []⟩ (.code (.region 14 reg4_14 true) :: kx)) cs) W := by
 have hif1 := run_ifaceSteps
 have hif2 := ev_ifaceSteps
 obtain ⟨fsO, huO⟩ := Cf 47 (by kernel_rfl)
 have hk15 := hk.pos
 have hcU := fun w I => lcall_w (main := main) (V := fun _ => none) (lb := kb) (k := k) (s := S) (w := w) Oi I hev n hn1 hn2 o.k o.a o.b o.c
 have hcC := fun w I hcn => lcallC_w (main := main) (V := fun _ => none) (lb := lb) (k := k) (s := S) (w := w) Oi I hev n hn1 hn2 p (Ne.symm t3) c hcn hfew hk15 o.k o.a o.b o.c
 have hoe : (⟨o.k, o.a, o.b, o.c⟩ : OpV) = o := rfl
 simp only [hoe] at hcU hcC
 clear hoe hn1 hn2
 generalize hX : Cj k S o = X at *
 generalize hY : c + Ob k S o = c' at *
 obtain ⟨S', a⟩ := X
 dsimp only at hend hcU hcC
 clear hX hY
 have l1 : kb < W.heap.size := hk.lt
 have l3 : lb < W.heap.size := hl.lt
 have l5 : p < W.heap.size := (Array.getElem?_eq_some_iff.1 hc).1
 refine Cu (Inv := fun f ac' w => ∃ u A B sa sb, ac' = ⟨tmI xv iv tb toff n0 tc Q kb lb p n i u, []⟩ /\ Facts dsI (vsI tb toff n0 tc kb lb p n i o a A B sa sb) f u /\ AloQ kb lb k p S S' c c' a W f A B sa sb w) (by kernel_rfl) (by kernel_rfl) (fun d => ⟨u0, 0, 0, undef, undef, rfl, Cx _ _ _, AloQ.at ⟨hk, hl, hc, fun h => (by cases h), fun h => (by cases h), fun h => (by cases h), fun h => (by cases h), fun h => (by cases h), fun _ _ _ _ _ => rfl, Nat.le_refl _⟩ d⟩) ?_ ?_
 ·rintro f j op act w ⟨u, A, B, sa, sb, rfl, F0, Q⟩ hC hfj ho hdeps rest hr
  have hj : j < 20 := by have := (Array.getElem?_eq_some_iff.1 ho).1; rw [size4_14] at this; exact this
  have hcell : ∀ {y : Nat} {v : Value}, W.cell? ⟨tb, y, none⟩ = some v -> w.cell? ⟨tb, y, none⟩ = some v := fun {y v} h => (World.cell?_of_block (a := ⟨tb, y, none⟩) (Q.old tb (Al h) h1 h2 h3)).trans h
  have hC' := hC
  have hQs := Q.size
  match j, hj with
  | 0, _ =>
   clear hdeps hC hC' hcU hcC hend
   simp only [tmI] at hr ⊢
   (refine Walk.oq ?_; try walk_nrm)
   refine hr _ _ ⟨upd u 76 (.pointer (some ⟨kb, 0, none⟩)), A, B, sa, sb, ?_, F0.set (by decide) rfl rfl, Q.quiet (by decide) (by decide) (by decide) (by decide) (by decide) (by decide)⟩
   simp [tmI, upd]
  | 1, _ =>
   clear hdeps hC hC' hcU hcC hend
   simp only [tmI] at hr ⊢
   (refine Walk.oq ?_; try walk_nrm)
   refine hr _ _ ⟨upd u 77 (.slice (some ⟨tb, toff, none⟩) n0 tc), A, B, sa, sb, ?_, F0.set (by decide) rfl rfl, Q.quiet (by decide) (by decide) (by decide) (by decide) (by decide) (by decide)⟩
   simp [tmI, upd]
  | 2, _ =>
   clear hdeps hC hC' hcU hcC hend
   simp only [tmI] at hr ⊢
   (refine Walk.oq ?_; try walk_nrm)
   refine hr _ _ ⟨upd u 78 (.int .i64 i), A, B, sa, sb, ?_, F0.set (by decide) rfl rfl, Q.quiet (by decide) (by decide) (by decide) (by decide) (by decide) (by decide)⟩
   simp [tmI, upd]
  | 3, _ =>
   have hd := Af (l := [1, 2]) (by kernel_rfl) ho hdeps
   have e77 := F0 1 77 _ (hd 1 (by simp)) rfl rfl
   have e78 := F0 2 78 _ (hd 2 (by simp)) rfl rfl
   have hi0 : (0 : Int) <= i := by omega
   have hi3 : decide (i < n0) = true := by simp; omega
   have hi1 : decide ((i : Int) < n0) = true := by simp; omega
   have hi4 : (i : Int) < n0 := by omega
   clear hdeps hC hC' hcU hcC hend
   simp only [tmI] at hr ⊢
   simp only [e77, e78]
   (refine Walk.oq ?_; try walk_nrm)
   refine hr _ _ ⟨upd u 79 (.pointer (some ⟨tb, toff + i * 4, none⟩)), A, B, sa, sb, ?_, F0.set (by decide) rfl rfl, Q.quiet (by decide) (by decide) (by decide) (by decide) (by decide) (by decide)⟩
   simp [tmI, upd, e77, e78]
  | 4, _ =>
   have hd := Af (l := [3]) (by kernel_rfl) ho hdeps
   have e79 := F0 3 79 _ (hd 3 (by simp)) rfl rfl
   have hcs : ∀ (y : Nat) (v : Value), ([.int .i64 o.k, .int .i64 o.a, .int .i64 o.b, .int .i64 o.c] : List Value)[y]? = some v -> w.cell? ⟨tb, toff + i * 4 + y, none⟩ = some v := fun y v hv => by
    match y, hv with
    | 0, hv => cases hv; exact hcell o0
    | 1, hv => cases hv; exact hcell o1
    | 2, hv => cases hv; exact hcell o2
    | 3, hv => cases hv; exact hcell o3
   clear hdeps hC hC' hcU hcC hend
   simp only [tmI] at hr ⊢
   simp only [e79]
   refine Walk.loadS 47 (.tmp 79) Ao (by rfl) (by decide) rfl tb (toff + i * 4) [.int .i64 o.k, .int .i64 o.a, .int .i64 o.b, .int .i64 o.c] (.struct fsO) rfl hcs huO rfl (by kernel_rfl) ?_
   walk_nrm
   refine hr _ _ ⟨upd u 80 (Bu o), A, B, sa, sb, ?_, F0.set (by decide) rfl rfl, Q.quiet (by decide) (by decide) (by decide) (by decide) (by decide) (by decide)⟩
   simp [tmI, upd, Bu, e79]
  | 5, _ =>
   clear hdeps hC hC' hcU hcC hend
   simp only [tmI] at hr ⊢
   (refine Walk.oq ?_; try walk_nrm)
   refine hr _ _ ⟨upd u 81 (.int .i64 n), A, B, sa, sb, ?_, F0.set (by decide) rfl rfl, Q.quiet (by decide) (by decide) (by decide) (by decide) (by decide) (by decide)⟩
   simp [tmI, upd]
  | 6, _ =>
   have hd := Af (l := [0, 4, 5]) (by kernel_rfl) ho hdeps
   have e76 := F0 0 76 _ (hd 0 (by simp)) rfl rfl
   have e80 := F0 4 80 _ (hd 4 (by simp)) rfl rfl
   have e81 := F0 5 81 _ (hd 5 (by simp)) rfl rfl
   have ik := Q.ik
   rw [hfj] at ik
   simp only [Bool.false_eq_true, if_false] at ik
   have hcc := hcU w ik
   clear hdeps hC hend hcU hcC
   simp only [tmI] at hr ⊢
   simp only [e76, e80, e81, Bu]
   refine Fu (Post := fun v w' => ∃ sl, v = Bw a sl /\ LsN w.heap.size sl a.l w' /\ Solo kb k S' w w') ?_ Ao (by rfl) (by decide) rfl Try.func19 (by kernel_rfl) (by rfl) ⟨rfl, rfl, _, Try.func4⟩ ?_
   ·walk_nrm
    exact hcc
   rintro v w1 ⟨sl, rfl, hls, hCI, hCo, hCs⟩
   walk_nrm
   have h15 : f 15 = false := by
    cases h : f 15 with
    | false => rfl
    | true => have := hC'.deps (i := 15) (l := [7, 9, 13, 14, 6]) h (by kernel_rfl) 6 (by simp); rw [hfj] at this; cases this
   refine hr _ _ ⟨upd u 82 (Bw a sl), A, B, sl, sb, ?_, Facts.set (Dn F0 fun j v hf hv => ?_) (by decide) rfl rfl, ⟨?_, ?_, ?_, fun h => ?_, fun h => ?_, fun h => ?_, fun h => ?_, fun h h2 => ?_, fun b hb g1 g2 g3 => ?_, by omega⟩⟩
   ·simp [tmI, upd, Bw, Bu, e76, e80, e81]
   ·exact match j, hf, hv with
     | 0, _, hv => hv
     | 1, _, hv => hv
     | 2, _, hv => hv
     | 3, _, hv => hv
     | 4, _, hv => hv
     | 5, _, hv => hv
     | 6, hf, hv => by rw [hfj] at hf; cases hf
     | 7, _, hv => hv
     | 8, _, hv => hv
     | 9, _, hv => hv
     | 10, _, hv => hv
     | 11, _, hv => hv
     | 12, _, hv => hv
     | 13, _, hv => hv
     | 14, _, hv => hv
     | 15, _, hv => hv
     | 16, _, hv => hv
     | 17, _, hv => hv
     | j + 18, _, hv => hv
   ·rw [upd_same, if_pos rfl]; exact hCI
   ·rw [upd_ne _ _ (by decide)]; exact Q.il.old (hCo lb (by omega) (Ne.symm t1))
   ·rw [upd_ne _ _ (by decide)]; exact (hCo p (by omega) (Ne.symm t2)).trans Q.cn
   ·exact hls.low hQs
   ·rw [upd_ne _ _ (by decide), h15] at h; cases h
   ·rw [upd_ne _ _ (by decide)] at h
    rw [upd_ne _ _ (by decide)]
    obtain ⟨z1, z2⟩ := Q.a1 h
    have h18 : f 18 = false := by
     cases h : f 18 with
     | false => rfl
     | true => have := hC'.deps (i := 18) (l := [16, 6]) h (by kernel_rfl) 6 (by simp); rw [hfj] at this; cases this
    rw [h18] at z2 ⊢
    exact ⟨z1, (hCo A (Array.getElem?_eq_some_iff.1 z2).1 (by omega)).trans z2⟩
   ·rw [upd_ne _ _ (by decide)] at h
    rw [upd_ne _ _ (by decide)]
    obtain ⟨z1, z2⟩ := Q.b1 h
    exact ⟨z1, (hCo B (Array.getElem?_eq_some_iff.1 z2).1 (by omega)).trans z2⟩
   ·rw [upd_ne _ _ (by decide)] at h h2
    exact Q.ne h h2
   ·exact (hCo b (by omega) g1).trans (Q.old b hb g1 g2 g3)
  | 7, _ =>
   clear hdeps hC hC' hcU hcC hend
   simp only [tmI] at hr ⊢
   (refine Walk.oq ?_; try walk_nrm)
   refine hr _ _ ⟨upd u 83 (.pointer (some ⟨lb, 0, none⟩)), A, B, sa, sb, ?_, F0.set (by decide) rfl rfl, Q.quiet (by decide) (by decide) (by decide) (by decide) (by decide) (by decide)⟩
   simp [tmI, upd]
  | 8, _ =>
   clear hdeps hC hC' hcU hcC hend
   simp only [tmI] at hr ⊢
   (refine Walk.oq ?_; try walk_nrm)
   refine hr _ _ ⟨upd u 84 (.pointer (some ⟨p, 0, none⟩)), A, B, sa, sb, ?_, F0.set (by decide) rfl rfl, Q.quiet (by decide) (by decide) (by decide) (by decide) (by decide) (by decide)⟩
   simp [tmI, upd]
  | 9, _ =>
   have hd := Af (l := [8]) (by kernel_rfl) ho hdeps
   have e84 := F0 8 84 _ (hd 8 (by simp)) rfl rfl
   clear hdeps hC hC' hcU hcC hend
   simp only [tmI] at hr ⊢
   simp only [e84]
   (refine Walk.oq ?_; try walk_nrm)
   refine hr _ _ ⟨upd u 85 (.iface 37 (.pointer (some ⟨p, 0, none⟩))), A, B, sa, sb, ?_, F0.set (by decide) rfl rfl, Q.quiet (by decide) (by decide) (by decide) (by decide) (by decide) (by decide)⟩
   simp [tmI, upd, e84]
  | 10, _ =>
   clear hdeps hC hC' hcU hcC hend
   simp only [tmI] at hr ⊢
   (refine Walk.oq ?_; try walk_nrm)
   refine hr _ _ ⟨upd u 86 (.slice (some ⟨tb, toff, none⟩) n0 tc), A, B, sa, sb, ?_, F0.set (by decide) rfl rfl, Q.quiet (by decide) (by decide) (by decide) (by decide) (by decide) (by decide)⟩
   simp [tmI, upd]
  | 11, _ =>
   clear hdeps hC hC' hcU hcC hend
   simp only [tmI] at hr ⊢
   (refine Walk.oq ?_; try walk_nrm)
   refine hr _ _ ⟨upd u 87 (.int .i64 i), A, B, sa, sb, ?_, F0.set (by decide) rfl rfl, Q.quiet (by decide) (by decide) (by decide) (by decide) (by decide) (by decide)⟩
   simp [tmI, upd]
  | 12, _ =>
   have hd := Af (l := [10, 11]) (by kernel_rfl) ho hdeps
   have e86 := F0 10 86 _ (hd 10 (by simp)) rfl rfl
   have e87 := F0 11 87 _ (hd 11 (by simp)) rfl rfl
   have hi0 : (0 : Int) <= i := by omega
   have hi3 : decide (i < n0) = true := by simp; omega
   have hi1 : decide ((i : Int) < n0) = true := by simp; omega
   have hi4 : (i : Int) < n0 := by omega
   clear hdeps hC hC' hcU hcC hend
   simp only [tmI] at hr ⊢
   simp only [e86, e87]
   (refine Walk.oq ?_; try walk_nrm)
   refine hr _ _ ⟨upd u 88 (.pointer (some ⟨tb, toff + i * 4, none⟩)), A, B, sa, sb, ?_, F0.set (by decide) rfl rfl, Q.quiet (by decide) (by decide) (by decide) (by decide) (by decide) (by decide)⟩
   simp [tmI, upd, e86, e87]
  | 13, _ =>
   have hd := Af (l := [12]) (by kernel_rfl) ho hdeps
   have e88 := F0 12 88 _ (hd 12 (by simp)) rfl rfl
   have hcs : ∀ (y : Nat) (v : Value), ([.int .i64 o.k, .int .i64 o.a, .int .i64 o.b, .int .i64 o.c] : List Value)[y]? = some v -> w.cell? ⟨tb, toff + i * 4 + y, none⟩ = some v := fun y v hv => by
    match y, hv with
    | 0, hv => cases hv; exact hcell o0
    | 1, hv => cases hv; exact hcell o1
    | 2, hv => cases hv; exact hcell o2
    | 3, hv => cases hv; exact hcell o3
   clear hdeps hC hC' hcU hcC hend
   simp only [tmI] at hr ⊢
   simp only [e88]
   refine Walk.loadS 47 (.tmp 88) Ao (by rfl) (by decide) rfl tb (toff + i * 4) [.int .i64 o.k, .int .i64 o.a, .int .i64 o.b, .int .i64 o.c] (.struct fsO) rfl hcs huO rfl (by kernel_rfl) ?_
   walk_nrm
   refine hr _ _ ⟨upd u 89 (Bu o), A, B, sa, sb, ?_, F0.set (by decide) rfl rfl, Q.quiet (by decide) (by decide) (by decide) (by decide) (by decide) (by decide)⟩
   simp [tmI, upd, Bu, e88]
  | 14, _ =>
   clear hdeps hC hC' hcU hcC hend
   simp only [tmI] at hr ⊢
   (refine Walk.oq ?_; try walk_nrm)
   refine hr _ _ ⟨upd u 90 (.int .i64 n), A, B, sa, sb, ?_, F0.set (by decide) rfl rfl, Q.quiet (by decide) (by decide) (by decide) (by decide) (by decide) (by decide)⟩
   simp [tmI, upd]
  | 15, _ =>
   have hd := Af (l := [7, 9, 13, 14, 6]) (by kernel_rfl) ho hdeps
   have e83 := F0 7 83 _ (hd 7 (by simp)) rfl rfl
   have e85 := F0 9 85 _ (hd 9 (by simp)) rfl rfl
   have e89 := F0 13 89 _ (hd 13 (by simp)) rfl rfl
   have e90 := F0 14 90 _ (hd 14 (by simp)) rfl rfl
   have il := Q.il
   have cn := Q.cn
   rw [hfj] at il cn
   simp only [Bool.false_eq_true, if_false] at il cn
   have hcc := hcC w il cn
   have h6 := hd 6 (by simp)
   clear hdeps hC hend hcU hcC
   simp only [tmI] at hr ⊢
   simp only [e83, e85, e89, e90, Bu]
   refine Fu (Post := fun v w' => ∃ sl, v = Bw a sl /\ LsN w.heap.size sl a.l w' /\ SoloC lb k p S' c' w w') ?_ Ao (by rfl) (by decide) rfl Try.func19 (by kernel_rfl) (by rfl) ⟨rfl, rfl, _, Try.func4⟩ ?_
   ·walk_nrm
    exact hcc
   rintro v w1 ⟨sl, rfl, hls, hCI, hCn, hCo, hCs⟩
   walk_nrm
   refine hr _ _ ⟨upd u 91 (Bw a sl), A, B, sa, sl, ?_, Facts.set (Dn F0 fun j v hf hv => ?_) (by decide) rfl rfl, ⟨?_, ?_, ?_, fun h => ?_, fun h => ?_, fun h => ?_, fun h => ?_, fun h h2 => ?_, fun b hb g1 g2 g3 => ?_, by omega⟩⟩
   ·simp [tmI, upd, Bw, Bu, e83, e85, e89, e90]
   ·exact match j, hf, hv with
     | 0, _, hv => hv
     | 1, _, hv => hv
     | 2, _, hv => hv
     | 3, _, hv => hv
     | 4, _, hv => hv
     | 5, _, hv => hv
     | 6, _, hv => hv
     | 7, _, hv => hv
     | 8, _, hv => hv
     | 9, _, hv => hv
     | 10, _, hv => hv
     | 11, _, hv => hv
     | 12, _, hv => hv
     | 13, _, hv => hv
     | 14, _, hv => hv
     | 15, hf, hv => by rw [hfj] at hf; cases hf
     | 16, _, hv => hv
     | 17, _, hv => hv
     | j + 18, _, hv => hv
   ·rw [upd_ne _ _ (by decide)]; exact Q.ik.old (hCo kb (by omega) t1 t2)
   ·rw [upd_same, if_pos rfl]; exact hCI
   ·rw [upd_same, if_pos rfl]; exact hCn
   ·exact (Q.la h6).far fun b x hb hx => hCo b (Array.getElem?_eq_some_iff.1 hx).1 (by omega) (by omega)
   ·exact hls.low hQs
   ·rw [upd_ne _ _ (by decide)] at h
    rw [upd_ne _ _ (by decide)]
    obtain ⟨z1, z2⟩ := Q.a1 h
    exact ⟨z1, (hCo A (Array.getElem?_eq_some_iff.1 z2).1 (by omega) (by omega)).trans z2⟩
   ·rw [upd_ne _ _ (by decide)] at h
    rw [upd_ne _ _ (by decide)]
    obtain ⟨z1, z2⟩ := Q.b1 h
    have h19 : f 19 = false := by
     cases h : f 19 with
     | false => rfl
     | true => have := hC'.deps (i := 19) (l := [17, 15]) h (by kernel_rfl) 15 (by simp); rw [hfj] at this; cases this
    rw [h19] at z2 ⊢
    exact ⟨z1, (hCo B (Array.getElem?_eq_some_iff.1 z2).1 (by omega) (by omega)).trans z2⟩
   ·rw [upd_ne _ _ (by decide)] at h h2
    exact Q.ne h h2
   ·exact (hCo b (by omega) g2 g3).trans (Q.old b hb g1 g2 g3)
  | 16, _ =>
   clear hdeps hC hcU hcC hend
   have hN := heap_alloc_new w (.cells #[.bool false, .int .i64 0, .slice none 0 0] 44)
   have hO : ∀ b, b < w.heap.size -> (w.alloc (.cells #[.bool false, .int .i64 0, .slice none 0 0] 44)).heap[b]? = w.heap[b]? := fun b hb => Ab _ _ hb
   have hZ : (w.alloc (.cells #[.bool false, .int .i64 0, .slice none 0 0] 44)).heap.size = w.heap.size + 1 := by simp
   have hls : ∀ {sl : Value}, LsN W.heap.size sl a.l w -> LsN W.heap.size sl a.l (w.alloc (.cells #[.bool false, .int .i64 0, .slice none 0 0] 44)) := fun h => h.far fun b x hb hx => hO b (Array.getElem?_eq_some_iff.1 hx).1
   have h1x : f 18 = false := by
    cases h : f 18 with
    | false => rfl
    | true =>
     have := hC'.deps (i := 18) (l := [16]) h (by kernel_rfl) 16 (by simp)
     rw [hfj] at this
     cases this
   simp only [tmI] at hr ⊢
   (refine Walk.oa ?_; try walk_nrm)
   refine hr _ _ ⟨upd u 12 (.pointer (some ⟨w.heap.size, 0, none⟩)), w.heap.size, B, sa, sb, ?_, Facts.set (Dn F0 fun j v hf hv => ?_) (by decide) rfl rfl, ⟨?_, ?_, ?_, fun h => ?_, fun h => ?_, fun h => ?_, fun h => ?_, fun h h2 => ?_, fun b hb g1 g2 g3 => (hO b (by omega)).trans (Q.old b hb g1 g2 g3), by omega⟩⟩
   ·simp [tmI, upd]
   ·exact match j, hf, hv with
     | 0, _, hv => hv
     | 1, _, hv => hv
     | 2, _, hv => hv
     | 3, _, hv => hv
     | 4, _, hv => hv
     | 5, _, hv => hv
     | 6, _, hv => hv
     | 7, _, hv => hv
     | 8, _, hv => hv
     | 9, _, hv => hv
     | 10, _, hv => hv
     | 11, _, hv => hv
     | 12, _, hv => hv
     | 13, _, hv => hv
     | 14, _, hv => hv
     | 15, _, hv => hv
     | 16, hf, hv => by rw [hfj] at hf; cases hf
     | 17, _, hv => hv
     | j + 18, _, hv => hv
   ·rw [upd_ne _ _ (by decide)]; exact Q.ik.old (hO kb (by omega))
   ·rw [upd_ne _ _ (by decide)]; exact Q.il.old (hO lb (by omega))
   ·rw [upd_ne _ _ (by decide)]; exact (hO p (by omega)).trans Q.cn
   ·rw [upd_ne _ _ (by decide)] at h; exact hls (Q.la h)
   ·rw [upd_ne _ _ (by decide)] at h; exact hls (Q.lc h)
   ·rw [upd_ne _ _ (by decide), h1x]
    exact ⟨hQs, hN⟩
   ·rw [upd_ne _ _ (by decide)] at h
    rw [upd_ne _ _ (by decide)]
    obtain ⟨z1, z2⟩ := Q.b1 h
    exact ⟨z1, (hO _ (Array.getElem?_eq_some_iff.1 z2).1).trans z2⟩
   ·rw [upd_ne _ _ (by decide)] at h2
    have := (Array.getElem?_eq_some_iff.1 (Q.b1 h2).2).1
    omega
  | 17, _ =>
   clear hdeps hC hcU hcC hend
   have hN := heap_alloc_new w (.cells #[.bool false, .int .i64 0, .slice none 0 0] 44)
   have hO : ∀ b, b < w.heap.size -> (w.alloc (.cells #[.bool false, .int .i64 0, .slice none 0 0] 44)).heap[b]? = w.heap[b]? := fun b hb => Ab _ _ hb
   have hZ : (w.alloc (.cells #[.bool false, .int .i64 0, .slice none 0 0] 44)).heap.size = w.heap.size + 1 := by simp
   have hls : ∀ {sl : Value}, LsN W.heap.size sl a.l w -> LsN W.heap.size sl a.l (w.alloc (.cells #[.bool false, .int .i64 0, .slice none 0 0] 44)) := fun h => h.far fun b x hb hx => hO b (Array.getElem?_eq_some_iff.1 hx).1
   have h1x : f 19 = false := by
    cases h : f 19 with
    | false => rfl
    | true =>
     have := hC'.deps (i := 19) (l := [17]) h (by kernel_rfl) 17 (by simp)
     rw [hfj] at this
     cases this
   simp only [tmI] at hr ⊢
   (refine Walk.oa ?_; try walk_nrm)
   refine hr _ _ ⟨upd u 13 (.pointer (some ⟨w.heap.size, 0, none⟩)), A, w.heap.size, sa, sb, ?_, Facts.set (Dn F0 fun j v hf hv => ?_) (by decide) rfl rfl, ⟨?_, ?_, ?_, fun h => ?_, fun h => ?_, fun h => ?_, fun h => ?_, fun h h2 => ?_, fun b hb g1 g2 g3 => (hO b (by omega)).trans (Q.old b hb g1 g2 g3), by omega⟩⟩
   ·simp [tmI, upd]
   ·exact match j, hf, hv with
     | 0, _, hv => hv
     | 1, _, hv => hv
     | 2, _, hv => hv
     | 3, _, hv => hv
     | 4, _, hv => hv
     | 5, _, hv => hv
     | 6, _, hv => hv
     | 7, _, hv => hv
     | 8, _, hv => hv
     | 9, _, hv => hv
     | 10, _, hv => hv
     | 11, _, hv => hv
     | 12, _, hv => hv
     | 13, _, hv => hv
     | 14, _, hv => hv
     | 15, _, hv => hv
     | 16, _, hv => hv
     | 17, hf, hv => by rw [hfj] at hf; cases hf
     | j + 18, _, hv => hv
   ·rw [upd_ne _ _ (by decide)]; exact Q.ik.old (hO kb (by omega))
   ·rw [upd_ne _ _ (by decide)]; exact Q.il.old (hO lb (by omega))
   ·rw [upd_ne _ _ (by decide)]; exact (hO p (by omega)).trans Q.cn
   ·rw [upd_ne _ _ (by decide)] at h; exact hls (Q.la h)
   ·rw [upd_ne _ _ (by decide)] at h; exact hls (Q.lc h)
   ·rw [upd_ne _ _ (by decide)] at h
    rw [upd_ne _ _ (by decide)]
    obtain ⟨z1, z2⟩ := Q.a1 h
    exact ⟨z1, (hO _ (Array.getElem?_eq_some_iff.1 z2).1).trans z2⟩
   ·rw [upd_ne _ _ (by decide), h1x]
    exact ⟨hQs, hN⟩
   ·rw [upd_ne _ _ (by decide)] at h
    have := (Array.getElem?_eq_some_iff.1 (Q.a1 h).2).1
    omega
  | 18, _ =>
   have hd := Af (l := [16, 6]) (by kernel_rfl) ho hdeps
   have e12 := F0 16 12 _ (hd 16 (by simp)) rfl rfl
   have e82 := F0 6 82 _ (hd 6 (by simp)) rfl rfl
   have hz := Q.a1 (hd 16 (by simp))
   rw [hfj] at hz
   simp only [Bool.false_eq_true, if_false] at hz
   obtain ⟨z1, z2⟩ := hz
   obtain ⟨sx, sy, sz, rfl⟩ := (Q.la (hd 6 (by simp))).slice
   have hO : ∀ b, b ≠ A -> (w.setRow A #[.bool a.ok, .int .i64 a.n, .slice sx sy sz]).heap[b]? = w.heap[b]? := fun b hb => Aq _ _ hb
   have hN := setRow_self (cells := #[.bool a.ok, .int .i64 a.n, .slice sx sy sz]) z2
   have hZ : (w.setRow A #[.bool a.ok, .int .i64 a.n, .slice sx sy sz]).heap.size = w.heap.size := Az _ _ _
   have hls : ∀ {sl : Value}, LsN W.heap.size sl a.l w -> LsN W.heap.size sl a.l (w.setRow A #[.bool a.ok, .int .i64 a.n, .slice sx sy sz]) := fun h => h.far fun b x hb hx => hO b fun e => by
    rw [e, z2] at hx
    simp at hx
   clear hdeps hC hC' hcU hcC hend
   simp only [tmI] at hr ⊢
   simp only [e12, e82, Bw]
   refine Ap 44 (.tmp 12) (.tmp 82) Ao (by rfl) (by decide) rfl A #[.bool a.ok, .int .i64 a.n, .slice sx sy sz] _ 44 rfl rfl z2 (by kernel_rfl) (by rfl) (by simp [Value.oneCell']) (Oi _) ?_
   walk_nrm
   refine hr _ _ ⟨u, A, B, .slice sx sy sz, sb, ?_, Ny F0 rfl, ⟨?_, ?_, ?_, fun h => ?_, fun h => ?_, fun h => ?_, fun h => ?_, fun h h2 => ?_, fun b hb g1 g2 g3 => (hO b (by omega)).trans (Q.old b hb g1 g2 g3), by omega⟩⟩
   ·simp [tmI, e12, e82, Bw]
   ·rw [upd_ne _ _ (by decide)]; exact Q.ik.old (hO kb (by omega))
   ·rw [upd_ne _ _ (by decide)]; exact Q.il.old (hO lb (by omega))
   ·rw [upd_ne _ _ (by decide)]; exact (hO p (by omega)).trans Q.cn
   ·rw [upd_ne _ _ (by decide)] at h; exact hls (Q.la h)
   ·rw [upd_ne _ _ (by decide)] at h; exact hls (Q.lc h)
   ·rw [upd_same, if_pos rfl]
    exact ⟨z1, hN⟩
   ·rw [upd_ne _ _ (by decide)] at h
    rw [upd_ne _ _ (by decide)]
    obtain ⟨y1, y2⟩ := Q.b1 h
    exact ⟨y1, (hO _ (Ne.symm (Q.ne (hd 16 (by simp)) h))).trans y2⟩
   ·rw [upd_ne _ _ (by decide)] at h h2
    exact Q.ne h h2
  | 19, _ =>
   have hd := Af (l := [17, 15, 18]) (by kernel_rfl) ho hdeps
   have e13 := F0 17 13 _ (hd 17 (by simp)) rfl rfl
   have e91 := F0 15 91 _ (hd 15 (by simp)) rfl rfl
   have hz := Q.b1 (hd 17 (by simp))
   rw [hfj] at hz
   simp only [Bool.false_eq_true, if_false] at hz
   obtain ⟨z1, z2⟩ := hz
   obtain ⟨sx, sy, sz, rfl⟩ := (Q.lc (hd 15 (by simp))).slice
   have hO : ∀ b, b ≠ B -> (w.setRow B #[.bool a.ok, .int .i64 a.n, .slice sx sy sz]).heap[b]? = w.heap[b]? := fun b hb => Aq _ _ hb
   have hN := setRow_self (cells := #[.bool a.ok, .int .i64 a.n, .slice sx sy sz]) z2
   have hZ : (w.setRow B #[.bool a.ok, .int .i64 a.n, .slice sx sy sz]).heap.size = w.heap.size := Az _ _ _
   have hls : ∀ {sl : Value}, LsN W.heap.size sl a.l w -> LsN W.heap.size sl a.l (w.setRow B #[.bool a.ok, .int .i64 a.n, .slice sx sy sz]) := fun h => h.far fun b x hb hx => hO b fun e => by
    rw [e, z2] at hx
    simp at hx
   have h16 : f 16 = true := hC'.deps (i := 18) (l := [16]) (hd 18 (by simp)) (by kernel_rfl) 16 (by simp)
   clear hdeps hC hC' hcU hcC hend
   simp only [tmI] at hr ⊢
   simp only [e13, e91, Bw]
   refine Ap 44 (.tmp 13) (.tmp 91) Ao (by rfl) (by decide) rfl B #[.bool a.ok, .int .i64 a.n, .slice sx sy sz] _ 44 rfl rfl z2 (by kernel_rfl) (by rfl) (by simp [Value.oneCell']) (Oi _) ?_
   walk_nrm
   refine hr _ _ ⟨u, A, B, sa, .slice sx sy sz, ?_, Ny F0 rfl, ⟨?_, ?_, ?_, fun h => ?_, fun h => ?_, fun h => ?_, fun h => ?_, fun h h2 => ?_, fun b hb g1 g2 g3 => (hO b (by omega)).trans (Q.old b hb g1 g2 g3), by omega⟩⟩
   ·simp [tmI, e13, e91, Bw]
   ·rw [upd_ne _ _ (by decide)]; exact Q.ik.old (hO kb (by omega))
   ·rw [upd_ne _ _ (by decide)]; exact Q.il.old (hO lb (by omega))
   ·rw [upd_ne _ _ (by decide)]; exact (hO p (by omega)).trans Q.cn
   ·rw [upd_ne _ _ (by decide)] at h; exact hls (Q.la h)
   ·rw [upd_ne _ _ (by decide)] at h; exact hls (Q.lc h)
   ·rw [upd_ne _ _ (by decide)] at h
    rw [upd_ne _ _ (by decide)]
    obtain ⟨y1, y2⟩ := Q.a1 h
    exact ⟨y1, (hO _ (Q.ne h (hd 17 (by simp)))).trans y2⟩
   ·rw [upd_same, if_pos rfl]
    exact ⟨z1, hN⟩
   ·rw [upd_ne _ _ (by decide)] at h h2
    exact Q.ne h h2
 ·rintro f act w ⟨u, A, B, sa, sb, rfl, F0, Q⟩ hall
  have g : ∀ j, j < 20 -> f j = true := fun j hj => hall j (by rw [size4_14]; exact hj)
  refine hend u A B sa sb w (F0 16 12 _ (g 16 (by decide)) rfl rfl) (F0 17 13 _ (g 17 (by decide)) rfl rfl) ?_
  obtain ⟨q1, q2, q3, q4, q5, q6, q7, q8, q9, q10⟩ := Q
  rw [g 6 (by decide)] at q1
  rw [g 15 (by decide)] at q2 q3
  rw [g 18 (by decide)] at q6
  rw [g 19 (by decide)] at q7
  exact ⟨q1, q2, q3, fun _ => q4 (g 6 (by decide)), fun _ => q5 (g 15 (by decide)), fun _ => q6 (g 16 (by decide)), fun _ => q7 (g 17 (by decide)), fun _ _ => q8 (g 16 (by decide)) (g 17 (by decide)), q9, q10⟩
end
end
end Go.Proofs.Ytjenoiekfkhafaa
