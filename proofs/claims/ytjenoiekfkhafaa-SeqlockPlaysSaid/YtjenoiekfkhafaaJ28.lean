/- Part 28. -/
import Derived.Test.YtjenoiekfkhafaaJ25
import Derived.Test.YtjenoiekfkhafaaJ26
import Derived.Test.YtjenoiekfkhafaaJ27
set_option linter.unusedSimpArgs false
set_option linter.unusedVariables false
set_option linter.unusedVariables false
set_option maxHeartbeats 8000000
set_option maxRecDepth 100000
namespace Go.Proofs.Ytjenoiekfkhafaa
open Go.Conc Go.RowKit Go.Relay
open Go.ConcN (upd upd_ne upd_same)
section
def CallP (main : Bool) (V : Nat → Option Wait) (f : FuncId) (args : Array Value) (w : World) (Post : Value → World → Prop) : Prop :=
 ∀ (c : Frame) (cs : List Frame), Plain c → Walk Try.prog main (DR V) (fun g w' => ∃ v, Post v w' ∧ g = G (c.finish v) cs) (G (Frame.enter Try.prog f args .normal) (c :: cs)) w
section
variable {main : Bool} {V : Nat → Option Wait} {Stop : Goroutine → World → Prop} {w : World} {b : Frame} {a : Act} {k : List Item} {cs : List Frame} {ops : Array Oper} {i : Nat} {rest : List Nat} {o : Oper}
theorem CallP.mono {f : FuncId} {args : Array Value} {Post Post' : Value → World → Prop} (h : CallP main V f args w Post) (hP : ∀ v w', Post v w' → Post' v w') : CallP main V f args w Post' :=
 fun c cs hp => (h c cs hp).mono fun g w' ⟨v, hv, e⟩ => ⟨v, hP v w' hv, e⟩
theorem Walk.callP {f : FuncId} {fn : Func} {args : Array Operand} {ats : Array TypeId} {Post : Value → World → Prop} (hc : CallP main V f (args.map a.eval) w Post) (ho : ops[i]? = some o) (hw : Region.wanted o (yielded ops a.tmps) = true) (hk : b.kind ≠ .early) (hop : o.op = .call { callee := .value (.func f), args, argTypes := ats })
  (hf : Try.prog.funcs[f]? = some fn) (hname : (fn.name == "runtime.NumGoroutine") = false) (hb : fn.body.isNone = false) (hp : Plain (b.at a (.inRegion ops (i :: rest) :: k)))
  (h : ∀ v w', Post v w' → Walk Try.prog main (DR V) Stop (G (b.at (a.put o.dst v) (.inRegion ops rest :: k)) cs) w') : Walk Try.prog main (DR V) Stop (G (b.at a (.inRegion ops (i :: rest) :: k)) cs) w := by
 refine Walk.callE ho hw hk hop hf hname hb ((hc _ cs hp).then ?_)
 rintro _ w' ⟨v, hv, rfl⟩
 rw [Frame.finish_at, ho]
 exact h v w' hv
theorem CallP.lone {L : La} {f : FuncId} {args : Array Value} {Rel : Value → Ans → World → (Nat → Prop) → Prop} {R : L.Sg × Ans} (N : Nat) (y0 : L.Gh) (s : L.Sg) (r0 : Ans ⊕ L.D) (hat : ∀ v x w' P d, Rel v x w' P → Rel v x (w'.at d) P) (hA : ∀ b, Apart V b) (hI : L.I y0 s w) (hrun : runN L N (s, r0) = some R)
  (hc : ∀ (K : Lg L .nilIface) (e : K.E), K.w e = w → K.tgt e = (K.s e, r0) → SCall K.toLb f args e (fun v e' => ∃ x, Rel v x (K.w e') (K.mine e') ∧ K.tgt e' = (K.s e', .inl x))) :
  CallP main V f args w (fun v w' => ∃ y, Rel v R.2 w' (fun b => (w.heap.size ≤ b ∧ b < w'.heap.size) ∧ ¬ L.sh y b) ∧ Lone L y0 w R w' y) := by
 intro c cs hp
 have key := hc (nilL (V := V) hA main (fun g w' => ∃ v, (∃ y, Rel v R.2 w' (fun b => (w.heap.size ≤ b ∧ b < w'.heap.size) ∧ ¬ L.sh y b) ∧ Lone L y0 w R w' y) ∧ g = G (c.finish v) cs) cs y0 w R) { w := w, y := y0, s := s, tgt := (s, r0), fuel := N, le := L.refl _, inv := hI, size := Nat.le_refl _, old := fun _ _ _ => rfl, pub := fun _ h _ => h, run := hrun } rfl rfl c [] hp (fun _ h => by cases h) ?_
 ·exact key
 ·rintro v e' ⟨x, hr, ht⟩
  have hrn := e'.run
  have ht : e'.tgt = (e'.s, .inl x) := ht
  rw [ht, runN_inl] at hrn
  have hR := Option.some.inj hrn
  have r1 : R.1 = e'.s := (congrArg Prod.fst hR).symm
  have r2 : R.2 = x := (congrArg Prod.snd hR).symm
  refine .stop fun d => ⟨v, ⟨e'.y, ?_, ⟨e'.le, ?_, e'.size, fun b h1 h2 => e'.old b h1 h2, e'.pub⟩⟩, rfl⟩
  ·rw [r2]
   exact hat _ _ _ _ d hr
  ·rw [r1]; exact L.stable e'.inv fun _ _ => rfl
end
end
section
section
variable {lb k : Nat}
def sqLd (v : Int) (s : Sq) (ad : Bool) (xs : Nat → Int) (i : Nat) : Sq := ⟨v, fun j => if j < i then layV ad (s.w j) (xs j) else s.w j⟩
theorem sqLd_zero (s : Sq) (ad : Bool) (xs : Nat → Int) (v : Int) : sqLd v s ad xs 0 = sqPutV s v := by
 unfold sqLd sqPutV
 congr 1
theorem sqLd_put (v : Int) (s : Sq) (ad : Bool) (xs : Nat → Int) (i : Nat) : sqPutW (sqLd v s ad xs i) i (layV ad ((sqLd v s ad xs i).w i) (xs i)) = sqLd v s ad xs (i + 1) := by
 have h0 : (sqLd v s ad xs i).w i = s.w i := if_neg (Nat.lt_irrefl i)
 rw [h0]
 unfold sqLd sqPutW
 congr 1
 funext j
 by_cases e : j = i
 ·subst e
  rw [upd_same, if_pos (by omega)]
 ·rw [upd_ne _ _ e]
  show (if j < i then layV ad (s.w j) (xs j) else s.w j) = (if j < i + 1 then layV ad (s.w j) (xs j) else s.w j)
  by_cases h : j < i
  ·rw [if_pos h, if_pos (by omega)]
  ·rw [if_neg h, if_neg (by omega)]
def sqDone (k : Nat) (s : Sq) (ad : Bool) (xs : Nat → Int) : Sq := sqLd (IntKind.i64.wrap (s.v + 2)) s ad xs (k + 1)
theorem run_lay (v u : Int) (s : Sq) (ad : Bool) (xs : Nat → Int) : ∀ (r i : Nat), i + r = k + 1 → runN (sqLa lb k) (r + 1) (sqLd u s ad xs i, .inr (dLay k ad xs v i)) = some (sqLd (IntKind.i64.wrap (v + 2)) s ad xs (k + 1), ⟨true, 0, []⟩)
 | 0, i, h => by
  have h : i = k + 1 := h
  subst h
  have e : dLay k ad xs v (k + 1) = .w4 v := if_pos rfl
  rw [e]
  rfl
 | r + 1, i, h => by
  have e : dLay k ad xs v i = .w3 ad xs v i := if_neg (by omega)
  rw [e]
  have e2 : sqAct k (sqLd u s ad xs i) (.w3 ad xs v i) = (sqLd u s ad xs (i + 1), .inr (dLay k ad xs v (i + 1))) := by
   rw [act_w3, sqLd_put]
   congr 2
   unfold dLay
   by_cases h : i = k
   ·rw [if_pos h, if_pos (by omega)]
   ·rw [if_neg h, if_neg (by omega)]
  refine (congrArg (runN (sqLa lb k) (r + 1)) e2).trans ?_
  exact run_lay v u s ad xs r (i + 1) (by omega)
theorem run_change (s : Sq) (hs : ¬ sqOdd s.v) (ad : Bool) (xs : Nat → Int) (t : Nat) : runN (sqLa lb k) (k + 4) (s, .inr (.w1 ad t xs)) = some (sqDone k s ad xs, ⟨true, 0, []⟩) := by
 have e1 : sqAct k s (.w1 ad t xs) = (s, .inr (.w2 ad t xs s.v)) := by
  show (s, if sqOdd s.v then _ else _) = _
  rw [if_neg hs]
 have e2 : sqAct k s (.w2 ad t xs s.v) = (sqLd (IntKind.i64.wrap (s.v + 1)) s ad xs 0, .inr (dLay k ad xs s.v 0)) := by
  show (if s.v = s.v then _ else _) = _
  rw [if_pos rfl, sqLd_zero]
  congr 2
 refine (congrArg (runN (sqLa lb k) (k + 3)) e1).trans ?_
 refine (congrArg (runN (sqLa lb k) (k + 2)) e2).trans ?_
 exact run_lay s.v _ s ad xs (k + 1) 0 (by omega)
theorem run_raw (s : Sq) (t : Nat) (v : Int) : ∀ (r i : Nat) (l : List Int), i + r = k + 1 → runN (sqLa lb k) (r + 1) (s, dRaw k t v i l) = runN (sqLa lb k) 1 (s, .inr (.r3 t v (l ++ (List.range' i r).map s.w)))
 | 0, i, l, h => by
  have h : i = k + 1 := h
  have e : dRaw k t v i l = .inr (.r3 t v l) := by unfold dRaw; rw [if_pos h]
  rw [e]
  simp
  rfl
 | r + 1, i, l, h => by
  have e : dRaw k t v i l = .inr (.r2 t v i l) := by unfold dRaw; rw [if_neg (by omega)]
  rw [e]
  have e2 : sqAct k s (.r2 t v i l) = (s, dRaw k t v (i + 1) (l ++ [s.w i])) := by
   show (s, Sum.inr (if i = k then _ else _)) = _
   unfold dRaw
   by_cases h : i = k
   ·rw [if_pos h, if_pos (by omega)]
   ·rw [if_neg h, if_neg (by omega)]
  refine (congrArg (runN (sqLa lb k) (r + 1)) e2).trans ?_
  refine (run_raw s t v r (i + 1) (l ++ [s.w i]) (by omega)).trans ?_
  rw [List.range'_succ]
  simp
theorem run_read (s : Sq) (hs : ¬ sqOdd s.v) (t : Nat) : runN (sqLa lb k) (k + 3) (s, .inr (.r1 t)) = some (s, ⟨true, 0, wdL k s⟩) := by
 have e1 : sqAct k s (.r1 t) = (s, dRaw k t s.v 0 []) := by
  show (s, if sqOdd s.v then _ else _) = _
  rw [if_neg hs]
  unfold dRaw
  rw [if_neg (by omega)]
 refine (congrArg (runN (sqLa lb k) (k + 2)) e1).trans ?_
 refine (run_raw s t s.v (k + 1) 0 [] (by omega)).trans ?_
 have e3 : sqAct k s (.r3 t s.v ([] ++ (List.range' 0 (k + 1)).map s.w)) = (s, .inl ⟨true, 0, wdL k s⟩) := by
  show (s, if s.v = s.v then _ else _) = _
  rw [if_pos rfl, List.nil_append, ← List.range_eq_range']
  rfl
 exact congrArg (runN (sqLa lb k) 0) e3
structure Solo (lb k : Nat) (s : Sq) (w w' : World) : Prop where
 I : SqI lb k s w'
 old : ∀ b, b < w.heap.size → b ≠ lb → w'.heap[b]? = w.heap[b]?
 size : w.heap.size ≤ w'.heap.size
theorem Solo.of {s : Sq} {a : Ans} {w w' : World} {y : (sqLa lb k).Gh} (h : Lone (sqLa lb k) () w (s, a) w' y) : Solo lb k s w w' := ⟨h.I, fun b hb hne => h.old b hb hne, h.size⟩
variable {main : Bool} {V : Nat → Option Wait} {s : Sq} {w : World}
theorem lwrite_w (hA : ∀ b, Apart V b) (I : SqI lb k s w) (hs : ¬ sqOdd s.v) (a : Int) (sl : Value) (vs : List Int) (hsl : LsR sl vs w) (xs : Nat → Int) (hxs : ValsIn k xs vs) :
  CallP main V 23 #[.pointer (some ⟨lb, 0, none⟩), .nilIface, .int .i64 a, sl] w (fun v w' => v = .bool true ∧ Solo lb k (sqDone k s false xs) w w') :=
 (CallP.lone (L := sqLa lb k) (Rel := fun v x _ _ => v = .bool x.ok) (k + 4) () s _ (fun _ _ _ _ _ h => h) hA I (run_change s hs false xs (sqTr a)) (fun K e hw ht => (write_s K xs e a sl vs (hw ▸ hsl) hxs ht).mono fun v e' ⟨b, h1, h2⟩ => ⟨⟨b, 0, []⟩, h1, h2⟩)).mono fun v w' ⟨y, h1, h2⟩ => ⟨h1, Solo.of h2⟩
theorem ladd_w (hA : ∀ b, Apart V b) (I : SqI lb k s w) (hs : ¬ sqOdd s.v) (a : Int) (sl : Value) (vs : List Int) (hsl : LsR sl vs w) (xs : Nat → Int) (hxs : ValsIn k xs vs) :
  CallP main V 24 #[.pointer (some ⟨lb, 0, none⟩), .nilIface, .int .i64 a, sl] w (fun v w' => v = .bool true ∧ Solo lb k (sqDone k s true xs) w w') :=
 (CallP.lone (L := sqLa lb k) (Rel := fun v x _ _ => v = .bool x.ok) (k + 4) () s _ (fun _ _ _ _ _ h => h) hA I (run_change s hs true xs (sqTr a)) (fun K e hw ht => (add_s K xs e a sl vs (hw ▸ hsl) hxs ht).mono fun v e' ⟨b, h1, h2⟩ => ⟨⟨b, 0, []⟩, h1, h2⟩)).mono fun v w' ⟨y, h1, h2⟩ => ⟨h1, Solo.of h2⟩
theorem lread_w (hA : ∀ b, Apart V b) (I : SqI lb k s w) (hs : ¬ sqOdd s.v) (a : Int) :
  CallP main V 25 #[.pointer (some ⟨lb, 0, none⟩), .nilIface, .int .i64 a] w (fun v w' => ∃ B, v = .tuple #[.slice (some ⟨B, 0, none⟩) (k + 1) (k + 1), .bool true] ∧ w.heap.size ≤ B ∧ NumB w' B (wdL k s) ∧ Solo lb k s w w') := by
 have hwl : (wdL k s).length = k + 1 := by simp [wdL]
 refine (CallP.lone (L := sqLa lb k) (Rel := fun v x w' P => ∃ sl, v = .tuple #[sl, .bool x.ok] ∧ ((sl = .slice none 0 0 ∧ x.l = []) ∨ ∃ B, sl = .slice (some ⟨B, 0, none⟩) x.l.length x.l.length ∧ P B ∧ NumB w' B x.l)) (k + 3) () s _ (fun _ _ _ _ _ h => h) hA I (run_read s hs (sqTr a)) (fun K e hw ht => (read_s K e a ht).mono fun v e' ⟨sl, b, ls, h1, h2, h3, h4⟩ => ⟨⟨b, 0, ls⟩, ⟨sl, h1, h2⟩, h4⟩)).mono ?_
 rintro v w' ⟨y, ⟨sl, rfl, h | ⟨B, rfl, hB, hN⟩⟩, h2⟩
 ·have : (wdL k s) = [] := h.2
  rw [this] at hwl
  simp at hwl
 ·refine ⟨B, ?_, hB.1.1, hN, Solo.of h2⟩
  show Value.tuple #[.slice (some ⟨B, 0, none⟩) (wdL k s).length (wdL k s).length, .bool true] = _
  rw [hwl]
end
end
section
def fxOps (a b c d : Int) : Nat → List OpV := fun i => ([[⟨1, 1, 10, 1⟩], [⟨a, b, c, d⟩]] : List (List OpV)).getD i []
def fxSl : List Int := [1, 1, 0, 0, 0, 0, 0, 1, 1]
def fySl : List Int := [1, 0, 0, 0, 0, 0, 1]
def fxA : Array Value := #[.int .i64 1, .int .i64 1, .int .i64 10, .int .i64 1]
def fxB (a b c d : Int) : Array Value := #[.int .i64 a, .int .i64 b, .int .i64 c, .int .i64 d]
def fxW : Array Value := #[.int .i64 1, .int .i64 2]
def fxH (A B : Nat) : Array Value := #[.slice (some ⟨A, 0, none⟩) 1 1, .slice (some ⟨B, 0, none⟩) 1 1]
def fxS : Array Value := #[.int .i64 1, .int .i64 1, .int .i64 0, .int .i64 0, .int .i64 0, .int .i64 0, .int .i64 0, .int .i64 1, .int .i64 1]
def fyS : Array Value := #[.int .i64 1, .int .i64 0, .int .i64 0, .int .i64 0, .int .i64 0, .int .i64 0, .int .i64 1]
def fxOa (A B : Nat) (i : Nat) : Option Addr := if i = 0 then some ⟨A, 0, none⟩ else some ⟨B, 0, none⟩
theorem fx_run (lb : Nat) : ((playO (sqLa lb (sqK ([1, 2] : List Int).length)) (sq0 [1, 2]) (fxOps 3 1 0 0) 2 99 fxSl).1.th 1).ans = [⟨false, 0, []⟩] := by kernel_rfl
theorem fx_state (lb : Nat) : stL (sqK ([1, 2] : List Int).length) (playO (sqLa lb (sqK ([1, 2] : List Int).length)) (sq0 [1, 2]) (fxOps 3 1 0 0) 2 99 fxSl).1.s = [2, 10, 11] := by kernel_rfl
theorem fy_run (lb : Nat) : ((playO (sqLa lb (sqK ([1, 2] : List Int).length)) (sq0 [1, 2]) (fxOps 4 0 0 0) 2 99 fySl).1.th 1).ans = [⟨true, 0, [1, 11]⟩] := by kernel_rfl
theorem fx_ops {a b c d : Int} {A B Hd : Nat} {w : World} (h1 : w.heap[A]? = some (.cells fxA 47)) (h2 : w.heap[B]? = some (.cells (fxB a b c d) 47)) (h4 : w.heap[Hd]? = some (.cells (fxH A B) 34)) : OpsIn Hd 0 2 (fxOa A B) (fun _ => 1) (fun _ => 1) (fxOps a b c d) w := by
 refine ⟨fun i hi => ?_, fun i hi => Nat.le_refl _, fun i hi => .inr ?_, fun i hi => ?_, fun i hi j o ho => ?_⟩
 ·rw [Nat.zero_add]
  refine (cell_of h4 i).trans ?_
  match i, hi with
  | 0, _ => rfl
  | 1, _ => rfl
 ·match i, hi with
  | 0, _ => exact ⟨_, rfl⟩
  | 1, _ => exact ⟨_, rfl⟩
 ·match i, hi with
  | 0, _ => rfl
  | 1, _ => rfl
 ·match i, hi, ho with
  | 0, _, ho =>
   match j, ho with
   | 0, ho => cases ho; exact ⟨A, 0, rfl, (cell_of h1 _).trans rfl, (cell_of h1 _).trans rfl, (cell_of h1 _).trans rfl, (cell_of h1 _).trans rfl⟩
   | j + 1, ho => exact absurd ho (by simp [fxOps])
  | 1, _, ho =>
   match j, ho with
   | 0, ho => cases ho; exact ⟨B, 0, rfl, (cell_of h2 _).trans rfl, (cell_of h2 _).trans rfl, (cell_of h2 _).trans rfl, (cell_of h2 _).trans rfl⟩
   | j + 1, ho => exact absurd ho (by simp [fxOps])
theorem fx_lsR {T : Nat} {w : World} (h : w.heap[T]? = some (.cells fxW 2)) : LsR (.slice (some ⟨T, 0, none⟩) 2 2) [1, 2] w := NumB.lsR (xs := [1, 2]) h
def fz1 : Sq := sqDone 1 (sq0 [1, 2]) false (fun i => ([5, 6] : List Int).getD i 0)
def fz2 : Sq := sqDone 1 fz1 true (fun i => ([1] : List Int).getD i 0)
theorem fz_even : ¬ sqOdd (sq0 [1, 2]).v ∧ ¬ sqOdd fz1.v ∧ ¬ sqOdd fz2.v := by
 have h : decide (¬ sqOdd (sq0 [1, 2]).v ∧ ¬ sqOdd fz1.v ∧ ¬ sqOdd fz2.v) = true := by kernel_rfl
 exact of_decide_eq_true h
theorem fz_words : wdL 1 fz2 = [6, 6] := by kernel_rfl
theorem fz_ver : fz2.v = 4 := by kernel_rfl
theorem fz_v1 : ValsIn 1 (fun i => ([5, 6] : List Int).getD i 0) [5, 6] := fun i hi => by
 match i, hi with
 | 0, _ => rfl
 | 1, _ => rfl
theorem fz_v2 : ValsIn 1 (fun i => ([1] : List Int).getD i 0) [1] := fun i hi => by
 match i, hi with
 | 0, _ => rfl
 | 1, _ => rfl
structure FxT (X b o ac b0 o0 tc0 sb so sc : Nat) (v1 : Value) (k : Bool) (w : World) : Prop where
 x : w.heap[X]? = some (.cells (trC (.slice (some ⟨b, o, none⟩) 2 ac) v1 (.slice (some ⟨sb, so, none⟩) 3 sc) k) 31)
 a1 : w.cell? ⟨b, o + 1, none⟩ = some (.slice (some ⟨b0, o0, none⟩) 1 tc0)
 n0 : w.cell? ⟨b0, o0, none⟩ = some (.bool false)
 z0 : w.cell? ⟨sb, so, none⟩ = some (.int .i64 2)
 z2 : w.cell? ⟨sb, so + 2, none⟩ = some (.int .i64 11)
theorem FxT.old {X b o ac b0 o0 tc0 sb so sc : Nat} {v1 : Value} {k : Bool} {w w' : World} (H : FxT X b o ac b0 o0 tc0 sb so sc v1 k w) (h : ∀ b, b < w.heap.size → w'.heap[b]? = w.heap[b]?) : FxT X b o ac b0 o0 tc0 sb so sc v1 k w' := by
 have hc : ∀ {b j : Nat} {v : Value}, w.cell? ⟨b, j, none⟩ = some v → w'.cell? ⟨b, j, none⟩ = some v := fun {b j v} e => (World.cell?_of_block (a := ⟨b, j, none⟩) (h b (cell_lt' e))).trans e
 exact ⟨(h X (Array.getElem?_eq_some_iff.1 H.x).1).trans H.x, hc H.a1, hc H.n0, hc H.z0, hc H.z2⟩
noncomputable def reg12_0 := rg Try.f12.body [0]
noncomputable def reg12_1 := rg Try.f12.body [1, 0]
noncomputable def reg12_2 := rg Try.f12.body [1, 1, 0]
noncomputable def reg12_3 := rg Try.f12.body [1, 1, 1, 0]
noncomputable def reg12_4 := rg Try.f12.body [1, 1, 1, 1, 0, 0]
noncomputable def reg12_5 := rg Try.f12.body [1, 1, 1, 1, 0, 1, 0, 0]
noncomputable def reg12_6 := rg Try.f12.body [1, 1, 1, 1, 1, 0]
noncomputable def reg12_7 := rg Try.f12.body [1, 1, 1, 1, 1, 1, 0, 0]
noncomputable def reg12_8 := rg Try.f12.body [1, 1, 1, 1, 1, 1, 0, 1, 0, 0]
noncomputable def reg12_9 := rg Try.f12.body [1, 1, 1, 1, 1, 1, 1, 0]
noncomputable def reg12_10 := rg Try.f12.body [1, 1, 1, 1, 1, 1, 1, 1, 0]
theorem z12 : List.range reg12_0.size = [0] ∧ List.range reg12_1.size = [0, 1, 2] ∧ List.range reg12_2.size = [0, 1, 2, 3, 4, 5, 6, 7, 8] ∧ List.range reg12_3.size = [0, 1, 2, 3, 4, 5, 6, 7, 8] ∧ List.range reg12_4.size = [0, 1, 2, 3, 4, 5, 6, 7, 8, 9, 10, 11, 12, 13, 14, 15, 16, 17, 18, 19, 20, 21, 22, 23, 24, 25, 26, 27, 28, 29, 30, 31, 32, 33, 34, 35, 36, 37, 38, 39, 40, 41, 42, 43, 44, 45, 46, 47, 48, 49, 50, 51, 52, 53, 54, 55, 56, 57, 58, 59, 60, 61, 62, 63, 64, 65, 66] ∧ List.range reg12_5.size = [0] ∧ List.range reg12_6.size = [0, 1, 2] ∧ List.range reg12_7.size = [0, 1, 2, 3, 4, 5, 6, 7, 8, 9, 10, 11, 12, 13] ∧ List.range reg12_8.size = [0] ∧ List.range reg12_9.size = [0, 1, 2, 3, 4, 5, 6] ∧ List.range reg12_10.size = [0, 1, 2, 3, 4, 5, 6, 7, 8, 9, 10, 11, 12, 13] := by refine ⟨?_, ?_, ?_, ?_, ?_, ?_, ?_, ?_, ?_, ?_, ?_⟩ <;> kernel_rfl
theorem code12_is : Try.f12.body = some (.seq (.region 0 reg12_0 false) (.seq (.region 1 reg12_1 false) (.seq (.region 2 reg12_2 false) (.seq (.region 3 reg12_3 false) (.seq (.seq (.region 4 reg12_4 false) (.cond (.tmp 89 ) (.seq (.region 5 reg12_5 false) (.ret)) (.skip))) (.seq (.region 6 reg12_6 false) (.seq (.seq (.region 7 reg12_7 false) (.cond (.tmp 105 ) (.seq (.region 8 reg12_8 false) (.ret)) (.skip))) (.seq (.region 9 reg12_9 false) (.seq (.region 10 reg12_10 false) (.ret)))))))))) := by kernel_rfl
def zTr' : Obj := .cells #[.slice none 0 0, .slice none 0 0, .slice none 0 0, .bool false] 31
def FxBack2 (X b o ac b0 o0 tc0 sb so sc : Nat) (v1 : Value) (k : Bool) (fr c : Frame) (cs : List Frame) : Prop := ∀ (cells : Array Value) (F : Nat → List Ans) (ord : List Nat) (sts : List Int) (k2 : Bool) (w : World), FxT X b o ac b0 o0 tc0 sb so sc v1 k w → TrA cells 2 F ord sts k2 w → F 1 = [⟨true, 0, [1, 11]⟩] →
 Walk Try.prog true (DR (fun _ => none)) (fun g w' => g = G (c.finish (.bool true)) cs ∧ (∀ b, b < w.heap.size → w'.heap[b]? = w.heap[b]?) ∧ w.heap.size ≤ w'.heap.size) (G (fr.finish (.agg cells)) (c :: cs)) w
def FxBack1 (T : Nat) (fr c : Frame) (cs : List Frame) : Prop := ∀ (cells : Array Value) (F : Nat → List Ans) (ord : List Nat) (k : Bool) (w : World), TrA cells 2 F ord [2, 10, 11] k w → F 1 = [⟨false, 0, []⟩] → w.heap[T]? = some (.cells fxA 47) →
 Walk Try.prog true (DR (fun _ => none)) (fun g w' => ∃ fr2 b o ac b0 o0 tc0 sb so sc v1, g = G (Frame.enter Try.prog 14 #[.slice (some ⟨w.heap.size + 1, 0, none⟩) 2 2, .slice (some ⟨w.heap.size + 3, 0, none⟩) 2 2, .slice (some ⟨w.heap.size + 4, 0, none⟩) fySl.length 7, .int .i64 99] .normal) (fr2 :: c :: cs) ∧ (∀ b, b < w.heap.size → w'.heap[b]? = w.heap[b]?) ∧ w.heap.size ≤ w'.heap.size ∧
   FxT w.heap.size b o ac b0 o0 tc0 sb so sc v1 k w' ∧ w'.heap[w.heap.size + 1]? = some (.cells fxW 2) ∧ OpsIn (w.heap.size + 3) 0 2 (fxOa T (w.heap.size + 2)) (fun _ => 1) (fun _ => 1) (fxOps 4 0 0 0) w' ∧ (∀ (j : Nat) (z : Int), fySl[j]? = some z → w'.cell? ⟨w.heap.size + 4, 0 + j, none⟩ = some (.int .i64 z)) ∧ FxBack2 w.heap.size b o ac b0 o0 tc0 sb so sc v1 k fr2 c cs) (G (fr.finish (.agg cells)) (c :: cs)) w
section
variable {c : Frame} {cs : List Frame}
theorem fixed_in (c : Frame) (cs : List Frame) (w : World) :
  Walk Try.prog true (DR (fun _ => none)) (fun g w' => ∃ fr, g = G (Frame.enter Try.prog 14 #[.slice (some ⟨w.heap.size + 1, 0, none⟩) 2 2, .slice (some ⟨w.heap.size + 3, 0, none⟩) 2 2, .slice (some ⟨w.heap.size + 4, 0, none⟩) fxSl.length 9, .int .i64 99] .normal) (fr :: c :: cs) ∧ (∀ b, b < w.heap.size → w'.heap[b]? = w.heap[b]?) ∧ w.heap.size ≤ w'.heap.size ∧
    w'.heap[w.heap.size]? = some (.cells fxA 47) ∧ w'.heap[w.heap.size + 1]? = some (.cells fxW 2) ∧ OpsIn (w.heap.size + 3) 0 2 (fxOa w.heap.size (w.heap.size + 2)) (fun _ => 1) (fun _ => 1) (fxOps 3 1 0 0) w' ∧ (∀ (j : Nat) (z : Int), fxSl[j]? = some z → w'.cell? ⟨w.heap.size + 4, 0 + j, none⟩ = some (.int .i64 z)) ∧ FxBack1 w.heap.size fr c cs)
   (G (Frame.enter Try.prog 12 #[] .normal) (c :: cs)) w := by
 have hA : ∀ b, Apart (fun _ => none) b := fun b => ⟨fun _ _ _ _ h => (by cases h), fun _ _ h => (by cases h)⟩
 rw [enter_at _ Try.func12 code12_is]
 simp only [Try.ntmps12, ez, Nat.reduceAdd, Nat.reduceSub]
 obtain ⟨T, hT⟩ : ∃ T, w.heap.size = T := ⟨_, rfl⟩
 rw [hT]
 refine Walk.gz z12 ?_
 (refine Walk.oa ?_; try walk_nrm)
 have s1 : (w.alloc (.cells fxA 47)).heap.size = T + 1 := by simp [hT]
 have o1 : ∀ b, b < T → (w.alloc (.cells fxA 47)).heap[b]? = w.heap[b]? := fun b hb => heap_new_lt _ _ (by omega)
 have d1 : (w.alloc (.cells fxA 47)).heap[T]? = some (.cells fxA 47) := hT ▸ heap_alloc_new w (.cells fxA 47)
 try simp only [hT]
 change Walk Try.prog true _ _ _ (w.alloc (.cells fxA 47))
 generalize w.alloc (.cells fxA 47) = x1 at *
 refine Walk.gz z12 ?_
 (refine Walk.oa ?_; try walk_nrm)
 have s2 : (x1.alloc (.cells fxW 2)).heap.size = (T + 1) + 1 := by simp [s1]
 have o2 : ∀ b, b < (T + 1) → (x1.alloc (.cells fxW 2)).heap[b]? = x1.heap[b]? := fun b hb => heap_new_lt _ _ (by omega)
 have d2 : (x1.alloc (.cells fxW 2)).heap[(T + 1)]? = some (.cells fxW 2) := s1 ▸ heap_alloc_new x1 (.cells fxW 2)
 try simp only [s1]
 change Walk Try.prog true _ _ _ (x1.alloc (.cells fxW 2))
 generalize x1.alloc (.cells fxW 2) = x2 at *
 refine Walk.gz z12 ?_
 (refine Walk.oa ?_; try walk_nrm)
 have s3 : (x2.alloc (.cells (fxB 3 1 0 0) 47)).heap.size = (T + 2) + 1 := by simp [s2]
 have o3 : ∀ b, b < (T + 2) → (x2.alloc (.cells (fxB 3 1 0 0) 47)).heap[b]? = x2.heap[b]? := fun b hb => heap_new_lt _ _ (by omega)
 have d3 : (x2.alloc (.cells (fxB 3 1 0 0) 47)).heap[(T + 2)]? = some (.cells (fxB 3 1 0 0) 47) := s2 ▸ heap_alloc_new x2 (.cells (fxB 3 1 0 0) 47)
 try simp only [s2]
 change Walk Try.prog true _ _ _ (x2.alloc (.cells (fxB 3 1 0 0) 47))
 generalize x2.alloc (.cells (fxB 3 1 0 0) 47) = x3 at *
 refine Walk.gz z12 ?_
 (refine Walk.oa ?_; try walk_nrm)
 have s4 : (x3.alloc (.cells (fxH T (T + 2)) 34)).heap.size = (T + 3) + 1 := by simp [s3]
 have o4 : ∀ b, b < (T + 3) → (x3.alloc (.cells (fxH T (T + 2)) 34)).heap[b]? = x3.heap[b]? := fun b hb => heap_new_lt _ _ (by omega)
 have d4 : (x3.alloc (.cells (fxH T (T + 2)) 34)).heap[(T + 3)]? = some (.cells (fxH T (T + 2)) 34) := s3 ▸ heap_alloc_new x3 (.cells (fxH T (T + 2)) 34)
 try simp only [s3]
 change Walk Try.prog true _ _ _ (x3.alloc (.cells (fxH T (T + 2)) 34))
 generalize x3.alloc (.cells (fxH T (T + 2)) 34) = x4 at *
 refine Walk.gz z12 ?_
 (refine Walk.oa ?_; try walk_nrm)
 have s5 : (x4.alloc (.cells fxS 3)).heap.size = (T + 4) + 1 := by simp [s4]
 have o5 : ∀ b, b < (T + 4) → (x4.alloc (.cells fxS 3)).heap[b]? = x4.heap[b]? := fun b hb => heap_new_lt _ _ (by omega)
 have d5 : (x4.alloc (.cells fxS 3)).heap[(T + 4)]? = some (.cells fxS 3) := s4 ▸ heap_alloc_new x4 (.cells fxS 3)
 try simp only [s4]
 change Walk Try.prog true _ _ _ (x4.alloc (.cells fxS 3))
 generalize x4.alloc (.cells fxS 3) = x5 at *
 refine Walk.gz z12 ?_
 refine Walk.callE hoA (by rfl) (by decide) rfl Try.func14 (by kernel_rfl) (by rfl) ?_
 walk_nrm
 have up1 : ∀ b, b < T + 1 → x5.heap[b]? = x1.heap[b]? := fun b hb => (o5 b (by omega)).trans ((o4 b (by omega)).trans ((o3 b (by omega)).trans (o2 b (by omega))))
 refine .stop fun d => ⟨_, rfl, fun b hb => (up1 b (by omega)).trans (o1 b (by omega)), ?_, (up1 T (by omega)).trans d1, ?_, fx_ops ((up1 T (by omega)).trans d1) ?_ ?_, fun j z hz => ?_, ?_⟩
 ·show T ≤ x5.heap.size
  omega
 ·exact (o5 _ (by omega)).trans ((o4 _ (by omega)).trans ((o3 _ (by omega)).trans d2))
 ·exact (o5 _ (by omega)).trans ((o4 _ (by omega)).trans d3)
 ·exact (o5 _ (by omega)).trans d4
 ·rw [Nat.zero_add]
  refine (cell_of (w := x5) d5 j).trans ?_
  have h : (fxSl.map (Value.int .i64))[j]? = some (.int .i64 z) := by rw [List.getElem?_map, hz]; rfl
  simpa [fxSl, fxS] using h
 ·clear d1 d2 d3 d4 d5 s1 s2 s3 s4 s5 o1 o2 o3 o4 o5 up1
  intro cells F ord k w6 hTr hF1 hT6
  obtain ⟨aa, ac, oa, oc, sa, sc, rfl, n1, n2, n3⟩ := hTr.all
  obtain ⟨b, o, ta0, tc0, rfl, a1, A1⟩ := n3 1 (by decide)
  rw [hF1] at a1 A1
  obtain ⟨b0, o0, la, lc, rfl, k0, _⟩ := A1 0 _ rfl
  obtain ⟨sb, so, rfl, z0⟩ := n2 0 2 rfl
  obtain ⟨sb', so', e', z2⟩ := n2 2 11 rfl
  cases e'
  simp only [Nat.zero_mul, Nat.add_zero, List.length_cons, List.length_nil, Nat.zero_add] at a1 k0 z0
  generalize ord.length = ol at *
  simp only [trC, List.length_cons, List.length_nil, Nat.zero_add, Nat.reduceAdd]
  refine Walk.finish hoA ?_
  walk_nrm
  (refine Walk.oa ?_; try walk_nrm)
  have s7 : (w6.alloc zTr').heap.size = w6.heap.size + 1 := by simp
  have o7 : ∀ b, b < w6.heap.size → (w6.alloc zTr').heap[b]? = w6.heap[b]? := fun b hb => heap_new_lt _ _ hb
  have d7 := heap_alloc_new w6 zTr'
  have e7 : w6.alloc (.cells #[.slice none 0 0, .slice none 0 0, .slice none 0 0, .bool false] 31) = w6.alloc zTr' := rfl
  try rw [e7]
  clear e7
  have l1 := cell_lt' a1
  have l2 := cell_lt' k0
  have l3 := (Array.getElem?_eq_some_iff.1 hT6).1
  have l4 := cell_lt' z0
  generalize hT1 : w6.heap.size = T1 at *
  generalize w6.alloc zTr' = w7 at *
  unfold zTr' at d7
  refine Walk.storeS 31 (.tmp 2) (.tmp 15) hoA (by rfl) (by decide) rfl T1 #[.slice (some ⟨b, o, none⟩) 2 ac, .slice oa ol oc, .slice (some ⟨sb, so, none⟩) 3 sc, .bool k] _ 31 rfl rfl d7 (by kernel_rfl) (by rfl) (by simp [Value.oneCell']) (hA _) ?_
  have d8 := setRow_self (cells := #[.slice (some ⟨b, o, none⟩) 2 ac, .slice oa ol oc, .slice (some ⟨sb, so, none⟩) 3 sc, .bool k]) d7
  have o8 : ∀ x, x < T1 → (w7.setRow T1 #[.slice (some ⟨b, o, none⟩) 2 ac, .slice oa ol oc, .slice (some ⟨sb, so, none⟩) 3 sc, .bool k]).heap[x]? = w6.heap[x]? := fun x hx => (setRow_other _ _ (by omega)).trans (o7 x hx)
  have s8 := setRow_size w7 T1 #[.slice (some ⟨b, o, none⟩) 2 ac, .slice oa ol oc, .slice (some ⟨sb, so, none⟩) 3 sc, .bool k]
  rw [s7] at s8
  generalize w7.setRow T1 #[.slice (some ⟨b, o, none⟩) 2 ac, .slice oa ol oc, .slice (some ⟨sb, so, none⟩) 3 sc, .bool k] = w8 at *
  have hc8 : ∀ {x j : Nat} {v : Value}, x < T1 → w6.cell? ⟨x, j, none⟩ = some v → w8.cell? ⟨x, j, none⟩ = some v := fun {x j v} h e => (World.cell?_of_block (a := ⟨x, j, none⟩) (o8 x h)).trans e
  have C8 : FxT T1 b o ac b0 o0 tc0 sb so sc (.slice oa ol oc) k w8 := ⟨d8, hc8 l1 a1, hc8 l2 k0, hc8 l4 z0, hc8 l4 z2⟩
  have t8 := (o8 T (by omega)).trans hT6
  clear n1 n2 n3 A1 a1 k0 z0 z2 d7 d8 hTr s7 o7 hT6 hc8
  try walk_nrm
  refine Walk.gz z12 ?_
  (refine Walk.oa ?_; try walk_nrm)
  have s9 : (w8.alloc (.cells fxW 2)).heap.size = (T1 + 1) + 1 := by simp [s8]
  have o9 : ∀ b, b < (T1 + 1) → (w8.alloc (.cells fxW 2)).heap[b]? = w8.heap[b]? := fun b hb => heap_new_lt _ _ (by omega)
  have d9 : (w8.alloc (.cells fxW 2)).heap[(T1 + 1)]? = some (.cells fxW 2) := s8 ▸ heap_alloc_new w8 (.cells fxW 2)
  try simp only [s8]
  change Walk Try.prog true _ _ _ (w8.alloc (.cells fxW 2))
  generalize w8.alloc (.cells fxW 2) = w9 at *
  refine Walk.gz z12 ?_
  (refine Walk.oa ?_; try walk_nrm)
  have s10 : (w9.alloc (.cells (fxB 4 0 0 0) 47)).heap.size = (T1 + 2) + 1 := by simp [s9]
  have o10 : ∀ b, b < (T1 + 2) → (w9.alloc (.cells (fxB 4 0 0 0) 47)).heap[b]? = w9.heap[b]? := fun b hb => heap_new_lt _ _ (by omega)
  have d10 : (w9.alloc (.cells (fxB 4 0 0 0) 47)).heap[(T1 + 2)]? = some (.cells (fxB 4 0 0 0) 47) := s9 ▸ heap_alloc_new w9 (.cells (fxB 4 0 0 0) 47)
  try simp only [s9]
  change Walk Try.prog true _ _ _ (w9.alloc (.cells (fxB 4 0 0 0) 47))
  generalize w9.alloc (.cells (fxB 4 0 0 0) 47) = w10 at *
  refine Walk.gz z12 ?_
  (refine Walk.oa ?_; try walk_nrm)
  have s11 : (w10.alloc (.cells (fxH T (T1 + 2)) 34)).heap.size = (T1 + 3) + 1 := by simp [s10]
  have o11 : ∀ b, b < (T1 + 3) → (w10.alloc (.cells (fxH T (T1 + 2)) 34)).heap[b]? = w10.heap[b]? := fun b hb => heap_new_lt _ _ (by omega)
  have d11 : (w10.alloc (.cells (fxH T (T1 + 2)) 34)).heap[(T1 + 3)]? = some (.cells (fxH T (T1 + 2)) 34) := s10 ▸ heap_alloc_new w10 (.cells (fxH T (T1 + 2)) 34)
  try simp only [s10]
  change Walk Try.prog true _ _ _ (w10.alloc (.cells (fxH T (T1 + 2)) 34))
  generalize w10.alloc (.cells (fxH T (T1 + 2)) 34) = w11 at *
  refine Walk.gz z12 ?_
  (refine Walk.oa ?_; try walk_nrm)
  have s12 : (w11.alloc (.cells fyS 3)).heap.size = (T1 + 4) + 1 := by simp [s11]
  have o12 : ∀ b, b < (T1 + 4) → (w11.alloc (.cells fyS 3)).heap[b]? = w11.heap[b]? := fun b hb => heap_new_lt _ _ (by omega)
  have d12 : (w11.alloc (.cells fyS 3)).heap[(T1 + 4)]? = some (.cells fyS 3) := s11 ▸ heap_alloc_new w11 (.cells fyS 3)
  try simp only [s11]
  change Walk Try.prog true _ _ _ (w11.alloc (.cells fyS 3))
  generalize w11.alloc (.cells fyS 3) = w12 at *
  refine Walk.gz z12 ?_
  refine Walk.callE hoA (by rfl) (by decide) rfl Try.func14 (by kernel_rfl) (by rfl) ?_
  walk_nrm
  have up : ∀ b, b < T1 + 1 → w12.heap[b]? = w8.heap[b]? := fun b hb => (o12 b (by omega)).trans ((o11 b (by omega)).trans ((o10 b (by omega)).trans (o9 b (by omega))))
  refine .stop fun d => ⟨_, b, o, ac, b0, o0, tc0, sb, so, sc, .slice oa ol oc, rfl, fun b hb => (up b (by omega)).trans (o8 b (by omega)), ?_, C8.old fun b hb => up b (by omega), ?_, fx_ops ((up T (by omega)).trans t8) ?_ ?_, fun j z hz => ?_, ?_⟩
  ·show T1 ≤ w12.heap.size
   omega
  ·exact (o12 _ (by omega)).trans ((o11 _ (by omega)).trans ((o10 _ (by omega)).trans d9))
  ·exact (o12 _ (by omega)).trans ((o11 _ (by omega)).trans d10)
  ·exact (o12 _ (by omega)).trans d11
  ·try rw [Nat.zero_add]
   refine (cell_of (w := w12) d12 j).trans ?_
   have h : (fySl.map (Value.int .i64))[j]? = some (.int .i64 z) := by rw [List.getElem?_map, hz]; rfl
   simpa [fySl, fyS] using h
  ·clear d9 d10 d11 d12 s8 s9 s10 s11 s12 o8 o9 o10 o11 o12 up C8 t8
   intro cells F ord sts k2 w13 C13 hTr hF1
   obtain ⟨aa, ac', oa', oc', sa', sc', rfl, n1, n2, n3⟩ := hTr.all
   obtain ⟨b', o', ta0, tc0', rfl, a1', A1⟩ := n3 1 (by decide)
   rw [hF1] at a1' A1
   obtain ⟨b0', o0', la, lc, rfl, _, _, k2', nl, _⟩ := A1 0 _ rfl
   simp only [Nat.zero_mul, Nat.add_zero, List.length_cons, List.length_nil, Nat.zero_add, Nat.reduceAdd] at a1' k2'
   generalize ord.length = ol' at *
   generalize sts.length = sl2 at *
   simp only [trC]
   refine Walk.finish hoA ?_
   walk_nrm
   (refine Walk.oa ?_; try walk_nrm)
   have s14 : (w13.alloc zTr').heap.size = w13.heap.size + 1 := by simp
   have o14 : ∀ b, b < w13.heap.size → (w13.alloc zTr').heap[b]? = w13.heap[b]? := fun b hb => heap_new_lt _ _ hb
   have d14 := heap_alloc_new w13 zTr'
   have e14 : w13.alloc (.cells #[.slice none 0 0, .slice none 0 0, .slice none 0 0, .bool false] 31) = w13.alloc zTr' := rfl
   try rw [e14]
   clear e14
   have l1' := cell_lt' a1'
   have l2' := cell_lt' k2'
   generalize hT2 : w13.heap.size = T2 at *
   generalize w13.alloc zTr' = w14 at *
   unfold zTr' at d14
   refine Walk.storeS 31 (.tmp 3) (.tmp 22) hoA (by rfl) (by decide) rfl T2 #[.slice (some ⟨b', o', none⟩) 2 ac', .slice oa' ol' oc', .slice sa' sl2 sc', .bool k2] _ 31 rfl rfl d14 (by kernel_rfl) (by rfl) (by simp [Value.oneCell']) (hA _) ?_
   have d15 := setRow_self (cells := #[.slice (some ⟨b', o', none⟩) 2 ac', .slice oa' ol' oc', .slice sa' sl2 sc', .bool k2]) d14
   have o15 : ∀ x, x < T2 → (w14.setRow T2 #[.slice (some ⟨b', o', none⟩) 2 ac', .slice oa' ol' oc', .slice sa' sl2 sc', .bool k2]).heap[x]? = w13.heap[x]? := fun x hx => (setRow_other _ _ (by omega)).trans (o14 x hx)
   have s15 := setRow_size w14 T2 #[.slice (some ⟨b', o', none⟩) 2 ac', .slice oa' ol' oc', .slice sa' sl2 sc', .bool k2]
   rw [s14] at s15
   generalize w14.setRow T2 #[.slice (some ⟨b', o', none⟩) 2 ac', .slice oa' ol' oc', .slice sa' sl2 sc', .bool k2] = w15 at *
   have C15 := C13.old (w' := w15) fun b hb => o15 b (by omega)
   have x0 : w15.cell? ⟨T1, 0, none⟩ = some (.slice (some ⟨b, o, none⟩) 2 ac) := (cell_of C15.x 0).trans rfl
   have x2 : w15.cell? ⟨T1, 2, none⟩ = some (.slice (some ⟨sb, so, none⟩) 3 sc) := (cell_of C15.x 2).trans rfl
   have x1 := C15.a1
   have x3 := C15.n0
   have x4 := C15.z0
   have x5 := C15.z2
   have y0 : w15.cell? ⟨T2, 0, none⟩ = some (.slice (some ⟨b', o', none⟩) 2 ac') := (cell_of d15 0).trans rfl
   have y1 : w15.cell? ⟨b', o' + 1, none⟩ = some (.slice (some ⟨b0', o0', none⟩) 1 tc0') := (World.cell?_of_block (a := ⟨b', o' + 1, none⟩) (o15 b' (by omega))).trans a1'
   have y2 : w15.cell? ⟨b0', o0' + 2, none⟩ = some (.slice la 2 lc) := (World.cell?_of_block (a := ⟨b0', o0' + 2, none⟩) (o15 b0' (by omega))).trans k2'
   have nl15 : NumA la [1, 11] w15 := fun i x hx => by
    obtain ⟨bb, oo, e, h⟩ := nl i x hx
    exact ⟨bb, oo, e, (World.cell?_of_block (a := ⟨bb, oo + i, none⟩) (o15 bb (by have := cell_lt' h; omega))).trans h⟩
   clear n1 n2 n3 A1 a1' k2' nl d14 d15 hTr s14 o14 C13 C15
   try walk_nrm
   refine Walk.gz z12 ?_
   (refine Walk.oa ?_; try walk_nrm)
   have s16 : (w15.alloc (.cells #[.int .i64 1, .int .i64 11] 2)).heap.size = T2 + 2 := by simp [s15]
   have o16 : ∀ x, x < T2 + 1 → (w15.alloc (.cells #[.int .i64 1, .int .i64 11] 2)).heap[x]? = w15.heap[x]? := fun x hx => heap_new_lt _ _ (by omega)
   have d16 : NumB (w15.alloc (.cells #[.int .i64 1, .int .i64 11] 2)) (T2 + 1) [1, 11] := s15 ▸ heap_alloc_new w15 (.cells #[.int .i64 1, .int .i64 11] 2)
   have nl16 : NumA la [1, 11] (w15.alloc (.cells #[.int .i64 1, .int .i64 11] 2)) := nl15.chg ⟨by simp, fun b hb _ => heap_new_lt _ _ hb⟩
   try simp only [s15]
   clear x0 x1 x2 x3 x4 x5 y0 y1 y2 nl15
   generalize w15.alloc (.cells #[.int .i64 1, .int .i64 11] 2) = w16 at *
   have hsn := sn_w (main := true) (V := fun _ => none) la (some ⟨T2 + 1, 0, none⟩) [1, 11] lc 2 (by decide) w16 nl16 (fun i x hx => ⟨T2 + 1, 0, rfl, by rw [Nat.zero_add]; exact d16.cell hx⟩)
   refine Walk.gz z12 ?_
   refine Walk.callV (x := .bool true) (W := w16) ?_ hoA (by rfl) (by decide) rfl Try.func21 (by kernel_rfl) (by rfl) ?_
   ·walk_nrm
    exact hsn
   clear hsn nl16 d16
   walk_nrm
   refine Walk.gz z12 ?_
   refine Walk.gz z12 ?_
   (refine Walk.oa ?_; try walk_nrm)
   have s17 : (w16.alloc (.cells fxW 2)).heap.size = (T2 + 2) + 1 := by simp [s16]
   have o17 : ∀ b, b < (T2 + 2) → (w16.alloc (.cells fxW 2)).heap[b]? = w16.heap[b]? := fun b hb => heap_new_lt _ _ (by omega)
   have d17 : (w16.alloc (.cells fxW 2)).heap[(T2 + 2)]? = some (.cells fxW 2) := s16 ▸ heap_alloc_new w16 (.cells fxW 2)
   try simp only [s16]
   change Walk Try.prog true _ _ _ (w16.alloc (.cells fxW 2))
   generalize w16.alloc (.cells fxW 2) = w17 at *
   refine Walk.gz z12 ?_
   have hnw := new_w (main := true) (V := fun _ => none) w17 _ [1, 2] (fx_lsR d17) (by decide) (fun b _ => hA b)
   have hk1 : sqK ([1, 2] : List Int).length = 1 := by decide
   rw [hk1] at hnw
   rw [s17] at hnw
   refine Walk.callW (Post := fun v w' => v = .pointer (some ⟨T2 + 2 + 1, 0, none⟩) ∧ SqI (T2 + 2 + 1) 1 (sq0 [1, 2]) w' ∧ (∀ b, b < T2 + 2 + 1 → w'.heap[b]? = w17.heap[b]?) ∧ T2 + 2 + 1 < w'.heap.size) ?_ hoA (by rfl) (by decide) rfl Try.func16 (by kernel_rfl) (by rfl) ?_
   ·walk_nrm
    exact hnw
   rintro v w18 ⟨rfl, I18, O18, Z18⟩
   clear hnw d17
   have hq1 := fun w => run_eql_ptr (P := Try.prog) 35 undLock (some ⟨T2 + 2 + 1, 0, none⟩) w
   have hq2 := fun w es => ev_eql_ptr (P := Try.prog) 35 undLock (some ⟨T2 + 2 + 1, 0, none⟩) w es
   simp only [Option.isNone_some] at hq1
   have u18 : ∀ b, b < T2 → w18.heap[b]? = w13.heap[b]? := fun b hb => (O18 b (by omega)).trans ((o17 b (by omega)).trans ((o16 b (by omega)).trans (o15 b hb)))
   clear O18 o17 o16 o15 s15 s16 s17
   generalize hL : T2 + 2 + 1 = LB at *
   walk_nrm
   refine Walk.gz z12 ?_
   (refine Walk.oa ?_; try walk_nrm)
   have s19 : (w18.alloc (.cells #[.int .i64 5, .int .i64 6] 2)).heap.size = w18.heap.size + 1 := by simp
   have o19 : ∀ x, x < w18.heap.size → (w18.alloc (.cells #[.int .i64 5, .int .i64 6] 2)).heap[x]? = w18.heap[x]? := fun x hx => heap_new_lt _ _ hx
   have d19 : NumB (w18.alloc (.cells #[.int .i64 5, .int .i64 6] 2)) w18.heap.size [5, 6] := heap_alloc_new w18 (.cells #[.int .i64 5, .int .i64 6] 2)
   have I19 := I18.old (w' := w18.alloc (.cells #[.int .i64 5, .int .i64 6] 2)) (o19 LB (by omega))
   generalize w18.alloc (.cells #[.int .i64 5, .int .i64 6] 2) = w19 at *
   generalize hN18 : w18.heap.size = N18 at *
   have hwr := lwrite_w (main := true) (V := fun _ => none) hA I19 fz_even.1 1 _ [5, 6] d19.lsR _ fz_v1
   refine Walk.gz z12 ?_
   refine Walk.callP (Post := fun v w' => v = .bool true ∧ Solo LB 1 fz1 w19 w') ?_ hoA (by rfl) (by decide) rfl Try.func23 (by kernel_rfl) (by rfl) ⟨rfl, rfl, _, Try.func12⟩ ?_
   ·walk_nrm
    exact hwr
   rintro v w20 ⟨rfl, H20⟩
   have z20 := H20.size
   clear hwr d19
   walk_nrm
   refine Walk.gz z12 ?_
   (refine Walk.oa ?_; try walk_nrm)
   have s21 : (w20.alloc (.cells #[.int .i64 1] 2)).heap.size = w20.heap.size + 1 := by simp
   have o21 : ∀ x, x < w20.heap.size → (w20.alloc (.cells #[.int .i64 1] 2)).heap[x]? = w20.heap[x]? := fun x hx => heap_new_lt _ _ hx
   have d21 : NumB (w20.alloc (.cells #[.int .i64 1] 2)) w20.heap.size [1] := heap_alloc_new w20 (.cells #[.int .i64 1] 2)
   have I21 := H20.I.old (w' := w20.alloc (.cells #[.int .i64 1] 2)) (o21 LB (by omega))
   generalize w20.alloc (.cells #[.int .i64 1] 2) = w21 at *
   generalize hN20 : w20.heap.size = N20 at *
   have hwr := ladd_w (main := true) (V := fun _ => none) hA I21 fz_even.2.1 1 _ [1] d21.lsR _ fz_v2
   refine Walk.gz z12 ?_
   refine Walk.callP (Post := fun v w' => v = .bool true ∧ Solo LB 1 fz2 w21 w') ?_ hoA (by rfl) (by decide) rfl Try.func24 (by kernel_rfl) (by rfl) ⟨rfl, rfl, _, Try.func12⟩ ?_
   ·walk_nrm
    exact hwr
   rintro v w22 ⟨rfl, H22⟩
   have z22 := H22.size
   have hrd := lread_w (main := true) (V := fun _ => none) hA H22.I fz_even.2.2 1
   clear hwr d21
   walk_nrm
   refine Walk.gz z12 ?_
   refine Walk.callP (Post := fun v w' => ∃ B, v = .tuple #[.slice (some ⟨B, 0, none⟩) (1 + 1) (1 + 1), .bool true] ∧ w22.heap.size ≤ B ∧ NumB w' B (wdL 1 fz2) ∧ Solo LB 1 fz2 w22 w') ?_ hoA (by rfl) (by decide) rfl Try.func25 (by kernel_rfl) (by rfl) ⟨rfl, rfl, _, Try.func12⟩ ?_
   ·walk_nrm
    exact hrd
   rintro v w23 ⟨B, rfl, hB, hNB, H23⟩
   rw [fz_words] at hNB
   have z23 := H23.size
   clear hrd
   walk_nrm
   refine Walk.gz z12 ?_
   (refine Walk.oa ?_; try walk_nrm)
   have s24 : (w23.alloc (.cells #[.int .i64 6, .int .i64 6] 2)).heap.size = w23.heap.size + 1 := by simp
   have o24 : ∀ x, x < w23.heap.size → (w23.alloc (.cells #[.int .i64 6, .int .i64 6] 2)).heap[x]? = w23.heap[x]? := fun x hx => heap_new_lt _ _ hx
   have d24 : NumB (w23.alloc (.cells #[.int .i64 6, .int .i64 6] 2)) w23.heap.size [6, 6] := heap_alloc_new w23 (.cells #[.int .i64 6, .int .i64 6] 2)
   have I24 := H23.I.old (w' := w23.alloc (.cells #[.int .i64 6, .int .i64 6] 2)) (o24 LB (by omega))
   have n24 := hNB.same (w' := w23.alloc (.cells #[.int .i64 6, .int .i64 6] 2)) (o24 B hNB.lt)
   generalize w23.alloc (.cells #[.int .i64 6, .int .i64 6] 2) = w24 at *
   generalize hN23 : w23.heap.size = N23 at *
   have hsn := sn_w (main := true) (V := fun _ => none) (some ⟨B, 0, none⟩) (some ⟨N23, 0, none⟩) [6, 6] 2 2 (by decide) w24 (fun i x hx => ⟨B, 0, rfl, by rw [Nat.zero_add]; exact n24.cell hx⟩) (fun i x hx => ⟨N23, 0, rfl, by rw [Nat.zero_add]; exact d24.cell hx⟩)
   refine Walk.gz z12 ?_
   refine Walk.callV (x := .bool true) (W := w24) ?_ hoA (by rfl) (by decide) rfl Try.func21 (by kernel_rfl) (by rfl) ?_
   ·walk_nrm
    exact hsn
   have hvr := version_w (main := true) (V := fun _ => none) hA w24 I24
   rw [fz_ver] at hvr
   clear hsn d24 n24
   walk_nrm
   refine Walk.gz z12 ?_
   refine Walk.callW (Post := fun v w' => v = .int .i64 4 ∧ Calm LB 1 fz2 w24 w') ?_ hoA (by rfl) (by decide) rfl Try.func18 (by kernel_rfl) (by rfl) ?_
   ·walk_nrm
    exact hvr
   rintro v w25 ⟨rfl, H25⟩
   have z25 := H25.size
   have O25 : ∀ b, b < T2 → w25.heap[b]? = w13.heap[b]? := fun b hb => (H25.old b (by omega) (by omega)).trans ((o24 b (by omega)).trans ((H23.old b (by omega) (by omega)).trans ((H22.old b (by omega) (by omega)).trans ((o21 b (by omega)).trans ((H20.old b (by omega) (by omega)).trans ((o19 b (by omega)).trans (u18 b hb)))))))
   clear hvr H20 H22 H23 H25 I18 I19 I21 I24 hq1 hq2
   walk_nrm
   refine Walk.gz z12 ?_
   exact Walk.on1 rfl rfl Try.func12 rfl (.stop fun d => ⟨rfl, O25, by show T2 ≤ w25.heap.size; omega⟩)
end
end
end Go.Proofs.Ytjenoiekfkhafaa
