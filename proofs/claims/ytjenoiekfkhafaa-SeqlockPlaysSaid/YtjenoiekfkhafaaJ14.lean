/- Part 14. -/
import Derived.Test.YtjenoiekfkhafaaJ3
import Derived.Test.YtjenoiekfkhafaaJ9
import Derived.Test.YtjenoiekfkhafaaJ10
import Derived.Test.YtjenoiekfkhafaaJ13
import Derived.Laws.CopyRow
set_option linter.unusedSimpArgs false
set_option linter.unusedVariables false
set_option linter.unusedVariables false
set_option maxHeartbeats 8000000
set_option maxRecDepth 100000
namespace Go.Proofs.Ytjenoiekfkhafaa
open Go.Conc Go.RowKit Go.Relay
open Go.ConcN (upd upd_ne upd_same)
section
section
variable {main : Bool} {V : Nat → Option Wait}
theorem atAdd (b q : Nat) (v x : Int) (w : World) (hc : w.cell? ⟨b, q, none⟩ = some (.int .i64 v)) (hz : w.frozen? ⟨b, q, none⟩ = false) (hf : Free V ⟨b, q, none⟩) : CallV Try.prog main V 59 #[.pointer (some ⟨b, q, none⟩), .int .i64 x] w (.int .i64 (IntKind.i64.wrap (v + x))) (w.setCell ⟨b, q, none⟩ (.int .i64 (IntKind.i64.wrap (v + x)))) := by
 refine callW_in Try.func59 rfl fun fr cs => ?_
 simp only [Try.ntmps59, ez, Nat.reduceAdd, Nat.reduceSub]
 refine Walk.gzr ?_
 refine Walk.turn (W := w.setCell ⟨b, q, none⟩ (.int .i64 (IntKind.i64.wrap (v + x)))) rfl (fun d => stepG_add_atomic (w := w.at d) rfl (by rfl) (by decide) rfl Try.func76 (by kernel_rfl) (by rfl) (by kernel_rfl) .i64 (by kernel_rfl) rfl rfl hc hz) (fun d => DR.set' hf hc d _ (evR_rw hf)) ?_
 walk_nrm
 refine Walk.gzr ?_
 exact Walk.ret1 rfl rfl Try.func59 rfl fun d => ⟨rfl, d, rfl⟩
end
noncomputable def reg44_0 := rg Try.f44.body [0]
noncomputable def reg44_1 := rg Try.f44.body [1, 0, 0]
noncomputable def reg44_2 := rg Try.f44.body [1, 0, 1, 0, 0]
noncomputable def reg44_3 := rg Try.f44.body [1, 1, 0]
noncomputable def reg44_4 := rg Try.f44.body [1, 1, 1, 0]
theorem z44 : List.range reg44_0.size = [0] ∧ List.range reg44_1.size = [0, 1] ∧ List.range reg44_2.size = [0] ∧ List.range reg44_3.size = [0, 1] ∧ List.range reg44_4.size = [0, 1, 2, 3, 4, 5] := by refine ⟨?_, ?_, ?_, ?_, ?_⟩ <;> kernel_rfl
theorem code44_is : Try.f44.body = some (.seq (.region 0 reg44_0 false) (.seq (.seq (.region 1 reg44_1 false) (.cond (.tmp 8 ) (.seq (.region 2 reg44_2 false) (.ret)) (.skip))) (.seq (.region 3 reg44_3 false) (.seq (.region 4 reg44_4 false) (.ret))))) := by kernel_rfl
section
variable {L : La} {sv : Value}
theorem word_add (K : Lg L sv) (W : Wd L) (e : K.E) (d : L.D) (x : Int) (hx : ∀ y, W.ok y) (hon : W.on (K.gh e)) (ht : K.tgt e = (K.s e, .inr d)) : SCall K.toLb 44 #[W.p, sv, .int .i64 x] e (fun v e' => ∃ s, v = .int .i64 (IntKind.i64.wrap (W.get s + x)) ∧ Wrote K e d s (W.put s (IntKind.i64.wrap (W.get s + x))) e') := by
 intro fr l hp hl hk
 unfold Wd.p
 unfold LW
 have hp1 := fun w => run_eql_ptr (P := Try.prog) 93 undWord (some ⟨W.b, W.q, none⟩) w
 have hp2 := fun w es => ev_eql_ptr (P := Try.prog) 93 undWord (some ⟨W.b, W.q, none⟩) w es
 simp only [Option.isNone_some] at hp1
 rw [enter_at _ Try.func44 code44_is]
 simp only [Try.ntmps44, ez, Nat.reduceAdd, Nat.reduceSub]
 refine Walk.gz z44 ?_
 refine LW.callS (K := K.toLb) (e := e) (l := fr :: l) (f := 56) (Q := fun _ e' => Aft K.toLb e d e') ?_ hoA (by rfl) (by decide) rfl Try.func56 (by kernel_rfl) (by rfl) ⟨rfl, rfl, _, Try.func44⟩ (plain_cons hp hl) ?_
 ·walk_nrm
  exact step_s K e d ht
 intro v e1 ha
 obtain ⟨hc, hz⟩ := W.rd _ _ _ (W.up ha.le hon) (K.inv e1)
 obtain ⟨e', m⟩ := W.put_mv K e1 (IntKind.i64.wrap (W.get (K.s e1) + x)) (W.up ha.le hon) (hx _)
 have hkk := hk (.int .i64 (IntKind.i64.wrap (W.get (K.s e1) + x))) e' ⟨K.s e1, rfl, Wrote.of hon ha m⟩
 generalize hg : W.get (K.s e1) = gv at *
 unfold LW
 walk_nrm
 refine Walk.gz z44 ?_
 refine Walk.callV (x := .int .i64 (IntKind.i64.wrap (gv + x))) (W := (K.w e1).setCell ⟨W.b, W.q, none⟩ (.int .i64 (IntKind.i64.wrap (gv + x)))) ?_ hoA (by rfl) (by decide) rfl Try.func59 (by kernel_rfl) (by rfl) ?_
 ·walk_nrm
  exact atAdd W.b W.q gv x (K.w e1) hc hz ((K.shA e1 _ (W.sh _ (W.up ha.le hon))).1 _ rfl)
 walk_nrm
 refine Walk.gz z44 ?_
 exact Walk.on1 rfl rfl Try.func44 rfl (LW.to m hkk)
end
end
section
structure Sq where
 v : Int
 w : Nat → Int
inductive QD where
 | w1 (a : Bool) (t : Nat) (xs : Nat → Int) | w2 (a : Bool) (t : Nat) (xs : Nat → Int) (v : Int) | w3 (a : Bool) (xs : Nat → Int) (v : Int) (i : Nat) | w4 (v : Int)
 | r1 (t : Nat) | r2 (t : Nat) (v : Int) (i : Nat) (l : List Int) | r3 (t : Nat) (v : Int) (l : List Int) | q (i : Nat) (l : List Int) | n1 (a : Int)
def sqOdd (v : Int) : Prop := v.tmod 2 ≠ 0
instance (v : Int) : Decidable (sqOdd v) := inferInstanceAs (Decidable (_ ≠ _))
def sqTr (a : Int) : Nat := (min (max a 1) 1024).toNat
theorem sqTr_le (a : Int) : 1 ≤ sqTr a ∧ sqTr a ≤ 1024 := by unfold sqTr; omega
def sqVal (o : OpV) (i : Nat) : Int := IntKind.i64.wrap (o.b + IntKind.i64.wrap ((i : Int) * o.c))
def aNo : Ans := ⟨false, 0, []⟩
def sqFail (t : Nat) (d : Nat → QD) : Ans ⊕ QD := if t ≤ 1 then .inl aNo else .inr (d (t - 1))
def sqPutV (s : Sq) (v : Int) : Sq := ⟨v, s.w⟩
def sqPutW (s : Sq) (i : Nat) (x : Int) : Sq := ⟨s.v, upd s.w i x⟩
def sqEnter (s : Sq) (_ : Int) (o : OpV) : Sq × (Ans ⊕ QD) :=
 if o.k = 1 then (s, .inr (.w1 false (sqTr o.a) (sqVal o))) else if o.k = 2 then (s, .inr (.w1 true (sqTr o.a) (sqVal o))) else if o.k = 3 then (s, .inr (.r1 (sqTr o.a))) else if o.k = 4 then (s, .inr (.q 0 [])) else if o.k = 5 then (s, .inr (.n1 o.a)) else (s, .inl aNo)
def sqAct (k : Nat) (s : Sq) : QD → Sq × (Ans ⊕ QD)
 | .w1 a t xs => (s, if sqOdd s.v then sqFail t (.w1 a · xs) else .inr (.w2 a t xs s.v))
 | .w2 a t xs v => if s.v = v then (sqPutV s (IntKind.i64.wrap (v + 1)), .inr (.w3 a xs v 0)) else (s, sqFail t (.w1 a · xs))
 | .w3 a xs v i => (sqPutW s i (if a then IntKind.i64.wrap (s.w i + xs i) else xs i), .inr (if i = k then .w4 v else .w3 a xs v (i + 1)))
 | .w4 v => (sqPutV s (IntKind.i64.wrap (v + 2)), .inl ⟨true, 0, []⟩)
 | .r1 t => (s, if sqOdd s.v then sqFail t .r1 else .inr (.r2 t s.v 0 []))
 | .r2 t v i l => (s, .inr (if i = k then .r3 t v (l ++ [s.w i]) else .r2 t v (i + 1) (l ++ [s.w i])))
 | .r3 t v l => (s, if s.v = v then .inl ⟨true, 0, l⟩ else sqFail t .r1)
 | .q i l => (s, if i = k then .inl ⟨true, 0, l ++ [s.w i]⟩ else .inr (.q (i + 1) (l ++ [s.w i])))
 | .n1 a => (s, .inl ⟨decide (a < s.v), s.v, []⟩)
structure SqI (lb k : Nat) (s : Sq) (w : World) : Prop where
 hd : ∃ arr : Array Value, w.heap[lb]? = some (.cells arr 75) ∧ arr.size = 18 ∧ arr[0]? = some (.int .i64 s.v) ∧ (∀ i, i ≤ k → arr[1 + i]? = some (.int .i64 (s.w i))) ∧ arr[17]? = some (.int .i64 k)
 pos : k ≤ 15
theorem SqI.old {lb k : Nat} {s : Sq} {w w' : World} (h : SqI lb k s w) (hb : w'.heap[lb]? = w.heap[lb]?) : SqI lb k s w' := by
 obtain ⟨⟨arr, h1, h2⟩, h3⟩ := h
 exact ⟨⟨arr, hb.trans h1, h2⟩, h3⟩
theorem SqI.lt {lb k : Nat} {s : Sq} {w : World} (h : SqI lb k s w) : lb < w.heap.size := by
 obtain ⟨⟨arr, h1, h2⟩, h3⟩ := h
 exact (Array.getElem?_eq_some_iff.1 h1).1
def sqLa (lb k : Nat) : La where
 Sg := Sq
 D := QD
 Gh := Unit
 le := fun _ _ => True
 refl := fun _ => trivial
 trans := fun _ _ => trivial
 enter := sqEnter
 act := sqAct k
 sh := fun _ b => b = lb
 mono := fun _ h => h
 I := fun _ => SqI lb k
 stable := fun h hb => h.old (hb _ rfl)
 lt := fun h hb => hb ▸ h.lt
section
variable {lb k : Nat}
theorem SqI.rdV {s : Sq} {w : World} (h : SqI lb k s w) : w.cell? ⟨lb, 0, none⟩ = some (.int .i64 s.v) ∧ w.frozen? ⟨lb, 0, none⟩ = false := by
 obtain ⟨⟨arr, h1, h2, h3, h4, h5⟩, h6⟩ := h
 exact ⟨(cell_of h1 0).trans h3, frozen_of h1 0⟩
theorem SqI.rdW {i : Nat} (hi : i ≤ k) {s : Sq} {w : World} (h : SqI lb k s w) : w.cell? ⟨lb, 1 + i, none⟩ = some (.int .i64 (s.w i)) ∧ w.frozen? ⟨lb, 1 + i, none⟩ = false := by
 obtain ⟨⟨arr, h1, h2, h3, h4, h5⟩, h6⟩ := h
 exact ⟨(cell_of h1 _).trans (h4 i hi), frozen_of h1 _⟩
theorem SqI.rdM {s : Sq} {w : World} (h : SqI lb k s w) : w.cell? ⟨lb, 17, none⟩ = some (.int .i64 k) := by
 obtain ⟨⟨arr, h1, h2, h3, h4, h5⟩, h6⟩ := h
 exact (cell_of h1 17).trans h5
theorem SqI.wrV {s : Sq} {w : World} (v : Int) (h : SqI lb k s w) : SqI lb k (sqPutV s v) (w.setCell ⟨lb, 0, none⟩ (.int .i64 v)) := by
 obtain ⟨⟨arr, h1, h2, h3, h4, h5⟩, h6⟩ := h
 refine ⟨⟨_, heap_set_self _ _ h1, by simp [h2], by simp [h2, sqPutV], fun i hi => ?_, ?_⟩, h6⟩
 ·rw [Array.getElem?_setIfInBounds_ne (by omega)]; exact h4 i hi
 ·rw [Array.getElem?_setIfInBounds_ne (by omega)]; exact h5
theorem SqI.wrW {i : Nat} (hi : i ≤ k) {s : Sq} {w : World} (v : Int) (h : SqI lb k s w) : SqI lb k (sqPutW s i v) (w.setCell ⟨lb, 1 + i, none⟩ (.int .i64 v)) := by
 obtain ⟨⟨arr, h1, h2, h3, h4, h5⟩, h6⟩ := h
 refine ⟨⟨_, heap_set_self _ _ h1, by simp [h2], ?_, fun j hj => ?_, ?_⟩, h6⟩
 ·rw [Array.getElem?_setIfInBounds_ne (by omega)]; exact h3
 ·show _ = some (Value.int .i64 (upd s.w i v j))
  by_cases e : j = i
  ·subst e
   rw [upd_same]
   exact Array.getElem?_setIfInBounds_self_of_lt (by omega)
  ·rw [upd_ne _ _ e, Array.getElem?_setIfInBounds_ne (by omega)]; exact h4 j hj
 ·rw [Array.getElem?_setIfInBounds_ne (by omega)]; exact h5
def verW : Wd (sqLa lb k) where
 on := fun _ => True
 up := fun _ _ => trivial
 b := lb
 q := 0
 get := fun s => (s : Sq).v
 put := fun s v => sqPutV s v
 ok := fun _ => True
 sh := fun _ _ => rfl
 rd := fun _ s w _ h => SqI.rdV h
 wr := fun _ s w v _ _ h => SqI.wrV v h
def worW (i : Nat) (hi : i ≤ k) : Wd (sqLa lb k) where
 on := fun _ => True
 up := fun _ _ => trivial
 b := lb
 q := 1 + i
 get := fun s => (s : Sq).w i
 put := fun s v => sqPutW s i v
 ok := fun _ => True
 sh := fun _ _ => rfl
 rd := fun _ s w _ h => SqI.rdW hi h
 wr := fun _ s w v _ _ h => SqI.wrW hi v h
end
end
end Go.Proofs.Ytjenoiekfkhafaa
namespace Go.Relay
section
open Go.Conc Go.RowKit
variable {P : Program} {main : Bool} {V : Nat → Option Wait} {Stop : Goroutine → World → Prop} {w : World} {b : Frame} {a : Act} {k : List Item} {cs : List Frame} {ops : Array Oper} {i : Nat} {rest : List Nat} {o : Oper}
theorem run_copy_op {v xv v' : Value} {w' : World} (s x : Operand) (t t' : TypeId) (ho : o.op = .call { callee := .builtin .copy, args := #[s, x], argTypes := #[t, t'] }) (hs : a.eval s = v) (hx : a.eval x = xv) {K : Act → World → Prop}
  (hr : (Builtin.copy_ #[t, t'] o.type #[v, xv]).run P w = .ok v' w') (h : K (a.put o.dst v') w') : uponK o a K ((execOp a.eval o).run P w) := by
 unfold execOp
 simp only [ho, resolve, invoke, builtin, Sem.run_bind, Sem.run_pure, Result.andThen_ok, List.map_toArray, List.map_cons, List.map_nil, hs, hx, hr]
 exact h
theorem events_copy_op {v xv : Value} (s x : Operand) (t t' : TypeId) (ho : o.op = .call { callee := .builtin .copy, args := #[s, x], argTypes := #[t, t'] }) (hs : a.eval s = v) (hx : a.eval x = xv) (es : Array Event) :
  (execOp a.eval o).events P w es = (Builtin.copy_ #[t, t'] o.type #[v, xv]).events P w es := by
 unfold execOp
 simp only [ho, resolve, invoke, builtin, Sem.events_bind, Sem.run_pure, Sem.events_pure, Result.evThen_ok, List.map_toArray, List.map_cons, List.map_nil, hs, hx]
 cases (Builtin.copy_ #[t, t'] o.type #[v, xv]).run P w <;> rfl
theorem run_copy_own (w : World) (dT sT ty elem : TypeId) (g dLen dCap : Nat) (sa : Option Addr) (sLen sCap : Nat) (cur : Array Value) (t : TypeId) (xs : List Value)
  (hu : P.underlying dT = some (.slice elem)) (hs : (P.info? elem).map (·.size) = some 1) (hg : w.heap[g]? = some (.cells cur t (0, 0))) (hn : xs.length = Nat.min sLen dLen) (hnil : sa = none → sLen = 0 ∧ sCap = 0)
  (hsrc : ∀ j v, xs[j]? = some v → ∃ ad, sa = some ad ∧ w.cell? (ad.add j) = some v) (hfit : xs.length ≤ cur.size) (h1 : ∀ v ∈ xs, v.oneCell' = true) :
  (Builtin.copy_ #[dT, sT] ty #[.slice (some ⟨g, 0, none⟩) dLen dCap, .slice sa sLen sCap]).run P w = .ok (goInt xs.length) (w.setRow g (xs ++ cur.toList.drop xs.length).toArray) := by
 cases sa with
 | none =>
  obtain ⟨rfl, rfl⟩ := hnil rfl
  have h0 : xs = [] := List.eq_nil_of_length_eq_zero (by simpa using hn)
  subst h0
  rw [run_copy_nil (P := P) w dT sT ty elem _ dLen dCap hu (by rw [hs]; rfl)]
  have := Go.setRow_self w g cur t (0, 0) hg
  simp [this]
 | some ad =>
  rw [run_copy_row (P := P) w dT sT ty elem g 0 dLen dCap ad sLen sCap cur t xs hu hs hg hn (fun j v hj => ?_) (by simpa using hfit) h1]
  ·simp
  ·obtain ⟨ad', e, h⟩ := hsrc j v hj
   cases e
   exact h
theorem events_copy_own (w : World) (dT sT ty elem : TypeId) (g dLen dCap : Nat) (sa : Option Addr) (sLen sCap : Nat) (cur : Array Value) (t : TypeId) (xs : List Value)
  (hu : P.underlying dT = some (.slice elem)) (hs : (P.info? elem).map (·.size) = some 1) (hg : w.heap[g]? = some (.cells cur t (0, 0))) (hn : xs.length = Nat.min sLen dLen) (hnil : sa = none → sLen = 0 ∧ sCap = 0)
  (hsrc : ∀ j v, xs[j]? = some v → ∃ ad, sa = some ad ∧ w.cell? (ad.add j) = some v) (hfit : xs.length ≤ cur.size) (h1 : ∀ v ∈ xs, v.oneCell' = true) :
  ∀ ev ∈ (Builtin.copy_ #[dT, sT] ty #[.slice (some ⟨g, 0, none⟩) dLen dCap, .slice sa sLen sCap]).events P w #[], ev.isRead ∨ ∃ ad, ev.loc = .cell ad ∧ ad.block = g := by
 intro ev hev
 cases hq : P.info? elem with
 | none => simp [hq] at hs
 | some i =>
  have hi : i.size = 1 := by simpa [hq] using hs
  have none0 : ∀ e ∈ (#[] : Array Event), e.isRead := by intro e he; simp at he
  cases sa with
  | none =>
   obtain ⟨rfl, rfl⟩ := hnil rfl
   simp [Builtin.copy_, run_underlying hu, Builtin.lenOf, Builtin.firstCells, sizeOf, typeInfo, hq, storeCells] at hev
  | some ad =>
   have hl := run_loadCells_list (P := P) w ad xs (fun j v hj => by
    obtain ⟨ad', e, h⟩ := hsrc j v hj
    cases e
    exact h)
   simp [Builtin.copy_, run_underlying hu, Builtin.lenOf, Builtin.firstCells, sizeOf, typeInfo, hq, hi, ← hn, hl] at hev
   rcases events_storeCells_at (P := P) g 0 t xs 0 cur w _ hg (by simpa using hfit) h1 ev hev with h | h
   ·rcases events_loadCellsFrom_reads ad _ _ _ w _ ev h with h | h
    ·simp at h
    ·exact .inl h
   ·exact .inr h
theorem Walk.copy (s x : Operand) (dT sT elem : TypeId) (ho : ops[i]? = some o) (hw : Region.wanted o (yielded ops a.tmps) = true) (hk : b.kind ≠ .early) (hop : o.op = .call { callee := .builtin .copy, args := #[s, x], argTypes := #[dT, sT] })
  (hu : P.underlying dT = some (.slice elem)) (hs : (P.info? elem).map (·.size) = some 1) (g dLen dCap : Nat) (sa : Option Addr) (sLen sCap : Nat) (cur : Array Value) (t : TypeId) (xs : List Value)
  (hd : a.eval s = .slice (some ⟨g, 0, none⟩) dLen dCap) (hx : a.eval x = .slice sa sLen sCap) (hg : w.heap[g]? = some (.cells cur t (0, 0))) (hn : xs.length = Nat.min sLen dLen) (hnil : sa = none → sLen = 0 ∧ sCap = 0)
  (hsrc : ∀ j v, xs[j]? = some v → ∃ ad, sa = some ad ∧ w.cell? (ad.add j) = some v) (hfit : xs.length ≤ cur.size) (h1 : ∀ v ∈ xs, v.oneCell' = true) (hap : Apart V g)
  (h : Walk P main (DR V) Stop (G (b.at (a.put o.dst (goInt xs.length)) (.inRegion ops rest :: k)) cs) (w.setRow g (xs ++ cur.toList.drop xs.length).toArray)) : Walk P main (DR V) Stop (G (b.at a (.inRegion ops (i :: rest) :: k)) cs) w := by
 have hgr : ∀ (cells : Array Value) d, (w.at d).grownBy ((w.setRow g cells).at d) (some g) := fun cells d => by
  refine ⟨rfl, rfl, rfl, ?_, fun k hk hne => ?_⟩
  ·simp [World.setRow, World.at]
  ·have : k ≠ g := fun e => hne (by rw [e])
   simp only [World.setRow, World.at]
   rw [Array.getElem?_modify, if_neg (Ne.symm this)]
 refine Walk.opw (W := w.setRow g (xs ++ cur.toList.drop xs.length).toArray) ho hw hk (fun dd e he => ?_) (fun dd es hes => DR.grown (hgr _ dd) (fun g' e => by cases e; exact hap) hes) (fun dd K hK => ?_)
 ·rw [events_copy_op s x dT sT hop hd hx] at he
  rcases events_copy_own (P := P) (w.at dd) dT sT o.type elem g dLen dCap sa sLen sCap cur t xs hu hs hg hn hnil hsrc hfit h1 e he with h' | ⟨ad, h', hb⟩
  ·exact evR_isRead h'
  ·exact evR_cell h' (hap.1 ad hb)
 ·exact run_copy_op s x dT sT hop hd hx (run_copy_own (P := P) (w.at dd) dT sT o.type elem g dLen dCap sa sLen sCap cur t xs hu hs hg hn hnil hsrc hfit h1) (hK _ h)
end
end Go.Relay
namespace Go.Proofs.Ytjenoiekfkhafaa
open Go.Conc Go.RowKit Go.Relay
open Go.ConcN (upd upd_ne upd_same)
section
def NumB (w : World) (B : Nat) (xs : List Int) : Prop := w.heap[B]? = some (.cells (xs.map fun z => Value.int .i64 z).toArray 2)
theorem NumB.cell {w : World} {B : Nat} {xs : List Int} (h : NumB w B xs) {j : Nat} {z : Int} (hj : xs[j]? = some z) : w.cell? ⟨B, j, none⟩ = some (.int .i64 z) := by
 refine (cell_of h j).trans ?_
 simp [hj]
theorem NumB.frozen {w : World} {B : Nat} {xs : List Int} (h : NumB w B xs) (j : Nat) : w.frozen? ⟨B, j, none⟩ = false := frozen_of h j
theorem NumB.set {w : World} {B : Nat} {xs : List Int} (h : NumB w B xs) (j : Nat) (z : Int) : NumB (w.setCell ⟨B, j, none⟩ (.int .i64 z)) B (xs.set j z) := by
 unfold NumB
 rw [heap_set_self _ _ h]
 simp [List.map_set]
theorem NumB.same {w w' : World} {B : Nat} {xs : List Int} (h : NumB w B xs) (hb : w'.heap[B]? = w.heap[B]?) : NumB w' B xs := hb.trans h
theorem NumB.lt {w : World} {B : Nat} {xs : List Int} (h : NumB w B xs) : B < w.heap.size := (Array.getElem?_eq_some_iff.1 h).1
theorem NumB.row {w : World} {B : Nat} {xs : List Int} (h : NumB w B xs) {base : Nat} (hb : base ≤ B) (hn : xs.length ≤ maxLen) : w.ownsRow base 2 1 (.slice (some ⟨B, 0, none⟩) xs.length xs.length) xs.length (xs.map fun z => .int .i64 z) :=
 ⟨by simp, .inr ⟨B, xs.length, _, rfl, hb, h, Nat.le_refl _, hn, by simp, by simpa using List.take_of_length_le (by simp)⟩⟩
theorem NumB.lsR {w : World} {B : Nat} {xs : List Int} (h : NumB w B xs) : LsR (.slice (some ⟨B, 0, none⟩) xs.length xs.length) xs w :=
 ⟨_, _, rfl, Nat.le_refl _, fun e => (by cases e), fun j z hj => ⟨B, 0, rfl, by rw [Nat.zero_add]; exact h.cell hj⟩⟩
theorem made_zero (n : Nat) : madeCells #[Value.int .i64 0] n = ((List.replicate n (0 : Int)).map fun z => Value.int .i64 z).toArray := by
 apply Array.ext'
 rw [toList_madeCells_one]
 simp
def padL (l : List Int) (n : Nat) : List Int := l ++ List.replicate (n - l.length) 0
theorem padL_len {l : List Int} {n : Nat} (h : l.length ≤ n) : (padL l n).length = n := by simp [padL]; omega
theorem padL_full {l : List Int} {n : Nat} (h : l.length = n) : padL l n = l := by simp [padL, h]
theorem padL_set {l : List Int} {n : Nat} (h : l.length < n) (v : Int) : (padL l n).set l.length v = padL (l ++ [v]) n := by
 unfold padL
 obtain ⟨m, hm⟩ : ∃ m, n - l.length = m + 1 := ⟨n - l.length - 1, by omega⟩
 have hm2 : n - (l ++ [v]).length = m := by simp; omega
 rw [hm, hm2, List.replicate_succ, List.set_append_right _ _ (Nat.le_refl _)]
 simp
theorem range_snoc (f : Nat → Int) (j : Nat) : (List.range (j + 1)).map f = (List.range j).map f ++ [f j] := by simp [List.range_succ]
theorem ix_word (lb j : Nat) (hj : j < 16) (w : World) (es : Array Event) : (Instr.indexAt 73 (.pointer (some ⟨lb, 1, none⟩)) (.int .i64 j)).run Try.prog w = .ok (.pointer (some ⟨lb, 1 + j, none⟩)) w ∧ (Instr.indexAt 73 (.pointer (some ⟨lb, 1, none⟩)) (.int .i64 j)).events Try.prog w es = es := by
 have hu : Try.prog.underlying 73 = some (.array 16 72) := by kernel_rfl
 have h0 : (0 : Int) ≤ j := by omega
 have h1 : (j : Int) < 16 := by omega
 refine ⟨?_, events_indexAt_array _ _ 16 _ _ _ hu ⟨h0, h1⟩⟩
 have hs : (Try.prog.info? 72).map (·.size) = some 1 := by kernel_rfl
 cases hq : Try.prog.info? 72 with
 | none => simp [hq] at hs
 | some i =>
  have hi : i.size = 1 := by simpa [hq] using hs
  simp [Instr.indexAt, Instr.sureAddr, run_underlying hu, asIntOf, h1, hj, sizeOf, typeInfo, hq, hi, Addr.add]
theorem undLock : Try.prog.underlying 35 = some (.pointer 75) := by kernel_rfl
noncomputable def reg17_0 := rg Try.f17.body [0]
noncomputable def reg17_1 := rg Try.f17.body [1, 0, 0]
noncomputable def reg17_2 := rg Try.f17.body [1, 0, 1, 0, 0]
noncomputable def reg17_3 := rg Try.f17.body [1, 1, 0]
theorem z17 : List.range reg17_0.size = [0] ∧ List.range reg17_1.size = [0, 1] ∧ List.range reg17_2.size = [0] ∧ List.range reg17_3.size = [0, 1, 2, 3, 4, 5] := by refine ⟨?_, ?_, ?_, ?_⟩ <;> kernel_rfl
theorem code17_is : Try.f17.body = some (.seq (.region 0 reg17_0 false) (.seq (.seq (.region 1 reg17_1 false) (.cond (.tmp 4 ) (.seq (.region 2 reg17_2 false) (.ret)) (.skip))) (.seq (.region 3 reg17_3 false) (.ret)))) := by kernel_rfl
noncomputable def reg45_0 := rg Try.f45.body [0]
noncomputable def reg45_1 := rg Try.f45.body [1, 0]
theorem z45 : List.range reg45_0.size = [0] ∧ List.range reg45_1.size = [0, 1, 2, 3] := by refine ⟨?_, ?_⟩ <;> kernel_rfl
theorem code45_is : Try.f45.body = some (.seq (.region 0 reg45_0 false) (.seq (.region 1 reg45_1 false) (.ret))) := by kernel_rfl
noncomputable def reg47_0 := rg Try.f47.body [0]
noncomputable def reg47_1 := rg Try.f47.body [1, 0]
theorem z47 : List.range reg47_0.size = [0] ∧ List.range reg47_1.size = [0, 1, 2, 3] := by refine ⟨?_, ?_⟩ <;> kernel_rfl
theorem code47_is : Try.f47.body = some (.seq (.region 0 reg47_0 false) (.seq (.region 1 reg47_1 false) (.ret))) := by kernel_rfl
noncomputable def reg38_0 := rg Try.f38.body [0]
noncomputable def reg38_1 := rg Try.f38.body [1, 0]
noncomputable def reg38_2 := rg Try.f38.body [1, 1, 0]
noncomputable def reg38_3 := rg Try.f38.body [1, 1, 1, 0]
theorem z38 : List.range reg38_0.size = [0] ∧ List.range reg38_1.size = [0, 1, 2, 3] ∧ List.range reg38_2.size = [0, 1, 2] ∧ List.range reg38_3.size = [0, 1] := by refine ⟨?_, ?_, ?_, ?_⟩ <;> kernel_rfl
theorem code38_is : Try.f38.body = some (.seq (.region 0 reg38_0 false) (.seq (.region 1 reg38_1 false) (.seq (.region 2 reg38_2 false) (.seq (.region 3 reg38_3 false) (.ret))))) := by kernel_rfl
noncomputable def reg51_0 := rg Try.f51.body [0]
noncomputable def reg51_1 := rg Try.f51.body [1, 0]
noncomputable def reg51_2 := rg Try.f51.body [1, 1, 0, 0]
noncomputable def reg51_3 := rg Try.f51.body [1, 1, 0, 1, 0, 0, 0]
noncomputable def reg51_4 := rg Try.f51.body [1, 1, 0, 1, 0, 0, 1, 1, 0, 0, 0]
noncomputable def reg51_5 := rg Try.f51.body [1, 1, 0, 1, 0, 0, 1, 1, 0, 0, 1]
noncomputable def reg51_6 := rg Try.f51.body [1, 1, 0, 1, 0, 0, 1, 1, 1]
noncomputable def reg51_7 := rg Try.f51.body [1, 1, 1, 0]
theorem z51 : List.range reg51_0.size = [0, 1] ∧ List.range reg51_1.size = [0, 1, 2, 3] ∧ List.range reg51_2.size = [0, 1, 2] ∧ List.range reg51_3.size = [0] ∧ List.range reg51_4.size = [0, 1] ∧ List.range reg51_5.size = [0, 1, 2, 3, 4, 5, 6, 7, 8, 9, 10] ∧ List.range reg51_6.size = [0, 1] ∧ List.range reg51_7.size = [0, 1] := by refine ⟨?_, ?_, ?_, ?_, ?_, ?_, ?_, ?_⟩ <;> kernel_rfl
theorem code51_is : Try.f51.body = some (.seq (.region 0 reg51_0 false) (.seq (.region 1 reg51_1 false) (.seq (.seq (.region 2 reg51_2 false) (.block 0 (.loop (.seq (.region 3 reg51_3 false) (.seq (.cond (.tmp 13 ) (.skip) (.exit 0)) (.seq (.block 1 (.seq (.region 4 reg51_4 false) (.region 5 reg51_5 false))) (.region 6 reg51_6 false))))))) (.seq (.region 7 reg51_7 false) (.ret))))) := by kernel_rfl
noncomputable def hdVal (lb X N n j : Nat) (u : Nat → Value) : Frame :=
 (base 51).at { tmps := #[.pointer (some ⟨lb, 0, none⟩), u 1, u 2, .pointer (some ⟨X, 0, none⟩), u 4, .slice (some ⟨N, 0, none⟩) n n, u 6, u 7, u 8, u 9, u 10, .int .i64 n, .int .i64 j, u 13, u 14, u 15, u 16, u 17, u 18, u 19, u 20, u 21, u 22, u 23, u 24, u 25, u 26], defers := [] } [.code (.seq (.region 3 reg51_3 false) (.seq (.cond (.tmp 13 ) (.skip) (.exit 0)) (.seq (.block 1 (.seq (.region 4 reg51_4 false) (.region 5 reg51_5 false))) (.region 6 reg51_6 false)))), .inLoop (.seq (.region 3 reg51_3 false) (.seq (.cond (.tmp 13 ) (.skip) (.exit 0)) (.seq (.block 1 (.seq (.region 4 reg51_4 false) (.region 5 reg51_5 false))) (.region 6 reg51_6 false)))), .inBlock 0, .code (.seq (.region 7 reg51_7 false) (.ret))]
section
variable {main : Bool} {V : Nat → Option Wait} {lb k : Nat} {s : Sq}
theorem len_w (w : World) (I : SqI lb k s w) : CallV Try.prog main V 17 #[.pointer (some ⟨lb, 0, none⟩)] w (.int .i64 ((k : Int) + 1)) w := by
 have hk := I.pos
 have c1 := I.rdM
 have hp1 := fun w => run_eql_ptr (P := Try.prog) 35 undLock (some ⟨lb, 0, none⟩) w
 have hp2 := fun w es => ev_eql_ptr (P := Try.prog) 35 undLock (some ⟨lb, 0, none⟩) w es
 have hw : IntKind.i64.wrap (1 + (k : Int)) = (k : Int) + 1 := by rw [IntKind.wrap_i64]; omega
 simp only [Option.isNone_some] at hp1
 clear I
 refine callW_in Try.func17 code17_is fun fr cs => ?_
 simp only [Try.ntmps17, ez, Nat.reduceAdd, Nat.reduceSub]
 refine Walk.gz z17 ?_
 exact Walk.ret1 rfl rfl Try.func17 rfl fun d => ⟨rfl, d, rfl⟩
theorem within_w (a : Int) (w : World) : CallV Try.prog main V 45 #[.int .i64 a] w (.int .i64 (sqTr a : Nat)) w := by
 have hmn := @events_min_ints Try.prog
 have hmx := @events_max_ints Try.prog
 have hmin : min (max a 1) 1024 = ((sqTr a : Nat) : Int) := by unfold sqTr; omega
 refine callW_in Try.func45 code45_is fun fr cs => ?_
 simp only [Try.ntmps45, ez, Nat.reduceAdd, Nat.reduceSub]
 refine Walk.gz z45 ?_
 exact Walk.ret1 rfl rfl Try.func45 rfl fun d => ⟨by simp [hmin], d, rfl⟩
theorem odd_w (v : Int) (w : World) : CallV Try.prog main V 47 #[.int .i64 v] w (.bool (decide (sqOdd v))) w := by
 have ho : (decide (sqOdd v)) = !(v.tmod 2 == 0) := by
  unfold sqOdd
  by_cases h : v.tmod 2 = 0 <;> simp [h]
 rw [ho]
 refine callW_in Try.func47 code47_is fun fr cs => ?_
 simp only [Try.ntmps47, ez, Nat.reduceAdd, Nat.reduceSub]
 refine Walk.gz z47 ?_
 exact Walk.ret1 rfl rfl Try.func47 rfl fun d => ⟨by simp [bne], d, rfl⟩
def NewNum (xs : List Int) (w : World) (v : Value) (w' : World) : Prop := ∃ B, v = .slice (some ⟨B, 0, none⟩) xs.length xs.length ∧ w.heap.size ≤ B ∧ B < w'.heap.size ∧ NumB w' B xs ∧ (∀ b, b < w.heap.size → w'.heap[b]? = w.heap[b]?) ∧ w.heap.size ≤ w'.heap.size
theorem whole_w (w : World) (I : SqI lb k s w) (sl : Value) (vs : List Int) (hl : LsR sl vs w) (hA : ∀ b, w.heap.size ≤ b → Apart V b) : CallW Try.prog main V 38 #[.pointer (some ⟨lb, 0, none⟩), sl] w (NewNum (padL (vs.take (k + 1)) (k + 1)) w) := by
 obtain ⟨sa, sc, rfl, hc, hnn, hcells⟩ := hl
 have hk := I.pos
 have hlen := len_w (main := main) (V := V) w I
 have hi1 := Option.some_get (show (Try.prog.info? 2).isSome = true by kernel_rfl)
 have hpl : (padL (vs.take (k + 1)) (k + 1)).length = k + 1 := padL_len (by simp; omega)
 have hcc : ((k : Int) + 1) = ((k + 1 : Nat) : Int) := by simp
 rw [hcc] at hlen
 have hn17 : k + 1 ≤ 16 := by omega
 have hn0 : 0 < k + 1 := by omega
 clear hcc I hk
 generalize k + 1 = n at *
 refine callW_in Try.func38 code38_is fun fr cs => ?_
 simp only [Try.ntmps38, ez, Nat.reduceAdd, Nat.reduceSub]
 refine Walk.gz z38 ?_
 refine Walk.callV (x := .int .i64 (n : Int)) (W := w) ?_ hoA (by rfl) (by decide) rfl Try.func17 (by kernel_rfl) (by rfl) ?_
 ·walk_nrm
  exact hlen
 walk_nrm
 refine Walk.gz z38 ?_
 refine Walk.make 22 (.tmp 7) (.tmp 7) hoA (by rfl) (by decide) rfl 2 _ (.int .i64 0) 1 8 (by kernel_rfl) hi1.symm (by rfl) (by rfl) (by rfl) n (by rfl) (by rfl) (by omega) (by omega) ?_
 walk_nrm
 simp only [Value.cells, Nat.mul_one, made_zero]
 have s1 : (w.alloc (.cells ((List.replicate n (0 : Int)).map fun z => Value.int .i64 z).toArray 2)).heap.size = w.heap.size + 1 := by simp
 have o1 : ∀ b, b < w.heap.size → (w.alloc (.cells ((List.replicate n (0 : Int)).map fun z => Value.int .i64 z).toArray 2)).heap[b]? = w.heap[b]? := fun b hb => heap_new_lt _ _ hb
 have d1 := heap_alloc_new w (.cells ((List.replicate n (0 : Int)).map fun z => Value.int .i64 z).toArray 2)
 have hcells1 : ∀ (j : Nat) (z : Int), vs[j]? = some z → ∃ ad, sa = some ad ∧ (w.alloc (.cells ((List.replicate n (0 : Int)).map fun z => Value.int .i64 z).toArray 2)).cell? (ad.add j) = some (.int .i64 z) := fun j z hj => by
  obtain ⟨b, off, e, h⟩ := hcells j z hj
  refine ⟨_, e, ?_⟩
  rw [add_none]
  exact cell_alloc w _ h
 have hap := hA w.heap.size (Nat.le_refl _)
 generalize hN : w.heap.size = N at *
 generalize w.alloc (.cells ((List.replicate n (0 : Int)).map fun z => Value.int .i64 z).toArray 2) = w1 at *
 refine Walk.gz z38 ?_
 refine Walk.copy (.tmp 9) (.tmp 10) 22 22 2 hoA (by rfl) (by decide) rfl huI64s (by kernel_rfl) N n n sa vs.length sc _ 2 ((vs.take n).map fun z => .int .i64 z) rfl rfl d1 (by simp [Nat.min_comm]) (fun e => ⟨by have := hnn e; omega, hnn e⟩) (fun j v hj => ?_) (by simp; omega) (fun v hv => ?_) hap ?_
 ·rw [List.getElem?_map, Option.map_eq_some_iff] at hj
  obtain ⟨z, hz, rfl⟩ := hj
  refine hcells1 j z ?_
  rw [List.getElem?_take] at hz
  split at hz
  ·exact hz
  ·cases hz
 ·obtain ⟨z, _, rfl⟩ := List.mem_map.1 hv
  rfl
 have d2 := setRow_self (cells := (((vs.take n).map fun z => Value.int .i64 z) ++ (((List.replicate n (0 : Int)).map fun z => Value.int .i64 z).toArray).toList.drop (((vs.take n).map fun z => Value.int .i64 z)).length).toArray) d1
 have hrow : ((((vs.take n).map fun z => Value.int .i64 z) ++ (((List.replicate n (0 : Int)).map fun z => Value.int .i64 z).toArray).toList.drop (((vs.take n).map fun z => Value.int .i64 z)).length).toArray) = ((padL (vs.take n) n).map fun z => Value.int .i64 z).toArray := by
  simp [padL]
 have o2 : ∀ b, b < N → (w1.setRow N ((((vs.take n).map fun z => Value.int .i64 z) ++ (((List.replicate n (0 : Int)).map fun z => Value.int .i64 z).toArray).toList.drop (((vs.take n).map fun z => Value.int .i64 z)).length).toArray)).heap[b]? = w.heap[b]? := fun b hb => (setRow_other _ _ (by omega)).trans (o1 b hb)
 have s2 := setRow_size w1 N ((((vs.take n).map fun z => Value.int .i64 z) ++ (((List.replicate n (0 : Int)).map fun z => Value.int .i64 z).toArray).toList.drop (((vs.take n).map fun z => Value.int .i64 z)).length).toArray)
 rw [hrow] at d2 o2 s2 ⊢
 generalize w1.setRow N ((padL (vs.take n) n).map fun z => Value.int .i64 z).toArray = w2 at *
 walk_nrm
 refine Walk.gz z38 ?_
 exact Walk.ret1 rfl rfl Try.func38 rfl fun d => ⟨N, by rw [hpl]; rfl, by omega, show N < w2.heap.size by omega, d2, fun b hb => o2 b (by omega), show w.heap.size ≤ w2.heap.size by omega⟩
end
end
section
def intRow (l : List Int) : List Value := l.map (.int .i64)
theorem intRow_snoc (l : List Int) (x : Int) : intRow (l ++ [x]) = intRow l ++ [.int .i64 x] := by simp [intRow]
structure R8 where
 ov : Value
 ops : List OpV
 av : Value
 ans : List Ans
 who : Int
 at' : Nat
 pc : Int
 tr : Int
 vn : Int
 sv : Value
 seen : List Int
 live : Prop
 ownA : Nat → Prop
def R8.cells (t : R8) : List Value := [t.ov, t.av, .int .i64 t.who, .int .i64 t.at', .int .i64 t.pc, .int .i64 t.tr, .int .i64 t.vn, t.sv]
def R8.own (t : R8) (b : Nat) : Prop := t.ownA b ∨ (t.live ∧ t.sv.ownBlock = some b)
def OpsAt (a0 : Nat) (ov : Value) (l : List OpV) (w : World) : Prop := ∃ oa oc, ov = .slice oa l.length oc ∧ ∀ (k : Nat) (o : OpV), l[k]? = some o → ∃ b off, oa = some ⟨b, off, none⟩ ∧ b < a0 ∧ b < w.heap.size ∧ ∀ (j : Nat) (v : Value), ([.int .i64 o.k, .int .i64 o.a, .int .i64 o.b, .int .i64 o.c] : List Value)[j]? = some v → w.cell? ⟨b, off + k * 4 + j, none⟩ = some v
theorem OpsAt.same {a0 : Nat} {ov : Value} {l : List OpV} {w w' : World} (h : OpsAt a0 ov l w) (hO : ∀ b, b < a0 → b < w.heap.size → w'.heap[b]? = w.heap[b]?) : OpsAt a0 ov l w' := by
 obtain ⟨oa, oc, e, h⟩ := h
 refine ⟨oa, oc, e, fun k o ho => ?_⟩
 obtain ⟨b, off, e, h1, h2, h3⟩ := h k o ho
 have hb := hO b h1 h2
 refine ⟨b, off, e, h1, ?_, fun j v hv => (World.cell?_of_block (a := ⟨b, off + k * 4 + j, none⟩) hb).trans (h3 j v hv)⟩
 have := h3 0 _ rfl
 exact cell_lt' ((World.cell?_of_block (a := ⟨b, off + k * 4 + 0, none⟩) hb).trans this)
structure R8.Rows (t : R8) (a0 : Nat) (w : World) : Prop where
 rO : OpsAt a0 t.ov t.ops w
 rA : RowA a0 t.ownA t.av t.ans w
 rS : t.live → w.ownsRow a0 2 1 t.sv t.seen.length (intRow t.seen)
 ne : t.live → ∀ b, t.sv.ownBlock = some b → ¬ t.ownA b
 lo : ∀ b, t.ownA b → a0 ≤ b ∧ b < w.heap.size
theorem lt_same {w w' : World} {b : Nat} (h : b < w.heap.size) (e : w'.heap[b]? = w.heap[b]?) : b < w'.heap.size := by
 rw [Array.getElem?_eq_getElem h] at e
 exact (Array.getElem?_eq_some_iff.1 e).1
theorem R8.Rows.same {t : R8} {a0 : Nat} {w w' : World} (h : t.Rows a0 w) (hO : ∀ b, b < a0 → b < w.heap.size → w'.heap[b]? = w.heap[b]?) (hR : ∀ b, t.own b → w'.heap[b]? = w.heap[b]?) : t.Rows a0 w' :=
 ⟨h.rO.same hO, h.rA.same fun b hb => hR b (.inl hb), fun hl => row_same (h.rS hl) fun b hb => hR b (.inr ⟨hl, hb⟩), h.ne, fun b hb => ⟨(h.lo b hb).1, lt_same (h.lo b hb).2 (hR b (.inl hb))⟩⟩
theorem R8.Rows.low {t : R8} {a0 : Nat} {w : World} (h : t.Rows a0 w) {b : Nat} (hb : t.own b) : a0 ≤ b ∧ b < w.heap.size := by
 rcases hb with hb | ⟨hl, hb⟩
 ·exact h.lo b hb
 ·exact (h.rS hl).lt b hb
structure M8 (a0 M cg cc tb tc n m : Nat) (ta : Option Addr) (S : Sq) (T : Nat → R8) (w : World) : Prop where
 hd : w.heap[M]? = some (.cells #[.int .i64 S.v, .slice (some ⟨cg, 0, none⟩) m cc, .slice ta n tc] 110)
 cs : ∃ arr : Array Value, w.heap[cg]? = some (.cells arr 2) ∧ ∀ i, i < m → arr[i]? = some (.int .i64 (S.w i))
 ts : 0 < n → ta = some ⟨tb, 0, none⟩ ∧ ∃ arr : Array Value, w.heap[tb]? = some (.cells arr 112) ∧ arr.size = tc * 8 ∧ n ≤ tc ∧ tc ≤ maxLen ∧ ∀ i, i < n → ∀ (j : Nat) (v : Value), (T i).cells[j]? = some v → arr[i * 8 + j]? = some v
 rows : ∀ i, i < n → (T i).Rows a0 w
 far : ∀ i, i < n → ∀ b, (T i).own b → b ≠ M ∧ b ≠ cg ∧ b ≠ tb ∧ ∀ k, k < n → k ≠ i → ¬ (T k).own b
 base : a0 ≤ M ∧ a0 ≤ cg ∧ M ≠ cg ∧ (0 < n → a0 ≤ tb ∧ M ≠ tb ∧ cg ≠ tb)
section
variable {a0 M cg cc tb tc n m : Nat} {ta : Option Addr} {S : Sq} {T : Nat → R8} {w w' : World}
theorem M8.lt (I : M8 a0 M cg cc tb tc n m ta S T w) : M < w.heap.size ∧ cg < w.heap.size ∧ (0 < n → tb < w.heap.size) := by
 obtain ⟨arr, h1, _⟩ := I.cs
 refine ⟨(Array.getElem?_eq_some_iff.1 I.hd).1, (Array.getElem?_eq_some_iff.1 h1).1, fun hn => ?_⟩
 obtain ⟨_, arr, h2, _⟩ := I.ts hn
 exact (Array.getElem?_eq_some_iff.1 h2).1
theorem M8.same (I : M8 a0 M cg cc tb tc n m ta S T w) (h : ∀ b, b < w.heap.size → w'.heap[b]? = w.heap[b]?) : M8 a0 M cg cc tb tc n m ta S T w' := by
 obtain ⟨l1, l2, l3⟩ := I.lt
 refine ⟨(h M l1).trans I.hd, ?_, fun hn => ?_, fun i hi => ?_, I.far, I.base⟩
 ·obtain ⟨arr, h1, h2⟩ := I.cs
  exact ⟨arr, (h cg l2).trans h1, h2⟩
 ·obtain ⟨e, arr, h1, h2⟩ := I.ts hn
  exact ⟨e, arr, (h tb (l3 hn)).trans h1, h2⟩
 ·have R := I.rows i hi
  exact R.same (fun b _ hb => h b hb) fun b hb => h b (R.low hb).2
theorem M8.tcell (I : M8 a0 M cg cc tb tc n m ta S T w) {i : Nat} (hi : i < n) {j : Nat} {v : Value} (h : (T i).cells[j]? = some v) : w.cell? ⟨tb, i * 8 + j, none⟩ = some v := by
 obtain ⟨_, arr, h1, _, _, _, h2⟩ := I.ts (by omega)
 exact (cell_of h1 _).trans (h2 i hi j v h)
theorem M8.tfrz (I : M8 a0 M cg cc tb tc n m ta S T w) {i : Nat} (hi : i < n) (q : Nat) : w.frozen? ⟨tb, q, none⟩ = false := by
 obtain ⟨_, arr, h1, _⟩ := I.ts (by omega)
 exact frozen_of h1 q
theorem M8.cV (I : M8 a0 M cg cc tb tc n m ta S T w) : w.cell? ⟨M, 0, none⟩ = some (.int .i64 S.v) := (cell_of I.hd 0).trans rfl
theorem M8.cC (I : M8 a0 M cg cc tb tc n m ta S T w) : w.cell? ⟨M, 1, none⟩ = some (.slice (some ⟨cg, 0, none⟩) m cc) := (cell_of I.hd 1).trans rfl
theorem M8.cT (I : M8 a0 M cg cc tb tc n m ta S T w) (hn : 0 < n) : w.cell? ⟨M, 2, none⟩ = some (.slice (some ⟨tb, 0, none⟩) n tc) := by
 obtain ⟨rfl, _⟩ := I.ts hn
 exact (cell_of I.hd 2).trans rfl
theorem M8.mfrz (I : M8 a0 M cg cc tb tc n m ta S T w) (q : Nat) : w.frozen? ⟨M, q, none⟩ = false := frozen_of I.hd q
theorem M8.putV (I : M8 a0 M cg cc tb tc n m ta S T w) (x : Int) : M8 a0 M cg cc tb tc n m ta (sqPutV S x) T (w.setCell ⟨M, 0, none⟩ (.int .i64 x)) := by
 obtain ⟨b1, b2, b3, b4⟩ := I.base
 have ho : ∀ b, b ≠ M → (w.setCell ⟨M, 0, none⟩ (.int .i64 x)).heap[b]? = w.heap[b]? := fun b hb => heap_set_other _ _ _ _ hb
 refine ⟨?_, ?_, fun hn => ?_, fun k hk => ?_, I.far, I.base⟩
 ·rw [heap_set_self _ _ I.hd]
  rfl
 ·obtain ⟨arr, h1, h2⟩ := I.cs
  exact ⟨arr, (ho cg (Ne.symm b3)).trans h1, h2⟩
 ·obtain ⟨e, arr, h1, h2⟩ := I.ts hn
  exact ⟨e, arr, (ho tb (Ne.symm (b4 hn).2.1)).trans h1, h2⟩
 ·have R := I.rows k hk
  exact R.same (fun b hb _ => ho b (by omega)) fun b hb => ho b (I.far k hk b hb).1
theorem M8.ccell (I : M8 a0 M cg cc tb tc n m ta S T w) {i : Nat} (hi : i < m) : w.cell? ⟨cg, i, none⟩ = some (.int .i64 (S.w i)) := by
 obtain ⟨arr, h1, h2⟩ := I.cs
 exact (cell_of h1 _).trans (h2 i hi)
theorem M8.cfrz (I : M8 a0 M cg cc tb tc n m ta S T w) (q : Nat) : w.frozen? ⟨cg, q, none⟩ = false := by
 obtain ⟨arr, h1, _⟩ := I.cs
 exact frozen_of h1 q
theorem M8.putC (I : M8 a0 M cg cc tb tc n m ta S T w) {i : Nat} (hi : i < m) (x : Int) : M8 a0 M cg cc tb tc n m ta (sqPutW S i x) T (w.setCell ⟨cg, i, none⟩ (.int .i64 x)) := by
 obtain ⟨b1, b2, b3, b4⟩ := I.base
 have ho : ∀ b, b ≠ cg → (w.setCell ⟨cg, i, none⟩ (.int .i64 x)).heap[b]? = w.heap[b]? := fun b hb => heap_set_other _ _ _ _ hb
 refine ⟨(ho M b3).trans I.hd, ?_, fun hn => ?_, fun k hk => ?_, I.far, I.base⟩
 ·obtain ⟨arr, h1, h2⟩ := I.cs
  refine ⟨_, heap_set_self _ _ h1, fun k hk => ?_⟩
  show _ = some (Value.int .i64 (upd S.w i x k))
  by_cases e : k = i
  ·subst e
   rw [upd_same]
   exact Array.getElem?_setIfInBounds_self_of_lt (Array.getElem?_eq_some_iff.1 (h2 k hk)).1
  ·rw [upd_ne _ _ e, Array.getElem?_setIfInBounds_ne (by omega)]
   exact h2 k hk
 ·obtain ⟨e, arr, h1, h2⟩ := I.ts hn
  exact ⟨e, arr, (ho tb (Ne.symm (b4 hn).2.2)).trans h1, h2⟩
 ·have R := I.rows k hk
  exact R.same (fun b hb _ => ho b (by omega)) fun b hb => ho b (I.far k hk b hb).2.1
theorem M8.put' (I : M8 a0 M cg cc tb tc n m ta S T w) {i : Nat} (hi : i < n) {j : Nat} {v : Value} {t : R8} (hc : t.cells = (T i).cells.set j v) (hj : j < 8) (w1 : World) (h1 : ∀ b, b < w.heap.size → ¬ (T i).own b → w1.heap[b]? = w.heap[b]?)
  (hr : t.Rows a0 w1) (hf : ∀ b, t.own b → (T i).own b ∨ w.heap.size ≤ b) : M8 a0 M cg cc tb tc n m ta S (upd T i t) (w1.setCell ⟨tb, i * 8 + j, none⟩ v) := by
 obtain ⟨b1, b2, b3, b4⟩ := I.base
 obtain ⟨b5, b6, b7⟩ := b4 (by omega)
 obtain ⟨l1, l2, l3⟩ := I.lt
 have l3 := l3 (by omega)
 have hns : ∀ {b}, b = M ∨ b = cg ∨ b = tb → ¬ (T i).own b := fun hb ho => by
  obtain ⟨e1, e2, e3, _⟩ := I.far i hi _ ho
  rcases hb with h | h | h
  ·exact e1 h
  ·exact e2 h
  ·exact e3 h
 have ho : ∀ b, b ≠ tb → (w1.setCell ⟨tb, i * 8 + j, none⟩ v).heap[b]? = w1.heap[b]? := fun b hb => heap_set_other _ _ _ _ hb
 have hfar : ∀ b, t.own b → b ≠ M ∧ b ≠ cg ∧ b ≠ tb ∧ ∀ k, k < n → k ≠ i → ¬ (T k).own b := fun b hb => by
  rcases hf b hb with h | h
  ·exact I.far i hi b h
  ·exact ⟨by omega, by omega, by omega, fun k hk _ hk' => by have := ((I.rows k hk).low hk').2; omega⟩
 refine ⟨(ho M b6).trans ((h1 M l1 (hns (.inl rfl))).trans I.hd), ?_, fun hn => ?_, fun k hk => ?_, fun k hk b hb => ?_, I.base⟩
 ·obtain ⟨arr, h2, h3⟩ := I.cs
  exact ⟨arr, (ho cg b7).trans ((h1 cg l2 (hns (.inr (.inl rfl)))).trans h2), h3⟩
 ·obtain ⟨e, arr, h2, h3, h4, h5, h6⟩ := I.ts hn
  refine ⟨e, _, heap_set_self _ _ ((h1 tb l3 (hns (.inr (.inr rfl)))).trans h2), by simpa using h3, h4, h5, fun k hk q x hx => ?_⟩
  by_cases e : k = i
  ·subst e
   rw [upd_same, hc] at hx
   by_cases eq : q = j
   ·subst eq
    rw [List.getElem?_set_self (by simpa [R8.cells] using hj)] at hx
    cases hx
    exact Array.getElem?_setIfInBounds_self_of_lt (by rw [h3]; have : (k + 1) * 8 ≤ tc * 8 := Nat.mul_le_mul_right 8 (by omega); omega)
   ·rw [List.getElem?_set_ne (by omega)] at hx
    rw [Array.getElem?_setIfInBounds_ne (by omega)]
    exact h6 k hk q x hx
  ·rw [upd_ne _ _ e] at hx
   have hq : q < 8 := by have := (List.getElem?_eq_some_iff.1 hx).1; simpa [R8.cells] using this
   rw [Array.getElem?_setIfInBounds_ne (by
    rcases Nat.lt_or_gt_of_ne e with h | h
    ·have : (k + 1) * 8 ≤ i * 8 := Nat.mul_le_mul_right 8 h
     omega
    ·have : (i + 1) * 8 ≤ k * 8 := Nat.mul_le_mul_right 8 h
     omega)]
   exact h6 k hk q x hx
 ·by_cases e : k = i
  ·subst e
   rw [upd_same]
   exact hr.same (fun b hb _ => ho b (by omega)) fun b hb => ho b (hfar b hb).2.2.1
  ·rw [upd_ne _ _ e]
   have R := I.rows k hk
   exact R.same (fun b hb hw => (ho b (by omega)).trans (h1 b hw fun h => by have := ((I.rows i hi).low h).1; omega)) fun b hb => (ho b (I.far k hk b hb).2.2.1).trans (h1 b (R.low hb).2 ((I.far k hk b hb).2.2.2 i hi (Ne.symm e)))
 ·by_cases e : k = i
  ·subst e
   rw [upd_same] at hb
   obtain ⟨e1, e2, e3, e4⟩ := hfar b hb
   refine ⟨e1, e2, e3, fun q hq hqk => ?_⟩
   rw [upd_ne _ _ hqk]
   exact e4 q hq hqk
  ·rw [upd_ne _ _ e] at hb
   obtain ⟨e1, e2, e3, e4⟩ := I.far k hk b hb
   refine ⟨e1, e2, e3, fun q hq hqk => ?_⟩
   by_cases eq : q = i
   ·subst eq
    rw [upd_same]
    exact fun h => (hfar b h).2.2.2 k hk e hb
   ·rw [upd_ne _ _ eq]
    exact e4 q hq hqk
theorem M8.put (I : M8 a0 M cg cc tb tc n m ta S T w) {i : Nat} (hi : i < n) {j : Nat} {v : Value} {t : R8} (hc : t.cells = (T i).cells.set j v) (hj : j < 8) (h1 : t.ov = (T i).ov ∧ t.ops = (T i).ops ∧ t.av = (T i).av ∧ t.ans = (T i).ans ∧ t.sv = (T i).sv ∧ t.seen = (T i).seen ∧ t.live = (T i).live ∧ t.ownA = (T i).ownA) : M8 a0 M cg cc tb tc n m ta S (upd T i t) (w.setCell ⟨tb, i * 8 + j, none⟩ v) := by
 obtain ⟨e1, e2, e3, e4, e5, e6, e7, e8⟩ := h1
 have R := I.rows i hi
 refine I.put' hi hc hj w (fun _ _ _ => rfl) ⟨?_, ?_, ?_, ?_, ?_⟩ fun b hb => .inl ?_
 ·rw [e1, e2]; exact R.rO
 ·rw [e3, e4, e8]; exact R.rA
 ·rw [e5, e6, e7]; exact R.rS
 ·rw [e5, e7, e8]; exact R.ne
 ·rw [e8]; exact R.lo
 ·unfold R8.own at hb ⊢
  rw [e5, e7, e8] at hb
  exact hb
end
end
end Go.Proofs.Ytjenoiekfkhafaa
