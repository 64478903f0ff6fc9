/- Part 11. -/
import Derived.Test.YtjenoiekfkhafaaJ4
import Derived.Test.YtjenoiekfkhafaaJ9
import Derived.Test.YtjenoiekfkhafaaJ10
import Derived.Laws.CopyRow
set_option linter.unusedSimpArgs false
set_option linter.unusedVariables false
set_option maxHeartbeats 8000000
set_option maxRecDepth 100000
namespace Go.Proofs.Ytjenoiekfkhafaa
open Go.Conc Go.RowKit Go.Relay
open Go.ConcN (upd upd_ne upd_same)
section
section
variable {main : Bool} {V : Nat -> Option Wait}
theorem atAdd (b q : Nat) (v x : Int) (w : World) (hc : w.cell? ⟨b, q, none⟩ = some (.int .i64 v)) (hz : w.frozen? ⟨b, q, none⟩ = false) (hf : Df V ⟨b, q, none⟩) : Bn Try.prog main V 59 #[.pointer (some ⟨b, q, none⟩), .int .i64 x] w (.int .i64 (IntKind.i64.wrap (v + x))) (w.setCell ⟨b, q, none⟩ (.int .i64 (IntKind.i64.wrap (v + x)))) := by
 refine Bg Try.func59 rfl fun fr cs => ?_
 simp only [Try.ntmps59, ez, Nat.reduceAdd, Nat.reduceSub]
 refine Ae ?_
 refine Walk.turn (W := w.setCell ⟨b, q, none⟩ (.int .i64 (IntKind.i64.wrap (v + x)))) rfl (fun d => stepG_add_atomic (w := w.at d) rfl (by rfl) (by decide) rfl Try.func76 (by kernel_rfl) (by rfl) (by kernel_rfl) .i64 (by kernel_rfl) rfl rfl hc hz) (fun d => Kx hf hc d _ (evR_rw hf)) ?_
 walk_nrm
 refine Ae ?_
 exact Bd rfl rfl Try.func59 rfl fun d => ⟨rfl, d, rfl⟩
end
noncomputable def reg44_0 := rk Try.f44.body 0
noncomputable def reg44_1 := rk Try.f44.body 1
noncomputable def reg44_2 := rk Try.f44.body 2
noncomputable def reg44_3 := rk Try.f44.body 3
noncomputable def reg44_4 := rk Try.f44.body 4
theorem z44 : reg44_0.size = 1 /\ reg44_1.size = 2 /\ reg44_2.size = 1 /\ reg44_3.size = 2 /\ reg44_4.size = 6 := by and_intros <;> kernel_rfl
theorem code44_is : Try.f44.body = some (.seq (.region 0 reg44_0 false) (.seq (.seq (.region 1 reg44_1 false) (.cond (.tmp 8 ) (.seq (.region 2 reg44_2 false) (.ret)) (.skip))) (.seq (.region 3 reg44_3 false) (.seq (.region 4 reg44_4 false) (.ret))))) := by kernel_rfl
section
variable {L : La} {sv : Value}
theorem word_add (K : Lg L sv) (W : Wd L) (e : K.E) (d : L.D) (x : Int) (hx : ∀ y, W.ok y) (hon : W.on (K.gh e)) (ht : K.tgt e = (K.s e, .inr d)) : SCall K.toLb 44 #[W.p, sv, .int .i64 x] e (fun v e' => ∃ s, v = .int .i64 (IntKind.i64.wrap (W.get s + x)) /\ Wrote K e d s (W.put s (IntKind.i64.wrap (W.get s + x))) e') := by
 intro fr l hp hl hk
 unfold Wd.p
 unfold LW
 have hp1 := fun w => Br (P := Try.prog) 93 Ew (some ⟨W.b, W.q, none⟩) w
 have hp2 := fun w es => Cb (P := Try.prog) 93 Ew (some ⟨W.b, W.q, none⟩) w es
 simp only [Option.isNone_some] at hp1
 rw [enter_at _ Try.func44 code44_is]
 simp only [Try.ntmps44, ez, Nat.reduceAdd, Nat.reduceSub]
 refine Aa z44 ?_
 refine Bb (K := K.toLb) (e := e) (l := fr :: l) (f := 56) (Q := fun _ e' => Aft K.toLb e d e') ?_ Ao (by rfl) (by decide) rfl Try.func56 (by kernel_rfl) (by rfl) ⟨rfl, rfl, _, Try.func44⟩ (As hp hl) ?_
 ·walk_nrm
  exact Ov K e d ht
 intro v e1 ha
 obtain ⟨hc, hz⟩ := W.rd _ _ _ (W.up ha.le hon) (K.inv e1)
 obtain ⟨e', m⟩ := W.put_mv K e1 (IntKind.i64.wrap (W.get (K.s e1) + x)) (W.up ha.le hon) (hx _)
 have hkk := hk (.int .i64 (IntKind.i64.wrap (W.get (K.s e1) + x))) e' ⟨K.s e1, rfl, Wrote.of hon ha m⟩
 generalize hg : W.get (K.s e1) = gv at *
 unfold LW
 walk_nrm
 refine Aa z44 ?_
 refine Walk.callV (x := .int .i64 (IntKind.i64.wrap (gv + x))) (W := (K.w e1).setCell ⟨W.b, W.q, none⟩ (.int .i64 (IntKind.i64.wrap (gv + x)))) ?_ Ao (by rfl) (by decide) rfl Try.func59 (by kernel_rfl) (by rfl) ?_
 ·walk_nrm
  exact atAdd W.b W.q gv x (K.w e1) hc hz ((K.shA e1 _ (W.sh _ (W.up ha.le hon))).1 _ rfl)
 walk_nrm
 refine Aa z44 ?_
 exact Bh rfl rfl Try.func44 rfl (Dq m hkk)
end
end
section
structure Sq where
 v : Int
 w : Nat -> Int
inductive QD where
 | w1 (a : Bool) (t : Nat) (xs : Nat -> Int) | w2 (a : Bool) (t : Nat) (xs : Nat -> Int) (v : Int) | w3 (a : Bool) (xs : Nat -> Int) (v : Int) (i : Nat) | w4 (v : Int)
 | r1 (t : Nat) | r2 (t : Nat) (v : Int) (i : Nat) (l : List Int) | r3 (t : Nat) (v : Int) (l : List Int) | q (i : Nat) (l : List Int) | n1 (a : Int)
def Ba (v : Int) : Prop := v.tmod 2 ≠ 0
instance (v : Int) : Decidable (Ba v) := inferInstanceAs (Decidable (_ ≠ _))
def Bv (a : Int) : Nat := (min (max a 1) 1024).toNat
theorem Ow (a : Int) : 1 <= Bv a /\ Bv a <= 1024 := by unfold Bv; omega
def Ar (o : OpV) (i : Nat) : Int := IntKind.i64.wrap (o.b + IntKind.i64.wrap ((i : Int) * o.c))
def Fw : Ans := ⟨false, 0, []⟩
def Dk (t : Nat) (d : Nat -> QD) : Ans ⊕ QD := if t <= 1 then .inl Fw else .inr (d (t - 1))
def Cv (s : Sq) (v : Int) : Sq := ⟨v, s.w⟩
def Dj (s : Sq) (i : Nat) (x : Int) : Sq := ⟨s.v, upd s.w i x⟩
def By (s : Sq) (_ : Int) (o : OpV) : Sq × (Ans ⊕ QD) :=
 if o.k = 1 then (s, .inr (.w1 false (Bv o.a) (Ar o))) else if o.k = 2 then (s, .inr (.w1 true (Bv o.a) (Ar o))) else if o.k = 3 then (s, .inr (.r1 (Bv o.a))) else if o.k = 4 then (s, .inr (.q 0 [])) else if o.k = 5 then (s, .inr (.n1 o.a)) else (s, .inl Fw)
def Bo (k : Nat) (s : Sq) : QD -> Sq × (Ans ⊕ QD)
 | .w1 a t xs => (s, if Ba s.v then Dk t (.w1 a · xs) else .inr (.w2 a t xs s.v))
 | .w2 a t xs v => if s.v = v then (Cv s (IntKind.i64.wrap (v + 1)), .inr (.w3 a xs v 0)) else (s, Dk t (.w1 a · xs))
 | .w3 a xs v i => (Dj s i (if a then IntKind.i64.wrap (s.w i + xs i) else xs i), .inr (if i = k then .w4 v else .w3 a xs v (i + 1)))
 | .w4 v => (Cv s (IntKind.i64.wrap (v + 2)), .inl ⟨true, 0, []⟩)
 | .r1 t => (s, if Ba s.v then Dk t .r1 else .inr (.r2 t s.v 0 []))
 | .r2 t v i l => (s, .inr (if i = k then .r3 t v (l ++ [s.w i]) else .r2 t v (i + 1) (l ++ [s.w i])))
 | .r3 t v l => (s, if s.v = v then .inl ⟨true, 0, l⟩ else Dk t .r1)
 | .q i l => (s, if i = k then .inl ⟨true, 0, l ++ [s.w i]⟩ else .inr (.q (i + 1) (l ++ [s.w i])))
 | .n1 a => (s, .inl ⟨decide (a < s.v), s.v, []⟩)
structure SqI (lb k : Nat) (s : Sq) (w : World) : Prop where
 hd : ∃ arr : Array Value, w.heap[lb]? = some (.cells arr 75) /\ arr.size = 18 /\ arr[0]? = some (.int .i64 s.v) /\ (∀ i, i <= k -> arr[1 + i]? = some (.int .i64 (s.w i))) /\ arr[17]? = some (.int .i64 k)
 pos : k <= 15
theorem SqI.old {lb k : Nat} {s : Sq} {w w' : World} (h : SqI lb k s w) (hb : w'.heap[lb]? = w.heap[lb]?) : SqI lb k s w' := by
 obtain ⟨⟨arr, h1, h2⟩, h3⟩ := h
 exact ⟨⟨arr, hb.trans h1, h2⟩, h3⟩
theorem SqI.lt {lb k : Nat} {s : Sq} {w : World} (h : SqI lb k s w) : lb < w.heap.size := by
 obtain ⟨⟨arr, h1, h2⟩, h3⟩ := h
 exact (Array.getElem?_eq_some_iff.1 h1).1
def Aj (lb k : Nat) : La where
 Sg := Sq
 D := QD
 Gh := Unit
 le := fun _ _ => True
 refl := fun _ => trivial
 trans := fun _ _ => trivial
 enter := By
 act := Bo k
 sh := fun _ b => b = lb
 mono := fun _ h => h
 I := fun _ => SqI lb k
 stable := fun h hb => h.old (hb _ rfl)
 lt := fun h hb => hb ▸ h.lt
section
variable {lb k : Nat}
theorem SqI.rdV {s : Sq} {w : World} (h : SqI lb k s w) : w.cell? ⟨lb, 0, none⟩ = some (.int .i64 s.v) /\ w.frozen? ⟨lb, 0, none⟩ = false := by
 obtain ⟨⟨arr, h1, h2, h3, h4, h5⟩, h6⟩ := h
 exact ⟨(Ad h1 0).trans h3, An h1 0⟩
theorem SqI.rdW {i : Nat} (hi : i <= k) {s : Sq} {w : World} (h : SqI lb k s w) : w.cell? ⟨lb, 1 + i, none⟩ = some (.int .i64 (s.w i)) /\ w.frozen? ⟨lb, 1 + i, none⟩ = false := by
 obtain ⟨⟨arr, h1, h2, h3, h4, h5⟩, h6⟩ := h
 exact ⟨(Ad h1 _).trans (h4 i hi), An h1 _⟩
theorem SqI.rdM {s : Sq} {w : World} (h : SqI lb k s w) : w.cell? ⟨lb, 17, none⟩ = some (.int .i64 k) := by
 obtain ⟨⟨arr, h1, h2, h3, h4, h5⟩, h6⟩ := h
 exact (Ad h1 17).trans h5
theorem SqI.wrV {s : Sq} {w : World} (v : Int) (h : SqI lb k s w) : SqI lb k (Cv s v) (w.setCell ⟨lb, 0, none⟩ (.int .i64 v)) := by
 obtain ⟨⟨arr, h1, h2, h3, h4, h5⟩, h6⟩ := h
 refine ⟨⟨_, Ak _ _ h1, by simp [h2], by simp [h2, Cv], fun i hi => ?_, ?_⟩, h6⟩
 ·rw [Array.getElem?_setIfInBounds_ne (by omega)]; exact h4 i hi
 ·rw [Array.getElem?_setIfInBounds_ne (by omega)]; exact h5
theorem SqI.wrW {i : Nat} (hi : i <= k) {s : Sq} {w : World} (v : Int) (h : SqI lb k s w) : SqI lb k (Dj s i v) (w.setCell ⟨lb, 1 + i, none⟩ (.int .i64 v)) := by
 obtain ⟨⟨arr, h1, h2, h3, h4, h5⟩, h6⟩ := h
 refine ⟨⟨_, Ak _ _ h1, by simp [h2], ?_, fun j hj => ?_, ?_⟩, h6⟩
 ·rw [Array.getElem?_setIfInBounds_ne (by omega)]; exact h3
 ·show _ = some (Value.int .i64 (upd s.w i v j))
  by_cases e : j = i
  ·subst e
   rw [upd_same]
   exact Array.getElem?_setIfInBounds_self_of_lt (by omega)
  ·rw [upd_ne _ _ e, Array.getElem?_setIfInBounds_ne (by omega)]; exact h4 j hj
 ·rw [Array.getElem?_setIfInBounds_ne (by omega)]; exact h5
def verW : Wd (Aj lb k) where
 on := fun _ => True
 up := fun _ _ => trivial
 b := lb
 q := 0
 get := fun s => (s : Sq).v
 put := fun s v => Cv s v
 ok := fun _ => True
 sh := fun _ _ => rfl
 rd := fun _ s w _ h => SqI.rdV h
 wr := fun _ s w v _ _ h => SqI.wrV v h
def worW (i : Nat) (hi : i <= k) : Wd (Aj lb k) where
 on := fun _ => True
 up := fun _ _ => trivial
 b := lb
 q := 1 + i
 get := fun s => (s : Sq).w i
 put := fun s v => Dj s i v
 ok := fun _ => True
 sh := fun _ _ => rfl
 rd := fun _ s w _ h => SqI.rdW hi h
 wr := fun _ s w v _ _ h => SqI.wrW hi v h
end
end
end Go.Proofs.Ytjenoiekfkhafaa
namespace Go.Relay
section
open Go.Conc Go.RowKit
variable {P : Program} {main : Bool} {V : Nat -> Option Wait} {Stop : Goroutine -> World -> Prop} {w : World} {b : Frame} {a : Act} {k : List Item} {cs : List Frame} {ops : Array Oper} {i : Nat} {rest : List Nat} {o : Oper}
theorem run_copy_op {v xv v' : Value} {w' : World} (s x : Operand) (t t' : TypeId) (ho : o.op = .call { callee := .builtin .copy, args := #[s, x], argTypes := #[t, t'] }) (hs : a.eval s = v) (hx : a.eval x = xv) {K : Act -> World -> Prop}
  (hr : (Builtin.copy_ #[t, t'] o.type #[v, xv]).run P w = .ok v' w') (h : K (a.put o.dst v') w') : uponK o a K ((execOp a.eval o).run P w) := by
 unfold execOp
 simp only [ho, resolve, invoke, builtin, Sem.run_bind, Sem.run_pure, Result.andThen_ok, List.map_toArray, List.map_cons, List.map_nil, hs, hx, hr]
 exact h
theorem events_copy_op {v xv : Value} (s x : Operand) (t t' : TypeId) (ho : o.op = .call { callee := .builtin .copy, args := #[s, x], argTypes := #[t, t'] }) (hs : a.eval s = v) (hx : a.eval x = xv) (es : Array Event) :
  (execOp a.eval o).events P w es = (Builtin.copy_ #[t, t'] o.type #[v, xv]).events P w es := by
 unfold execOp
 simp only [ho, resolve, invoke, builtin, Sem.events_bind, Sem.run_pure, Sem.events_pure, Result.evThen_ok, List.map_toArray, List.map_cons, List.map_nil, hs, hx]
 cases (Builtin.copy_ #[t, t'] o.type #[v, xv]).run P w <;> rfl
theorem run_copy_own (w : World) (dT sT ty elem : TypeId) (g dLen dCap : Nat) (sa : Option Addr) (sLen sCap : Nat) (cur : Array Value) (t : TypeId) (xs : List Value)
  (hu : P.underlying dT = some (.slice elem)) (hs : (P.info? elem).map (·.size) = some 1) (hg : w.heap[g]? = some (.cells cur t (0, 0))) (hn : xs.length = Nat.min sLen dLen) (hnil : sa = none -> sLen = 0 /\ sCap = 0)
  (hsrc : ∀ j v, xs[j]? = some v -> ∃ ad, sa = some ad /\ w.cell? (ad.add j) = some v) (hfit : xs.length <= cur.size) (h1 : ∀ v ∈ xs, v.oneCell' = true) :
  (Builtin.copy_ #[dT, sT] ty #[.slice (some ⟨g, 0, none⟩) dLen dCap, .slice sa sLen sCap]).run P w = .ok (goInt xs.length) (w.setRow g (xs ++ cur.toList.drop xs.length).toArray) := by
 cases sa with
 | none =>
  obtain ⟨rfl, rfl⟩ := hnil rfl
  have h0 : xs = [] := List.eq_nil_of_length_eq_zero (by simpa using hn)
  subst h0
  rw [run_copy_nil (P := P) w dT sT ty elem _ dLen dCap hu (by rw [hs]; rfl)]
  have := Go.setRow_self w g cur t (0, 0) hg
  simp [this]
 | some ad =>
  rw [run_copy_row (P := P) w dT sT ty elem g 0 dLen dCap ad sLen sCap cur t xs hu hs hg hn (fun j v hj => ?_) (by simpa using hfit) h1]
  ·simp
  ·obtain ⟨ad', e, h⟩ := hsrc j v hj
   cases e
   exact h
theorem events_copy_own (w : World) (dT sT ty elem : TypeId) (g dLen dCap : Nat) (sa : Option Addr) (sLen sCap : Nat) (cur : Array Value) (t : TypeId) (xs : List Value)
  (hu : P.underlying dT = some (.slice elem)) (hs : (P.info? elem).map (·.size) = some 1) (hg : w.heap[g]? = some (.cells cur t (0, 0))) (hn : xs.length = Nat.min sLen dLen) (hnil : sa = none -> sLen = 0 /\ sCap = 0)
  (hsrc : ∀ j v, xs[j]? = some v -> ∃ ad, sa = some ad /\ w.cell? (ad.add j) = some v) (hfit : xs.length <= cur.size) (h1 : ∀ v ∈ xs, v.oneCell' = true) :
  ∀ ev ∈ (Builtin.copy_ #[dT, sT] ty #[.slice (some ⟨g, 0, none⟩) dLen dCap, .slice sa sLen sCap]).events P w #[], ev.isRead ∨ ∃ ad, ev.loc = .cell ad /\ ad.block = g := by
 intro ev hev
 cases hq : P.info? elem with
 | none => simp [hq] at hs
 | some i =>
  have hi : i.size = 1 := by simpa [hq] using hs
  have none0 : ∀ e ∈ (#[] : Array Event), e.isRead := by intro e he; simp at he
  cases sa with
  | none =>
   obtain ⟨rfl, rfl⟩ := hnil rfl
   simp [Builtin.copy_, run_underlying hu, Builtin.lenOf, Builtin.firstCells, sizeOf, typeInfo, hq, storeCells] at hev
  | some ad =>
   have hl := run_loadCells_list (P := P) w ad xs (fun j v hj => by
    obtain ⟨ad', e, h⟩ := hsrc j v hj
    cases e
    exact h)
   simp [Builtin.copy_, run_underlying hu, Builtin.lenOf, Builtin.firstCells, sizeOf, typeInfo, hq, hi, <- hn, hl] at hev
   rcases events_storeCells_at (P := P) g 0 t xs 0 cur w _ hg (by simpa using hfit) h1 ev hev with h | h
   ·rcases events_loadCellsFrom_reads ad _ _ _ w _ ev h with h | h
    ·simp at h
    ·exact .inl h
   ·exact .inr h
theorem Walk.copy (s x : Operand) (dT sT elem : TypeId) (ho : ops[i]? = some o) (hw : Region.wanted o (yielded ops a.tmps) = true) (hk : b.kind ≠ .early) (hop : o.op = .call { callee := .builtin .copy, args := #[s, x], argTypes := #[dT, sT] })
  (hu : P.underlying dT = some (.slice elem)) (hs : (P.info? elem).map (·.size) = some 1) (g dLen dCap : Nat) (sa : Option Addr) (sLen sCap : Nat) (cur : Array Value) (t : TypeId) (xs : List Value)
  (hd : a.eval s = .slice (some ⟨g, 0, none⟩) dLen dCap) (hx : a.eval x = .slice sa sLen sCap) (hg : w.heap[g]? = some (.cells cur t (0, 0))) (hn : xs.length = Nat.min sLen dLen) (hnil : sa = none -> sLen = 0 /\ sCap = 0)
  (hsrc : ∀ j v, xs[j]? = some v -> ∃ ad, sa = some ad /\ w.cell? (ad.add j) = some v) (hfit : xs.length <= cur.size) (h1 : ∀ v ∈ xs, v.oneCell' = true) (hap : Ay V g)
  (h : Walk P main (DR V) Stop (G (b.at (a.put o.dst (goInt xs.length)) (.inRegion ops rest :: k)) cs) (w.setRow g (xs ++ cur.toList.drop xs.length).toArray)) : Walk P main (DR V) Stop (G (b.at a (.inRegion ops (i :: rest) :: k)) cs) w := by
 have hgr : ∀ (cells : Array Value) d, (w.at d).grownBy ((w.setRow g cells).at d) (some g) := fun cells d => by
  refine ⟨rfl, rfl, rfl, ?_, fun k hk hne => ?_⟩
  ·simp [World.setRow, World.at]
  ·have : k ≠ g := fun e => hne (by rw [e])
   simp only [World.setRow, World.at]
   rw [Array.getElem?_modify, if_neg (Ne.symm this)]
 refine Ih (W := w.setRow g (xs ++ cur.toList.drop xs.length).toArray) ho hw hk (fun dd e he => ?_) (fun dd es hes => DR.grown (hgr _ dd) (fun g' e => by cases e; exact hap) hes) (fun dd K hK => ?_)
 ·rw [events_copy_op s x dT sT hop hd hx] at he
  rcases events_copy_own (P := P) (w.at dd) dT sT o.type elem g dLen dCap sa sLen sCap cur t xs hu hs hg hn hnil hsrc hfit h1 e he with h' | ⟨ad, h', hb⟩
  ·exact Es h'
  ·exact Kn h' (hap.1 ad hb)
 ·exact run_copy_op s x dT sT hop hd hx (run_copy_own (P := P) (w.at dd) dT sT o.type elem g dLen dCap sa sLen sCap cur t xs hu hs hg hn hnil hsrc hfit h1) (hK _ h)
end
end Go.Relay
namespace Go.Proofs.Ytjenoiekfkhafaa
open Go.Conc Go.RowKit Go.Relay
open Go.ConcN (upd upd_ne upd_same)
section
def NumB (w : World) (B : Nat) (xs : List Int) : Prop := w.heap[B]? = some (.cells (xs.map fun z => Value.int .i64 z).toArray 2)
theorem NumB.cell {w : World} {B : Nat} {xs : List Int} (h : NumB w B xs) {j : Nat} {z : Int} (hj : xs[j]? = some z) : w.cell? ⟨B, j, none⟩ = some (.int .i64 z) := by
 refine (Ad h j).trans ?_
 simp [hj]
theorem NumB.frozen {w : World} {B : Nat} {xs : List Int} (h : NumB w B xs) (j : Nat) : w.frozen? ⟨B, j, none⟩ = false := An h j
theorem NumB.set {w : World} {B : Nat} {xs : List Int} (h : NumB w B xs) (j : Nat) (z : Int) : NumB (w.setCell ⟨B, j, none⟩ (.int .i64 z)) B (xs.set j z) := by
 unfold NumB
 rw [Ak _ _ h]
 simp [List.map_set]
theorem NumB.same {w w' : World} {B : Nat} {xs : List Int} (h : NumB w B xs) (hb : w'.heap[B]? = w.heap[B]?) : NumB w' B xs := hb.trans h
theorem NumB.lt {w : World} {B : Nat} {xs : List Int} (h : NumB w B xs) : B < w.heap.size := (Array.getElem?_eq_some_iff.1 h).1
theorem NumB.row {w : World} {B : Nat} {xs : List Int} (h : NumB w B xs) {base : Nat} (hb : base <= B) (hn : xs.length <= maxLen) : w.ownsRow base 2 1 (.slice (some ⟨B, 0, none⟩) xs.length xs.length) xs.length (xs.map fun z => .int .i64 z) :=
 ⟨by simp, .inr ⟨B, xs.length, _, rfl, hb, h, Nat.le_refl _, hn, by simp, by simpa using List.take_of_length_le (by simp)⟩⟩
theorem NumB.lsR {w : World} {B : Nat} {xs : List Int} (h : NumB w B xs) : LsR (.slice (some ⟨B, 0, none⟩) xs.length xs.length) xs w :=
 ⟨_, _, rfl, Nat.le_refl _, fun e => (by cases e), fun j z hj => ⟨B, 0, rfl, by rw [Nat.zero_add]; exact h.cell hj⟩⟩
theorem Lh (n : Nat) : madeCells #[Value.int .i64 0] n = ((List.replicate n (0 : Int)).map fun z => Value.int .i64 z).toArray := by
 apply Array.ext'
 rw [toList_madeCells_one]
 simp
def Ds (l : List Int) (n : Nat) : List Int := l ++ List.replicate (n - l.length) 0
theorem Kd {l : List Int} {n : Nat} (h : l.length <= n) : (Ds l n).length = n := by simp [Ds]; omega
theorem Er {l : List Int} {n : Nat} (h : l.length = n) : Ds l n = l := by simp [Ds, h]
theorem padL_set {l : List Int} {n : Nat} (h : l.length < n) (v : Int) : (Ds l n).set l.length v = Ds (l ++ [v]) n := by
 unfold Ds
 obtain ⟨m, hm⟩ : ∃ m, n - l.length = m + 1 := ⟨n - l.length - 1, by omega⟩
 have hm2 : n - (l ++ [v]).length = m := by simp; omega
 rw [hm, hm2, List.replicate_succ, List.set_append_right _ _ (Nat.le_refl _)]
 simp
theorem Ng (f : Nat -> Int) (j : Nat) : (List.range (j + 1)).map f = (List.range j).map f ++ [f j] := by simp [List.range_succ]
theorem Ir (lb j : Nat) (hj : j < 16) (w : World) (es : Array Event) : (Instr.indexAt 73 (.pointer (some ⟨lb, 1, none⟩)) (.int .i64 j)).run Try.prog w = .ok (.pointer (some ⟨lb, 1 + j, none⟩)) w /\ (Instr.indexAt 73 (.pointer (some ⟨lb, 1, none⟩)) (.int .i64 j)).events Try.prog w es = es := by
 have hu : Try.prog.underlying 73 = some (.array 16 72) := by kernel_rfl
 have h0 : (0 : Int) <= j := by omega
 have h1 : (j : Int) < 16 := by omega
 refine ⟨?_, events_indexAt_array _ _ 16 _ _ _ hu ⟨h0, h1⟩⟩
 have hs : (Try.prog.info? 72).map (·.size) = some 1 := by kernel_rfl
 cases hq : Try.prog.info? 72 with
 | none => simp [hq] at hs
 | some i =>
  have hi : i.size = 1 := by simpa [hq] using hs
  simp [Instr.indexAt, Instr.sureAddr, run_underlying hu, asIntOf, h1, hj, sizeOf, typeInfo, hq, hi, Addr.add]
theorem Dc : Try.prog.underlying 35 = some (.pointer 75) := by kernel_rfl
noncomputable def reg17_0 := rk Try.f17.body 0
noncomputable def reg17_1 := rk Try.f17.body 1
noncomputable def reg17_2 := rk Try.f17.body 2
noncomputable def reg17_3 := rk Try.f17.body 3
theorem z17 : reg17_0.size = 1 /\ reg17_1.size = 2 /\ reg17_2.size = 1 /\ reg17_3.size = 6 := by and_intros <;> kernel_rfl
theorem code17_is : Try.f17.body = some (.seq (.region 0 reg17_0 false) (.seq (.seq (.region 1 reg17_1 false) (.cond (.tmp 4 ) (.seq (.region 2 reg17_2 false) (.ret)) (.skip))) (.seq (.region 3 reg17_3 false) (.ret)))) := by kernel_rfl
noncomputable def reg45_0 := rk Try.f45.body 0
noncomputable def reg45_1 := rk Try.f45.body 1
theorem z45 : reg45_0.size = 1 /\ reg45_1.size = 4 := by and_intros <;> kernel_rfl
theorem code45_is : Try.f45.body = some (.seq (.region 0 reg45_0 false) (.seq (.region 1 reg45_1 false) (.ret))) := by kernel_rfl
noncomputable def reg47_0 := rk Try.f47.body 0
noncomputable def reg47_1 := rk Try.f47.body 1
theorem z47 : reg47_0.size = 1 /\ reg47_1.size = 4 := by and_intros <;> kernel_rfl
theorem code47_is : Try.f47.body = some (.seq (.region 0 reg47_0 false) (.seq (.region 1 reg47_1 false) (.ret))) := by kernel_rfl
noncomputable def reg38_0 := rk Try.f38.body 0
noncomputable def reg38_1 := rk Try.f38.body 1
noncomputable def reg38_2 := rk Try.f38.body 2
noncomputable def reg38_3 := rk Try.f38.body 3
theorem z38 : reg38_0.size = 1 /\ reg38_1.size = 4 /\ reg38_2.size = 3 /\ reg38_3.size = 2 := by and_intros <;> kernel_rfl
theorem code38_is : Try.f38.body = some (.seq (.region 0 reg38_0 false) (.seq (.region 1 reg38_1 false) (.seq (.region 2 reg38_2 false) (.seq (.region 3 reg38_3 false) (.ret))))) := by kernel_rfl
noncomputable def reg51_0 := rk Try.f51.body 0
noncomputable def reg51_1 := rk Try.f51.body 1
noncomputable def reg51_2 := rk Try.f51.body 2
noncomputable def reg51_3 := rk Try.f51.body 3
noncomputable def reg51_4 := rk Try.f51.body 4
noncomputable def reg51_5 := rk Try.f51.body 5
noncomputable def reg51_6 := rk Try.f51.body 6
noncomputable def reg51_7 := rk Try.f51.body 7
theorem z51 : reg51_0.size = 2 /\ reg51_1.size = 4 /\ reg51_2.size = 3 /\ reg51_3.size = 1 /\ reg51_4.size = 2 /\ reg51_5.size = 11 /\ reg51_6.size = 2 /\ reg51_7.size = 2 := by and_intros <;> kernel_rfl
theorem code51_is : Try.f51.body = some (.seq (.region 0 reg51_0 false) (.seq (.region 1 reg51_1 false) (.seq (.seq (.region 2 reg51_2 false) (.block 0 (.loop (.seq (.region 3 reg51_3 false) (.seq (.cond (.tmp 13 ) (.skip) (.exit 0)) (.seq (.block 1 (.seq (.region 4 reg51_4 false) (.region 5 reg51_5 false))) (.region 6 reg51_6 false))))))) (.seq (.region 7 reg51_7 false) (.ret))))) := by kernel_rfl
noncomputable def hdVal (lb X N n j : Nat) (u : Nat -> Value) : Frame :=
 (base 51).at { tmps := #[.pointer (some ⟨lb, 0, none⟩), u 1, u 2, .pointer (some ⟨X, 0, none⟩), u 4, .slice (some ⟨N, 0, none⟩) n n, u 6, u 7, u 8, u 9, u 10, .int .i64 n, .int .i64 j, u 13, u 14, u 15, u 16, u 17, u 18, u 19, u 20, u 21, u 22, u 23, u 24, u 25, u 26], defers := [] } [.code (.seq (.region 3 reg51_3 false) (.seq (.cond (.tmp 13 ) (.skip) (.exit 0)) (.seq (.block 1 (.seq (.region 4 reg51_4 false) (.region 5 reg51_5 false))) (.region 6 reg51_6 false)))), .inLoop (.seq (.region 3 reg51_3 false) (.seq (.cond (.tmp 13 ) (.skip) (.exit 0)) (.seq (.block 1 (.seq (.region 4 reg51_4 false) (.region 5 reg51_5 false))) (.region 6 reg51_6 false)))), .inBlock 0, .code (.seq (.region 7 reg51_7 false) (.ret))]
section
variable {main : Bool} {V : Nat -> Option Wait} {lb k : Nat} {s : Sq}
theorem len_w (w : World) (I : SqI lb k s w) : Bn Try.prog main V 17 #[.pointer (some ⟨lb, 0, none⟩)] w (.int .i64 ((k : Int) + 1)) w := by
 have hk := I.pos
 have c1 := I.rdM
 have hp1 := fun w => Br (P := Try.prog) 35 Dc (some ⟨lb, 0, none⟩) w
 have hp2 := fun w es => Cb (P := Try.prog) 35 Dc (some ⟨lb, 0, none⟩) w es
 have hw : IntKind.i64.wrap (1 + (k : Int)) = (k : Int) + 1 := by rw [IntKind.wrap_i64]; omega
 simp only [Option.isNone_some] at hp1
 clear I
 refine Bg Try.func17 code17_is fun fr cs => ?_
 simp only [Try.ntmps17, ez, Nat.reduceAdd, Nat.reduceSub]
 refine Aa z17 ?_
 exact Bd rfl rfl Try.func17 rfl fun d => ⟨rfl, d, rfl⟩
theorem within_w (a : Int) (w : World) : Bn Try.prog main V 45 #[.int .i64 a] w (.int .i64 (Bv a : Nat)) w := by
 have hmn := @Ca Try.prog
 have hmx := @Fg Try.prog
 have hmin : min (max a 1) 1024 = ((Bv a : Nat) : Int) := by unfold Bv; omega
 refine Bg Try.func45 code45_is fun fr cs => ?_
 simp only [Try.ntmps45, ez, Nat.reduceAdd, Nat.reduceSub]
 refine Aa z45 ?_
 exact Bd rfl rfl Try.func45 rfl fun d => ⟨by simp [hmin], d, rfl⟩
theorem odd_w (v : Int) (w : World) : Bn Try.prog main V 47 #[.int .i64 v] w (.bool (decide (Ba v))) w := by
 have ho : (decide (Ba v)) = !(v.tmod 2 == 0) := by
  unfold Ba
  by_cases h : v.tmod 2 = 0 <;> simp [h]
 rw [ho]
 refine Bg Try.func47 code47_is fun fr cs => ?_
 simp only [Try.ntmps47, ez, Nat.reduceAdd, Nat.reduceSub]
 refine Aa z47 ?_
 exact Bd rfl rfl Try.func47 rfl fun d => ⟨by simp [bne], d, rfl⟩
def Jq (xs : List Int) (w : World) (v : Value) (w' : World) : Prop := ∃ B, v = .slice (some ⟨B, 0, none⟩) xs.length xs.length /\ w.heap.size <= B /\ B < w'.heap.size /\ NumB w' B xs /\ (∀ b, b < w.heap.size -> w'.heap[b]? = w.heap[b]?) /\ w.heap.size <= w'.heap.size
theorem whole_w (w : World) (I : SqI lb k s w) (sl : Value) (vs : List Int) (hl : LsR sl vs w) (hA : ∀ b, w.heap.size <= b -> Ay V b) : CallW Try.prog main V 38 #[.pointer (some ⟨lb, 0, none⟩), sl] w (Jq (Ds (vs.take (k + 1)) (k + 1)) w) := by
 obtain ⟨sa, sc, rfl, hc, hnn, hcells⟩ := hl
 have hk := I.pos
 have hlen := len_w (main := main) (V := V) w I
 have hi1 := Option.some_get (show (Try.prog.info? 2).isSome = true by kernel_rfl)
 have hpl : (Ds (vs.take (k + 1)) (k + 1)).length = k + 1 := Kd (by simp; omega)
 have hcc : ((k : Int) + 1) = ((k + 1 : Nat) : Int) := by simp
 rw [hcc] at hlen
 have hn17 : k + 1 <= 16 := by omega
 have hn0 : 0 < k + 1 := by omega
 clear hcc I hk
 generalize k + 1 = n at *
 refine Bg Try.func38 code38_is fun fr cs => ?_
 simp only [Try.ntmps38, ez, Nat.reduceAdd, Nat.reduceSub]
 refine Aa z38 ?_
 refine Walk.callV (x := .int .i64 (n : Int)) (W := w) ?_ Ao (by rfl) (by decide) rfl Try.func17 (by kernel_rfl) (by rfl) ?_
 ·walk_nrm
  exact hlen
 walk_nrm
 refine Aa z38 ?_
 refine Ev 22 (.tmp 7) (.tmp 7) Ao (by rfl) (by decide) rfl 2 _ (.int .i64 0) 1 8 (by kernel_rfl) hi1.symm (by rfl) (by rfl) (by rfl) n (by rfl) (by rfl) (by omega) (by omega) ?_
 walk_nrm
 simp only [Value.cells, Nat.mul_one, Lh]
 have s1 : (w.alloc (.cells ((List.replicate n (0 : Int)).map fun z => Value.int .i64 z).toArray 2)).heap.size = w.heap.size + 1 := by simp
 have o1 : ∀ b, b < w.heap.size -> (w.alloc (.cells ((List.replicate n (0 : Int)).map fun z => Value.int .i64 z).toArray 2)).heap[b]? = w.heap[b]? := fun b hb => Ab _ _ hb
 have d1 := heap_alloc_new w (.cells ((List.replicate n (0 : Int)).map fun z => Value.int .i64 z).toArray 2)
 have hcells1 : ∀ (j : Nat) (z : Int), vs[j]? = some z -> ∃ ad, sa = some ad /\ (w.alloc (.cells ((List.replicate n (0 : Int)).map fun z => Value.int .i64 z).toArray 2)).cell? (ad.add j) = some (.int .i64 z) := fun j z hj => by
  obtain ⟨b, off, e, h⟩ := hcells j z hj
  refine ⟨_, e, ?_⟩
  rw [Bj]
  exact Ag w _ h
 have hap := hA w.heap.size (Nat.le_refl _)
 generalize hN : w.heap.size = N at *
 generalize w.alloc (.cells ((List.replicate n (0 : Int)).map fun z => Value.int .i64 z).toArray 2) = w1 at *
 refine Aa z38 ?_
 refine Walk.copy (.tmp 9) (.tmp 10) 22 22 2 Ao (by rfl) (by decide) rfl Ff (by kernel_rfl) N n n sa vs.length sc _ 2 ((vs.take n).map fun z => .int .i64 z) rfl rfl d1 (by simp [Nat.min_comm]) (fun e => ⟨by have := hnn e; omega, hnn e⟩) (fun j v hj => ?_) (by simp; omega) (fun v hv => ?_) hap ?_
 ·rw [List.getElem?_map, Option.map_eq_some_iff] at hj
  obtain ⟨z, hz, rfl⟩ := hj
  refine hcells1 j z ?_
  rw [List.getElem?_take] at hz
  split at hz
  ·exact hz
  ·cases hz
 ·obtain ⟨z, _, rfl⟩ := List.mem_map.1 hv
  rfl
 have d2 := setRow_self (cells := (((vs.take n).map fun z => Value.int .i64 z) ++ (((List.replicate n (0 : Int)).map fun z => Value.int .i64 z).toArray).toList.drop (((vs.take n).map fun z => Value.int .i64 z)).length).toArray) d1
 have hrow : ((((vs.take n).map fun z => Value.int .i64 z) ++ (((List.replicate n (0 : Int)).map fun z => Value.int .i64 z).toArray).toList.drop (((vs.take n).map fun z => Value.int .i64 z)).length).toArray) = ((Ds (vs.take n) n).map fun z => Value.int .i64 z).toArray := by
  simp [Ds]
 have o2 : ∀ b, b < N -> (w1.setRow N ((((vs.take n).map fun z => Value.int .i64 z) ++ (((List.replicate n (0 : Int)).map fun z => Value.int .i64 z).toArray).toList.drop (((vs.take n).map fun z => Value.int .i64 z)).length).toArray)).heap[b]? = w.heap[b]? := fun b hb => (Aq _ _ (by omega)).trans (o1 b hb)
 have s2 := Az w1 N ((((vs.take n).map fun z => Value.int .i64 z) ++ (((List.replicate n (0 : Int)).map fun z => Value.int .i64 z).toArray).toList.drop (((vs.take n).map fun z => Value.int .i64 z)).length).toArray)
 rw [hrow] at d2 o2 s2 ⊢
 generalize w1.setRow N ((Ds (vs.take n) n).map fun z => Value.int .i64 z).toArray = w2 at *
 walk_nrm
 refine Aa z38 ?_
 exact Bd rfl rfl Try.func38 rfl fun d => ⟨N, by rw [hpl]; rfl, by omega, show N < w2.heap.size by omega, d2, fun b hb => o2 b (by omega), show w.heap.size <= w2.heap.size by omega⟩
end
end
section
section
variable {main : Bool} {V : Nat -> Option Wait} {lb k : Nat} {s : Sq}
structure ValI (w0 : World) (X N n : Nat) (o : OpV) (j : Nat) (w : World) : Prop where
 op : w.heap[X]? = some (.cells #[.int .i64 o.k, .int .i64 o.a, .int .i64 o.b, .int .i64 o.c] 47)
 num : NumB w N (Ds ((List.range j).map (Ar o)) n)
 old : ∀ b, b < w0.heap.size -> w.heap[b]? = w0.heap[b]?
 lo : w0.heap.size <= X /\ X < N /\ N < w.heap.size /\ w0.heap.size <= N
theorem ValI.at {w0 : World} {X N n : Nat} {o : OpV} {j : Nat} {w : World} (h : ValI w0 X N n o j w) (d : Nat) : ValI w0 X N n o j (w.at d) := ⟨h.op, h.num, h.old, h.lo⟩
theorem val_in (o : OpV) (w : World) (I : SqI lb k s w) (hA : ∀ b, w.heap.size <= b -> Ay V b) (cs : List Frame) :
  Walk Try.prog main (DR V) (fun g w' => (∃ u, g = G (hdVal lb w.heap.size (w.heap.size + 1) (k + 1) 0 u) cs) /\ ValI w w.heap.size (w.heap.size + 1) (k + 1) o 0 w') (G (Frame.enter Try.prog 51 #[.pointer (some ⟨lb, 0, none⟩), Bu o] .normal) cs) w := by
 have hk := I.pos
 have hi1 := Option.some_get (show (Try.prog.info? 2).isSome = true by kernel_rfl)
 have hlen : ∀ w' : World, w'.heap[lb]? = w.heap[lb]? -> Bn Try.prog main V 17 #[.pointer (some ⟨lb, 0, none⟩)] w' (.int .i64 ((k + 1 : Nat) : Int)) w' := fun w' h => by
  have := len_w (main := main) (V := V) w' (I.old h)
  have hcc : ((k : Int) + 1) = ((k + 1 : Nat) : Int) := by simp
  rwa [hcc] at this
 have hlt := I.lt
 have hn17 : k + 1 <= 16 := by omega
 have hn0 : 0 < k + 1 := by omega
 clear I hk
 generalize k + 1 = n at *
 obtain ⟨ok, oa, ob, oc⟩ := o
 simp only [Bu]
 rw [enter_at _ Try.func51 code51_is]
 simp only [Try.ntmps51, ez, Nat.reduceAdd, Nat.reduceSub]
 refine Aa z51 ?_
 (refine Walk.oa ?_; try walk_nrm)
 have s0 : (w.alloc (.cells #[.int .i64 ok, .int .i64 oa, .int .i64 ob, .int .i64 oc] 47)).heap.size = w.heap.size + 1 := by simp
 have o0 : ∀ b, b < w.heap.size -> (w.alloc (.cells #[.int .i64 ok, .int .i64 oa, .int .i64 ob, .int .i64 oc] 47)).heap[b]? = w.heap[b]? := fun b hb => Ab _ _ hb
 have d0 := heap_alloc_new w (.cells #[.int .i64 ok, .int .i64 oa, .int .i64 ob, .int .i64 oc] 47)
 generalize hX : w.heap.size = X at *
 generalize w.alloc (.cells #[.int .i64 ok, .int .i64 oa, .int .i64 ob, .int .i64 oc] 47) = w1 at *
 refine Aa z51 ?_
 refine Walk.callV (x := .int .i64 (n : Int)) (W := w1) ?_ Ao (by rfl) (by decide) rfl Try.func17 (by kernel_rfl) (by rfl) ?_
 ·walk_nrm
  exact hlen w1 (o0 lb (by omega))
 walk_nrm
 refine Aa z51 ?_
 refine Ev 22 (.tmp 8) (.tmp 8) Ao (by rfl) (by decide) rfl 2 _ (.int .i64 0) 1 8 (by kernel_rfl) hi1.symm (by rfl) (by rfl) (by rfl) n (by rfl) (by rfl) (by omega) (by omega) ?_
 walk_nrm
 simp only [Value.cells, Nat.mul_one, Lh]
 have s1 : (w1.alloc (.cells ((List.replicate n (0 : Int)).map fun z => Value.int .i64 z).toArray 2)).heap.size = X + 2 := by simp; omega
 have o1 : ∀ b, b < X + 1 -> (w1.alloc (.cells ((List.replicate n (0 : Int)).map fun z => Value.int .i64 z).toArray 2)).heap[b]? = w1.heap[b]? := fun b hb => Ab _ _ (by omega)
 have d1 := heap_alloc_new w1 (.cells ((List.replicate n (0 : Int)).map fun z => Value.int .i64 z).toArray 2)
 rw [s0] at d1
 try simp only [s0]
 generalize w1.alloc (.cells ((List.replicate n (0 : Int)).map fun z => Value.int .i64 z).toArray 2) = w2 at *
 refine Aa z51 ?_
 refine Walk.ctl rfl (fun w => stepG_loop) ?_
 refine .stop fun d => ⟨Am ?_, ValI.at (o := ⟨ok, oa, ob, oc⟩) (j := 0) (n := n) (N := X + 1) (X := X) ⟨(o1 X (by omega)).trans d0, (show NumB w2 (X + 1) (Ds ((List.range 0).map (Ar ⟨ok, oa, ob, oc⟩)) n) from d1), fun b hb => (o1 b (by omega)).trans (o0 b (by omega)), by omega, by omega, by omega, by omega⟩ d⟩
 simp only [hdVal]
 rfl
theorem val_go (o : OpV) (X N n j : Nat) (hn17 : n <= 16) (hj : j < n) (u : Nat -> Value) (cs : List Frame) (w0 w : World) (M : ValI w0 X N n o j w) (hA : ∀ b, w0.heap.size <= b -> Ay V b) :
  Walk Try.prog main (DR V) (fun g w' => (∃ u, g = G (hdVal lb X N n (j + 1) u) cs) /\ ValI w0 X N n o (j + 1) w') (G (hdVal lb X N n j u) cs) w := by
 obtain ⟨hop, hnum, hold, hlo⟩ := M
 have hap := hA N hlo.2.2.2
 have c2 := (Ad hop 2).trans rfl
 have c3 := (Ad hop 3).trans rfl
 have hl : ((List.range j).map (Ar o)).length = j := by simp
 have c5 := hnum.cell (j := j) (z := 0) (by
  unfold Ds
  rw [List.getElem?_append_right (by omega), hl, Nat.sub_self, List.getElem?_replicate, if_pos (by omega)])
 have z5 := hnum.frozen j
 have f5 := hap.1 ⟨N, j, none⟩ rfl
 have hi0 : (0 : Int) <= j := by omega
 have hi1 : decide ((j : Int) < n) = true := by simp; omega
 have hi2 : decide (n <= j) = false := by simp; omega
 have hi3 : decide (j < n) = true := by simp; omega
 have hw1 : IntKind.wrap .i64 ((j : Int) + 1) = (j : Int) + 1 := by rw [IntKind.wrap_i64]; omega
 have hw2 : IntKind.wrap .i64 (j : Int) = (j : Int) := by rw [IntKind.wrap_i64]; omega
 have hv : Ar o j = IntKind.i64.wrap (o.b + IntKind.i64.wrap ((j : Int) * o.c)) := rfl
 have hset := hnum.set j (Ar o j)
 have hs6 := Ai w ⟨N, j, none⟩ (.int .i64 (Ar o j))
 have o6 : ∀ b, b ≠ N -> (w.setCell ⟨N, j, none⟩ (.int .i64 (Ar o j))).heap[b]? = w.heap[b]? := fun b hb => Ac _ _ _ _ hb
 have hpd := padL_set (l := (List.range j).map (Ar o)) (n := n) (by omega) (Ar o j)
 rw [hl, <- Ng] at hpd
 rw [hpd] at hset
 rw [hv] at hset hs6 o6
 clear hv hpd hnum
 unfold hdVal
 refine Aa z51 ?_
 (refine Walk.os f5 c5 ?_; try walk_nrm)
 generalize w.setCell ⟨N, j, none⟩ (.int .i64 (IntKind.i64.wrap (o.b + IntKind.i64.wrap ((j : Int) * o.c)))) = w6 at *
 refine Aa z51 ?_
 refine Walk.ctl rfl (fun w => stepG_inLoop) ?_
 refine .stop fun d => ⟨Am ?_, ValI.at ⟨(o6 X (by omega)).trans hop, hset, fun b hb => (o6 b (by omega)).trans (hold b hb), by omega, by omega, by omega, by omega⟩ d⟩
 have hc : ((j + 1 : Nat) : Int) = (j : Int) + 1 := by simp
 simp only [hdVal, hc]
 rfl
theorem val_end (X N n : Nat) (u : Nat -> Value) (c : Frame) (cs : List Frame) (w : World) :
  Walk Try.prog main (DR V) (fun g w' => g = G (c.finish (.slice (some ⟨N, 0, none⟩) n n)) cs /\ ∃ d, w' = w.at d) (G (hdVal lb X N n n u) (c :: cs)) w := by
 unfold hdVal
 refine Aa z51 ?_
 exact Bh rfl rfl Try.func51 rfl (.stop fun d => ⟨rfl, d, rfl⟩)
theorem values_w (o : OpV) (w : World) (I : SqI lb k s w) (hA : ∀ b, w.heap.size <= b -> Ay V b) : CallW Try.prog main V 51 #[.pointer (some ⟨lb, 0, none⟩), Bu o] w (Jq ((List.range (k + 1)).map (Ar o)) w) := by
 intro c cs
 have hk := I.pos
 refine (val_in o w I hA (c :: cs)).then ?_
 rintro g w1 ⟨⟨u, rfl⟩, M⟩
 have loop : ∀ (r i : Nat) (u : Nat -> Value) (w1 : World), i + r = k + 1 -> ValI w w.heap.size (w.heap.size + 1) (k + 1) o i w1 ->
   Walk Try.prog main (DR V) (fun g w' => ∃ v, Jq ((List.range (k + 1)).map (Ar o)) w v w' /\ g = G (c.finish v) cs) (G (hdVal lb w.heap.size (w.heap.size + 1) (k + 1) i u) (c :: cs)) w1 := by
  intro r
  induction r with
  | zero =>
   intro i u w1 hi M
   obtain rfl : i = k + 1 := hi
   refine (val_end _ _ _ u c cs w1).mono ?_
   rintro g w' ⟨rfl, d, rfl⟩
   refine ⟨_, ⟨w.heap.size + 1, ?_, by omega, M.lo.2.2.1, ?_, M.old, by have := M.lo; show w.heap.size <= w1.heap.size; omega⟩, rfl⟩
   ·simp
   ·have := M.num
    rw [Er (by simp)] at this
    exact this
  | succ r ih =>
   intro i u w1 hi M
   refine (val_go o _ _ (k + 1) i (by omega) (by omega) u (c :: cs) w w1 M hA).then ?_
   rintro g w' ⟨⟨u', rfl⟩, M'⟩
   exact ih (i + 1) u' w' (by omega) M'
 exact loop (k + 1) 0 u w1 (by omega) M
end
end
section
noncomputable def reg30_0 := rk Try.f30.body 0
noncomputable def reg30_1 := rk Try.f30.body 1
noncomputable def reg30_2 := rk Try.f30.body 2
noncomputable def reg30_3 := rk Try.f30.body 3
noncomputable def reg30_4 := rk Try.f30.body 4
theorem z30 : reg30_0.size = 2 /\ reg30_1.size = 2 /\ reg30_2.size = 2 /\ reg30_3.size = 6 /\ reg30_4.size = 6 := by and_intros <;> kernel_rfl
theorem code30_is : Try.f30.body = some (.seq (.region 0 reg30_0 false) (.seq (.seq (.region 1 reg30_1 false) (.cond (.tmp 10 ) (.seq (.region 2 reg30_2 false) (.ret)) (.skip))) (.seq (.region 3 reg30_3 false) (.seq (.region 4 reg30_4 false) (.ret))))) := by kernel_rfl
noncomputable def reg31_0 := rk Try.f31.body 0
noncomputable def reg31_1 := rk Try.f31.body 1
noncomputable def reg31_2 := rk Try.f31.body 2
noncomputable def reg31_3 := rk Try.f31.body 3
noncomputable def reg31_4 := rk Try.f31.body 4
noncomputable def reg31_5 := rk Try.f31.body 5
noncomputable def reg31_6 := rk Try.f31.body 6
noncomputable def reg31_7 := rk Try.f31.body 7
theorem z31 : reg31_0.size = 1 /\ reg31_1.size = 4 /\ reg31_2.size = 3 /\ reg31_3.size = 1 /\ reg31_4.size = 2 /\ reg31_5.size = 11 /\ reg31_6.size = 2 /\ reg31_7.size = 2 := by and_intros <;> kernel_rfl
theorem code31_is : Try.f31.body = some (.seq (.region 0 reg31_0 false) (.seq (.region 1 reg31_1 false) (.seq (.seq (.region 2 reg31_2 false) (.block 0 (.loop (.seq (.region 3 reg31_3 false) (.seq (.cond (.tmp 13 ) (.skip) (.exit 0)) (.seq (.block 1 (.seq (.region 4 reg31_4 false) (.region 5 reg31_5 false))) (.region 6 reg31_6 false))))))) (.seq (.region 7 reg31_7 false) (.ret))))) := by kernel_rfl
noncomputable def hdRaw (lb : Nat) (sv : Value) (N n j : Nat) (u : Nat -> Value) : Frame :=
 (base 31).at { tmps := #[.pointer (some ⟨lb, 0, none⟩), sv, u 2, u 3, u 4, .slice (some ⟨N, 0, none⟩) n n, u 6, u 7, u 8, u 9, u 10, .int .i64 n, .int .i64 j, u 13, u 14, u 15, u 16, u 17, u 18, u 19, u 20, u 21, u 22, u 23, u 24, u 25, u 26], defers := [] } [.code (.seq (.region 3 reg31_3 false) (.seq (.cond (.tmp 13 ) (.skip) (.exit 0)) (.seq (.block 1 (.seq (.region 4 reg31_4 false) (.region 5 reg31_5 false))) (.region 6 reg31_6 false)))), .inLoop (.seq (.region 3 reg31_3 false) (.seq (.cond (.tmp 13 ) (.skip) (.exit 0)) (.seq (.block 1 (.seq (.region 4 reg31_4 false) (.region 5 reg31_5 false))) (.region 6 reg31_6 false)))), .inBlock 0, .code (.seq (.region 7 reg31_7 false) (.ret))]
section
variable {lb k : Nat} {sv : Value}
theorem Ke (K : Lg (Aj lb k) sv) (e : K.E) (d : QD) (ht : K.tgt e = (K.s e, .inr d)) : SCall K.toLb 46 #[.pointer (some ⟨lb, 0, none⟩), sv] e (fun v e' => Aft K.toLb e d e' /\ v = .int .i64 ((K.s e' : Sq).v)) := word_load K verW e d trivial ht
theorem load_word (K : Lg (Aj lb k) sv) (i : Nat) (hi : i <= k) (e : K.E) (d : QD) (ht : K.tgt e = (K.s e, .inr d)) : SCall K.toLb 46 #[.pointer (some ⟨lb, 1 + i, none⟩), sv] e (fun v e' => Aft K.toLb e d e' /\ v = .int .i64 ((K.s e' : Sq).w i)) := word_load K (worW i hi) e d trivial ht
def Of (K : Lg (Aj lb k) sv) (v : Value) (e' : K.E) : Prop := ∃ b x, v = .tuple #[.int .i64 x, .bool b] /\ K.tgt e' = (K.s e', .inl ⟨b, x, []⟩)
theorem Pd (K : Lg (Aj lb k) sv) (e : K.E) (a : Int) (ht : K.tgt e = (K.s e, .inr (.n1 a))) : SCall K.toLb 30 #[.pointer (some ⟨lb, 0, none⟩), sv, .int .i64 a] e (Of K) := by
 intro fr l hp hl hk
 have w1 := Ke K e (.n1 a) ht
 have hp1 := fun w => Br (P := Try.prog) 35 Dc (some ⟨lb, 0, none⟩) w
 have hp2 := fun w es => Cb (P := Try.prog) 35 Dc (some ⟨lb, 0, none⟩) w es
 simp only [Option.isNone_some] at hp1
 unfold LW
 rw [enter_at _ Try.func30 code30_is]
 simp only [Try.ntmps30, ez, Nat.reduceAdd, Nat.reduceSub]
 refine Aa z30 ?_
 refine Bb (K := K.toLb) (e := e) (l := fr :: l) (f := 46) (Q := fun v e' => Aft K.toLb e (.n1 a) e' /\ v = .int .i64 ((K.s e' : Sq).v)) ?_ Ao (by rfl) (by decide) rfl Try.func46 (by kernel_rfl) (by rfl) ⟨rfl, rfl, _, Try.func30⟩ (As hp hl) ?_
 ·walk_nrm
  exact w1
 rintro v e1 ⟨ha, rfl⟩
 have hkk := hk (.tuple #[.int .i64 ((K.s e1 : Sq).v), .bool (decide (a < (K.s e1 : Sq).v))]) e1 ⟨_, _, rfl, ha.tgt⟩
 generalize (K.s e1 : Sq).v = x at *
 unfold LW at hkk ⊢
 walk_nrm
 refine Aa z30 ?_
 exact Kt rfl rfl Try.func30 rfl hkk
def Ln (K : Lg (Aj lb k) sv) (D : Nat -> List Int -> Ans ⊕ QD) (v : Value) (e' : K.E) : Prop := ∃ B l, v = .slice (some ⟨B, 0, none⟩) (k + 1) (k + 1) /\ l.length = k + 1 /\ K.mine e' B /\ NumB (K.w e') B l /\ K.tgt e' = (K.s e', D (k + 1) l)
theorem raw_round (K : Lg (Aj lb k) sv) (D : Nat -> List Int -> Ans ⊕ QD) (dd : Nat -> List Int -> QD) (hD : ∀ i l, i <= k -> D i l = .inr (dd i l)) (hact : ∀ s i l, i <= k -> Bo k s (dd i l) = (s, D (i + 1) (l ++ [s.w i])))
  (B : Nat) (fr : Frame) (l : List Frame) (hp : Bf fr) (hl : ∀ f ∈ l, Bf f) (ls : List Int) (hj : ls.length < k + 1) (e : K.E) (u : Nat -> Value) (hB : K.mine e B) (hT : NumB (K.w e) B (Ds ls (k + 1))) (ht : K.tgt e = (K.s e, D ls.length ls))
  (ih : ∀ (e' : K.E) (u' : Nat -> Value) (x : Int), K.mine e' B -> NumB (K.w e') B (Ds (ls ++ [x]) (k + 1)) -> K.tgt e' = (K.s e', D (ls.length + 1) (ls ++ [x])) -> LW K.toLb e' (G (hdRaw lb sv B (k + 1) (ls.length + 1) u') (fr :: (l ++ K.bot e')))) :
  LW K.toLb e (G (hdRaw lb sv B (k + 1) ls.length u) (fr :: (l ++ K.bot e))) := by
 have hk15 := (K.inv e).pos
 have w1 := load_word K ls.length (by omega) e (dd ls.length ls) (by rw [ht, hD _ _ (by omega)]; rfl)
 have hact' := fun s => hact s ls.length ls (by omega)
 have hset := fun (w : World) (h : NumB w B (Ds ls (k + 1))) (x : Int) => (padL_set hj x) ▸ h.set ls.length x
 have hcl := fun (w : World) (h : NumB w B (Ds ls (k + 1))) => h.cell (j := ls.length) (z := 0) (by
  unfold Ds
  rw [List.getElem?_append_right (Nat.le_refl _), Nat.sub_self, List.getElem?_replicate, if_pos (by omega)])
 clear hD hact
 have hn17 : k + 1 <= 16 := by omega
 have h17 : ((17 : Nat) : Int) = 17 := rfl
 generalize hjj : ls.length = j at *
 have hj0 : (0 : Int) <= j := by omega
 have hj1 : decide ((j : Int) < ((k + 1 : Nat) : Int)) = true := by simp; omega
 have hj3 : decide (j < k + 1) = true := by simp; omega
 have hj4 : (j : Int) < ((k + 1 : Nat) : Int) := by omega
 have hj5 : (j : Int) < 16 := by omega
 have hj6 : j < 16 := by omega
 have hw1 : IntKind.wrap .i64 ((j : Int) + 1) = ((j + 1 : Nat) : Int) := by rw [IntKind.wrap_i64]; omega
 have hx1 := fun w => (Ir lb j hj6 w #[]).1
 have hx2 := fun w es => (Ir lb j hj6 w es).2
 clear hk15 hjj
 generalize k + 1 = n at *
 unfold LW hdRaw
 refine Aa z31 ?_
 refine Bb (K := K.toLb) (e := e) (l := fr :: l) (f := 46) (Q := fun v e' => Aft K.toLb e (dd j ls) e' /\ v = .int .i64 ((K.s e' : Sq).w j)) ?_ Ao (by rfl) (by decide) rfl Try.func46 (by kernel_rfl) (by rfl) ⟨rfl, rfl, _, Try.func31⟩ (As hp hl) ?_
 ·walk_nrm
  exact w1
 rintro v e1 ⟨ha, rfl⟩
 have ht1 : K.tgt e1 = (K.s e1, D (j + 1) (ls ++ [(K.s e1 : Sq).w j])) := ha.tgt.trans (hact' _)
 obtain ⟨hm1, hb1⟩ := ha.mine B hB
 have hT1 := hT.same hb1
 have hcy := hcl _ hT1
 have hfz := hT1.frozen j
 have hap := (K.mineA e1 _ hm1).1.1 ⟨B, j, none⟩ rfl
 have hT2 := hset _ hT1 ((K.s e1 : Sq).w j)
 generalize (K.s e1 : Sq).w j = x at *
 obtain ⟨e2, m2⟩ := K.own e1 (w' := (K.w e1).setCell ⟨B, j, none⟩ (.int .i64 x)) (by simp) (fun b _ hbm => Ac _ _ _ _ (fun he : b = B => hbm (by rw [he]; exact hm1)))
 have hm2 : K.mine e2 B := (m2.mine B).2 (.inl hm1)
 have ht2 : K.tgt e2 = (K.s e2, D (j + 1) (ls ++ [x])) := by rw [m2.tgt, m2.s]; exact ht1
 rw [<- m2.w] at hT2
 have hih := fun u => ih e2 u x hm2 hT2 ht2
 clear ih w1 hset hcl hact' hT hT1 hT2
 unfold LW
 walk_nrm
 refine Aa z31 ?_
 (refine Walk.os hap hcy ?_; try walk_nrm)
 refine Dq (l := fr :: l) m2 ?_
 unfold LW at hih ⊢
 refine Aa z31 ?_
 refine Walk.ctl rfl (fun w => stepG_inLoop) ?_
 refine Bz (F := fun u => G (hdRaw lb sv B n (j + 1) u) (fr :: (l ++ K.bot e2))) hih ?_
 simp only [hdRaw]
 rfl
theorem raw_end (K : Lg (Aj lb k) sv) (D : Nat -> List Int -> Ans ⊕ QD) (B : Nat) (fr : Frame) (l : List Frame) (hk : ∀ x e', Ln K D x e' -> LW K.toLb e' (G (fr.finish x) (l ++ K.bot e'))) (ls : List Int) (hj : ls.length = k + 1) (e : K.E) (u : Nat -> Value) (hB : K.mine e B) (hT : NumB (K.w e) B (Ds ls (k + 1))) (ht : K.tgt e = (K.s e, D (k + 1) ls)) :
  LW K.toLb e (G (hdRaw lb sv B (k + 1) (k + 1) u) (fr :: (l ++ K.bot e))) := by
 rw [Er hj] at hT
 have hkk := hk (.slice (some ⟨B, 0, none⟩) (k + 1) (k + 1)) e ⟨B, ls, rfl, hj, hB, hT, ht⟩
 clear hk hT ht hj
 generalize k + 1 = n at *
 have hj3 : decide (n < n) = false := by simp
 unfold LW hdRaw
 unfold LW at hkk
 refine Aa z31 ?_
 exact Bh rfl rfl Try.func31 rfl hkk
theorem raw_loop (K : Lg (Aj lb k) sv) (D : Nat -> List Int -> Ans ⊕ QD) (dd : Nat -> List Int -> QD) (hD : ∀ i l, i <= k -> D i l = .inr (dd i l)) (hact : ∀ s i l, i <= k -> Bo k s (dd i l) = (s, D (i + 1) (l ++ [s.w i])))
  (B : Nat) (fr : Frame) (l : List Frame) (hp : Bf fr) (hl : ∀ f ∈ l, Bf f) (hk : ∀ x e', Ln K D x e' -> LW K.toLb e' (G (fr.finish x) (l ++ K.bot e'))) :
  ∀ (r : Nat) (ls : List Int) (e : K.E) (u : Nat -> Value), ls.length + r = k + 1 -> K.mine e B -> NumB (K.w e) B (Ds ls (k + 1)) -> K.tgt e = (K.s e, D ls.length ls) -> LW K.toLb e (G (hdRaw lb sv B (k + 1) ls.length u) (fr :: (l ++ K.bot e))) := by
 intro r
 induction r with
 | zero =>
  intro ls e u hj hB hT ht
  have hj' : ls.length = k + 1 := by simpa using hj
  rw [hj'] at ht ⊢
  exact raw_end K D B fr l hk ls hj' e u hB hT ht
 | succ r ih =>
  intro ls e u hj hB hT ht
  refine raw_round K D dd hD hact B fr l hp hl ls (by omega) e u hB hT ht fun e' u' x hB' hT' ht' => ?_
  have hlen : (ls ++ [x]).length = ls.length + 1 := by simp
  have := ih (ls ++ [x]) e' u' (by omega) hB' hT'
  rw [hlen] at this
  exact this ht'
theorem raw_s (K : Lg (Aj lb k) sv) (D : Nat -> List Int -> Ans ⊕ QD) (dd : Nat -> List Int -> QD) (hD : ∀ i l, i <= k -> D i l = .inr (dd i l)) (hact : ∀ s i l, i <= k -> Bo k s (dd i l) = (s, D (i + 1) (l ++ [s.w i])))
  (e : K.E) (ht : K.tgt e = (K.s e, D 0 [])) : SCall K.toLb 31 #[.pointer (some ⟨lb, 0, none⟩), sv] e (Ln K D) := by
 intro fr l hp hl hk
 have hk15 := (K.inv e).pos
 have hi1 := Option.some_get (show (Try.prog.info? 2).isSome = true by kernel_rfl)
 have h1 := len_w (main := K.main) (V := K.V e) (K.w e) (K.inv e)
 have hcc : ((k : Int) + 1) = ((k + 1 : Nat) : Int) := by simp
 rw [hcc] at h1
 have hlp := fun B e' u hB hT ht' => raw_loop K D dd hD hact B fr l hp hl hk (k + 1) [] e' u (by simp) hB hT ht'
 simp only [List.length_nil] at hlp
 clear hk hcc hD hact
 have hn17 : k + 1 <= 16 := by omega
 have hn0 : 0 < k + 1 := by omega
 clear hk15
 generalize k + 1 = n at *
 unfold LW
 rw [enter_at _ Try.func31 code31_is]
 simp only [Try.ntmps31, ez, Nat.reduceAdd, Nat.reduceSub]
 refine Aa z31 ?_
 refine Walk.callV (x := .int .i64 (n : Int)) (W := K.w e) ?_ Ao (by rfl) (by decide) rfl Try.func17 (by kernel_rfl) (by rfl) ?_
 ·walk_nrm
  exact h1
 walk_nrm
 refine Aa z31 ?_
 refine Ev 22 (.tmp 8) (.tmp 8) Ao (by rfl) (by decide) rfl 2 _ (.int .i64 0) 1 8 (by kernel_rfl) hi1.symm (by rfl) (by rfl) (by rfl) n (by rfl) (by rfl) (by omega) (by omega) ?_
 walk_nrm
 simp only [Value.cells, Nat.mul_one, Lh]
 have c1 := heap_alloc_new (K.w e) (.cells ((List.replicate n (0 : Int)).map fun z => Value.int .i64 z).toArray 2)
 have s1 : ((K.w e).alloc (.cells ((List.replicate n (0 : Int)).map fun z => Value.int .i64 z).toArray 2)).heap.size = (K.w e).heap.size + 1 := by simp
 obtain ⟨e1, m1⟩ := K.grow e (w' := (K.w e).alloc (.cells ((List.replicate n (0 : Int)).map fun z => Value.int .i64 z).toArray 2)) (by omega) (fun b hb' => Ab _ _ hb')
 generalize hR : (K.w e).heap.size = R at *
 generalize (K.w e).alloc (.cells ((List.replicate n (0 : Int)).map fun z => Value.int .i64 z).toArray 2) = w1 at *
 have hmR : K.mine e1 R := m1.new (by omega) (by omega)
 have ht1 : K.tgt e1 = (K.s e1, D 0 []) := by rw [m1.tgt, m1.s]; exact ht
 have hT1 : NumB (K.w e1) R (Ds [] n) := by
  rw [m1.w]
  exact c1
 have hh := fun u => hlp R e1 u hmR hT1 ht1
 unfold LW at hh
 refine Dq (l := fr :: l) m1 ?_
 unfold LW
 clear hi1 c1
 refine Aa z31 ?_
 refine Walk.ctl rfl (fun w => stepG_loop) ?_
 refine Bz (F := fun u => G (hdRaw lb sv R n 0 u) (fr :: (l ++ K.bot e1))) hh ?_
 simp only [hdRaw]
 rfl
end
end
end Go.Proofs.Ytjenoiekfkhafaa
