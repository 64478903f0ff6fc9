/- Part 22. -/
import Derived.Test.YtjenoiekfkhafaaJ3
import Derived.Test.YtjenoiekfkhafaaJ11
import Derived.Test.YtjenoiekfkhafaaJ13
import Derived.Test.YtjenoiekfkhafaaJ15
import Derived.Test.YtjenoiekfkhafaaJ17
set_option linter.unusedSimpArgs false
set_option linter.unusedVariables false
set_option linter.unusedVariables false
set_option maxHeartbeats 8000000
set_option maxRecDepth 100000
namespace Go.Proofs.Ytjenoiekfkhafaa
open Go.Conc Go.RowKit Go.Relay
open Go.ConcN (upd upd_ne upd_same)
section
def RwR (sl : Value) (n : Nat) (xs : List Value) (w : World) : Prop := ∃ a c, sl = .slice a n c /\ ∀ (j : Nat) (u : Value), xs[j]? = some u -> ∃ b o, a = some ⟨b, o, none⟩ /\ w.cell? ⟨b, o + j, none⟩ = some u
section
variable {main : Bool} {V : Nat -> Option Wait} {Stop : Goroutine -> World -> Prop} {w : World} {b : Frame} {a : Act} {k : List Item} {cs : List Frame} {ops : Array Oper} {i : Nat} {rest : List Nat} {o : Oper}
theorem Walk.copiedT (s x : Operand) (t e : TypeId) (ti : TypeInfo) (z : Value) (size bytes : Nat) (ht : Try.prog.underlying t = some (.slice e)) (hi : Try.prog.info? e = some ti) (hz : ti.zero = some z) (hsize : ti.size = size) (hby : ti.bytes = bytes) (hzs : z.cells.size = size) (hsz : 0 < size)
  (ho : ops[i]? = some o) (hw : Region.wanted o (yielded ops a.tmps) = true) (hk : b.kind ≠ .early) (hop : o.op = .call { callee := .builtin .append, args := #[s, x], argTypes := #[t, t] })
  (E : Nat) (hE : w.heap[E]? = some (.cells #[] e)) (hap : Ay V E) (sl : Value) (n : Nat) (xs : List Value) (hls : RwR sl n xs w) (hxl : xs.length = n * size) (hone : ∀ u ∈ xs, u.oneCell' = true) (hn : n <= maxLen) (hnb : n * bytes <= 140737488355328) (hs : a.eval s = .slice (some ⟨E, 0, none⟩) 0 0) (hx : a.eval x = sl)
  (h : ∀ g cap w', w'.ownsRow E e size (.slice (some ⟨g, 0, none⟩) n cap) n xs -> (∀ b, b < w.heap.size -> b ≠ E -> w'.heap[b]? = w.heap[b]?) -> w.heap.size <= w'.heap.size -> Walk Try.prog main (DR V) Stop (G (b.at (a.put o.dst (.slice (some ⟨g, 0, none⟩) n cap)) (.inRegion ops rest :: k)) cs) w') :
  Walk Try.prog main (DR V) Stop (G (b.at a (.inRegion ops (i :: rest) :: k)) cs) w := by
 obtain ⟨xa, xc, rfl, hcells⟩ := hls
 have hEl := (Array.getElem?_eq_some_iff.1 hE).1
 have hown : w.ownsRow E e size (.slice (some ⟨E, 0, none⟩) 0 0) 0 [] := ⟨by simp, .inr ⟨E, 0, #[], rfl, Nat.le_refl _, hE, Nat.le_refl _, by decide, by simp, by simp⟩⟩
 by_cases h0 : n = 0
 ·subst h0
  have hxs : xs = [] := List.eq_nil_of_length_eq_zero (by rw [hxl]; omega)
  subst hxs
  have hz := fun w es => run_app0 ht hi o.type ⟨E, 0, none⟩ xa xc w es
  refine Walk.opq ho hw hk (fun dd e he => ?_) (fun dd K hK => ?_)
  ·rw [events_append_op s x _ hop hs hx, (hz (w.at dd) #[]).2] at he
   simp at he
  ·exact uponK_append s x _ hop hs hx (hz (w.at dd) #[]).1 (hK _ (h E 0 w hown (fun _ _ _ => rfl) (Nat.le_refl _)))
 ·have hpos : 0 < xs.length := by
   rw [hxl]
   exact Nat.mul_pos (by omega) hsz
  obtain ⟨xb, xo, e0, _⟩ := hcells 0 _ (List.getElem?_eq_getElem hpos)
  refine Walk.append s x t ho hw hk hop E e ti z size bytes ht hi hz hsize hby hzs hsz (.slice (some ⟨E, 0, none⟩) 0 0) 0 [] hs hown ⟨xb, xo, none⟩ n xc xs (by rw [hx, e0]) hxl (fun j u hu => ?_) hone (by omega) (by omega) (by rw [Nat.zero_add]; exact hnb) (by omega) (fun g hg => ?_) (fun g cap w' hown' hgr hat hlt => ?_)
  ·obtain ⟨b', off', e, h'⟩ := hcells j u hu
   rw [e0] at e
   obtain ⟨rfl, rfl, _⟩ := Addr.mk.inj (Option.some.inj e)
   rw [Bj]; exact h'
  ·have hg : E = g := Option.some.inj hg
   rw [<- hg]; exact hap
  ·rw [Nat.zero_add] at hown' ⊢
   rw [List.nil_append] at hown'
   exact h g cap w' hown' (fun b hb hne => hgr.block b hb fun e => hne (Option.some.inj e)) hgr.size
end
end
section
def Bp (l : List Int) : List Value := l.map (.int .i64)
theorem Ia (l : List Int) (x : Int) : Bp (l ++ [x]) = Bp l ++ [.int .i64 x] := by simp [Bp]
structure R8 where
 ov : Value
 ops : List OpV
 av : Value
 ans : List Ans
 who : Int
 at' : Nat
 pc : Int
 tr : Int
 vn : Int
 sv : Value
 seen : List Int
 live : Prop
 ownA : Nat -> Prop
def R8.cells (t : R8) : List Value := [t.ov, t.av, .int .i64 t.who, .int .i64 t.at', .int .i64 t.pc, .int .i64 t.tr, .int .i64 t.vn, t.sv]
def R8.own (t : R8) (b : Nat) : Prop := t.ownA b ∨ (t.live /\ t.sv.ownBlock = some b)
def OpsAt (a0 : Nat) (ov : Value) (l : List OpV) (w : World) : Prop := ∃ oa oc, ov = .slice oa l.length oc /\ ∀ (k : Nat) (o : OpV), l[k]? = some o -> ∃ b off, oa = some ⟨b, off, none⟩ /\ b < a0 /\ b < w.heap.size /\ ∀ (j : Nat) (v : Value), ([.int .i64 o.k, .int .i64 o.a, .int .i64 o.b, .int .i64 o.c] : List Value)[j]? = some v -> w.cell? ⟨b, off + k * 4 + j, none⟩ = some v
theorem OpsAt.same {a0 : Nat} {ov : Value} {l : List OpV} {w w' : World} (h : OpsAt a0 ov l w) (hO : ∀ b, b < a0 -> b < w.heap.size -> w'.heap[b]? = w.heap[b]?) : OpsAt a0 ov l w' := by
 obtain ⟨oa, oc, e, h⟩ := h
 refine ⟨oa, oc, e, fun k o ho => ?_⟩
 obtain ⟨b, off, e, h1, h2, h3⟩ := h k o ho
 have hb := hO b h1 h2
 refine ⟨b, off, e, h1, ?_, fun j v hv => (World.cell?_of_block (a := ⟨b, off + k * 4 + j, none⟩) hb).trans (h3 j v hv)⟩
 have := h3 0 _ rfl
 exact Al ((World.cell?_of_block (a := ⟨b, off + k * 4 + 0, none⟩) hb).trans this)
structure R8.Rows (t : R8) (a0 : Nat) (w : World) : Prop where
 rO : OpsAt a0 t.ov t.ops w
 rA : RowA a0 t.ownA t.av t.ans w
 rS : t.live -> w.ownsRow a0 2 1 t.sv t.seen.length (Bp t.seen)
 ne : t.live -> ∀ b, t.sv.ownBlock = some b -> ¬ t.ownA b
 lo : ∀ b, t.ownA b -> a0 <= b /\ b < w.heap.size
theorem lt_same {w w' : World} {b : Nat} (h : b < w.heap.size) (e : w'.heap[b]? = w.heap[b]?) : b < w'.heap.size := by
 rw [Array.getElem?_eq_getElem h] at e
 exact (Array.getElem?_eq_some_iff.1 e).1
theorem R8.Rows.same {t : R8} {a0 : Nat} {w w' : World} (h : t.Rows a0 w) (hO : ∀ b, b < a0 -> b < w.heap.size -> w'.heap[b]? = w.heap[b]?) (hR : ∀ b, t.own b -> w'.heap[b]? = w.heap[b]?) : t.Rows a0 w' :=
 ⟨h.rO.same hO, h.rA.same fun b hb => hR b (.inl hb), fun hl => Aw (h.rS hl) fun b hb => hR b (.inr ⟨hl, hb⟩), h.ne, fun b hb => ⟨(h.lo b hb).1, lt_same (h.lo b hb).2 (hR b (.inl hb))⟩⟩
theorem R8.Rows.low {t : R8} {a0 : Nat} {w : World} (h : t.Rows a0 w) {b : Nat} (hb : t.own b) : a0 <= b /\ b < w.heap.size := by
 rcases hb with hb | ⟨hl, hb⟩
 ·exact h.lo b hb
 ·exact (h.rS hl).lt b hb
structure M8 (a0 M cg cc tb tc n m : Nat) (ta : Option Addr) (S : Sq) (T : Nat -> R8) (w : World) : Prop where
 hd : w.heap[M]? = some (.cells #[.int .i64 S.v, .slice (some ⟨cg, 0, none⟩) m cc, .slice ta n tc] 110)
 cs : ∃ arr : Array Value, w.heap[cg]? = some (.cells arr 2) /\ ∀ i, i < m -> arr[i]? = some (.int .i64 (S.w i))
 ts : 0 < n -> ta = some ⟨tb, 0, none⟩ /\ ∃ arr : Array Value, w.heap[tb]? = some (.cells arr 112) /\ arr.size = tc * 8 /\ n <= tc /\ tc <= maxLen /\ ∀ i, i < n -> ∀ (j : Nat) (v : Value), (T i).cells[j]? = some v -> arr[i * 8 + j]? = some v
 rows : ∀ i, i < n -> (T i).Rows a0 w
 far : ∀ i, i < n -> ∀ b, (T i).own b -> b ≠ M /\ b ≠ cg /\ b ≠ tb /\ ∀ k, k < n -> k ≠ i -> ¬ (T k).own b
 base : a0 <= M /\ a0 <= cg /\ M ≠ cg /\ (0 < n -> a0 <= tb /\ M ≠ tb /\ cg ≠ tb)
section
variable {a0 M cg cc tb tc n m : Nat} {ta : Option Addr} {S : Sq} {T : Nat -> R8} {w w' : World}
theorem M8.lt (I : M8 a0 M cg cc tb tc n m ta S T w) : M < w.heap.size /\ cg < w.heap.size /\ (0 < n -> tb < w.heap.size) := by
 obtain ⟨arr, h1, _⟩ := I.cs
 refine ⟨(Array.getElem?_eq_some_iff.1 I.hd).1, (Array.getElem?_eq_some_iff.1 h1).1, fun hn => ?_⟩
 obtain ⟨_, arr, h2, _⟩ := I.ts hn
 exact (Array.getElem?_eq_some_iff.1 h2).1
theorem M8.same (I : M8 a0 M cg cc tb tc n m ta S T w) (h : ∀ b, b < w.heap.size -> w'.heap[b]? = w.heap[b]?) : M8 a0 M cg cc tb tc n m ta S T w' := by
 obtain ⟨l1, l2, l3⟩ := I.lt
 refine ⟨(h M l1).trans I.hd, ?_, fun hn => ?_, fun i hi => ?_, I.far, I.base⟩
 ·obtain ⟨arr, h1, h2⟩ := I.cs
  exact ⟨arr, (h cg l2).trans h1, h2⟩
 ·obtain ⟨e, arr, h1, h2⟩ := I.ts hn
  exact ⟨e, arr, (h tb (l3 hn)).trans h1, h2⟩
 ·have R := I.rows i hi
  exact R.same (fun b _ hb => h b hb) fun b hb => h b (R.low hb).2
theorem M8.tcell (I : M8 a0 M cg cc tb tc n m ta S T w) {i : Nat} (hi : i < n) {j : Nat} {v : Value} (h : (T i).cells[j]? = some v) : w.cell? ⟨tb, i * 8 + j, none⟩ = some v := by
 obtain ⟨_, arr, h1, _, _, _, h2⟩ := I.ts (by omega)
 exact (Ad h1 _).trans (h2 i hi j v h)
theorem M8.tfrz (I : M8 a0 M cg cc tb tc n m ta S T w) {i : Nat} (hi : i < n) (q : Nat) : w.frozen? ⟨tb, q, none⟩ = false := by
 obtain ⟨_, arr, h1, _⟩ := I.ts (by omega)
 exact An h1 q
theorem M8.cV (I : M8 a0 M cg cc tb tc n m ta S T w) : w.cell? ⟨M, 0, none⟩ = some (.int .i64 S.v) := (Ad I.hd 0).trans rfl
theorem M8.cC (I : M8 a0 M cg cc tb tc n m ta S T w) : w.cell? ⟨M, 1, none⟩ = some (.slice (some ⟨cg, 0, none⟩) m cc) := (Ad I.hd 1).trans rfl
theorem M8.cT (I : M8 a0 M cg cc tb tc n m ta S T w) (hn : 0 < n) : w.cell? ⟨M, 2, none⟩ = some (.slice (some ⟨tb, 0, none⟩) n tc) := by
 obtain ⟨rfl, _⟩ := I.ts hn
 exact (Ad I.hd 2).trans rfl
theorem M8.mfrz (I : M8 a0 M cg cc tb tc n m ta S T w) (q : Nat) : w.frozen? ⟨M, q, none⟩ = false := An I.hd q
theorem M8.putV (I : M8 a0 M cg cc tb tc n m ta S T w) (x : Int) : M8 a0 M cg cc tb tc n m ta (Cv S x) T (w.setCell ⟨M, 0, none⟩ (.int .i64 x)) := by
 obtain ⟨b1, b2, b3, b4⟩ := I.base
 have ho : ∀ b, b ≠ M -> (w.setCell ⟨M, 0, none⟩ (.int .i64 x)).heap[b]? = w.heap[b]? := fun b hb => Ac _ _ _ _ hb
 refine ⟨?_, ?_, fun hn => ?_, fun k hk => ?_, I.far, I.base⟩
 ·rw [Ak _ _ I.hd]
  rfl
 ·obtain ⟨arr, h1, h2⟩ := I.cs
  exact ⟨arr, (ho cg (Ne.symm b3)).trans h1, h2⟩
 ·obtain ⟨e, arr, h1, h2⟩ := I.ts hn
  exact ⟨e, arr, (ho tb (Ne.symm (b4 hn).2.1)).trans h1, h2⟩
 ·have R := I.rows k hk
  exact R.same (fun b hb _ => ho b (by omega)) fun b hb => ho b (I.far k hk b hb).1
theorem M8.ccell (I : M8 a0 M cg cc tb tc n m ta S T w) {i : Nat} (hi : i < m) : w.cell? ⟨cg, i, none⟩ = some (.int .i64 (S.w i)) := by
 obtain ⟨arr, h1, h2⟩ := I.cs
 exact (Ad h1 _).trans (h2 i hi)
theorem M8.cfrz (I : M8 a0 M cg cc tb tc n m ta S T w) (q : Nat) : w.frozen? ⟨cg, q, none⟩ = false := by
 obtain ⟨arr, h1, _⟩ := I.cs
 exact An h1 q
theorem M8.putC (I : M8 a0 M cg cc tb tc n m ta S T w) {i : Nat} (hi : i < m) (x : Int) : M8 a0 M cg cc tb tc n m ta (Dj S i x) T (w.setCell ⟨cg, i, none⟩ (.int .i64 x)) := by
 obtain ⟨b1, b2, b3, b4⟩ := I.base
 have ho : ∀ b, b ≠ cg -> (w.setCell ⟨cg, i, none⟩ (.int .i64 x)).heap[b]? = w.heap[b]? := fun b hb => Ac _ _ _ _ hb
 refine ⟨(ho M b3).trans I.hd, ?_, fun hn => ?_, fun k hk => ?_, I.far, I.base⟩
 ·obtain ⟨arr, h1, h2⟩ := I.cs
  refine ⟨_, Ak _ _ h1, fun k hk => ?_⟩
  show _ = some (Value.int .i64 (upd S.w i x k))
  by_cases e : k = i
  ·subst e
   rw [upd_same]
   exact Array.getElem?_setIfInBounds_self_of_lt (Array.getElem?_eq_some_iff.1 (h2 k hk)).1
  ·rw [upd_ne _ _ e, Array.getElem?_setIfInBounds_ne (by omega)]
   exact h2 k hk
 ·obtain ⟨e, arr, h1, h2⟩ := I.ts hn
  exact ⟨e, arr, (ho tb (Ne.symm (b4 hn).2.2)).trans h1, h2⟩
 ·have R := I.rows k hk
  exact R.same (fun b hb _ => ho b (by omega)) fun b hb => ho b (I.far k hk b hb).2.1
theorem M8.put' (I : M8 a0 M cg cc tb tc n m ta S T w) {i : Nat} (hi : i < n) {j : Nat} {v : Value} {t : R8} (hc : t.cells = (T i).cells.set j v) (hj : j < 8) (w1 : World) (h1 : ∀ b, b < w.heap.size -> ¬ (T i).own b -> w1.heap[b]? = w.heap[b]?)
  (hr : t.Rows a0 w1) (hf : ∀ b, t.own b -> (T i).own b ∨ w.heap.size <= b) : M8 a0 M cg cc tb tc n m ta S (upd T i t) (w1.setCell ⟨tb, i * 8 + j, none⟩ v) := by
 obtain ⟨b1, b2, b3, b4⟩ := I.base
 obtain ⟨b5, b6, b7⟩ := b4 (by omega)
 obtain ⟨l1, l2, l3⟩ := I.lt
 have l3 := l3 (by omega)
 have hns : ∀ {b}, b = M ∨ b = cg ∨ b = tb -> ¬ (T i).own b := fun hb ho => by
  obtain ⟨e1, e2, e3, _⟩ := I.far i hi _ ho
  rcases hb with h | h | h
  ·exact e1 h
  ·exact e2 h
  ·exact e3 h
 have ho : ∀ b, b ≠ tb -> (w1.setCell ⟨tb, i * 8 + j, none⟩ v).heap[b]? = w1.heap[b]? := fun b hb => Ac _ _ _ _ hb
 have hfar : ∀ b, t.own b -> b ≠ M /\ b ≠ cg /\ b ≠ tb /\ ∀ k, k < n -> k ≠ i -> ¬ (T k).own b := fun b hb => by
  rcases hf b hb with h | h
  ·exact I.far i hi b h
  ·exact ⟨by omega, by omega, by omega, fun k hk _ hk' => by have := ((I.rows k hk).low hk').2; omega⟩
 refine ⟨(ho M b6).trans ((h1 M l1 (hns (.inl rfl))).trans I.hd), ?_, fun hn => ?_, fun k hk => ?_, fun k hk b hb => ?_, I.base⟩
 ·obtain ⟨arr, h2, h3⟩ := I.cs
  exact ⟨arr, (ho cg b7).trans ((h1 cg l2 (hns (.inr (.inl rfl)))).trans h2), h3⟩
 ·obtain ⟨e, arr, h2, h3, h4, h5, h6⟩ := I.ts hn
  refine ⟨e, _, Ak _ _ ((h1 tb l3 (hns (.inr (.inr rfl)))).trans h2), by simpa using h3, h4, h5, fun k hk q x hx => ?_⟩
  by_cases e : k = i
  ·subst e
   rw [upd_same, hc] at hx
   by_cases eq : q = j
   ·subst eq
    rw [List.getElem?_set_self (by simpa [R8.cells] using hj)] at hx
    cases hx
    exact Array.getElem?_setIfInBounds_self_of_lt (by rw [h3]; have : (k + 1) * 8 <= tc * 8 := Nat.mul_le_mul_right 8 (by omega); omega)
   ·rw [List.getElem?_set_ne (by omega)] at hx
    rw [Array.getElem?_setIfInBounds_ne (by omega)]
    exact h6 k hk q x hx
  ·rw [upd_ne _ _ e] at hx
   have hq : q < 8 := by have := (List.getElem?_eq_some_iff.1 hx).1; simpa [R8.cells] using this
   rw [Array.getElem?_setIfInBounds_ne (by
    rcases Nat.lt_or_gt_of_ne e with h | h
    ·have : (k + 1) * 8 <= i * 8 := Nat.mul_le_mul_right 8 h
     omega
    ·have : (i + 1) * 8 <= k * 8 := Nat.mul_le_mul_right 8 h
     omega)]
   exact h6 k hk q x hx
 ·by_cases e : k = i
  ·subst e
   rw [upd_same]
   exact hr.same (fun b hb _ => ho b (by omega)) fun b hb => ho b (hfar b hb).2.2.1
  ·rw [upd_ne _ _ e]
   have R := I.rows k hk
   exact R.same (fun b hb hw => (ho b (by omega)).trans (h1 b hw fun h => by have := ((I.rows i hi).low h).1; omega)) fun b hb => (ho b (I.far k hk b hb).2.2.1).trans (h1 b (R.low hb).2 ((I.far k hk b hb).2.2.2 i hi (Ne.symm e)))
 ·by_cases e : k = i
  ·subst e
   rw [upd_same] at hb
   obtain ⟨e1, e2, e3, e4⟩ := hfar b hb
   refine ⟨e1, e2, e3, fun q hq hqk => ?_⟩
   rw [upd_ne _ _ hqk]
   exact e4 q hq hqk
  ·rw [upd_ne _ _ e] at hb
   obtain ⟨e1, e2, e3, e4⟩ := I.far k hk b hb
   refine ⟨e1, e2, e3, fun q hq hqk => ?_⟩
   by_cases eq : q = i
   ·subst eq
    rw [upd_same]
    exact fun h => (hfar b h).2.2.2 k hk e hb
   ·rw [upd_ne _ _ eq]
    exact e4 q hq hqk
theorem M8.put (I : M8 a0 M cg cc tb tc n m ta S T w) {i : Nat} (hi : i < n) {j : Nat} {v : Value} {t : R8} (hc : t.cells = (T i).cells.set j v) (hj : j < 8) (h1 : t.ov = (T i).ov /\ t.ops = (T i).ops /\ t.av = (T i).av /\ t.ans = (T i).ans /\ t.sv = (T i).sv /\ t.seen = (T i).seen /\ t.live = (T i).live /\ t.ownA = (T i).ownA) : M8 a0 M cg cc tb tc n m ta S (upd T i t) (w.setCell ⟨tb, i * 8 + j, none⟩ v) := by
 obtain ⟨e1, e2, e3, e4, e5, e6, e7, e8⟩ := h1
 have R := I.rows i hi
 refine I.put' hi hc hj w (fun _ _ _ => rfl) ⟨?_, ?_, ?_, ?_, ?_⟩ fun b hb => .inl ?_
 ·rw [e1, e2]; exact R.rO
 ·rw [e3, e4, e8]; exact R.rA
 ·rw [e5, e6, e7]; exact R.rS
 ·rw [e5, e7, e8]; exact R.ne
 ·rw [e8]; exact R.lo
 ·unfold R8.own at hb ⊢
  rw [e5, e7, e8] at hb
  exact hb
end
end
section
def No (M cg tb n : Nat) (T : Nat -> R8) (b : Nat) : Prop := b = M ∨ b = cg ∨ b = tb ∨ ∃ k, k < n /\ (T k).own b
structure Got (M cg tb n : Nat) (T T' : Nat -> R8) (w w' : World) : Prop where
 chg : Chg (No M cg tb n T) w w'
 own : ∀ b, No M cg tb n T' b -> No M cg tb n T b ∨ w.heap.size <= b
theorem Got.trans {M cg tb n : Nat} {T T1 T2 : Nat -> R8} {w w1 w2 : World} (h1 : Got M cg tb n T T1 w w1) (h2 : Got M cg tb n T1 T2 w1 w2) : Got M cg tb n T T2 w w2 :=
 ⟨h1.chg.trans h2.chg fun b hb h => (h1.own b h).resolve_right (by omega), fun b h => (h2.own b h).elim (h1.own b) fun h => .inr (Nat.le_trans h1.chg.size h)⟩
theorem De {M cg tb n i : Nat} {T : Nat -> R8} {t : R8} {s : Nat} (hi : i < n) (h : ∀ b, t.own b -> (T i).own b ∨ s <= b) : ∀ b, No M cg tb n (upd T i t) b -> No M cg tb n T b ∨ s <= b := fun b hb => by
 rcases hb with hb | hb | hb | ⟨k, hk, hb⟩
 ·exact .inl (.inl hb)
 ·exact .inl (.inr (.inl hb))
 ·exact .inl (.inr (.inr (.inl hb)))
 ·by_cases e : k = i
  ·subst e
   rw [upd_same] at hb
   exact (h b hb).imp (fun h => .inr (.inr (.inr ⟨k, hk, h⟩))) id
  ·rw [upd_ne _ _ e] at hb
   exact .inl (.inr (.inr (.inr ⟨k, hk, hb⟩)))
theorem Bc {α : Type} (f : Nat -> α) (i : Nat) (x y : α) : upd (upd f i x) i y = upd f i y := by
 funext k
 by_cases h : k = i
 ·subst h; rw [upd_same, upd_same]
 ·rw [upd_ne _ _ h, upd_ne _ _ h, upd_ne _ _ h]
structure AppR (a0 : Nat) (w1 : World) (a : Ans) (sl hd : Value) (z : List (Ans × Value)) (k gb gcap : Nat) (w3 : World) : Prop where
 own : w3.ownsRow a0 44 3 (.slice (some ⟨gb, 0, none⟩) (k + 1) gcap) (k + 1) (Db z ++ [.bool a.ok, .int .i64 a.n, sl])
 grown : (Eu w1 a sl).grownBy w3 hd.ownBlock
 hat : hd.ownBlock = some gb ∨ gb = (Eu w1 a sl).heap.size
 hlt : gb < w3.heap.size
noncomputable def reg73_0 := rk Try.f73.body 0
noncomputable def reg73_1 := rk Try.f73.body 1
theorem size73_1 : reg73_1.size = 19 := by kernel_rfl
noncomputable def reg73_2 := rk Try.f73.body 2
theorem size73_2 : reg73_2.size = 17 := by kernel_rfl
noncomputable def reg73_3 := rk Try.f73.body 3
theorem z73 : reg73_0.size = 1 /\ reg73_1.size = 19 /\ reg73_2.size = 17 /\ reg73_3.size = 8 := by and_intros <;> kernel_rfl
theorem code73_is : Try.f73.body = some (.seq (.region 0 reg73_0 false) (.seq (.region 1 reg73_1 true) (.seq (.region 2 reg73_2 true) (.region 3 reg73_3 false)))) := by kernel_rfl
section
variable {a0 M cg cc tb tc n m : Nat} {ta : Option Addr} {S : Sq} {T : Nat -> R8}
theorem Om {main : Bool} {i : Nat} (hi : i < n) (a : Ans) (sl : Value) (w : World) (hls : LsAt a0 (T i).ownA sl a.l w) (I : M8 a0 M cg cc tb tc n m ta S T w) (hn : n <= 64) (ha0 : a0 <= w.heap.size) (hl : (T i).ans.length <= 65536) (hk : (T i).at' <= 65536) :
  CallW Try.prog main (fun _ => none) 73 #[.pointer (some ⟨M, 0, none⟩), .int .i64 i, Bw a sl] w (fun v w' => v = .tuple #[] /\ ∃ av oA, M8 a0 M cg cc tb tc n m ta S (upd T i { T i with av := av, ans := (T i).ans ++ [a], at' := (T i).at' + 1, pc := 0, ownA := oA }) w' /\ Got M cg tb n T (upd T i { T i with av := av, ans := (T i).ans ++ [a], at' := (T i).at' + 1, pc := 0, ownA := oA }) w w') := by
 intro c cs
 obtain ⟨fsA, huA⟩ := Cf 44 (by kernel_rfl)
 obtain ⟨sla, slc, rfl, hln, hlo⟩ := id hls
 simp only [Bw]
 have hi0 : (0 : Int) <= i := by omega
 have hi1 : decide ((i : Int) < n) = true := by simp; omega
 have hi3 : decide (i < n) = true := by simp; omega
 have hi4 : (i : Int) < n := by omega
 have hw1 : IntKind.wrap .i64 (((T i).at' : Int) + 1) = ((T i).at' : Int) + 1 := by rw [IntKind.wrap_i64]; omega
 obtain ⟨bb1, bb2, bb3, bb4⟩ := I.base
 obtain ⟨bb5, bb6, bb7⟩ := bb4 (by omega)
 obtain ⟨ll1, ll2, ll3⟩ := I.lt
 have ll3 := ll3 (by omega)
 rw [enter_at _ Try.func73 code73_is]
 simp only [Try.ntmps73, ez, Nat.reduceAdd, Nat.reduceSub]
 refine Aa z73 ?_
 (refine Walk.oa ?_; try walk_nrm)
 have s0 : (w.alloc (.cells #[.bool a.ok, .int .i64 a.n, .slice sla a.l.length slc] 44)).heap.size = w.heap.size + 1 := by simp
 have o0 : ∀ x, x < w.heap.size -> (w.alloc (.cells #[.bool a.ok, .int .i64 a.n, .slice sla a.l.length slc] 44)).heap[x]? = w.heap[x]? := fun x hx => Ab _ _ hx
 have d0 := heap_alloc_new w (.cells #[.bool a.ok, .int .i64 a.n, .slice sla a.l.length slc] 44)
 have I0 := I.same o0
 generalize hT : w.heap.size = Zs at *
 generalize hw0 : w.alloc (.cells #[.bool a.ok, .int .i64 a.n, .slice sla a.l.length slc] 44) = w0 at *
 replace s0 : Zs + 1 <= w0.heap.size /\ w0.heap.size <= Zs + 1 := by omega
 have R0 := I0.rows i hi
 obtain ⟨ava, avc, z, hz, hav0, hrow, hP, hL⟩ := R0.rA
 clear hav0 ava avc
 have hl0 := R0.lo
 have hlw : ∀ b, (T i).ownA b -> b < Zs := fun b hb => by have := ((I.rows i hi).lo b hb).2; omega
 have c1 : w0.cell? ⟨M, 2, none⟩ = some (.slice (some ⟨tb, 0, none⟩) n tc) := I0.cT (by omega)
 have c2 : w0.cell? ⟨tb, i * 8 + 1, none⟩ = some (T i).av := I0.tcell hi rfl
 have hsz1 : w0.heap.size + 1 <= (Eu w0 a (.slice sla a.l.length slc)).heap.size /\ (Eu w0 a (.slice sla a.l.length slc)).heap.size <= w0.heap.size + 1 := by simp [Eu]
 have hO1 : ∀ x, x < w0.heap.size -> (Eu w0 a (.slice sla a.l.length slc)).heap[x]? = w0.heap[x]? := fun x hx => Ab _ _ hx
 have hown' : (Eu w0 a (.slice sla a.l.length slc)).ownsRow a0 44 3 (T i).av (T i).ans.length (Db z) := Aw hrow fun g hg => hO1 g (hrow.lt g hg).2
 have hnews : ∀ (j : Nat) (u : Value), ([.bool a.ok, .int .i64 a.n, .slice sla a.l.length slc] : List Value)[j]? = some u -> (Eu w0 a (.slice sla a.l.length slc)).cell? ((⟨w0.heap.size, 0, none⟩ : Addr).add j) = some u := fun j u hu => by
  rw [Bj, Nat.zero_add]
  refine (Ad (heap_alloc_new _ _) j).trans ?_
  simpa using hu
 have hnM : ∀ g, (T i).av.ownBlock = some g -> g ≠ M /\ g ≠ tb := fun g hg => by
  obtain ⟨e1, e2, e3, _⟩ := I.far i hi g (.inl (hP g hg))
  exact ⟨e1, e3⟩
 have hnT : ∀ g, (T i).av.ownBlock = some g -> g ≠ Zs := fun g hg => by have := ((I.rows i hi).lo g (hP g hg)).2; omega
 have hfar : ∀ (x : Nat) (w2 : World), x < w0.heap.size -> (∀ g, (T i).av.ownBlock = some g -> g ≠ x) -> (Eu w0 a (.slice sla a.l.length slc)).grownBy w2 (T i).av.ownBlock -> w2.heap[x]? = w0.heap[x]? := fun x w2 hx hne hg => (hg.block x (by omega) (fun e => hne x e.symm rfl)).trans (hO1 x hx)
 have zT : ∀ x : World, x.heap[Zs]? = w0.heap[Zs]? -> ∀ (j : Nat) (v : Value), ([.bool a.ok, .int .i64 a.n, .slice sla a.l.length slc] : List Value)[j]? = some v -> x.cell? ⟨Zs, 0 + j, none⟩ = some v := fun x hx j v hv => by
  rw [Nat.zero_add, Ad (hx.trans d0)]
  simpa using hv
 refine Aa z73 ?_
 refine Fe (iA := 14) (iB := 15) (w1 := Eu w0 a (.slice sla a.l.length slc)) (vA := .slice (some ⟨w0.heap.size, 0, none⟩) 1 1) (Z := fun x => x.cell? ⟨M, 2, none⟩ = some (.slice (some ⟨tb, 0, none⟩) n tc) /\ x.cell? ⟨tb, i * 8 + 1, none⟩ = some (T i).av /\ x.heap[Zs]? = w0.heap[Zs]?)
  (fun v w2 => ∃ g cap, v = .slice (some ⟨g, 0, none⟩) ((T i).ans.length + 1) cap /\ AppR a0 w0 a (.slice sla a.l.length slc) (T i).av z (T i).ans.length g cap w2) (by kernel_rfl) size73_1 (by kernel_rfl) (by kernel_rfl) (by kernel_rfl) (by kernel_rfl) (by decide) Ao Ao ⟨c1, c2, rfl⟩ ⟨Ag _ _ c1, Ag _ _ c2, hO1 Zs (by omega)⟩ ?_ ?_
 ·rintro v w2 ⟨g, cap, _, hA⟩
  exact ⟨(World.cell?_of_block (a := ⟨M, 2, none⟩) (hfar M w2 (by omega) (fun g hg => (hnM g hg).1) hA.grown)).trans c1, (World.cell?_of_block (a := ⟨tb, i * 8 + 1, none⟩) (hfar tb w2 (by omega) (fun g hg => (hnM g hg).2) hA.grown)).trans c2, hfar Zs w2 (by omega) hnT hA.grown⟩
 rw [show List.filter (Cg 14 15) (List.range 18) = [0, 1, 2, 3, 4, 5, 6, 7, 8, 9, 10, 11, 12, 13, 16, 17] from by decide]
 repeat (first | (refine Ix Ao (by rfl) (fun wz hz dd e he => ?_) ?_; (· (obtain ⟨z1, z2, z3⟩ := hz; simp [go_sem, *] at he; try (subst he; exact Cc _ _))); apply Exists.intro; apply And.intro; (· (intro wz hz dd K hK; obtain ⟨z1, z2, z3⟩ := hz; go_simp; exact hK))) | (refine Bm Ao (by rfl) ?_; walk_nrm))
 refine Cm.loadS 44 (.tmp 5) Ao (by rfl) rfl Zs 0 [.bool a.ok, .int .i64 a.n, .slice sla a.l.length slc] (.struct fsA) rfl (fun x hx => zT x hx.2.2) huA rfl (by kernel_rfl) ?_
 walk_nrm
 repeat (first | (refine Ix Ao (by rfl) (fun wz hz dd e he => ?_) ?_; (· (obtain ⟨z1, z2, z3⟩ := hz; simp [go_sem, *] at he; try (subst he; exact Cc _ _))); apply Exists.intro; apply And.intro; (· (intro wz hz dd K hK; obtain ⟨z1, z2, z3⟩ := hz; go_simp; exact hK))) | (refine Bm Ao (by rfl) ?_; walk_nrm))
 refine Cm.done ⟨?_, ?_, ?_⟩
 ·intro x hev rest hr'
  have e1 : x.tmps[19]?.getD undef = .agg #[.bool a.ok, .int .i64 a.n, .slice sla a.l.length slc] := by simpa [Act.eval] using hev (.tmp 19) (by simp [Op.operands])
  clear hev
  (refine Walk.oa ?_; try walk_nrm)
  exact hr' _ _ ⟨rfl, _, rfl⟩
 ·intro x hev rest hr'
  have e1 : x.eval (.tmp 18) = (T i).av := by simpa [Act.eval] using hev (.tmp 18) (by simp [Op.operands, Call.operands])
  have e2 : x.eval (.tmp 20) = .slice (some ⟨w0.heap.size, 0, none⟩) 1 1 := by simpa [Act.eval] using hev (.tmp 20) (by simp [Op.operands, Call.operands])
  have hiA := Option.some_get (show (Try.prog.info? 44).isSome = true by kernel_rfl)
  refine Walk.append (.tmp 18) (.tmp 20) 42 Ao (by rfl) (by decide) rfl a0 44 _ (.agg #[.bool false, .int .i64 0, .slice none 0 0]) 3 40 (by kernel_rfl) hiA.symm (by rfl) (by rfl) (by rfl) (by rfl) (by decide) (T i).av (T i).ans.length (Db z) e1 hown' ⟨w0.heap.size, 0, none⟩ 1 1 [.bool a.ok, .int .i64 a.n, .slice sla a.l.length slc] e2 (by rfl) hnews (by simp [Value.oneCell']) (by decide) (by simp [maxLen]; omega) (by omega) (by omega) (fun g _ => Oi g) (fun g cap w3 hown hg hat hlt => ?_)
  exact hr' _ _ ⟨_, w3, ⟨g, cap, rfl, hown, hg, hat, hlt⟩, rfl, w3.drawn, rfl⟩
 rintro v w2 ⟨g, cap, rfl, hA⟩ rest hr'
 have hb2 : w2.heap[tb]? = w0.heap[tb]? := hfar tb w2 (by omega) (fun g hg => (hnM g hg).2) hA.grown
 have h12 : w2.cell? ⟨tb, i * 8 + 1, none⟩ = some (T i).av := (World.cell?_of_block (a := ⟨tb, i * 8 + 1, none⟩) hb2).trans c2
 have z12 : w2.frozen? ⟨tb, i * 8 + 1, none⟩ = false := by
  obtain ⟨_, arr, h1, _⟩ := I0.ts (by omega)
  exact An (hb2.trans h1) _
 have hgs := hA.grown.size
 have hlen : ((T i).ans ++ [a]).length = (T i).ans.length + 1 := by simp
 obtain ⟨oA, Ao⟩ : ∃ oA : Nat -> Prop, ∀ b, oA b ↔ ((T i).ownA b ∨ b = g) := ⟨_, fun _ => Iff.rfl⟩
 have hgb : (T i).ownA g ∨ w0.heap.size <= g := by
  rcases hA.hat with h | h
  ·exact .inl (hP g h)
  ·exact .inr (by omega)
 have hgo : ∀ b, ({ T i with av := .slice (some ⟨g, 0, none⟩) ((T i).ans.length + 1) cap, ans := (T i).ans ++ [a], ownA := oA } : R8).own b -> (T i).own b ∨ w0.heap.size <= b := fun b hb => by
  rcases hb with hb | hb
  ·rcases (Ao b).1 hb with hb | rfl
   ·exact .inl (.inl hb)
   ·exact hgb.imp (fun h => .inl h) id
  ·exact .inl (.inr hb)
 have hlist : ∀ (sl : Value) (l : List Int), LsAt a0 (T i).ownA sl l w -> LsAt a0 oA sl l w2 := fun sl l h => (h.far (w' := w2) fun b cur fr hb hc => by
  have hbl := (hl0 b hb).2
  rw [<- o0 b (hlw b hb)] at hc
  refine (hfar b w2 hbl (fun g' hg' e => ?_) hA.grown).trans (o0 b (hlw b hb))
  subst e
  rcases hrow.2 with ⟨e, _⟩ | ⟨g2, cap2, cur2, e, _, hh, _⟩
  ·rw [e] at hg'; cases hg'
  ·rw [e] at hg'
   have hg' : g2 = g' := Option.some.inj hg'
   subst hg'
   rw [hc] at hh
   simp at hh).imp fun b hb => (Ao b).2 (.inl hb)
 have I3 : M8 a0 M cg cc tb tc n m ta S (upd T i { T i with av := .slice (some ⟨g, 0, none⟩) ((T i).ans.length + 1) cap, ans := (T i).ans ++ [a], ownA := oA }) (w2.setCell ⟨tb, i * 8 + 1, none⟩ (.slice (some ⟨g, 0, none⟩) ((T i).ans.length + 1) cap)) := by
  refine I0.put' hi rfl (by decide) w2 (fun b hb hn => hfar b w2 hb (fun g hg e => hn (.inl (hP _ (by rw [<- e]; exact hg)))) hA.grown) ⟨?_, ?_, fun hlv => ?_, fun hlv b hb hob => ?_, fun b hob => ?_⟩ hgo
  ·exact R0.rO.same fun b hb hw => hfar b w2 hw (fun g hg e => by have := (hrow.lt g hg).1; omega) hA.grown
  ·refine ⟨some ⟨g, 0, none⟩, cap, z ++ [(a, .slice sla a.l.length slc)], by simp [hz], by rw [hlen], ?_, fun b hb => (Ao b).2 (.inr ?_), fun p hp => ?_⟩
   ·show w2.ownsRow a0 _ 3 _ ((T i).ans ++ [a]).length _
    rw [hlen, Mb]
    exact hA.own
   ·simp only [Value.ownBlock, Option.some.injEq] at hb
    exact hb.symm
   ·rcases List.mem_append.1 hp with hp | hp
    ·have := hL p hp
     refine hlist p.2 p.1.l (this.far (w' := w) fun b cur fr hb hc => ?_)
     exact (o0 b (hlw b hb)).symm
    ·obtain rfl := List.mem_singleton.1 hp
     exact hlist _ _ hls
  ·exact Aw (R0.rS hlv) fun b hb => hfar b w2 ((R0.rS hlv).lt b hb).2 (fun g hg e => R0.ne hlv b hb (hP b (by rw [<- e]; exact hg))) hA.grown
  ·rcases (Ao b).1 hob with h | rfl
   ·exact R0.ne hlv b hb h
   ·rcases hgb with h | h
    ·exact R0.ne hlv b hb h
    ·have := ((R0.rS hlv).lt b hb).2; omega
  ·rcases (Ao b).1 hob with h | rfl
   ·exact ⟨(hl0 b h).1, by have := (hl0 b h).2; omega⟩
   ·have hg1 := hA.hlt
    rcases hgb with h | h
    ·exact ⟨(hl0 b h).1, hg1⟩
    ·exact ⟨by omega, hg1⟩
 have hC3 : Got M cg tb n T (upd T i { T i with av := .slice (some ⟨g, 0, none⟩) ((T i).ans.length + 1) cap, ans := (T i).ans ++ [a], ownA := oA }) w (w2.setCell ⟨tb, i * 8 + 1, none⟩ (.slice (some ⟨g, 0, none⟩) ((T i).ans.length + 1) cap)) := by
  refine ⟨⟨by rw [Ai]; omega, fun x hx hn => ?_⟩, fun b hb => (De hi hgo b hb).imp id fun h => by omega⟩
  rw [Ac _ _ _ _ (fun e => hn (.inr (.inr (.inl e)))), hfar x w2 (by omega) (fun g hg e => hn (.inr (.inr (.inr ⟨i, hi, .inl (hP x (by rw [<- e]; exact hg))⟩)))) hA.grown, o0 x (by omega)]
 (have hfr := Jr tb (i * 8 + 1); refine Walk.os hfr h12 ?_; clear hfr; try walk_nrm)
 refine hr' _ _ ?_
 generalize w2.setCell ⟨tb, i * 8 + 1, none⟩ (.slice (some ⟨g, 0, none⟩) ((T i).ans.length + 1) cap) = w3 at *
 generalize hav : Value.slice (some ⟨g, 0, none⟩) ((T i).ans.length + 1) cap = av at *
 clear hA hgo hgb hlist Ao h12 z12 hb2 hfar hown' hnews hnM hnT zT hO1 c1 c2 R0 I0 d0 o0 hl0 hlw hL hP hrow hz
 have c1 : w3.cell? ⟨M, 2, none⟩ = some (.slice (some ⟨tb, 0, none⟩) n tc) := I3.cT (by omega)
 have c3 : w3.cell? ⟨tb, i * 8 + 3, none⟩ = some (.int .i64 (T i).at') := I3.tcell hi (by rw [upd_same]; rfl)
 have z3 := I3.tfrz hi (i * 8 + 3)
 have I4 := I3.put hi (j := 3) (v := .int .i64 (((T i).at' : Int) + 1)) (t := { T i with av := av, ans := (T i).ans ++ [a], at' := (T i).at' + 1, ownA := oA }) (by rw [upd_same]; rfl) (by decide) (by rw [upd_same]; exact ⟨rfl, rfl, rfl, rfl, rfl, rfl, rfl, rfl⟩)
 rw [Bc] at I4
 try walk_nrm
 refine Aa z73 ?_
 (refine Ci (by kernel_rfl) size73_2 (by kernel_rfl) (by kernel_rfl) (by kernel_rfl) (by decide) ?_; simp only [List.range, List.range.loop]; repeat (first | (refine Cm.oq ?_) | (refine Bm Ao (by rfl) ?_; walk_nrm)))
 refine Cm.done ?_
 intro rest hr
 (have hfr := Jr tb (i * 8 + 3); refine Walk.os hfr c3 ?_; clear hfr; try walk_nrm)
 refine hr _ _ ?_
 have s4 := Ai w3 ⟨tb, i * 8 + 3, none⟩ (.int .i64 (((T i).at' : Int) + 1))
 have o4 : ∀ x, x ≠ tb -> (w3.setCell ⟨tb, i * 8 + 3, none⟩ (.int .i64 (((T i).at' : Int) + 1))).heap[x]? = w3.heap[x]? := fun x hx => Ac _ _ _ _ hx
 generalize w3.setCell ⟨tb, i * 8 + 3, none⟩ (.int .i64 (((T i).at' : Int) + 1)) = w4 at *
 clear c1 c3 z3
 have c1 : w4.cell? ⟨M, 2, none⟩ = some (.slice (some ⟨tb, 0, none⟩) n tc) := I4.cT (by omega)
 have c3 : w4.cell? ⟨tb, i * 8 + 4, none⟩ = some (.int .i64 (T i).pc) := I4.tcell hi (by rw [upd_same]; rfl)
 have z3 := I4.tfrz hi (i * 8 + 4)
 have I5 := I4.put hi (j := 4) (v := .int .i64 0) (t := { T i with av := av, ans := (T i).ans ++ [a], at' := (T i).at' + 1, pc := 0, ownA := oA }) (by rw [upd_same]; rfl) (by decide) (by rw [upd_same]; exact ⟨rfl, rfl, rfl, rfl, rfl, rfl, rfl, rfl⟩)
 rw [Bc] at I5
 try walk_nrm
 refine Aa z73 ?_
 (have hfr := Jr tb (i * 8 + 4); refine Walk.os hfr c3 ?_; clear hfr; try walk_nrm)
 have s5 := Ai w4 ⟨tb, i * 8 + 4, none⟩ (.int .i64 0)
 have o5 : ∀ x, x ≠ tb -> (w4.setCell ⟨tb, i * 8 + 4, none⟩ (.int .i64 0)).heap[x]? = w4.heap[x]? := fun x hx => Ac _ _ _ _ hx
 generalize w4.setCell ⟨tb, i * 8 + 4, none⟩ (.int .i64 0) = w5 at *
 clear c1 c3 z3
 try walk_nrm
 refine Aa z73 ?_
 refine Av rfl rfl Try.func73 rfl (.stop fun d => ⟨_, ⟨rfl, av, oA, I5.same fun _ _ => rfl, ⟨⟨?_, fun x hx hn => ?_⟩, fun b hb => ?_⟩⟩, rfl⟩)
 ·show w.heap.size <= w5.heap.size
  have := hC3.chg.size
  omega
 ·show w5.heap[x]? = w.heap[x]?
  exact (o5 x fun e => hn (.inr (.inr (.inl e)))).trans ((o4 x fun e => hn (.inr (.inr (.inl e)))).trans (hC3.chg.same x hx hn))
 ·refine hC3.own b ?_
  rcases hb with hb | hb | hb | ⟨k, hk, hb⟩
  ·exact .inl hb
  ·exact .inr (.inl hb)
  ·exact .inr (.inr (.inl hb))
  ·refine .inr (.inr (.inr ⟨k, hk, ?_⟩))
   by_cases e : k = i
   ·subst e
    rw [upd_same] at hb ⊢
    exact hb
   ·rw [upd_ne _ _ e] at hb ⊢
    exact hb
end
end
section
theorem R8.Rows.ovS {t : R8} {a0 : Nat} {w : World} (h : t.Rows a0 w) : ∃ oa oc, t.ov = .slice oa t.ops.length oc := by
 obtain ⟨oa, oc, e, _⟩ := h.rO
 exact ⟨oa, oc, e⟩
theorem R8.Rows.op {t : R8} {a0 : Nat} {w : World} (h : t.Rows a0 w) {k : Nat} {o : OpV} (ho : t.ops[k]? = some o) : ∃ g off oc, t.ov = .slice (some ⟨g, off, none⟩) t.ops.length oc /\ g < a0 /\ g < w.heap.size /\ ∀ (j : Nat) (v : Value), ([.int .i64 o.k, .int .i64 o.a, .int .i64 o.b, .int .i64 o.c] : List Value)[j]? = some v -> w.cell? ⟨g, off + k * 4 + j, none⟩ = some v := by
 obtain ⟨oa, oc, e, h⟩ := h.rO
 obtain ⟨b, off, rfl, h1, h2, h3⟩ := h k o ho
 exact ⟨b, off, oc, e, h1, h2, h3⟩
def Ft (o : OpV) : Prop := 1 <= o.k /\ o.k <= 5
noncomputable def reg70_0 := rk Try.f70.body 0
noncomputable def reg70_1 := rk Try.f70.body 1
noncomputable def reg70_2 := rk Try.f70.body 2
noncomputable def reg70_3 := rk Try.f70.body 3
noncomputable def reg70_4 := rk Try.f70.body 4
noncomputable def reg70_5 := rk Try.f70.body 5
theorem size70_5 : reg70_5.size = 10 := by kernel_rfl
noncomputable def reg70_6 := rk Try.f70.body 6
noncomputable def reg70_7 := rk Try.f70.body 7
noncomputable def reg70_8 := rk Try.f70.body 8
noncomputable def reg70_9 := rk Try.f70.body 9
theorem z70 : reg70_0.size = 1 /\ reg70_1.size = 8 /\ reg70_2.size = 4 /\ reg70_3.size = 8 /\ reg70_4.size = 8 /\ reg70_5.size = 10 /\ reg70_6.size = 3 /\ reg70_7.size = 8 /\ reg70_8.size = 3 /\ reg70_9.size = 8 := by and_intros <;> kernel_rfl
theorem code70_is : Try.f70.body = some (.seq (.region 0 reg70_0 false) (.seq (.seq (.region 1 reg70_1 false) (.cond (.tmp 13 ) (.seq (.region 2 reg70_2 false) (.ret)) (.skip))) (.seq (.region 3 reg70_3 false) (.seq (.region 4 reg70_4 false) (.seq (.region 5 reg70_5 true) (.seq (.seq (.region 6 reg70_6 false) (.cond (.tmp 43 ) (.region 7 reg70_7 false) (.skip))) (.seq (.region 8 reg70_8 false) (.cond (.tmp 53 ) (.region 9 reg70_9 false) (.skip))))))))) := by kernel_rfl
noncomputable def reg89_0 := rk Try.f89.body 0
theorem size89_0 : reg89_0.size = 17 := by kernel_rfl
noncomputable def reg89_1 := rk Try.f89.body 1
noncomputable def reg89_2 := rk Try.f89.body 2
noncomputable def reg89_3 := rk Try.f89.body 3
noncomputable def reg89_4 := rk Try.f89.body 4
theorem z89 : reg89_0.size = 17 /\ reg89_1.size = 8 /\ reg89_2.size = 8 /\ reg89_3.size = 9 /\ reg89_4.size = 4 := by and_intros <;> kernel_rfl
theorem code89_is : Try.f89.body = some (.seq (.region 0 reg89_0 true) (.seq (.region 1 reg89_1 false) (.seq (.region 2 reg89_2 false) (.seq (.region 3 reg89_3 false) (.cond (.tmp 42 ) (.region 4 reg89_4 false) (.skip)))))) := by kernel_rfl
section
variable {a0 M cg cc tb tc n m : Nat} {ta : Option Addr} {S : Sq} {T : Nat -> R8}
def R8.told (t : R8) (a : Ans) (av : Value) (oA : Nat -> Prop) : R8 := { t with av := av, ans := t.ans ++ [a], at' := t.at' + 1, pc := 0, ownA := oA }
def R8.first (t : R8) (tr : Int) : R8 := { t with pc := 1, sv := .slice none 0 0, seen := [], live := True, tr := tr }
theorem begin_no {main : Bool} {i : Nat} (hi : i < n) (o : OpV) (hk : ¬ Ft o) (w : World) (I : M8 a0 M cg cc tb tc n m ta S T w) (hn : n <= 64) (ha0 : a0 <= w.heap.size) (hl : (T i).ans.length <= 65536) (hat : (T i).at' <= 65536) :
  CallW Try.prog main (fun _ => none) 70 #[.pointer (some ⟨M, 0, none⟩), .int .i64 i, .agg #[.int .i64 o.k, .int .i64 o.a, .int .i64 o.b, .int .i64 o.c]] w (fun v w' => v = .tuple #[] /\ ∃ av oA, M8 a0 M cg cc tb tc n m ta S (upd T i ((T i).told Fw av oA)) w' /\ Got M cg tb n T (upd T i ((T i).told Fw av oA)) w w') := by
 intro c cs
 obtain ⟨k, oa, ob, oc⟩ := o
 unfold Ft at hk
 dsimp only at hk ⊢
 rw [enter_at _ Try.func70 code70_is]
 simp only [Try.ntmps70, ez, Nat.reduceAdd, Nat.reduceSub]
 refine Aa z70 ?_
 (refine Walk.oa ?_; try walk_nrm)
 have s0 : (w.alloc (.cells #[.int .i64 k, .int .i64 oa, .int .i64 ob, .int .i64 oc] 47)).heap.size = w.heap.size + 1 := by simp
 have o0 : ∀ x, x < w.heap.size -> (w.alloc (.cells #[.int .i64 k, .int .i64 oa, .int .i64 ob, .int .i64 oc] 47)).heap[x]? = w.heap[x]? := fun x hx => Ab _ _ hx
 have d0 := (Ad (heap_alloc_new w (.cells #[.int .i64 k, .int .i64 oa, .int .i64 ob, .int .i64 oc] 47)) 0).trans rfl
 have I0 := I.same o0
 generalize hT : w.heap.size = Zs at *
 generalize hw0 : w.alloc (.cells #[.int .i64 k, .int .i64 oa, .int .i64 ob, .int .i64 oc] 47) = w0 at *
 have he := Om (main := main) hi Fw (.slice none 0 0) w0 (LsAt.nil _ _ _) I0 hn (by omega) hl hat
 simp only [Bw, Fw] at he
 have haN : Fw = ⟨false, 0, []⟩ := rfl
 have hG : ∀ {T' : Nat -> R8} {w' : World}, Got M cg tb n T T' w0 w' -> Got M cg tb n T T' w w' := fun {T' w'} h => ⟨⟨by have := h.chg.size; omega, fun b hb hn => (h.chg.same b (by omega) hn).trans (o0 b (by omega))⟩, fun b hb => (h.own b hb).imp id fun h => by omega⟩
 by_cases h1 : k < 1
 ·have hb0 : decide (k < 1) = true := by simp; omega
  refine Aa z70 ?_
  refine Ah (Post := fun v w' => v = .tuple #[] /\ ∃ av oA, M8 a0 M cg cc tb tc n m ta S (upd T i ((T i).told Fw av oA)) w' /\ Got M cg tb n T (upd T i ((T i).told Fw av oA)) w0 w') ?_ Ao (by rfl) (by decide) rfl Try.func73 (by kernel_rfl) (by rfl) ?_
  ·walk_nrm
   exact he
  rintro v w1 ⟨rfl, av, oA, I1, g1⟩
  walk_nrm
  refine Aa z70 ?_
  exact Av rfl rfl Try.func70 rfl (.stop fun d => ⟨_, ⟨rfl, av, oA, I1.same fun _ _ => rfl, ⟨(hG g1).chg.at d, (hG g1).own⟩⟩, rfl⟩)
 ·have hb0 : decide (k < 1) = false := by simp; omega
  have hb5 : decide (5 < k) = true := by simp; omega
  refine Aa z70 ?_
  refine Ah (Post := fun v w' => v = .tuple #[] /\ ∃ av oA, M8 a0 M cg cc tb tc n m ta S (upd T i ((T i).told Fw av oA)) w' /\ Got M cg tb n T (upd T i ((T i).told Fw av oA)) w0 w') ?_ Ao (by rfl) (by decide) rfl Try.func73 (by kernel_rfl) (by rfl) ?_
  ·walk_nrm
   exact he
  rintro v w1 ⟨rfl, av, oA, I1, g1⟩
  walk_nrm
  refine Aa z70 ?_
  exact Av rfl rfl Try.func70 rfl (.stop fun d => ⟨_, ⟨rfl, av, oA, I1.same fun _ _ => rfl, ⟨(hG g1).chg.at d, (hG g1).own⟩⟩, rfl⟩)
theorem begin_yes {main : Bool} {i : Nat} (hi : i < n) (o : OpV) (hk : Ft o) (w : World) (I : M8 a0 M cg cc tb tc n m ta S T w) (hn : n <= 64) (ha0 : a0 <= w.heap.size) :
  CallW Try.prog main (fun _ => none) 70 #[.pointer (some ⟨M, 0, none⟩), .int .i64 i, .agg #[.int .i64 o.k, .int .i64 o.a, .int .i64 o.b, .int .i64 o.c]] w (fun v w' => v = .tuple #[] /\ M8 a0 M cg cc tb tc n m ta S (upd T i ((T i).first (Bv o.a : Nat))) w' /\ Got M cg tb n T (upd T i ((T i).first (Bv o.a : Nat))) w w') := by
 intro c cs
 obtain ⟨k, oa, ob, oc⟩ := o
 unfold Ft at hk
 dsimp only at hk ⊢
 have hb0 : decide (k < 1) = false := by simp; omega
 have hb5 : decide (5 < k) = false := by simp; omega
 have hi0 : (0 : Int) <= i := by omega
 have hi1 : decide ((i : Int) < n) = true := by simp; omega
 have hi3 : decide (i < n) = true := by simp; omega
 have hi4 : (i : Int) < n := by omega
 have ll3 := I.lt.2.2 (by omega)
 rw [enter_at _ Try.func70 code70_is]
 simp only [Try.ntmps70, ez, Nat.reduceAdd, Nat.reduceSub]
 refine Aa z70 ?_
 (refine Walk.oa ?_; try walk_nrm)
 have s0 : (w.alloc (.cells #[.int .i64 k, .int .i64 oa, .int .i64 ob, .int .i64 oc] 47)).heap.size = w.heap.size + 1 := by simp
 have o0 : ∀ x, x < w.heap.size -> (w.alloc (.cells #[.int .i64 k, .int .i64 oa, .int .i64 ob, .int .i64 oc] 47)).heap[x]? = w.heap[x]? := fun x hx => Ab _ _ hx
 have d0 := heap_alloc_new w (.cells #[.int .i64 k, .int .i64 oa, .int .i64 ob, .int .i64 oc] 47)
 have I0 := I.same o0
 generalize hT : w.heap.size = Zs at *
 generalize hw0 : w.alloc (.cells #[.int .i64 k, .int .i64 oa, .int .i64 ob, .int .i64 oc] 47) = w0 at *
 have e0 := (Ad d0 0).trans rfl
 have c1 : w0.cell? ⟨M, 2, none⟩ = some (.slice (some ⟨tb, 0, none⟩) n tc) := I0.cT (by omega)
 have c3 : w0.cell? ⟨tb, i * 8 + 4, none⟩ = some (.int .i64 (T i).pc) := I0.tcell hi (rfl)
 have z3 := I0.tfrz hi (i * 8 + 4)
 have I1 := I0.put hi (j := 4) (v := .int .i64 1) (t := { T i with pc := 1 }) rfl (by decide) ⟨rfl, rfl, rfl, rfl, rfl, rfl, rfl, rfl⟩
 refine Aa z70 ?_
 (have hfr := Jr tb (i * 8 + 4); refine Walk.os hfr c3 ?_; clear hfr; try walk_nrm)
 have s1 := Ai w0 ⟨tb, i * 8 + 4, none⟩ (.int .i64 1)
 have o1 : ∀ x, x ≠ tb -> (w0.setCell ⟨tb, i * 8 + 4, none⟩ (.int .i64 1)).heap[x]? = w0.heap[x]? := fun x hx => Ac _ _ _ _ hx
 have d1 := (o1 Zs (by omega)).trans d0
 generalize w0.setCell ⟨tb, i * 8 + 4, none⟩ (.int .i64 1) = w1 at *
 clear c1 c3 z3
 clear e0
 have c1 : w1.cell? ⟨M, 2, none⟩ = some (.slice (some ⟨tb, 0, none⟩) n tc) := I1.cT (by omega)
 have c3 : w1.cell? ⟨tb, i * 8 + 7, none⟩ = some ((T i).sv) := I1.tcell hi (by rw [upd_same]; rfl)
 have z3 := I1.tfrz hi (i * 8 + 7)
 have R1 := I1.rows i hi
 have I2 := I1.put' hi (j := 7) (v := .slice none 0 0) (t := { T i with pc := 1, sv := .slice none 0 0, seen := [], live := True }) (by rw [upd_same]; rfl) (by decide) w1 (fun _ _ _ => rfl) (by
  rw [upd_same] at R1
  exact ⟨R1.rO, R1.rA, fun _ => ⟨rfl, .inl ⟨rfl, rfl⟩⟩, fun _ b hb => (by cases hb), R1.lo⟩) (fun b hb => .inl (by
  rw [upd_same]
  rcases hb with hb | ⟨_, hb⟩
  ·exact .inl hb
  ·cases hb))
 rw [Bc] at I2
 try walk_nrm
 refine Aa z70 ?_
 (have hfr := Jr tb (i * 8 + 7); refine Walk.os hfr c3 ?_; clear hfr; try walk_nrm)
 have s2 := Ai w1 ⟨tb, i * 8 + 7, none⟩ (.slice none 0 0)
 have o2 : ∀ x, x ≠ tb -> (w1.setCell ⟨tb, i * 8 + 7, none⟩ (.slice none 0 0)).heap[x]? = w1.heap[x]? := fun x hx => Ac _ _ _ _ hx
 have d2 := (o2 Zs (by omega)).trans d1
 generalize w1.setCell ⟨tb, i * 8 + 7, none⟩ (.slice none 0 0) = w2 at *
 clear c1 c3 z3
 have e2 := (Ad d2 1).trans rfl
 have c1 : w2.cell? ⟨M, 2, none⟩ = some (.slice (some ⟨tb, 0, none⟩) n tc) := I2.cT (by omega)
 have c3 : w2.cell? ⟨tb, i * 8 + 5, none⟩ = some (.int .i64 (T i).tr) := I2.tcell hi (by rw [upd_same]; rfl)
 have z3 := I2.tfrz hi (i * 8 + 5)
 have I3 := I2.put hi (j := 5) (v := .int .i64 oa) (t := (T i).first oa) (by rw [upd_same]; rfl) (by decide) (by rw [upd_same]; exact ⟨rfl, rfl, rfl, rfl, rfl, rfl, rfl, rfl⟩)
 rw [Bc] at I3
 try walk_nrm
 refine Aa z70 ?_
 (refine Ci (by kernel_rfl) size70_5 (by kernel_rfl) (by kernel_rfl) (by kernel_rfl) (by decide) ?_; simp only [List.range, List.range.loop]; repeat (first | (refine Cm.oq ?_) | (refine Bm Ao (by rfl) ?_; walk_nrm)))
 refine Cm.done ?_
 intro rest hr
 (have hfr := Jr tb (i * 8 + 5); refine Walk.os hfr c3 ?_; clear hfr; try walk_nrm)
 refine hr _ _ ?_
 have s3 := Ai w2 ⟨tb, i * 8 + 5, none⟩ (.int .i64 oa)
 have o3 : ∀ x, x ≠ tb -> (w2.setCell ⟨tb, i * 8 + 5, none⟩ (.int .i64 oa)).heap[x]? = w2.heap[x]? := fun x hx => Ac _ _ _ _ hx
 have d3 := (o3 Zs (by omega)).trans d2
 generalize w2.setCell ⟨tb, i * 8 + 5, none⟩ (.int .i64 oa) = w3 at *
 clear c1 c3 z3
 clear e2
 have e3 := (Ad d3 1).trans rfl
 by_cases h1 : oa < 1
 ·have g1 : decide (oa < 1) = true := by simp; omega
  have g2 : decide (1024 < oa) = false := by simp; omega
  have hq : ((Bv oa : Nat) : Int) = 1 := by unfold Bv; omega
  rw [hq]
  have c1 : w3.cell? ⟨M, 2, none⟩ = some (.slice (some ⟨tb, 0, none⟩) n tc) := I3.cT (by omega)
  have c3 : w3.cell? ⟨tb, i * 8 + 5, none⟩ = some (.int .i64 oa) := I3.tcell hi (by rw [upd_same]; rfl)
  have z3 := I3.tfrz hi (i * 8 + 5)
  have I4 := I3.put hi (j := 5) (v := .int .i64 1) (t := (T i).first 1) (by rw [upd_same]; rfl) (by decide) (by rw [upd_same]; exact ⟨rfl, rfl, rfl, rfl, rfl, rfl, rfl, rfl⟩)
  rw [Bc] at I4
  try walk_nrm
  refine Aa z70 ?_
  (have hfr := Jr tb (i * 8 + 5); refine Walk.os hfr c3 ?_; clear hfr; try walk_nrm)
  have s4 := Ai w3 ⟨tb, i * 8 + 5, none⟩ (.int .i64 1)
  have o4 : ∀ x, x ≠ tb -> (w3.setCell ⟨tb, i * 8 + 5, none⟩ (.int .i64 1)).heap[x]? = w3.heap[x]? := fun x hx => Ac _ _ _ _ hx
  have d4 := (o4 Zs (by omega)).trans d3
  generalize w3.setCell ⟨tb, i * 8 + 5, none⟩ (.int .i64 1) = w4 at *
  clear c1 c3 z3
  clear e3
  have e4 := (Ad d4 1).trans rfl
  try walk_nrm
  refine Aa z70 ?_
  refine Av rfl rfl Try.func70 rfl (.stop fun d => ⟨_, ⟨rfl, I4.same fun _ _ => rfl, ⟨⟨?_, fun x hx hn => ?_⟩, fun b hb => De hi (fun b hb => .inl ?_) b hb⟩⟩, rfl⟩)
  ·show w.heap.size <= w4.heap.size
   omega
  ·show w4.heap[x]? = w.heap[x]?
   have hx' : x ≠ tb := fun e => hn (.inr (.inr (.inl e)))
   exact (o4 x hx').trans ((o3 x hx').trans ((o2 x hx').trans ((o1 x hx').trans (o0 x (by omega)))))
  ·rcases hb with hb | ⟨_, hb⟩
   ·exact .inl hb
   ·cases hb
 by_cases h2 : 1024 < oa
 ·have g1 : decide (oa < 1) = false := by simp; omega
  have g2 : decide (1024 < oa) = true := by simp; omega
  have hq : ((Bv oa : Nat) : Int) = 1024 := by unfold Bv; omega
  rw [hq]
  have c1 : w3.cell? ⟨M, 2, none⟩ = some (.slice (some ⟨tb, 0, none⟩) n tc) := I3.cT (by omega)
  have c3 : w3.cell? ⟨tb, i * 8 + 5, none⟩ = some (.int .i64 oa) := I3.tcell hi (by rw [upd_same]; rfl)
  have z3 := I3.tfrz hi (i * 8 + 5)
  have I4 := I3.put hi (j := 5) (v := .int .i64 1024) (t := (T i).first 1024) (by rw [upd_same]; rfl) (by decide) (by rw [upd_same]; exact ⟨rfl, rfl, rfl, rfl, rfl, rfl, rfl, rfl⟩)
  rw [Bc] at I4
  try walk_nrm
  refine Aa z70 ?_
  (have hfr := Jr tb (i * 8 + 5); refine Walk.os hfr c3 ?_; clear hfr; try walk_nrm)
  have s4 := Ai w3 ⟨tb, i * 8 + 5, none⟩ (.int .i64 1024)
  have o4 : ∀ x, x ≠ tb -> (w3.setCell ⟨tb, i * 8 + 5, none⟩ (.int .i64 1024)).heap[x]? = w3.heap[x]? := fun x hx => Ac _ _ _ _ hx
  have d4 := (o4 Zs (by omega)).trans d3
  generalize w3.setCell ⟨tb, i * 8 + 5, none⟩ (.int .i64 1024) = w4 at *
  clear c1 c3 z3
  try walk_nrm
  refine Aa z70 ?_
  refine Av rfl rfl Try.func70 rfl (.stop fun d => ⟨_, ⟨rfl, I4.same fun _ _ => rfl, ⟨⟨?_, fun x hx hn => ?_⟩, fun b hb => De hi (fun b hb => .inl ?_) b hb⟩⟩, rfl⟩)
  ·show w.heap.size <= w4.heap.size
   omega
  ·show w4.heap[x]? = w.heap[x]?
   have hx' : x ≠ tb := fun e => hn (.inr (.inr (.inl e)))
   exact (o4 x hx').trans ((o3 x hx').trans ((o2 x hx').trans ((o1 x hx').trans (o0 x (by omega)))))
  ·rcases hb with hb | ⟨_, hb⟩
   ·exact .inl hb
   ·cases hb
 have g1 : decide (oa < 1) = false := by simp; omega
 have g2 : decide (1024 < oa) = false := by simp; omega
 have hq : ((Bv oa : Nat) : Int) = oa := by unfold Bv; omega
 rw [hq]
 try walk_nrm
 refine Aa z70 ?_
 refine Av rfl rfl Try.func70 rfl (.stop fun d => ⟨_, ⟨rfl, I3.same fun _ _ => rfl, ⟨⟨?_, fun x hx hn => ?_⟩, fun b hb => De hi (fun b hb => .inl ?_) b hb⟩⟩, rfl⟩)
 ·show w.heap.size <= w3.heap.size
  omega
 ·show w3.heap[x]? = w.heap[x]?
  have hx' : x ≠ tb := fun e => hn (.inr (.inr (.inl e)))
  exact (o3 x hx').trans ((o2 x hx').trans ((o1 x hx').trans (o0 x (by omega))))
 ·rcases hb with hb | ⟨_, hb⟩
  ·exact .inl hb
  ·cases hb
theorem failed_go {main : Bool} {i : Nat} (hi : i < n) (t : Nat) (ht : 0 < t) (ht2 : t <= 1024) (htr : (T i).tr = (t : Int) + 1) (w : World) (I0 : M8 a0 M cg cc tb tc n m ta S T w) (hn : n <= 64) (ha0 : a0 <= w.heap.size) :
  CallW Try.prog main (fun _ => none) 89 #[.pointer (some ⟨M, 0, none⟩), .int .i64 i] w (fun v w' => v = .tuple #[] /\ M8 a0 M cg cc tb tc n m ta S (upd T i ((T i).first t)) w' /\ Got M cg tb n T (upd T i ((T i).first t)) w w') := by
 intro c cs
 have hi0 : (0 : Int) <= i := by omega
 have hi1 : decide ((i : Int) < n) = true := by simp; omega
 have hi3 : decide (i < n) = true := by simp; omega
 have hi4 : (i : Int) < n := by omega
 have ll3 := I0.lt.2.2 (by omega)
 have hw : IntKind.wrap .i64 ((T i).tr - 1) = (t : Int) := by rw [IntKind.wrap_i64, htr]; omega
 have htz : ((t : Int) == 0) = false := by simp; omega
 have htz2 : ¬ t = 0 := by omega
 clear htr
 generalize hw0 : w = w0 at *
 rw [enter_at _ Try.func89 code89_is]
 simp only [Try.ntmps89, ez, Nat.reduceAdd, Nat.reduceSub]
 have c1 : w0.cell? ⟨M, 2, none⟩ = some (.slice (some ⟨tb, 0, none⟩) n tc) := I0.cT (by omega)
 have c3 : w0.cell? ⟨tb, i * 8 + 5, none⟩ = some (.int .i64 (T i).tr) := I0.tcell hi (rfl)
 have z3 := I0.tfrz hi (i * 8 + 5)
 have I1 := I0.put hi (j := 5) (v := .int .i64 t) (t := { T i with tr := (t : Int) }) rfl (by decide) ⟨rfl, rfl, rfl, rfl, rfl, rfl, rfl, rfl⟩
 refine Aa z89 ?_
 (refine Ci (by kernel_rfl) size89_0 (by kernel_rfl) (by kernel_rfl) (by kernel_rfl) (by decide) ?_; simp only [List.range, List.range.loop]; repeat (first | (refine Cm.oq ?_) | (refine Bm Ao (by rfl) ?_; walk_nrm)))
 refine Cm.done ?_
 intro rest hr
 (have hfr := Jr tb (i * 8 + 5); refine Walk.os hfr c3 ?_; clear hfr; try walk_nrm)
 refine hr _ _ ?_
 have s1 := Ai w0 ⟨tb, i * 8 + 5, none⟩ (.int .i64 t)
 have o1 : ∀ x, x ≠ tb -> (w0.setCell ⟨tb, i * 8 + 5, none⟩ (.int .i64 t)).heap[x]? = w0.heap[x]? := fun x hx => Ac _ _ _ _ hx
 generalize w0.setCell ⟨tb, i * 8 + 5, none⟩ (.int .i64 t) = w1 at *
 clear c1 c3 z3
 have c1 : w1.cell? ⟨M, 2, none⟩ = some (.slice (some ⟨tb, 0, none⟩) n tc) := I1.cT (by omega)
 have c3 : w1.cell? ⟨tb, i * 8 + 4, none⟩ = some (.int .i64 (T i).pc) := I1.tcell hi (by rw [upd_same]; rfl)
 have z3 := I1.tfrz hi (i * 8 + 4)
 have I2 := I1.put hi (j := 4) (v := .int .i64 1) (t := { T i with tr := (t : Int), pc := 1 }) (by rw [upd_same]; rfl) (by decide) (by rw [upd_same]; exact ⟨rfl, rfl, rfl, rfl, rfl, rfl, rfl, rfl⟩)
 rw [Bc] at I2
 try walk_nrm
 refine Aa z89 ?_
 (have hfr := Jr tb (i * 8 + 4); refine Walk.os hfr c3 ?_; clear hfr; try walk_nrm)
 have s2 := Ai w1 ⟨tb, i * 8 + 4, none⟩ (.int .i64 1)
 have o2 : ∀ x, x ≠ tb -> (w1.setCell ⟨tb, i * 8 + 4, none⟩ (.int .i64 1)).heap[x]? = w1.heap[x]? := fun x hx => Ac _ _ _ _ hx
 generalize w1.setCell ⟨tb, i * 8 + 4, none⟩ (.int .i64 1) = w2 at *
 clear c1 c3 z3
 have c1 : w2.cell? ⟨M, 2, none⟩ = some (.slice (some ⟨tb, 0, none⟩) n tc) := I2.cT (by omega)
 have c3 : w2.cell? ⟨tb, i * 8 + 7, none⟩ = some ((T i).sv) := I2.tcell hi (by rw [upd_same]; rfl)
 have z3 := I2.tfrz hi (i * 8 + 7)
 have R2 := I2.rows i hi
 have I3 := I2.put' hi (j := 7) (v := .slice none 0 0) (t := (T i).first t) (by rw [upd_same]; rfl) (by decide) w2 (fun _ _ _ => rfl) (by
  rw [upd_same] at R2
  exact ⟨R2.rO, R2.rA, fun _ => ⟨rfl, .inl ⟨rfl, rfl⟩⟩, fun _ b hb => (by cases hb), R2.lo⟩) (fun b hb => .inl (by
  rw [upd_same]
  rcases hb with hb | ⟨_, hb⟩
  ·exact .inl hb
  ·cases hb))
 rw [Bc] at I3
 try walk_nrm
 refine Aa z89 ?_
 (have hfr := Jr tb (i * 8 + 7); refine Walk.os hfr c3 ?_; clear hfr; try walk_nrm)
 have s3 := Ai w2 ⟨tb, i * 8 + 7, none⟩ (.slice none 0 0)
 have o3 : ∀ x, x ≠ tb -> (w2.setCell ⟨tb, i * 8 + 7, none⟩ (.slice none 0 0)).heap[x]? = w2.heap[x]? := fun x hx => Ac _ _ _ _ hx
 generalize w2.setCell ⟨tb, i * 8 + 7, none⟩ (.slice none 0 0) = w3 at *
 clear c1 c3 z3
 have c1 : w3.cell? ⟨M, 2, none⟩ = some (.slice (some ⟨tb, 0, none⟩) n tc) := I3.cT (by omega)
 have c3 : w3.cell? ⟨tb, i * 8 + 5, none⟩ = some (.int .i64 (t : Int)) := I3.tcell hi (by rw [upd_same]; rfl)
 try walk_nrm
 refine Aa z89 ?_
 refine Av rfl rfl Try.func89 rfl (.stop fun d => ⟨_, ⟨rfl, I3.same fun _ _ => rfl, ⟨⟨?_, fun x hx hn => ?_⟩, fun b hb => De hi (fun b hb => .inl ?_) b hb⟩⟩, rfl⟩)
 ·show w0.heap.size <= w3.heap.size
  omega
 ·show w3.heap[x]? = w0.heap[x]?
  have hx' : x ≠ tb := fun e => hn (.inr (.inr (.inl e)))
  exact (o3 x hx').trans ((o2 x hx').trans ((o1 x hx').trans rfl))
 ·rcases hb with hb | ⟨_, hb⟩
  ·exact .inl hb
  ·cases hb
theorem failed_end {main : Bool} {i : Nat} (hi : i < n) (htr : (T i).tr = 1) (hl : (T i).ans.length <= 65536) (hat : (T i).at' <= 65536) (w : World) (I0 : M8 a0 M cg cc tb tc n m ta S T w) (hn : n <= 64) (ha0 : a0 <= w.heap.size) :
  CallW Try.prog main (fun _ => none) 89 #[.pointer (some ⟨M, 0, none⟩), .int .i64 i] w (fun v w' => v = .tuple #[] /\ ∃ av oA, M8 a0 M cg cc tb tc n m ta S (upd T i (((T i).first 0).told Fw av oA)) w' /\ Got M cg tb n T (upd T i (((T i).first 0).told Fw av oA)) w w') := by
 intro c cs
 have hi0 : (0 : Int) <= i := by omega
 have hi1 : decide ((i : Int) < n) = true := by simp; omega
 have hi3 : decide (i < n) = true := by simp; omega
 have hi4 : (i : Int) < n := by omega
 have ll3 := I0.lt.2.2 (by omega)
 have hw : IntKind.wrap .i64 ((T i).tr - 1) = 0 := by rw [IntKind.wrap_i64, htr]; omega
 clear htr
 generalize hw0 : w = w0 at *
 rw [enter_at _ Try.func89 code89_is]
 simp only [Try.ntmps89, ez, Nat.reduceAdd, Nat.reduceSub]
 have c1 : w0.cell? ⟨M, 2, none⟩ = some (.slice (some ⟨tb, 0, none⟩) n tc) := I0.cT (by omega)
 have c3 : w0.cell? ⟨tb, i * 8 + 5, none⟩ = some (.int .i64 (T i).tr) := I0.tcell hi (rfl)
 have z3 := I0.tfrz hi (i * 8 + 5)
 have I1 := I0.put hi (j := 5) (v := .int .i64 0) (t := { T i with tr := 0 }) rfl (by decide) ⟨rfl, rfl, rfl, rfl, rfl, rfl, rfl, rfl⟩
 refine Aa z89 ?_
 (refine Ci (by kernel_rfl) size89_0 (by kernel_rfl) (by kernel_rfl) (by kernel_rfl) (by decide) ?_; simp only [List.range, List.range.loop]; repeat (first | (refine Cm.oq ?_) | (refine Bm Ao (by rfl) ?_; walk_nrm)))
 refine Cm.done ?_
 intro rest hr
 (have hfr := Jr tb (i * 8 + 5); refine Walk.os hfr c3 ?_; clear hfr; try walk_nrm)
 refine hr _ _ ?_
 have s1 := Ai w0 ⟨tb, i * 8 + 5, none⟩ (.int .i64 0)
 have o1 : ∀ x, x ≠ tb -> (w0.setCell ⟨tb, i * 8 + 5, none⟩ (.int .i64 0)).heap[x]? = w0.heap[x]? := fun x hx => Ac _ _ _ _ hx
 generalize w0.setCell ⟨tb, i * 8 + 5, none⟩ (.int .i64 0) = w1 at *
 clear c1 c3 z3
 have c1 : w1.cell? ⟨M, 2, none⟩ = some (.slice (some ⟨tb, 0, none⟩) n tc) := I1.cT (by omega)
 have c3 : w1.cell? ⟨tb, i * 8 + 4, none⟩ = some (.int .i64 (T i).pc) := I1.tcell hi (by rw [upd_same]; rfl)
 have z3 := I1.tfrz hi (i * 8 + 4)
 have I2 := I1.put hi (j := 4) (v := .int .i64 1) (t := { T i with tr := 0, pc := 1 }) (by rw [upd_same]; rfl) (by decide) (by rw [upd_same]; exact ⟨rfl, rfl, rfl, rfl, rfl, rfl, rfl, rfl⟩)
 rw [Bc] at I2
 try walk_nrm
 refine Aa z89 ?_
 (have hfr := Jr tb (i * 8 + 4); refine Walk.os hfr c3 ?_; clear hfr; try walk_nrm)
 have s2 := Ai w1 ⟨tb, i * 8 + 4, none⟩ (.int .i64 1)
 have o2 : ∀ x, x ≠ tb -> (w1.setCell ⟨tb, i * 8 + 4, none⟩ (.int .i64 1)).heap[x]? = w1.heap[x]? := fun x hx => Ac _ _ _ _ hx
 generalize w1.setCell ⟨tb, i * 8 + 4, none⟩ (.int .i64 1) = w2 at *
 clear c1 c3 z3
 have c1 : w2.cell? ⟨M, 2, none⟩ = some (.slice (some ⟨tb, 0, none⟩) n tc) := I2.cT (by omega)
 have c3 : w2.cell? ⟨tb, i * 8 + 7, none⟩ = some ((T i).sv) := I2.tcell hi (by rw [upd_same]; rfl)
 have z3 := I2.tfrz hi (i * 8 + 7)
 have R2 := I2.rows i hi
 have I3 := I2.put' hi (j := 7) (v := .slice none 0 0) (t := (T i).first 0) (by rw [upd_same]; rfl) (by decide) w2 (fun _ _ _ => rfl) (by
  rw [upd_same] at R2
  exact ⟨R2.rO, R2.rA, fun _ => ⟨rfl, .inl ⟨rfl, rfl⟩⟩, fun _ b hb => (by cases hb), R2.lo⟩) (fun b hb => .inl (by
  rw [upd_same]
  rcases hb with hb | ⟨_, hb⟩
  ·exact .inl hb
  ·cases hb))
 rw [Bc] at I3
 try walk_nrm
 refine Aa z89 ?_
 (have hfr := Jr tb (i * 8 + 7); refine Walk.os hfr c3 ?_; clear hfr; try walk_nrm)
 have s3 := Ai w2 ⟨tb, i * 8 + 7, none⟩ (.slice none 0 0)
 have o3 : ∀ x, x ≠ tb -> (w2.setCell ⟨tb, i * 8 + 7, none⟩ (.slice none 0 0)).heap[x]? = w2.heap[x]? := fun x hx => Ac _ _ _ _ hx
 generalize w2.setCell ⟨tb, i * 8 + 7, none⟩ (.slice none 0 0) = w3 at *
 clear c1 c3 z3
 have c1 : w3.cell? ⟨M, 2, none⟩ = some (.slice (some ⟨tb, 0, none⟩) n tc) := I3.cT (by omega)
 have c3 : w3.cell? ⟨tb, i * 8 + 5, none⟩ = some (.int .i64 0) := I3.tcell hi (by rw [upd_same]; rfl)
 have hs3 : w0.heap.size <= w3.heap.size := by omega
 have g3 : Got M cg tb n T (upd T i ((T i).first 0)) w0 w3 := ⟨⟨hs3, fun x hx hn => by
  have hx' : x ≠ tb := fun e => hn (.inr (.inr (.inl e)))
  exact (o3 x hx').trans ((o2 x hx').trans (o1 x hx'))⟩, fun b hb => De hi (fun b hb => .inl (by
  rcases hb with hb | ⟨_, hb⟩
  ·exact .inl hb
  ·cases hb)) b hb⟩
 have he := Om (main := main) hi Fw (.slice none 0 0) w3 (LsAt.nil _ _ _) I3 hn (by omega) (by rw [upd_same]; exact hl) (by rw [upd_same]; exact hat)
 simp only [upd_same, Bc] at he
 simp only [Bw, Fw] at he
 have haN : Fw = ⟨false, 0, []⟩ := rfl
 try walk_nrm
 refine Aa z89 ?_
 refine Ah (Post := fun v w' => v = .tuple #[] /\ ∃ av oA, M8 a0 M cg cc tb tc n m ta S (upd T i (((T i).first 0).told Fw av oA)) w' /\ Got M cg tb n (upd T i ((T i).first 0)) (upd T i (((T i).first 0).told Fw av oA)) w3 w') ?_ Ao (by rfl) (by decide) rfl Try.func73 (by kernel_rfl) (by rfl) ?_
 ·walk_nrm
  exact he
 rintro v w4 ⟨rfl, av, oA, I4, g4⟩
 walk_nrm
 refine Aa z89 ?_
 exact Av rfl rfl Try.func89 rfl (.stop fun d => ⟨_, ⟨rfl, av, oA, I4.same fun _ _ => rfl, ⟨(g3.trans g4).chg.at d, (g3.trans g4).own⟩⟩, rfl⟩)
end
end
end Go.Proofs.Ytjenoiekfkhafaa
