/- Part 16. -/
import Derived.Test.YtdmpmoggacjgcaaJ13
import Derived.Test.YtdmpmoggacjgcaaJ14
import Derived.Test.YtdmpmoggacjgcaaJ15
import Derived.Laws.BitsLemmas
set_option linter.unusedSimpArgs false
set_option linter.unusedVariables false
set_option maxHeartbeats 8000000
set_option maxRecDepth 100000
namespace Go.Proofs.Ytdmpmoggacjgcaa
open Go.Conc Go.RowKit Go.Relay
open Go.ConcN (upd upd_ne upd_same)
section
def nodeX (x : Int) : Int := IntKind.i64.wrap (bits BinOp.and IntKind.i64 x 4294967295 - 1)
def tagX (x : Int) : Int := x / 4294967296
def heldX (n t : Int) : Int := IntKind.i64.wrap (IntKind.i64.wrap (IntKind.i64.wrap (t * 4294967296) + n) + 1)
def turnTag (tg : Bool) (x : Int) : Int := if tg then bits BinOp.and IntKind.i64 (IntKind.i64.wrap (tagX x + 1)) 2147483647 else 0
theorem wraps_i64_63 (n : Int) (h₀ : 0 ≤ n) (h₁ : n < 2 ^ 63) : IntKind.i64.wrap n = n := by rw [IntKind.wrap_i64]; omega
theorem mask32 (x : Int) (h0 : 0 ≤ x) (h1 : x < 9223372036854775808) : bits BinOp.and IntKind.i64 x 4294967295 = x % 4294967296 := by
 have h := bits_mask .i64 63 (by decide) wraps_i64_63 32 (by decide) x h0 (by omega)
 have e : ((2 : Int) ^ 32 - 1) = 4294967296 - 1 := by decide
 have e2 : ((2 : Int) ^ 32) = 4294967296 := by decide
 rw [e, e2] at h
 exact h
theorem mask31 (x : Int) (h0 : 0 ≤ x) (h1 : x < 9223372036854775808) : bits BinOp.and IntKind.i64 x 2147483647 = x % 2147483648 := by
 have h := bits_mask .i64 63 (by decide) wraps_i64_63 31 (by decide) x h0 (by omega)
 have e : ((2 : Int) ^ 31 - 1) = 2147483648 - 1 := by decide
 have e2 : ((2 : Int) ^ 31) = 2147483648 := by decide
 rw [e, e2] at h
 exact h
structure OkH (n : Nat) (x : Int) : Prop where
 lo : 0 ≤ x
 hi : x < 9223372036854775808
 nlo : -1 ≤ nodeX x
 nhi : nodeX x < n
theorem nodeX_of (x : Int) (h0 : 0 ≤ x) (h1 : x < 9223372036854775808) : nodeX x = x % 4294967296 - 1 := by
 unfold nodeX
 rw [mask32 x h0 h1, IntKind.wrap_i64]
 omega
theorem turnTag_lt (tg : Bool) (x : Int) (h0 : 0 ≤ x) (h1 : x < 9223372036854775808) : 0 ≤ turnTag tg x ∧ turnTag tg x < 2147483648 := by
 unfold turnTag
 split
 ·have hw : IntKind.i64.wrap (tagX x + 1) = tagX x + 1 := by rw [IntKind.wrap_i64]; unfold tagX; omega
  rw [hw, mask31 _ (by unfold tagX; omega) (by unfold tagX; omega)]
  omega
 ·omega
theorem heldX_of (a t : Int) (ha : -1 ≤ a) (ha2 : a < 65536) (ht : 0 ≤ t) (ht2 : t < 2147483648) : heldX a t = t * 4294967296 + a + 1 := by
 unfold heldX
 simp only [IntKind.wrap_i64]
 omega
theorem OkH.turn {n : Nat} {x a : Int} (h : OkH n x) (tg : Bool) (ha : -1 ≤ a) (ha2 : a < n) (hn : n ≤ 65536) : OkH n (heldX a (turnTag tg x)) ∧ nodeX (heldX a (turnTag tg x)) = a := by
 obtain ⟨t1, t2⟩ := turnTag_lt tg x h.lo h.hi
 have e := heldX_of a _ ha (by omega) t1 t2
 have h1 : 0 ≤ heldX a (turnTag tg x) := by rw [e]; omega
 have h2 : heldX a (turnTag tg x) < 9223372036854775808 := by rw [e]; omega
 have e2 : nodeX (heldX a (turnTag tg x)) = a := by rw [nodeX_of _ h1 h2, e]; omega
 exact ⟨⟨h1, h2, by omega, by omega⟩, e2⟩
section
variable {main : Bool} {V : Nat → Option Wait}
noncomputable def reg46_0 := rg Try.f46.body [0]
noncomputable def reg46_1 := rg Try.f46.body [1, 0]
theorem z46 : List.range reg46_0.size = [0] ∧ List.range reg46_1.size = [0, 1, 2, 3] := by refine ⟨?_, ?_⟩ <;> kernel_rfl
theorem code46_is : Try.f46.body = some (.seq (.region 0 reg46_0 false) (.seq (.region 1 reg46_1 false) (.ret))) := by kernel_rfl
noncomputable def reg47_0 := rg Try.f47.body [0]
noncomputable def reg47_1 := rg Try.f47.body [1, 0]
theorem z47 : List.range reg47_0.size = [0] ∧ List.range reg47_1.size = [0, 1, 2] := by refine ⟨?_, ?_⟩ <;> kernel_rfl
theorem code47_is : Try.f47.body = some (.seq (.region 0 reg47_0 false) (.seq (.region 1 reg47_1 false) (.ret))) := by kernel_rfl
noncomputable def reg44_0 := rg Try.f44.body [0]
noncomputable def reg44_1 := rg Try.f44.body [1, 0]
theorem z44 : List.range reg44_0.size = [0] ∧ List.range reg44_1.size = [0, 1, 2, 3, 4, 5] := by refine ⟨?_, ?_⟩ <;> kernel_rfl
theorem code44_is : Try.f44.body = some (.seq (.region 0 reg44_0 false) (.seq (.region 1 reg44_1 false) (.ret))) := by kernel_rfl
noncomputable def reg54_0 := rg Try.f54.body [0]
noncomputable def reg54_1 := rg Try.f54.body [1, 0]
theorem z54 : List.range reg54_0.size = [0] ∧ List.range reg54_1.size = [0, 1, 2, 3] := by refine ⟨?_, ?_⟩ <;> kernel_rfl
theorem code54_is : Try.f54.body = some (.seq (.region 0 reg54_0 false) (.seq (.region 1 reg54_1 false) (.ret))) := by kernel_rfl
theorem node_w (x : Int) (w : World) : CallV Try.prog main V 46 #[.int .i64 x] w (.int .i64 (nodeX x)) w := by
 refine callW_in Try.func46 code46_is fun fr cs => ?_
 simp only [Try.ntmps46, ez, Nat.reduceAdd, Nat.reduceSub]
 refine Walk.gz z46 ?_
 exact Walk.ret1 rfl rfl Try.func46 rfl fun d => ⟨rfl, d, rfl⟩
theorem tag_w (x : Int) (w : World) : CallV Try.prog main V 47 #[.int .i64 x] w (.int .i64 (tagX x)) w := by
 refine callW_in Try.func47 code47_is fun fr cs => ?_
 simp only [Try.ntmps47, ez, Nat.reduceAdd, Nat.reduceSub]
 refine Walk.gz z47 ?_
 exact Walk.ret1 rfl rfl Try.func47 rfl fun d => ⟨rfl, d, rfl⟩
theorem newHeld_w (n t : Int) (w : World) : CallV Try.prog main V 44 #[.int .i64 n, .int .i64 t] w (.int .i64 (heldX n t)) w := by
 refine callW_in Try.func44 code44_is fun fr cs => ?_
 simp only [Try.ntmps44, ez, Nat.reduceAdd, Nat.reduceSub]
 refine Walk.gz z44 ?_
 exact Walk.ret1 rfl rfl Try.func44 rfl fun d => ⟨rfl, d, rfl⟩
theorem empty_w (x : Int) (w : World) : CallV Try.prog main V 54 #[.int .i64 x] w (.bool (nodeX x == -1)) w := by
 refine callW_in Try.func54 code54_is fun fr cs => ?_
 simp only [Try.ntmps54, ez, Nat.reduceAdd, Nat.reduceSub]
 refine Walk.gz z54 ?_
 refine Walk.callV (x := .int .i64 (nodeX x)) (W := w) ?_ hoA (by rfl) (by decide) rfl Try.func46 (by kernel_rfl) (by rfl) ?_
 ·walk_nrm
  exact node_w x w
 walk_nrm
 refine Walk.gz z54 ?_
 exact Walk.ret1 rfl rfl Try.func54 rfl fun d => ⟨rfl, d, rfl⟩
end
end
section
structure Sk where
 hd : Int
 fr : Int
 nx : Nat → Int
 vl : Nat → Int
inductive SD where
 | pu1 (v : Int) | pu2 (v top : Int) | pu3 (v top nx : Int) | pu4 (v i : Int) | pu5 (i : Int) | pu6 (i top : Int) | pu7 (i top : Int)
 | po1 | po2 (top : Int) | po3 (top nx : Int) | po4 (i : Int) | po5 (i v : Int) | po6 (i v top : Int) | po7 (i v top : Int)
 | pe1 | pe2 (top : Int) | pe3 (top v : Int)
 | em1
def skEnter (s : Sk) (o : OpV) : Sk × (Ans ⊕ SD) :=
 if o.k = 1 then (s, .inr (.pu1 o.a)) else if o.k = 2 then (s, .inr .po1) else if o.k = 3 then (s, .inr .pe1) else if o.k = 4 then (s, .inr .em1) else (s, .inl (false, 0))
def skAct (tg : Bool) (s : Sk) : SD → Sk × (Ans ⊕ SD)
 | .pu1 v => if nodeX s.fr = -1 then (s, .inl (false, 0)) else (s, .inr (.pu2 v s.fr))
 | .pu2 v top => (s, .inr (.pu3 v top (s.nx (nodeX top).toNat)))
 | .pu3 v top nx => if s.fr = top then ({ s with fr := heldX nx (turnTag tg top) }, .inr (.pu4 v (nodeX top))) else (s, .inr (.pu1 v))
 | .pu4 v i => ({ s with vl := upd s.vl i.toNat v }, .inr (.pu5 i))
 | .pu5 i => (s, .inr (.pu6 i s.hd))
 | .pu6 i top => ({ s with nx := upd s.nx i.toNat (nodeX top) }, .inr (.pu7 i top))
 | .pu7 i top => if s.hd = top then ({ s with hd := heldX i (turnTag tg top) }, .inl (true, 0)) else (s, .inr (.pu5 i))
 | .po1 => if nodeX s.hd = -1 then (s, .inl (false, 0)) else (s, .inr (.po2 s.hd))
 | .po2 top => (s, .inr (.po3 top (s.nx (nodeX top).toNat)))
 | .po3 top nx => if s.hd = top then ({ s with hd := heldX nx (turnTag tg top) }, .inr (.po4 (nodeX top))) else (s, .inr .po1)
 | .po4 i => (s, .inr (.po5 i (s.vl i.toNat)))
 | .po5 i v => (s, .inr (.po6 i v s.fr))
 | .po6 i v top => ({ s with nx := upd s.nx i.toNat (nodeX top) }, .inr (.po7 i v top))
 | .po7 i v top => if s.fr = top then ({ s with fr := heldX i (turnTag tg top) }, .inl (true, v)) else (s, .inr (.po5 i v))
 | .pe1 => if nodeX s.hd = -1 then (s, .inl (false, 0)) else (s, .inr (.pe2 s.hd))
 | .pe2 top => (s, .inr (.pe3 top (s.vl (nodeX top).toNat)))
 | .pe3 top v => if s.hd = top then (s, .inl (true, v)) else if nodeX s.hd = -1 then (s, .inl (false, 0)) else (s, .inr (.pe2 s.hd))
 | .em1 => (s, .inl (nodeX s.hd == -1, 0))
structure SkI (kb nb n : Nat) (tg : Bool) (s : Sk) (w : World) : Prop where
 k : w.heap[kb]? = some (.cells #[.bool tg, .int .i64 s.hd, .bool tg, .int .i64 s.fr, .slice (some ⟨nb, 0, none⟩) n n] 70)
 nd : ∃ arr : Array Value, w.heap[nb]? = some (.cells arr 95) ∧ ∀ i, i < n → arr[i * 2]? = some (.int .i64 (s.nx i)) ∧ arr[i * 2 + 1]? = some (.int .i64 (s.vl i))
 hd : OkH n s.hd
 fr : OkH n s.fr
 nx : ∀ i, i < n → -1 ≤ s.nx i ∧ s.nx i < n
def skLa (kb nb n : Nat) (tg : Bool) : La where
 Sg := Sk
 D := SD
 enter := skEnter
 act := skAct tg
 sh := fun b => b = kb ∨ b = nb
 I := SkI kb nb n tg
 stable := fun {s w w'} h hb => ⟨(hb kb (.inl rfl)).trans h.k, by
  obtain ⟨arr, h1, h2⟩ := h.nd
  exact ⟨arr, (hb nb (.inr rfl)).trans h1, h2⟩, h.hd, h.fr, h.nx⟩
 lt := fun {s w b} h hb => by
  rcases hb with rfl | rfl
  ·exact (Array.getElem?_eq_some_iff.1 h.k).1
  ·obtain ⟨arr, h1, _⟩ := h.nd
   exact (Array.getElem?_eq_some_iff.1 h1).1
section
variable {kb nb n : Nat} {tg : Bool}
def hdW (hne : kb ≠ nb) : Wd (skLa kb nb n tg) where
 b := kb
 q := 1
 get := Sk.hd
 put := fun s v => { s with hd := v }
 ok := OkH n
 sh := .inl rfl
 rd := fun s w h => ⟨(cell_of h.k 1).trans rfl, frozen_of h.k 1⟩
 wr := fun s w v hv h => ⟨by rw [heap_set_self _ _ h.k]; simp, by
  obtain ⟨arr, h1, h2⟩ := h.nd
  exact ⟨arr, (heap_set_other _ _ _ _ (Ne.symm hne)).trans h1, h2⟩, hv, h.fr, h.nx⟩
def frW (hne : kb ≠ nb) : Wd (skLa kb nb n tg) where
 b := kb
 q := 3
 get := Sk.fr
 put := fun s v => { s with fr := v }
 ok := OkH n
 sh := .inl rfl
 rd := fun s w h => ⟨(cell_of h.k 3).trans rfl, frozen_of h.k 3⟩
 wr := fun s w v hv h => ⟨by rw [heap_set_self _ _ h.k]; simp, by
  obtain ⟨arr, h1, h2⟩ := h.nd
  exact ⟨arr, (heap_set_other _ _ _ _ (Ne.symm hne)).trans h1, h2⟩, h.hd, hv, h.nx⟩
def nxW (hne : kb ≠ nb) (i : Nat) (hi : i < n) : Wd (skLa kb nb n tg) where
 b := nb
 q := i * 2
 get := fun s => s.nx i
 put := fun s v => { s with nx := upd s.nx i v }
 ok := fun v => -1 ≤ v ∧ v < n
 sh := .inr rfl
 rd := fun s w h => by
  obtain ⟨arr, h1, h2⟩ := h.nd
  exact ⟨(cell_of h1 _).trans (h2 i hi).1, frozen_of h1 _⟩
 wr := fun s w v hv h => ⟨(heap_set_other _ _ _ _ hne).trans h.k, by
  obtain ⟨arr, h1, h2⟩ := h.nd
  refine ⟨_, heap_set_self _ _ h1, fun j hj => ?_⟩
  have hl := (Array.getElem?_eq_some_iff.1 (h2 i hi).1).1
  by_cases e : j = i
  ·subst e
   exact ⟨by rw [Array.getElem?_setIfInBounds_self_of_lt hl]; simp only [upd_same], by rw [Array.getElem?_setIfInBounds_ne (by omega)]; exact (h2 j hj).2⟩
  ·exact ⟨by rw [Array.getElem?_setIfInBounds_ne (by omega)]; simp only [upd_ne _ _ e]; exact (h2 j hj).1, by rw [Array.getElem?_setIfInBounds_ne (by omega)]; exact (h2 j hj).2⟩, h.hd, h.fr, fun j hj => by
  by_cases e : j = i
  ·subst e; simp only [upd_same]; exact hv
  ·simp only [upd_ne _ _ e]; exact h.nx j hj⟩
def vlW (hne : kb ≠ nb) (i : Nat) (hi : i < n) : Wd (skLa kb nb n tg) where
 b := nb
 q := i * 2 + 1
 get := fun s => s.vl i
 put := fun s v => { s with vl := upd s.vl i v }
 ok := fun _ => True
 sh := .inr rfl
 rd := fun s w h => by
  obtain ⟨arr, h1, h2⟩ := h.nd
  exact ⟨(cell_of h1 _).trans (h2 i hi).2, frozen_of h1 _⟩
 wr := fun s w v hv h => ⟨(heap_set_other _ _ _ _ hne).trans h.k, by
  obtain ⟨arr, h1, h2⟩ := h.nd
  refine ⟨_, heap_set_self _ _ h1, fun j hj => ?_⟩
  have hl := (Array.getElem?_eq_some_iff.1 (h2 i hi).2).1
  by_cases e : j = i
  ·subst e
   exact ⟨by rw [Array.getElem?_setIfInBounds_ne (by omega)]; exact (h2 j hj).1, by rw [Array.getElem?_setIfInBounds_self_of_lt hl]; simp only [upd_same]⟩
  ·exact ⟨by rw [Array.getElem?_setIfInBounds_ne (by omega)]; exact (h2 j hj).1, by rw [Array.getElem?_setIfInBounds_ne (by omega)]; simp only [upd_ne _ _ e]; exact (h2 j hj).2⟩, h.hd, h.fr, h.nx⟩
structure Hd (kb nb n : Nat) (tg : Bool) where
 W : Wd (skLa kb nb n tg)
 h : Nat
 hb : W.b = kb
 hq : W.q = h + 1
 tag : ∀ s w, SkI kb nb n tg s w → w.cell? ⟨kb, h, none⟩ = some (.bool tg)
 okg : ∀ s w, SkI kb nb n tg s w → OkH n (W.get s)
 okw : ∀ x, OkH n x → W.ok x
def hdH (hne : kb ≠ nb) : Hd kb nb n tg := ⟨hdW hne, 0, rfl, rfl, fun s w h => (cell_of h.k 0).trans rfl, fun s w h => h.hd, fun _ h => h⟩
def frH (hne : kb ≠ nb) : Hd kb nb n tg := ⟨frW hne, 2, rfl, rfl, fun s w h => (cell_of h.k 2).trans rfl, fun s w h => h.fr, fun _ h => h⟩
theorem sk_nodes {s : Sk} {w : World} (h : SkI kb nb n tg s w) : w.cell? ⟨kb, 4, none⟩ = some (.slice (some ⟨nb, 0, none⟩) n n) := (cell_of h.k 4).trans rfl
def Hd.p (H : Hd kb nb n tg) : Value := .pointer (some ⟨kb, H.h, none⟩)
variable {sv : Value}
noncomputable def reg45_0 := rg Try.f45.body [0]
noncomputable def reg45_1 := rg Try.f45.body [1, 0]
theorem z45 : List.range reg45_0.size = [0] ∧ List.range reg45_1.size = [0, 1, 2, 3, 4, 5] := by refine ⟨?_, ?_⟩ <;> kernel_rfl
theorem code45_is : Try.f45.body = some (.seq (.region 0 reg45_0 false) (.seq (.region 1 reg45_1 false) (.ret))) := by kernel_rfl
noncomputable def reg65_0 := rg Try.f65.body [0]
noncomputable def reg65_1 := rg Try.f65.body [1, 0]
noncomputable def reg65_2 := rg Try.f65.body [1, 1, 0, 0]
noncomputable def reg65_3 := rg Try.f65.body [1, 1, 0, 1, 0]
noncomputable def reg65_4 := rg Try.f65.body [1, 1, 1, 0]
theorem size65_4 : reg65_4.size = 10 := by kernel_rfl
theorem z65 : List.range reg65_0.size = [0] ∧ List.range reg65_1.size = [0] ∧ List.range reg65_2.size = [0, 1, 2, 3] ∧ List.range reg65_3.size = [0, 1, 2, 3, 4] ∧ List.range reg65_4.size = [0, 1, 2, 3, 4, 5, 6, 7, 8, 9] := by refine ⟨?_, ?_, ?_, ?_, ?_⟩ <;> kernel_rfl
theorem code65_is : Try.f65.body = some (.seq (.region 0 reg65_0 false) (.seq (.region 1 reg65_1 false) (.seq (.seq (.region 2 reg65_2 false) (.cond (.tmp 13 ) (.region 3 reg65_3 false) (.skip))) (.seq (.region 4 reg65_4 true) (.ret))))) := by kernel_rfl
theorem hload_s (K : Lg (skLa kb nb n tg) sv) (H : Hd kb nb n tg) (e : K.E) (d : SD) (ht : K.tgt e = (K.s e, .inr d)) : SCall K.toLb 45 #[H.p, sv] e (fun v e' => Aft K.toLb e d e' ∧ v = .int .i64 (H.W.get (K.s e'))) := by
 intro fr l hp hl hk
 have hh := word_load K H.W e d ht
 unfold Wd.p at hh
 rw [H.hb, H.hq] at hh
 unfold Hd.p
 unfold LW
 rw [enter_at _ Try.func45 code45_is]
 simp only [Try.ntmps45, ez, Nat.reduceAdd, Nat.reduceSub]
 refine Walk.gz z45 ?_
 refine LW.callS (K := K.toLb) (e := e) (l := fr :: l) (f := 52) (Q := fun v e' => Aft K.toLb e d e' ∧ v = .int .i64 (H.W.get (K.s e'))) ?_ hoA (by rfl) (by decide) rfl Try.func52 (by kernel_rfl) (by rfl) ⟨rfl, rfl, _, Try.func45⟩ (plain_cons hp hl) ?_
 ·walk_nrm
  exact hh
 rintro v e' ⟨ha, rfl⟩
 unfold LW
 walk_nrm
 refine Walk.gz z45 ?_
 exact Walk.on1 rfl rfl Try.func45 rfl (hk _ e' ⟨ha, rfl⟩)
end
end
section
section
variable {main : Bool} {V : Nat → Option Wait}
theorem step_nil (w : World) : CallV Try.prog main V 62 #[.nilIface] w (.tuple #[]) w := by
 obtain ⟨ms, hu⟩ := undStepperN
 have hn1 := fun w => run_neq_nilIface (P := Try.prog) (w := w) 100 hu
 have hn2 := fun w es => ev_neq_nilIface (P := Try.prog) (w := w) 100 es hu
 refine callW_in Try.func62 code62_is fun fr cs => ?_
 simp only [Try.ntmps62, ez, Nat.reduceAdd, Nat.reduceSub]
 refine Walk.gz z62 ?_
 exact Walk.ret0 rfl rfl Try.func62 rfl fun d => ⟨rfl, d, rfl⟩
theorem holds_nil (b q : Nat) (v : Int) (w : World) (hc : w.cell? ⟨b, q, none⟩ = some (.int .i64 v)) : CallV Try.prog main V 66 #[.nilIface, .pointer (some ⟨b, q, none⟩)] w (.int .i64 v) w := by
 have hi1 := run_ifaceAtomic
 have hi2 := ev_ifaceAtomic
 refine callW_in Try.func66 code66_is fun fr cs => ?_
 simp only [Try.ntmps66, ez, Nat.reduceAdd, Nat.reduceSub]
 refine Walk.gz z66 ?_
 refine Walk.callV (x := .tuple #[]) (W := w) ?_ hoA (by rfl) (by decide) rfl Try.func62 (by kernel_rfl) (by rfl) ?_
 ·walk_nrm
  exact step_nil w
 walk_nrm
 refine Walk.gz z66 ?_
 refine Walk.invokeLoad b q hoA (by rfl) (by decide) rfl rfl ?_
 refine (atLoad b q _ w hc _ _).then ?_
 rintro g' w' ⟨v', ⟨rfl, dd, rfl⟩, rfl⟩
 refine Walk.back ?_ dd
 refine Walk.finish hoA ?_
 walk_nrm
 refine Walk.gz z66 ?_
 exact Walk.ret1 rfl rfl Try.func66 rfl fun d => ⟨rfl, d, rfl⟩
theorem load_nil (b q : Nat) (v : Int) (w : World) (hc : w.cell? ⟨b, q, none⟩ = some (.int .i64 v)) : CallV Try.prog main V 52 #[.pointer (some ⟨b, q, none⟩), .nilIface] w (.int .i64 v) w := by
 have hp1 := fun w => run_eql_ptr (P := Try.prog) 125 undWord (some ⟨b, q, none⟩) w
 have hp2 := fun w es => ev_eql_ptr (P := Try.prog) 125 undWord (some ⟨b, q, none⟩) w es
 simp only [Option.isNone_some] at hp1
 refine callW_in Try.func52 code52_is fun fr cs => ?_
 simp only [Try.ntmps52, ez, Nat.reduceAdd, Nat.reduceSub]
 refine Walk.gz z52 ?_
 refine Walk.callV (x := .int .i64 v) (W := w) ?_ hoA (by rfl) (by decide) rfl Try.func66 (by kernel_rfl) (by rfl) ?_
 ·walk_nrm
  exact holds_nil b q v w hc
 walk_nrm
 refine Walk.gz z52 ?_
 exact Walk.ret1 rfl rfl Try.func52 rfl fun d => ⟨rfl, d, rfl⟩
theorem store_nil (b q : Nat) (u : Value) (v : Int) (w : World) (hc : w.cell? ⟨b, q, none⟩ = some u) (hz : w.frozen? ⟨b, q, none⟩ = false) (hf : Free V ⟨b, q, none⟩) : CallV Try.prog main V 43 #[.pointer (some ⟨b, q, none⟩), .nilIface, .int .i64 v] w (.tuple #[]) (w.setCell ⟨b, q, none⟩ (.int .i64 v)) := by
 have hp1 := fun w => run_eql_ptr (P := Try.prog) 125 undWord (some ⟨b, q, none⟩) w
 have hp2 := fun w es => ev_eql_ptr (P := Try.prog) 125 undWord (some ⟨b, q, none⟩) w es
 simp only [Option.isNone_some] at hp1
 refine callW_in Try.func43 code43_is fun fr cs => ?_
 simp only [Try.ntmps43, ez, Nat.reduceAdd, Nat.reduceSub]
 refine Walk.gz z43 ?_
 refine Walk.callV (x := .tuple #[]) (W := w) ?_ hoA (by rfl) (by decide) rfl Try.func62 (by kernel_rfl) (by rfl) ?_
 ·walk_nrm
  exact step_nil w
 walk_nrm
 refine Walk.gz z43 ?_
 refine Walk.callV (x := .tuple #[]) (W := w.setCell ⟨b, q, none⟩ (.int .i64 v)) ?_ hoA (by rfl) (by decide) rfl Try.func63 (by kernel_rfl) (by rfl) ?_
 ·walk_nrm
  exact atStore b q u v w hc hz hf
 walk_nrm
 refine Walk.gz z43 ?_
 exact Walk.ret0 rfl rfl Try.func43 rfl fun d => ⟨rfl, d, rfl⟩
noncomputable def reg48_0 := rg Try.f48.body [0]
noncomputable def reg48_1 := rg Try.f48.body [1, 0]
theorem z48 : List.range reg48_0.size = [0] ∧ List.range reg48_1.size = [0, 1, 2] := by refine ⟨?_, ?_⟩ <;> kernel_rfl
theorem code48_is : Try.f48.body = some (.seq (.region 0 reg48_0 false) (.seq (.region 1 reg48_1 false) (.ret))) := by kernel_rfl
theorem value_nil (b q : Nat) (v : Int) (w : World) (hc : w.cell? ⟨b, q, none⟩ = some (.int .i64 v)) : CallV Try.prog main V 48 #[.pointer (some ⟨b, q, none⟩)] w (.int .i64 v) w := by
 refine callW_in Try.func48 code48_is fun fr cs => ?_
 simp only [Try.ntmps48, ez, Nat.reduceAdd, Nat.reduceSub]
 refine Walk.gz z48 ?_
 refine Walk.callV (x := .int .i64 v) (W := w) ?_ hoA (by rfl) (by decide) rfl Try.func52 (by kernel_rfl) (by rfl) ?_
 ·walk_nrm
  exact load_nil b q v w hc
 walk_nrm
 refine Walk.gz z48 ?_
 exact Walk.ret1 rfl rfl Try.func48 rfl fun d => ⟨rfl, d, rfl⟩
theorem hload_nil (b h : Nat) (v : Int) (w : World) (hc : w.cell? ⟨b, h + 1, none⟩ = some (.int .i64 v)) : CallV Try.prog main V 45 #[.pointer (some ⟨b, h, none⟩), .nilIface] w (.int .i64 v) w := by
 refine callW_in Try.func45 code45_is fun fr cs => ?_
 simp only [Try.ntmps45, ez, Nat.reduceAdd, Nat.reduceSub]
 refine Walk.gz z45 ?_
 refine Walk.callV (x := .int .i64 v) (W := w) ?_ hoA (by rfl) (by decide) rfl Try.func52 (by kernel_rfl) (by rfl) ?_
 ·walk_nrm
  exact load_nil b (h + 1) v w hc
 walk_nrm
 refine Walk.gz z45 ?_
 exact Walk.ret1 rfl rfl Try.func45 rfl fun d => ⟨rfl, d, rfl⟩
end
end
section
def nxN (n j : Nat) : Int := if j + 1 = n then -1 else (j : Int) + 1
def firstN (n m : Nat) : Int := if m = n then -1 else (m : Int)
def sk0 (n : Nat) : Sk := ⟨0, heldX 0 0, nxN n, fun _ => 0⟩
theorem okH_zero (n : Nat) : OkH n 0 := by
 have h : nodeX 0 = -1 := by decide
 exact ⟨by omega, by omega, by omega, by omega⟩
theorem okH_one (n : Nat) (hn : 1 ≤ n) : OkH n (heldX 0 0) := by
 have h : heldX 0 0 = 1 := by decide
 have h2 : nodeX 1 = 0 := by decide
 rw [h]
 exact ⟨by omega, by omega, by omega, by omega⟩
structure NewI (kb nb n : Nat) (tg : Bool) (w0 w : World) (m : Nat) : Prop where
 k : w.heap[kb]? = some (.cells #[.bool tg, .int .i64 0, .bool tg, .int .i64 0, .slice (some ⟨nb, 0, none⟩) n n] 70)
 nd : ∃ arr : Array Value, w.heap[nb]? = some (.cells arr 95) ∧ ∀ i, i < n → arr[i * 2]? = some (.int .i64 (if i < m then 0 else nxN n i)) ∧ arr[i * 2 + 1]? = some (.int .i64 0)
 old : ∀ b, b < w0.heap.size → w.heap[b]? = w0.heap[b]?
 size : w.heap.size = w0.heap.size + 2
noncomputable def reg17_0 := rg Try.f17.body [0]
noncomputable def reg17_1 := rg Try.f17.body [1, 0]
noncomputable def reg17_2 := rg Try.f17.body [1, 1, 0]
noncomputable def reg17_3 := rg Try.f17.body [1, 1, 1, 0, 0]
noncomputable def reg17_4 := rg Try.f17.body [1, 1, 1, 0, 1, 0, 0, 0, 0]
noncomputable def reg17_6 := rg Try.f17.body [1, 1, 1, 0, 1, 0, 0, 1, 0, 0, 0]
noncomputable def reg17_7 := rg Try.f17.body [1, 1, 1, 0, 1, 0, 0, 1, 0, 0, 1]
noncomputable def reg17_5 := rg Try.f17.body [1, 1, 1, 0, 1, 0, 0, 1, 1]
noncomputable def reg17_8 := rg Try.f17.body [1, 1, 1, 1, 0]
theorem size17_8 : reg17_8.size = 7 := by kernel_rfl
noncomputable def reg17_9 := rg Try.f17.body [1, 1, 1, 1, 1, 0]
theorem z17 : List.range reg17_0.size = [0] ∧ List.range reg17_1.size = [0, 1, 2, 3, 4, 5, 6, 7, 8, 9, 10] ∧ List.range reg17_2.size = [0] ∧ List.range reg17_3.size = [0, 1, 2, 3, 4, 5, 6] ∧ List.range reg17_4.size = [0, 1] ∧ List.range reg17_5.size = [0, 1, 2] ∧ List.range reg17_6.size = [0, 1, 2, 3, 4, 5, 6, 7, 8] ∧ List.range reg17_7.size = [0, 1] ∧ List.range reg17_8.size = [0, 1, 2, 3, 4, 5, 6] ∧ List.range reg17_9.size = [0, 1] := by refine ⟨?_, ?_, ?_, ?_, ?_, ?_, ?_, ?_, ?_, ?_⟩ <;> kernel_rfl
theorem code17_is : Try.f17.body = some (.seq (.region 0 reg17_0 false) (.seq (.region 1 reg17_1 false) (.seq (.region 2 reg17_2 false) (.seq (.seq (.region 3 reg17_3 false) (.block 0 (.loop (.seq (.seq (.region 4 reg17_4 false) (.cond (.tmp 25 ) (.skip) (.exit 0))) (.seq (.block 1 (.seq (.region 6 reg17_6 false) (.region 7 reg17_7 false))) (.region 5 reg17_5 false)))))) (.seq (.region 8 reg17_8 true) (.seq (.region 9 reg17_9 false) (.ret))))))) := by kernel_rfl
noncomputable def hdNew (sz : Int) (tg : Bool) (kb n m : Nat) (u : Nat → Value) : Frame :=
 (base 17).at { tmps := #[.int .i64 sz, .bool tg, u 2, u 3, .pointer none, .pointer (some ⟨kb, 0, none⟩), .int .i64 (firstN n m), .int .i64 ((m : Int) - 1), u 8, u 9, u 10, u 11, u 12, u 13, u 14, u 15, u 16, u 17, u 18, u 19, u 20, u 21, u 22, u 23, u 24, u 25, u 26, u 27, u 28, u 29, u 30, u 31, u 32, u 33, u 34, u 35, u 36, u 37, u 38, u 39, u 40, u 41, u 42, u 43, u 44, u 45], defers := [] } [.code (.seq (.seq (.region 4 reg17_4 false) (.cond (.tmp 25 ) (.skip) (.exit 0))) (.seq (.block 1 (.seq (.region 6 reg17_6 false) (.region 7 reg17_7 false))) (.region 5 reg17_5 false))), .inLoop (.seq (.seq (.region 4 reg17_4 false) (.cond (.tmp 25 ) (.skip) (.exit 0))) (.seq (.block 1 (.seq (.region 6 reg17_6 false) (.region 7 reg17_7 false))) (.region 5 reg17_5 false))), .inBlock 0, .code (.seq (.region 8 reg17_8 true) (.seq (.region 9 reg17_9 false) (.ret)))]
theorem made2 (n j : Nat) (hj : j < n * 2) : (madeCells #[.int .i64 0, .int .i64 0] (n * 2))[j]? = some (.int .i64 0) := by
 unfold madeCells
 rw [Array.getElem?_map, Array.getElem?_range, if_pos hj]
 have : j % 2 = 0 ∨ j % 2 = 1 := by omega
 rcases this with h | h <;> simp [h]
section
variable {main : Bool} {V : Nat → Option Wait}
theorem new_round (sz : Int) (tg : Bool) (kb nb n m : Nat) (hne : kb ≠ nb) (hm : m + 1 ≤ n) (hn : n ≤ 65536) (u : Nat → Value) (cs : List Frame) (w0 w : World) (I : NewI kb nb n tg w0 w (m + 1)) (hA : ∀ b, Apart V b) (hkb : w0.heap.size ≤ kb) (hnb : w0.heap.size ≤ nb) :
  Walk Try.prog main (DR V) (fun g w' => (∃ u, g = G (hdNew sz tg kb n m u) cs) ∧ NewI kb nb n tg w0 w' m) (G (hdNew sz tg kb n (m + 1) u) cs) w := by
 have hsl : w.cell? ⟨kb, 4, none⟩ = some (.slice (some ⟨nb, 0, none⟩) n n) := (cell_of I.k 4).trans rfl
 obtain ⟨arr, h1, h2⟩ := I.nd
 have c1 := (cell_of h1 _).trans (h2 m (by omega)).1
 have z1 := frozen_of h1 (m * 2)
 have he : (((m + 1 : Nat) : Int) - 1) = (m : Int) := by omega
 have hin : m < n := hm
 have hi0 : (0 : Int) ≤ m := by omega
 have hi1 : decide ((m : Int) < n) = true := by simp; omega
 have hi3 : decide (m < n) = true := by simp; omega
 have hi4 : decide ((0 : Int) ≤ m) = true := by simp
 have hw1 : IntKind.wrap .i64 ((m : Int) - 1) = (m : Int) - 1 := by rw [IntKind.wrap_i64]; omega
 unfold hdNew
 rw [he]
 refine Walk.gz z17 ?_
 refine Walk.callV (x := .tuple #[]) (W := w.setCell ⟨nb, m * 2, none⟩ (.int .i64 (firstN n (m + 1)))) ?_ hoA (by rfl) (by decide) rfl Try.func43 (by kernel_rfl) (by rfl) ?_
 ·walk_nrm
  exact store_nil nb (m * 2) _ _ w c1 z1 ((hA nb).1 _ rfl)
 walk_nrm
 refine Walk.gz z17 ?_
 refine Walk.ctl rfl (fun w => stepG_inLoop) ?_
 refine .stop fun d => ⟨at_slots ?_, (heap_set_other _ _ _ _ hne).trans I.k, ⟨_, heap_set_self _ _ h1, fun i hi => ?_⟩, fun b hb => (heap_set_other _ _ _ _ (show b ≠ nb by omega)).trans (I.old b hb), (size_set ..).trans I.size⟩
 ·have hf : firstN n m = (m : Int) := by unfold firstN; rw [if_neg (by omega)]
  simp only [hdNew, hf]
  rfl
 ·have hl := (Array.getElem?_eq_some_iff.1 (h2 m (by omega)).1).1
  by_cases e : i = m
  ·subst e
   refine ⟨?_, by rw [Array.getElem?_setIfInBounds_ne (by omega)]; exact (h2 i hi).2⟩
   rw [Array.getElem?_setIfInBounds_self_of_lt hl, if_neg (by omega)]
   unfold firstN nxN
   by_cases e2 : i + 1 = n
   ·rw [if_pos e2, if_pos e2]
   ·rw [if_neg e2, if_neg e2]; simp
  ·refine ⟨?_, by rw [Array.getElem?_setIfInBounds_ne (by omega)]; exact (h2 i hi).2⟩
   rw [Array.getElem?_setIfInBounds_ne (by omega), (h2 i hi).1]
   by_cases e2 : i < m
   ·rw [if_pos (by omega), if_pos e2]
   ·rw [if_neg (by omega), if_neg e2]
theorem new_end (sz : Int) (tg : Bool) (kb nb n : Nat) (hne : kb ≠ nb) (hn1 : 1 ≤ n) (hn : n ≤ 65536) (u : Nat → Value) (c : Frame) (cs : List Frame) (w0 w : World) (I : NewI kb nb n tg w0 w 0) (hA : ∀ b, Apart V b) (hkb : w0.heap.size ≤ kb) :
  Walk Try.prog main (DR V) (fun g w' => g = G (c.finish (.pointer (some ⟨kb, 0, none⟩))) cs ∧ SkI kb nb n tg (sk0 n) w' ∧ (∀ b, b < w0.heap.size → w'.heap[b]? = w0.heap[b]?) ∧ w'.heap.size = w0.heap.size + 2) (G (hdNew sz tg kb n 0 u) (c :: cs)) w := by
 have c1 : w.cell? ⟨kb, 3, none⟩ = some (.int .i64 0) := (cell_of I.k 3).trans rfl
 have z1 := frozen_of I.k 3
 have he : (((0 : Nat) : Int) - 1) = -1 := by omega
 have hf : firstN n 0 = 0 := by unfold firstN; rw [if_neg (by omega)]; rfl
 unfold hdNew
 rw [he, hf]
 refine Walk.gz z17 ?_
 (refine Walk.drawnL (by kernel_rfl) size17_8 (by kernel_rfl) (by kernel_rfl) (by kernel_rfl) (by decide) ?_; simp only [List.range, List.range.loop]; repeat (first | (refine Cm.oq ?_) | (refine Cm.unw hoA (by rfl) ?_; walk_nrm)))
 refine Cm.callV (x := .int .i64 (heldX 0 0)) ?_ hoA (by rfl) rfl Try.func44 (by kernel_rfl) (by rfl) ?_
 ·intro w' he
  subst he
  walk_nrm
  exact newHeld_w 0 0 _
 walk_nrm
 refine Cm.done ?_
 intro rest hr
 refine Walk.callV (x := .tuple #[]) (W := w.setCell ⟨kb, 3, none⟩ (.int .i64 (heldX 0 0))) ?_ hoA (by rfl) (by decide) rfl Try.func43 (by kernel_rfl) (by rfl) ?_
 ·walk_nrm
  exact store_nil kb 3 _ _ w c1 z1 ((hA kb).1 _ rfl)
 refine hr _ _ ?_
 walk_nrm
 refine Walk.gz z17 ?_
 refine Walk.on1 rfl rfl Try.func17 rfl (.stop fun d => ⟨rfl, ⟨?_, ?_, okH_zero n, okH_one n hn1, fun i hi => ?_⟩, fun b hb => (heap_set_other _ _ _ _ (show b ≠ kb by omega)).trans (I.old b hb), (size_set ..).trans I.size⟩)
 ·refine (heap_set_self _ _ I.k).trans ?_
  simp [sk0]
 ·obtain ⟨arr, h1, h2⟩ := I.nd
  exact ⟨arr, (heap_set_other _ _ _ _ (Ne.symm hne)).trans h1, fun i hi => by
   have := h2 i hi
   rw [if_neg (by omega)] at this
   exact this⟩
 ·show -1 ≤ nxN n i ∧ nxN n i < n
  unfold nxN
  split <;> omega
def sizeN (sz : Int) : Nat := (min (max sz 1) 65536).toNat
theorem sizeN_le (sz : Int) : 1 ≤ sizeN sz ∧ sizeN sz ≤ 65536 ∧ ((sizeN sz : Nat) : Int) = min (max sz 1) 65536 := by
 unfold sizeN
 omega
theorem new_in (sz : Int) (tg : Bool) (cs : List Frame) (w : World) (hA : ∀ b, Apart V b) :
  Walk Try.prog main (DR V) (fun g w' => (∃ u, g = G (hdNew sz tg (w.heap.size + 1) (sizeN sz) (sizeN sz) u) cs) ∧ NewI (w.heap.size + 1) w.heap.size (sizeN sz) tg w w' (sizeN sz)) (G (Frame.enter Try.prog 17 #[.int .i64 sz, .bool tg] .normal) cs) w := by
 have hmx := @events_max_ints Try.prog
 have hmn := @events_min_ints Try.prog
 have hi1 := Option.some_get (show (Try.prog.info? 95).isSome = true by kernel_rfl)
 obtain ⟨q1, q2, q3⟩ := sizeN_le sz
 rw [enter_at _ Try.func17 code17_is]
 simp only [Try.ntmps17, ez, Nat.reduceAdd, Nat.reduceSub]
 refine Walk.gz z17 ?_
 try rw [← q3]
 clear q3 hmx hmn
 generalize hn : sizeN sz = n at *
 clear hn
 refine Walk.make 68 (.tmp 14) (.tmp 14) hoA (by rfl) (by decide) rfl 95 _ (.agg #[.int .i64 0, .int .i64 0]) 2 16 (by kernel_rfl) hi1.symm (by rfl) (by rfl) (by rfl) n (by rfl) (by rfl) (by omega) (by omega) ?_
 walk_nrm
 simp only [Value.cells]
 have s1 : (w.alloc (.cells (madeCells #[.int .i64 0, .int .i64 0] (n * 2)) 95)).heap.size = w.heap.size + 1 := by simp
 have o1 : ∀ b, b < w.heap.size → (w.alloc (.cells (madeCells #[.int .i64 0, .int .i64 0] (n * 2)) 95)).heap[b]? = w.heap[b]? := fun b hb => heap_new_lt _ _ hb
 have d1 := heap_alloc_new w (.cells (madeCells #[.int .i64 0, .int .i64 0] (n * 2)) 95)
 generalize hN : w.heap.size = N at *
 generalize w.alloc (.cells (madeCells #[.int .i64 0, .int .i64 0] (n * 2)) 95) = w1 at *
 repeat (first | (refine Walk.oq ?_; try walk_nrm) | (refine Walk.un ?_; walk_nrm))
 (refine Walk.oa ?_; try walk_nrm)
 have s2 : (w1.alloc (.cells #[.bool tg, .int .i64 0, .bool tg, .int .i64 0, .slice (some ⟨N, 0, none⟩) n n] 70)).heap.size = N + 2 := by simp [s1]
 have o2 : ∀ b, b < N + 1 → (w1.alloc (.cells #[.bool tg, .int .i64 0, .bool tg, .int .i64 0, .slice (some ⟨N, 0, none⟩) n n] 70)).heap[b]? = w1.heap[b]? := fun b hb => heap_new_lt _ _ (by omega)
 have d2 := heap_alloc_new w1 (.cells #[.bool tg, .int .i64 0, .bool tg, .int .i64 0, .slice (some ⟨N, 0, none⟩) n n] 70)
 rw [s1] at d2
 try simp only [s1]
 generalize w1.alloc (.cells #[.bool tg, .int .i64 0, .bool tg, .int .i64 0, .slice (some ⟨N, 0, none⟩) n n] 70) = w2 at *
 have hsl : w2.cell? ⟨N + 1, 4, none⟩ = some (.slice (some ⟨N, 0, none⟩) n n) := (cell_of d2 4).trans rfl
 have hw1 : IntKind.wrap .i64 ((n : Int) - 1) = (n : Int) - 1 := by rw [IntKind.wrap_i64]; omega
 refine Walk.gz z17 ?_
 refine Walk.ctl rfl (fun w => stepG_loop) ?_
 refine .stop fun d => ⟨at_slots ?_, ⟨d2, ⟨_, (o2 N (by omega)).trans d1, fun i hi => ?_⟩, fun b hb => (o2 b (by omega)).trans (o1 b (by omega)), by rw [hN]; exact s2⟩⟩
 ·have hf : firstN n n = -1 := by unfold firstN; rw [if_pos rfl]
  simp only [hdNew, hf]
  rfl
 ·rw [if_pos hi]
  exact ⟨made2 n _ (by omega), made2 n _ (by omega)⟩
theorem new_w (sz : Int) (tg : Bool) (w : World) (hA : ∀ b, Apart V b) :
  CallW Try.prog main V 17 #[.int .i64 sz, .bool tg] w (fun v w' => v = .pointer (some ⟨w.heap.size + 1, 0, none⟩) ∧ SkI (w.heap.size + 1) w.heap.size (sizeN sz) tg (sk0 (sizeN sz)) w' ∧ (∀ b, b < w.heap.size → w'.heap[b]? = w.heap[b]?) ∧ w'.heap.size = w.heap.size + 2) := by
 intro c cs
 obtain ⟨q1, q2, q3⟩ := sizeN_le sz
 refine (new_in sz tg (c :: cs) w hA).then ?_
 rintro g w1 ⟨⟨u, rfl⟩, I⟩
 generalize sizeN sz = n at *
 have loop : ∀ (m : Nat) (u : Nat → Value) (w1 : World), m ≤ n → NewI (w.heap.size + 1) w.heap.size n tg w w1 m →
   Walk Try.prog main (DR V) (fun g w' => ∃ v, (v = .pointer (some ⟨w.heap.size + 1, 0, none⟩) ∧ SkI (w.heap.size + 1) w.heap.size n tg (sk0 n) w' ∧ (∀ b, b < w.heap.size → w'.heap[b]? = w.heap[b]?) ∧ w'.heap.size = w.heap.size + 2) ∧ g = G (c.finish v) cs) (G (hdNew sz tg (w.heap.size + 1) n m u) (c :: cs)) w1 := by
  intro m
  induction m with
  | zero =>
   intro u w1 _ I
   refine (new_end sz tg _ _ n (by omega) q1 q2 u c cs w w1 I hA (by omega)).mono ?_
   rintro g w' ⟨rfl, h⟩
   exact ⟨_, ⟨rfl, h⟩, rfl⟩
  | succ m ih =>
   intro u w1 hm I
   refine (new_round sz tg _ _ n m (by omega) hm q2 u (c :: cs) w w1 I hA (by omega) (Nat.le_refl _)).then ?_
   rintro g w' ⟨⟨u', rfl⟩, I'⟩
   exact ih u' w' (by omega) I'
 exact loop n u w1 (Nat.le_refl _) I
end
end
end Go.Proofs.Ytdmpmoggacjgcaa
