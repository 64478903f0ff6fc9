/- Part 21. -/
import Derived.Test.YtdcjgmlgmjjogaaJ4
import Derived.Test.YtdcjgmlgmjjogaaJ17
import Derived.Test.YtdcjgmlgmjjogaaJ19
import Derived.Test.YtdcjgmlgmjjogaaJ20
set_option linter.unusedSimpArgs false
set_option linter.unusedVariables false
set_option maxHeartbeats 8000000
set_option maxRecDepth 100000
namespace Go.Proofs.Ytdcjgmlgmjjogaa
open Go.Conc Go.RowKit Go.Relay
open Go.ConcN (upd upd_ne upd_same)
theorem lonC_runN {L : La} : ∀ {N c c1 : Nat} {p : L.Sg × (Ans ⊕ L.D)} {s1 : L.Sg} {a : Ans}, lonC L N c p = some (c1, s1, a) → runN L N p = some (s1, a) := by
 intro N
 induction N with
 | zero =>
  rintro c c1 ⟨s, r⟩ s1 a h
  cases r with
  | inl x => simp [lonC] at h; simp [runN, h]
  | inr d => simp [lonC] at h
 | succ N ih =>
  rintro c c1 ⟨s, r⟩ s1 a h
  cases r with
  | inl x => simp [lonC] at h; simp [runN, h]
  | inr d => exact ih (c := c + 1) h
theorem Whole.more {L : La} {N c c2 : Nat} {s s2 : L.Sg} {l : List OpV} {az az2 : List Ans} (h : Whole L N c s l az c2 s2 az2) : ∃ t, az2 = az ++ t ∧ t.length = l.length := by
 induction h with
 | nil => exact ⟨[], by simp, rfl⟩
 | cons _ _ ih =>
  obtain ⟨t, e, h⟩ := ih
  exact ⟨_ :: t, by rw [e, List.append_assoc]; rfl, by simp [h]⟩
theorem Whole.uncons {L : La} {N c c1 c2 : Nat} {s s1 s2 : L.Sg} {o : OpV} {l : List OpV} {az az2 : List Ans} {a : Ans} (h : Whole L N c s (o :: l) az c2 s2 az2) (h1 : lonC L N c (L.enter s o) = some (c1, s1, a)) : Whole L N c1 s1 l (az ++ [a]) c2 s2 az2 := by
 cases h with
 | cons h2 k =>
  rw [h1] at h2
  cases h2
  exact k
def cntZ (s : Oz) : Int := IntKind.i64.wrap (s.ct 0 + 1)
def putZ (s : Oz) (x : Int) : Oz := { s with st := upd (upd s.st 0 1) 0 2, vl := upd s.vl 0 x }
def madeZ (s : Oz) (v : Int) : Oz := { st := upd (upd s.st 0 1) 0 2, vl := upd s.vl 0 (IntKind.i64.wrap (v + cntZ s)), ct := upd s.ct 0 (cntZ s) }
def goneZ (s : Oz) : Oz := { s with st := upd (upd s.st 0 1) 0 0, ct := upd s.ct 0 (cntZ s) }
def oneZ (c : Nat) (s : Oz) (o : OpV) : Nat × Oz × Ans :=
 if o.k = 1 then (if s.st 0 = 2 then (c + 2, s, (true, s.vl 0)) else (c + 1, s, (false, 0)))
 else if o.k = 2 then (if s.st 0 = 0 then (c + 3, putZ s o.b, (true, o.b)) else (c + 3, s, (false, s.vl 0)))
 else if o.k = 3 then (if s.st 0 = 2 then (c + 2, s, (true, s.vl 0)) else (c + 6, madeZ s o.b, (true, IntKind.i64.wrap (o.b + cntZ s))))
 else if o.k = 4 then (if s.st 0 = 2 then (c + 2, s, (true, s.vl 0)) else (c + 4, goneZ s, (false, -6)))
 else (c, s, (false, 0))
def lonZ : Nat → Nat → Oz × (Ans ⊕ OD) → Option (Nat × Oz × Ans)
 | _, c, (s, .inl a) => some (c, s, a)
 | 0, _, (_, .inr _) => none
 | n + 1, c, (s, .inr d) => lonZ n (c + 1) (onAct s d)
theorem lonZ_is (cb n : Nat) : ∀ (N c : Nat) (p : Oz × (Ans ⊕ OD)), lonC (onLa cb n) N c p = lonZ N c p
 | 0, _, (_, .inl _) => rfl
 | _ + 1, _, (_, .inl _) => rfl
 | 0, _, (_, .inr _) => rfl
 | N + 1, c, (s, .inr d) => lonZ_is cb n N (c + 1) (onAct s d)
theorem lonZ_step (N c : Nat) (s : Oz) (d : OD) : lonZ (N + 1) c (s, .inr d) = lonZ N (c + 1) (onAct s d) := rfl
theorem lonZ_done (N c : Nat) (s : Oz) (a : Ans) : lonZ N c (s, .inl a) = some (c, s, a) := by cases N <;> rfl
def OkZ (s : Oz) : Prop := s.st 0 = 0 ∨ s.st 0 = 2
theorem oneZ_is (cb c : Nat) (s : Oz) (o : OpV) (hs : OkZ s) (ho : o.a = 0) : lonC (onLa cb 1) 7 c ((onLa cb 1).enter s o) = some (oneZ c s o) := by
 refine (lonZ_is cb 1 7 c (onEnter 1 s o)).trans ?_
 have hb : ¬ (o.a < 0 ∨ ((1 : Nat) : Int) ≤ o.a) := by omega
 have ht : o.a.toNat = 0 := by omega
 unfold onEnter oneZ
 rw [if_neg hb, ht]
 rcases hs with hs | hs
 ·have e0 : (s.st 0 = 0) = True := eq_true hs
  have e2 : (s.st 0 = 2) = False := eq_false (by omega)
  clear hs
  split
  ·simp only [lonZ_step, lonZ_done, onAct, e2, if_false]
   rfl
  split
  ·simp only [lonZ_step, lonZ_done, onAct, e0, if_true, putZ]
   rfl
  split
  ·simp only [lonZ_step, lonZ_done, onAct, e2, e0, if_true, if_false, madeZ, cntZ, upd_same, Bool.false_eq_true]
   rfl
  split
  ·simp only [lonZ_step, lonZ_done, onAct, e2, e0, if_true, if_false, goneZ, cntZ]
   rfl
  ·exact lonZ_done _ _ _ _
 ·have e0 : (s.st 0 = 0) = False := eq_false (by omega)
  have e2 : (s.st 0 = 2) = True := eq_true hs
  clear hs
  split
  ·simp only [lonZ_step, lonZ_done, onAct, e2, if_true]
   rfl
  split
  ·simp only [lonZ_step, lonZ_done, onAct, e2, e0, if_true, if_false]
   rfl
  split
  ·simp only [lonZ_step, lonZ_done, onAct, e2, if_true]
   rfl
  split
  ·simp only [lonZ_step, lonZ_done, onAct, e2, if_true]
   rfl
  ·exact lonZ_done _ _ _ _
theorem oneZ_ok {c : Nat} {s : Oz} {o : OpV} (hs : OkZ s) : OkZ (oneZ c s o).2.1 := by
 unfold oneZ
 split
 ·split <;> exact hs
 split
 ·split
  ·exact .inr (by show upd (upd s.st 0 1) 0 2 0 = 2; exact upd_same _ _ _)
  ·exact hs
 split
 ·split
  ·exact hs
  ·exact .inr (by show upd (upd s.st 0 1) 0 2 0 = 2; exact upd_same _ _ _)
 split
 ·split
  ·exact hs
  ·exact .inl (by show upd (upd s.st 0 1) 0 0 0 = 0; exact upd_same _ _ _)
 ·exact hs
theorem oneZ_cnt (c : Nat) (s : Oz) (o : OpV) : (oneZ c s o).1 ≤ c + 6 ∧ c ≤ (oneZ c s o).1 := by
 unfold oneZ
 split
 ·split <;> exact ⟨by show c + _ ≤ _; omega, by show c ≤ c + _; omega⟩
 split
 ·split <;> exact ⟨by show c + _ ≤ _; omega, by show c ≤ c + _; omega⟩
 split
 ·split <;> exact ⟨by show c + _ ≤ _; omega, by show c ≤ c + _; omega⟩
 split
 ·split <;> exact ⟨by show c + _ ≤ _; omega, by show c ≤ c + _; omega⟩
 ·exact ⟨by show c ≤ _; omega, Nat.le_refl _⟩
theorem whole_oz (cb : Nat) : ∀ (l : List OpV) (c : Nat) (s : Oz) (az : List Ans), (∀ o ∈ l, o.a = 0) → OkZ s → ∃ c2 s2 az2, Whole (onLa cb 1) 7 c s l az c2 s2 az2
 | [], c, s, az, _, _ => ⟨c, s, az, @Whole.nil (onLa cb 1) 7 c s az⟩
 | o :: l, c, s, az, h, hs => by
  obtain ⟨c2, s2, az2, H⟩ := whole_oz cb l (oneZ c s o).1 (oneZ c s o).2.1 (az ++ [(oneZ c s o).2.2]) (fun o ho => h o (List.mem_cons_of_mem _ ho)) (oneZ_ok hs)
  exact ⟨c2, s2, az2, @Whole.cons (onLa cb 1) 7 _ _ _ _ _ _ _ _ _ _ _ (oneZ_is cb c s o hs (h o (List.mem_cons_self ..))) H⟩
theorem whole_cons {cb c c2 : Nat} {s s2 : Oz} {o : OpV} {l : List OpV} {az az2 : List Ans} (h : Whole (onLa cb 1) 7 c s (o :: l) az c2 s2 az2) (hs : OkZ s) (ho : o.a = 0) : Whole (onLa cb 1) 7 (oneZ c s o).1 (oneZ c s o).2.1 l (az ++ [(oneZ c s o).2.2]) c2 s2 az2 := Whole.uncons (L := onLa cb 1) h (oneZ_is cb c s o hs ho)
theorem okZ_zero : OkZ oz0 := .inl rfl
theorem alone_trace (cb : Nat) (ops : Nat → List OpV) (most : Int) (ha : ∀ o ∈ ops 0, o.a = 0) (hs : stuckO 1 (playO (onLa cb 1) oz0 ops 1 most []).1 = false) :
  ∃ c2 s2 az2, Whole (onLa cb 1) 7 0 oz0 (ops 0) [] c2 s2 az2 ∧ (playO (onLa cb 1) oz0 ops 1 most []).1.s = s2 ∧ ((playO (onLa cb 1) oz0 ops 1 most []).1.th 0).ans = az2 ∧ (playO (onLa cb 1) oz0 ops 1 most []).2.length = c2 ∧ az2.length = (ops 0).length := by
 obtain ⟨c2, s2, az2, H⟩ := whole_oz cb (ops 0) 0 oz0 [] ha okZ_zero
 obtain ⟨h1, h2, h3⟩ := play_alone most H hs
 obtain ⟨t, e, h⟩ := H.more
 exact ⟨c2, s2, az2, H, h1, h2, h3, by rw [e]; simpa using h⟩
section
section
variable {L : La}
structure Sd (K : Lb L) (e e' : K.E) (d : L.D) (w' : World) : Prop where
 aft : Aft K e d e'
 V : K.V e' = K.V e
 Stop : K.Stop e' = K.Stop e
 bot : K.bot e' = K.bot e
 w : K.w e' = w'
theorem LW.sd {K : Lb L} {e e' : K.E} {d : L.D} {w' : World} (m : Sd K e e' d w') {fr : Frame} {l : List Frame} (h : LW K e' (G fr (l ++ K.bot e'))) : Walk Try.prog K.main (DR (K.V e)) (K.Stop e) (G fr (l ++ K.bot e)) w' := by
 unfold LW at h
 rw [m.V, m.Stop, m.bot, m.w] at h
 exact h
theorem Sd.fz {sv : Value} {K : Lg L sv} {e0 : K.E} {e : (Fz K e0).E} {e' : K.E} {d : L.D} {w' : World} (m : Sd K.toLb e.1 e' d w') : ∃ e2 : (Fz K e0).E, Sd (Fz K e0).toLb e e2 d w' := by
 have ha := m.aft
 refine ⟨⟨e', fun b h => ?_⟩, ⟨ha.tgt, ha.fuel, ha.size, fun b hb => ⟨⟨(ha.mine b hb.1).1, hb.2⟩, (ha.mine b hb.1).2⟩⟩, m.V, m.Stop, m.bot, m.w⟩
 have hm := ha.mine b (e.2 b h).1
 exact ⟨hm.1, hm.2.trans (e.2 b h).2⟩
def SilN (K : Lg L .nilIface) : Prop := ∀ (e : K.E) (d : L.D), K.tgt e = (K.s e, .inr d) → ∃ e', Sd K.toLb e e' d (K.w e)
def SilC (p : Nat) (K : Lg L (.iface 46 (.pointer (some ⟨p, 0, none⟩)))) : Prop := ∀ (e : K.E) (d : L.D), K.tgt e = (K.s e, .inr d) → Apart (K.V e) p ∧ ∃ n : Nat, (K.w e).heap[p]? = some (.cells #[.int .i64 n] 48) ∧ n < 4611686018427387904 ∧ ∃ e', Sd K.toLb e e' d ((K.w e).setCell ⟨p, 0, none⟩ (.int .i64 ((n : Int) + 1)))
theorem SilN.fz {K : Lg L .nilIface} (h : SilN K) (e0 : K.E) : SilN (Fz K e0) := fun e d ht => by
 obtain ⟨e', m⟩ := h e.1 d ht
 exact m.fz
theorem SilC.fz {p : Nat} {K : Lg L (.iface 46 (.pointer (some ⟨p, 0, none⟩)))} (h : SilC p K) (e0 : K.E) : SilC p (Fz K e0) := fun e d ht => by
 obtain ⟨h1, n, h2, h3, e', m⟩ := h e.1 d ht
 exact ⟨h1, n, h2, h3, m.fz⟩
variable {main : Bool} {V : Nat → Option Wait} {Stop : Goroutine → World → Prop} {cs : List Frame} {base : World}
theorem nil_sil {R : L.Sg × Ans} (hA : ∀ b, Apart V b) (hsh : ∀ b, L.sh b → b < base.heap.size) : SilN (nilL (V := V) (base := base) hA hsh main Stop cs R) := fun e d ht => by
 have ht : NilE.tgt e = (NilE.s e, .inr d) := ht
 obtain ⟨n, hn, hr⟩ : ∃ n, NilE.fuel e = n + 1 ∧ runN L n (L.act (NilE.s e) d) = some R := by
  have h := NilE.run e
  rw [ht] at h
  cases hf : NilE.fuel e with
  | zero => rw [hf] at h; cases h
  | succ n => rw [hf] at h; exact ⟨n, rfl, h⟩
 exact ⟨{ w := NilE.w e, s := NilE.s e, tgt := L.act (NilE.s e) d, fuel := n, inv := NilE.inv e, size := NilE.size e, old := NilE.old e, run := hr }, ⟨rfl, show n < NilE.fuel e by omega, Nat.le_refl _, fun b h => ⟨h, rfl⟩⟩, rfl, rfl, rfl, rfl⟩
theorem cnt_sil {p : Nat} {R : Nat × L.Sg × Ans} (hA : ∀ b, Apart V b) (hsh : ∀ b, L.sh b → b < base.heap.size) (hp : ¬ L.sh p) (hlo : p < base.heap.size) : SilC p (cntL (V := V) (base := base) (p := p) hA hsh hp hlo main Stop cs R) := fun e d ht => by
 have ht : CntE.tgt e = (CntE.s e, .inr d) := ht
 obtain ⟨n, hn, hr⟩ : ∃ n, CntE.fuel e = n + 1 ∧ lonC L n (CntE.n e + 1) (L.act (CntE.s e) d) = some R := by
  have h := CntE.run e
  rw [ht] at h
  cases hf : CntE.fuel e with
  | zero => rw [hf] at h; cases h
  | succ n => rw [hf] at h; exact ⟨n, rfl, h⟩
 have hoth : ∀ b, b ≠ p → ((CntE.w e).setCell ⟨p, 0, none⟩ (.int .i64 ((CntE.n e : Int) + 1))).heap[b]? = (CntE.w e).heap[b]? := fun b hb => by simp [World.setCell, Array.getElem?_modify, Ne.symm hb]
 have hsz : ((CntE.w e).setCell ⟨p, 0, none⟩ (.int .i64 ((CntE.n e : Int) + 1))).heap.size = (CntE.w e).heap.size := by simp
 have hcn : ((CntE.w e).setCell ⟨p, 0, none⟩ (.int .i64 ((CntE.n e : Int) + 1))).heap[p]? = some (.cells #[.int .i64 ((CntE.n e + 1 : Nat) : Int)] 48) := by
  have h := CntE.cnt e
  simp [World.setCell, Array.getElem?_modify, h]
 have hfew := CntE.few e
 have hs0 := CntE.size e
 exact ⟨hA p, CntE.n e, CntE.cnt e, by omega, { w := (CntE.w e).setCell ⟨p, 0, none⟩ (.int .i64 ((CntE.n e : Int) + 1)), s := CntE.s e, tgt := L.act (CntE.s e) d, fuel := n, n := CntE.n e + 1, inv := L.stable (CntE.inv e) fun b hb => hoth b fun x => hp (x ▸ hb), size := by rw [hsz]; exact CntE.size e, old := fun b h1 h2 h3 => (hoth b h3).trans (CntE.old e b h1 h2 h3), cnt := hcn, few := by omega, run := hr }, ⟨rfl, show n < CntE.fuel e by omega, Nat.le_of_eq hsz.symm, fun b h => ⟨⟨h.1, Nat.lt_of_lt_of_eq h.2 hsz.symm⟩, hoth b (fun x => by have := h.1; omega)⟩⟩, rfl, rfl, rfl, rfl⟩
end
noncomputable def reg43_0 := rg Try.f43.body [0]
noncomputable def reg43_1 := rg Try.f43.body [1, 0, 0]
noncomputable def reg43_2 := rg Try.f43.body [1, 0, 1, 0]
noncomputable def reg43_3 := rg Try.f43.body [1, 1, 0]
noncomputable def reg43_4 := rg Try.f43.body [1, 1, 1, 0]
theorem z43 : List.range reg43_0.size = [0, 1] ∧ List.range reg43_1.size = [0, 1] ∧ List.range reg43_2.size = [0, 1] ∧ List.range reg43_3.size = [0, 1, 2, 3, 4, 5, 6, 7, 8] ∧ List.range reg43_4.size = [0, 1, 2, 3, 4, 5] := by refine ⟨?_, ?_, ?_, ?_, ?_⟩ <;> kernel_rfl
theorem code43_is : Try.f43.body = some (.seq (.region 0 reg43_0 false) (.seq (.seq (.region 1 reg43_1 false) (.cond (.tmp 10 ) (.region 2 reg43_2 false) (.skip))) (.seq (.region 3 reg43_3 false) (.seq (.region 4 reg43_4 false) (.ret))))) := by kernel_rfl
noncomputable def reg44_0 := rg Try.f44.body [0]
noncomputable def reg44_1 := rg Try.f44.body [1, 0]
theorem z44 : List.range reg44_0.size = [0, 1] ∧ List.range reg44_1.size = [0, 1] := by refine ⟨?_, ?_⟩ <;> kernel_rfl
theorem code44_is : Try.f44.body = some (.seq (.region 0 reg44_0 false) (.seq (.region 1 reg44_1 false) (.ret))) := by kernel_rfl
section
variable {cb m : Nat}
theorem call2_ok {sv : Value} (K : Lg (onLa cb m) sv) (i : Nat) (v : Int) : MkOK K true i v 44 #[] := by
 intro e ht fr l hp hl hk
 have ha : (#[] ++ #[sv] ++ #[] : Array Value) = #[sv] := rfl
 have hkk := hk (.tuple #[.int .i64 5, .bool false]) e (.inr ⟨5, rfl, ht⟩)
 rw [ha]
 unfold LW at hkk ⊢
 rw [enter_at _ Try.func44 code44_is]
 simp only [Try.ntmps44, ez, Nat.reduceAdd, Nat.reduceSub]
 repeat (first | refine Walk.cx ?_ | (refine Walk.cReg ?_; simp only [z44]) | (refine Walk.oq ?_; try walk_nrm) | (refine Walk.un ?_; walk_nrm))
 exact Walk.on2 rfl rfl Try.func44 rfl hkk
theorem call1_nil (K : Lg (onLa cb m) .nilIface) (hS : SilN K) (i : Nat) (hi : i < m) (v kk aa cc : Int) (ob pb : Nat) (hcap : ∀ e : K.E, (K.w e).heap[ob]? = some (.cells #[onP cb i] 35) ∧ (K.w e).heap[pb]? = some (.cells #[.int .i64 kk, .int .i64 aa, .int .i64 v, .int .i64 cc] 34)) :
  MkOK K false i v 43 #[.pointer (some ⟨ob, 0, none⟩), .pointer (some ⟨pb, 0, none⟩)] := by
 intro e ht fr l hp hl hk
 obtain ⟨ms, hu⟩ := undStepperN
 have hn1 := fun w => run_neq_nilIface (P := Try.prog) (w := w) 69 hu
 have hn2 := fun w es => ev_neq_nilIface (P := Try.prog) (w := w) 69 es hu
 replace ht : K.tgt e = (K.s e, .inr (.m5 i v)) := ht
 have ha : (#[] ++ #[.nilIface] ++ #[.pointer (some ⟨ob, 0, none⟩), .pointer (some ⟨pb, 0, none⟩)] : Array Value) = #[.nilIface, .pointer (some ⟨ob, 0, none⟩), .pointer (some ⟨pb, 0, none⟩)] := rfl
 obtain ⟨e1, m1⟩ := hS e (.m5 i v) ht
 have ht1 : K.tgt e1 = (K.s e1, .inr (.m6 i (IntKind.i64.wrap (v + Oz.ct (K.s e1) i)))) := m1.aft.tgt
 have hI : OzI cb m (K.s e1) (K.w e) := m1.w ▸ K.inv e1
 have hst := ostate1_w (main := K.main) (V := K.V e) (K.s e1) i hi (K.w e) hI
 have hkk := LW.sd m1 (hk (.tuple #[.int .i64 (IntKind.i64.wrap (v + Oz.ct (K.s e1) i)), .bool true]) e1 (.inl ⟨_, rfl, ht1⟩))
 obtain ⟨q1, q2⟩ := hcap e
 have c1 : (K.w e).cell? ⟨ob, 0, none⟩ = some (onP cb i) := (cell_of q1 0).trans rfl
 have c2 : (K.w e).cell? ⟨pb, 2, none⟩ = some (.int .i64 v) := (cell_of q2 2).trans rfl
 unfold onP at *
 rw [ha]
 clear hk q1 q2 hI
 unfold LW
 rw [enter_at _ Try.func43 code43_is]
 simp only [Try.ntmps43, ez, Nat.reduceAdd, Nat.reduceSub]
 repeat (first | refine Walk.cx ?_ | (refine Walk.cReg ?_; simp only [z43]) | (refine Walk.oq ?_; try walk_nrm) | (refine Walk.un ?_; walk_nrm))
 refine Walk.callV (x := .tuple #[.int .i64 (Oz.st (K.s e1) i), .int .i64 (Oz.vl (K.s e1) i), .int .i64 (Oz.ct (K.s e1) i)]) (W := K.w e) ?_ (ho_of (by conv => lhs; whnf) (by kernel_rfl)) (by rfl) (by decide) rfl Try.func15 (by kernel_rfl) (by rfl) ?_
 ·walk_nrm
  exact hst
 walk_nrm
 repeat (first | refine Walk.cx ?_ | (refine Walk.cReg ?_; simp only [z43]) | (refine Walk.oq ?_; try walk_nrm) | (refine Walk.un ?_; walk_nrm))
 exact Walk.on2 rfl rfl Try.func43 rfl hkk
theorem call1_cnt (p : Nat) (K : Lg (onLa cb m) (.iface 46 (.pointer (some ⟨p, 0, none⟩)))) (hS : SilC p K) (i : Nat) (hi : i < m) (v kk aa cc : Int) (ob pb : Nat) (hcap : ∀ e : K.E, (K.w e).heap[ob]? = some (.cells #[onP cb i] 35) ∧ (K.w e).heap[pb]? = some (.cells #[.int .i64 kk, .int .i64 aa, .int .i64 v, .int .i64 cc] 34)) :
  MkOK K false i v 43 #[.pointer (some ⟨ob, 0, none⟩), .pointer (some ⟨pb, 0, none⟩)] := by
 intro e ht fr l hp hl hk
 obtain ⟨ms, hu⟩ := undStepperN
 have hn1 := fun w => run_neq_iface (P := Try.prog) (w := w) 69 46 (.pointer (some ⟨p, 0, none⟩)) hu
 have hn2 := fun w es => ev_neq_iface (P := Try.prog) (w := w) 69 46 (.pointer (some ⟨p, 0, none⟩)) es hu
 replace ht : K.tgt e = (K.s e, .inr (.m5 i v)) := ht
 have ha : (#[] ++ #[.iface 46 (.pointer (some ⟨p, 0, none⟩))] ++ #[.pointer (some ⟨ob, 0, none⟩), .pointer (some ⟨pb, 0, none⟩)] : Array Value) = #[.iface 46 (.pointer (some ⟨p, 0, none⟩)), .pointer (some ⟨ob, 0, none⟩), .pointer (some ⟨pb, 0, none⟩)] := rfl
 obtain ⟨hap, n, hcn, hfew, e1, m1⟩ := hS e (.m5 i v) ht
 have ht1 : K.tgt e1 = (K.s e1, .inr (.m6 i (IntKind.i64.wrap (v + Oz.ct (K.s e1) i)))) := m1.aft.tgt
 have hI : OzI cb m (K.s e1) ((K.w e).setCell ⟨p, 0, none⟩ (.int .i64 ((n : Int) + 1))) := m1.w ▸ K.inv e1
 have hst := ostate1_w (main := K.main) (V := K.V e) (K.s e1) i hi ((K.w e).setCell ⟨p, 0, none⟩ (.int .i64 ((n : Int) + 1))) hI
 have hkk := LW.sd m1 (hk (.tuple #[.int .i64 (IntKind.i64.wrap (v + Oz.ct (K.s e1) i)), .bool true]) e1 (.inl ⟨_, rfl, ht1⟩))
 have hcap1 := hcap e1
 rw [m1.w] at hcap1
 obtain ⟨q1, q2⟩ := hcap1
 have c1 := (cell_of q1 0).trans (show _ = some (onP cb i) from rfl)
 have c2 := (cell_of q2 2).trans (show _ = some (Value.int .i64 v) from rfl)
 have hz : (K.w e).frozen? ⟨p, 0, none⟩ = false := frozen_of hcn 0
 have hsw := steps_w (main := K.main) (V := K.V e) p n (K.w e) hcn hz (by omega) (by omega) hap
 unfold onP at *
 rw [ha]
 clear hk q1 q2 hI hcn hz
 generalize (K.w e).setCell ⟨p, 0, none⟩ (.int .i64 ((n : Int) + 1)) = w1 at *
 unfold LW
 rw [enter_at _ Try.func43 code43_is]
 simp only [Try.ntmps43, ez, Nat.reduceAdd, Nat.reduceSub]
 repeat (first | refine Walk.cx ?_ | (refine Walk.cReg ?_; simp only [z43]) | (refine Walk.oq ?_; try walk_nrm) | (refine Walk.un ?_; walk_nrm))
 refine Walk.invokeSteps p (ho_of (by conv => lhs; whnf) (by kernel_rfl)) (by rfl) (by decide) rfl rfl ?_
 refine (hsw _ _).then ?_
 rintro g' w' ⟨v', ⟨rfl, dd, rfl⟩, rfl⟩
 refine Walk.back ?_ dd
 refine Walk.finish (ho_of (by conv => lhs; whnf) (by kernel_rfl)) ?_
 walk_nrm
 repeat (first | refine Walk.cx ?_ | (refine Walk.cReg ?_; simp only [z43]) | (refine Walk.oq ?_; try walk_nrm) | (refine Walk.un ?_; walk_nrm))
 refine Walk.callV (x := .tuple #[.int .i64 (Oz.st (K.s e1) i), .int .i64 (Oz.vl (K.s e1) i), .int .i64 (Oz.ct (K.s e1) i)]) (W := w1) ?_ (ho_of (by conv => lhs; whnf) (by kernel_rfl)) (by rfl) (by decide) rfl Try.func15 (by kernel_rfl) (by rfl) ?_
 ·walk_nrm
  exact hst
 walk_nrm
 repeat (first | refine Walk.cx ?_ | (refine Walk.cReg ?_; simp only [z43]) | (refine Walk.oq ?_; try walk_nrm) | (refine Walk.un ?_; walk_nrm))
 exact Walk.on2 rfl rfl Try.func43 rfl hkk
end
end
end Go.Proofs.Ytdcjgmlgmjjogaa
namespace Go.Relay
section
open Go.Conc Go.RowKit
open Go.ConcN (upd upd_ne upd_same)
section
variable {P : Program} {main : Bool} {V : Nat → Option Wait} {ops : Array Oper} {Z : World → Prop} {w : World} {K : Act → Prop} {i : Nat} {rest : List Nat} {a : Act} {o : Oper}
theorem Cm.opqZ (ho : ops[i]? = some o) (hw : Region.wanted o (yielded ops a.tmps) = true) (he : ∀ w, Z w → ∀ d, ∀ e ∈ (execOp a.eval o).events P (w.at d) #[], EvR V e)
  (h : ∃ a', (∀ w, Z w → ∀ d, ∀ K' : Act → World → Prop, K' a' (w.at d) → uponK o a K' ((execOp a.eval o).run P (w.at d))) ∧ Cm P main V ops Z K rest a') : Cm P main V ops Z K (i :: rest) a := by
 obtain ⟨a', h1, h2⟩ := h
 exact Cm.opq ho hw he h1 h2
theorem pre_skip {q : Nat → Bool} {i : Nat} (h : q i = false) (vals : Nat → Value) (a : Act) : puts ops vals (fun j => decide (j < i + 1) && q j) a = puts ops vals (fun j => decide (j < i) && q j) a :=
 puts_congr (fun j _ => ⟨by
  by_cases e : j = i
  ·subst e; simp [h]
  ·have : (decide (j < i + 1) : Bool) = decide (j < i) := by by_cases hl : j < i <;> simp [hl] <;> omega
   rw [this], fun _ => rfl⟩) a
theorem pre_take {m : Nat} {q : Nat → Bool} (hc : calmB ops m = true) (hi : i < m) (h : q i = true) (vals : Nat → Value) (ho : ops[i]? = some o) (a : Act) : puts ops vals (fun j => decide (j < i + 1) && q j) a = (puts ops vals (fun j => decide (j < i) && q j) a).put o.dst (vals i) := by
 rw [← puts_upd hc hi vals (f := fun j => decide (j < i) && q j) (by simp) ho a]
 refine puts_congr (fun j _ => ⟨?_, fun _ => rfl⟩) a
 by_cases e : j = i
 ·subst e; simp [h, upd_same]
 ·rw [upd_ne _ _ e]
  have : (decide (j < i + 1) : Bool) = decide (j < i) := by by_cases hl : j < i <;> simp [hl] <;> omega
  rw [this]
theorem cm_valsQ {m : Nat} {q : Nat → Bool} (hz : Z w) (hc : calmB ops m = true) : ∀ (r i : Nat) (vals : Nat → Value) (a0 : Act), i + r = m → Cm P main V ops Z K ((List.range' i r).filter q) (puts ops vals (fun j => decide (j < i) && q j) a0) →
  ∃ vals', (∀ j, j < i → vals' j = vals j) ∧ (∀ j o, i ≤ j → j < m → q j = true → ops[j]? = some o → CondU P main V ops Z o (puts ops vals' (fun x => decide (x < j) && q x) a0) (vals' j)) ∧ K (puts ops vals' (fun j => decide (j < m) && q j) a0)
 | 0, i, vals, a0, hi, h => by
  have hi : i = m := hi
  refine ⟨vals, fun _ _ => rfl, fun j o hj hjm _ ho => ?_, ?_⟩
  ·omega
  ·rw [← hi]; exact h
 | r + 1, i, vals, a0, hi, h => by
  rw [List.range'_succ] at h
  cases hq : q i with
  | false =>
   rw [List.filter_cons_of_neg (by simp [hq]), ← pre_skip hq] at h
   obtain ⟨vals', k1, k2, k3⟩ := cm_valsQ hz hc r (i + 1) vals a0 (by omega) h
   refine ⟨vals', fun j hj => k1 j (by omega), fun j o hj hjm hqj ho => ?_, k3⟩
   by_cases e : j = i
   ·rw [e, hq] at hqj; cases hqj
   ·exact k2 j o (by omega) hjm hqj ho
  | true =>
   rw [List.filter_cons_of_pos hq] at h
   obtain ⟨o, a', ho, hn, hcond⟩ := h
   generalize hX : puts ops vals (fun j => decide (j < i) && q j) a0 = X at *
   obtain ⟨v, hv, hcond⟩ : ∃ v, a' = X.put o.dst v ∧ CondU P main V ops Z o X v := by
    rcases hcond with ⟨h1, h2⟩ | ⟨h1, h2, h3⟩ | ⟨h1, f, fn, args, ats, x, e1, e2, e3, e4, e5, e6⟩
    ·exact ⟨undef, h2, .inl ⟨h1, rfl⟩⟩
    ·have h0 := h3 w hz 0
     obtain ⟨v, hv⟩ : ∃ v, a' = X.put o.dst v := by
      revert h0
      generalize (execOp _ o).run P (w.at 0) = rr
      intro h0
      unfold uponK at h0
      split at h0
      ·exact ⟨_, h0.1.symm⟩
      ·exact ⟨_, h0.1.symm⟩
      ·exact h0.elim
     exact ⟨v, hv, .inr (.inl ⟨h1, h2, hv ▸ h3⟩)⟩
    ·exact ⟨x, e6, .inr (.inr ⟨h1, f, fn, args, ats, e1, e2, e3, e4, e5⟩)⟩
   have hpre : puts ops (upd vals i v) (fun j => decide (j < i) && q j) a0 = X := by
    rw [← hX]
    exact puts_congr (fun j _ => ⟨rfl, fun hd => upd_ne _ _ (by have := of_decide_eq_true (Bool.and_eq_true _ _ ▸ hd : _ ∧ _).1; omega)⟩) a0
   have hs := pre_take hc (by omega) hq (upd vals i v) ho a0
   rw [hpre, upd_same, ← hv] at hs
   rw [← hs] at hn
   obtain ⟨vals', k1, k2, k3⟩ := cm_valsQ hz hc r (i + 1) (upd vals i v) a0 (by omega) hn
   refine ⟨vals', fun j hj => (k1 j (by omega)).trans (upd_ne _ _ (by omega)), fun j o' hj hjm hqj ho' => ?_, k3⟩
   by_cases e : j = i
   ·subst e
    rw [ho] at ho'
    cases ho'
    have e1 : puts ops vals' (fun x => decide (x < j) && q x) a0 = X := by
     rw [← hpre]
     exact puts_congr (fun x _ => ⟨rfl, fun hd => k1 x (by have := of_decide_eq_true (Bool.and_eq_true _ _ ▸ hd : _ ∧ _).1; omega)⟩) a0
    have e2 : vals' j = v := (k1 j (by omega)).trans (upd_same _ _ _)
    rw [e1, e2]
    exact hcond
   ·exact k2 j o' (by omega) hjm hqj ho'
end
section
variable {P : Program} {main : Bool} {V : Nat → Option Wait} {Stop : Goroutine → World → Prop} {b : Frame} {k : List Item} {cs : List Frame} {ops : Array Oper} {w : World} {a : Act}
theorem Walk.calmOpG {Z : World → Prop} {m i : Nat} (hz : Z w) {o : Oper} {vals : Nat → Value} {f g : Nat → Bool} {rest : List Nat} (hc : calmB ops m = true) (hk : b.kind ≠ .early) (hi : i < m) (ho : ops[i]? = some o) (hd : ∀ e ∈ o.after, Region.binds .any e = true → f e.on = true)
  (hg : ∀ (j : Nat) (p : Oper) (t : Nat), ops[j]? = some p → p.dst = some t → t ∈ o.looksAt ops → j < i → g j = true)
  (hcond : CondU P main V ops Z o (puts ops vals g a) (vals i)) (hr' : Walk P main (DR V) Stop (G (b.at ((puts ops vals f a).put o.dst (vals i)) (.inRegion ops rest :: k)) cs) w) :
  Walk P main (DR V) Stop (G (b.at (puts ops vals f a) (.inRegion ops (i :: rest) :: k)) cs) w := by
 obtain ⟨hsel, ⟨t0, ht0, hself⟩, hdist⟩ := calm_at hc hi ho
 have hlook : ∀ t ∈ o.looksAt ops, (puts ops vals f a).tmps[t]? = (puts ops vals g a).tmps[t]? := fun t ht => slot_congr _ a a rfl fun j hj hjd => by
  have hjl := List.mem_range.1 hj
  have hoj := Array.getElem?_eq_getElem hjl
  have hne : j ≠ i := fun e => by
   subst e
   rw [dst_of ho, ht0] at hjd
   cases hjd
   exact hself ht
  rw [hoj] at hjd
  obtain ⟨h1, h2⟩ := (hdist j _ hoj hne).2 t hjd ht
  exact ⟨(waits_at h2 ho hd).trans (hg j _ t hoj hjd ht h1).symm, rfl⟩
 obtain ⟨s1, s2, s3⟩ := same_look hlook hsel
 have hsz : (puts ops vals f a).tmps.size = (puts ops vals g a).tmps.size := by
  unfold puts
  rw [putsL_size, putsL_size]
 have hput : ∀ v, (puts ops vals g a).put o.dst v = (puts ops vals g a).put o.dst (vals i) → (puts ops vals f a).put o.dst v = (puts ops vals f a).put o.dst (vals i) := fun v e => by
  refine act_ext (fun t => ?_) (by rw [put_defers, put_defers])
  rw [put_slot, put_slot]
  split
  ·next e' =>
   have h1 : ((puts ops vals g a).put o.dst v).tmps[t]? = ((puts ops vals g a).put o.dst (vals i)).tmps[t]? := by rw [e]
   rw [put_slot, put_slot, if_pos e', if_pos e'] at h1
   by_cases hl : t < (puts ops vals f a).tmps.size
   ·rw [Array.getElem?_eq_getElem (hsz ▸ hl)] at h1
    simp only [Option.map_some] at h1
    rw [Array.getElem?_eq_getElem hl]
    exact h1
   ·rw [Array.getElem?_eq_none (by omega)]; rfl
  ·rfl
 rcases hcond with ⟨c1, c2⟩ | ⟨c1, c2, c3⟩ | ⟨c1, f', fn, args, ats, e1, e2, e3, e4, e5⟩
 ·rw [← s2] at c1
  rw [c2] at hr'
  exact Walk.ctl rfl (fun w => stepG_unwanted ho c1) hr'
 ·rw [← s2] at c1
  rw [← s1] at c2 c3
  refine Walk.opq ho c1 hk (c2 w hz) fun d' K hK => ?_
  have h3 := c3 w hz d'
  revert h3
  generalize (execOp (puts ops vals f a).eval o).run P (w.at d') = rr
  intro h3
  unfold uponK at h3 ⊢
  split at h3
  ·obtain ⟨x1, rfl⟩ := h3
   refine hK _ ?_
   rw [hput _ x1]; exact hr'
  ·obtain ⟨x1, rfl⟩ := h3
   refine hK _ ?_
   rw [hput _ x1]; exact hr'
  ·exact h3.elim
 ·rw [← s2] at c1
  have hargs : args.map (puts ops vals f a).eval = args.map (puts ops vals g a).eval := Array.map_congr_left fun x hx => s3 x (by rw [e1]; simp [Op.operands, Call.operands, hx])
  rw [← hargs] at e5
  exact Walk.callV (e5 w hz) ho c1 hk e1 e2 e3 e4 hr'
def apartB (ops : Array Oper) (iA iB m : Nat) : Bool := decide (iA < iB) && decide (iB < m) && waitsB ops iB iA && (List.range m).all fun i => decide (i = iA) || decide (i = iB) || (ops[i]?).any fun o =>
 !(o.looksAt ops).any (fun t => (ops[iA]?).bind (·.dst) == some t) && !(o.looksAt ops).any (fun t => (ops[iB]?).bind (·.dst) == some t)
def quietQ (iA iB : Nat) (j : Nat) : Bool := !decide (j = iA) && !decide (j = iB)
theorem look_full {m i : Nat} {o : Oper} {vals vals' : Nat → Value} {f g : Nat → Bool} (hc : calmB ops m = true) (hi : i < m) (ho : ops[i]? = some o) (hd : ∀ e ∈ o.after, Region.binds .any e = true → f e.on = true) (hg : ∀ j, j < i → g j = true ∧ vals j = vals' j) (a : Act) :
  ∀ y ∈ o.op.operands, (puts ops vals f a).eval y = (puts ops vals' g a).eval y := by
 obtain ⟨hsel, ⟨t0, ht0, hself⟩, hdist⟩ := calm_at hc hi ho
 have hlook : ∀ t ∈ o.looksAt ops, (puts ops vals f a).tmps[t]? = (puts ops vals' g a).tmps[t]? := fun t ht => slot_congr _ a a rfl fun j hj hjd => by
  have hjl := List.mem_range.1 hj
  have hoj := Array.getElem?_eq_getElem hjl
  have hne : j ≠ i := fun e => by
   subst e
   rw [dst_of ho, ht0] at hjd
   cases hjd
   exact hself ht
  rw [hoj] at hjd
  obtain ⟨h1, h2⟩ := (hdist j _ hoj hne).2 t hjd ht
  obtain ⟨g1, g2⟩ := hg j h1
  exact ⟨(waits_at h2 ho hd).trans g1.symm, g2⟩
 exact (same_look hlook hsel).2.2
theorem Walk.drawnT {id m iA iB : Nat} {Z : World → Prop} {w1 : World} {oA oB : Oper} {vA : Value} (PB : Value → World → Prop) (hm : P.follows .mixedOrders = true) (hsz : ops.size = m + 1) (hlow : lowB ops = true) (hc : calmB ops m = true) (hl : lastB ops m = true) (hap : apartB ops iA iB m = true) (hk : b.kind ≠ .early)
  (hoA : ops[iA]? = some oA) (hoB : ops[iB]? = some oB) (hz : Z w) (hz1 : Z w1) (hz2 : ∀ v w', PB v w' → Z w')
  (h : Cm P main V ops Z (fun aF => (∀ x, (∀ y ∈ oA.op.operands, x.eval y = aF.eval y) → OpW P main V Stop b k cs ops iA (fun x' w' => x' = x.put oA.dst vA ∧ ∃ d, w' = w1.at d) x w) ∧
   (∀ x, (∀ y ∈ oB.op.operands, x.eval y = (aF.put oA.dst vA).eval y) → OpW P main V Stop b k cs ops iB (fun x' w' => ∃ v w2, PB v w2 ∧ x' = x.put oB.dst v ∧ ∃ d, w' = w2.at d) x w1) ∧
   ∀ v w2, PB v w2 → OpW P main V Stop b k cs ops m (fun a' w' => Walk P main (DR V) Stop (G (b.at a' (.inRegion ops [] :: k)) cs) w') ((aF.put oA.dst vA).put oB.dst v) w2) ((List.range m).filter (quietQ iA iB)) a) :
  Walk P main (DR V) Stop (G (b.at a (.code (.region id ops true) :: k)) cs) w := by
 unfold apartB at hap
 simp only [Bool.and_eq_true, decide_eq_true_eq] at hap
 obtain ⟨⟨⟨hAB, hBm⟩, hBA⟩, hq⟩ := hap
 rw [List.range_eq_range'] at h
 have hzero : puts ops (fun _ => undef) (fun j => decide (j < 0) && quietQ iA iB j) a = a := putsL_none _ a fun j _ => by simp
 rw [← hzero] at h
 obtain ⟨vals, _, hcond, hA, hB, hC⟩ := cm_valsQ (q := quietQ iA iB) hz hc m 0 (fun _ => undef) a (by omega) h
 clear h hzero
 generalize hvA : upd vals iA vA = va
 have hva : ∀ j, j ≠ iA → va j = vals j := fun j hj => by rw [← hvA]; exact upd_ne _ _ hj
 have hvaA : va iA = vA := by rw [← hvA]; exact upd_same _ _ _
 have qA : ∀ j, quietQ iA iB j = true ↔ j ≠ iA ∧ j ≠ iB := fun j => by simp [quietQ]
 have quiet : ∀ (vs : Nat → Value) (f : Nat → Bool) (i : Nat) (o : Oper) (rest : List Nat) (ww : World), (∀ j, j ≠ iA → j ≠ iB → vs j = vals j) → Z ww → i < m → i ≠ iA → i ≠ iB → f i = false → ops[i]? = some o → (∀ e ∈ o.after, Region.binds .any e = true → f e.on = true) →
   Walk P main (DR V) Stop (G (b.at (puts ops vs (upd f i true) a) (.inRegion ops rest :: k)) cs) ww → Walk P main (DR V) Stop (G (b.at (puts ops vs f a) (.inRegion ops (i :: rest) :: k)) cs) ww := by
  intro vs f i o rest ww hvs hzw him h1 h2 hf ho hd hr
  rw [puts_upd hc him vs hf ho a] at hr
  have hcd := hcond i o (Nat.zero_le _) him ((qA i).2 ⟨h1, h2⟩) ho
  have e : puts ops vals (fun x => decide (x < i) && quietQ iA iB x) a = puts ops vs (fun x => decide (x < i) && quietQ iA iB x) a := puts_congr (fun j _ => ⟨rfl, fun hd => by
   have := (qA j).1 (Bool.and_eq_true _ _ ▸ hd : _ ∧ _).2
   exact (hvs j this.1 this.2).symm⟩) a
  rw [e, ← hvs i h1 h2] at hcd
  refine Walk.calmOpG hzw hc hk him ho hd (fun j p t hj ht hm hji => ?_) hcd hr
  have hh := List.all_eq_true.1 hq i (List.mem_range.2 him)
  rw [ho] at hh
  simp only [decide_eq_false h1, decide_eq_false h2, Bool.false_or, Option.any_some, Bool.and_eq_true, Bool.not_eq_true'] at hh
  have hjA : j ≠ iA := fun e' => by
   subst e'
   rw [hj] at hh
   have : (o.looksAt ops).any (fun t => (some p).bind (·.dst) == some t) = true := List.any_eq_true.2 ⟨t, hm, by simp [ht]⟩
   rw [this] at hh
   exact absurd hh.1 (by simp)
  have hjB : j ≠ iB := fun e' => by
   subst e'
   rw [hj] at hh
   have : (o.looksAt ops).any (fun t => (some p).bind (·.dst) == some t) = true := List.any_eq_true.2 ⟨t, hm, by simp [ht]⟩
   rw [this] at hh
   exact absurd hh.2 (by simp)
  simp [hji, (qA j).2 ⟨hjA, hjB⟩]
 have eA : puts ops va (upd (fun j => decide (j < m) && quietQ iA iB j) iA true) a = (puts ops vals (fun j => decide (j < m) && quietQ iA iB j) a).put oA.dst vA := by
  rw [puts_upd hc (by omega) va (by simp [quietQ]) hoA a, hvaA]
  congr 1
  exact puts_congr (fun j _ => ⟨rfl, fun hd => hva j ((qA j).1 (Bool.and_eq_true _ _ ▸ hd : _ ∧ _).2).1⟩) a
 refine Walk.drawnJ (Inv := fun f x w' => (f m = true ∧ (∀ j, j < m → f j = true) ∧ Walk P main (DR V) Stop (G (b.at x (.inRegion ops [] :: k)) cs) w') ∨ (f m = false ∧ f iB = false ∧ x = puts ops va f a ∧ ∃ d, w' = (if f iA then w1 else w).at d) ∨
  (f m = false ∧ f iB = true ∧ f iA = true ∧ ∃ v w2, PB v w2 ∧ x = puts ops (upd va iB v) f a ∧ ∃ d, w' = w2.at d)) hm hlow (fun d => .inr (.inl ⟨rfl, rfl, (puts_zero va a).symm, d, rfl⟩)) ?_ ?_
 ·rintro f i o x w' hI hC' hf ho hd rest hr
  have hi : i < m + 1 := by have := (Array.getElem?_eq_some_iff.1 ho).1; omega
  rcases hI with ⟨h1, h2, _⟩ | ⟨h1, h2, rfl, d, rfl⟩ | ⟨h1, h2, h3, v, w2, hPB, rfl, d, rfl⟩
  ·exfalso
   by_cases e : i = m
   ·rw [e, h1] at hf; cases hf
   ·rw [h2 i (by omega)] at hf; cases hf
  ·refine Walk.back ?_ d
   by_cases e : i = m
   ·subst e
    have := last_all hl hC' ho hd (i - iB) iB (by omega) (by omega)
    rw [h2] at this; cases this
   by_cases eiA : i = iA
   ·subst eiA
    rw [hoA] at ho
    cases ho
    rw [hf, if_neg (by simp)]
    refine hA _ (look_full hc (by omega) hoA hd (fun j hj => ⟨by simp [quietQ]; omega, hva j (by omega)⟩) a) rest ?_
    rintro x' w' ⟨rfl, d', rfl⟩
    refine hr _ _ (.inr (.inl ⟨by rw [upd_ne _ _ (by omega)]; exact h1, by rw [upd_ne _ _ (by omega)]; exact h2, ?_, d', by rw [upd_same]; rfl⟩))
    rw [puts_upd hc (by omega) va hf hoA a, hvaA]
   by_cases eiB : i = iB
   ·subst eiB
    rw [hoB] at ho
    cases ho
    have hfA : f iA = true := waits_at hBA hoB hd
    rw [hfA, if_pos rfl]
    refine hB _ ?_ rest ?_
    ·rw [← eA]
     exact look_full hc hBm hoB hd (fun j hj => ⟨by
      by_cases ej : j = iA
      ·rw [ej, upd_same]
      ·rw [upd_ne _ _ ej]
       simp [quietQ, ej]; omega, rfl⟩) a
    ·rintro x' w' ⟨v, w2, hPB, rfl, d', rfl⟩
     refine hr _ _ (.inr (.inr ⟨by rw [upd_ne _ _ (by omega)]; exact h1, upd_same _ _ _, by rw [upd_ne _ _ (by omega)]; exact hfA, v, w2, hPB, ?_, d', rfl⟩))
     rw [puts_upd hc hBm (upd va i v) hf hoB a, upd_same]
     congr 1
     exact puts_congr (fun j _ => ⟨rfl, fun hj => (upd_ne _ _ (fun e' => by rw [e', hf] at hj; cases hj)).symm⟩) a
   ·refine quiet va f i o rest _ (fun j h _ => hva j h) ?_ (by omega) eiA eiB hf ho hd ?_
    ·split
     ·exact hz1
     ·exact hz
    ·refine (hr _ (((if f iA then w1 else w)).at ((if f iA then w1 else w)).drawn) (.inr (.inl ⟨by rw [upd_ne _ _ (by omega)]; exact h1, by rw [upd_ne _ _ (Ne.symm eiB)]; exact h2, rfl, _, by rw [upd_ne _ _ (Ne.symm eiA)]⟩)))
  ·refine Walk.back ?_ d
   by_cases e : i = m
   ·subst e
    have hall := last_all hl hC' ho hd
    have ef : puts ops (upd va iB v) f a = ((puts ops vals (fun j => decide (j < i) && quietQ iA iB j) a).put oA.dst vA).put oB.dst v := by
     have e1 : puts ops va (upd (fun j => decide (j < i) && quietQ iA iB j) iA true) a = puts ops (upd va iB v) (upd (fun j => decide (j < i) && quietQ iA iB j) iA true) a := puts_congr (fun j _ => ⟨rfl, fun hj => (upd_ne _ _ (fun e' => by
      rw [e', upd_ne _ _ (by omega)] at hj
      simp [quietQ] at hj)).symm⟩) a
     have e2 := puts_upd hc hBm (upd va iB v) (f := upd (fun j => decide (j < i) && quietQ iA iB j) iA true) (by rw [upd_ne _ _ (by omega)]; simp [quietQ]) hoB a
     rw [upd_same, ← e1, eA] at e2
     rw [← e2]
     refine puts_congr (fun j hj => ⟨?_, fun _ => rfl⟩) a
     by_cases ej : j = iB
     ·rw [ej, upd_same, h2]
     ·rw [upd_ne _ _ ej]
      by_cases ej2 : j = iA
      ·rw [ej2, upd_same, h3]
      ·rw [upd_ne _ _ ej2]
       by_cases hji : j < i
       ·rw [hall (i - j) j (by omega) (by omega)]
        simp [hji, quietQ, ej, ej2]
       ·have : j = i := by omega
        rw [this, hf]; simp
    rw [ef]
    refine hC v w2 hPB rest fun a' w' hw' => hr a' w' (.inl ⟨upd_same _ _ _, fun j hj => ?_, hw'⟩)
    rw [upd_ne _ _ (by omega)]
    exact hall (i - j) j (by omega) (by omega)
   ·have n1 : i ≠ iA := fun e' => by rw [e', h3] at hf; cases hf
    have n2 : i ≠ iB := fun e' => by rw [e', h2] at hf; cases hf
    refine quiet (upd va iB v) f i o rest _ (fun j h h' => (upd_ne _ _ h').trans (hva j h)) (hz2 v w2 hPB) (by omega) n1 n2 hf ho hd ?_
    exact hr _ (w2.at w2.drawn) (.inr (.inr ⟨by rw [upd_ne _ _ (by omega)]; exact h1, by rw [upd_ne _ _ (Ne.symm n2)]; exact h2, by rw [upd_ne _ _ (Ne.symm n1)]; exact h3, v, w2, hPB, rfl, _, rfl⟩))
 ·rintro f x w' hI hall
  rcases hI with ⟨_, _, h3⟩ | ⟨h1, _⟩ | ⟨h1, _⟩
  ·exact h3
  ·rw [hall m (by omega)] at h1; cases h1
  ·rw [hall m (by omega)] at h1; cases h1
end
end
end Go.Relay
