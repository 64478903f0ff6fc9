/- Part 19. -/
import Derived.Test.YtbmijpkdghkbbaaJ15
import Derived.Test.YtbmijpkdghkbbaaJ17
import Derived.Test.YtbmijpkdghkbbaaJ18
set_option linter.unusedSimpArgs false
set_option linter.unusedVariables false
set_option linter.unusedVariables false
set_option maxHeartbeats 8000000
set_option maxRecDepth 100000
namespace Go.Proofs.Ytbmijpkdghkbbaa
open Go.Conc Go.RowKit Go.Relay
open Go.ConcN (upd upd_ne upd_same)
section
section
variable {rb sb n : Nat} {sv : Value}
theorem gaD_snoc (a m v : Int) (ls : List Int) : gaD n a m (ls ++ [v]) = if (ls.length : Int) + 1 < m ∧ good (a + ls.length + 1) then .inr (.a1 (a + ls.length + 1) m (ls ++ [v])) else .inl ⟨true, 0, ls ++ [v]⟩ := by
  have e : ((ls ++ [v]).length : Int) = (ls.length : Int) + 1 := by simp
  unfold gaD
  rw [e, ← Int.add_assoc]
theorem ga_refused (K : Lg (rgLa rb sb n) sv) (a mo m : Int) (ha : good a) (hmo : min mo n = m) (fr : Frame) (l : List Frame) (hk : ∀ x e', GaOut K x e' → LW K.toLb e' (G (fr.finish x) (l ++ K.bot e'))) (sl : Value) (ls : List Int) (e : K.E) (u : Nat → Value) (hm : (ls.length : Int) < m) (hls : ls ≠ []) (hg : ¬ good (a + ls.length)) (h6 : ls.length ≤ 65536) (hL : GatL K e sl ls) (ht : K.tgt e = (K.s e, .inl ⟨true, 0, ls⟩)) : LW K.toLb e (G (hdGa rb sv sl a mo u) (fr :: (l ++ K.bot e))) := by
  have hmn := @events_min_ints Try.prog
  have hkk := hk (.tuple #[sl, .int .i64 0]) e ⟨sl, 0, ls, rfl, hL, h6, ht⟩
  have hsz := size_w (main := K.main) (V := K.V e) (K.w e) (K.inv e)
  have hget := get_no (main := K.main) (V := K.V e) (.pointer (some ⟨rb, 0, none⟩)) sv (a + ls.length) hg (K.w e)
  obtain ⟨⟨sa, sc, rfl⟩, _, _⟩ := hL
  have h0 : ls.length ≠ 0 := fun h => hls (List.eq_nil_of_length_eq_zero h)
  have h1 : decide ((ls.length : Int) < m) = true := by simp [hm]
  have h2 : ((ls.length : Int) == 0) = false := by simp [h0, hls]
  have h3 : (ls.length == 0) = false := by simp [h0, hls]
  have ha1 := ha.1
  have ha2 := ha.2
  have hw : IntKind.wrap .i64 (a + (ls.length : Int)) = a + ls.length := by rw [IntKind.wrap_i64]; omega
  clear hls hg ht
  generalize ls.length = j at *
  unfold LW at hkk ⊢
  unfold hdGa
  repeat (first | refine Walk.cx ?_ | (refine Walk.cReg ?_; simp only [z37]) | (refine Walk.oq ?_; try walk_nrm) | (refine Walk.un ?_; walk_nrm))
  refine Walk.callV (x := .int .i64 (n : Nat)) (W := K.w e) ?_ (ho_of (by conv => lhs; whnf) (by kernel_rfl)) (by rfl) (by decide) rfl Try.func20 (by kernel_rfl) (by rfl) ?_
  · walk_nrm
    exact hsz
  walk_nrm
  repeat (first | refine Walk.cx ?_ | (refine Walk.cReg ?_; simp only [z37]) | (refine Walk.oq ?_; try walk_nrm) | (refine Walk.un ?_; walk_nrm))
  refine Walk.callV (x := .tuple #[.int .i64 0, .int .i64 1]) (W := K.w e) ?_ (ho_of (by conv => lhs; whnf) (by kernel_rfl)) (by rfl) (by decide) rfl Try.func34 (by kernel_rfl) (by rfl) ?_
  · walk_nrm
    exact hget
  walk_nrm
  repeat (first | refine Walk.cx ?_ | (refine Walk.cReg ?_; simp only [z37]) | (refine Walk.oq ?_; try walk_nrm) | (refine Walk.un ?_; walk_nrm))
  exact Walk.on2 rfl rfl Try.func37 rfl hkk
theorem ga_round (K : Lg (rgLa rb sb n) sv) (a mo m : Int) (ha : good a) (hmo : min mo n = m) (fr : Frame) (l : List Frame) (hp : Plain fr) (hl : ∀ f ∈ l, Plain f) (hk : ∀ x e', GaOut K x e' → LW K.toLb e' (G (fr.finish x) (l ++ K.bot e'))) (sl : Value) (ls : List Int) (e : K.E) (u : Nat → Value) (hm : (ls.length : Int) < m) (hg : good (a + ls.length)) (h6 : ls.length ≤ 65536) (hL : GatL K e sl ls) (ht : K.tgt e = (K.s e, .inr (.a1 (a + ls.length) m ls)))
    (ih : ∀ (e' : K.E) (u' : Nat → Value) (sl' : Value) (v : Int), GatL K e' sl' (ls ++ [v]) → K.tgt e' = (K.s e', gaD n a m (ls ++ [v])) → LW K.toLb e' (G (hdGa rb sv sl' a mo u') (fr :: (l ++ K.bot e')))) :
    LW K.toLb e (G (hdGa rb sv sl a mo u) (fr :: (l ++ K.bot e))) := by
  have hmn := @events_min_ints Try.prog
  have hiI := Option.some_get (show (Try.prog.info? 2).isSome = true by kernel_rfl)
  have hsz := size_w (main := K.main) (V := K.V e) (K.w e) (K.inv e)
  have hget := SCall.fz K (get_s (Fz K e) (fz0 K e) (a + ls.length) hg (.a1 (a + ls.length) m ls) (.a2 (a + ls.length) m ls) (fun v => .a3 (a + ls.length) m ls v) (.inl (endA ls 6)) (.inl (endA ls 10)) (fun v => gaD n a m (ls ++ [v])) (fun _ => rfl) (fun _ => rfl) (fun s v => by rw [gaD_snoc]; rfl) ht)
  have h1 : decide ((ls.length : Int) < m) = true := by simp [hm]
  have ha1 := ha.1
  have ha2 := ha.2
  have hw : IntKind.wrap .i64 (a + (ls.length : Int)) = a + ls.length := by rw [IntKind.wrap_i64]; omega
  have h0 : ls = [] ↔ ls.length = 0 := ⟨fun h => by rw [h]; rfl, List.eq_nil_of_length_eq_zero⟩
  obtain ⟨⟨sa, sc, rfl⟩, hrow, hmine⟩ := hL
  have hlm : (ls.map fun z => Value.int .i64 z).length = ls.length := by simp
  clear ht
  unfold LW hdGa
  generalize hj : ls.length = j at *
  repeat (first | refine Walk.cx ?_ | (refine Walk.cReg ?_; simp only [z37]) | (refine Walk.oq ?_; try walk_nrm) | (refine Walk.un ?_; walk_nrm))
  refine Walk.callV (x := .int .i64 (n : Nat)) (W := K.w e) ?_ (ho_of (by conv => lhs; whnf) (by kernel_rfl)) (by rfl) (by decide) rfl Try.func20 (by kernel_rfl) (by rfl) ?_
  · walk_nrm
    exact hsz
  walk_nrm
  clear hsz
  repeat (first | refine Walk.cx ?_ | (refine Walk.cReg ?_; simp only [z37]) | (refine Walk.oq ?_; try walk_nrm) | (refine Walk.un ?_; walk_nrm))
  refine LW.callS (K := K.toLb) (e := e) (l := fr :: l) (f := 34) (Q := fun x e' => ∃ h : Kept K e e', GetOut (Fz K e) (.inl (endA ls 6)) (.inl (endA ls 10)) (fun v => gaD n a m (ls ++ [v])) x ⟨e', h⟩) ?_ (ho_of (by conv => lhs; whnf) (by kernel_rfl)) (by rfl) (by decide) rfl Try.func34 (by kernel_rfl) (by rfl) ⟨rfl, rfl, _, Try.func37⟩ (plain_cons hp hl) ?_
  · walk_nrm
    exact hget
  rintro x e2 ⟨hkept, v, er, rfl, hcase⟩
  clear hget
  have hrow2 := row_same hrow (w' := K.w e2) fun b hb => (hkept b (hmine b hb)).2
  have hmine2 : ∀ b, (Value.slice sa j sc).ownBlock = some b → K.mine e2 b := fun b hb => (hkept b (hmine b hb)).1
  have hcase' : (er ≠ 0 ∧ K.tgt e2 = (K.s e2, .inl (endA ls er))) ∨ (er = 0 ∧ K.tgt e2 = (K.s e2, gaD n a m (ls ++ [v]))) := by
    rcases hcase with ⟨h, h'⟩ | ⟨h, h'⟩ | ⟨h, h'⟩
    · exact .inl ⟨by omega, by rw [h]; exact h'⟩
    · exact .inl ⟨by omega, by rw [h]; exact h'⟩
    · exact .inr ⟨h, h'⟩
  clear hcase hrow hmine hkept
  rcases hcase' with ⟨her, t2⟩ | ⟨rfl, t2⟩
  · have hb1 : (er == 0) = false := by simp [her]
    by_cases hls : ls = []
    · have hj0 := h0.1 hls
      subst hj0
      subst hls
      have hkk := hk (.tuple #[.slice none 0 0, .int .i64 er]) e2 ⟨.slice none 0 0, er, [], rfl, ⟨⟨_, _, rfl⟩, ⟨rfl, .inl ⟨rfl, rfl⟩⟩, fun b h => by simp [Value.ownBlock] at h⟩, by simp, by rw [hb1]; exact t2⟩
      clear ih hk
      unfold LW at hkk ⊢
      walk_nrm
      repeat (first | refine Walk.cx ?_ | (refine Walk.cReg ?_; simp only [z37]) | (refine Walk.oq ?_; try walk_nrm) | (refine Walk.un ?_; walk_nrm))
      exact Walk.on2 rfl rfl Try.func37 rfl hkk
    · have hj0 : j ≠ 0 := fun h => hls (h0.2 h)
      have hkk := hk (.tuple #[.slice sa j sc, .int .i64 0]) e2 ⟨.slice sa j sc, 0, ls, rfl, ⟨⟨sa, sc, by rw [hj]⟩, by rw [hj]; exact hrow2, hmine2⟩, by omega, by rw [t2]; unfold endA; rw [if_neg hls]; rfl⟩
      have hb2 : ((j : Int) == 0) = false := by simp [hj0]
      have hb3 : (j == 0) = false := by simp [hj0]
      clear ih hk
      unfold LW at hkk ⊢
      walk_nrm
      repeat (first | refine Walk.cx ?_ | (refine Walk.cReg ?_; simp only [z37]) | (refine Walk.oq ?_; try walk_nrm) | (refine Walk.un ?_; walk_nrm))
      exact Walk.on2 rfl rfl Try.func37 rfl hkk
  · clear hk
    unfold LW
    walk_nrm
    repeat (first | refine Walk.cx ?_ | (refine Walk.cReg ?_; simp only [z37]) | (refine Walk.oq ?_; try walk_nrm) | (refine Walk.un ?_; walk_nrm))
    (refine Walk.oa ?_; try walk_nrm)
    have s1 : ((K.w e2).alloc (.cells #[.int .i64 v] 2)).heap.size = (K.w e2).heap.size + 1 := by simp
    have o1 : ∀ b, b < (K.w e2).heap.size → ((K.w e2).alloc (.cells #[.int .i64 v] 2)).heap[b]? = (K.w e2).heap[b]? := fun b hb => heap_new_lt _ _ hb
    have d1 := heap_alloc_new (K.w e2) (.cells #[.int .i64 v] 2)
    have r1 := row_same hrow2 (w' := (K.w e2).alloc (.cells #[.int .i64 v] 2)) fun b hb => o1 b (hrow2.lt b hb).2
    generalize hw1 : (K.w e2).alloc (.cells #[.int .i64 v] 2) = w1 at *
    repeat (first | (refine Walk.oq ?_; try walk_nrm) | (refine Walk.un ?_; walk_nrm))
    refine Walk.append (.tmp 38) (.tmp 40) 22 (ho_of (by conv => lhs; whnf) (by kernel_rfl)) (by rfl) (by decide) rfl 0 2 _ (.int .i64 0) 1 8 (by kernel_rfl) hiI.symm (by rfl) (by rfl) (by rfl) (by rfl) (by decide) (.slice sa j sc) j (ls.map fun z => .int .i64 z) rfl r1 ⟨(K.w e2).heap.size, 0, none⟩ 1 1 [.int .i64 v] rfl (by rfl) (fun i x hx => ?_) (by simp [Value.oneCell']) (by decide) (by simp [maxLen]; omega) (by omega) (by omega) (fun g hg => (K.mineA e2 g (hmine2 g hg)).1) (fun g cap w4 r4 hg4 at4 lt4 => ?_)
    · rw [add_none, Nat.zero_add]
      refine (cell_of d1 i).trans ?_
      simpa using hx
    have z4 := hg4.size
    obtain ⟨e3, m3⟩ := K.own e2 (w' := w4) (by omega) (fun b hb hbm => (hg4.block b (by omega) fun h => hbm (hmine2 b h.symm)).trans (o1 b hb))
    have hL3 : GatL K e3 (.slice (some ⟨g, 0, none⟩) (j + 1) cap) (ls ++ [v]) := by
      have hl : (ls ++ [v]).length = j + 1 := by simp [hj]
      refine ⟨⟨_, _, by rw [hl]⟩, ?_, fun b hb => ?_⟩
      · rw [hl, m3.w, List.map_append]
        exact r4
      · have hb : some g = some b := hb
        cases hb
        rcases at4 with h | h
        · exact (m3.mine g).2 (.inl (hmine2 g h))
        · exact (m3.mine g).2 (.inr ⟨by omega, lt4⟩)
    have t3 : K.tgt e3 = (K.s e3, gaD n a m (ls ++ [v])) := by rw [m3.tgt, m3.s]; exact t2
    have hih := fun u => ih e3 u _ v hL3 t3
    clear ih hL3 t3 t2 r4 r1 d1 o1 hrow2
    refine LW.to (l := fr :: l) m3 ?_
    unfold LW at hih ⊢
    walk_nrm
    repeat (first | refine Walk.cx ?_ | (refine Walk.cReg ?_; simp only [z37]) | (refine Walk.oq ?_; try walk_nrm) | (refine Walk.un ?_; walk_nrm))
    refine Walk.ctl rfl (fun w => stepG_inLoop) ?_
    refine slots_walk (F := fun u => G (hdGa rb sv (.slice (some ⟨g, 0, none⟩) (j + 1) cap) a mo u) (fr :: (l ++ K.bot e3))) hih ?_
    simp only [hdGa]
    rfl
end
end
section
section
variable {rb sb n : Nat} {sv : Value}
theorem ga_loop (K : Lg (rgLa rb sb n) sv) (a mo m : Int) (ha : good a) (hmo : min mo n = m) (hn : n ≤ 65536) (fr : Frame) (l : List Frame) (hp : Plain fr) (hl : ∀ f ∈ l, Plain f) (hk : ∀ x e', GaOut K x e' → LW K.toLb e' (G (fr.finish x) (l ++ K.bot e'))) :
    ∀ (r : Nat) (ls : List Int) (sl : Value) (e : K.E) (u : Nat → Value), (m - ls.length).toNat = r → ls.length ≤ 65536 → GatL K e sl ls → K.tgt e = (K.s e, gaD n a m ls) → LW K.toLb e (G (hdGa rb sv sl a mo u) (fr :: (l ++ K.bot e))) := by
  intro r
  induction r with
  | zero =>
    intro ls sl e u hr h6 hL ht
    unfold gaD at ht
    rw [if_neg (by omega)] at ht
    exact ga_out K a mo m hmo fr l hk sl ls e u (by omega) h6 hL ht
  | succ r ih =>
    intro ls sl e u hr h6 hL ht
    have hm : (ls.length : Int) < m := by omega
    by_cases hg : good (a + ls.length)
    · have ht2 := ht
      unfold gaD at ht2
      rw [if_pos ⟨hm, hg⟩] at ht2
      refine ga_round K a mo m ha hmo fr l hp hl hk sl ls e u hm hg h6 hL ht2 fun e' u' sl' v hL' ht' => ?_
      have hlen : (ls ++ [v]).length = ls.length + 1 := by simp
      exact ih (ls ++ [v]) sl' e' u' (by rw [hlen]; omega) (by rw [hlen]; omega) hL' ht'
    · unfold gaD at ht
      rw [if_neg fun h => hg h.2] at ht
      refine ga_refused K a mo m ha hmo fr l hk sl ls e u hm (fun h => ?_) hg h6 hL ht
      subst h
      exact hg (by simpa using ha)
def gbD (n : Nat) (a b : Int) : Ans ⊕ RD := if good a then (if min b n ≤ 0 then .inl ⟨true, 0, []⟩ else .inr (.a1 a (min b n) [])) else .inl ⟨false, 1, []⟩
theorem gbD_is {n : Nat} {a b : Int} (ha : good a) : gbD n a b = gaD n a (min b n) [] := by
  have h0 : a + (([] : List Int).length : Int) = a := by simp
  unfold gbD gaD
  rw [if_pos ha, h0]
  by_cases h : min b (n : Int) ≤ 0
  · rw [if_pos h, if_neg (by simp only [List.length_nil]; omega)]
  · rw [if_neg h, if_pos ⟨by simp only [List.length_nil]; omega, ha⟩]
theorem gather_s (K : Lg (rgLa rb sb n) sv) (e : K.E) (a b : Int) (ht : K.tgt e = (K.s e, gbD n a b)) : SCall K.toLb 37 #[.pointer (some ⟨rb, 0, none⟩), sv, .int .i64 a, .int .i64 b] e (GaOut K) := by
  intro fr l hp hl hk
  have hn := (K.inv e).pos
  have hyes := holds_yes (main := K.main) (V := K.V e) (K.w e) (K.inv e) a
  have hno := holds_no (main := K.main) (V := K.V e) (.pointer (some ⟨rb, 0, none⟩)) (K.w e) a
  have hL0 : GatL K e (.slice none 0 0) [] := ⟨⟨_, _, rfl⟩, ⟨rfl, .inl ⟨rfl, rfl⟩⟩, fun b h => by simp [Value.ownBlock] at h⟩
  unfold LW
  rw [enter_at _ Try.func37 code37_is]
  simp only [Try.ntmps37, ez, Nat.reduceAdd, Nat.reduceSub]
  repeat (first | refine Walk.cx ?_ | (refine Walk.cReg ?_; simp only [z37]) | (refine Walk.oq ?_; try walk_nrm) | (refine Walk.un ?_; walk_nrm))
  by_cases h2 : good a
  · rw [gbD_is h2] at ht
    have hlp := fun u => ga_loop K a b (min b n) h2 rfl hn.2 fr l hp hl hk _ [] (.slice none 0 0) e u rfl (by simp) hL0 ht
    refine Walk.callV (x := .bool true) (W := K.w e) ?_ (ho_of (by conv => lhs; whnf) (by kernel_rfl)) (by rfl) (by decide) rfl Try.func65 (by kernel_rfl) (by rfl) ?_
    · walk_nrm
      exact hyes h2
    walk_nrm
    clear hyes hno hL0 ht
    repeat (first | refine Walk.cx ?_ | (refine Walk.cReg ?_; simp only [z37]) | (refine Walk.oq ?_; try walk_nrm) | (refine Walk.un ?_; walk_nrm))
    refine Walk.ctl rfl (fun w => stepG_loop) ?_
    unfold LW at hlp
    refine slots_walk (F := fun u => G (hdGa rb sv (.slice none 0 0) a b u) (fr :: (l ++ K.bot e))) hlp ?_
    simp only [hdGa]
    rfl
  · unfold gbD at ht
    rw [if_neg h2] at ht
    have hkk := hk (.tuple #[.slice none 0 0, .int .i64 1]) e ⟨.slice none 0 0, 1, [], rfl, hL0, by simp, ht⟩
    refine Walk.callV (x := .bool false) (W := K.w e) ?_ (ho_of (by conv => lhs; whnf) (by kernel_rfl)) (by rfl) (by decide) rfl Try.func65 (by kernel_rfl) (by rfl) ?_
    · walk_nrm
      exact hno h2
    walk_nrm
    clear hyes hno hL0 ht
    unfold LW at hkk
    repeat (first | refine Walk.cx ?_ | (refine Walk.cReg ?_; simp only [z37]) | (refine Walk.oq ?_; try walk_nrm) | (refine Walk.un ?_; walk_nrm))
    exact Walk.on2 rfl rfl Try.func37 rfl hkk
end
end
section
def DoOK (L : La) (f : FuncId) (first cap : Array Value) : Prop := ∀ (sv : Value) (K : Lg L sv) (e : K.E) (th : Int) (op : OpV), K.tgt e = L.enter (K.s e) th op →
  SCall K.toLb f (first ++ #[sv, .int .i64 th, opVal op] ++ cap) e (fun v e' => ∃ a sl, K.tgt e' = (K.s e', .inl a) ∧ v = ansV a sl ∧ LsR sl a.l (K.w e') ∧ a.l.length ≤ 1048576)
noncomputable def reg115_0 := rg Try.f115.body [0]
noncomputable def reg115_1 := rg Try.f115.body [1, 0, 0]
noncomputable def reg115_2 := rg Try.f115.body [1, 0, 1, 0, 0]
noncomputable def reg115_3 := rg Try.f115.body [1, 1, 0]
noncomputable def reg115_4 := rg Try.f115.body [1, 1, 1, 0]
noncomputable def reg115_5 := rg Try.f115.body [1, 1, 1, 1, 0]
theorem z115 : List.range reg115_0.size = [0, 1] ∧ List.range reg115_1.size = [0, 1] ∧ List.range reg115_2.size = [0, 1] ∧ List.range reg115_3.size = [0, 1, 2, 3, 4, 5, 6] ∧ List.range reg115_4.size = [0, 1, 2, 3, 4] ∧ List.range reg115_5.size = [0, 1] := by refine ⟨?_, ?_, ?_, ?_, ?_, ?_⟩ <;> kernel_rfl
theorem code115_is : Try.f115.body = some (.seq (.region 0 reg115_0 false) (.seq (.seq (.region 1 reg115_1 false) (.cond (.tmp 11 ) (.seq (.region 2 reg115_2 false) (.ret)) (.skip))) (.seq (.region 3 reg115_3 false) (.seq (.region 4 reg115_4 false) (.seq (.region 5 reg115_5 false) (.ret)))))) := by kernel_rfl
section
variable {L : La} {sv : Value}
theorem doOne_s (K : Lg L sv) (e : K.E) (op : OpV) (th : Int) (f : FuncId) (fn : Func) (first cap : Array Value) (hf : Try.prog.funcs[f]? = some fn) (hname : (fn.name == "runtime.NumGoroutine") = false) (hb : fn.body.isNone = false) (hdo : DoOK L f first cap) (ht : K.tgt e = L.enter (K.s e) th op) :
    SCall K.toLb 115 #[.func (.func f) first cap, sv, .int .i64 th, opVal op] e (fun v e' => ∃ a sl, K.tgt e' = (K.s e', .inl a) ∧ v = ansV a sl ∧ LsAt (K.w e).heap.size (K.mine e') sl a.l (K.w e')) := by
  intro fr l hp hl hk
  obtain ⟨fsO, huO⟩ := structT 49 (by kernel_rfl)
  obtain ⟨fsA, huA⟩ := structT 46 (by kernel_rfl)
  have hn1 := fun w => run_eql_func (P := Try.prog) (w := w) 126 (.func f) first cap (by kernel_rfl : Try.prog.underlying 126 = some (.func #[134, 3, 49] #[46] false))
  have hn2 := fun w es => ev_eql_func (P := Try.prog) (w := w) 126 (.func f) first cap es (by kernel_rfl : Try.prog.underlying 126 = some (.func #[134, 3, 49] #[46] false))
  unfold LW
  obtain ⟨ok, oa, ob, oc⟩ := op
  simp only [opVal] at *
  rw [enter_at _ Try.func115 code115_is]
  simp only [Try.ntmps115, ez, Nat.reduceAdd, Nat.reduceSub]
  repeat (first | refine Walk.cx ?_ | (refine Walk.cReg ?_; simp only [z115]) | (refine Walk.oq ?_; try walk_nrm) | (refine Walk.un ?_; walk_nrm))
  (refine Walk.oa ?_; try walk_nrm)
  (refine Walk.oa ?_; try walk_nrm)
  repeat (first | refine Walk.cx ?_ | (refine Walk.cReg ?_; simp only [z115]) | (refine Walk.oq ?_; try walk_nrm) | (refine Walk.un ?_; walk_nrm))
  have hsz : (((K.w e).alloc (.cells #[.int .i64 ok, .int .i64 oa, .int .i64 ob, .int .i64 oc] 49)).alloc (.cells #[.bool false, .int .i64 0, .slice none 0 0] 46)).heap.size = (K.w e).heap.size + 2 := by simp
  have hA1 : ((K.w e).alloc (.cells #[.int .i64 ok, .int .i64 oa, .int .i64 ob, .int .i64 oc] 49)).heap.size = (K.w e).heap.size + 1 := by simp
  have c1 : (((K.w e).alloc (.cells #[.int .i64 ok, .int .i64 oa, .int .i64 ob, .int .i64 oc] 49)).alloc (.cells #[.bool false, .int .i64 0, .slice none 0 0] 46)).heap[(K.w e).heap.size]? = some (.cells #[.int .i64 ok, .int .i64 oa, .int .i64 ob, .int .i64 oc] 49) := by
    rw [heap_new_lt _ _ (by omega)]
    exact heap_alloc_new _ _
  have c2 : (((K.w e).alloc (.cells #[.int .i64 ok, .int .i64 oa, .int .i64 ob, .int .i64 oc] 49)).alloc (.cells #[.bool false, .int .i64 0, .slice none 0 0] 46)).heap[(K.w e).heap.size + 1]? = some (.cells #[.bool false, .int .i64 0, .slice none 0 0] 46) := by
    have := heap_alloc_new ((K.w e).alloc (.cells #[.int .i64 ok, .int .i64 oa, .int .i64 ob, .int .i64 oc] 49)) (.cells #[.bool false, .int .i64 0, .slice none 0 0] 46)
    rwa [hA1] at this
  obtain ⟨e1, m1⟩ := K.grow e (w' := ((K.w e).alloc (.cells #[.int .i64 ok, .int .i64 oa, .int .i64 ob, .int .i64 oc] 49)).alloc (.cells #[.bool false, .int .i64 0, .slice none 0 0] 46)) (by omega) (fun b hb' => by
    rw [heap_new_lt _ _ (by omega)]
    exact heap_new_lt _ _ hb')
  try simp only [hA1]
  generalize hw2 : ((K.w e).alloc (.cells #[.int .i64 ok, .int .i64 oa, .int .i64 ob, .int .i64 oc] 49)).alloc (.cells #[.bool false, .int .i64 0, .slice none 0 0] 46) = w2 at *
  generalize hN : (K.w e).heap.size = N at *
  refine Walk.loadS 49 (.tmp 7) (ho_of (by conv => lhs; whnf) (by kernel_rfl)) (by rfl) (by decide) rfl N 0 [.int .i64 ok, .int .i64 oa, .int .i64 ob, .int .i64 oc] (.struct fsO) rfl (fun j v hj => ?_) huO rfl (by kernel_rfl) ?_
  · rw [Nat.zero_add, cell_of c1]
    simpa using hj
  walk_nrm
  repeat (first | refine Walk.cx ?_ | (refine Walk.cReg ?_; simp only [z115]) | (refine Walk.oq ?_; try walk_nrm) | (refine Walk.un ?_; walk_nrm))
  refine Walk.ctl rfl (fun w' => stepG_callValue (ho_of (by conv => lhs; whnf) (by kernel_rfl)) (by rfl) (by decide) rfl rfl hf hname hb) ?_
  walk_nrm
  generalize hX : Frame.at _ _ _ = X
  refine LW.to (l := X :: fr :: l) m1 ?_
  have hpX : Plain X := by subst hX; exact ⟨rfl, rfl, _, Try.func115⟩
  have hpl : ∀ x ∈ fr :: l, Plain x := fun x hx => by
    rcases List.mem_cons.1 hx with rfl | hx
    · exact hp
    · exact hl x hx
  refine (SCall.fz K (hdo sv (Fz K e1) (fz0 K e1) th ⟨ok, oa, ob, oc⟩ (by show K.tgt e1 = L.enter (K.s e1) _ _; rw [m1.tgt, m1.s, ht]))) X (fr :: l) hpX hpl ?_
  rintro v e2 ⟨hkept, a, sl, ht2, rfl, hls, hlsn⟩
  replace hls : LsR sl a.l (K.w e2) := hls
  obtain ⟨hm2, hb2⟩ := hkept (N + 1) (m1.new (by omega) (by omega))
  rw [m1.w, c2] at hb2
  have hap2 := (K.mineA e2 _ hm2).1
  have hlt2 := (K.mineA e2 _ hm2).2.2
  rw [← hX]
  clear hX hpX
  unfold LW
  simp only [ansV]
  refine Walk.finish (ho_of (by conv => lhs; whnf) (by kernel_rfl)) ?_
  walk_nrm
  (refine Walk.oa ?_; try walk_nrm)
  have hap3 := K.newA e2 _ (Nat.le_refl (K.w e2).heap.size)
  have c3 := heap_alloc_new (K.w e2) (.cells #[.bool false, .int .i64 0, .slice none 0 0] 46)
  have c4 : ((K.w e2).alloc (.cells #[.bool false, .int .i64 0, .slice none 0 0] 46)).heap[N + 1]? = _ := (heap_new_lt _ _ hlt2).trans hb2
  have hs3 : ((K.w e2).alloc (.cells #[.bool false, .int .i64 0, .slice none 0 0] 46)).heap.size = (K.w e2).heap.size + 1 := by simp
  have o3 : ∀ b, b < (K.w e2).heap.size → ((K.w e2).alloc (.cells #[.bool false, .int .i64 0, .slice none 0 0] 46)).heap[b]? = (K.w e2).heap[b]? := fun b hb' => heap_new_lt _ _ hb'
  generalize hM : (K.w e2).heap.size = M at *
  generalize (K.w e2).alloc (.cells #[.bool false, .int .i64 0, .slice none 0 0] 46) = w3 at *
  refine Walk.storeS 46 (.tmp 9) (.tmp 17) (ho_of (by conv => lhs; whnf) (by kernel_rfl)) (by rfl) (by decide) rfl M #[.bool a.ok, .int .i64 a.n, sl] _ 46 rfl rfl c3 (by kernel_rfl) (by rfl) (by rcases hls with ⟨_, _, rfl, _⟩; simp [Value.oneCell']) hap3 ?_
  have c5 := setRow_self (cells := #[.bool a.ok, .int .i64 a.n, sl]) c3
  have c6 : (w3.setRow M #[.bool a.ok, .int .i64 a.n, sl]).heap[N + 1]? = _ := (setRow_other w3 _ (show N + 1 ≠ M by omega)).trans c4
  have hs4 := setRow_size w3 M #[.bool a.ok, .int .i64 a.n, sl]
  have o4 : ∀ b, b < M → (w3.setRow M #[.bool a.ok, .int .i64 a.n, sl]).heap[b]? = (K.w e2).heap[b]? := fun b hb' => (setRow_other w3 _ (show b ≠ M by omega)).trans (o3 b hb')
  generalize w3.setRow M #[.bool a.ok, .int .i64 a.n, sl] = w4 at *
  have hle3 := hls.same (w' := w4) (fun b hb' => o4 b (by omega))
  have d2 := cell_of c5 2
  have z2 := frozen_of c5 2
  simp only [List.getElem?_toArray, List.getElem?_cons_succ, List.getElem?_cons_zero] at d2
  have hs4' : w4.heap.size = M + 1 := by omega
  walk_nrm
  repeat (first | refine Walk.cx ?_ | (refine Walk.cReg ?_; simp only [z115]) | (refine Walk.oq ?_; try walk_nrm) | (refine Walk.un ?_; walk_nrm))
  refine Walk.callW (Post := fun v w' => LsAt w4.heap.size (fun b => w4.heap.size ≤ b ∧ b < w'.heap.size) v a.l w' ∧ w4.heap.size ≤ w'.heap.size ∧ ∀ b, b < w4.heap.size → w'.heap[b]? = w4.heap[b]?) ?_ (ho_of (by conv => lhs; whnf) (by kernel_rfl)) (by rfl) (by decide) rfl Try.func137 (by kernel_rfl) (by rfl) ?_
  · walk_nrm
    exact clone_w w4 sl a.l hle3 hlsn (fun b hb => K.newA e2 b (by omega))
  rintro sl' w4' ⟨hls', hs4'', o4''⟩
  obtain ⟨sa, sc, rfl⟩ : ∃ sa sc, sl' = .slice sa a.l.length sc := by
    obtain ⟨x, y, h, _⟩ := hls'
    exact ⟨x, y, h⟩
  have c5' := (o4'' M (by omega)).trans c5
  have d2' := cell_of c5' 2
  have z2' := frozen_of c5' 2
  simp only [List.getElem?_toArray, List.getElem?_cons_succ, List.getElem?_cons_zero] at d2'
  clear d2 z2
  have d2 := d2'
  have z2 := z2'
  clear d2' z2'
  walk_nrm
  repeat (first | refine Walk.cx ?_ | (refine Walk.cReg ?_; simp only [z115]) | (refine Walk.oq ?_; try walk_nrm) | (refine Walk.un ?_; walk_nrm))
  (have hfr := hap3.1 ⟨M, 2, none⟩ rfl; refine Walk.os hfr d2 ?_; clear hfr; try walk_nrm)
  have c7 : (w4'.setCell ⟨M, 2, none⟩ (.slice sa a.l.length sc)).heap[M]? = some (.cells #[.bool a.ok, .int .i64 a.n, (.slice sa a.l.length sc)] 46) := by
    rw [heap_set_self _ _ c5']
    simp
  have c8 : (w4'.setCell ⟨M, 2, none⟩ (.slice sa a.l.length sc)).heap[N + 1]? = _ := (heap_set_other w4' _ _ _ (show N + 1 ≠ M by omega)).trans ((o4'' _ (by omega)).trans c6)
  have hs5 := size_set w4' ⟨M, 2, none⟩ (.slice sa a.l.length sc)
  have o5 : ∀ b, b < M → (w4'.setCell ⟨M, 2, none⟩ (.slice sa a.l.length sc)).heap[b]? = (K.w e2).heap[b]? := fun b hb' => (heap_set_other w4' _ _ _ (show b ≠ M by omega)).trans ((o4'' b (by omega)).trans (o4 b hb'))
  have hls5 := hls'.same (w' := w4'.setCell ⟨M, 2, none⟩ (.slice sa a.l.length sc)) (fun b hb' => heap_set_other w4' _ _ _ (show b ≠ M by omega))
  generalize w4'.setCell ⟨M, 2, none⟩ (.slice sa a.l.length sc) = w5 at *
  repeat (first | refine Walk.cx ?_ | (refine Walk.cReg ?_; simp only [z115]) | (refine Walk.oq ?_; try walk_nrm) | (refine Walk.un ?_; walk_nrm))
  refine Walk.loadS 46 (.tmp 9) (ho_of (by conv => lhs; whnf) (by kernel_rfl)) (by rfl) (by decide) rfl M 0 [.bool a.ok, .int .i64 a.n, (.slice sa a.l.length sc)] (.struct fsA) rfl (fun j v hj => ?_) huA rfl (by kernel_rfl) ?_
  · rw [Nat.zero_add, cell_of c7]
    simpa using hj
  walk_nrm
  refine Walk.storeS 46 (.tmp 8) (.tmp 22) (ho_of (by conv => lhs; whnf) (by kernel_rfl)) (by rfl) (by decide) rfl (N + 1) #[.bool a.ok, .int .i64 a.n, (.slice sa a.l.length sc)] _ 46 rfl rfl c8 (by kernel_rfl) (by rfl) (by simp [Value.oneCell']) hap2 ?_
  have c9 := setRow_self (cells := #[.bool a.ok, .int .i64 a.n, (.slice sa a.l.length sc)]) c8
  have hls6 := hls5.same (w' := w5.setRow (N + 1) #[.bool a.ok, .int .i64 a.n, (.slice sa a.l.length sc)]) (fun b hb' => setRow_other w5 _ (show b ≠ N + 1 by omega))
  obtain ⟨e3, m3⟩ := K.own e2 (w' := w5.setRow (N + 1) #[.bool a.ok, .int .i64 a.n, (.slice sa a.l.length sc)]) (by rw [setRow_size]; omega) (fun b hb' hbm => (setRow_other w5 _ (fun he : b = N + 1 => hbm (by rw [he]; exact hm2))).trans (o5 b (by omega)))
  have hnew : ∀ b, (w4.heap.size ≤ b ∧ b < w4'.heap.size) → K.mine e3 b := fun b hb => (m3.mine b).2 (.inr ⟨by omega, by rw [setRow_size]; omega⟩)
  generalize w5.setRow (N + 1) #[.bool a.ok, .int .i64 a.n, (.slice sa a.l.length sc)] = w6 at *
  walk_nrm
  repeat (first | refine Walk.cx ?_ | (refine Walk.cReg ?_; simp only [z115]) | (refine Walk.oq ?_; try walk_nrm) | (refine Walk.un ?_; walk_nrm))
  refine Walk.onCell (T := N + 1) rfl rfl rfl Try.func115 rfl (by rfl) c9 (by kernel_rfl) (by kernel_rfl) ?_
  refine LW.to m3 (hk _ e3 ⟨a, (.slice sa a.l.length sc), ?_, rfl, ?_⟩)
  · rw [m3.tgt, m3.s]
    exact ht2
  · rw [m3.w]
    exact (hls6.imp hnew).low (by omega)
end
end
end Go.Proofs.Ytbmijpkdghkbbaa
