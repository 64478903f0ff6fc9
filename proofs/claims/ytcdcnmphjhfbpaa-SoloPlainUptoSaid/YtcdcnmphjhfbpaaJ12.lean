/- Part 12. -/
import Derived.Test.YtcdcnmphjhfbpaaJ11
set_option linter.unusedSimpArgs false
set_option linter.unusedVariables false
set_option maxHeartbeats 8000000
set_option maxRecDepth 100000
namespace Go.Proofs.Ytcdcnmphjhfbpaa
open Go.Conc Go.RowKit Go.Relay
open Go.ConcN (upd upd_ne upd_same)
section
section
variable {L : La} {rb sb n : Nat} {sv : Value}
theorem gaG_refused (R : RingIn L rb sb n) (P : GaP L n R.rg) (K : Lg L sv) (a mo m : Int) (ha : good a) (hmo : min mo n = m) (fr : Frame) (l : List Frame) (hk : ∀ x e', GaOutG P K mo x e' → LW K.toLb e' (G (fr.finish x) (l ++ K.bot e'))) (sl : Value) (ls : List Int) (e : K.E) (u : Nat → Value) (hm : (ls.length : Int) < m) (hls : ls ≠ []) (hg : ¬ good (a + ls.length)) (h6 : GaB mo ls.length) (hL : GatL K e sl ls) (ht : K.tgt e = (K.s e, P.G ls)) : LW K.toLb e (G (hdGa rb sv sl a mo u) (fr :: (l ++ K.bot e))) := by
  have hmn := @events_min_ints Try.prog
  have hkk := hk (.tuple #[sl, .int .i64 0]) e ⟨sl, 0, ls, rfl, hL, h6, fun _ => ht, fun h => absurd rfl h⟩
  have hsz := size_w (main := K.main) (V := K.V e) (K.w e) (R.ring (K.inv e))
  have hget := get_no (main := K.main) (V := K.V e) (.pointer (some ⟨rb, 0, none⟩)) sv (a + ls.length) hg (K.w e)
  obtain ⟨⟨sa, sc, rfl⟩, _, _⟩ := hL
  have h0 : ls.length ≠ 0 := fun h => hls (List.eq_nil_of_length_eq_zero h)
  have h65 := h6.1
  have h1 : decide ((ls.length : Int) < m) = true := by simp [hm]
  have h2 : ((ls.length : Int) == 0) = false := by simp [h0, hls]
  have h3 : (ls.length == 0) = false := by simp [h0, hls]
  have ha1 := ha.1
  have ha2 := ha.2
  have hw : IntKind.wrap .i64 (a + (ls.length : Int)) = a + ls.length := by rw [IntKind.wrap_i64]; omega
  clear hls hg ht
  generalize ls.length = j at *
  unfold LW at hkk ⊢
  unfold hdGa
  repeat (first | refine Walk.cx ?_ | (refine Walk.cReg ?_; simp only [z73]) | (refine Walk.oq ?_; try walk_nrm) | (refine Walk.un ?_; walk_nrm))
  refine Walk.callV (x := .int .i64 (n : Nat)) (W := K.w e) ?_ (ho_of (by conv => lhs; whnf) (by kernel_rfl)) (by rfl) (by decide) rfl Try.func19 (by kernel_rfl) (by rfl) ?_
  · walk_nrm
    exact hsz
  walk_nrm
  repeat (first | refine Walk.cx ?_ | (refine Walk.cReg ?_; simp only [z73]) | (refine Walk.oq ?_; try walk_nrm) | (refine Walk.un ?_; walk_nrm))
  refine Walk.callV (x := .tuple #[.int .i64 0, .int .i64 1]) (W := K.w e) ?_ (ho_of (by conv => lhs; whnf) (by kernel_rfl)) (by rfl) (by decide) rfl Try.func61 (by kernel_rfl) (by rfl) ?_
  · walk_nrm
    exact hget
  walk_nrm
  repeat (first | refine Walk.cx ?_ | (refine Walk.cReg ?_; simp only [z73]) | (refine Walk.oq ?_; try walk_nrm) | (refine Walk.un ?_; walk_nrm))
  exact Walk.on2 rfl rfl Try.func73 rfl hkk
theorem gaG_round (R : RingIn L rb sb n) (P : GaP L n R.rg) (K : Lg L sv) (a mo m : Int) (ha : good a) (hmo : min mo n = m) (fr : Frame) (l : List Frame) (hp : Plain fr) (hl : ∀ f ∈ l, Plain f) (hk : ∀ x e', GaOutG P K mo x e' → LW K.toLb e' (G (fr.finish x) (l ++ K.bot e'))) (sl : Value) (ls : List Int) (e : K.E) (u : Nat → Value) (hm : (ls.length : Int) < m) (hg : good (a + ls.length)) (h6 : GaB mo ls.length) (hL : GatL K e sl ls) (ht : K.tgt e = (K.s e, .inr (P.A1 (a + ls.length) m ls)))
    (ih : ∀ (e' : K.E) (u' : Nat → Value) (sl' : Value) (v : Int), GatL K e' sl' (ls ++ [v]) → K.tgt e' = (K.s e', P.gaD a m (ls ++ [v])) → LW K.toLb e' (G (hdGa rb sv sl' a mo u') (fr :: (l ++ K.bot e')))) :
    LW K.toLb e (G (hdGa rb sv sl a mo u) (fr :: (l ++ K.bot e))) := by
  have hmn := @events_min_ints Try.prog
  have hiI := Option.some_get (show (Try.prog.info? 2).isSome = true by kernel_rfl)
  have hsz := size_w (main := K.main) (V := K.V e) (K.w e) (R.ring (K.inv e))
  have hget := SCall.fz K (getG_s R (Fz K e) (fz0 K e) (a + ls.length) hg (P.A1 (a + ls.length) m ls) (P.A2 (a + ls.length) m ls) (fun v => P.A3 (a + ls.length) m ls v) (P.endG ls 6) (P.endG ls 10) (fun v => P.gaD a m (ls ++ [v])) (P.a1 _ m ls) (P.a2 _ m ls) (fun s v => by rw [GaP.snoc]; exact P.a3 _ m ls s v) ht)
  have h1 : decide ((ls.length : Int) < m) = true := by simp [hm]
  have ha1 := ha.1
  have ha2 := ha.2
  have h65 := h6.1
  have hw : IntKind.wrap .i64 (a + (ls.length : Int)) = a + ls.length := by rw [IntKind.wrap_i64]; omega
  have h0 : ls = [] ↔ ls.length = 0 := ⟨fun h => by rw [h]; rfl, List.eq_nil_of_length_eq_zero⟩
  obtain ⟨⟨sa, sc, rfl⟩, hrow, hmine⟩ := hL
  have hlm : (ls.map fun z => Value.int .i64 z).length = ls.length := by simp
  clear ht
  unfold LW hdGa
  generalize hj : ls.length = j at *
  repeat (first | refine Walk.cx ?_ | (refine Walk.cReg ?_; simp only [z73]) | (refine Walk.oq ?_; try walk_nrm) | (refine Walk.un ?_; walk_nrm))
  refine Walk.callV (x := .int .i64 (n : Nat)) (W := K.w e) ?_ (ho_of (by conv => lhs; whnf) (by kernel_rfl)) (by rfl) (by decide) rfl Try.func19 (by kernel_rfl) (by rfl) ?_
  · walk_nrm
    exact hsz
  walk_nrm
  clear hsz
  repeat (first | refine Walk.cx ?_ | (refine Walk.cReg ?_; simp only [z73]) | (refine Walk.oq ?_; try walk_nrm) | (refine Walk.un ?_; walk_nrm))
  refine LW.callS (K := K.toLb) (e := e) (l := fr :: l) (f := 61) (Q := fun x e' => ∃ h : Kept K e e', GetOutG (Fz K e) (P.endG ls 6) (P.endG ls 10) (fun v => P.gaD a m (ls ++ [v])) x ⟨e', h⟩) ?_ (ho_of (by conv => lhs; whnf) (by kernel_rfl)) (by rfl) (by decide) rfl Try.func61 (by kernel_rfl) (by rfl) ⟨rfl, rfl, _, Try.func73⟩ (plain_cons hp hl) ?_
  · walk_nrm
    exact hget
  rintro x e2 ⟨hkept, v, er, rfl, hcase⟩
  clear hget
  have hrow2 := row_same hrow (w' := K.w e2) fun b hb => (hkept b (hmine b hb)).2
  have hmine2 : ∀ b, (Value.slice sa j sc).ownBlock = some b → K.mine e2 b := fun b hb => (hkept b (hmine b hb)).1
  have hcase' : (er ≠ 0 ∧ K.tgt e2 = (K.s e2, P.endG ls er)) ∨ (er = 0 ∧ K.tgt e2 = (K.s e2, P.gaD a m (ls ++ [v]))) := by
    rcases hcase with ⟨h, h'⟩ | ⟨h, h'⟩ | ⟨h, h'⟩
    · exact .inl ⟨by omega, by rw [h]; exact h'⟩
    · exact .inl ⟨by omega, by rw [h]; exact h'⟩
    · exact .inr ⟨h, h'⟩
  clear hcase hrow hmine hkept
  rcases hcase' with ⟨her, t2⟩ | ⟨rfl, t2⟩
  · have hb1 : (er == 0) = false := by simp [her]
    by_cases hls : ls = []
    · have hj0 := h0.1 hls
      subst hj0
      subst hls
      have hkk := hk (.tuple #[.slice none 0 0, .int .i64 er]) e2 ⟨.slice none 0 0, er, [], rfl, ⟨⟨_, _, rfl⟩, ⟨rfl, .inl ⟨rfl, rfl⟩⟩, fun b h => by simp [Value.ownBlock] at h⟩, ⟨by simp, by simp; omega⟩, fun h => absurd h her, fun _ => ⟨rfl, by rw [t2]; exact congrArg (Prod.mk _) (if_pos rfl)⟩⟩
      clear ih hk
      unfold LW at hkk ⊢
      walk_nrm
      repeat (first | refine Walk.cx ?_ | (refine Walk.cReg ?_; simp only [z73]) | (refine Walk.oq ?_; try walk_nrm) | (refine Walk.un ?_; walk_nrm))
      exact Walk.on2 rfl rfl Try.func73 rfl hkk
    · have hj0 : j ≠ 0 := fun h => hls (h0.2 h)
      have hkk := hk (.tuple #[.slice sa j sc, .int .i64 0]) e2 ⟨.slice sa j sc, 0, ls, rfl, ⟨⟨sa, sc, by rw [hj]⟩, by rw [hj]; exact hrow2, hmine2⟩, by rw [hj]; exact h6, fun _ => by rw [t2]; exact congrArg (Prod.mk _) (if_neg hls), fun h => absurd rfl h⟩
      have hb2 : ((j : Int) == 0) = false := by simp [hj0]
      have hb3 : (j == 0) = false := by simp [hj0]
      clear ih hk
      unfold LW at hkk ⊢
      walk_nrm
      repeat (first | refine Walk.cx ?_ | (refine Walk.cReg ?_; simp only [z73]) | (refine Walk.oq ?_; try walk_nrm) | (refine Walk.un ?_; walk_nrm))
      exact Walk.on2 rfl rfl Try.func73 rfl hkk
  · clear hk
    unfold LW
    walk_nrm
    repeat (first | refine Walk.cx ?_ | (refine Walk.cReg ?_; simp only [z73]) | (refine Walk.oq ?_; try walk_nrm) | (refine Walk.un ?_; walk_nrm))
    (refine Walk.oa ?_; try walk_nrm)
    have s1 : ((K.w e2).alloc (.cells #[.int .i64 v] 2)).heap.size = (K.w e2).heap.size + 1 := by simp
    have o1 : ∀ b, b < (K.w e2).heap.size → ((K.w e2).alloc (.cells #[.int .i64 v] 2)).heap[b]? = (K.w e2).heap[b]? := fun b hb => heap_new_lt _ _ hb
    have d1 := heap_alloc_new (K.w e2) (.cells #[.int .i64 v] 2)
    have r1 := row_same hrow2 (w' := (K.w e2).alloc (.cells #[.int .i64 v] 2)) fun b hb => o1 b (hrow2.lt b hb).2
    generalize hw1 : (K.w e2).alloc (.cells #[.int .i64 v] 2) = w1 at *
    repeat (first | (refine Walk.oq ?_; try walk_nrm) | (refine Walk.un ?_; walk_nrm))
    refine Walk.append (.tmp 38) (.tmp 40) 22 (ho_of (by conv => lhs; whnf) (by kernel_rfl)) (by rfl) (by decide) rfl 0 2 _ (.int .i64 0) 1 8 (by kernel_rfl) hiI.symm (by rfl) (by rfl) (by rfl) (by rfl) (by decide) (.slice sa j sc) j (ls.map fun z => .int .i64 z) rfl r1 ⟨(K.w e2).heap.size, 0, none⟩ 1 1 [.int .i64 v] rfl (by rfl) (fun i x hx => ?_) (by simp [Value.oneCell']) (by decide) (by simp [maxLen]; omega) (by omega) (by omega) (fun g hg => (K.mineA e2 g (hmine2 g hg)).1) (fun g cap w4 r4 hg4 at4 lt4 => ?_)
    · rw [add_none, Nat.zero_add]
      refine (cell_of d1 i).trans ?_
      simpa using hx
    have z4 := hg4.size
    obtain ⟨e3, m3⟩ := K.own e2 (w' := w4) (by omega) (fun b hb hbm => (hg4.block b (by omega) fun h => hbm (hmine2 b h.symm)).trans (o1 b hb))
    have hL3 : GatL K e3 (.slice (some ⟨g, 0, none⟩) (j + 1) cap) (ls ++ [v]) := by
      have hl : (ls ++ [v]).length = j + 1 := by simp [hj]
      refine ⟨⟨_, _, by rw [hl]⟩, ?_, fun b hb => ?_⟩
      · rw [hl, m3.w, List.map_append]
        exact r4
      · have hb : some g = some b := hb
        cases hb
        rcases at4 with h | h
        · exact (m3.mine g).2 (.inl (hmine2 g h))
        · exact (m3.mine g).2 (.inr ⟨by omega, lt4⟩)
    have t3 : K.tgt e3 = (K.s e3, P.gaD a m (ls ++ [v])) := by rw [m3.tgt, m3.s]; exact t2
    have hih := fun u => ih e3 u _ v hL3 t3
    clear ih hL3 t3 t2 r4 r1 d1 o1 hrow2
    refine LW.to (l := fr :: l) m3 ?_
    unfold LW at hih ⊢
    walk_nrm
    repeat (first | refine Walk.cx ?_ | (refine Walk.cReg ?_; simp only [z73]) | (refine Walk.oq ?_; try walk_nrm) | (refine Walk.un ?_; walk_nrm))
    refine Walk.ctl rfl (fun w => stepG_inLoop) ?_
    refine slots_walk (F := fun u => G (hdGa rb sv (.slice (some ⟨g, 0, none⟩) (j + 1) cap) a mo u) (fr :: (l ++ K.bot e3))) hih ?_
    simp only [hdGa]
    rfl
end
end
section
section
variable {L : La} {rb sb n : Nat} {sv : Value}
theorem gaG_loop (R : RingIn L rb sb n) (P : GaP L n R.rg) (K : Lg L sv) (a mo m : Int) (ha : good a) (hmo : min mo n = m) (hn : n ≤ 65536) (fr : Frame) (l : List Frame) (hp : Plain fr) (hl : ∀ f ∈ l, Plain f) (hk : ∀ x e', GaOutG P K mo x e' → LW K.toLb e' (G (fr.finish x) (l ++ K.bot e'))) :
    ∀ (r : Nat) (ls : List Int) (sl : Value) (e : K.E) (u : Nat → Value), (m - ls.length).toNat = r → GaB mo ls.length → GatL K e sl ls → K.tgt e = (K.s e, P.gaD a m ls) → LW K.toLb e (G (hdGa rb sv sl a mo u) (fr :: (l ++ K.bot e))) := by
  intro r
  induction r with
  | zero =>
    intro ls sl e u hr h6 hL ht
    unfold GaP.gaD at ht
    rw [if_neg (by omega)] at ht
    exact gaG_out R P K a mo m hmo fr l hk sl ls e u (by omega) h6 hL ht
  | succ r ih =>
    intro ls sl e u hr h6 hL ht
    have hm : (ls.length : Int) < m := by omega
    by_cases hg : good (a + ls.length)
    · have ht2 := ht
      unfold GaP.gaD at ht2
      rw [if_pos ⟨hm, hg⟩] at ht2
      refine gaG_round R P K a mo m ha hmo fr l hp hl hk sl ls e u hm hg h6 hL ht2 fun e' u' sl' v hL' ht' => ?_
      have hlen : (ls ++ [v]).length = ls.length + 1 := by simp
      exact ih (ls ++ [v]) sl' e' u' (by rw [hlen]; omega) (by have h := h6; unfold GaB at h ⊢; rw [hlen]; omega) hL' ht'
    · unfold GaP.gaD at ht
      rw [if_neg fun h => hg h.2] at ht
      refine gaG_refused R P K a mo m ha hmo fr l hk sl ls e u hm (fun h => ?_) hg h6 hL ht
      subst h
      exact hg (by simpa using ha)
theorem gatherG_s (R : RingIn L rb sb n) (P : GaP L n R.rg) (K : Lg L sv) (e : K.E) (a b : Int) (ht : K.tgt e = (K.s e, P.gbD n a b)) : SCall K.toLb 73 #[.pointer (some ⟨rb, 0, none⟩), sv, .int .i64 a, .int .i64 b] e (GaOutG P K b) := by
  intro fr l hp hl hk
  have hn := (R.ring (K.inv e)).pos
  have hyes := holds_yes (main := K.main) (V := K.V e) (K.w e) (R.ring (K.inv e)) a
  have hno := holds_no (main := K.main) (V := K.V e) (.pointer (some ⟨rb, 0, none⟩)) (K.w e) a
  have hL0 : GatL K e (.slice none 0 0) [] := ⟨⟨_, _, rfl⟩, ⟨rfl, .inl ⟨rfl, rfl⟩⟩, fun b h => by simp [Value.ownBlock] at h⟩
  unfold LW
  rw [enter_at _ Try.func73 code73_is]
  simp only [Try.ntmps73, ez, Nat.reduceAdd, Nat.reduceSub]
  repeat (first | refine Walk.cx ?_ | (refine Walk.cReg ?_; simp only [z73]) | (refine Walk.oq ?_; try walk_nrm) | (refine Walk.un ?_; walk_nrm))
  by_cases h2 : good a
  · rw [P.gbD_is h2] at ht
    have hlp := fun u => gaG_loop R P K a b (min b n) h2 rfl hn.2 fr l hp hl hk _ [] (.slice none 0 0) e u rfl ⟨by simp, by simp; omega⟩ hL0 ht
    refine Walk.callV (x := .bool true) (W := K.w e) ?_ (ho_of (by conv => lhs; whnf) (by kernel_rfl)) (by rfl) (by decide) rfl Try.func74 (by kernel_rfl) (by rfl) ?_
    · walk_nrm
      exact hyes h2
    walk_nrm
    clear hyes hno hL0 ht
    repeat (first | refine Walk.cx ?_ | (refine Walk.cReg ?_; simp only [z73]) | (refine Walk.oq ?_; try walk_nrm) | (refine Walk.un ?_; walk_nrm))
    refine Walk.ctl rfl (fun w => stepG_loop) ?_
    unfold LW at hlp
    refine slots_walk (F := fun u => G (hdGa rb sv (.slice none 0 0) a b u) (fr :: (l ++ K.bot e))) hlp ?_
    simp only [hdGa]
    rfl
  · unfold GaP.gbD at ht
    rw [if_neg h2] at ht
    have hkk := hk (.tuple #[.slice none 0 0, .int .i64 1]) e ⟨.slice none 0 0, 1, [], rfl, hL0, ⟨by simp, by simp; omega⟩, fun h => (by cases h), fun _ => ⟨rfl, ht⟩⟩
    refine Walk.callV (x := .bool false) (W := K.w e) ?_ (ho_of (by conv => lhs; whnf) (by kernel_rfl)) (by rfl) (by decide) rfl Try.func74 (by kernel_rfl) (by rfl) ?_
    · walk_nrm
      exact hno h2
    walk_nrm
    clear hyes hno hL0 ht
    unfold LW at hkk
    repeat (first | refine Walk.cx ?_ | (refine Walk.cReg ?_; simp only [z73]) | (refine Walk.oq ?_; try walk_nrm) | (refine Walk.un ?_; walk_nrm))
    exact Walk.on2 rfl rfl Try.func73 rfl hkk
end
end
section
structure So where
  rg : Rg
  cur : Int
  nm : Nat → Int
  pl : Nat → Int
  nx : Int
  pb : Int
  ca : Int
structure WT where
  f : Int
  n : Nat
  xs : Nat → Int
  r : Nat
inductive SoD where
  | cl (k : Nat) (z f c : Int) (t : Option (Nat × (Nat → Int)))
  | p1 (q v : Int) (t : Option WT) | p2 (q v : Int) (t : Option WT) | p3 (q : Int) (t : Option WT) | pu (q : Int) (a : Ans)
  | r0 (k : Nat) (q : Int) | r1 (k : Nat) (q : Int) | r2 (k : Nat) (q : Int) | r3 (k : Nat) (q v : Int) | r4 (k : Nat) (q v : Int)
  | b0 (k : Nat) (p mo : Int) | b1 (k : Nat) (p q m : Int) (l : List Int) | b2 (k : Nat) (p q m : Int) (l : List Int) | b3 (k : Nat) (p q m : Int) (l : List Int) (v : Int) | b4 (k : Nat) (q : Int) (l : List Int)
def soOpen (s : So) (q : Int) : Prop := s.pb < q ∧ q < s.nx
instance (s : So) (q : Int) : Decidable (soOpen s q) := inferInstanceAs (Decidable (_ ∧ _))
def soRS (s : So) (i : Nat) (x : Int) : So := { s with rg := rgPutS s.rg i x }
def soRV (s : So) (i : Nat) (x : Int) : So := { s with rg := rgPutV s.rg i x }
def soCur (s : So) (x : Int) : So := { s with cur := x }
def soNm (s : So) (k : Nat) (x : Int) : So := { s with nm := upd s.nm k x }
def soPl (s : So) (k : Nat) (x : Int) : So := { s with pl := upd s.pl k x }
def soNx (s : So) (x : Int) : So := { s with nx := x }
def soPb (s : So) (x : Int) : So := { s with pb := x }
def soCa (s : So) (x : Int) : So := { s with ca := x }
def soFin (s : So) (k : Nat) (q : Int) : So := soPl (soNm s k q) k q
def soW (s : So) (f : Int) (n : Nat) (xs : Nat → Int) : Nat → Ans ⊕ SoD
  | 0 => if soOpen s (f + n - 1) then .inr (.pu (f + n - 1) ⟨true, f, []⟩) else .inl ⟨true, f, []⟩
  | r + 1 => if soOpen s (f + ((n - (r + 1) : Nat) : Int)) then .inr (.p1 (f + ((n - (r + 1) : Nat) : Int)) (xs (n - (r + 1))) (some ⟨f, n, xs, r⟩)) else soW s f n xs r
def soThen (s : So) (f : Int) : Option (Nat × (Nat → Int)) → Ans ⊕ SoD
  | none => .inl ⟨true, f, []⟩
  | some (k, xs) => soW s f k xs k
def soTake (s : So) (f c : Int) (t : Option (Nat × (Nat → Int))) : So × (Ans ⊕ SoD) := (soNx s (f + c), soThen (soNx s (f + c)) f t)
def soGot (n : Nat) (s : So) (z f c : Int) (t : Option (Nat × (Nat → Int))) : So × (Ans ⊕ SoD) := if z < f + c - 1 - n then (soCa s z, .inl ⟨false, 3, []⟩) else soTake (soCa s z) f c t
def soLst (n m : Nat) (s : So) (f c : Int) (t : Option (Nat × (Nat → Int))) : So × (Ans ⊕ SoD) := if m = 0 then soGot n s 4611686018427387904 f c t else (s, .inr (.cl 0 4611686018427387904 f c t))
def soFind (n m : Nat) (s : So) (f c : Int) (t : Option (Nat × (Nat → Int))) : So × (Ans ⊕ SoD) := if s.ca < f + c - 1 - n then soLst n m s f c t else soTake s f c t
def soClaim (n m : Nat) (s : So) (c : Int) (t : Option (Nat × (Nat → Int))) : So × (Ans ⊕ SoD) :=
  if c < 1 ∨ (n : Int) < c then (s, .inl ⟨false, 1, []⟩) else if 4611686018427387904 < s.nx + c then (s, .inl ⟨false, 8, []⟩) else soFind n m s s.nx c t
def soPut (s : So) : Option WT → Ans ⊕ SoD
  | none => .inl ⟨true, 0, []⟩
  | some w => soW s w.f w.n w.xs w.r
def soBat (n : Nat) (x : Int) (k : Nat) (p mo : Int) : Ans ⊕ SoD := if x - p < 1 then .inl ⟨false, 4, []⟩ else .inr (.b1 k p (p + 1) (min (min (x - p) (max mo 1)) n) [])
def soAct (n m : Nat) (s : So) : SoD → So × (Ans ⊕ SoD)
  | .cl k z f c t => if k + 1 < m then (s, .inr (.cl (k + 1) (min z (s.nm k)) f c t)) else soGot n s (min z (s.nm k)) f c t
  | .p1 q v t => (soRS s (ixR n q) (laR n q - 1), .inr (.p2 q v t))
  | .p2 q v t => (soRV s (ixR n q) v, .inr (.p3 q t))
  | .p3 q t => (soRS s (ixR n q) (laR n q), soPut (soRS s (ixR n q) (laR n q)) t)
  | .pu q a => (soPb (soCur s q) q, .inl a)
  | .r0 k q => (s, if s.cur < q then .inl ⟨false, 4, []⟩ else .inr (.r1 k q))
  | .r1 k q => (s, if s.rg.st (ixR n q) < laR n q then .inl ⟨false, 6, []⟩ else if laR n q < s.rg.st (ixR n q) then .inl ⟨false, 10, []⟩ else .inr (.r2 k q))
  | .r2 k q => (s, .inr (.r3 k q (s.rg.va (ixR n q))))
  | .r3 k q v => (s, if s.rg.st (ixR n q) = laR n q then .inr (.r4 k q v) else .inl ⟨false, 10, []⟩)
  | .r4 k q v => (soFin s k q, .inl ⟨true, v, []⟩)
  | .b0 k p mo => (s, soBat n s.cur k p mo)
  | .b1 k p q m l => (s, if s.rg.st (ixR n q) < laR n q then (if l = [] then .inl ⟨false, 6, []⟩ else .inr (.b4 k (p + l.length) l)) else if laR n q < s.rg.st (ixR n q) then (if l = [] then .inl ⟨false, 10, []⟩ else .inr (.b4 k (p + l.length) l)) else .inr (.b2 k p q m l))
  | .b2 k p q m l => (s, .inr (.b3 k p q m l (s.rg.va (ixR n q))))
  | .b3 k p q m l v => (s, if s.rg.st (ixR n q) = laR n q then (if (l.length : Int) + 1 < m ∧ good (q + 1) then .inr (.b1 k p (q + 1) m (l ++ [v])) else .inr (.b4 k (p + (l ++ [v]).length) (l ++ [v]))) else (if l = [] then .inl ⟨false, 10, []⟩ else .inr (.b4 k (p + l.length) l)))
  | .b4 k q l => (soFin s k q, .inl ⟨true, 0, l⟩)
def seqP (x : Int) : Prop := -1 ≤ x ∧ x < 4611686018427387904
structure SoB (m : Nat) (s : So) : Prop where
  nx : 0 ≤ s.nx ∧ s.nx ≤ 4611686018427387904
  pb : seqP s.pb
  cur : seqP s.cur
  nm : ∀ k, k < m → seqP (s.nm k)
  pl : ∀ k, k < m → seqP (s.pl k)
structure SoI (rb sb n ob qb m : Nat) (s : So) (w : World) : Prop where
  ring : RgI rb sb n s.rg w
  ob : w.heap[ob]? = some (.cells #[.pointer (some ⟨rb, 0, none⟩), .int .i64 s.cur, .slice (some ⟨qb, 0, none⟩) m m, .int .i64 s.nx, .int .i64 s.pb, .int .i64 s.ca] 167)
  qb : ∃ arr : Array Value, w.heap[qb]? = some (.cells arr 169) ∧ arr.size = 2 * m ∧ ∀ k, k < m → arr[k * 2]? = some (.int .i64 (s.nm k)) ∧ arr[k * 2 + 1]? = some (.int .i64 (s.pl k))
  bd : SoB m s
  few : m ≤ 64
section
variable {rb sb n ob qb m : Nat} {s : So} {w w' : World}
def soSh (rb sb ob qb b : Nat) : Prop := b = rb ∨ b = sb ∨ b = ob ∨ b = qb
theorem SoI.old (h : SoI rb sb n ob qb m s w) (hb : ∀ b, soSh rb sb ob qb b → w'.heap[b]? = w.heap[b]?) : SoI rb sb n ob qb m s w' := by
  obtain ⟨arr, h1, h2⟩ := h.qb
  exact ⟨h.ring.old (hb _ (.inl rfl)) (hb _ (.inr (.inl rfl))), (hb _ (.inr (.inr (.inl rfl)))).trans h.ob, ⟨arr, (hb _ (.inr (.inr (.inr rfl)))).trans h1, h2⟩, h.bd, h.few⟩
theorem SoI.lt (h : SoI rb sb n ob qb m s w) {b : Nat} (hb : soSh rb sb ob qb b) : b < w.heap.size := by
  obtain ⟨arr, h1, h2⟩ := h.qb
  rcases hb with rfl | rfl | rfl | rfl
  · exact h.ring.lt.1
  · exact h.ring.lt.2
  · exact (Array.getElem?_eq_some_iff.1 h.ob).1
  · exact (Array.getElem?_eq_some_iff.1 h1).1
theorem SoI.ne (h : SoI rb sb n ob qb m s w) : sb ≠ ob ∧ sb ≠ qb ∧ ob ≠ qb ∧ rb ≠ ob ∧ rb ≠ qb := by
  obtain ⟨arr, h1, h2⟩ := h.qb
  obtain ⟨ar2, k1, k2⟩ := h.ring.sl
  have h3 := h.ob
  have h4 := h.ring.hd
  refine ⟨fun e => ?_, fun e => ?_, fun e => ?_, fun e => ?_, fun e => ?_⟩
  · rw [e, h3] at k1; cases k1
  · rw [e, h1] at k1; cases k1
  · rw [e, h1] at h3; cases h3
  · rw [e, h3] at h4; cases h4
  · rw [e, h1] at h4; cases h4
theorem SoI.rdC (h : SoI rb sb n ob qb m s w) : w.cell? ⟨ob, 1, none⟩ = some (.int .i64 s.cur) ∧ w.frozen? ⟨ob, 1, none⟩ = false := ⟨(cell_of h.ob 1).trans rfl, frozen_of h.ob 1⟩
theorem SoI.rdN (h : SoI rb sb n ob qb m s w) {k : Nat} (hk : k < m) : w.cell? ⟨qb, k * 2, none⟩ = some (.int .i64 (s.nm k)) ∧ w.frozen? ⟨qb, k * 2, none⟩ = false := by
  obtain ⟨arr, h1, h2, h3⟩ := h.qb
  exact ⟨(cell_of h1 _).trans (h3 k hk).1, frozen_of h1 _⟩
theorem SoI.rdP (h : SoI rb sb n ob qb m s w) {k : Nat} (hk : k < m) : w.cell? ⟨qb, k * 2 + 1, none⟩ = some (.int .i64 (s.pl k)) ∧ w.frozen? ⟨qb, k * 2 + 1, none⟩ = false := by
  obtain ⟨arr, h1, h2, h3⟩ := h.qb
  exact ⟨(cell_of h1 _).trans (h3 k hk).2, frozen_of h1 _⟩
theorem SoI.setO (h : SoI rb sb n ob qb m s w) {s' : So} (j : Nat) (v : Value) (hrg : s'.rg = s.rg) (hnm : s'.nm = s.nm) (hpl : s'.pl = s.pl) (hb : SoB m s')
    (hc : (#[.pointer (some ⟨rb, 0, none⟩), .int .i64 s.cur, .slice (some ⟨qb, 0, none⟩) m m, .int .i64 s.nx, .int .i64 s.pb, .int .i64 s.ca] : Array Value).setIfInBounds j v = #[.pointer (some ⟨rb, 0, none⟩), .int .i64 s'.cur, .slice (some ⟨qb, 0, none⟩) m m, .int .i64 s'.nx, .int .i64 s'.pb, .int .i64 s'.ca]) : SoI rb sb n ob qb m s' (w.setCell ⟨ob, j, none⟩ v) := by
  obtain ⟨arr, h1, h2, h3⟩ := h.qb
  have hn := h.ne
  refine ⟨?_, ?_, ⟨arr, (heap_set_other _ _ _ _ (Ne.symm hn.2.2.1)).trans h1, h2, fun k hk => by rw [hnm, hpl]; exact h3 k hk⟩, hb, h.few⟩
  · rw [hrg]
    exact h.ring.old (heap_set_other _ _ _ _ hn.2.2.2.1) (heap_set_other _ _ _ _ hn.1)
  · rw [heap_set_self _ _ h.ob, hc]
theorem SoI.setC (h : SoI rb sb n ob qb m s w) {x : Int} (hx : seqP x) : SoI rb sb n ob qb m (soCur s x) (w.setCell ⟨ob, 1, none⟩ (.int .i64 x)) :=
  h.setO 1 _ rfl rfl rfl ⟨h.bd.nx, h.bd.pb, hx, h.bd.nm, h.bd.pl⟩ (by simp [soCur])
theorem SoI.setX (h : SoI rb sb n ob qb m s w) {x : Int} (hx : 0 ≤ x ∧ x ≤ 4611686018427387904) : SoI rb sb n ob qb m (soNx s x) (w.setCell ⟨ob, 3, none⟩ (.int .i64 x)) :=
  h.setO 3 _ rfl rfl rfl ⟨hx, h.bd.pb, h.bd.cur, h.bd.nm, h.bd.pl⟩ (by simp [soNx])
theorem SoI.setB (h : SoI rb sb n ob qb m s w) {x : Int} (hx : seqP x) : SoI rb sb n ob qb m (soPb s x) (w.setCell ⟨ob, 4, none⟩ (.int .i64 x)) :=
  h.setO 4 _ rfl rfl rfl ⟨h.bd.nx, hx, h.bd.cur, h.bd.nm, h.bd.pl⟩ (by simp [soPb])
theorem SoI.setA (h : SoI rb sb n ob qb m s w) (x : Int) : SoI rb sb n ob qb m (soCa s x) (w.setCell ⟨ob, 5, none⟩ (.int .i64 x)) :=
  h.setO 5 _ rfl rfl rfl ⟨h.bd.nx, h.bd.pb, h.bd.cur, h.bd.nm, h.bd.pl⟩ (by simp [soCa])
theorem SoI.setN (h : SoI rb sb n ob qb m s w) {k : Nat} (hk : k < m) {x : Int} (hx : seqP x) : SoI rb sb n ob qb m (soNm s k x) (w.setCell ⟨qb, k * 2, none⟩ (.int .i64 x)) := by
  obtain ⟨arr, h1, h2, h3⟩ := h.qb
  have hn := h.ne
  refine ⟨h.ring.old (heap_set_other _ _ _ _ hn.2.2.2.2) (heap_set_other _ _ _ _ hn.2.1), (heap_set_other _ _ _ _ hn.2.2.1).trans h.ob, ⟨_, heap_set_self _ _ h1, by simp [h2], fun j hj => ⟨?_, ?_⟩⟩, ⟨h.bd.nx, h.bd.pb, h.bd.cur, fun j hj => ?_, h.bd.pl⟩, h.few⟩
  · show _ = some (Value.int .i64 (upd s.nm k x j))
    by_cases e : j = k
    · subst e
      rw [upd_same]
      exact Array.getElem?_setIfInBounds_self_of_lt (by omega)
    · rw [upd_ne _ _ e, Array.getElem?_setIfInBounds_ne (by omega)]; exact (h3 j hj).1
  · rw [Array.getElem?_setIfInBounds_ne (by omega)]; exact (h3 j hj).2
  · show seqP (upd s.nm k x j)
    by_cases e : j = k
    · subst e; rw [upd_same]; exact hx
    · rw [upd_ne _ _ e]; exact h.bd.nm j hj
theorem SoI.setP (h : SoI rb sb n ob qb m s w) {k : Nat} (hk : k < m) {x : Int} (hx : seqP x) : SoI rb sb n ob qb m (soPl s k x) (w.setCell ⟨qb, k * 2 + 1, none⟩ (.int .i64 x)) := by
  obtain ⟨arr, h1, h2, h3⟩ := h.qb
  have hn := h.ne
  refine ⟨h.ring.old (heap_set_other _ _ _ _ hn.2.2.2.2) (heap_set_other _ _ _ _ hn.2.1), (heap_set_other _ _ _ _ hn.2.2.1).trans h.ob, ⟨_, heap_set_self _ _ h1, by simp [h2], fun j hj => ⟨?_, ?_⟩⟩, ⟨h.bd.nx, h.bd.pb, h.bd.cur, h.bd.nm, fun j hj => ?_⟩, h.few⟩
  · rw [Array.getElem?_setIfInBounds_ne (by omega)]; exact (h3 j hj).1
  · show _ = some (Value.int .i64 (upd s.pl k x j))
    by_cases e : j = k
    · subst e
      rw [upd_same]
      exact Array.getElem?_setIfInBounds_self_of_lt (by omega)
    · rw [upd_ne _ _ e, Array.getElem?_setIfInBounds_ne (by omega)]; exact (h3 j hj).2
  · show seqP (upd s.pl k x j)
    by_cases e : j = k
    · subst e; rw [upd_same]; exact hx
    · rw [upd_ne _ _ e]; exact h.bd.pl j hj
end
def soHeld (a : Int) : Int := min (max a (-1)) 2147483647
def soEnter (n m : Nat) (s : So) (th : Int) (o : OpV) : So × (Ans ⊕ SoD) :=
  if th = 0 then
    (if o.k = 1 then soClaim n m s (soHeld o.a) none
    else if o.k = 2 then (s, if soOpen s o.a then .inr (.p1 o.a o.b none) else .inl ⟨false, 1, []⟩)
    else if o.k = 3 then (s, if soOpen s o.a then .inr (.pu o.a ⟨true, 0, []⟩) else .inl ⟨false, 1, []⟩)
    else if o.k = 4 then soClaim n m s (min (max o.b 0) (n + 1)) (some ((min (max o.b 0) (n + 1)).toNat, fun i => IntKind.i64.wrap (o.a + i)))
    else (s, .inl ⟨false, 0, []⟩))
  else if 1 ≤ th ∧ th ≤ m then
    (if o.k = 5 then (s, .inr (.r0 (th - 1).toNat (s.pl (th - 1).toNat + 1)))
    else if o.k = 6 then (s, .inr (.b0 (th - 1).toNat (s.pl (th - 1).toNat) (soHeld o.a)))
    else (s, .inl ⟨false, 0, []⟩))
  else (s, .inl ⟨false, 0, []⟩)
def soLa (rb sb n ob qb m : Nat) : La where
  Sg := So
  D := SoD
  Gh := Unit
  le := fun _ _ => True
  refl := fun _ => trivial
  trans := fun _ _ => trivial
  enter := soEnter n m
  act := soAct n m
  sh := fun _ b => soSh rb sb ob qb b
  mono := fun _ h => h
  I := fun _ => SoI rb sb n ob qb m
  stable := fun h hb => h.old hb
  lt := fun h hb => h.lt hb
section
variable {rb sb n ob qb m : Nat}
def soRing : RingIn (soLa rb sb n ob qb m) rb sb n where
  rg := fun s => (s : So).rg
  putS := fun s i v => soRS s i v
  putV := fun s i v => soRV s i v
  sh := fun _ => .inr (.inl rfl)
  ring := fun {_ _ _} h => SoI.ring h
  upS := fun {_ s w i v} hi (h : SoI rb sb n ob qb m s w) => by
    have hn := h.ne
    obtain ⟨arr, h1, h2⟩ := h.qb
    exact ⟨h.ring.wrS hi v, (heap_set_other _ _ _ _ (Ne.symm hn.1)).trans h.ob, ⟨arr, (heap_set_other _ _ _ _ (Ne.symm hn.2.1)).trans h1, h2⟩, ⟨h.bd.nx, h.bd.pb, h.bd.cur, h.bd.nm, h.bd.pl⟩, h.few⟩
  upV := fun {_ s w i v} hi (h : SoI rb sb n ob qb m s w) => by
    have hn := h.ne
    obtain ⟨arr, h1, h2⟩ := h.qb
    exact ⟨h.ring.wrV hi v, (heap_set_other _ _ _ _ (Ne.symm hn.1)).trans h.ob, ⟨arr, (heap_set_other _ _ _ _ (Ne.symm hn.2.1)).trans h1, h2⟩, ⟨h.bd.nx, h.bd.pb, h.bd.cur, h.bd.nm, h.bd.pl⟩, h.few⟩
def curW : Wd (soLa rb sb n ob qb m) where
  on := fun _ => True
  up := fun _ _ => trivial
  b := ob
  q := 1
  get := fun s => (s : So).cur
  put := fun s v => soCur s v
  ok := seqP
  sh := fun _ _ => .inr (.inr (.inl rfl))
  rd := fun _ s w _ h => SoI.rdC h
  wr := fun _ s w v _ hv h => SoI.setC h hv
def numW (k : Nat) (hk : k < m) : Wd (soLa rb sb n ob qb m) where
  on := fun _ => True
  up := fun _ _ => trivial
  b := qb
  q := k * 2
  get := fun s => (s : So).nm k
  put := fun s v => soNm s k v
  ok := seqP
  sh := fun _ _ => .inr (.inr (.inr rfl))
  rd := fun _ s w _ h => SoI.rdN h hk
  wr := fun _ s w v _ hv h => SoI.setN h hk hv
def soGa (k : Nat) (p : Int) : GaP (soLa rb sb n ob qb m) n (soRing (rb := rb) (sb := sb) (ob := ob) (qb := qb) (m := m)).rg where
  A1 := fun q mm ls => .b1 k p q mm ls
  A2 := fun q mm ls => .b2 k p q mm ls
  A3 := fun q mm ls v => .b3 k p q mm ls v
  G := fun ls => .inr (.b4 k (p + ls.length) ls)
  E := fun er => .inl ⟨false, er, []⟩
  a1 := fun q mm ls s => rfl
  a2 := fun q mm ls s => rfl
  a3 := fun q mm ls s v => rfl
end
end
end Go.Proofs.Ytcdcnmphjhfbpaa
