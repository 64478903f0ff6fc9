/- Part 14. -/
import Derived.Test.YtjenoiekfkhafaaJ13
set_option linter.unusedSimpArgs false
set_option linter.unusedVariables false
set_option linter.unusedVariables false
set_option maxHeartbeats 8000000
set_option maxRecDepth 100000
namespace Go.Proofs.Ytjenoiekfkhafaa
open Go.Conc Go.RowKit Go.Relay
open Go.ConcN (upd upd_ne upd_same)
section
noncomputable def reg25_0 := rg Try.f25.body [0]
noncomputable def reg25_1 := rg Try.f25.body [1, 0, 0]
noncomputable def reg25_2 := rg Try.f25.body [1, 0, 1, 0, 0]
noncomputable def reg25_3 := rg Try.f25.body [1, 1, 0, 0]
noncomputable def reg25_4 := rg Try.f25.body [1, 1, 0, 1, 0, 0, 0]
noncomputable def reg25_5 := rg Try.f25.body [1, 1, 0, 1, 0, 0, 1, 1, 0, 0, 0]
noncomputable def reg25_6 := rg Try.f25.body [1, 1, 0, 1, 0, 0, 1, 1, 0, 0, 1, 0, 0]
noncomputable def reg25_7 := rg Try.f25.body [1, 1, 0, 1, 0, 0, 1, 1, 0, 0, 1, 1, 0]
noncomputable def reg25_8 := rg Try.f25.body [1, 1, 0, 1, 0, 0, 1, 1, 0, 0, 1, 1, 1, 0]
noncomputable def reg25_9 := rg Try.f25.body [1, 1, 0, 1, 0, 0, 1, 1, 0, 0, 1, 1, 1, 1, 0, 0]
noncomputable def reg25_10 := rg Try.f25.body [1, 1, 0, 1, 0, 0, 1, 1, 1]
noncomputable def reg25_11 := rg Try.f25.body [1, 1, 1, 0]
theorem z25 : List.range reg25_0.size = [0, 1] ∧ List.range reg25_1.size = [0, 1] ∧ List.range reg25_2.size = [0, 1] ∧ List.range reg25_3.size = [0, 1, 2] ∧ List.range reg25_4.size = [0] ∧ List.range reg25_5.size = [0, 1, 2, 3, 4, 5] ∧ List.range reg25_6.size = [0, 1] ∧ List.range reg25_7.size = [0, 1, 2, 3] ∧ List.range reg25_8.size = [0, 1, 2, 3, 4, 5, 6] ∧ List.range reg25_9.size = [0, 1, 2] ∧ List.range reg25_10.size = [0, 1] ∧ List.range reg25_11.size = [0, 1] := by refine ⟨?_, ?_, ?_, ?_, ?_, ?_, ?_, ?_, ?_, ?_, ?_, ?_⟩ <;> kernel_rfl
theorem code25_is : Try.f25.body = some (.seq (.region 0 reg25_0 false) (.seq (.seq (.region 1 reg25_1 false) (.cond (.tmp 11 ) (.seq (.region 2 reg25_2 false) (.ret)) (.skip))) (.seq (.seq (.region 3 reg25_3 false) (.block 0 (.loop (.seq (.region 4 reg25_4 false) (.seq (.cond (.tmp 15 ) (.skip) (.exit 0)) (.seq (.block 1 (.seq (.region 5 reg25_5 false) (.seq (.seq (.region 6 reg25_6 false) (.cond (.tmp 22 ) (.exit 1) (.skip))) (.seq (.region 7 reg25_7 false) (.seq (.region 8 reg25_8 false) (.cond (.tmp 32 ) (.seq (.region 9 reg25_9 false) (.ret)) (.skip))))))) (.region 10 reg25_10 false))))))) (.seq (.region 11 reg25_11 false) (.ret))))) := by kernel_rfl
noncomputable def hdRd (lb : Nat) (sv : Value) (T j : Nat) (u : Nat → Value) : Frame :=
  (base 25).at { tmps := #[.pointer (some ⟨lb, 0, none⟩), sv, u 2, u 3, u 4, u 5, u 6, u 7, u 8, u 9, u 10, u 11, u 12, .int .i64 T, .int .i64 j, u 15, u 16, u 17, u 18, u 19, u 20, u 21, u 22, u 23, u 24, u 25, u 26, u 27, u 28, u 29, u 30, u 31, u 32, u 33, u 34], defers := [] } [.code (.seq (.region 4 reg25_4 false) (.seq (.cond (.tmp 15 ) (.skip) (.exit 0)) (.seq (.block 1 (.seq (.region 5 reg25_5 false) (.seq (.seq (.region 6 reg25_6 false) (.cond (.tmp 22 ) (.exit 1) (.skip))) (.seq (.region 7 reg25_7 false) (.seq (.region 8 reg25_8 false) (.cond (.tmp 32 ) (.seq (.region 9 reg25_9 false) (.ret)) (.skip))))))) (.region 10 reg25_10 false)))), .inLoop (.seq (.region 4 reg25_4 false) (.seq (.cond (.tmp 15 ) (.skip) (.exit 0)) (.seq (.block 1 (.seq (.region 5 reg25_5 false) (.seq (.seq (.region 6 reg25_6 false) (.cond (.tmp 22 ) (.exit 1) (.skip))) (.seq (.region 7 reg25_7 false) (.seq (.region 8 reg25_8 false) (.cond (.tmp 32 ) (.seq (.region 9 reg25_9 false) (.ret)) (.skip))))))) (.region 10 reg25_10 false)))), .inBlock 0, .code (.seq (.region 11 reg25_11 false) (.ret))]
def trAt (T j : Nat) (d : Nat → QD) : Ans ⊕ QD := if j < T then .inr (d (T - j)) else .inl aNo
theorem fail_tr {T j : Nat} (h : j < T) (d : Nat → QD) : sqFail (T - j) d = trAt T (j + 1) d := by
  unfold sqFail trAt
  by_cases h1 : T - j ≤ 1
  · rw [if_pos h1, if_neg (by omega)]
  · rw [if_neg h1, if_pos (by omega)]
    congr 2
section
variable {lb k : Nat} {sv : Value}
def ListOK {L : La} {sv : Value} (K : Lg L sv) (e : K.E) (sl : Value) (ls : List Int) : Prop := (sl = .slice none 0 0 ∧ ls = []) ∨ ∃ B, sl = .slice (some ⟨B, 0, none⟩) ls.length ls.length ∧ K.mine e B ∧ NumB (K.w e) B ls
theorem ListOK.lsR {L : La} {sv : Value} {K : Lg L sv} {e : K.E} {sl : Value} {ls : List Int} (h : ListOK K e sl ls) : LsR sl ls (K.w e) := by
  rcases h with ⟨rfl, rfl⟩ | ⟨B, rfl, hm, hN⟩
  · exact LsR.nil _
  · exact hN.lsR
def ReadOut (K : Lg (sqLa lb k) sv) (v : Value) (e' : K.E) : Prop := ∃ sl b ls, v = .tuple #[sl, .bool b] ∧ ListOK K e' sl ls ∧ ls.length ≤ 16 ∧ K.tgt e' = (K.s e', .inl ⟨b, 0, ls⟩)
def dRaw (k t : Nat) (v : Int) (i : Nat) (l : List Int) : Ans ⊕ QD := .inr (if i = k + 1 then .r3 t v l else .r2 t v i l)
theorem read_round (K : Lg (sqLa lb k) sv) (T j : Nat) (hT : T ≤ 1024) (hj : j < T) (fr : Frame) (l : List Frame) (hp : Plain fr) (hl : ∀ f ∈ l, Plain f) (hk : ∀ x e', ReadOut K x e' → LW K.toLb e' (G (fr.finish x) (l ++ K.bot e'))) (e : K.E) (u : Nat → Value) (ht : K.tgt e = (K.s e, trAt T j .r1))
    (ih : ∀ (e' : K.E) (u' : Nat → Value), K.tgt e' = (K.s e', trAt T (j + 1) .r1) → LW K.toLb e' (G (hdRd lb sv T (j + 1) u') (fr :: (l ++ K.bot e')))) :
    LW K.toLb e (G (hdRd lb sv T j u) (fr :: (l ++ K.bot e))) := by
  have hk15 := (K.inv e).pos
  have ht0 : K.tgt e = (K.s e, .inr (.r1 (T - j))) := by rw [ht]; unfold trAt; rw [if_pos hj]; rfl
  have w1 := load_ver K e (.r1 (T - j)) ht0
  have hf := fail_tr hj QD.r1
  generalize hTj : T - j = t at *
  have hj1 : decide ((j : Int) < T) = true := by simp; omega
  have hj3 : decide (j < T) = true := by simp; omega
  have hw1 : IntKind.wrap .i64 ((j : Int) + 1) = ((j + 1 : Nat) : Int) := by rw [IntKind.wrap_i64]; omega
  clear hk15 hTj
  unfold LW hdRd
  repeat (first | refine Walk.cx ?_ | (refine Walk.cReg ?_; simp only [z25]) | (refine Walk.oq ?_; try walk_nrm) | (refine Walk.un ?_; walk_nrm))
  refine LW.callS (K := K.toLb) (e := e) (l := fr :: l) (f := 46) (Q := fun v e' => Aft K.toLb e (.r1 t) e' ∧ v = .int .i64 ((K.s e' : Sq).v)) ?_ (ho_of (by conv => lhs; whnf) (by kernel_rfl)) (by rfl) (by decide) rfl Try.func46 (by kernel_rfl) (by rfl) ⟨rfl, rfl, _, Try.func25⟩ (plain_cons hp hl) ?_
  · walk_nrm
    exact w1
  rintro v e1 ⟨ha, rfl⟩
  have ht1 : K.tgt e1 = (K.s e1, if sqOdd (K.s e1 : Sq).v then sqFail t .r1 else .inr (.r2 t (K.s e1 : Sq).v 0 [])) := ha.tgt
  rw [hf] at ht1
  generalize (K.s e1 : Sq).v = x at *
  have hod := odd_w (main := K.main) (V := K.V e1) x (K.w e1)
  unfold LW
  walk_nrm
  repeat (first | refine Walk.cx ?_ | (refine Walk.cReg ?_; simp only [z25]) | (refine Walk.oq ?_; try walk_nrm) | (refine Walk.un ?_; walk_nrm))
  refine Walk.callV (x := .bool (decide (sqOdd x))) (W := K.w e1) ?_ (ho_of (by conv => lhs; whnf) (by kernel_rfl)) (by rfl) (by decide) rfl Try.func47 (by kernel_rfl) (by rfl) ?_
  · walk_nrm
    exact hod
  walk_nrm
  clear hod w1
  by_cases ho : sqOdd x
  · rw [if_pos ho] at ht1
    have hih := fun u => ih e1 u ht1
    clear ih hk
    simp only [ho, decide_true]
    unfold LW at hih
    repeat (first | refine Walk.cx ?_ | (refine Walk.cReg ?_; simp only [z25]) | (refine Walk.oq ?_; try walk_nrm) | (refine Walk.un ?_; walk_nrm))
    refine Walk.ctl rfl (fun w => stepG_inLoop) ?_
    refine slots_walk (F := fun u => G (hdRd lb sv T (j + 1) u) (fr :: (l ++ K.bot e1))) hih ?_
    simp only [hdRd]
    rfl
  · rw [if_neg ho] at ht1
    have hraw := raw_s K (dRaw k t x) (fun i l => if i = k + 1 then .r3 t x l else .r2 t x i l) (fun _ _ _ => rfl) (fun s i l hi => by
      show sqAct k s (if i = k + 1 then _ else _) = _
      rw [if_neg (by omega)]
      show (s, Sum.inr (if i = k then _ else _)) = (s, dRaw k t x (i + 1) _)
      unfold dRaw
      by_cases e : i = k
      · rw [if_pos e, if_pos (by omega)]
      · rw [if_neg e, if_neg (by omega)]) e1 (ht1.trans (by unfold dRaw; rw [if_neg (by omega)]))
    simp only [ho, decide_false]
    repeat (first | refine Walk.cx ?_ | (refine Walk.cReg ?_; simp only [z25]) | (refine Walk.oq ?_; try walk_nrm) | (refine Walk.un ?_; walk_nrm))
    refine LW.callS (K := K.toLb) (e := e1) (l := fr :: l) (f := 31) (Q := RawOut K (dRaw k t x)) ?_ (ho_of (by conv => lhs; whnf) (by kernel_rfl)) (by rfl) (by decide) rfl Try.func31 (by kernel_rfl) (by rfl) ⟨rfl, rfl, _, Try.func25⟩ (plain_cons hp hl) ?_
    · walk_nrm
      exact hraw
    rintro v e2 ⟨B, ls, rfl, hlen, hmB, hNB, ht2⟩
    have ht3 : K.tgt e2 = (K.s e2, .inr (.r3 t x ls)) := ht2.trans (by unfold dRaw; rw [if_pos rfl]; rfl)
    have w2 := load_ver K e2 (.r3 t x ls) ht3
    have hk16 : k + 1 ≤ 16 := by have := (K.inv e2).pos; omega
    clear hraw ht1 ht2 ht3
    unfold LW
    walk_nrm
    repeat (first | refine Walk.cx ?_ | (refine Walk.cReg ?_; simp only [z25]) | (refine Walk.oq ?_; try walk_nrm) | (refine Walk.un ?_; walk_nrm))
    refine LW.callS (K := K.toLb) (e := e2) (l := fr :: l) (f := 46) (Q := fun v e' => Aft K.toLb e2 (.r3 t x ls) e' ∧ v = .int .i64 ((K.s e' : Sq).v)) ?_ (ho_of (by conv => lhs; whnf) (by kernel_rfl)) (by rfl) (by decide) rfl Try.func46 (by kernel_rfl) (by rfl) ⟨rfl, rfl, _, Try.func25⟩ (plain_cons hp hl) ?_
    · walk_nrm
      exact w2
    rintro v e3 ⟨ha3, rfl⟩
    have ht4 : K.tgt e3 = (K.s e3, if (K.s e3 : Sq).v = x then .inl ⟨true, 0, ls⟩ else sqFail t .r1) := ha3.tgt
    rw [hf] at ht4
    have hN3 : NumB (K.w e3) B ls := hNB.same (ha3.mine B hmB).2
    generalize (K.s e3 : Sq).v = y at *
    clear w2
    by_cases he : y = x
    · rw [if_pos he] at ht4
      have hb1 : (y == x) = true := by simp [he]
      have hkk := hk (.tuple #[.slice (some ⟨B, 0, none⟩) (k + 1) (k + 1), .bool true]) e3 ⟨_, _, ls, rfl, .inr ⟨B, by rw [hlen], (ha3.mine B hmB).1, hN3⟩, by omega, ht4⟩
      clear ih hk hf
      unfold LW at hkk ⊢
      walk_nrm
      repeat (first | refine Walk.cx ?_ | (refine Walk.cReg ?_; simp only [z25]) | (refine Walk.oq ?_; try walk_nrm) | (refine Walk.un ?_; walk_nrm))
      exact Walk.on2 rfl rfl Try.func25 rfl hkk
    · rw [if_neg he] at ht4
      have hb1 : (y == x) = false := by simp [he]
      have hih := fun u => ih e3 u ht4
      clear ih hk hf
      unfold LW at hih ⊢
      walk_nrm
      repeat (first | refine Walk.cx ?_ | (refine Walk.cReg ?_; simp only [z25]) | (refine Walk.oq ?_; try walk_nrm) | (refine Walk.un ?_; walk_nrm))
      refine Walk.ctl rfl (fun w => stepG_inLoop) ?_
      refine slots_walk (F := fun u => G (hdRd lb sv T (j + 1) u) (fr :: (l ++ K.bot e3))) hih ?_
      simp only [hdRd]
      rfl
theorem read_end (K : Lg (sqLa lb k) sv) (T : Nat) (hT : T ≤ 1024) (fr : Frame) (l : List Frame) (hk : ∀ x e', ReadOut K x e' → LW K.toLb e' (G (fr.finish x) (l ++ K.bot e'))) (e : K.E) (u : Nat → Value) (ht : K.tgt e = (K.s e, trAt T T .r1)) :
    LW K.toLb e (G (hdRd lb sv T T u) (fr :: (l ++ K.bot e))) := by
  have ht0 : K.tgt e = (K.s e, .inl aNo) := by rw [ht]; unfold trAt; rw [if_neg (by omega)]; rfl
  have hkk := hk (.tuple #[.slice none 0 0, .bool false]) e ⟨_, _, [], rfl, .inl ⟨rfl, rfl⟩, by simp, ht0⟩
  have hj3 : decide (T < T) = false := by simp
  unfold LW hdRd
  unfold LW at hkk
  repeat (first | refine Walk.cx ?_ | (refine Walk.cReg ?_; simp only [z25]) | (refine Walk.oq ?_; try walk_nrm) | (refine Walk.un ?_; walk_nrm))
  exact Walk.on2 rfl rfl Try.func25 rfl hkk
theorem read_loop (K : Lg (sqLa lb k) sv) (T : Nat) (hT : T ≤ 1024) (fr : Frame) (l : List Frame) (hp : Plain fr) (hl : ∀ f ∈ l, Plain f) (hk : ∀ x e', ReadOut K x e' → LW K.toLb e' (G (fr.finish x) (l ++ K.bot e'))) :
    ∀ (r j : Nat) (e : K.E) (u : Nat → Value), j + r = T → K.tgt e = (K.s e, trAt T j .r1) → LW K.toLb e (G (hdRd lb sv T j u) (fr :: (l ++ K.bot e))) := by
  intro r
  induction r with
  | zero =>
    intro j e u hj ht
    obtain rfl : j = T := hj
    exact read_end K j hT fr l hk e u ht
  | succ r ih =>
    intro j e u hj ht
    exact read_round K T j hT (by omega) fr l hp hl hk e u ht fun e' u' ht' => ih (j + 1) e' u' (by omega) ht'
theorem read_s (K : Lg (sqLa lb k) sv) (e : K.E) (a : Int) (ht : K.tgt e = (K.s e, .inr (.r1 (sqTr a)))) : SCall K.toLb 25 #[.pointer (some ⟨lb, 0, none⟩), sv, .int .i64 a] e (ReadOut K) := by
  intro fr l hp hl hk
  have hT := sqTr_le a
  have hlp := fun u => read_loop K (sqTr a) hT.2 fr l hp hl hk (sqTr a) 0 e u (by omega) (by rw [ht]; unfold trAt; rw [if_pos (by omega)]; rfl)
  have hwi := within_w (main := K.main) (V := K.V e) a (K.w e)
  generalize sqTr a = T at *
  have hp1 := fun w => run_eql_ptr (P := Try.prog) 35 undLock (some ⟨lb, 0, none⟩) w
  have hp2 := fun w es => ev_eql_ptr (P := Try.prog) 35 undLock (some ⟨lb, 0, none⟩) w es
  simp only [Option.isNone_some] at hp1
  unfold LW at hlp ⊢
  rw [enter_at _ Try.func25 code25_is]
  simp only [Try.ntmps25, ez, Nat.reduceAdd, Nat.reduceSub]
  repeat (first | refine Walk.cx ?_ | (refine Walk.cReg ?_; simp only [z25]) | (refine Walk.oq ?_; try walk_nrm) | (refine Walk.un ?_; walk_nrm))
  refine Walk.callV (x := .int .i64 (T : Int)) (W := K.w e) ?_ (ho_of (by conv => lhs; whnf) (by kernel_rfl)) (by rfl) (by decide) rfl Try.func45 (by kernel_rfl) (by rfl) ?_
  · walk_nrm
    exact hwi
  walk_nrm
  clear hwi
  repeat (first | refine Walk.cx ?_ | (refine Walk.cReg ?_; simp only [z25]) | (refine Walk.oq ?_; try walk_nrm) | (refine Walk.un ?_; walk_nrm))
  refine Walk.ctl rfl (fun w => stepG_loop) ?_
  refine slots_walk (F := fun u => G (hdRd lb sv T 0 u) (fr :: (l ++ K.bot e))) hlp ?_
  simp only [hdRd]
  rfl
end
end
section
noncomputable def reg41_0 := rg Try.f41.body [0]
noncomputable def reg41_1 := rg Try.f41.body [1, 0, 0]
noncomputable def reg41_2 := rg Try.f41.body [1, 0, 1, 0, 0]
noncomputable def reg41_3 := rg Try.f41.body [1, 1, 0]
noncomputable def reg41_4 := rg Try.f41.body [1, 1, 1, 0, 0]
noncomputable def reg41_5 := rg Try.f41.body [1, 1, 1, 0, 1, 0, 0, 0]
noncomputable def reg41_6 := rg Try.f41.body [1, 1, 1, 0, 1, 0, 0, 1, 1, 0, 0, 0]
noncomputable def reg41_7 := rg Try.f41.body [1, 1, 1, 0, 1, 0, 0, 1, 1, 0, 0, 1, 0, 0]
noncomputable def reg41_8 := rg Try.f41.body [1, 1, 1, 0, 1, 0, 0, 1, 1, 0, 0, 1, 1, 0, 0]
noncomputable def reg41_9 := rg Try.f41.body [1, 1, 1, 0, 1, 0, 0, 1, 1, 0, 0, 1, 1, 0, 1, 0, 0, 0]
noncomputable def reg41_10 := rg Try.f41.body [1, 1, 1, 0, 1, 0, 0, 1, 1, 0, 0, 1, 1, 0, 1, 0, 0, 1, 1, 0, 0, 0]
noncomputable def reg41_11 := rg Try.f41.body [1, 1, 1, 0, 1, 0, 0, 1, 1, 0, 0, 1, 1, 0, 1, 0, 0, 1, 1, 0, 0, 1]
noncomputable def reg41_12 := rg Try.f41.body [1, 1, 1, 0, 1, 0, 0, 1, 1, 0, 0, 1, 1, 0, 1, 0, 0, 1, 1, 1]
noncomputable def reg41_13 := rg Try.f41.body [1, 1, 1, 0, 1, 0, 0, 1, 1, 0, 0, 1, 1, 1, 0]
noncomputable def reg41_14 := rg Try.f41.body [1, 1, 1, 0, 1, 0, 0, 1, 1, 0, 0, 1, 1, 1, 1, 0]
noncomputable def reg41_15 := rg Try.f41.body [1, 1, 1, 0, 1, 0, 0, 1, 1, 1]
noncomputable def reg41_16 := rg Try.f41.body [1, 1, 1, 1, 0]
theorem z41 : List.range reg41_0.size = [0] ∧ List.range reg41_1.size = [0, 1] ∧ List.range reg41_2.size = [0] ∧ List.range reg41_3.size = [0, 1, 2, 3] ∧ List.range reg41_4.size = [0, 1, 2] ∧ List.range reg41_5.size = [0] ∧ List.range reg41_6.size = [0, 1, 2, 3, 4, 5] ∧ List.range reg41_7.size = [0, 1, 2, 3, 4, 5, 6, 7, 8, 9, 10, 11, 12] ∧ List.range reg41_8.size = [0, 1, 2] ∧ List.range reg41_9.size = [0] ∧ List.range reg41_10.size = [0, 1, 2, 3, 4] ∧ List.range reg41_11.size = [0, 1, 2, 3, 4, 5, 6, 7] ∧ List.range reg41_12.size = [0, 1] ∧ List.range reg41_13.size = [0, 1, 2, 3, 4, 5, 6] ∧ List.range reg41_14.size = [0] ∧ List.range reg41_15.size = [0, 1] ∧ List.range reg41_16.size = [0] := by refine ⟨?_, ?_, ?_, ?_, ?_, ?_, ?_, ?_, ?_, ?_, ?_, ?_, ?_, ?_, ?_, ?_, ?_⟩ <;> kernel_rfl
theorem code41_is : Try.f41.body = some (.seq (.region 0 reg41_0 false) (.seq (.seq (.region 1 reg41_1 false) (.cond (.tmp 16 ) (.seq (.region 2 reg41_2 false) (.ret)) (.skip))) (.seq (.region 3 reg41_3 false) (.seq (.seq (.region 4 reg41_4 false) (.block 0 (.loop (.seq (.region 5 reg41_5 false) (.seq (.cond (.tmp 23 ) (.skip) (.exit 0)) (.seq (.block 1 (.seq (.region 6 reg41_6 false) (.seq (.seq (.region 7 reg41_7 false) (.cond (.tmp 41 ) (.exit 1) (.skip))) (.seq (.seq (.region 8 reg41_8 false) (.block 2 (.loop (.seq (.region 9 reg41_9 false) (.seq (.cond (.tmp 45 ) (.skip) (.exit 2)) (.seq (.block 3 (.seq (.region 10 reg41_10 false) (.region 11 reg41_11 false))) (.region 12 reg41_12 false))))))) (.seq (.region 13 reg41_13 false) (.seq (.region 14 reg41_14 false) (.ret))))))) (.region 15 reg41_15 false))))))) (.seq (.region 16 reg41_16 false) (.ret)))))) := by kernel_rfl
noncomputable def reg23_0 := rg Try.f23.body [0]
noncomputable def reg23_1 := rg Try.f23.body [1, 0]
theorem z23 : List.range reg23_0.size = [0, 1] ∧ List.range reg23_1.size = [0, 1, 2, 3, 4, 5, 6] := by refine ⟨?_, ?_⟩ <;> kernel_rfl
theorem code23_is : Try.f23.body = some (.seq (.region 0 reg23_0 false) (.seq (.region 1 reg23_1 false) (.ret))) := by kernel_rfl
noncomputable def reg24_0 := rg Try.f24.body [0]
noncomputable def reg24_1 := rg Try.f24.body [1, 0]
theorem z24 : List.range reg24_0.size = [0, 1] ∧ List.range reg24_1.size = [0, 1, 2, 3, 4, 5, 6] := by refine ⟨?_, ?_⟩ <;> kernel_rfl
theorem code24_is : Try.f24.body = some (.seq (.region 0 reg24_0 false) (.seq (.region 1 reg24_1 false) (.ret))) := by kernel_rfl
noncomputable def reg42_0 := rg Try.f42.body []
theorem z42 : List.range reg42_0.size = [0, 1, 2, 3] := by kernel_rfl
theorem code42_is : Try.f42.body = some (.region 0 reg42_0 false) := by kernel_rfl
noncomputable def reg43_0 := rg Try.f43.body []
theorem z43 : List.range reg43_0.size = [0, 1, 2, 3] := by kernel_rfl
theorem code43_is : Try.f43.body = some (.region 0 reg43_0 false) := by kernel_rfl
noncomputable def hdCh (lb : Nat) (sv lv : Value) (B n T j : Nat) (u : Nat → Value) : Frame :=
  (base 41).at { tmps := #[.pointer (some ⟨lb, 0, none⟩), sv, u 2, u 3, lv, u 5, u 6, u 7, u 8, u 9, u 10, .slice (some ⟨B, 0, none⟩) n n, u 12, u 13, u 14, u 15, u 16, u 17, u 18, u 19, u 20, .int .i64 T, .int .i64 j, u 23, u 24, u 25, u 26, u 27, u 28, u 29, u 30, u 31, u 32, u 33, u 34, u 35, u 36, u 37, u 38, u 39, u 40, u 41, u 42, u 43, u 44, u 45, u 46, u 47, u 48, u 49, u 50, u 51, u 52, u 53, u 54, u 55, u 56, u 57, u 58, u 59, u 60, u 61, u 62, u 63, u 64, u 65], defers := [] } [.code (.seq (.region 5 reg41_5 false) (.seq (.cond (.tmp 23 ) (.skip) (.exit 0)) (.seq (.block 1 (.seq (.region 6 reg41_6 false) (.seq (.seq (.region 7 reg41_7 false) (.cond (.tmp 41 ) (.exit 1) (.skip))) (.seq (.seq (.region 8 reg41_8 false) (.block 2 (.loop (.seq (.region 9 reg41_9 false) (.seq (.cond (.tmp 45 ) (.skip) (.exit 2)) (.seq (.block 3 (.seq (.region 10 reg41_10 false) (.region 11 reg41_11 false))) (.region 12 reg41_12 false))))))) (.seq (.region 13 reg41_13 false) (.seq (.region 14 reg41_14 false) (.ret))))))) (.region 15 reg41_15 false)))), .inLoop (.seq (.region 5 reg41_5 false) (.seq (.cond (.tmp 23 ) (.skip) (.exit 0)) (.seq (.block 1 (.seq (.region 6 reg41_6 false) (.seq (.seq (.region 7 reg41_7 false) (.cond (.tmp 41 ) (.exit 1) (.skip))) (.seq (.seq (.region 8 reg41_8 false) (.block 2 (.loop (.seq (.region 9 reg41_9 false) (.seq (.cond (.tmp 45 ) (.skip) (.exit 2)) (.seq (.block 3 (.seq (.region 10 reg41_10 false) (.region 11 reg41_11 false))) (.region 12 reg41_12 false))))))) (.seq (.region 13 reg41_13 false) (.seq (.region 14 reg41_14 false) (.ret))))))) (.region 15 reg41_15 false)))), .inBlock 0, .code (.seq (.region 16 reg41_16 false) (.ret))]
noncomputable def hdLy (lb : Nat) (sv lv : Value) (B n : Nat) (v : Int) (i : Nat) (u : Nat → Value) : Frame :=
  (base 41).at { tmps := #[.pointer (some ⟨lb, 0, none⟩), sv, u 2, u 3, lv, u 5, u 6, u 7, u 8, u 9, u 10, u 11, .int .i64 v, u 13, u 14, u 15, u 16, u 17, u 18, u 19, u 20, u 21, u 22, u 23, u 24, u 25, u 26, u 27, u 28, u 29, u 30, u 31, u 32, u 33, u 34, u 35, u 36, u 37, u 38, u 39, u 40, u 41, .slice (some ⟨B, 0, none⟩) n n, .int .i64 n, .int .i64 i, u 45, u 46, u 47, u 48, u 49, u 50, u 51, u 52, u 53, u 54, u 55, u 56, u 57, u 58, u 59, u 60, u 61, u 62, u 63, u 64, u 65], defers := [] } [.code (.seq (.region 9 reg41_9 false) (.seq (.cond (.tmp 45 ) (.skip) (.exit 2)) (.seq (.block 3 (.seq (.region 10 reg41_10 false) (.region 11 reg41_11 false))) (.region 12 reg41_12 false)))), .inLoop (.seq (.region 9 reg41_9 false) (.seq (.cond (.tmp 45 ) (.skip) (.exit 2)) (.seq (.block 3 (.seq (.region 10 reg41_10 false) (.region 11 reg41_11 false))) (.region 12 reg41_12 false)))), .inBlock 2, .code (.seq (.region 13 reg41_13 false) (.seq (.region 14 reg41_14 false) (.ret))), .inBlock 1, .code (.region 15 reg41_15 false), .inLoop (.seq (.region 5 reg41_5 false) (.seq (.cond (.tmp 23 ) (.skip) (.exit 0)) (.seq (.block 1 (.seq (.region 6 reg41_6 false) (.seq (.seq (.region 7 reg41_7 false) (.cond (.tmp 41 ) (.exit 1) (.skip))) (.seq (.seq (.region 8 reg41_8 false) (.block 2 (.loop (.seq (.region 9 reg41_9 false) (.seq (.cond (.tmp 45 ) (.skip) (.exit 2)) (.seq (.block 3 (.seq (.region 10 reg41_10 false) (.region 11 reg41_11 false))) (.region 12 reg41_12 false))))))) (.seq (.region 13 reg41_13 false) (.seq (.region 14 reg41_14 false) (.ret))))))) (.region 15 reg41_15 false)))), .inBlock 0, .code (.seq (.region 16 reg41_16 false) (.ret))]
section
variable {lb k : Nat} {sv : Value}
def layV (ad : Bool) (old x : Int) : Int := if ad then IntKind.i64.wrap (old + x) else x
theorem act_w3 (ad : Bool) (xs : Nat → Int) (v : Int) (i : Nat) (s : Sq) : sqAct k s (.w3 ad xs v i) = (sqPutW s i (layV ad (s.w i) (xs i)), .inr (if i = k then .w4 v else .w3 ad xs v (i + 1))) := rfl
def LayOK (K : Lg (sqLa lb k) sv) (ad : Bool) (fl : FuncId) (caps : Array Value) : Prop := ∀ (e : K.E) (i : Nat), i ≤ k → ∀ (x : Int) (d : QD), K.tgt e = (K.s e, .inr d) →
  SCall K.toLb fl (#[] ++ #[.pointer (some ⟨lb, 1 + i, none⟩), .int .i64 x] ++ caps) e (fun _ e' => ∃ s : Sq, Wrote K e d s (sqPutW s i (layV ad (s.w i) x)) e')
theorem store_word (K : Lg (sqLa lb k) sv) (i : Nat) (hi : i ≤ k) (e : K.E) (d : QD) (x : Int) (ht : K.tgt e = (K.s e, .inr d)) : SCall K.toLb 39 #[.pointer (some ⟨lb, 1 + i, none⟩), sv, .int .i64 x] e (fun _ e' => ∃ s : Sq, Wrote K e d s (sqPutW s i x) e') := word_store K (worW i hi) e d x trivial trivial ht
theorem add_word (K : Lg (sqLa lb k) sv) (i : Nat) (hi : i ≤ k) (e : K.E) (d : QD) (x : Int) (ht : K.tgt e = (K.s e, .inr d)) : SCall K.toLb 44 #[.pointer (some ⟨lb, 1 + i, none⟩), sv, .int .i64 x] e (fun v e' => ∃ s : Sq, v = .int .i64 (IntKind.i64.wrap (s.w i + x)) ∧ Wrote K e d s (sqPutW s i (IntKind.i64.wrap (s.w i + x))) e') := word_add K (worW i hi) e d x (fun _ => trivial) trivial ht
theorem store_ver (K : Lg (sqLa lb k) sv) (e : K.E) (d : QD) (x : Int) (ht : K.tgt e = (K.s e, .inr d)) : SCall K.toLb 39 #[.pointer (some ⟨lb, 0, none⟩), sv, .int .i64 x] e (fun _ e' => ∃ s : Sq, Wrote K e d s (sqPutV s x) e') := word_store K verW e d x trivial trivial ht
theorem cas_ver (K : Lg (sqLa lb k) sv) (e : K.E) (d : QD) (old x : Int) (ht : K.tgt e = (K.s e, .inr d)) : SCall K.toLb 58 #[.pointer (some ⟨lb, 0, none⟩), sv, .int .i64 old, .int .i64 x] e (fun v e' => ∃ s : Sq, (s.v = old ∧ v = .bool true ∧ Wrote K e d s (sqPutV s x) e') ∨ (s.v ≠ old ∧ v = .bool false ∧ Wrote K e d s s e')) := word_cas K verW e d old x trivial trivial ht
theorem layW_ok (K : Lg (sqLa lb k) sv) (vb : Nat) (hcap : ∀ e : K.E, (K.w e).heap[vb]? = some (.cells #[sv] 90)) : LayOK K false 42 #[.pointer (some ⟨vb, 0, none⟩)] := by
  intro e i hi x d ht fr l hp hl hk
  have w1 := store_word K i hi e d x ht
  have ha : (#[] ++ #[.pointer (some ⟨lb, 1 + i, none⟩), .int .i64 x] ++ #[.pointer (some ⟨vb, 0, none⟩)] : Array Value) = #[.pointer (some ⟨lb, 1 + i, none⟩), .int .i64 x, .pointer (some ⟨vb, 0, none⟩)] := rfl
  have c1 := (cell_of (hcap e) 0).trans rfl
  rw [ha]
  clear ha hcap
  unfold LW
  rw [enter_at _ Try.func42 code42_is]
  simp only [Try.ntmps42, ez, Nat.reduceAdd, Nat.reduceSub]
  repeat (first | refine Walk.cx ?_ | (refine Walk.cReg ?_; simp only [z42]) | (refine Walk.oq ?_; try walk_nrm) | (refine Walk.un ?_; walk_nrm))
  refine LW.callS (K := K.toLb) (e := e) (l := fr :: l) (f := 39) (Q := fun _ e' => ∃ s : Sq, Wrote K e d s (sqPutW s i x) e') ?_ (ho_of (by conv => lhs; whnf) (by kernel_rfl)) (by rfl) (by decide) rfl Try.func39 (by kernel_rfl) (by rfl) ⟨rfl, rfl, _, Try.func42⟩ (plain_cons hp hl) ?_
  · walk_nrm
    exact w1
  rintro v e1 ⟨s, hw⟩
  have hkk := hk (.tuple #[]) e1 ⟨s, hw⟩
  unfold LW at hkk ⊢
  walk_nrm
  repeat (first | refine Walk.cx ?_ | (refine Walk.cReg ?_; simp only [z42]) | (refine Walk.oq ?_; try walk_nrm) | (refine Walk.un ?_; walk_nrm))
  exact Walk.on0 rfl rfl Try.func42 rfl hkk
theorem layA_ok (K : Lg (sqLa lb k) sv) (vb : Nat) (hcap : ∀ e : K.E, (K.w e).heap[vb]? = some (.cells #[sv] 90)) : LayOK K true 43 #[.pointer (some ⟨vb, 0, none⟩)] := by
  intro e i hi x d ht fr l hp hl hk
  have w1 := add_word K i hi e d x ht
  have ha : (#[] ++ #[.pointer (some ⟨lb, 1 + i, none⟩), .int .i64 x] ++ #[.pointer (some ⟨vb, 0, none⟩)] : Array Value) = #[.pointer (some ⟨lb, 1 + i, none⟩), .int .i64 x, .pointer (some ⟨vb, 0, none⟩)] := rfl
  have c1 := (cell_of (hcap e) 0).trans rfl
  rw [ha]
  clear ha hcap
  unfold LW
  rw [enter_at _ Try.func43 code43_is]
  simp only [Try.ntmps43, ez, Nat.reduceAdd, Nat.reduceSub]
  repeat (first | refine Walk.cx ?_ | (refine Walk.cReg ?_; simp only [z43]) | (refine Walk.oq ?_; try walk_nrm) | (refine Walk.un ?_; walk_nrm))
  refine LW.callS (K := K.toLb) (e := e) (l := fr :: l) (f := 44) (Q := fun v e' => ∃ s : Sq, v = .int .i64 (IntKind.i64.wrap (s.w i + x)) ∧ Wrote K e d s (sqPutW s i (IntKind.i64.wrap (s.w i + x))) e') ?_ (ho_of (by conv => lhs; whnf) (by kernel_rfl)) (by rfl) (by decide) rfl Try.func44 (by kernel_rfl) (by rfl) ⟨rfl, rfl, _, Try.func43⟩ (plain_cons hp hl) ?_
  · walk_nrm
    exact w1
  rintro v e1 ⟨s, rfl, hw⟩
  have hkk := hk (.tuple #[]) e1 ⟨s, hw⟩
  generalize IntKind.i64.wrap (s.w i + x) = y at *
  unfold LW at hkk ⊢
  walk_nrm
  repeat (first | refine Walk.cx ?_ | (refine Walk.cReg ?_; simp only [z43]) | (refine Walk.oq ?_; try walk_nrm) | (refine Walk.un ?_; walk_nrm))
  exact Walk.on0 rfl rfl Try.func43 rfl hkk
def dLay (k : Nat) (ad : Bool) (xs : Nat → Int) (v : Int) (i : Nat) : QD := if i = k + 1 then .w4 v else .w3 ad xs v i
def ChOut (K : Lg (sqLa lb k) sv) (v : Value) (e' : K.E) : Prop := ∃ b, v = .bool b ∧ K.tgt e' = (K.s e', .inl ⟨b, 0, []⟩)
theorem lay_round (K : Lg (sqLa lb k) sv) (ad : Bool) (xs : Nat → Int) (v : Int) (fl : FuncId) (fn : Func) (caps : Array Value) (hf : Try.prog.funcs[fl]? = some fn) (hname : (fn.name == "runtime.NumGoroutine") = false) (hb : fn.body.isNone = false) (hlay : LayOK K ad fl caps)
    (B : Nat) (ls : List Int) (hlen : ls.length = k + 1) (hxs : ∀ i, i ≤ k → ls[i]? = some (xs i)) (fr : Frame) (l : List Frame) (hp : Plain fr) (hl : ∀ f ∈ l, Plain f) (i : Nat) (hi : i < k + 1) (e : K.E) (u : Nat → Value) (hB : K.mine e B) (hT : NumB (K.w e) B ls) (ht : K.tgt e = (K.s e, .inr (dLay k ad xs v i)))
    (ih : ∀ (e' : K.E) (u' : Nat → Value), K.mine e' B → NumB (K.w e') B ls → K.tgt e' = (K.s e', .inr (dLay k ad xs v (i + 1))) → LW K.toLb e' (G (hdLy lb sv (.func (.func fl) #[] caps) B (k + 1) v (i + 1) u') (fr :: (l ++ K.bot e')))) :
    LW K.toLb e (G (hdLy lb sv (.func (.func fl) #[] caps) B (k + 1) v i u) (fr :: (l ++ K.bot e))) := by
  have hk15 := (K.inv e).pos
  have ht0 : K.tgt e = (K.s e, .inr (.w3 ad xs v i)) := by rw [ht]; unfold dLay; rw [if_neg (by omega)]
  have w1 := hlay e i (by omega) (xs i) (.w3 ad xs v i) ht0
  have hcx := hT.cell (hxs i (by omega))
  have hnx : ∀ s : Sq, sqAct k s (.w3 ad xs v i) = (sqPutW s i (layV ad (s.w i) (xs i)), .inr (dLay k ad xs v (i + 1))) := fun s => by
    rw [act_w3]
    unfold dLay
    by_cases h : i = k
    · rw [if_pos h, if_pos (by omega)]
    · rw [if_neg h, if_neg (by omega)]
  have hj6 : i < 16 := by omega
  have hx1 := fun w => (ix_word lb i hj6 w #[]).1
  have hx2 := fun w es => (ix_word lb i hj6 w es).2
  have hn17 : k + 1 ≤ 16 := by omega
  have hj0 : (0 : Int) ≤ i := by omega
  have hj1 : decide ((i : Int) < ((k + 1 : Nat) : Int)) = true := by simp; omega
  have hj3 : decide (i < k + 1) = true := by simp; omega
  have hj4 : (i : Int) < ((k + 1 : Nat) : Int) := by omega
  have hw1 : IntKind.wrap .i64 ((i : Int) + 1) = ((i + 1 : Nat) : Int) := by rw [IntKind.wrap_i64]; omega
  clear hk15 hlen hxs ht ht0
  generalize k + 1 = n at *
  generalize xs i = x at *
  unfold LW hdLy
  repeat (first | refine Walk.cx ?_ | (refine Walk.cReg ?_; simp only [z41]) | (refine Walk.oq ?_; try walk_nrm) | (refine Walk.un ?_; walk_nrm))
  refine Walk.ctl rfl (fun w' => stepG_callValue (ho_of (by conv => lhs; whnf) (by kernel_rfl)) (by rfl) (by decide) rfl rfl hf hname hb) ?_
  walk_nrm
  generalize hX : Frame.at _ _ _ = X
  have hpX : Plain X := by subst hX; exact ⟨rfl, rfl, _, Try.func41⟩
  refine w1 X (fr :: l) hpX (plain_cons hp hl) ?_
  rintro v' e1 ⟨s, hw⟩
  have ht1 : K.tgt e1 = (K.s e1, .inr (dLay k ad xs v (i + 1))) := by
    rw [hw.tgt, hw.s]
    exact hnx s
  obtain ⟨hm1, hb1⟩ := hw.mine B hB
  have hih := fun u => ih e1 u hm1 (hT.same hb1) ht1
  rw [← hX]
  clear hX hpX ih w1 hT hnx hw hlay
  unfold LW at hih ⊢
  refine Walk.finish (ho_of (by conv => lhs; whnf) (by kernel_rfl)) ?_
  walk_nrm
  repeat (first | refine Walk.cx ?_ | (refine Walk.cReg ?_; simp only [z41]) | (refine Walk.oq ?_; try walk_nrm) | (refine Walk.un ?_; walk_nrm))
  refine Walk.ctl rfl (fun w => stepG_inLoop) ?_
  refine slots_walk (F := fun u => G (hdLy lb sv (.func (.func fl) #[] caps) B n v (i + 1) u) (fr :: (l ++ K.bot e1))) hih ?_
  simp only [hdLy]
  rfl
theorem lay_end (K : Lg (sqLa lb k) sv) (ad : Bool) (xs : Nat → Int) (v : Int) (lv : Value) (B : Nat) (fr : Frame) (l : List Frame) (hp : Plain fr) (hl : ∀ f ∈ l, Plain f) (hk : ∀ x e', ChOut K x e' → LW K.toLb e' (G (fr.finish x) (l ++ K.bot e'))) (e : K.E) (u : Nat → Value) (ht : K.tgt e = (K.s e, .inr (dLay k ad xs v (k + 1)))) :
    LW K.toLb e (G (hdLy lb sv lv B (k + 1) v (k + 1) u) (fr :: (l ++ K.bot e))) := by
  have ht0 : K.tgt e = (K.s e, .inr (.w4 v)) := by rw [ht]; unfold dLay; rw [if_pos rfl]
  have w1 := store_ver K e (.w4 v) (IntKind.i64.wrap (v + 2)) ht0
  have hac : ∀ s : Sq, sqAct k s (.w4 v) = (sqPutV s (IntKind.i64.wrap (v + 2)), .inl ⟨true, 0, []⟩) := fun _ => rfl
  clear ht ht0
  generalize k + 1 = n at *
  have hj3 : decide (n < n) = false := by simp
  unfold LW hdLy
  repeat (first | refine Walk.cx ?_ | (refine Walk.cReg ?_; simp only [z41]) | (refine Walk.oq ?_; try walk_nrm) | (refine Walk.un ?_; walk_nrm))
  refine LW.callS (K := K.toLb) (e := e) (l := fr :: l) (f := 39) (Q := fun _ e' => ∃ s : Sq, Wrote K e (.w4 v) s (sqPutV s (IntKind.i64.wrap (v + 2))) e') ?_ (ho_of (by conv => lhs; whnf) (by kernel_rfl)) (by rfl) (by decide) rfl Try.func39 (by kernel_rfl) (by rfl) ⟨rfl, rfl, _, Try.func41⟩ (plain_cons hp hl) ?_
  · walk_nrm
    exact w1
  rintro v' e1 ⟨s, hw⟩
  have ht1 : K.tgt e1 = (K.s e1, .inl ⟨true, 0, []⟩) := by
    rw [hw.tgt, hw.s]
    exact hac s
  have hkk := hk (.bool true) e1 ⟨_, rfl, ht1⟩
  clear w1 hk
  unfold LW at hkk ⊢
  walk_nrm
  repeat (first | refine Walk.cx ?_ | (refine Walk.cReg ?_; simp only [z41]) | (refine Walk.oq ?_; try walk_nrm) | (refine Walk.un ?_; walk_nrm))
  exact Walk.on1 rfl rfl Try.func41 rfl hkk
theorem lay_loop (K : Lg (sqLa lb k) sv) (ad : Bool) (xs : Nat → Int) (v : Int) (fl : FuncId) (fn : Func) (caps : Array Value) (hf : Try.prog.funcs[fl]? = some fn) (hname : (fn.name == "runtime.NumGoroutine") = false) (hb : fn.body.isNone = false) (hlay : LayOK K ad fl caps)
    (B : Nat) (ls : List Int) (hlen : ls.length = k + 1) (hxs : ∀ i, i ≤ k → ls[i]? = some (xs i)) (fr : Frame) (l : List Frame) (hp : Plain fr) (hl : ∀ f ∈ l, Plain f) (hk : ∀ x e', ChOut K x e' → LW K.toLb e' (G (fr.finish x) (l ++ K.bot e'))) :
    ∀ (r i : Nat) (e : K.E) (u : Nat → Value), i + r = k + 1 → K.mine e B → NumB (K.w e) B ls → K.tgt e = (K.s e, .inr (dLay k ad xs v i)) → LW K.toLb e (G (hdLy lb sv (.func (.func fl) #[] caps) B (k + 1) v i u) (fr :: (l ++ K.bot e))) := by
  intro r
  induction r with
  | zero =>
    intro i e u hi hB hT ht
    obtain rfl : i = k + 1 := hi
    exact lay_end K ad xs v _ B fr l hp hl hk e u ht
  | succ r ih =>
    intro i e u hi hB hT ht
    exact lay_round K ad xs v fl fn caps hf hname hb hlay B ls hlen hxs fr l hp hl i (by omega) e u hB hT ht fun e' u' hB' hT' ht' => ih (i + 1) e' u' (by omega) hB' hT' ht'
end
end
end Go.Proofs.Ytjenoiekfkhafaa
