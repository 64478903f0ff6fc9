/- Part 4. -/
import Derived.Test.YtbmijpkdghkbbaaN1
import Derived.Test.YtbmijpkdghkbbaaN2
import Derived.Test.YtbmijpkdghkbbaaN3
set_option linter.unusedSimpArgs false
set_option linter.unusedVariables false
set_option maxHeartbeats 8000000
set_option maxRecDepth 100000
namespace Go.Proofs.Ytbmijpkdghkbbaa
open Go.Conc Go.RowKit Go.Relay
open Go.ConcN (upd upd_ne upd_same)
section
noncomputable def reg49_0 : Array Oper := match Try.f49.body with | some (.seq (.region _ ops _) _) => ops | _ => #[]
theorem size49_0 : reg49_0.size = 2 := by kernel_rfl
noncomputable def reg49_1 : Array Oper := match Try.f49.body with | some (.seq _ (.seq (.region _ ops _) _)) => ops | _ => #[]
theorem size49_1 : reg49_1.size = 4 := by kernel_rfl
noncomputable def reg49_2 : Array Oper := match Try.f49.body with | some (.seq _ (.seq _ (.seq (.seq (.region _ ops _) _) _))) => ops | _ => #[]
theorem size49_2 : reg49_2.size = 2 := by kernel_rfl
noncomputable def reg49_3 : Array Oper := match Try.f49.body with | some (.seq _ (.seq _ (.seq (.seq _ (.cond _ (.seq (.region _ ops _) _) _)) _))) => ops | _ => #[]
theorem size49_3 : reg49_3.size = 2 := by kernel_rfl
noncomputable def reg49_4 : Array Oper := match Try.f49.body with | some (.seq _ (.seq _ (.seq _ (.seq (.region _ ops _) _)))) => ops | _ => #[]
theorem size49_4 : reg49_4.size = 5 := by kernel_rfl
noncomputable def reg49_5 : Array Oper := match Try.f49.body with | some (.seq _ (.seq _ (.seq _ (.seq _ (.seq (.region _ ops _) _))))) => ops | _ => #[]
theorem size49_5 : reg49_5.size = 8 := by kernel_rfl
noncomputable def reg49_6 : Array Oper := match Try.f49.body with | some (.seq _ (.seq _ (.seq _ (.seq _ (.seq _ (.seq (.seq (.region _ ops _) _) _)))))) => ops | _ => #[]
theorem size49_6 : reg49_6.size = 2 := by kernel_rfl
noncomputable def reg49_7 : Array Oper := match Try.f49.body with | some (.seq _ (.seq _ (.seq _ (.seq _ (.seq _ (.seq (.seq _ (.cond _ (.seq (.region _ ops _) _) _)) _)))))) => ops | _ => #[]
theorem size49_7 : reg49_7.size = 2 := by kernel_rfl
noncomputable def reg49_8 : Array Oper := match Try.f49.body with | some (.seq _ (.seq _ (.seq _ (.seq _ (.seq _ (.seq _ (.seq (.region _ ops _) _))))))) => ops | _ => #[]
theorem size49_8 : reg49_8.size = 17 := by kernel_rfl
noncomputable def reg49_9 : Array Oper := match Try.f49.body with | some (.seq _ (.seq _ (.seq _ (.seq _ (.seq _ (.seq _ (.seq _ (.seq (.seq (.region _ ops _) _) _)))))))) => ops | _ => #[]
theorem size49_9 : reg49_9.size = 2 := by kernel_rfl
noncomputable def reg49_10 : Array Oper := match Try.f49.body with | some (.seq _ (.seq _ (.seq _ (.seq _ (.seq _ (.seq _ (.seq _ (.seq (.seq _ (.cond _ (.seq (.region _ ops _) _) _)) _)))))))) => ops | _ => #[]
theorem size49_10 : reg49_10.size = 3 := by kernel_rfl
noncomputable def reg49_11 : Array Oper := match Try.f49.body with | some (.seq _ (.seq _ (.seq _ (.seq _ (.seq _ (.seq _ (.seq _ (.seq _ (.seq (.region _ ops _) _))))))))) => ops | _ => #[]
theorem size49_11 : reg49_11.size = 7 := by kernel_rfl
noncomputable def reg49_12 : Array Oper := match Try.f49.body with | some (.seq _ (.seq _ (.seq _ (.seq _ (.seq _ (.seq _ (.seq _ (.seq _ (.seq _ (.seq (.region _ ops _) _)))))))))) => ops | _ => #[]
theorem size49_12 : reg49_12.size = 3 := by kernel_rfl
theorem code49_is : Try.f49.body = some (.seq (.region 0 reg49_0 false) (.seq (.region 1 reg49_1 false) (.seq (.seq (.region 2 reg49_2 false) (.cond (.tmp 19 ) (.seq (.region 3 reg49_3 false) (.ret)) (.skip))) (.seq (.region 4 reg49_4 false) (.seq (.region 5 reg49_5 false) (.seq (.seq (.region 6 reg49_6 false) (.cond (.tmp 32 ) (.seq (.region 7 reg49_7 false) (.ret)) (.skip))) (.seq (.region 8 reg49_8 false) (.seq (.seq (.region 9 reg49_9 false) (.cond (.tmp 49 ) (.seq (.region 10 reg49_10 false) (.ret)) (.skip))) (.seq (.region 11 reg49_11 false) (.seq (.region 12 reg49_12 false) (.ret))))))))))) := by kernel_rfl
section
variable {rb sb n ob qb m : Nat} {sv : Value}
def BaOut (K : Lg (soLa rb sb n ob qb m) sv) (v : Value) (e' : K.E) : Prop := ∃ sl er ls, v = .tuple #[sl, .int .i64 er] ∧ GatL K e' sl ls ∧ ls.length ≤ 65536 ∧ K.tgt e' = (K.s e', .inl ⟨er == 0, er, ls⟩) ∧ (er ≠ 0 → ls = [] ∧ sl = .slice none 0 0)
theorem batch_s (K : Lg (soLa rb sb n ob qb m) sv) (e : K.E) (k : Nat) (hk : k < m) (mo : Int) (ht : K.tgt e = (K.s e, .inr (.b0 k ((K.s e : So).pl k) mo))) : SCall K.toLb 49 #[.pointer (some ⟨ob, 0, none⟩), sv, .int .i64 k, .int .i64 mo] e (BaOut K) := by
  intro fr l hp hl hk2
  have hmn := @events_min_ints Try.prog
  have hmx := @events_max_ints Try.prog
  have I : SoI rb sb n ob qb m (K.s e) (K.w e) := K.inv e
  have hn := I.ring.pos
  have hrd := reader_yes (main := K.main) (V := K.V e) (K.w e) I k hk
  have hpl := I.bd.pl k hk
  have c1 := (I.rdP hk).1
  have hp1 := fun w => run_eql_ptr (P := Try.prog) 161 undRdr (some ⟨qb, k * 2, none⟩) w
  have hp2 := fun w es => ev_eql_ptr (P := Try.prog) 161 undRdr (some ⟨qb, k * 2, none⟩) w es
  simp only [Option.isNone_some] at hp1
  generalize (K.s e : So).pl k = p at *
  have hp3 := hpl.1
  have hp4 := hpl.2
  have hw1 : IntKind.wrap .i64 (p + 1) = p + 1 := by rw [IntKind.wrap_i64]; omega
  have w1 := word_load K curW e (.b0 k p mo) trivial ht
  unfold Wd.p at w1
  unfold LW
  clear I hpl ht
  rw [enter_at _ Try.func49 code49_is]
  simp only [Try.ntmps49, List.size_toArray, List.length_cons, List.length_nil, Nat.reduceAdd, Nat.reduceSub, Array.replicate_succ, Array.replicate_zero, List.push_toArray, List.append_toArray, List.nil_append, List.cons_append]
  repeat (first | refine Walk.c rfl ?_ | refine Walk.cRet ?_ | refine Walk.cEnd ?_ | (refine Walk.cReg ?_; simp only [size49_0, size49_1, size49_2, size49_3, size49_4, size49_5, size49_6, size49_7, size49_8, size49_9, size49_10, size49_11, size49_12, List.range, List.range.loop]) | (refine Walk.oq ?_; try walk_nrm) | (refine Walk.un ?_; walk_nrm))
  refine Walk.callV (x := .pointer (some ⟨qb, k * 2, none⟩)) (W := K.w e) ?_ (ho_of (by conv => lhs; whnf) (by kernel_rfl)) (by rfl) (by decide) rfl Try.func88 (by kernel_rfl) (by rfl) ?_
  · walk_nrm
    exact hrd
  walk_nrm
  clear hrd
  repeat (first | refine Walk.c rfl ?_ | refine Walk.cRet ?_ | refine Walk.cEnd ?_ | (refine Walk.cReg ?_; simp only [size49_0, size49_1, size49_2, size49_3, size49_4, size49_5, size49_6, size49_7, size49_8, size49_9, size49_10, size49_11, size49_12, List.range, List.range.loop]) | (refine Walk.oq ?_; try walk_nrm) | (refine Walk.un ?_; walk_nrm))
  clear c1
  refine LW.callS (K := K.toLb) (e := e) (l := fr :: l) (f := 73) (Q := fun v e' => Aft K.toLb e (.b0 k p mo) e' ∧ v = .int .i64 ((K.s e' : So).cur)) ?_ (ho_of (by conv => lhs; whnf) (by kernel_rfl)) (by rfl) (by decide) rfl Try.func73 (by kernel_rfl) (by rfl) ⟨rfl, rfl, _, Try.func49⟩ (plain_cons hp hl) ?_
  · walk_nrm
    exact w1
  rintro v e1 ⟨ha, rfl⟩
  have I1 : SoI rb sb n ob qb m (K.s e1) (K.w e1) := K.inv e1
  have hcu := I1.bd.cur
  have t1 : K.tgt e1 = (K.s e1, soBat n (K.s e1 : So).cur k p mo) := ha.tgt
  have c0 : (K.w e1).cell? ⟨ob, 0, none⟩ = some (.pointer (some ⟨rb, 0, none⟩)) := (cell_of I1.ob 0).trans rfl
  generalize (K.s e1 : So).cur = x at *
  have hx1 := hcu.1
  have hx2 := hcu.2
  have hw2 : IntKind.wrap .i64 (x - p) = x - p := by rw [IntKind.wrap_i64]; omega
  clear w1 I1 hcu
  unfold soBat at t1
  by_cases h1 : x - p < 1
  · rw [if_pos h1] at t1
    have hkk := hk2 (.tuple #[.slice none 0 0, .int .i64 4]) e1 ⟨.slice none 0 0, 4, [], rfl, GatL.nil K e1, by simp, t1, fun _ => ⟨rfl, rfl⟩⟩
    have g1 : decide (x - p < 1) = true := by simp [h1]
    unfold LW at hkk ⊢
    walk_nrm
    repeat (first | refine Walk.c rfl ?_ | refine Walk.cRet ?_ | refine Walk.cEnd ?_ | (refine Walk.cReg ?_; simp only [size49_0, size49_1, size49_2, size49_3, size49_4, size49_5, size49_6, size49_7, size49_8, size49_9, size49_10, size49_11, size49_12, List.range, List.range.loop]) | (refine Walk.oq ?_; try walk_nrm) | (refine Walk.un ?_; walk_nrm))
    exact Walk.on2 rfl rfl Try.func49 rfl hkk
  rw [if_neg h1] at t1
  have g1 : decide (x - p < 1) = false := by simp [h1]
  obtain ⟨mm, hmm⟩ : ∃ mm, min (x - p) (max mo 1) = mm := ⟨_, rfl⟩
  have hg : good (p + 1) := ⟨by omega, by omega⟩
  have w2 := gatherG_s soRing (soGa (rb := rb) (sb := sb) (ob := ob) (qb := qb) (m := m) k p) K e1 (p + 1) mm (by
    rw [t1, hmm]
    have h2 : ¬ min mm (n : Int) ≤ 0 := by omega
    show _ = (K.s e1, if good (p + 1) then (if min mm (n : Int) ≤ 0 then _ else _) else _)
    exact congrArg (Prod.mk _) (((if_pos hg).trans (if_neg h2)).symm))
  clear t1 hg
  unfold LW
  walk_nrm
  repeat (first | refine Walk.c rfl ?_ | refine Walk.cRet ?_ | refine Walk.cEnd ?_ | (refine Walk.cReg ?_; simp only [size49_0, size49_1, size49_2, size49_3, size49_4, size49_5, size49_6, size49_7, size49_8, size49_9, size49_10, size49_11, size49_12, List.range, List.range.loop]) | (refine Walk.oq ?_; try walk_nrm) | (refine Walk.un ?_; walk_nrm))
  clear c0
  refine LW.callS (K := K.toLb) (e := e1) (l := fr :: l) (f := 37) (Q := GaOutG (soGa (rb := rb) (sb := sb) (ob := ob) (qb := qb) (m := m) k p) K mm) ?_ (ho_of (by conv => lhs; whnf) (by kernel_rfl)) (by rfl) (by decide) rfl Try.func37 (by kernel_rfl) (by rfl) ⟨rfl, rfl, _, Try.func49⟩ (plain_cons hp hl) ?_
  · walk_nrm
    exact w2
  rintro v e2 ⟨sl, er, ls, rfl, hL, h6, hz, hnz⟩
  clear w2 g1
  by_cases her : er = 0
  · subst her
    have t2 : K.tgt e2 = (K.s e2, .inr (.b4 k (p + ls.length) ls)) := hz rfl
    have hq : seqP (p + ls.length) := by have h := h6.2; constructor <;> omega
    have hwq : IntKind.wrap .i64 (p + (ls.length : Int)) = p + ls.length := by rw [IntKind.wrap_i64]; have := hq.1; have := hq.2; omega
    have w3 := SCall.fz K (finish_s (Fz K e2) (fz0 K e2) k hk (p + ls.length) hq (.b4 k (p + ls.length) ls) ⟨true, 0, ls⟩ (fun _ => rfl) t2)
    obtain ⟨⟨sa, sc, rfl⟩, hrow, hmine⟩ := hL
    clear hz hnz t2
    unfold LW
    generalize hj : ls.length = j at *
    walk_nrm
    repeat (first | refine Walk.c rfl ?_ | refine Walk.cRet ?_ | refine Walk.cEnd ?_ | (refine Walk.cReg ?_; simp only [size49_0, size49_1, size49_2, size49_3, size49_4, size49_5, size49_6, size49_7, size49_8, size49_9, size49_10, size49_11, size49_12, List.range, List.range.loop]) | (refine Walk.oq ?_; try walk_nrm) | (refine Walk.un ?_; walk_nrm))
    refine LW.callS (K := K.toLb) (e := e2) (l := fr :: l) (f := 89) (Q := fun v e' => ∃ h : Kept K e2 e', v = .tuple #[] ∧ (Fz K e2).tgt ⟨e', h⟩ = ((Fz K e2).s ⟨e', h⟩, .inl ⟨true, 0, ls⟩)) ?_ (ho_of (by conv => lhs; whnf) (by kernel_rfl)) (by rfl) (by decide) rfl Try.func89 (by kernel_rfl) (by rfl) ⟨rfl, rfl, _, Try.func49⟩ (plain_cons hp hl) ?_
    · walk_nrm
      exact w3
    rintro v e3 ⟨hkept, rfl, t3⟩
    have t3' : K.tgt e3 = (K.s e3, .inl ⟨true, 0, ls⟩) := t3
    have hrow3 := row_same hrow (w' := K.w e3) fun b hb => (hkept b (hmine b hb)).2
    have hmine3 : ∀ b, (Value.slice sa j sc).ownBlock = some b → K.mine e3 b := fun b hb => (hkept b (hmine b hb)).1
    have hkk := hk2 (.tuple #[.slice sa j sc, .int .i64 0]) e3 ⟨.slice sa j sc, 0, ls, rfl, ⟨⟨sa, sc, by rw [hj]⟩, by rw [hj]; exact hrow3, hmine3⟩, by rw [hj]; exact h6.1, t3', fun h => absurd rfl h⟩
    clear w3 hk2
    unfold LW at hkk ⊢
    walk_nrm
    repeat (first | refine Walk.c rfl ?_ | refine Walk.cRet ?_ | refine Walk.cEnd ?_ | (refine Walk.cReg ?_; simp only [size49_0, size49_1, size49_2, size49_3, size49_4, size49_5, size49_6, size49_7, size49_8, size49_9, size49_10, size49_11, size49_12, List.range, List.range.loop]) | (refine Walk.oq ?_; try walk_nrm) | (refine Walk.un ?_; walk_nrm))
    exact Walk.on2 rfl rfl Try.func49 rfl hkk
  · obtain ⟨rfl, t2⟩ := hnz her
    have hb1 : (er == 0) = false := by simp [her]
    have hb2 : (er != 0) = true := by simp [her]
    have hkk := hk2 (.tuple #[.slice none 0 0, .int .i64 er]) e2 ⟨.slice none 0 0, er, [], rfl, GatL.nil K e2, by simp, by rw [hb1]; exact t2, fun _ => ⟨rfl, rfl⟩⟩
    clear hz hnz hk2
    unfold LW at hkk ⊢
    walk_nrm
    repeat (first | refine Walk.c rfl ?_ | refine Walk.cRet ?_ | refine Walk.cEnd ?_ | (refine Walk.cReg ?_; simp only [size49_0, size49_1, size49_2, size49_3, size49_4, size49_5, size49_6, size49_7, size49_8, size49_9, size49_10, size49_11, size49_12, List.range, List.range.loop]) | (refine Walk.oq ?_; try walk_nrm) | (refine Walk.un ?_; walk_nrm))
    exact Walk.on2 rfl rfl Try.func49 rfl hkk
end
end
section
structure CS (rb sb n ob qb m p : Nat) (c : Nat) (s : So) (w w' : World) : Prop where
  I : SoI rb sb n ob qb m s w'
  size : w.heap.size ≤ w'.heap.size
  old : ∀ b, b < w.heap.size → ¬ soSh rb sb ob qb b → b ≠ p → w'.heap[b]? = w.heap[b]?
  cnt : w'.heap[p]? = some (.cells #[.int .i64 c] 106)
section
variable {main : Bool} {V : Nat → Option Wait} {rb sb n ob qb m p : Nat} {s : So} {w : World}
theorem CS.of {R : Nat × So × Ans} {w' : World} {y : (soLa rb sb n ob qb m).Gh} (h : Counted (soLa rb sb n ob qb m) () w p R w' y) : CS rb sb n ob qb m p R.1 R.2.1 w w' := ⟨h.I, h.size, h.old, h.cnt⟩
theorem owrite_c (hA : ∀ b, Apart V b) (I : SoI rb sb n ob qb m s w) (hp : ¬ soSh rb sb ob qb p) (c N : Nat) (hcnt : w.heap[p]? = some (.cells #[.int .i64 c] 106)) (hfew : c + N < 4611686018427387904) (B cp : Nat) (vs : List Int) (xs : Nat → Int) (hxs : ∀ i, i < vs.length → vs[i]? = some (xs i)) (hl : LsR (.slice (some ⟨B, 0, none⟩) vs.length cp) vs w) (hB : B < w.heap.size) (hB2 : ¬ soSh rb sb ob qb B) (hBp : B ≠ p) (R : Nat × So × Ans) (hrun : lonC (soLa rb sb n ob qb m) N c (soClaim n m s vs.length (some (vs.length, xs))) = some R) :
    CallP main V 48 #[.pointer (some ⟨ob, 0, none⟩), .iface 104 (.pointer (some ⟨p, 0, none⟩)), .slice (some ⟨B, 0, none⟩) vs.length cp] w (fun v w' => ∃ a er, v = .tuple #[.int .i64 a, .int .i64 er] ∧ R.2.2 = ⟨er == 0, if er = 0 then a else er, []⟩ ∧ (er ≠ 0 → a = 0) ∧ CS rb sb n ob qb m p R.1 R.2.1 w w') :=
  (CallP.cnt (L := soLa rb sb n ob qb m) (Rel := fun v x _ _ => ∃ a er, v = .tuple #[.int .i64 a, .int .i64 er] ∧ x = ⟨er == 0, if er = 0 then a else er, []⟩ ∧ (er ≠ 0 → a = 0)) N c () s _ (fun _ _ _ _ _ h => h) hA I hp hcnt hfew hrun (fun K e hold hw hs ht => by
    have hrd : ∀ e' : K.E, LsR (.slice (some ⟨B, 0, none⟩) vs.length cp) vs (K.w e') := fun e' => by
      obtain ⟨a, cc, h1, h2, h3, h4⟩ := hl
      refine ⟨a, cc, h1, h2, h3, fun j z hz => ?_⟩
      obtain ⟨b, off, h5, h6⟩ := h4 j z hz
      refine ⟨b, off, h5, ?_⟩
      have hb : b = B := by
        rw [h5] at h1
        injection h1 with h7 _ _
        injection h7 with h8
        injection h8 with h9 _ _
        exact h9.symm
      subst hb
      exact (World.cell?_of_block (a := ⟨b, off + j, none⟩) (hold e' b hB hB2 hBp)).trans h6
    exact (write_so K e _ cp vs xs hxs hrd (by rw [hs]; exact ht)).mono fun x e' ⟨a, er, h1, h2, h3⟩ => ⟨_, ⟨a, er, h1, rfl, h3⟩, h2⟩)).mono fun v w' ⟨y, ⟨a, er, h1, h2, h3⟩, h4⟩ => ⟨a, er, h1, h2, h3, CS.of h4⟩
theorem oread_c (hA : ∀ b, Apart V b) (I : SoI rb sb n ob qb m s w) (hp : ¬ soSh rb sb ob qb p) (c N : Nat) (hcnt : w.heap[p]? = some (.cells #[.int .i64 c] 106)) (hfew : c + N < 4611686018427387904) (k : Nat) (hk : k < m) (R : Nat × So × Ans) (hrun : lonC (soLa rb sb n ob qb m) N c (s, .inr (.r0 k (s.pl k + 1))) = some R) :
    CallP main V 54 #[.pointer (some ⟨ob, 0, none⟩), .iface 104 (.pointer (some ⟨p, 0, none⟩)), .int .i64 k] w (fun v w' => ∃ a er, v = .tuple #[.int .i64 a, .int .i64 er] ∧ R.2.2 = ⟨er == 0, if er = 0 then a else er, []⟩ ∧ (er ≠ 0 → a = 0) ∧ CS rb sb n ob qb m p R.1 R.2.1 w w') :=
  (CallP.cnt (L := soLa rb sb n ob qb m) (Rel := fun v x _ _ => ∃ a er, v = .tuple #[.int .i64 a, .int .i64 er] ∧ x = ⟨er == 0, if er = 0 then a else er, []⟩ ∧ (er ≠ 0 → a = 0)) N c () s _ (fun _ _ _ _ _ h => h) hA I hp hcnt hfew hrun (fun K e hold hw hs ht =>
    (read_s K e k hk (by rw [hs]; exact ht)).mono fun x e' ⟨a, er, h1, h2, h3⟩ => ⟨_, ⟨a, er, h1, rfl, h3⟩, h2⟩)).mono fun v w' ⟨y, ⟨a, er, h1, h2, h3⟩, h4⟩ => ⟨a, er, h1, h2, h3, CS.of h4⟩
theorem obatch_c (hA : ∀ b, Apart V b) (I : SoI rb sb n ob qb m s w) (hp : ¬ soSh rb sb ob qb p) (c N : Nat) (hcnt : w.heap[p]? = some (.cells #[.int .i64 c] 106)) (hfew : c + N < 4611686018427387904) (k : Nat) (hk : k < m) (mo : Int) (R : Nat × So × Ans) (hrun : lonC (soLa rb sb n ob qb m) N c (s, .inr (.b0 k (s.pl k) mo)) = some R) :
    CallP main V 49 #[.pointer (some ⟨ob, 0, none⟩), .iface 104 (.pointer (some ⟨p, 0, none⟩)), .int .i64 k, .int .i64 mo] w (fun v w' => ∃ a cp er, v = .tuple #[.slice a R.2.2.l.length cp, .int .i64 er] ∧ R.2.2.ok = (er == 0) ∧ R.2.2.n = er ∧ w'.ownsRow 0 2 1 (.slice a R.2.2.l.length cp) R.2.2.l.length (R.2.2.l.map fun z => .int .i64 z) ∧ (∀ b, (Value.slice a R.2.2.l.length cp).ownBlock = some b → w.heap.size ≤ b ∧ b < w'.heap.size) ∧ CS rb sb n ob qb m p R.1 R.2.1 w w') :=
  (CallP.cnt (L := soLa rb sb n ob qb m) (Rel := fun v x w' P => ∃ a cp er, v = .tuple #[.slice a x.l.length cp, .int .i64 er] ∧ x.ok = (er == 0) ∧ x.n = er ∧ w'.ownsRow 0 2 1 (.slice a x.l.length cp) x.l.length (x.l.map fun z => .int .i64 z) ∧ ∀ b, (Value.slice a x.l.length cp).ownBlock = some b → P b) N c () s _ (fun _ _ _ _ _ h => h) hA I hp hcnt hfew hrun (fun K e hold hw hs ht =>
    (batch_s K e k hk mo (by rw [hs]; exact ht)).mono fun x e' ⟨sl, er, ls, h1, ⟨⟨a, cp, h2⟩, h3, h4⟩, h5, h6, h7⟩ => ⟨_, ⟨a, cp, er, by rw [h1, h2], rfl, rfl, h2 ▸ h3, h2 ▸ h4⟩, h6⟩)).mono fun v w' ⟨y, ⟨a, cp, er, h1, h2, h3, h4, h5⟩, h6⟩ => ⟨a, cp, er, h1, h2, h3, h4, fun b hb => (h5 b hb).1, CS.of h6⟩
end
end
section
noncomputable def reg50_0 : Array Oper := match Try.f50.body with | some (.seq (.region _ ops _) _) => ops | _ => #[]
theorem size50_0 : reg50_0.size = 1 := by kernel_rfl
noncomputable def reg50_1 : Array Oper := match Try.f50.body with | some (.seq _ (.seq (.seq (.region _ ops _) _) _)) => ops | _ => #[]
theorem size50_1 : reg50_1.size = 5 := by kernel_rfl
noncomputable def reg50_2 : Array Oper := match Try.f50.body with | some (.seq _ (.seq (.seq _ (.cond _ (.seq (.region _ ops _) _) _)) _)) => ops | _ => #[]
theorem size50_2 : reg50_2.size = 1 := by kernel_rfl
noncomputable def reg50_3 : Array Oper := match Try.f50.body with | some (.seq _ (.seq _ (.seq (.seq (.region _ ops _) _) _))) => ops | _ => #[]
theorem size50_3 : reg50_3.size = 1 := by kernel_rfl
noncomputable def reg50_4 : Array Oper := match Try.f50.body with | some (.seq _ (.seq _ (.seq (.seq _ (.block _ (.loop (.seq (.seq (.region _ ops _) _) _)))) _))) => ops | _ => #[]
theorem size50_4 : reg50_4.size = 4 := by kernel_rfl
noncomputable def reg50_6 : Array Oper := match Try.f50.body with | some (.seq _ (.seq _ (.seq (.seq _ (.block _ (.loop (.seq _ (.seq (.block _ (.seq (.region _ ops _) _)) _))))) _))) => ops | _ => #[]
theorem size50_6 : reg50_6.size = 9 := by kernel_rfl
noncomputable def reg50_7 : Array Oper := match Try.f50.body with | some (.seq _ (.seq _ (.seq (.seq _ (.block _ (.loop (.seq _ (.seq (.block _ (.seq _ (.cond _ (.seq (.region _ ops _) _) _))) _))))) _))) => ops | _ => #[]
theorem size50_7 : reg50_7.size = 1 := by kernel_rfl
noncomputable def reg50_5 : Array Oper := match Try.f50.body with | some (.seq _ (.seq _ (.seq (.seq _ (.block _ (.loop (.seq _ (.seq _ (.region _ ops _)))))) _))) => ops | _ => #[]
theorem size50_5 : reg50_5.size = 3 := by kernel_rfl
noncomputable def reg50_8 : Array Oper := match Try.f50.body with | some (.seq _ (.seq _ (.seq _ (.seq (.region _ ops _) _)))) => ops | _ => #[]
theorem size50_8 : reg50_8.size = 1 := by kernel_rfl
theorem code50_is : Try.f50.body = some (.seq (.region 0 reg50_0 false) (.seq (.seq (.region 1 reg50_1 false) (.cond (.tmp 10 ) (.seq (.region 2 reg50_2 false) (.ret)) (.skip))) (.seq (.seq (.region 3 reg50_3 false) (.block 0 (.loop (.seq (.seq (.region 4 reg50_4 false) (.cond (.tmp 14 ) (.skip) (.exit 0))) (.seq (.block 1 (.seq (.region 6 reg50_6 true) (.cond (.tmp 25 ) (.seq (.region 7 reg50_7 false) (.ret)) (.skip)))) (.region 5 reg50_5 false)))))) (.seq (.region 8 reg50_8 false) (.ret))))) := by kernel_rfl
noncomputable def hdSame3 (av bv : Value) (i : Nat) (u : Nat → Value) : Frame :=
  (base 50).at { tmps := #[av, bv, u 2, u 3, u 4, .int .i64 i, u 6, u 7, u 8, u 9, u 10, u 11, u 12, u 13, u 14, u 15, u 16, u 17, u 18, u 19, u 20, u 21, u 22, u 23, u 24, u 25], defers := [] } [.code (.seq (.seq (.region 4 reg50_4 false) (.cond (.tmp 14 ) (.skip) (.exit 0))) (.seq (.block 1 (.seq (.region 6 reg50_6 true) (.cond (.tmp 25 ) (.seq (.region 7 reg50_7 false) (.ret)) (.skip)))) (.region 5 reg50_5 false))), .inLoop (.seq (.seq (.region 4 reg50_4 false) (.cond (.tmp 14 ) (.skip) (.exit 0))) (.seq (.block 1 (.seq (.region 6 reg50_6 true) (.cond (.tmp 25 ) (.seq (.region 7 reg50_7 false) (.ret)) (.skip)))) (.region 5 reg50_5 false))), .inBlock 0, .code (.seq (.region 8 reg50_8 false) (.ret))]
def intRow3 (l : List Int) : List Value := l.map (.int .i64)
section
variable {main : Bool} {V : Nat → Option Wait}
theorem same3_round (ga gb n ca cb i : Nat) (x : Int) (w : World) (hi : i < n) (hn : n ≤ 65536) (h1 : w.cell? ⟨ga, i, none⟩ = some (.int .i64 x)) (h2 : w.cell? ⟨gb, i, none⟩ = some (.int .i64 x)) (u : Nat → Value) (cs : List Frame) :
    Walk Try.prog main (DR V) (fun g w' => (∃ u, g = G (hdSame3 (.slice (some ⟨ga, 0, none⟩) n ca) (.slice (some ⟨gb, 0, none⟩) n cb) (i + 1) u) cs) ∧ ∃ d, w' = w.at d) (G (hdSame3 (.slice (some ⟨ga, 0, none⟩) n ca) (.slice (some ⟨gb, 0, none⟩) n cb) i u) cs) w := by
  have hi0 : (0 : Int) ≤ i := by omega
  have hi1 : decide ((i : Int) < n) = true := by simp; omega
  have hi3 : decide (i < n) = true := by simp; omega
  have hw1 : IntKind.wrap .i64 ((i : Int) + 1) = (i : Int) + 1 := by rw [IntKind.wrap_i64]; omega
  have hx : (x != x) = false := by simp
  unfold hdSame3
  repeat (first | refine Walk.c rfl ?_ | refine Walk.cRet ?_ | refine Walk.cEnd ?_ | (refine Walk.cReg ?_; simp only [size50_0, size50_1, size50_2, size50_3, size50_4, size50_6, size50_7, size50_5, size50_8, List.range, List.range.loop]) | (refine Walk.oq ?_; try walk_nrm) | (refine Walk.un ?_; walk_nrm))
  (refine Walk.drawnCW (by kernel_rfl) size50_6 (by kernel_rfl) (by kernel_rfl) (by decide) ?_; simp only [List.range, List.range.loop]; repeat (first | (refine Cm.opqA (ho_of (by conv => lhs; whnf) (by kernel_rfl)) (by rfl) (fun dd e he => ?_) ?_; (· (simp [go_sem, *] at he; try (subst he; exact evR_read _ _))); apply Exists.intro; apply And.intro; (· (intro dd K hK; go_simp; exact hK))) | (refine Cm.unw (ho_of (by conv => lhs; whnf) (by kernel_rfl)) (by rfl) ?_; walk_nrm)))
  refine Cm.done ?_
  try simp only [hx]
  repeat (first | refine Walk.c rfl ?_ | refine Walk.cRet ?_ | refine Walk.cEnd ?_ | (refine Walk.cReg ?_; simp only [size50_0, size50_1, size50_2, size50_3, size50_4, size50_6, size50_7, size50_5, size50_8, List.range, List.range.loop]) | (refine Walk.oq ?_; try walk_nrm) | (refine Walk.un ?_; walk_nrm))
  refine Walk.ctl rfl (fun w => stepG_inLoop) ?_
  refine .stop fun d => ⟨at_slots ?_, d, rfl⟩
  have hc : ((i + 1 : Nat) : Int) = (i : Int) + 1 := by simp
  simp only [hdSame3, hc]
  rfl
theorem same3_end (av bv : Value) (ga gb n ca cb : Nat) (w : World) (u : Nat → Value) (c : Frame) (cs : List Frame) :
    Walk Try.prog main (DR V) (fun g w' => g = G (c.finish (.bool true)) cs ∧ ∃ d, w' = w.at d) (G (hdSame3 (.slice (some ⟨ga, 0, none⟩) n ca) (.slice (some ⟨gb, 0, none⟩) n cb) n u) (c :: cs)) w := by
  unfold hdSame3
  repeat (first | refine Walk.c rfl ?_ | refine Walk.cRet ?_ | refine Walk.cEnd ?_ | (refine Walk.cReg ?_; simp only [size50_0, size50_1, size50_2, size50_3, size50_4, size50_6, size50_7, size50_5, size50_8, List.range, List.range.loop]) | (refine Walk.oq ?_; try walk_nrm) | (refine Walk.un ?_; walk_nrm))
  exact Walk.on1 rfl rfl Try.func50 rfl (.stop fun d => ⟨rfl, d, rfl⟩)
theorem same3_w (l : List Int) (ga gb ca cb : Nat) (w : World) (hl : l.length ≤ 65536) (h1 : ∀ (j : Nat) (x : Value), (intRow3 l)[j]? = some x → w.cell? ⟨ga, j, none⟩ = some x) (h2 : ∀ (j : Nat) (x : Value), (intRow3 l)[j]? = some x → w.cell? ⟨gb, j, none⟩ = some x) :
    CallV Try.prog main V 50 #[.slice (some ⟨ga, 0, none⟩) l.length ca, .slice (some ⟨gb, 0, none⟩) l.length cb] w (.bool true) w := by
  intro c cs
  have loop : ∀ (r i : Nat) (u : Nat → Value) (d : Nat), i + r = l.length →
      Walk Try.prog main (DR V) (fun g w' => ∃ v, (v = .bool true ∧ ∃ d, w' = w.at d) ∧ g = G (c.finish v) cs) (G (hdSame3 (.slice (some ⟨ga, 0, none⟩) l.length ca) (.slice (some ⟨gb, 0, none⟩) l.length cb) i u) (c :: cs)) (w.at d) := by
    intro r
    induction r with
    | zero =>
      intro i u d hi
      obtain rfl : i = l.length := hi
      refine (same3_end undef undef ga gb _ ca cb (w.at d) u c cs).mono ?_
      rintro g w' ⟨rfl, d', rfl⟩
      exact ⟨_, ⟨rfl, d', rfl⟩, rfl⟩
    | succ r ih =>
      intro i u d hi
      have hil : i < l.length := by omega
      have hget : (intRow3 l)[i]? = some (.int .i64 l[i]) := by simp [intRow3, List.getElem?_eq_getElem hil]
      refine (same3_round ga gb l.length ca cb i l[i] (w.at d) hil hl (h1 i _ hget) (h2 i _ hget) u (c :: cs)).then ?_
      rintro g w' ⟨⟨u', rfl⟩, d', rfl⟩
      exact ih (i + 1) u' d' (by omega)
  have key := fun u => loop l.length 0 u w.drawn (by omega)
  have hbn : ((l.length : Int) != l.length) = false := by simp
  rw [enter_at _ Try.func50 code50_is]
  simp only [Try.ntmps50, List.size_toArray, List.length_cons, List.length_nil, Nat.reduceAdd, Nat.reduceSub, Array.replicate_succ, Array.replicate_zero, List.push_toArray, List.append_toArray, List.nil_append, List.cons_append]
  repeat (first | refine Walk.c rfl ?_ | refine Walk.cRet ?_ | refine Walk.cEnd ?_ | (refine Walk.cReg ?_; simp only [size50_0, size50_1, size50_2, size50_3, size50_4, size50_6, size50_7, size50_5, size50_8, List.range, List.range.loop]) | (refine Walk.oq ?_; try walk_nrm) | (refine Walk.un ?_; walk_nrm))
  refine Walk.ctl rfl (fun w => stepG_loop) ?_
  refine slots_walk (F := fun u => G (hdSame3 (.slice (some ⟨ga, 0, none⟩) l.length ca) (.slice (some ⟨gb, 0, none⟩) l.length cb) 0 u) (c :: cs)) key ?_
  simp only [hdSame3]
  rfl
end
end
section
def wx1 : Nat → Int := fun i => ([7, 8] : List Int).getD i 0
def wx2 : Nat → Int := fun i => ([9] : List Int).getD i 0
def wOut (o : Option (Nat × So × Ans)) : So := match o with | some (_, s, _) => s | none => soJ 2 1
def ws1 : So := wOut (lonC (soLa 0 0 2 0 0 1) 9 0 (soClaim 2 1 (soJ 2 1) 2 (some (2, wx1))))
def ws2 : So := wOut (lonC (soLa 0 0 2 0 0 1) 9 7 (soClaim 2 1 ws1 1 (some (1, wx2))))
def ws3 : So := wOut (lonC (soLa 0 0 2 0 0 1) 9 8 (ws2, .inr (.r0 0 (ws2.pl 0 + 1))))
def ws4 : So := wOut (lonC (soLa 0 0 2 0 0 1) 9 13 (soClaim 2 1 ws3 1 (some (1, wx2))))
def ws5 : So := wOut (lonC (soLa 0 0 2 0 0 1) 9 18 (ws4, .inr (.b0 0 (ws4.pl 0) 9)))
theorem wr1 (rb sb ob qb : Nat) : lonC (soLa rb sb 2 ob qb 1) 9 0 (soClaim 2 1 (soJ 2 1) 2 (some (2, wx1))) = some (7, ws1, ⟨true, 0, []⟩) := by kernel_rfl
theorem wr2 (rb sb ob qb : Nat) : lonC (soLa rb sb 2 ob qb 1) 9 7 (soClaim 2 1 ws1 1 (some (1, wx2))) = some (8, ws2, ⟨false, 3, []⟩) := by kernel_rfl
theorem wr3 (rb sb ob qb : Nat) : lonC (soLa rb sb 2 ob qb 1) 9 8 (ws2, .inr (.r0 0 (ws2.pl 0 + 1))) = some (13, ws3, ⟨true, 7, []⟩) := by kernel_rfl
theorem wr4 (rb sb ob qb : Nat) : lonC (soLa rb sb 2 ob qb 1) 9 13 (soClaim 2 1 ws3 1 (some (1, wx2))) = some (18, ws4, ⟨true, 2, []⟩) := by kernel_rfl
theorem wr5 (rb sb ob qb : Nat) : lonC (soLa rb sb 2 ob qb 1) 9 18 (ws4, .inr (.b0 0 (ws4.pl 0) 9)) = some (26, ws5, ⟨true, 0, [8, 9]⟩) := by kernel_rfl
theorem wf : ws5.nx = 3 ∧ ws5.cur = 2 ∧ ws5.nm 0 = 2 := ⟨by kernel_rfl, by kernel_rfl, by kernel_rfl⟩
section
variable {main : Bool} {V : Nat → Option Wait} {rb sb ob qb p : Nat} {w : World}
theorem write1_c (hA : ∀ b, Apart V b) (I : SoI rb sb 2 ob qb 1 (soJ 2 1) w) (hp : ¬ soSh rb sb ob qb p) (hcnt : w.heap[p]? = some (.cells #[.int .i64 0] 106)) (B : Nat) (hl : NumB w B [7, 8]) (hB : B < w.heap.size) (hB2 : ¬ soSh rb sb ob qb B) (hBp : B ≠ p) :
    CallP main V 48 #[.pointer (some ⟨ob, 0, none⟩), .iface 104 (.pointer (some ⟨p, 0, none⟩)), .slice (some ⟨B, 0, none⟩) 2 2] w (fun v w' => ∃ a er, v = .tuple #[.int .i64 a, .int .i64 er] ∧ (⟨true, 0, []⟩ : Ans) = ⟨er == 0, if er = 0 then a else er, []⟩ ∧ (er ≠ 0 → a = 0) ∧ CS rb sb 2 ob qb 1 p 7 ws1 w w') := by
  have hx : ∀ i, i < [7, 8].length → ([7, 8] : List Int)[i]? = some (wx1 i) := fun i hi => by
    match i, hi with
    | 0, _ => rfl
    | 1, _ => rfl
  have hr : lonC (soLa rb sb 2 ob qb 1) 9 0 (soClaim 2 1 (soJ 2 1) (([7, 8] : List Int).length : Nat) (some (([7, 8] : List Int).length, wx1))) = some (7, ws1, ⟨true, 0, []⟩) := wr1 rb sb ob qb
  exact owrite_c (main := main) hA I hp 0 9 hcnt (by decide) B 2 [7, 8] wx1 hx hl.lsR hB hB2 hBp (7, ws1, ⟨true, 0, []⟩) hr
theorem write2_c (hA : ∀ b, Apart V b) (I : SoI rb sb 2 ob qb 1 ws1 w) (hp : ¬ soSh rb sb ob qb p) (hcnt : w.heap[p]? = some (.cells #[.int .i64 7] 106)) (B : Nat) (hl : NumB w B [9]) (hB : B < w.heap.size) (hB2 : ¬ soSh rb sb ob qb B) (hBp : B ≠ p) :
    CallP main V 48 #[.pointer (some ⟨ob, 0, none⟩), .iface 104 (.pointer (some ⟨p, 0, none⟩)), .slice (some ⟨B, 0, none⟩) 1 1] w (fun v w' => ∃ a er, v = .tuple #[.int .i64 a, .int .i64 er] ∧ (⟨false, 3, []⟩ : Ans) = ⟨er == 0, if er = 0 then a else er, []⟩ ∧ (er ≠ 0 → a = 0) ∧ CS rb sb 2 ob qb 1 p 8 ws2 w w') := by
  have hx : ∀ i, i < [9].length → ([9] : List Int)[i]? = some (wx2 i) := fun i hi => by
    match i, hi with
    | 0, _ => rfl
  have hr : lonC (soLa rb sb 2 ob qb 1) 9 7 (soClaim 2 1 ws1 (([9] : List Int).length : Nat) (some (([9] : List Int).length, wx2))) = some (8, ws2, ⟨false, 3, []⟩) := wr2 rb sb ob qb
  exact owrite_c (main := main) hA I hp 7 9 hcnt (by decide) B 1 [9] wx2 hx hl.lsR hB hB2 hBp (8, ws2, ⟨false, 3, []⟩) hr
theorem write4_c (hA : ∀ b, Apart V b) (I : SoI rb sb 2 ob qb 1 ws3 w) (hp : ¬ soSh rb sb ob qb p) (hcnt : w.heap[p]? = some (.cells #[.int .i64 13] 106)) (B : Nat) (hl : NumB w B [9]) (hB : B < w.heap.size) (hB2 : ¬ soSh rb sb ob qb B) (hBp : B ≠ p) :
    CallP main V 48 #[.pointer (some ⟨ob, 0, none⟩), .iface 104 (.pointer (some ⟨p, 0, none⟩)), .slice (some ⟨B, 0, none⟩) 1 1] w (fun v w' => ∃ a er, v = .tuple #[.int .i64 a, .int .i64 er] ∧ (⟨true, 2, []⟩ : Ans) = ⟨er == 0, if er = 0 then a else er, []⟩ ∧ (er ≠ 0 → a = 0) ∧ CS rb sb 2 ob qb 1 p 18 ws4 w w') := by
  have hx : ∀ i, i < [9].length → ([9] : List Int)[i]? = some (wx2 i) := fun i hi => by
    match i, hi with
    | 0, _ => rfl
  have hr : lonC (soLa rb sb 2 ob qb 1) 9 13 (soClaim 2 1 ws3 (([9] : List Int).length : Nat) (some (([9] : List Int).length, wx2))) = some (18, ws4, ⟨true, 2, []⟩) := wr4 rb sb ob qb
  exact owrite_c (main := main) hA I hp 13 9 hcnt (by decide) B 1 [9] wx2 hx hl.lsR hB hB2 hBp (18, ws4, ⟨true, 2, []⟩) hr
theorem read3_c (hA : ∀ b, Apart V b) (I : SoI rb sb 2 ob qb 1 ws2 w) (hp : ¬ soSh rb sb ob qb p) (hcnt : w.heap[p]? = some (.cells #[.int .i64 8] 106)) :
    CallP main V 54 #[.pointer (some ⟨ob, 0, none⟩), .iface 104 (.pointer (some ⟨p, 0, none⟩)), .int .i64 0] w (fun v w' => ∃ a er, v = .tuple #[.int .i64 a, .int .i64 er] ∧ (⟨true, 7, []⟩ : Ans) = ⟨er == 0, if er = 0 then a else er, []⟩ ∧ (er ≠ 0 → a = 0) ∧ CS rb sb 2 ob qb 1 p 13 ws3 w w') :=
  oread_c (main := main) hA I hp 8 9 hcnt (by decide) 0 (by decide) (13, ws3, ⟨true, 7, []⟩) (wr3 rb sb ob qb)
theorem batch5_c (hA : ∀ b, Apart V b) (I : SoI rb sb 2 ob qb 1 ws4 w) (hp : ¬ soSh rb sb ob qb p) (hcnt : w.heap[p]? = some (.cells #[.int .i64 18] 106)) :
    CallP main V 49 #[.pointer (some ⟨ob, 0, none⟩), .iface 104 (.pointer (some ⟨p, 0, none⟩)), .int .i64 0, .int .i64 9] w (fun v w' => ∃ a cp er, v = .tuple #[.slice a 2 cp, .int .i64 er] ∧ true = (er == 0) ∧ (0 : Int) = er ∧ w'.ownsRow 0 2 1 (.slice a 2 cp) 2 (([8, 9] : List Int).map fun z => .int .i64 z) ∧ (∀ b, (Value.slice a 2 cp).ownBlock = some b → w.heap.size ≤ b ∧ b < w'.heap.size) ∧ CS rb sb 2 ob qb 1 p 26 ws5 w w') :=
  obatch_c (main := main) hA I hp 18 9 hcnt (by decide) 0 (by decide) 9 (26, ws5, ⟨true, 0, [8, 9]⟩) (wr5 rb sb ob qb)
end
end
section
noncomputable def reg39_0 : Array Oper := match Try.f39.body with | some (.seq (.region _ ops _) _) => ops | _ => #[]
theorem size39_0 : reg39_0.size = 1 := by kernel_rfl
noncomputable def reg39_1 : Array Oper := match Try.f39.body with | some (.seq _ (.seq (.region _ ops _) _)) => ops | _ => #[]
theorem size39_1 : reg39_1.size = 6 := by kernel_rfl
noncomputable def reg39_2 : Array Oper := match Try.f39.body with | some (.seq _ (.seq _ (.seq (.seq (.region _ ops _) _) _))) => ops | _ => #[]
theorem size39_2 : reg39_2.size = 6 := by kernel_rfl
noncomputable def reg39_3 : Array Oper := match Try.f39.body with | some (.seq _ (.seq _ (.seq (.seq _ (.cond _ (.seq (.region _ ops _) _) _)) _))) => ops | _ => #[]
theorem size39_3 : reg39_3.size = 1 := by kernel_rfl
noncomputable def reg39_4 : Array Oper := match Try.f39.body with | some (.seq _ (.seq _ (.seq _ (.seq (.region _ ops _) _)))) => ops | _ => #[]
theorem size39_4 : reg39_4.size = 3 := by kernel_rfl
noncomputable def reg39_5 : Array Oper := match Try.f39.body with | some (.seq _ (.seq _ (.seq _ (.seq _ (.seq (.region _ ops _) _))))) => ops | _ => #[]
theorem size39_5 : reg39_5.size = 10 := by kernel_rfl
noncomputable def reg39_6 : Array Oper := match Try.f39.body with | some (.seq _ (.seq _ (.seq _ (.seq _ (.seq _ (.seq (.seq (.region _ ops _) _) _)))))) => ops | _ => #[]
theorem size39_6 : reg39_6.size = 13 := by kernel_rfl
noncomputable def reg39_7 : Array Oper := match Try.f39.body with | some (.seq _ (.seq _ (.seq _ (.seq _ (.seq _ (.seq (.seq _ (.cond _ (.seq (.region _ ops _) _) _)) _)))))) => ops | _ => #[]
theorem size39_7 : reg39_7.size = 1 := by kernel_rfl
noncomputable def reg39_8 : Array Oper := match Try.f39.body with | some (.seq _ (.seq _ (.seq _ (.seq _ (.seq _ (.seq _ (.seq (.region _ ops _) _))))))) => ops | _ => #[]
theorem size39_8 : reg39_8.size = 9 := by kernel_rfl
noncomputable def reg39_9 : Array Oper := match Try.f39.body with | some (.seq _ (.seq _ (.seq _ (.seq _ (.seq _ (.seq _ (.seq _ (.seq (.region _ ops _) _)))))))) => ops | _ => #[]
theorem size39_9 : reg39_9.size = 9 := by kernel_rfl
noncomputable def reg39_10 : Array Oper := match Try.f39.body with | some (.seq _ (.seq _ (.seq _ (.seq _ (.seq _ (.seq _ (.seq _ (.seq _ (.seq (.region _ ops _) _))))))))) => ops | _ => #[]
theorem size39_10 : reg39_10.size = 10 := by kernel_rfl
noncomputable def reg39_11 : Array Oper := match Try.f39.body with | some (.seq _ (.seq _ (.seq _ (.seq _ (.seq _ (.seq _ (.seq _ (.seq _ (.seq _ (.seq (.region _ ops _) _)))))))))) => ops | _ => #[]
theorem size39_11 : reg39_11.size = 9 := by kernel_rfl
noncomputable def reg39_12 : Array Oper := match Try.f39.body with | some (.seq _ (.seq _ (.seq _ (.seq _ (.seq _ (.seq _ (.seq _ (.seq _ (.seq _ (.seq _ (.seq (.region _ ops _) _))))))))))) => ops | _ => #[]
theorem size39_12 : reg39_12.size = 9 := by kernel_rfl
noncomputable def reg39_13 : Array Oper := match Try.f39.body with | some (.seq _ (.seq _ (.seq _ (.seq _ (.seq _ (.seq _ (.seq _ (.seq _ (.seq _ (.seq _ (.seq _ (.seq (.region _ ops _) _)))))))))))) => ops | _ => #[]
theorem size39_13 : reg39_13.size = 41 := by kernel_rfl
theorem code39_is : Try.f39.body = some (.seq (.region 0 reg39_0 false) (.seq (.region 1 reg39_1 false) (.seq (.seq (.region 2 reg39_2 false) (.cond (.tmp 23 ) (.seq (.region 3 reg39_3 false) (.ret)) (.skip))) (.seq (.region 4 reg39_4 false) (.seq (.region 5 reg39_5 false) (.seq (.seq (.region 6 reg39_6 false) (.cond (.tmp 46 ) (.seq (.region 7 reg39_7 false) (.ret)) (.skip))) (.seq (.region 8 reg39_8 false) (.seq (.region 9 reg39_9 false) (.seq (.region 10 reg39_10 false) (.seq (.region 11 reg39_11 false) (.seq (.region 12 reg39_12 false) (.seq (.region 13 reg39_13 false) (.ret))))))))))))) := by kernel_rfl
def RowC (w : World) (g : Nat) (l : List Int) : Prop := ∀ (j : Nat) (x : Value), (intRow3 l)[j]? = some x → w.cell? ⟨g, j, none⟩ = some x
section
variable {main : Bool} {V : Nat → Option Wait}
theorem writes_w (w : World) (hA : ∀ b, Apart V b) : CallW Try.prog main V 39 #[] w (fun v w' => v = .bool true ∧ (∀ b, b < w.heap.size → w'.heap[b]? = w.heap[b]?) ∧ w.heap.size ≤ w'.heap.size) := by
  intro c cs
  have hif1 := run_ifaceSteps
  have hif2 := ev_ifaceSteps
  have hnw : CallW Try.prog main V 45 #[.int .i64 2, .int .i64 1] w (fun v w' => ∃ ob qb, v = .tuple #[.pointer (some ⟨ob, 0, none⟩), .int .i64 0] ∧ NwS w (w.heap.size + 1) w.heap.size 2 ob qb 1 1 w' ∧ w.heap.size ≤ ob ∧ w.heap.size ≤ qb) := son_w 2 1 ⟨by decide, by decide, by kernel_rfl⟩ (by decide) (by decide) w hA
  rw [enter_at _ Try.func39 code39_is]
  simp only [Try.ntmps39, List.size_toArray, List.length_cons, List.length_nil, Nat.reduceAdd, Nat.reduceSub, Array.replicate_succ, Array.replicate_zero, List.push_toArray, List.append_toArray, List.nil_append, List.cons_append]
  generalize hT : w.heap.size = T at *
  repeat (first | refine Walk.c rfl ?_ | refine Walk.cRet ?_ | refine Walk.cEnd ?_ | (refine Walk.cReg ?_; simp only [size39_0, size39_1, size39_2, size39_3, size39_4, size39_5, size39_6, size39_7, size39_8, size39_9, size39_10, size39_11, size39_12, size39_13, List.range, List.range.loop]) | (refine Walk.oq ?_; try walk_nrm) | (refine Walk.un ?_; walk_nrm))
  refine Walk.callW (Post := fun v w' => ∃ ob qb, v = .tuple #[.pointer (some ⟨ob, 0, none⟩), .int .i64 0] ∧ NwS w (T + 1) T 2 ob qb 1 1 w' ∧ T ≤ ob ∧ T ≤ qb) ?_ (ho_of (by conv => lhs; whnf) (by kernel_rfl)) (by rfl) (by decide) rfl Try.func45 (by kernel_rfl) (by rfl) ?_
  · walk_nrm
    exact hnw
  rintro _ w1 ⟨ob, qb, rfl, E1, hob, hqb⟩
  clear hnw
  have hq1 := fun w => run_eql_ptr (P := Try.prog) 92 undSolo (some ⟨ob, 0, none⟩) w
  have hq2 := fun w es => ev_eql_ptr (P := Try.prog) 92 undSolo (some ⟨ob, 0, none⟩) w es
  simp only [Option.isNone_some] at hq1
  have I1 := E1.I
  have u1 := E1.old
  have s1 := E1.size
  rw [hT] at s1 u1
  have hlt : ∀ b, soSh (T + 1) T ob qb b → b < w1.heap.size := fun b hb => I1.lt hb
  have hge : ∀ b, b < T → ¬ soSh (T + 1) T ob qb b := fun b hb h => by rcases h with rfl | rfl | rfl | rfl <;> omega
  clear E1
  walk_nrm
  repeat (first | refine Walk.c rfl ?_ | refine Walk.cRet ?_ | refine Walk.cEnd ?_ | (refine Walk.cReg ?_; simp only [size39_0, size39_1, size39_2, size39_3, size39_4, size39_5, size39_6, size39_7, size39_8, size39_9, size39_10, size39_11, size39_12, size39_13, List.range, List.range.loop]) | (refine Walk.oq ?_; try walk_nrm) | (refine Walk.un ?_; walk_nrm))
  (refine Walk.oa ?_; try walk_nrm)
  have s2 : (w1.alloc (.cells #[.int .i64 0] 106)).heap.size = w1.heap.size + 1 := by simp
  have o2 : ∀ b, b < w1.heap.size → (w1.alloc (.cells #[.int .i64 0] 106)).heap[b]? = w1.heap[b]? := fun b hb => heap_new_lt _ _ hb
  have n2 := heap_alloc_new w1 (.cells #[.int .i64 0] 106)
  generalize hP : w1.heap.size = P at *
  generalize w1.alloc (.cells #[.int .i64 0] 106) = w2 at *
  have hnp : ¬ soSh (T + 1) T ob qb P := fun h => by have := hlt _ h; omega
  have I2 := I1.old fun b hb => o2 b (hlt b hb)
  clear I1
  try simp only [hP]
  repeat (first | refine Walk.c rfl ?_ | refine Walk.cRet ?_ | refine Walk.cEnd ?_ | (refine Walk.cReg ?_; simp only [size39_0, size39_1, size39_2, size39_3, size39_4, size39_5, size39_6, size39_7, size39_8, size39_9, size39_10, size39_11, size39_12, size39_13, List.range, List.range.loop]) | (refine Walk.oq ?_; try walk_nrm) | (refine Walk.un ?_; walk_nrm))
  (refine Walk.oa ?_; try walk_nrm)
  have s3 : (w2.alloc (.cells #[.int .i64 7, .int .i64 8] 2)).heap.size = w2.heap.size + 1 := by simp
  have o3 : ∀ b, b < w2.heap.size → (w2.alloc (.cells #[.int .i64 7, .int .i64 8] 2)).heap[b]? = w2.heap[b]? := fun b hb => heap_new_lt _ _ hb
  have d3 : NumB (w2.alloc (.cells #[.int .i64 7, .int .i64 8] 2)) w2.heap.size [7, 8] := heap_alloc_new w2 (.cells #[.int .i64 7, .int .i64 8] 2)
  rw [s2] at s3 o3 d3
  generalize hw3 : w2.alloc (.cells #[.int .i64 7, .int .i64 8] 2) = w3 at *
  clear hw3
  have I3 := I2.old fun b hb => o3 b (by have := hlt b hb; omega)
  have n3 := (o3 P (by omega)).trans n2
  have hcal := write1_c (main := main) (V := V) hA I3 hnp n3 (P + 1) d3 (by omega) (fun h => by have := hlt _ h; omega) (by omega)
  refine Walk.callP (Post := fun v w' => ∃ a er, v = .tuple #[.int .i64 a, .int .i64 er] ∧ (⟨true, 0, []⟩ : Ans) = ⟨er == 0, if er = 0 then a else er, []⟩ ∧ (er ≠ 0 → a = 0) ∧ CS (T + 1) T 2 ob qb 1 P 7 ws1 w3 w') ?_ (ho_of (by conv => lhs; whnf) (by kernel_rfl)) (by rfl) (by decide) rfl Try.func48 (by kernel_rfl) (by rfl) ⟨rfl, rfl, _, Try.func39⟩ ?_
  · walk_nrm
    exact hcal
  rintro _ w4 ⟨a, er, rfl, he, he0, H4⟩
  clear hcal
  obtain ⟨rfl, rfl⟩ := got_ok he
  clear he he0
  have I4 := H4.I
  have n4 := H4.cnt
  have s4 := H4.size
  walk_nrm
  have c4 : w4.cell? ⟨P, 0, none⟩ = some (.int .i64 7) := (cell_of n4 0).trans rfl
  repeat (first | refine Walk.c rfl ?_ | refine Walk.cRet ?_ | refine Walk.cEnd ?_ | (refine Walk.cReg ?_; simp only [size39_0, size39_1, size39_2, size39_3, size39_4, size39_5, size39_6, size39_7, size39_8, size39_9, size39_10, size39_11, size39_12, size39_13, List.range, List.range.loop]) | (refine Walk.oq ?_; try walk_nrm) | (refine Walk.un ?_; walk_nrm))
  clear c4
  (refine Walk.oa ?_; try walk_nrm)
  have s5 : (w4.alloc (.cells #[.int .i64 9] 2)).heap.size = w4.heap.size + 1 := by simp
  have o5 : ∀ b, b < w4.heap.size → (w4.alloc (.cells #[.int .i64 9] 2)).heap[b]? = w4.heap[b]? := fun b hb => heap_new_lt _ _ hb
  have d5 : NumB (w4.alloc (.cells #[.int .i64 9] 2)) w4.heap.size [9] := heap_alloc_new w4 (.cells #[.int .i64 9] 2)
  generalize hw5 : w4.alloc (.cells #[.int .i64 9] 2) = w5 at *
  clear hw5
  have I5 := I4.old fun b hb => o5 b (by have := hlt b hb; omega)
  have n5 := (o5 P (by omega)).trans n4
  have hcal := write2_c (main := main) (V := V) hA I5 hnp n5 w4.heap.size d5 (by omega) (fun h => by have := hlt _ h; omega) (by omega)
  refine Walk.callP (Post := fun v w' => ∃ a er, v = .tuple #[.int .i64 a, .int .i64 er] ∧ (⟨false, 3, []⟩ : Ans) = ⟨er == 0, if er = 0 then a else er, []⟩ ∧ (er ≠ 0 → a = 0) ∧ CS (T + 1) T 2 ob qb 1 P 8 ws2 w5 w') ?_ (ho_of (by conv => lhs; whnf) (by kernel_rfl)) (by rfl) (by decide) rfl Try.func48 (by kernel_rfl) (by rfl) ⟨rfl, rfl, _, Try.func39⟩ ?_
  · walk_nrm
    exact hcal
  rintro _ w6 ⟨a, er, rfl, he, he0, H6⟩
  clear hcal
  obtain rfl := got_no he
  obtain rfl := he0 (by decide)
  clear he he0
  have I6 := H6.I
  have n6 := H6.cnt
  have s6 := H6.size
  walk_nrm
  repeat (first | refine Walk.c rfl ?_ | refine Walk.cRet ?_ | refine Walk.cEnd ?_ | (refine Walk.cReg ?_; simp only [size39_0, size39_1, size39_2, size39_3, size39_4, size39_5, size39_6, size39_7, size39_8, size39_9, size39_10, size39_11, size39_12, size39_13, List.range, List.range.loop]) | (refine Walk.oq ?_; try walk_nrm) | (refine Walk.un ?_; walk_nrm))
  have hcal := read3_c (main := main) (V := V) hA I6 hnp n6
  refine Walk.callP (Post := fun v w' => ∃ a er, v = .tuple #[.int .i64 a, .int .i64 er] ∧ (⟨true, 7, []⟩ : Ans) = ⟨er == 0, if er = 0 then a else er, []⟩ ∧ (er ≠ 0 → a = 0) ∧ CS (T + 1) T 2 ob qb 1 P 13 ws3 w6 w') ?_ (ho_of (by conv => lhs; whnf) (by kernel_rfl)) (by rfl) (by decide) rfl Try.func54 (by kernel_rfl) (by rfl) ⟨rfl, rfl, _, Try.func39⟩ ?_
  · walk_nrm
    exact hcal
  rintro _ w7 ⟨a, er, rfl, he, he0, H7⟩
  clear hcal
  obtain ⟨rfl, rfl⟩ := got_ok he
  clear he he0
  have I7 := H7.I
  have n7 := H7.cnt
  have s7 := H7.size
  walk_nrm
  repeat (first | refine Walk.c rfl ?_ | refine Walk.cRet ?_ | refine Walk.cEnd ?_ | (refine Walk.cReg ?_; simp only [size39_0, size39_1, size39_2, size39_3, size39_4, size39_5, size39_6, size39_7, size39_8, size39_9, size39_10, size39_11, size39_12, size39_13, List.range, List.range.loop]) | (refine Walk.oq ?_; try walk_nrm) | (refine Walk.un ?_; walk_nrm))
  (refine Walk.oa ?_; try walk_nrm)
  have s8 : (w7.alloc (.cells #[.int .i64 9] 2)).heap.size = w7.heap.size + 1 := by simp
  have o8 : ∀ b, b < w7.heap.size → (w7.alloc (.cells #[.int .i64 9] 2)).heap[b]? = w7.heap[b]? := fun b hb => heap_new_lt _ _ hb
  have d8 : NumB (w7.alloc (.cells #[.int .i64 9] 2)) w7.heap.size [9] := heap_alloc_new w7 (.cells #[.int .i64 9] 2)
  generalize hw8 : w7.alloc (.cells #[.int .i64 9] 2) = w8 at *
  clear hw8
  have I8 := I7.old fun b hb => o8 b (by have := hlt b hb; omega)
  have n8 := (o8 P (by omega)).trans n7
  have hcal := write4_c (main := main) (V := V) hA I8 hnp n8 w7.heap.size d8 (by omega) (fun h => by have := hlt _ h; omega) (by omega)
  refine Walk.callP (Post := fun v w' => ∃ a er, v = .tuple #[.int .i64 a, .int .i64 er] ∧ (⟨true, 2, []⟩ : Ans) = ⟨er == 0, if er = 0 then a else er, []⟩ ∧ (er ≠ 0 → a = 0) ∧ CS (T + 1) T 2 ob qb 1 P 18 ws4 w8 w') ?_ (ho_of (by conv => lhs; whnf) (by kernel_rfl)) (by rfl) (by decide) rfl Try.func48 (by kernel_rfl) (by rfl) ⟨rfl, rfl, _, Try.func39⟩ ?_
  · walk_nrm
    exact hcal
  rintro _ w9 ⟨a, er, rfl, he, he0, H9⟩
  clear hcal
  obtain ⟨rfl, rfl⟩ := got_ok he
  clear he he0
  have I9 := H9.I
  have n9 := H9.cnt
  have s9 := H9.size
  walk_nrm
  repeat (first | refine Walk.c rfl ?_ | refine Walk.cRet ?_ | refine Walk.cEnd ?_ | (refine Walk.cReg ?_; simp only [size39_0, size39_1, size39_2, size39_3, size39_4, size39_5, size39_6, size39_7, size39_8, size39_9, size39_10, size39_11, size39_12, size39_13, List.range, List.range.loop]) | (refine Walk.oq ?_; try walk_nrm) | (refine Walk.un ?_; walk_nrm))
  have hcal := batch5_c (main := main) (V := V) hA I9 hnp n9
  refine Walk.callP (Post := fun v w' => ∃ a cp er, v = .tuple #[.slice a 2 cp, .int .i64 er] ∧ true = (er == 0) ∧ (0 : Int) = er ∧ w'.ownsRow 0 2 1 (.slice a 2 cp) 2 (([8, 9] : List Int).map fun z => .int .i64 z) ∧ (∀ b, (Value.slice a 2 cp).ownBlock = some b → w9.heap.size ≤ b ∧ b < w'.heap.size) ∧ CS (T + 1) T 2 ob qb 1 P 26 ws5 w9 w') ?_ (ho_of (by conv => lhs; whnf) (by kernel_rfl)) (by rfl) (by decide) rfl Try.func49 (by kernel_rfl) (by rfl) ⟨rfl, rfl, _, Try.func39⟩ ?_
  · walk_nrm
    exact hcal
  rintro _ w10 ⟨a, cp, er, rfl, hx1, rfl, hrow, hx2, H10⟩
  clear hcal hx1 hx2
  have I10 := H10.I
  have s10 := H10.size
  obtain ⟨g, hg, hgl, hgc⟩ : ∃ g, a = some ⟨g, 0, none⟩ ∧ g < w10.heap.size ∧ RowC w10 g [8, 9] := by
    rcases hrow.2 with ⟨_, e⟩ | ⟨g, cap, cur, e, hb, hh, hc, _, hs, ht⟩
    · cases e
    · injection e with e1 _ _
      refine ⟨g, e1, (Array.getElem?_eq_some_iff.1 hh).1, fun j x hx => ?_⟩
      refine (cell_of hh j).trans ?_
      have hx : (([8, 9] : List Int).map fun z => Value.int .i64 z)[j]? = some x := hx
      rw [← ht, List.getElem?_take] at hx
      split at hx
      · simpa using hx
      · cases hx
  subst hg
  clear hrow
  walk_nrm
  repeat (first | refine Walk.c rfl ?_ | refine Walk.cRet ?_ | refine Walk.cEnd ?_ | (refine Walk.cReg ?_; simp only [size39_0, size39_1, size39_2, size39_3, size39_4, size39_5, size39_6, size39_7, size39_8, size39_9, size39_10, size39_11, size39_12, size39_13, List.range, List.range.loop]) | (refine Walk.oq ?_; try walk_nrm) | (refine Walk.un ?_; walk_nrm))
  have hst := state_w (main := main) (V := V) w10 I10 hA
  rw [wf.1, wf.2.1] at hst
  refine Walk.callW (Post := fun v w' => v = .tuple #[.int .i64 3, .int .i64 2, .slice (some ⟨w10.heap.size, 0, none⟩) 1 1] ∧ NewN 1 ws5.nm w10 (.slice (some ⟨w10.heap.size, 0, none⟩) 1 1) w') ?_ (ho_of (by conv => lhs; whnf) (by kernel_rfl)) (by rfl) (by decide) rfl Try.func51 (by kernel_rfl) (by rfl) ?_
  · walk_nrm
    exact hst
  rintro _ w11 ⟨rfl, hx1, d11, o11, s11⟩
  clear hst hx1
  have e11 : (List.range 1).map ws5.nm = [2] := congrArg (fun x => [x]) wf.2.2
  rw [e11] at d11
  clear e11
  walk_nrm
  repeat (first | refine Walk.c rfl ?_ | refine Walk.cRet ?_ | refine Walk.cEnd ?_ | (refine Walk.cReg ?_; simp only [size39_0, size39_1, size39_2, size39_3, size39_4, size39_5, size39_6, size39_7, size39_8, size39_9, size39_10, size39_11, size39_12, size39_13, List.range, List.range.loop]) | (refine Walk.oq ?_; try walk_nrm) | (refine Walk.un ?_; walk_nrm))
  (refine Walk.oa ?_; try walk_nrm)
  have s12 : (w11.alloc (.cells #[.int .i64 8, .int .i64 9] 2)).heap.size = w11.heap.size + 1 := by simp
  have o12 : ∀ b, b < w11.heap.size → (w11.alloc (.cells #[.int .i64 8, .int .i64 9] 2)).heap[b]? = w11.heap[b]? := fun b hb => heap_new_lt _ _ hb
  have d12 : NumB (w11.alloc (.cells #[.int .i64 8, .int .i64 9] 2)) w11.heap.size [8, 9] := heap_alloc_new w11 (.cells #[.int .i64 8, .int .i64 9] 2)
  generalize hw12 : w11.alloc (.cells #[.int .i64 8, .int .i64 9] 2) = w12 at *
  clear hw12
  have hsm : CallV Try.prog main V 50 #[.slice (some ⟨g, 0, none⟩) 2 cp, .slice (some ⟨w11.heap.size, 0, none⟩) 2 2] w12 (.bool true) w12 := same3_w [8, 9] g w11.heap.size cp 2 w12 (by decide) (fun j x hx => (World.cell?_of_block (a := ⟨g, j, none⟩) ((o12 g (by omega)).trans (o11 g hgl))).trans (hgc j x hx)) (fun j x hx => by
    have hx : (([8, 9] : List Int).map fun z => Value.int .i64 z)[j]? = some x := hx
    rw [List.getElem?_map, Option.map_eq_some_iff] at hx
    obtain ⟨y, hy, rfl⟩ := hx
    exact d12.cell hy)
  repeat (first | refine Walk.c rfl ?_ | refine Walk.cRet ?_ | refine Walk.cEnd ?_ | (refine Walk.cReg ?_; simp only [size39_0, size39_1, size39_2, size39_3, size39_4, size39_5, size39_6, size39_7, size39_8, size39_9, size39_10, size39_11, size39_12, size39_13, List.range, List.range.loop]) | (refine Walk.oq ?_; try walk_nrm) | (refine Walk.un ?_; walk_nrm))
  refine Walk.callV (x := .bool true) (W := w12) ?_ (ho_of (by conv => lhs; whnf) (by kernel_rfl)) (by rfl) (by decide) rfl Try.func50 (by kernel_rfl) (by rfl) ?_
  · walk_nrm
    exact hsm
  clear hsm
  walk_nrm
  repeat (first | refine Walk.c rfl ?_ | refine Walk.cRet ?_ | refine Walk.cEnd ?_ | (refine Walk.cReg ?_; simp only [size39_0, size39_1, size39_2, size39_3, size39_4, size39_5, size39_6, size39_7, size39_8, size39_9, size39_10, size39_11, size39_12, size39_13, List.range, List.range.loop]) | (refine Walk.oq ?_; try walk_nrm) | (refine Walk.un ?_; walk_nrm))
  (refine Walk.oa ?_; try walk_nrm)
  have s13 : (w12.alloc (.cells #[.int .i64 2] 2)).heap.size = w12.heap.size + 1 := by simp
  have o13 : ∀ b, b < w12.heap.size → (w12.alloc (.cells #[.int .i64 2] 2)).heap[b]? = w12.heap[b]? := fun b hb => heap_new_lt _ _ hb
  have d13 : NumB (w12.alloc (.cells #[.int .i64 2] 2)) w12.heap.size [2] := heap_alloc_new w12 (.cells #[.int .i64 2] 2)
  rw [s12] at s13 o13 d13
  generalize hw13 : w12.alloc (.cells #[.int .i64 2] 2) = w13 at *
  clear hw13
  have hsm : CallV Try.prog main V 50 #[.slice (some ⟨w10.heap.size, 0, none⟩) 1 1, .slice (some ⟨w11.heap.size + 1, 0, none⟩) 1 1] w13 (.bool true) w13 := same3_w [2] w10.heap.size (w11.heap.size + 1) 1 1 w13 (by decide) (fun j x hx => by
    have hx : (([2] : List Int).map fun z => Value.int .i64 z)[j]? = some x := hx
    rw [List.getElem?_map, Option.map_eq_some_iff] at hx
    obtain ⟨y, hy, rfl⟩ := hx
    exact (World.cell?_of_block (a := ⟨w10.heap.size, j, none⟩) ((o13 w10.heap.size (by omega)).trans (o12 w10.heap.size (by omega)))).trans (d11.cell hy)) (fun j x hx => by
    have hx : (([2] : List Int).map fun z => Value.int .i64 z)[j]? = some x := hx
    rw [List.getElem?_map, Option.map_eq_some_iff] at hx
    obtain ⟨y, hy, rfl⟩ := hx
    exact d13.cell hy)
  repeat (first | refine Walk.c rfl ?_ | refine Walk.cRet ?_ | refine Walk.cEnd ?_ | (refine Walk.cReg ?_; simp only [size39_0, size39_1, size39_2, size39_3, size39_4, size39_5, size39_6, size39_7, size39_8, size39_9, size39_10, size39_11, size39_12, size39_13, List.range, List.range.loop]) | (refine Walk.oq ?_; try walk_nrm) | (refine Walk.un ?_; walk_nrm))
  refine Walk.callV (x := .bool true) (W := w13) ?_ (ho_of (by conv => lhs; whnf) (by kernel_rfl)) (by rfl) (by decide) rfl Try.func50 (by kernel_rfl) (by rfl) ?_
  · walk_nrm
    exact hsm
  clear hsm
  walk_nrm
  repeat (first | refine Walk.c rfl ?_ | refine Walk.cRet ?_ | refine Walk.cEnd ?_ | (refine Walk.cReg ?_; simp only [size39_0, size39_1, size39_2, size39_3, size39_4, size39_5, size39_6, size39_7, size39_8, size39_9, size39_10, size39_11, size39_12, size39_13, List.range, List.range.loop]) | (refine Walk.oq ?_; try walk_nrm) | (refine Walk.un ?_; walk_nrm))
  have h4 := H4.old
  have h6 := H6.old
  have h7 := H7.old
  have h9 := H9.old
  have h10 := H10.old
  have hall : ∀ b, b < T → w13.heap[b]? = w.heap[b]? := fun b hb => by
    have hn := hge b hb
    have hbp : b ≠ P := by omega
    rw [o13 b (by omega), o12 b (by omega), o11 b (by omega), h10 b (by omega) hn hbp, h9 b (by omega) hn hbp, o8 b (by omega), h7 b (by omega) hn hbp, h6 b (by omega) hn hbp, o5 b (by omega), h4 b (by omega) hn hbp, o3 b (by omega), o2 b (by omega), u1 b (by omega)]
  exact Walk.on1 rfl rfl Try.func39 rfl (.stop fun d => ⟨_, ⟨rfl, hall, by show T ≤ w13.heap.size; omega⟩, rfl⟩)
end
end
section
def zSo : Obj := .cells #[.pointer none, .int .i64 0, .slice none 0 0, .int .i64 0, .int .i64 0, .int .i64 0] 118
def NoS (rv : Value) (w : World) : Prop := rv = .pointer none ∨ ∃ zb, rv = .pointer (some ⟨zb, 0, none⟩) ∧ w.heap[zb]? = some zSo
theorem NoS.old {rv : Value} {w w' : World} (h : NoS rv w) (hb : ∀ b, b < w.heap.size → w'.heap[b]? = w.heap[b]?) : NoS rv w' := by
  rcases h with h | ⟨zb, h1, h2⟩
  · exact .inl h
  · exact .inr ⟨zb, h1, (hb zb (Array.getElem?_eq_some_iff.1 h2).1).trans h2⟩
section
variable {main : Bool} {V : Nat → Option Wait}
theorem osize_nil (w : World) : CallV Try.prog main V 46 #[.pointer none] w (.int .i64 0) w := by
  have hp1 := fun w => run_eql_ptr (P := Try.prog) 92 undSolo none w
  have hp2 := fun w es => ev_eql_ptr (P := Try.prog) 92 undSolo none w es
  simp only [Option.isNone_none] at hp1
  refine callW_in Try.func46 code46_is fun fr cs => ?_
  simp only [Try.ntmps46, List.size_toArray, List.length_cons, List.length_nil, Nat.reduceAdd, Nat.reduceSub, Array.replicate_succ, Array.replicate_zero, List.push_toArray, List.append_toArray, List.nil_append, List.cons_append]
  repeat (first | refine Walk.c rfl ?_ | refine Walk.cRet ?_ | refine Walk.cEnd ?_ | (refine Walk.cReg ?_; simp only [size46_0, size46_1, size46_2, size46_3, List.range, List.range.loop]) | (refine Walk.oq ?_; try walk_nrm) | (refine Walk.un ?_; walk_nrm))
  exact Walk.ret1 rfl rfl Try.func46 rfl fun d => ⟨rfl, d, rfl⟩
theorem osize_zero (zb : Nat) (w : World) (h : w.heap[zb]? = some zSo) : CallV Try.prog main V 46 #[.pointer (some ⟨zb, 0, none⟩)] w (.int .i64 0) w := by
  have c0 : w.cell? ⟨zb, 0, none⟩ = some (.pointer none) := (cell_of h 0).trans rfl
  have hsz := size_nil (main := main) (V := V) w
  have hp1 := fun w => run_eql_ptr (P := Try.prog) 92 undSolo (some ⟨zb, 0, none⟩) w
  have hp2 := fun w es => ev_eql_ptr (P := Try.prog) 92 undSolo (some ⟨zb, 0, none⟩) w es
  simp only [Option.isNone_some] at hp1
  clear h
  refine callW_in Try.func46 code46_is fun fr cs => ?_
  simp only [Try.ntmps46, List.size_toArray, List.length_cons, List.length_nil, Nat.reduceAdd, Nat.reduceSub, Array.replicate_succ, Array.replicate_zero, List.push_toArray, List.append_toArray, List.nil_append, List.cons_append]
  repeat (first | refine Walk.c rfl ?_ | refine Walk.cRet ?_ | refine Walk.cEnd ?_ | (refine Walk.cReg ?_; simp only [size46_0, size46_1, size46_2, size46_3, List.range, List.range.loop]) | (refine Walk.oq ?_; try walk_nrm) | (refine Walk.un ?_; walk_nrm))
  refine Walk.callV (x := .int .i64 0) (W := w) ?_ (ho_of (by conv => lhs; whnf) (by kernel_rfl)) (by rfl) (by decide) rfl Try.func20 (by kernel_rfl) (by rfl) ?_
  · walk_nrm
    exact hsz
  walk_nrm
  repeat (first | refine Walk.c rfl ?_ | refine Walk.cRet ?_ | refine Walk.cEnd ?_ | (refine Walk.cReg ?_; simp only [size46_0, size46_1, size46_2, size46_3, List.range, List.range.loop]) | (refine Walk.oq ?_; try walk_nrm) | (refine Walk.un ?_; walk_nrm))
  exact Walk.ret1 rfl rfl Try.func46 rfl fun d => ⟨rfl, d, rfl⟩
theorem osize_z (rv : Value) (w : World) (h : NoS rv w) : CallV Try.prog main V 46 #[rv] w (.int .i64 0) w := by
  rcases h with rfl | ⟨zb, rfl, h2⟩
  · exact osize_nil w
  · exact osize_zero zb w h2
theorem ord_nil (w : World) : CallV Try.prog main V 47 #[.pointer none] w (.int .i64 0) w := by
  have hp1 := fun w => run_eql_ptr (P := Try.prog) 92 undSolo none w
  have hp2 := fun w es => ev_eql_ptr (P := Try.prog) 92 undSolo none w es
  simp only [Option.isNone_none] at hp1
  refine callW_in Try.func47 code47_is fun fr cs => ?_
  simp only [Try.ntmps47, List.size_toArray, List.length_cons, List.length_nil, Nat.reduceAdd, Nat.reduceSub, Array.replicate_succ, Array.replicate_zero, List.push_toArray, List.append_toArray, List.nil_append, List.cons_append]
  repeat (first | refine Walk.c rfl ?_ | refine Walk.cRet ?_ | refine Walk.cEnd ?_ | (refine Walk.cReg ?_; simp only [size47_0, size47_1, size47_2, size47_3, List.range, List.range.loop]) | (refine Walk.oq ?_; try walk_nrm) | (refine Walk.un ?_; walk_nrm))
  exact Walk.ret1 rfl rfl Try.func47 rfl fun d => ⟨rfl, d, rfl⟩
theorem ord_zero (zb : Nat) (w : World) (h : w.heap[zb]? = some zSo) : CallV Try.prog main V 47 #[.pointer (some ⟨zb, 0, none⟩)] w (.int .i64 0) w := by
  have c2 : w.cell? ⟨zb, 2, none⟩ = some (.slice none 0 0) := (cell_of h 2).trans rfl
  have hp1 := fun w => run_eql_ptr (P := Try.prog) 92 undSolo (some ⟨zb, 0, none⟩) w
  have hp2 := fun w es => ev_eql_ptr (P := Try.prog) 92 undSolo (some ⟨zb, 0, none⟩) w es
  simp only [Option.isNone_some] at hp1
  clear h
  refine callW_in Try.func47 code47_is fun fr cs => ?_
  simp only [Try.ntmps47, List.size_toArray, List.length_cons, List.length_nil, Nat.reduceAdd, Nat.reduceSub, Array.replicate_succ, Array.replicate_zero, List.push_toArray, List.append_toArray, List.nil_append, List.cons_append]
  repeat (first | refine Walk.c rfl ?_ | refine Walk.cRet ?_ | refine Walk.cEnd ?_ | (refine Walk.cReg ?_; simp only [size47_0, size47_1, size47_2, size47_3, List.range, List.range.loop]) | (refine Walk.oq ?_; try walk_nrm) | (refine Walk.un ?_; walk_nrm))
  exact Walk.ret1 rfl rfl Try.func47 rfl fun d => ⟨rfl, d, rfl⟩
theorem ord_z (rv : Value) (w : World) (h : NoS rv w) : CallV Try.prog main V 47 #[rv] w (.int .i64 0) w := by
  rcases h with rfl | ⟨zb, rfl, h2⟩
  · exact ord_nil w
  · exact ord_zero zb w h2
theorem open_nil (w : World) (q : Int) : CallV Try.prog main V 91 #[.pointer none, .int .i64 q] w (.bool false) w := by
  have hp1 := fun w => run_neq_ptr (P := Try.prog) 92 undSolo none w
  have hp2 := fun w es => ev_neq_ptr (P := Try.prog) 92 undSolo none w es
  simp only [Option.isNone_none, Bool.not_true] at hp1
  refine callW_in Try.func91 code91_is fun fr cs => ?_
  simp only [Try.ntmps91, List.size_toArray, List.length_cons, List.length_nil, Nat.reduceAdd, Nat.reduceSub, Array.replicate_succ, Array.replicate_zero, List.push_toArray, List.append_toArray, List.nil_append, List.cons_append]
  repeat (first | refine Walk.c rfl ?_ | refine Walk.cRet ?_ | refine Walk.cEnd ?_ | (refine Walk.cReg ?_; simp only [size91_0, size91_1, List.range, List.range.loop]) | (refine Walk.oq ?_; try walk_nrm) | (refine Walk.un ?_; walk_nrm))
  exact Walk.ret1 rfl rfl Try.func91 rfl fun d => ⟨rfl, d, rfl⟩
theorem open_zero (zb : Nat) (w : World) (h : w.heap[zb]? = some zSo) (q : Int) (hq : 0 < q) : CallV Try.prog main V 91 #[.pointer (some ⟨zb, 0, none⟩), .int .i64 q] w (.bool false) w := by
  have c3 : w.cell? ⟨zb, 3, none⟩ = some (.int .i64 0) := (cell_of h 3).trans rfl
  have c4 : w.cell? ⟨zb, 4, none⟩ = some (.int .i64 0) := (cell_of h 4).trans rfl
  have hp1 := fun w => run_neq_ptr (P := Try.prog) 92 undSolo (some ⟨zb, 0, none⟩) w
  have hp2 := fun w es => ev_neq_ptr (P := Try.prog) 92 undSolo (some ⟨zb, 0, none⟩) w es
  simp only [Option.isNone_some, Bool.not_false] at hp1
  have g1 : decide (0 < q) = true := decide_eq_true hq
  have g2 : decide (q < 0) = false := decide_eq_false (by omega)
  clear h
  refine callW_in Try.func91 code91_is fun fr cs => ?_
  simp only [Try.ntmps91, List.size_toArray, List.length_cons, List.length_nil, Nat.reduceAdd, Nat.reduceSub, Array.replicate_succ, Array.replicate_zero, List.push_toArray, List.append_toArray, List.nil_append, List.cons_append]
  repeat (first | refine Walk.c rfl ?_ | refine Walk.cRet ?_ | refine Walk.cEnd ?_ | (refine Walk.cReg ?_; simp only [size91_0, size91_1, List.range, List.range.loop]) | (refine Walk.oq ?_; try walk_nrm) | (refine Walk.un ?_; walk_nrm))
  exact Walk.ret1 rfl rfl Try.func91 rfl fun d => ⟨rfl, d, rfl⟩
theorem open_zero' (zb : Nat) (w : World) (h : w.heap[zb]? = some zSo) (q : Int) (hq : ¬ 0 < q) : CallV Try.prog main V 91 #[.pointer (some ⟨zb, 0, none⟩), .int .i64 q] w (.bool false) w := by
  have c3 : w.cell? ⟨zb, 3, none⟩ = some (.int .i64 0) := (cell_of h 3).trans rfl
  have c4 : w.cell? ⟨zb, 4, none⟩ = some (.int .i64 0) := (cell_of h 4).trans rfl
  have hp1 := fun w => run_neq_ptr (P := Try.prog) 92 undSolo (some ⟨zb, 0, none⟩) w
  have hp2 := fun w es => ev_neq_ptr (P := Try.prog) 92 undSolo (some ⟨zb, 0, none⟩) w es
  simp only [Option.isNone_some, Bool.not_false] at hp1
  have g1 : decide (0 < q) = false := decide_eq_false hq
  clear h
  refine callW_in Try.func91 code91_is fun fr cs => ?_
  simp only [Try.ntmps91, List.size_toArray, List.length_cons, List.length_nil, Nat.reduceAdd, Nat.reduceSub, Array.replicate_succ, Array.replicate_zero, List.push_toArray, List.append_toArray, List.nil_append, List.cons_append]
  repeat (first | refine Walk.c rfl ?_ | refine Walk.cRet ?_ | refine Walk.cEnd ?_ | (refine Walk.cReg ?_; simp only [size91_0, size91_1, List.range, List.range.loop]) | (refine Walk.oq ?_; try walk_nrm) | (refine Walk.un ?_; walk_nrm))
  exact Walk.ret1 rfl rfl Try.func91 rfl fun d => ⟨rfl, d, rfl⟩
theorem open_z (rv : Value) (w : World) (h : NoS rv w) (q : Int) : CallV Try.prog main V 91 #[rv, .int .i64 q] w (.bool false) w := by
  rcases h with rfl | ⟨zb, rfl, h2⟩
  · exact open_nil w q
  · by_cases hq : 0 < q
    · exact open_zero zb w h2 q hq
    · exact open_zero' zb w h2 q hq
theorem claim_z1 (rv sv : Value) (w : World) (c : Int) (hc : c < 1) : CallV Try.prog main V 53 #[rv, sv, .int .i64 c] w (.tuple #[.int .i64 0, .int .i64 1]) w := by
  have g1 : decide (c < 1) = true := decide_eq_true hc
  refine callW_in Try.func53 code53_is fun fr cs => ?_
  simp only [Try.ntmps53, List.size_toArray, List.length_cons, List.length_nil, Nat.reduceAdd, Nat.reduceSub, Array.replicate_succ, Array.replicate_zero, List.push_toArray, List.append_toArray, List.nil_append, List.cons_append]
  repeat (first | refine Walk.c rfl ?_ | refine Walk.cRet ?_ | refine Walk.cEnd ?_ | (refine Walk.cReg ?_; simp only [size53_0, size53_1, size53_2, size53_3, size53_4, size53_5, size53_6, size53_7, size53_8, size53_9, size53_10, List.range, List.range.loop]) | (refine Walk.oq ?_; try walk_nrm) | (refine Walk.un ?_; walk_nrm))
  exact Walk.on2 rfl rfl Try.func53 rfl (.stop fun d => ⟨_, ⟨rfl, d, rfl⟩, rfl⟩)
theorem claim_z2 (rv sv : Value) (w : World) (h : NoS rv w) (c : Int) (hc : ¬ c < 1) : CallV Try.prog main V 53 #[rv, sv, .int .i64 c] w (.tuple #[.int .i64 0, .int .i64 1]) w := by
  have g1 : decide (c < 1) = false := decide_eq_false hc
  have g2 : decide (0 < c) = true := decide_eq_true (by omega)
  have hsz := osize_z (main := main) (V := V) rv w h
  clear h
  refine callW_in Try.func53 code53_is fun fr cs => ?_
  simp only [Try.ntmps53, List.size_toArray, List.length_cons, List.length_nil, Nat.reduceAdd, Nat.reduceSub, Array.replicate_succ, Array.replicate_zero, List.push_toArray, List.append_toArray, List.nil_append, List.cons_append]
  repeat (first | refine Walk.c rfl ?_ | refine Walk.cRet ?_ | refine Walk.cEnd ?_ | (refine Walk.cReg ?_; simp only [size53_0, size53_1, size53_2, size53_3, size53_4, size53_5, size53_6, size53_7, size53_8, size53_9, size53_10, List.range, List.range.loop]) | (refine Walk.oq ?_; try walk_nrm) | (refine Walk.un ?_; walk_nrm))
  refine Walk.callV (x := .int .i64 0) (W := w) ?_ (ho_of (by conv => lhs; whnf) (by kernel_rfl)) (by rfl) (by decide) rfl Try.func46 (by kernel_rfl) (by rfl) ?_
  · walk_nrm
    exact hsz
  walk_nrm
  repeat (first | refine Walk.c rfl ?_ | refine Walk.cRet ?_ | refine Walk.cEnd ?_ | (refine Walk.cReg ?_; simp only [size53_0, size53_1, size53_2, size53_3, size53_4, size53_5, size53_6, size53_7, size53_8, size53_9, size53_10, List.range, List.range.loop]) | (refine Walk.oq ?_; try walk_nrm) | (refine Walk.un ?_; walk_nrm))
  exact Walk.on2 rfl rfl Try.func53 rfl (.stop fun d => ⟨_, ⟨rfl, d, rfl⟩, rfl⟩)
theorem claim_z (rv sv : Value) (w : World) (h : NoS rv w) (c : Int) : CallV Try.prog main V 53 #[rv, sv, .int .i64 c] w (.tuple #[.int .i64 0, .int .i64 1]) w := by
  by_cases hc : c < 1
  · exact claim_z1 rv sv w c hc
  · exact claim_z2 rv sv w h c hc
theorem write_z (rv sv : Value) (w : World) (h : NoS rv w) (a : Option Addr) (m c : Nat) : CallV Try.prog main V 48 #[rv, sv, .slice a m c] w (.tuple #[.int .i64 0, .int .i64 1]) w := by
  have hcl := claim_z (main := main) (V := V) rv sv w h m
  clear h
  refine callW_in Try.func48 code48_is fun fr cs => ?_
  simp only [Try.ntmps48, List.size_toArray, List.length_cons, List.length_nil, Nat.reduceAdd, Nat.reduceSub, Array.replicate_succ, Array.replicate_zero, List.push_toArray, List.append_toArray, List.nil_append, List.cons_append]
  repeat (first | refine Walk.c rfl ?_ | refine Walk.cRet ?_ | refine Walk.cEnd ?_ | (refine Walk.cReg ?_; simp only [size48_0, size48_1, size48_2, size48_3, size48_4, size48_5, size48_6, size48_7, size48_8, size48_9, size48_10, List.range, List.range.loop]) | (refine Walk.oq ?_; try walk_nrm) | (refine Walk.un ?_; walk_nrm))
  refine Walk.callV (x := .tuple #[.int .i64 0, .int .i64 1]) (W := w) ?_ (ho_of (by conv => lhs; whnf) (by kernel_rfl)) (by rfl) (by decide) rfl Try.func53 (by kernel_rfl) (by rfl) ?_
  · walk_nrm
    exact hcl
  walk_nrm
  repeat (first | refine Walk.c rfl ?_ | refine Walk.cRet ?_ | refine Walk.cEnd ?_ | (refine Walk.cReg ?_; simp only [size48_0, size48_1, size48_2, size48_3, size48_4, size48_5, size48_6, size48_7, size48_8, size48_9, size48_10, List.range, List.range.loop]) | (refine Walk.oq ?_; try walk_nrm) | (refine Walk.un ?_; walk_nrm))
  exact Walk.on2 rfl rfl Try.func48 rfl (.stop fun d => ⟨_, ⟨rfl, d, rfl⟩, rfl⟩)
theorem reader_z1 (rv : Value) (w : World) (k : Int) (hk : k < 0) : CallV Try.prog main V 88 #[rv, .int .i64 k] w (.pointer none) w := by
  have g1 : decide (k < 0) = true := decide_eq_true hk
  refine callW_in Try.func88 code88_is fun fr cs => ?_
  simp only [Try.ntmps88, List.size_toArray, List.length_cons, List.length_nil, Nat.reduceAdd, Nat.reduceSub, Array.replicate_succ, Array.replicate_zero, List.push_toArray, List.append_toArray, List.nil_append, List.cons_append]
  repeat (first | refine Walk.c rfl ?_ | refine Walk.cRet ?_ | refine Walk.cEnd ?_ | (refine Walk.cReg ?_; simp only [size88_0, size88_1, size88_2, size88_3, List.range, List.range.loop]) | (refine Walk.oq ?_; try walk_nrm) | (refine Walk.un ?_; walk_nrm))
  exact Walk.ret1 rfl rfl Try.func88 rfl fun d => ⟨rfl, d, rfl⟩
theorem reader_z2 (rv : Value) (w : World) (h : NoS rv w) (k : Int) (hk : ¬ k < 0) : CallV Try.prog main V 88 #[rv, .int .i64 k] w (.pointer none) w := by
  have g1 : decide (k < 0) = false := decide_eq_false hk
  have g2 : decide (0 ≤ k) = true := decide_eq_true (by omega)
  have hrd := ord_z (main := main) (V := V) rv w h
  clear h
  refine callW_in Try.func88 code88_is fun fr cs => ?_
  simp only [Try.ntmps88, List.size_toArray, List.length_cons, List.length_nil, Nat.reduceAdd, Nat.reduceSub, Array.replicate_succ, Array.replicate_zero, List.push_toArray, List.append_toArray, List.nil_append, List.cons_append]
  repeat (first | refine Walk.c rfl ?_ | refine Walk.cRet ?_ | refine Walk.cEnd ?_ | (refine Walk.cReg ?_; simp only [size88_0, size88_1, size88_2, size88_3, List.range, List.range.loop]) | (refine Walk.oq ?_; try walk_nrm) | (refine Walk.un ?_; walk_nrm))
  refine Walk.callV (x := .int .i64 0) (W := w) ?_ (ho_of (by conv => lhs; whnf) (by kernel_rfl)) (by rfl) (by decide) rfl Try.func47 (by kernel_rfl) (by rfl) ?_
  · walk_nrm
    exact hrd
  walk_nrm
  repeat (first | refine Walk.c rfl ?_ | refine Walk.cRet ?_ | refine Walk.cEnd ?_ | (refine Walk.cReg ?_; simp only [size88_0, size88_1, size88_2, size88_3, List.range, List.range.loop]) | (refine Walk.oq ?_; try walk_nrm) | (refine Walk.un ?_; walk_nrm))
  exact Walk.ret1 rfl rfl Try.func88 rfl fun d => ⟨rfl, d, rfl⟩
theorem reader_z (rv : Value) (w : World) (h : NoS rv w) (k : Int) : CallV Try.prog main V 88 #[rv, .int .i64 k] w (.pointer none) w := by
  by_cases hk : k < 0
  · exact reader_z1 rv w k hk
  · exact reader_z2 rv w h k hk
theorem read_z (rv sv : Value) (w : World) (h : NoS rv w) (k : Int) : CallV Try.prog main V 54 #[rv, sv, .int .i64 k] w (.tuple #[.int .i64 0, .int .i64 1]) w := by
  have hrd := reader_z (main := main) (V := V) rv w h k
  have hp1 := fun w => run_eql_ptr (P := Try.prog) 161 undRdr none w
  have hp2 := fun w es => ev_eql_ptr (P := Try.prog) 161 undRdr none w es
  simp only [Option.isNone_none] at hp1
  clear h
  refine callW_in Try.func54 code54_is fun fr cs => ?_
  simp only [Try.ntmps54, List.size_toArray, List.length_cons, List.length_nil, Nat.reduceAdd, Nat.reduceSub, Array.replicate_succ, Array.replicate_zero, List.push_toArray, List.append_toArray, List.nil_append, List.cons_append]
  repeat (first | refine Walk.c rfl ?_ | refine Walk.cRet ?_ | refine Walk.cEnd ?_ | (refine Walk.cReg ?_; simp only [size54_0, size54_1, size54_2, size54_3, size54_4, size54_5, size54_6, size54_7, size54_8, size54_9, size54_10, size54_11, List.range, List.range.loop]) | (refine Walk.oq ?_; try walk_nrm) | (refine Walk.un ?_; walk_nrm))
  refine Walk.callV (x := .pointer none) (W := w) ?_ (ho_of (by conv => lhs; whnf) (by kernel_rfl)) (by rfl) (by decide) rfl Try.func88 (by kernel_rfl) (by rfl) ?_
  · walk_nrm
    exact hrd
  walk_nrm
  repeat (first | refine Walk.c rfl ?_ | refine Walk.cRet ?_ | refine Walk.cEnd ?_ | (refine Walk.cReg ?_; simp only [size54_0, size54_1, size54_2, size54_3, size54_4, size54_5, size54_6, size54_7, size54_8, size54_9, size54_10, size54_11, List.range, List.range.loop]) | (refine Walk.oq ?_; try walk_nrm) | (refine Walk.un ?_; walk_nrm))
  exact Walk.on2 rfl rfl Try.func54 rfl (.stop fun d => ⟨_, ⟨rfl, d, rfl⟩, rfl⟩)
theorem batch_z (rv sv : Value) (w : World) (h : NoS rv w) (k mo : Int) : CallV Try.prog main V 49 #[rv, sv, .int .i64 k, .int .i64 mo] w (.tuple #[.slice none 0 0, .int .i64 1]) w := by
  have hrd := reader_z (main := main) (V := V) rv w h k
  have hp1 := fun w => run_eql_ptr (P := Try.prog) 161 undRdr none w
  have hp2 := fun w es => ev_eql_ptr (P := Try.prog) 161 undRdr none w es
  simp only [Option.isNone_none] at hp1
  clear h
  refine callW_in Try.func49 code49_is fun fr cs => ?_
  simp only [Try.ntmps49, List.size_toArray, List.length_cons, List.length_nil, Nat.reduceAdd, Nat.reduceSub, Array.replicate_succ, Array.replicate_zero, List.push_toArray, List.append_toArray, List.nil_append, List.cons_append]
  repeat (first | refine Walk.c rfl ?_ | refine Walk.cRet ?_ | refine Walk.cEnd ?_ | (refine Walk.cReg ?_; simp only [size49_0, size49_1, size49_2, size49_3, size49_4, size49_5, size49_6, size49_7, size49_8, size49_9, size49_10, size49_11, size49_12, List.range, List.range.loop]) | (refine Walk.oq ?_; try walk_nrm) | (refine Walk.un ?_; walk_nrm))
  refine Walk.callV (x := .pointer none) (W := w) ?_ (ho_of (by conv => lhs; whnf) (by kernel_rfl)) (by rfl) (by decide) rfl Try.func88 (by kernel_rfl) (by rfl) ?_
  · walk_nrm
    exact hrd
  walk_nrm
  repeat (first | refine Walk.c rfl ?_ | refine Walk.cRet ?_ | refine Walk.cEnd ?_ | (refine Walk.cReg ?_; simp only [size49_0, size49_1, size49_2, size49_3, size49_4, size49_5, size49_6, size49_7, size49_8, size49_9, size49_10, size49_11, size49_12, List.range, List.range.loop]) | (refine Walk.oq ?_; try walk_nrm) | (refine Walk.un ?_; walk_nrm))
  exact Walk.on2 rfl rfl Try.func49 rfl (.stop fun d => ⟨_, ⟨rfl, d, rfl⟩, rfl⟩)
theorem oput_z (rv sv : Value) (w : World) (h : NoS rv w) (q v : Int) : CallV Try.prog main V 55 #[rv, sv, .int .i64 q, .int .i64 v] w (.int .i64 1) w := by
  have hop := open_z (main := main) (V := V) rv w h q
  clear h
  refine callW_in Try.func55 code55_is fun fr cs => ?_
  simp only [Try.ntmps55, List.size_toArray, List.length_cons, List.length_nil, Nat.reduceAdd, Nat.reduceSub, Array.replicate_succ, Array.replicate_zero, List.push_toArray, List.append_toArray, List.nil_append, List.cons_append]
  repeat (first | refine Walk.c rfl ?_ | refine Walk.cRet ?_ | refine Walk.cEnd ?_ | (refine Walk.cReg ?_; simp only [size55_0, size55_1, size55_2, size55_3, List.range, List.range.loop]) | (refine Walk.oq ?_; try walk_nrm) | (refine Walk.un ?_; walk_nrm))
  refine Walk.callV (x := .bool false) (W := w) ?_ (ho_of (by conv => lhs; whnf) (by kernel_rfl)) (by rfl) (by decide) rfl Try.func91 (by kernel_rfl) (by rfl) ?_
  · walk_nrm
    exact hop
  walk_nrm
  repeat (first | refine Walk.c rfl ?_ | refine Walk.cRet ?_ | refine Walk.cEnd ?_ | (refine Walk.cReg ?_; simp only [size55_0, size55_1, size55_2, size55_3, List.range, List.range.loop]) | (refine Walk.oq ?_; try walk_nrm) | (refine Walk.un ?_; walk_nrm))
  exact Walk.ret1 rfl rfl Try.func55 rfl fun d => ⟨rfl, d, rfl⟩
theorem opub_z (rv sv : Value) (w : World) (h : NoS rv w) (q : Int) : CallV Try.prog main V 56 #[rv, sv, .int .i64 q] w (.int .i64 1) w := by
  have hop := open_z (main := main) (V := V) rv w h q
  clear h
  refine callW_in Try.func56 code56_is fun fr cs => ?_
  simp only [Try.ntmps56, List.size_toArray, List.length_cons, List.length_nil, Nat.reduceAdd, Nat.reduceSub, Array.replicate_succ, Array.replicate_zero, List.push_toArray, List.append_toArray, List.nil_append, List.cons_append]
  repeat (first | refine Walk.c rfl ?_ | refine Walk.cRet ?_ | refine Walk.cEnd ?_ | (refine Walk.cReg ?_; simp only [size56_0, size56_1, size56_2, size56_3, size56_4, size56_5, List.range, List.range.loop]) | (refine Walk.oq ?_; try walk_nrm) | (refine Walk.un ?_; walk_nrm))
  refine Walk.callV (x := .bool false) (W := w) ?_ (ho_of (by conv => lhs; whnf) (by kernel_rfl)) (by rfl) (by decide) rfl Try.func91 (by kernel_rfl) (by rfl) ?_
  · walk_nrm
    exact hop
  walk_nrm
  repeat (first | refine Walk.c rfl ?_ | refine Walk.cRet ?_ | refine Walk.cEnd ?_ | (refine Walk.cReg ?_; simp only [size56_0, size56_1, size56_2, size56_3, size56_4, size56_5, List.range, List.range.loop]) | (refine Walk.oq ?_; try walk_nrm) | (refine Walk.un ?_; walk_nrm))
  exact Walk.ret1 rfl rfl Try.func56 rfl fun d => ⟨rfl, d, rfl⟩
end
end
end Go.Proofs.Ytbmijpkdghkbbaa
