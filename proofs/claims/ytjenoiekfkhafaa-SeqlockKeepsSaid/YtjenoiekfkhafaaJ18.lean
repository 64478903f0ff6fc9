/- Part 18. -/
import Derived.Test.YtjenoiekfkhafaaJ3
import Derived.Test.YtjenoiekfkhafaaJ11
import Derived.Test.YtjenoiekfkhafaaJ12
import Derived.Test.YtjenoiekfkhafaaJ16
import Derived.Test.YtjenoiekfkhafaaJ17
set_option linter.unusedSimpArgs false
set_option linter.unusedVariables false
set_option linter.unusedVariables false
set_option maxHeartbeats 8000000
set_option maxRecDepth 100000
namespace Go.Proofs.Ytjenoiekfkhafaa
open Go.Conc Go.RowKit Go.Relay
open Go.ConcN (upd upd_ne upd_same)
section
section
variable {lb k : Nat} {sv : Value}
theorem sqEnter_no (s : Sq) (th : Int) (o : OpV) (h1 : o.k ≠ 1) (h2 : o.k ≠ 2) (h3 : o.k ≠ 3) (h4 : o.k ≠ 4) (h5 : o.k ≠ 5) : sqEnter s th o = (s, .inl aNo) := by
  unfold sqEnter
  rw [if_neg h1, if_neg h2, if_neg h3, if_neg h4, if_neg h5]
def DoOut {L : La} {sv : Value} (K : Lg L sv) (v : Value) (e' : K.E) : Prop := ∃ a sl, K.tgt e' = (K.s e', .inl a) ∧ v = ansV a sl ∧ ListOK K e' sl a.l ∧ a.l.length ≤ 16
theorem qdo_s (K : Lg (sqLa lb k) sv) (e : K.E) (th ok oa ob oc : Int) (ht : K.tgt e = sqEnter (K.s e) th ⟨ok, oa, ob, oc⟩) :
    SCall K.toLb 34 #[.pointer (some ⟨lb, 0, none⟩), sv, .int .i64 th, .agg #[.int .i64 ok, .int .i64 oa, .int .i64 ob, .int .i64 oc]] e (DoOut K) := by
  intro fr l hp hl hk
  have hk15 := (K.inv e).pos
  have hww : IntKind.i64.wrap oa = oa → True := fun _ => trivial
  unfold LW
  rw [enter_at _ Try.func34 code34_is]
  simp only [Try.ntmps34, ez, Nat.reduceAdd, Nat.reduceSub]
  repeat (first | refine Walk.cx ?_ | (refine Walk.cReg ?_; simp only [z34]) | (refine Walk.oq ?_; try walk_nrm) | (refine Walk.un ?_; walk_nrm))
  (refine Walk.oa ?_; try walk_nrm)
  (refine Walk.oa ?_; try walk_nrm)
  have hA1 : ((K.w e).alloc (.cells #[.int .i64 ok, .int .i64 oa, .int .i64 ob, .int .i64 oc] 47)).heap.size = (K.w e).heap.size + 1 := by simp
  have c1 : (((K.w e).alloc (.cells #[.int .i64 ok, .int .i64 oa, .int .i64 ob, .int .i64 oc] 47)).alloc (.cells #[.bool false, .int .i64 0, .slice none 0 0] 44)).heap[(K.w e).heap.size]? = some (.cells #[.int .i64 ok, .int .i64 oa, .int .i64 ob, .int .i64 oc] 47) := by
    rw [heap_new_lt _ _ (by omega)]
    exact heap_alloc_new _ _
  have c2 : (((K.w e).alloc (.cells #[.int .i64 ok, .int .i64 oa, .int .i64 ob, .int .i64 oc] 47)).alloc (.cells #[.bool false, .int .i64 0, .slice none 0 0] 44)).heap[(K.w e).heap.size + 1]? = some (.cells #[.bool false, .int .i64 0, .slice none 0 0] 44) := by
    have := heap_alloc_new ((K.w e).alloc (.cells #[.int .i64 ok, .int .i64 oa, .int .i64 ob, .int .i64 oc] 47)) (.cells #[.bool false, .int .i64 0, .slice none 0 0] 44)
    rwa [hA1] at this
  have hs2 : (((K.w e).alloc (.cells #[.int .i64 ok, .int .i64 oa, .int .i64 ob, .int .i64 oc] 47)).alloc (.cells #[.bool false, .int .i64 0, .slice none 0 0] 44)).heap.size = (K.w e).heap.size + 2 := by simp
  obtain ⟨e1, m1⟩ := K.grow e (w' := ((K.w e).alloc (.cells #[.int .i64 ok, .int .i64 oa, .int .i64 ob, .int .i64 oc] 47)).alloc (.cells #[.bool false, .int .i64 0, .slice none 0 0] 44)) (by omega) (fun b hb' => by
    rw [heap_new_lt _ _ (by omega)]
    exact heap_new_lt _ _ hb')
  try simp only [hA1]
  generalize hw2 : ((K.w e).alloc (.cells #[.int .i64 ok, .int .i64 oa, .int .i64 ob, .int .i64 oc] 47)).alloc (.cells #[.bool false, .int .i64 0, .slice none 0 0] 44) = w2 at *
  generalize hN : (K.w e).heap.size = N at *
  have hmn : K.mine e1 (N + 1) := m1.new (by omega) (by omega)
  have ht1 : K.tgt e1 = sqEnter (K.s e1) th ⟨ok, oa, ob, oc⟩ := by rw [m1.tgt, m1.s]; exact ht
  have d0 := (cell_of c1 0).trans rfl
  have d1 := (cell_of c1 1).trans rfl
  have hw1 := m1.w
  refine LW.to (l := fr :: l) m1 ?_
  unfold LW
  clear hw2 m1 ht hww
  subst hw1
  have hapN := (K.mineA e1 _ hmn).1
  repeat (first | refine Walk.cx ?_ | (refine Walk.cReg ?_; simp only [z34]) | (refine Walk.oq ?_; try walk_nrm) | (refine Walk.un ?_; walk_nrm))
  by_cases h1 : ok = 1
  · subst h1
    have ht3 : K.tgt e1 = (K.s e1, .inr (.w1 false (sqTr oa) (sqVal ⟨1, oa, ob, oc⟩))) := ht1
    repeat (first | refine Walk.cx ?_ | (refine Walk.cReg ?_; simp only [z34]) | (refine Walk.oq ?_; try walk_nrm) | (refine Walk.un ?_; walk_nrm))
    refine doW_reg K ⟨1, oa, ob, oc⟩ N (N + 1) hp hl e1 _ (by simp only [tmD]; rfl) c1 hmn c2 ht3 _ ?_
    intro u e2 b ht4 hm2 hb2
    simp only [tmD]
    repeat (first | refine Walk.cx ?_ | (refine Walk.cReg ?_; simp only [z34]) | (refine Walk.oq ?_; try walk_nrm) | (refine Walk.un ?_; walk_nrm))
    exact cell_back K (a := ⟨b, 0, []⟩) (sl := .slice none 0 0) hm2 hb2 ht4 (.inl ⟨rfl, rfl⟩) (fun e' h h' => hk _ e' ⟨_, _, h, rfl, h', by simp⟩) Try.func34 rfl ⟨rfl, rfl, rfl, rfl, rfl⟩
  have hbk1 : (ok == 1) = false := by simp [h1]
  simp only [hbk1]
  repeat (first | refine Walk.cx ?_ | (refine Walk.cReg ?_; simp only [z34]) | (refine Walk.oq ?_; try walk_nrm) | (refine Walk.un ?_; walk_nrm))
  by_cases h2 : ok = 2
  · subst h2
    have ht3 : K.tgt e1 = (K.s e1, .inr (.w1 true (sqTr oa) (sqVal ⟨2, oa, ob, oc⟩))) := ht1
    repeat (first | refine Walk.cx ?_ | (refine Walk.cReg ?_; simp only [z34]) | (refine Walk.oq ?_; try walk_nrm) | (refine Walk.un ?_; walk_nrm))
    refine doA_reg K ⟨2, oa, ob, oc⟩ N (N + 1) hp hl e1 _ (by simp only [tmD]; rfl) c1 hmn c2 ht3 _ ?_
    intro u e2 b ht4 hm2 hb2
    simp only [tmD]
    repeat (first | refine Walk.cx ?_ | (refine Walk.cReg ?_; simp only [z34]) | (refine Walk.oq ?_; try walk_nrm) | (refine Walk.un ?_; walk_nrm))
    exact cell_back K (a := ⟨b, 0, []⟩) (sl := .slice none 0 0) hm2 hb2 ht4 (.inl ⟨rfl, rfl⟩) (fun e' h h' => hk _ e' ⟨_, _, h, rfl, h', by simp⟩) Try.func34 rfl ⟨rfl, rfl, rfl, rfl, rfl⟩
  have hbk2 : (ok == 2) = false := by simp [h2]
  simp only [hbk2]
  repeat (first | refine Walk.cx ?_ | (refine Walk.cReg ?_; simp only [z34]) | (refine Walk.oq ?_; try walk_nrm) | (refine Walk.un ?_; walk_nrm))
  by_cases h3 : ok = 3
  · subst h3
    have ht3 : K.tgt e1 = (K.s e1, .inr (.r1 (sqTr oa))) := ht1
    repeat (first | refine Walk.cx ?_ | (refine Walk.cReg ?_; simp only [z34]) | (refine Walk.oq ?_; try walk_nrm) | (refine Walk.un ?_; walk_nrm))
    have hg := SCall.fz K (read_s (Fz K e1) (fz0 K e1) oa ht3)
    refine LW.callS (K := K.toLb) (e := e1) (l := fr :: l) (f := 25) (Q := fun x e' => ∃ h : Kept K e1 e', ReadOut (Fz K e1) x ⟨e', h⟩) ?_ (ho_of (by conv => lhs; whnf) (by kernel_rfl)) (by rfl) (by decide) rfl Try.func25 (by kernel_rfl) (by rfl) ⟨rfl, rfl, _, Try.func34⟩ (plain_cons hp hl) ?_
    · walk_nrm
      exact hg
    rintro x e2 ⟨hkept, sl, b, ls, rfl, hls, hln, ht4⟩
    replace ht4 : K.tgt e2 = (K.s e2, .inl ⟨b, 0, ls⟩) := ht4
    have hls2 : ListOK K e2 sl ls := by
      rcases hls with h | ⟨B, h1, h2, h3⟩
      · exact .inl h
      · exact .inr ⟨B, h1, h2.1, h3⟩
    obtain ⟨hm2, hb2⟩ := hkept (N + 1) hmn
    rw [c2] at hb2
    have hap2 := (K.mineA e2 _ hm2).1
    have hcb := fun fr' hfr => cell_back K (F := 34) (fr := fr') (c := fr) (l := l) (a := ⟨b, 0, ls⟩) (sl := sl) hm2 hb2 ht4 hls2 (fun e' h h' => hk _ e' ⟨_, _, h, rfl, h', hln⟩) Try.func34 rfl hfr
    obtain ⟨sa, sc, rfl⟩ : ∃ sa sc, sl = .slice sa ls.length sc := by
      obtain ⟨x, y, h, _⟩ := hls2.lsR
      exact ⟨x, y, h⟩
    clear hg hls hls2 ht4
    unfold LW
    walk_nrm
    repeat (first | refine Walk.cx ?_ | (refine Walk.cReg ?_; simp only [z34]) | (refine Walk.oq ?_; try walk_nrm) | (refine Walk.un ?_; walk_nrm))
    refine Walk.storeS 44 (.tmp 8) (.tmp 49) (ho_of (by conv => lhs; whnf) (by kernel_rfl)) (by rfl) (by decide) rfl (N + 1) #[.bool b, .int .i64 0, .slice sa ls.length sc] _ 44 rfl rfl hb2 (by kernel_rfl) (by rfl) (by simp [Value.oneCell']) hap2 ?_
    walk_nrm
    repeat (first | refine Walk.cx ?_ | (refine Walk.cReg ?_; simp only [z34]) | (refine Walk.oq ?_; try walk_nrm) | (refine Walk.un ?_; walk_nrm))
    exact hcb _ ⟨rfl, rfl, rfl, rfl, rfl⟩
  have hbk3 : (ok == 3) = false := by simp [h3]
  simp only [hbk3]
  repeat (first | refine Walk.cx ?_ | (refine Walk.cReg ?_; simp only [z34]) | (refine Walk.oq ?_; try walk_nrm) | (refine Walk.un ?_; walk_nrm))
  by_cases h4 : ok = 4
  · subst h4
    have ht3 : K.tgt e1 = (K.s e1, .inr (.q 0 [])) := ht1
    repeat (first | refine Walk.cx ?_ | (refine Walk.cReg ?_; simp only [z34]) | (refine Walk.oq ?_; try walk_nrm) | (refine Walk.un ?_; walk_nrm))
    have hg := SCall.fz K (raw_s (Fz K e1) (fun i l => if i = k + 1 then .inl ⟨true, 0, l⟩ else .inr (.q i l)) .q (fun i l hi => if_neg (by omega)) (fun s i l hi => by
      show (s, if i = k then _ else _) = _
      by_cases h : i = k
      · rw [if_pos h, if_pos (by omega)]
      · rw [if_neg h, if_neg (by omega)]) (fz0 K e1) (ht3.trans (by rw [if_neg (by omega)]; rfl)))
    refine LW.callS (K := K.toLb) (e := e1) (l := fr :: l) (f := 31) (Q := fun x e' => ∃ h : Kept K e1 e', RawOut (Fz K e1) (fun i l => if i = k + 1 then .inl ⟨true, 0, l⟩ else .inr (.q i l)) x ⟨e', h⟩) ?_ (ho_of (by conv => lhs; whnf) (by kernel_rfl)) (by rfl) (by decide) rfl Try.func31 (by kernel_rfl) (by rfl) ⟨rfl, rfl, _, Try.func34⟩ (plain_cons hp hl) ?_
    · walk_nrm
      exact hg
    rintro x e2 ⟨hkept, B, ls, rfl, hlen, hmB, hNB, ht4⟩
    replace ht4 : K.tgt e2 = (K.s e2, .inl ⟨true, 0, ls⟩) := by
      refine Eq.trans ht4 (Prod.ext rfl ?_)
      exact if_pos rfl
    obtain ⟨hm2, hb2⟩ := hkept (N + 1) hmn
    rw [c2] at hb2
    have hap2 := (K.mineA e2 _ hm2).1
    have hcb := fun fr' hfr => cell_back K (F := 34) (fr := fr') (c := fr) (l := l) (a := ⟨true, 0, ls⟩) (sl := .slice (some ⟨B, 0, none⟩) (k + 1) (k + 1)) hm2 hb2 ht4 (.inr ⟨B, by rw [hlen], hmB.1, hNB⟩) (fun e' h h' => hk _ e' ⟨_, _, h, rfl, h', by show ls.length ≤ 16; omega⟩) Try.func34 rfl hfr
    clear hg hNB ht4
    unfold LW
    walk_nrm
    repeat (first | refine Walk.cx ?_ | (refine Walk.cReg ?_; simp only [z34]) | (refine Walk.oq ?_; try walk_nrm) | (refine Walk.un ?_; walk_nrm))
    refine Walk.storeS 44 (.tmp 8) (.tmp 55) (ho_of (by conv => lhs; whnf) (by kernel_rfl)) (by rfl) (by decide) rfl (N + 1) #[.bool true, .int .i64 0, .slice (some ⟨B, 0, none⟩) (k + 1) (k + 1)] _ 44 rfl rfl hb2 (by kernel_rfl) (by rfl) (by simp [Value.oneCell']) hap2 ?_
    walk_nrm
    repeat (first | refine Walk.cx ?_ | (refine Walk.cReg ?_; simp only [z34]) | (refine Walk.oq ?_; try walk_nrm) | (refine Walk.un ?_; walk_nrm))
    exact hcb _ ⟨rfl, rfl, rfl, rfl, rfl⟩
  have hbk4 : (ok == 4) = false := by simp [h4]
  simp only [hbk4]
  repeat (first | refine Walk.cx ?_ | (refine Walk.cReg ?_; simp only [z34]) | (refine Walk.oq ?_; try walk_nrm) | (refine Walk.un ?_; walk_nrm))
  by_cases h5 : ok = 5
  · subst h5
    have ht3 : K.tgt e1 = (K.s e1, .inr (.n1 oa)) := ht1
    repeat (first | refine Walk.cx ?_ | (refine Walk.cReg ?_; simp only [z34]) | (refine Walk.oq ?_; try walk_nrm) | (refine Walk.un ?_; walk_nrm))
    have hg := SCall.fz K (newer_s (Fz K e1) (fz0 K e1) oa ht3)
    refine LW.callS (K := K.toLb) (e := e1) (l := fr :: l) (f := 30) (Q := fun x e' => ∃ h : Kept K e1 e', NewerOut (Fz K e1) x ⟨e', h⟩) ?_ (ho_of (by conv => lhs; whnf) (by kernel_rfl)) (by rfl) (by decide) rfl Try.func30 (by kernel_rfl) (by rfl) ⟨rfl, rfl, _, Try.func34⟩ (plain_cons hp hl) ?_
    · walk_nrm
      exact hg
    rintro x e2 ⟨hkept, b, y, rfl, ht4⟩
    replace ht4 : K.tgt e2 = (K.s e2, .inl ⟨b, y, []⟩) := ht4
    obtain ⟨hm2, hb2⟩ := hkept (N + 1) hmn
    rw [c2] at hb2
    have hap2 := (K.mineA e2 _ hm2).1
    clear hg
    unfold LW
    walk_nrm
    repeat (first | refine Walk.cx ?_ | (refine Walk.cReg ?_; simp only [z34]) | (refine Walk.oq ?_; try walk_nrm) | (refine Walk.un ?_; walk_nrm))
    refine Walk.storeS 44 (.tmp 8) (.tmp 68) (ho_of (by conv => lhs; whnf) (by kernel_rfl)) (by rfl) (by decide) rfl (N + 1) #[.bool b, .int .i64 y, .slice none 0 0] _ 44 rfl rfl hb2 (by kernel_rfl) (by rfl) (by simp [Value.oneCell']) hap2 ?_
    walk_nrm
    repeat (first | refine Walk.cx ?_ | (refine Walk.cReg ?_; simp only [z34]) | (refine Walk.oq ?_; try walk_nrm) | (refine Walk.un ?_; walk_nrm))
    exact cell_back K (a := ⟨b, y, []⟩) (sl := .slice none 0 0) hm2 hb2 ht4 (.inl ⟨rfl, rfl⟩) (fun e' h h' => hk _ e' ⟨_, _, h, rfl, h', by simp⟩) Try.func34 rfl ⟨rfl, rfl, rfl, rfl, rfl⟩
  have hbk5 : (ok == 5) = false := by simp [h5]
  simp only [hbk5]
  repeat (first | refine Walk.cx ?_ | (refine Walk.cReg ?_; simp only [z34]) | (refine Walk.oq ?_; try walk_nrm) | (refine Walk.un ?_; walk_nrm))
  have ht3 : K.tgt e1 = (K.s e1, .inl aNo) := ht1.trans (sqEnter_no _ _ _ h1 h2 h3 h4 h5)
  repeat (first | refine Walk.cx ?_ | (refine Walk.cReg ?_; simp only [z34]) | (refine Walk.oq ?_; try walk_nrm) | (refine Walk.un ?_; walk_nrm))
  refine Walk.storeS 44 (.tmp 8) (.tmp 69) (ho_of (by conv => lhs; whnf) (by kernel_rfl)) (by rfl) (by decide) rfl (N + 1) #[.bool false, .int .i64 0, .slice none 0 0] _ 44 rfl rfl c2 (by kernel_rfl) (by rfl) (by simp [Value.oneCell']) hapN ?_
  walk_nrm
  repeat (first | refine Walk.cx ?_ | (refine Walk.cReg ?_; simp only [z34]) | (refine Walk.oq ?_; try walk_nrm) | (refine Walk.un ?_; walk_nrm))
  exact cell_back K (a := aNo) (sl := .slice none 0 0) hmn c2 ht3 (.inl ⟨rfl, rfl⟩) (fun e' h h' => hk _ e' ⟨_, _, h, rfl, h', by simp [aNo]⟩) Try.func34 rfl ⟨rfl, rfl, rfl, rfl, rfl⟩
theorem qdo_ok : DoFn (sqLa lb k) 34 #[.pointer (some ⟨lb, 0, none⟩)] #[] :=
  ⟨⟨_, Try.func34, by kernel_rfl, by rfl⟩, fun sv K e th op ht => (qdo_s K e th op.k op.a op.b op.c ht).mono fun v e' ⟨a, sl, h1, h2, h3, h4⟩ => ⟨a, sl, h1, h2, h3.lsR, by omega⟩⟩
end
end
section
def runN (L : La) : Nat → L.Sg × (Ans ⊕ L.D) → Option (L.Sg × Ans)
  | _, (s, .inl a) => some (s, a)
  | 0, (_, .inr _) => none
  | n + 1, (s, .inr d) => runN L n (L.act s d)
theorem runN_inl (L : La) (n : Nat) (s : L.Sg) (a : Ans) : runN L n (s, .inl a) = some (s, a) := by cases n <;> rfl
theorem undStepperN : ∃ ms, Try.prog.underlying 90 = some (.interface ms) := by
  have h : (match Try.prog.underlying 90 with | some (.interface _) => true | _ => false) = true := by kernel_rfl
  revert h
  cases Try.prog.underlying 90 with
  | none => simp
  | some d =>
    cases d with
    | interface fs => exact fun _ => ⟨fs, rfl⟩
    | _ => simp
structure NilE (L : La) (y0 : L.Gh) (base : World) (R : L.Sg × Ans) where
  w : World
  y : L.Gh
  s : L.Sg
  tgt : L.Sg × (Ans ⊕ L.D)
  fuel : Nat
  le : L.le y0 y
  inv : L.I y s w
  size : base.heap.size ≤ w.heap.size
  old : ∀ b, b < base.heap.size → ¬ L.sh y0 b → w.heap[b]? = base.heap[b]?
  pub : ∀ b, L.sh y b → b < base.heap.size → L.sh y0 b
  run : runN L fuel tgt = some R
section
variable {L : La} {main : Bool} {V : Nat → Option Wait} {Stop : Goroutine → World → Prop} {cs : List Frame} {y0 : L.Gh} {base : World} {R : L.Sg × Ans}
def nilB (main : Bool) (V : Nat → Option Wait) (Stop : Goroutine → World → Prop) (cs : List Frame) (y0 : L.Gh) (base : World) (R : L.Sg × Ans) : Lb L where
  main := main
  E := NilE L y0 base R
  V := fun _ => V
  Stop := fun _ => Stop
  bot := fun _ => cs
  w := fun e => e.w
  s := fun e => e.s
  gh := fun e => e.y
  tgt := fun e => e.tgt
  fuel := fun e => e.fuel
  mine := fun e b => (base.heap.size ≤ b ∧ b < e.w.heap.size) ∧ ¬ L.sh e.y b
theorem nil_step (e : NilE L y0 base R) (d : L.D) (ht : e.tgt = (e.s, .inr d)) (fr : Frame) (l : List Frame) (hk : ∀ e' : NilE L y0 base R, Aft (nilB main V Stop cs y0 base R) e d e' → LW (nilB main V Stop cs y0 base R) e' (G (fr.finish (.tuple #[])) (l ++ cs))) :
    LW (nilB main V Stop cs y0 base R) e (G (Frame.enter Try.prog 56 #[.nilIface] .normal) (fr :: (l ++ cs))) := by
  obtain ⟨ms, hu⟩ := undStepperN
  have hn1 := fun w => run_neq_nilIface (P := Try.prog) (w := w) 90 hu
  have hn2 := fun w es => ev_neq_nilIface (P := Try.prog) (w := w) 90 es hu
  obtain ⟨n, hn, hr⟩ : ∃ n, e.fuel = n + 1 ∧ runN L n (L.act e.s d) = some R := by
    have h := e.run
    rw [ht] at h
    cases hf : e.fuel with
    | zero => rw [hf] at h; cases h
    | succ n => rw [hf] at h; exact ⟨n, rfl, h⟩
  have hh := hk { w := e.w, y := e.y, s := e.s, tgt := L.act e.s d, fuel := n, le := e.le, inv := e.inv, size := e.size, old := e.old, pub := e.pub, run := hr } ⟨rfl, show n < e.fuel by omega, L.refl _, Nat.le_refl _, fun b h => ⟨h, rfl⟩⟩
  unfold LW at hh ⊢
  show Walk Try.prog main (DR V) Stop _ e.w
  replace hh : Walk Try.prog main (DR V) Stop (G (fr.finish (.tuple #[])) (l ++ cs)) e.w := hh
  rw [enter_at _ Try.func56 code56_is]
  simp only [Try.ntmps56, ez, Nat.reduceAdd, Nat.reduceSub]
  repeat (first | refine Walk.cx ?_ | (refine Walk.cReg ?_; simp only [z56]) | (refine Walk.oq ?_; try walk_nrm) | (refine Walk.un ?_; walk_nrm))
  exact Walk.on0 rfl rfl Try.func56 rfl hh
theorem nil_mine {y0 y' : L.Gh} {base : World} {e : NilE L y0 base R} {w' : World} {b : Nat} (hle : L.le e.y y') (hs : e.w.heap.size ≤ w'.heap.size) : ((base.heap.size ≤ b ∧ b < w'.heap.size) ∧ ¬ L.sh y' b) ↔ ((((base.heap.size ≤ b ∧ b < e.w.heap.size) ∧ ¬ L.sh e.y b) ∨ (e.w.heap.size ≤ b ∧ b < w'.heap.size)) ∧ ¬ L.sh y' b) := by
  have := e.size
  constructor
  · rintro ⟨⟨a, b'⟩, hn⟩
    refine ⟨?_, hn⟩
    by_cases hb : b < e.w.heap.size
    · exact .inl ⟨⟨a, hb⟩, fun h => hn (L.mono hle h)⟩
    · exact .inr ⟨by omega, b'⟩
  · rintro ⟨⟨⟨a, b'⟩, _⟩ | ⟨a, b'⟩, hn⟩
    · exact ⟨⟨a, by omega⟩, hn⟩
    · exact ⟨⟨by omega, b'⟩, hn⟩
def nilL (hA : ∀ b, Apart V b) (main : Bool) (Stop : Goroutine → World → Prop) (cs : List Frame) (y0 : L.Gh) (base : World) (R : L.Sg × Ans) : Lg L .nilIface where
  toLb := nilB main V Stop cs y0 base R
  one := rfl
  inv := fun e => e.inv
  shA := fun _ b _ => hA b
  mineA := fun e b h => ⟨hA b, h.2, h.1.2⟩
  newA := fun _ b _ => hA b
  mg := fun e y' s' w' h0 h1 h2 h3 h4 => ⟨{ w := w', y := y', s := s', tgt := e.tgt, fuel := e.fuel, le := L.trans e.le h0, inv := h3, size := Nat.le_trans e.size h1, old := fun b hb hs => (h2 b (Nat.lt_of_lt_of_le hb e.size) (fun hm => by have := hm.1.1; omega) (fun hm => hs (e.pub b hm hb))).trans (e.old b hb hs), pub := fun b hb hlt => (h4 b hb).elim (fun h => e.pub b h hlt) fun h => h.elim (fun h => absurd h.1.1 (Nat.not_le_of_lt hlt)) fun h => absurd (Nat.le_trans e.size h) (Nat.not_le_of_lt hlt), run := e.run }, rfl, rfl, rfl, rfl, rfl, rfl, rfl, rfl, fun b => nil_mine h0 h1⟩
  step := fun e d ht fr l _ _ hk => nil_step e d ht fr l hk
structure Lone (L : La) (y0 : L.Gh) (w : World) (R : L.Sg × Ans) (w' : World) (y : L.Gh) : Prop where
  le : L.le y0 y
  I : L.I y R.1 w'
  size : w.heap.size ≤ w'.heap.size
  old : ∀ b, b < w.heap.size → ¬ L.sh y0 b → w'.heap[b]? = w.heap[b]?
  pub : ∀ b, L.sh y b → b < w.heap.size → L.sh y0 b
variable {b : Frame} {a : Act} {k : List Item} {ops : Array Oper} {i : Nat} {rest : List Nat} {o : Oper} {w : World}
theorem Walk.callLone {f : FuncId} {fn : Func} {args : Array Operand} {ats : Array TypeId} {Rel : Value → Ans → World → (Nat → Prop) → Prop} (N : Nat) (y0 : L.Gh) (s : L.Sg) (r0 : Ans ⊕ L.D) (hA : ∀ b, Apart V b) (hI : L.I y0 s w) (hrun : runN L N (s, r0) = some R)
    (hc : ∀ (K : Lg L .nilIface) (e : K.E), K.tgt e = (K.s e, r0) → SCall K.toLb f (args.map a.eval) e (fun v e' => ∃ x, Rel v x (K.w e') (K.mine e') ∧ K.tgt e' = (K.s e', .inl x)))
    (ho : ops[i]? = some o) (hw : Region.wanted o (yielded ops a.tmps) = true) (hk : b.kind ≠ .early) (hop : o.op = .call { callee := .value (.func f), args, argTypes := ats })
    (hf : Try.prog.funcs[f]? = some fn) (hname : (fn.name == "runtime.NumGoroutine") = false) (hb : fn.body.isNone = false) (hp : Plain (b.at a (.inRegion ops (i :: rest) :: k)))
    (h : ∀ v w' y, Rel v R.2 w' (fun b => (w.heap.size ≤ b ∧ b < w'.heap.size) ∧ ¬ L.sh y b) → Lone L y0 w R w' y → Walk Try.prog main (DR V) Stop (G (b.at (a.put o.dst v) (.inRegion ops rest :: k)) cs) w') :
    Walk Try.prog main (DR V) Stop (G (b.at a (.inRegion ops (i :: rest) :: k)) cs) w := by
  refine Walk.callE ho hw hk hop hf hname hb ?_
  have key := hc (nilL (V := V) hA main Stop cs y0 w R) { w := w, y := y0, s := s, tgt := (s, r0), fuel := N, le := L.refl _, inv := hI, size := Nat.le_refl _, old := fun _ _ _ => rfl, pub := fun _ h _ => h, run := hrun } rfl (b.at a (.inRegion ops (i :: rest) :: k)) [] hp (fun _ h => by cases h) ?_
  · exact key
  · rintro v e' ⟨x, hr, ht⟩
    have hrn := e'.run
    have ht : e'.tgt = (e'.s, .inl x) := ht
    rw [ht, runN_inl] at hrn
    have hR := Option.some.inj hrn
    have r1 : R.1 = e'.s := (congrArg Prod.fst hR).symm
    have r2 : R.2 = x := (congrArg Prod.snd hR).symm
    have := h v e'.w e'.y (by rw [r2]; exact hr) ⟨e'.le, by rw [r1]; exact e'.inv, e'.size, e'.old, e'.pub⟩
    rw [Frame.finish_at, ho]
    exact this
end
end
section
section
variable {main : Bool} {V : Nat → Option Wait}
theorem step_nil (w : World) : CallV Try.prog main V 56 #[.nilIface] w (.tuple #[]) w := by
  obtain ⟨ms, hu⟩ := undStepperN
  have hn1 := fun w => run_neq_nilIface (P := Try.prog) (w := w) 90 hu
  have hn2 := fun w es => ev_neq_nilIface (P := Try.prog) (w := w) 90 es hu
  refine callW_in Try.func56 code56_is fun fr cs => ?_
  simp only [Try.ntmps56, ez, Nat.reduceAdd, Nat.reduceSub]
  repeat (first | refine Walk.cx ?_ | (refine Walk.cReg ?_; simp only [z56]) | (refine Walk.oq ?_; try walk_nrm) | (refine Walk.un ?_; walk_nrm))
  exact Walk.ret0 rfl rfl Try.func56 rfl fun d => ⟨rfl, d, rfl⟩
theorem store_nil (b q : Nat) (u : Value) (v : Int) (w : World) (hc : w.cell? ⟨b, q, none⟩ = some u) (hz : w.frozen? ⟨b, q, none⟩ = false) (hf : Free V ⟨b, q, none⟩) : CallV Try.prog main V 39 #[.pointer (some ⟨b, q, none⟩), .nilIface, .int .i64 v] w (.tuple #[]) (w.setCell ⟨b, q, none⟩ (.int .i64 v)) := by
  have hp1 := fun w => run_eql_ptr (P := Try.prog) 93 undWord (some ⟨b, q, none⟩) w
  have hp2 := fun w es => ev_eql_ptr (P := Try.prog) 93 undWord (some ⟨b, q, none⟩) w es
  simp only [Option.isNone_some] at hp1
  refine callW_in Try.func39 code39_is fun fr cs => ?_
  simp only [Try.ntmps39, ez, Nat.reduceAdd, Nat.reduceSub]
  repeat (first | refine Walk.cx ?_ | (refine Walk.cReg ?_; simp only [z39]) | (refine Walk.oq ?_; try walk_nrm) | (refine Walk.un ?_; walk_nrm))
  refine Walk.callV (x := .tuple #[]) (W := w) ?_ (ho_of (by conv => lhs; whnf) (by kernel_rfl)) (by rfl) (by decide) rfl Try.func56 (by kernel_rfl) (by rfl) ?_
  · walk_nrm
    exact step_nil w
  walk_nrm
  repeat (first | refine Walk.cx ?_ | (refine Walk.cReg ?_; simp only [z39]) | (refine Walk.oq ?_; try walk_nrm) | (refine Walk.un ?_; walk_nrm))
  refine Walk.callV (x := .tuple #[]) (W := w.setCell ⟨b, q, none⟩ (.int .i64 v)) ?_ (ho_of (by conv => lhs; whnf) (by kernel_rfl)) (by rfl) (by decide) rfl Try.func57 (by kernel_rfl) (by rfl) ?_
  · walk_nrm
    exact atStore b q u v w hc hz hf
  walk_nrm
  repeat (first | refine Walk.cx ?_ | (refine Walk.cReg ?_; simp only [z39]) | (refine Walk.oq ?_; try walk_nrm) | (refine Walk.un ?_; walk_nrm))
  exact Walk.ret0 rfl rfl Try.func39 rfl fun d => ⟨rfl, d, rfl⟩
end
end
section
noncomputable def reg16_0 := rg Try.f16.body [0]
noncomputable def reg16_1 := rg Try.f16.body [1, 0]
noncomputable def reg16_2 := rg Try.f16.body [1, 1, 0, 0]
noncomputable def reg16_3 := rg Try.f16.body [1, 1, 0, 1, 0, 0, 0]
noncomputable def reg16_4 := rg Try.f16.body [1, 1, 0, 1, 0, 0, 1, 1, 0, 0, 0]
noncomputable def reg16_5 := rg Try.f16.body [1, 1, 0, 1, 0, 0, 1, 1, 0, 0, 1]
noncomputable def reg16_6 := rg Try.f16.body [1, 1, 0, 1, 0, 0, 1, 1, 1]
noncomputable def reg16_7 := rg Try.f16.body [1, 1, 1, 0]
theorem z16 : List.range reg16_0.size = [0] ∧ List.range reg16_1.size = [0, 1, 2, 3, 4, 5, 6, 7] ∧ List.range reg16_2.size = [0, 1, 2, 3, 4] ∧ List.range reg16_3.size = [0] ∧ List.range reg16_4.size = [0, 1, 2, 3, 4] ∧ List.range reg16_5.size = [0, 1, 2, 3, 4, 5, 6] ∧ List.range reg16_6.size = [0, 1] ∧ List.range reg16_7.size = [0, 1] := by refine ⟨?_, ?_, ?_, ?_, ?_, ?_, ?_, ?_⟩ <;> kernel_rfl
theorem code16_is : Try.f16.body = some (.seq (.region 0 reg16_0 false) (.seq (.region 1 reg16_1 false) (.seq (.seq (.region 2 reg16_2 false) (.block 0 (.loop (.seq (.region 3 reg16_3 false) (.seq (.cond (.tmp 18 ) (.skip) (.exit 0)) (.seq (.block 1 (.seq (.region 4 reg16_4 false) (.region 5 reg16_5 false))) (.region 6 reg16_6 false))))))) (.seq (.region 7 reg16_7 false) (.ret))))) := by kernel_rfl
noncomputable def hdNw (N B n j : Nat) (u : Nat → Value) : Frame :=
  (base 16).at { tmps := #[u 0, u 1, u 2, .pointer (some ⟨N, 0, none⟩), u 4, u 5, u 6, u 7, u 8, u 9, u 10, u 11, u 12, u 13, u 14, .slice (some ⟨B, 0, none⟩) n n, .int .i64 n, .int .i64 j, u 18, u 19, u 20, u 21, u 22, u 23, u 24, u 25, u 26, u 27, u 28, u 29, u 30], defers := [] } [.code (.seq (.region 3 reg16_3 false) (.seq (.cond (.tmp 18 ) (.skip) (.exit 0)) (.seq (.block 1 (.seq (.region 4 reg16_4 false) (.region 5 reg16_5 false))) (.region 6 reg16_6 false)))), .inLoop (.seq (.region 3 reg16_3 false) (.seq (.cond (.tmp 18 ) (.skip) (.exit 0)) (.seq (.block 1 (.seq (.region 4 reg16_4 false) (.region 5 reg16_5 false))) (.region 6 reg16_6 false)))), .inBlock 0, .code (.seq (.region 7 reg16_7 false) (.ret))]
def sqK (n : Nat) : Nat := min (max n 1) 16 - 1
theorem sqK_le (n : Nat) : sqK n ≤ 15 ∧ ((min (max n 1) 16 : Nat) : Int) = (sqK n : Int) + 1 := by unfold sqK; omega
def sqN (ls : List Int) (j : Nat) : Sq := ⟨0, fun i => if i < j then ls.getD i 0 else 0⟩
theorem sqN_put (ls : List Int) (j : Nat) {z : Int} (hz : ls[j]? = some z) : sqPutW (sqN ls j) j z = sqN ls (j + 1) := by
  unfold sqPutW sqN
  congr 1
  funext i
  by_cases e : i = j
  · subst e
    rw [upd_same, if_pos (by omega), List.getD_eq_getElem?_getD, hz]
    rfl
  · rw [upd_ne _ _ e]
    show (if i < j then ls.getD i 0 else 0) = (if i < j + 1 then ls.getD i 0 else 0)
    by_cases h : i < j
    · rw [if_pos h, if_pos (by omega)]
    · rw [if_neg h, if_neg (by omega)]
section
variable {main : Bool} {V : Nat → Option Wait}
structure NwI (w0 : World) (N B k : Nat) (ls : List Int) (j : Nat) (w : World) : Prop where
  I : SqI N k (sqN ls j) w
  num : NumB w B ls
  old : ∀ b, b < w0.heap.size → w.heap[b]? = w0.heap[b]?
  lo : w0.heap.size = N ∧ N < B ∧ B < w.heap.size
theorem NwI.at {w0 : World} {N B k : Nat} {ls : List Int} {j : Nat} {w : World} (h : NwI w0 N B k ls j w) (d : Nat) : NwI w0 N B k ls j (w.at d) := ⟨h.I.old rfl, h.num, h.old, h.lo⟩
theorem nw_in (w : World) (sl : Value) (vs : List Int) (hl : LsR sl vs w) (hv : vs.length ≤ 17592186044416) (hA : ∀ b, w.heap.size ≤ b → Apart V b) (cs : List Frame) :
    Walk Try.prog main (DR V) (fun g w' => ∃ B, (∃ u, g = G (hdNw w.heap.size B (sqK vs.length + 1) 0 u) cs) ∧ NwI w w.heap.size B (sqK vs.length) (padL (vs.take (sqK vs.length + 1)) (sqK vs.length + 1)) 0 w') (G (Frame.enter Try.prog 16 #[sl] .normal) cs) w := by
  have hls := hl
  obtain ⟨sa, sc, rfl, hc, hnn, hcells⟩ := hl
  obtain ⟨hk15, hkn⟩ := sqK_le vs.length
  have hmx := @events_max_ints Try.prog
  have hmn := @events_min_ints Try.prog
  have hq : min (max (vs.length : Int) 1) 16 = (sqK vs.length : Int) + 1 := by omega
  have hwh := fun w1 s (I : SqI w.heap.size (sqK vs.length) s w1) h1 h2 => whole_w (main := main) (V := V) w1 I (.slice sa vs.length sc) vs h1 h2
  have hpl : (padL (vs.take (sqK vs.length + 1)) (sqK vs.length + 1)).length = sqK vs.length + 1 := padL_len (by simp; omega)
  have hw1 : ∀ k : Nat, k ≤ 15 → IntKind.i64.wrap ((k : Int) + 1 - 1) = (k : Int) := fun k hk => by rw [IntKind.wrap_i64]; omega
  replace hw1 := hw1 _ hk15
  have hw2 : IntKind.i64.wrap (sqK vs.length : Int) = (sqK vs.length : Int) := by rw [IntKind.wrap_i64]; omega
  generalize padL (vs.take (sqK vs.length + 1)) (sqK vs.length + 1) = ls at *
  clear hcells hc hnn hkn hmn
  have hmn := @events_min_ints Try.prog
  generalize sqK vs.length = k at *
  rw [enter_at _ Try.func16 code16_is]
  simp only [Try.ntmps16, ez, Nat.reduceAdd, Nat.reduceSub]
  repeat (first | refine Walk.cx ?_ | (refine Walk.cReg ?_; simp only [z16]) | (refine Walk.oq ?_; try walk_nrm) | (refine Walk.un ?_; walk_nrm))
  (refine Walk.oa ?_; try walk_nrm)
  have d1 := heap_alloc_new w (.cells #[.int .i64 0, .int .i64 0, .int .i64 0, .int .i64 0, .int .i64 0, .int .i64 0, .int .i64 0, .int .i64 0, .int .i64 0, .int .i64 0, .int .i64 0, .int .i64 0, .int .i64 0, .int .i64 0, .int .i64 0, .int .i64 0, .int .i64 0, .int .i64 k] 75)
  have s1 : (w.alloc (.cells #[.int .i64 0, .int .i64 0, .int .i64 0, .int .i64 0, .int .i64 0, .int .i64 0, .int .i64 0, .int .i64 0, .int .i64 0, .int .i64 0, .int .i64 0, .int .i64 0, .int .i64 0, .int .i64 0, .int .i64 0, .int .i64 0, .int .i64 0, .int .i64 k] 75)).heap.size = w.heap.size + 1 := by simp
  have o1 : ∀ b, b < w.heap.size → (w.alloc (.cells #[.int .i64 0, .int .i64 0, .int .i64 0, .int .i64 0, .int .i64 0, .int .i64 0, .int .i64 0, .int .i64 0, .int .i64 0, .int .i64 0, .int .i64 0, .int .i64 0, .int .i64 0, .int .i64 0, .int .i64 0, .int .i64 0, .int .i64 0, .int .i64 k] 75)).heap[b]? = w.heap[b]? := fun b hb => heap_new_lt _ _ hb
  have hls1 := hls.same o1
  generalize w.alloc (.cells #[.int .i64 0, .int .i64 0, .int .i64 0, .int .i64 0, .int .i64 0, .int .i64 0, .int .i64 0, .int .i64 0, .int .i64 0, .int .i64 0, .int .i64 0, .int .i64 0, .int .i64 0, .int .i64 0, .int .i64 0, .int .i64 0, .int .i64 0, .int .i64 k] 75) = w1 at *
  have I1 : SqI w.heap.size k (sqN ls 0) w1 := ⟨⟨_, d1, rfl, rfl, fun i hi => by
    have h : i < 16 := by omega
    show _ = some (Value.int .i64 (if i < 0 then ls.getD i 0 else 0))
    rw [if_neg (by omega)]
    match i, h with
    | 0, _ => exact rfl
    | 1, _ => exact rfl
    | 2, _ => exact rfl
    | 3, _ => exact rfl
    | 4, _ => exact rfl
    | 5, _ => exact rfl
    | 6, _ => exact rfl
    | 7, _ => exact rfl
    | 8, _ => exact rfl
    | 9, _ => exact rfl
    | 10, _ => exact rfl
    | 11, _ => exact rfl
    | 12, _ => exact rfl
    | 13, _ => exact rfl
    | 14, _ => exact rfl
    | 15, _ => exact rfl
    | m + 16, h => exact absurd h (by omega), rfl⟩, hk15⟩
  have hwh1 := hwh w1 _ I1 hls1 (fun b hb => hA b (by omega))
  clear hwh hls hls1 hmx hmn hq hw1 hw2
  generalize hN : w.heap.size = N at *
  repeat (first | refine Walk.cx ?_ | (refine Walk.cReg ?_; simp only [z16]) | (refine Walk.oq ?_; try walk_nrm) | (refine Walk.un ?_; walk_nrm))
  refine Walk.callW (Post := NewNum ls w1) ?_ (ho_of (by conv => lhs; whnf) (by kernel_rfl)) (by rfl) (by decide) rfl Try.func38 (by kernel_rfl) (by rfl) ?_
  · walk_nrm
    exact hwh1
  rintro v w2 ⟨B, rfl, hB1, hB2, hN2, hold, hsz⟩
  rw [hpl]
  have I2 : SqI N k (sqN ls 0) w2 := I1.old (hold N (by omega))
  clear hwh1
  walk_nrm
  repeat (first | refine Walk.cx ?_ | (refine Walk.cReg ?_; simp only [z16]) | (refine Walk.oq ?_; try walk_nrm) | (refine Walk.un ?_; walk_nrm))
  refine Walk.ctl rfl (fun w => stepG_loop) ?_
  refine .stop fun d => ⟨B, at_slots ?_, NwI.at ⟨I2, hN2, fun b hb => (hold b (by omega)).trans (o1 b (by omega)), hN, by omega, hB2⟩ d⟩
  simp only [hdNw]
  rfl
theorem nw_go (N B k j : Nat) (ls : List Int) (hlen : ls.length = k + 1) (hj : j < k + 1) (hk15 : k ≤ 15) (u : Nat → Value) (cs : List Frame) (w0 w : World) (M : NwI w0 N B k ls j w) (hA : ∀ b, w0.heap.size ≤ b → Apart V b) :
    Walk Try.prog main (DR V) (fun g w' => (∃ u, g = G (hdNw N B (k + 1) (j + 1) u) cs) ∧ NwI w0 N B k ls (j + 1) w') (G (hdNw N B (k + 1) j u) cs) w := by
  obtain ⟨I, hnum, hold, hlo⟩ := M
  obtain ⟨z, hz⟩ : ∃ z, ls[j]? = some z := ⟨_, List.getElem?_eq_getElem (by omega)⟩
  have cz := hnum.cell hz
  have hjk : j ≤ k := by omega
  obtain ⟨c5, z5⟩ := I.rdW hjk
  have f5 := (hA N (by omega)).1 ⟨N, 1 + j, none⟩ rfl
  have I6 := I.wrW hjk z
  rw [sqN_put ls j hz] at I6
  have hN6 := hnum.same (w' := w.setCell ⟨N, 1 + j, none⟩ (.int .i64 z)) (heap_set_other _ _ _ _ (show B ≠ N by omega))
  have hs6 := size_set w ⟨N, 1 + j, none⟩ (.int .i64 z)
  have o6 : ∀ b, b ≠ N → (w.setCell ⟨N, 1 + j, none⟩ (.int .i64 z)).heap[b]? = w.heap[b]? := fun b hb => heap_set_other _ _ _ _ hb
  have hst := store_nil (main := main) (V := V) N (1 + j) _ z w c5 z5 f5
  have hj6 : j < 16 := by omega
  have hx1 := fun w => (ix_word N j hj6 w #[]).1
  have hx2 := fun w es => (ix_word N j hj6 w es).2
  have hi0 : (0 : Int) ≤ j := by omega
  have hi1 : decide ((j : Int) < ((k + 1 : Nat) : Int)) = true := by simp; omega
  have hi3 : decide (j < k + 1) = true := by simp; omega
  have hi4 : (j : Int) < ((k + 1 : Nat) : Int) := by omega
  have hw1 : IntKind.wrap .i64 ((j : Int) + 1) = ((j + 1 : Nat) : Int) := by rw [IntKind.wrap_i64]; omega
  clear c5 I hlen hjk
  generalize k + 1 = n at *
  unfold hdNw
  repeat (first | refine Walk.cx ?_ | (refine Walk.cReg ?_; simp only [z16]) | (refine Walk.oq ?_; try walk_nrm) | (refine Walk.un ?_; walk_nrm))
  refine Walk.callV (x := .tuple #[]) (W := w.setCell ⟨N, 1 + j, none⟩ (.int .i64 z)) ?_ (ho_of (by conv => lhs; whnf) (by kernel_rfl)) (by rfl) (by decide) rfl Try.func39 (by kernel_rfl) (by rfl) ?_
  · walk_nrm
    exact hst
  clear hst
  generalize w.setCell ⟨N, 1 + j, none⟩ (.int .i64 z) = w6 at *
  walk_nrm
  repeat (first | refine Walk.cx ?_ | (refine Walk.cReg ?_; simp only [z16]) | (refine Walk.oq ?_; try walk_nrm) | (refine Walk.un ?_; walk_nrm))
  refine Walk.ctl rfl (fun w => stepG_inLoop) ?_
  refine .stop fun d => ⟨at_slots ?_, NwI.at ⟨I6, hN6, fun b hb => (o6 b (by omega)).trans (hold b hb), hlo.1, hlo.2.1, by omega⟩ d⟩
  simp only [hdNw]
  rfl
theorem nw_end (N B n : Nat) (u : Nat → Value) (c : Frame) (cs : List Frame) (w : World) :
    Walk Try.prog main (DR V) (fun g w' => g = G (c.finish (.pointer (some ⟨N, 0, none⟩))) cs ∧ ∃ d, w' = w.at d) (G (hdNw N B n n u) (c :: cs)) w := by
  unfold hdNw
  repeat (first | refine Walk.cx ?_ | (refine Walk.cReg ?_; simp only [z16]) | (refine Walk.oq ?_; try walk_nrm) | (refine Walk.un ?_; walk_nrm))
  exact Walk.on1 rfl rfl Try.func16 rfl (.stop fun d => ⟨rfl, d, rfl⟩)
def sq0 (vs : List Int) : Sq := sqN (padL (vs.take (sqK vs.length + 1)) (sqK vs.length + 1)) (sqK vs.length + 1)
theorem new_w (w : World) (sl : Value) (vs : List Int) (hl : LsR sl vs w) (hv : vs.length ≤ 17592186044416) (hA : ∀ b, w.heap.size ≤ b → Apart V b) :
    CallW Try.prog main V 16 #[sl] w (fun v w' => v = .pointer (some ⟨w.heap.size, 0, none⟩) ∧ SqI w.heap.size (sqK vs.length) (sq0 vs) w' ∧ (∀ b, b < w.heap.size → w'.heap[b]? = w.heap[b]?) ∧ w.heap.size < w'.heap.size) := by
  intro c cs
  have hk15 := (sqK_le vs.length).1
  have hpl : (padL (vs.take (sqK vs.length + 1)) (sqK vs.length + 1)).length = sqK vs.length + 1 := padL_len (by simp; omega)
  refine (nw_in w sl vs hl hv hA (c :: cs)).then ?_
  rintro g w1 ⟨B, ⟨u, rfl⟩, M⟩
  unfold sq0
  generalize padL (vs.take (sqK vs.length + 1)) (sqK vs.length + 1) = ls at *
  generalize sqK vs.length = k at *
  have loop : ∀ (r i : Nat) (u : Nat → Value) (w1 : World), i + r = k + 1 → NwI w w.heap.size B k ls i w1 →
      Walk Try.prog main (DR V) (fun g w' => ∃ v, (v = .pointer (some ⟨w.heap.size, 0, none⟩) ∧ SqI w.heap.size k (sqN ls (k + 1)) w' ∧ (∀ b, b < w.heap.size → w'.heap[b]? = w.heap[b]?) ∧ w.heap.size < w'.heap.size) ∧ g = G (c.finish v) cs) (G (hdNw w.heap.size B (k + 1) i u) (c :: cs)) w1 := by
    intro r
    induction r with
    | zero =>
      intro i u w1 hi M
      obtain rfl : i = k + 1 := hi
      refine (nw_end _ _ _ u c cs w1).mono ?_
      rintro g w' ⟨rfl, d, rfl⟩
      exact ⟨_, ⟨rfl, M.I.old rfl, M.old, by have := M.lo; show w.heap.size < w1.heap.size; omega⟩, rfl⟩
    | succ r ih =>
      intro i u w1 hi M
      refine (nw_go _ _ k i ls hpl (by omega) hk15 u (c :: cs) w w1 M hA).then ?_
      rintro g w' ⟨⟨u', rfl⟩, M'⟩
      exact ih (i + 1) u' w' (by omega) M'
  exact loop (k + 1) 0 u w1 (by omega) M
end
end
end Go.Proofs.Ytjenoiekfkhafaa
