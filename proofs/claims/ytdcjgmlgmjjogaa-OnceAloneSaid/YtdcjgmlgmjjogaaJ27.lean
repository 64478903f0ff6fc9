/- Part 27. -/
import Derived.Test.YtdcjgmlgmjjogaaJ20
import Derived.Test.YtdcjgmlgmjjogaaJ26
set_option linter.unusedSimpArgs false
set_option linter.unusedVariables false
set_option maxHeartbeats 8000000
set_option maxRecDepth 100000
namespace Go.Proofs.Ytdcjgmlgmjjogaa
open Go.Conc Go.RowKit Go.Relay
open Go.ConcN (upd upd_ne upd_same)
section
section
variable {cb m : Nat}
theorem call_back {L : La} {sv : Value} (K : Lg L sv) {e2 : K.E} {fr c : Frame} {l : List Frame} {R : Nat} {a : Ans} {w' : World} (hs : (K.w e2).heap.size ≤ w'.heap.size) (hsame : ∀ b, b < (K.w e2).heap.size → ¬ K.mine e2 b → w'.heap[b]? = (K.w e2).heap[b]?)
  (hR : w'.heap[R]? = some (.cells #[.bool a.1, .int .i64 a.2, .slice none 0 0] 51))
  (ht : K.tgt e2 = (K.s e2, .inl a)) (hk : ∀ v e', (∃ a, K.tgt e' = (K.s e', .inl a) ∧ v = ansVal a) → LW K.toLb e' (G (c.finish v) (l ++ K.bot e')))
  (hfr : fr.mode = .returning ∧ fr.kind = .normal ∧ fr.defers = [] ∧ fr.fn = 14 ∧ fr.tmps.getD 6 undef = .pointer (some ⟨R, 0, none⟩)) :
  Walk Try.prog K.main (DR (K.V e2)) (K.Stop e2) (G fr (c :: (l ++ K.bot e2))) w' := by
 obtain ⟨h1, h2, h3, h4, h5⟩ := hfr
 obtain ⟨e3, m⟩ := K.own e2 (w' := w') hs hsame
 refine Walk.onCell (T := R) h1 h2 h3 (by rw [h4]; exact Try.func14) rfl h5 hR (by kernel_rfl) (by kernel_rfl) ?_
 refine LW.to m (hk _ e3 ⟨a, ?_, rfl⟩)
 rw [m.tgt, m.s]
 exact ht
structure AnW {L : La} {sv : Value} (K : Lg L sv) (e : K.E) (A : Nat) (b : Bool) (y : Int) (w : World) : Prop where
 d : w.heap[A]? = some (.cells #[.bool b, .int .i64 y, .slice none 0 0] 51)
 o : ∀ x, x ≠ A → w.heap[x]? = (K.w e).heap[x]?
 z : w.heap.size = (K.w e).heap.size
theorem AnW.set0 {L : La} {sv : Value} {K : Lg L sv} {e : K.E} {A : Nat} {b : Bool} {y : Int} {w : World} (H : AnW K e A b y w) (b2 : Bool) : AnW K e A b2 y (w.setCell ⟨A, 0, none⟩ (.bool b2)) := by
 refine ⟨?_, fun x hx => (heap_set_other _ _ _ _ hx).trans (H.o x hx), (size_set _ _ _).trans H.z⟩
 rw [heap_set_self _ _ H.d]
 simp
theorem AnW.set1 {L : La} {sv : Value} {K : Lg L sv} {e : K.E} {A : Nat} {b : Bool} {y : Int} {w : World} (H : AnW K e A b y w) (y2 : Int) : AnW K e A b y2 (w.setCell ⟨A, 1, none⟩ (.int .i64 y2)) := by
 refine ⟨?_, fun x hx => (heap_set_other _ _ _ _ hx).trans (H.o x hx), (size_set _ _ _).trans H.z⟩
 rw [heap_set_self _ _ H.d]
 simp
theorem call_s {sv : Value} (K : Lg (onLa cb m) sv) (i : Nat) (hi : i < m) (hM : ∀ (N : Nat) (ok oa ob oc : Int) (e1 : K.E), CaB K N i ok oa ob oc e1 → MkOK (Fz K e1) false i ob 43 #[.pointer (some ⟨N, 0, none⟩), .pointer (some ⟨N + 1, 0, none⟩)]) (e : K.E) (ok ob oc : Int) (ht : K.tgt e = onEnter m (K.s e) ⟨ok, (i : Int), ob, oc⟩) :
  SCall K.toLb 14 #[onP cb i, sv, .agg #[.int .i64 ok, .int .i64 i, .int .i64 ob, .int .i64 oc]] e (fun v e' => ∃ a, K.tgt e' = (K.s e', .inl a) ∧ v = ansVal a) := by
 obtain ⟨fsA, huA⟩ := structT 51 (by kernel_rfl)
 have hwm4 : IntKind.wrap .i64 (-4) = -4 := by decide
 have hwm6 : IntKind.wrap .i64 (-6) = -6 := by decide
 intro fr l hp hl hk
 unfold LW
 unfold onP
 rw [enter_at _ Try.func14 code14_is]
 simp only [Try.ntmps14, ez, Nat.reduceAdd, Nat.reduceSub]
 repeat (first | refine Walk.cx ?_ | (refine Walk.cReg ?_; simp only [z14]) | (refine Walk.oq ?_; try walk_nrm) | (refine Walk.un ?_; walk_nrm))
 generalize hN : (K.w e).heap.size = N
 have s0 : (K.w e).heap.size = N := hN
 (refine Walk.oa ?_; try walk_nrm)
 have s1 : ((K.w e).alloc (.cells #[.pointer (some ⟨cb, i * 3, none⟩)] 35)).heap.size = N + 1 := by simp [s0]
 have o1 : ∀ b, b < N → ((K.w e).alloc (.cells #[.pointer (some ⟨cb, i * 3, none⟩)] 35)).heap[b]? = (K.w e).heap[b]? := fun b hb => heap_new_lt _ _ (by omega)
 have d1 : ((K.w e).alloc (.cells #[.pointer (some ⟨cb, i * 3, none⟩)] 35)).heap[N]? = some (.cells #[.pointer (some ⟨cb, i * 3, none⟩)] 35) := s0 ▸ heap_alloc_new (K.w e) (.cells #[.pointer (some ⟨cb, i * 3, none⟩)] 35)
 try simp only [s0]
 change Walk Try.prog K.main _ _ _ ((K.w e).alloc (.cells #[.pointer (some ⟨cb, i * 3, none⟩)] 35))
 generalize (K.w e).alloc (.cells #[.pointer (some ⟨cb, i * 3, none⟩)] 35) = x1 at *
 (refine Walk.oa ?_; try walk_nrm)
 have s2 : (x1.alloc (.cells #[.int .i64 ok, .int .i64 i, .int .i64 ob, .int .i64 oc] 34)).heap.size = N + 2 := by simp [s1]
 have o2 : ∀ b, b < N + 1 → (x1.alloc (.cells #[.int .i64 ok, .int .i64 i, .int .i64 ob, .int .i64 oc] 34)).heap[b]? = x1.heap[b]? := fun b hb => heap_new_lt _ _ (by omega)
 have d2 : (x1.alloc (.cells #[.int .i64 ok, .int .i64 i, .int .i64 ob, .int .i64 oc] 34)).heap[N + 1]? = some (.cells #[.int .i64 ok, .int .i64 i, .int .i64 ob, .int .i64 oc] 34) := s1 ▸ heap_alloc_new x1 (.cells #[.int .i64 ok, .int .i64 i, .int .i64 ob, .int .i64 oc] 34)
 try simp only [s1]
 change Walk Try.prog K.main _ _ _ (x1.alloc (.cells #[.int .i64 ok, .int .i64 i, .int .i64 ob, .int .i64 oc] 34))
 generalize x1.alloc (.cells #[.int .i64 ok, .int .i64 i, .int .i64 ob, .int .i64 oc] 34) = x2 at *
 (refine Walk.oa ?_; try walk_nrm)
 have s3 : (x2.alloc (.cells #[.bool false, .int .i64 0, .slice none 0 0] 51)).heap.size = N + 3 := by simp [s2]
 have o3 : ∀ b, b < N + 2 → (x2.alloc (.cells #[.bool false, .int .i64 0, .slice none 0 0] 51)).heap[b]? = x2.heap[b]? := fun b hb => heap_new_lt _ _ (by omega)
 have d3 : (x2.alloc (.cells #[.bool false, .int .i64 0, .slice none 0 0] 51)).heap[N + 2]? = some (.cells #[.bool false, .int .i64 0, .slice none 0 0] 51) := s2 ▸ heap_alloc_new x2 (.cells #[.bool false, .int .i64 0, .slice none 0 0] 51)
 try simp only [s2]
 change Walk Try.prog K.main _ _ _ (x2.alloc (.cells #[.bool false, .int .i64 0, .slice none 0 0] 51))
 generalize x2.alloc (.cells #[.bool false, .int .i64 0, .slice none 0 0] 51) = x3 at *
 repeat (first | refine Walk.cx ?_ | (refine Walk.cReg ?_; simp only [z14]) | (refine Walk.oq ?_; try walk_nrm) | (refine Walk.un ?_; walk_nrm))
 (refine Walk.oa ?_; try walk_nrm)
 have s4 : (x3.alloc (.cells #[.bool false, .int .i64 0, .slice none 0 0] 51)).heap.size = N + 4 := by simp [s3]
 have o4 : ∀ b, b < N + 3 → (x3.alloc (.cells #[.bool false, .int .i64 0, .slice none 0 0] 51)).heap[b]? = x3.heap[b]? := fun b hb => heap_new_lt _ _ (by omega)
 have d4 : (x3.alloc (.cells #[.bool false, .int .i64 0, .slice none 0 0] 51)).heap[N + 3]? = some (.cells #[.bool false, .int .i64 0, .slice none 0 0] 51) := s3 ▸ heap_alloc_new x3 (.cells #[.bool false, .int .i64 0, .slice none 0 0] 51)
 try simp only [s3]
 change Walk Try.prog K.main _ _ _ (x3.alloc (.cells #[.bool false, .int .i64 0, .slice none 0 0] 51))
 generalize x3.alloc (.cells #[.bool false, .int .i64 0, .slice none 0 0] 51) = x4 at *
 obtain ⟨e1, m1⟩ := K.grow e (w' := x4) (by omega) (fun b hb => (o4 b (by omega)).trans ((o3 b (by omega)).trans ((o2 b (by omega)).trans (o1 b (by omega)))))
 have ht1 : K.tgt e1 = onEnter m (K.s e1) ⟨ok, (i : Int), ob, oc⟩ := by rw [m1.tgt, m1.s]; exact ht
 have hw1 := m1.w
 have B1 : CaB K N i ok i ob oc e1 := by
  refine ⟨m1.new (by omega) (by omega), m1.new (by omega) (by omega), m1.new (by omega) (by omega), m1.new (by omega) (by omega), ?_, ?_, ?_, ?_⟩
  ·rw [hw1]; exact (o4 _ (by omega)).trans ((o3 _ (by omega)).trans ((o2 _ (by omega)).trans d1))
  ·rw [hw1]; exact (o4 _ (by omega)).trans ((o3 _ (by omega)).trans d2)
  ·rw [hw1]; exact (o4 _ (by omega)).trans d3
  ·rw [hw1]; exact d4
 refine LW.to (l := fr :: l) m1 ?_
 unfold LW
 clear m1 ht o1 o2 o3 o4 d1 d2 d3 d4 s0 s1 s2 s3 s4 hN
 subst hw1
 replace ht1 := ht1.trans (onEnter_in (by show ¬ ((i : Int) < 0 ∨ (m : Int) ≤ i); omega))
 have hit : (i : Int).toNat = i := by omega
 have c0 : (K.w e1).cell? ⟨N, 0, none⟩ = some (.pointer (some ⟨cb, i * 3, none⟩)) := (cell_of B1.b0 0).trans rfl
 have k0 : (K.w e1).cell? ⟨N + 1, 0, none⟩ = some (.int .i64 ok) := (cell_of B1.b1 0).trans rfl
 have k2 : (K.w e1).cell? ⟨N + 1, 2, none⟩ = some (.int .i64 ob) := (cell_of B1.b1 2).trans rfl
 repeat (first | refine Walk.cx ?_ | (refine Walk.cReg ?_; simp only [z14]) | (refine Walk.oq ?_; try walk_nrm) | (refine Walk.un ?_; walk_nrm))
 by_cases h1 : ok = 1
 ·subst h1
  have ht3 : K.tgt e1 = (K.s e1, .inr (.g1 i)) := ht1
  repeat (first | refine Walk.cx ?_ | (refine Walk.cReg ?_; simp only [z14]) | (refine Walk.oq ?_; try walk_nrm) | (refine Walk.un ?_; walk_nrm))
  have hg := SCall.fz K (get_s (Fz K e1) i hi (.g1 i) (.g2 i) (.inl (false, 0)) (fun y => .inl (true, y)) (fun _ => rfl) (fun _ => rfl) (fz0 K e1) ht3)
  unfold onP at hg
  refine LW.callS (K := K.toLb) (e := e1) (l := fr :: l) (f := 40) (Q := fun x e' => ∃ h : Kept K e1 e', GetOut (Fz K e1) (fz0 K e1) (.inl (false, 0)) (fun y => .inl (true, y)) x ⟨e', h⟩) ?_ (ho_of (by conv => lhs; whnf) (by kernel_rfl)) (by rfl) (by decide) rfl Try.func40 (by kernel_rfl) (by rfl) ⟨rfl, rfl, _, Try.func14⟩ (plain_cons hp hl) ?_
  ·walk_nrm
   exact hg
  rintro x e2 ⟨hkept, hx⟩
  have B2 := B1.kept hkept
  obtain ⟨b, y, rfl, ht2⟩ : ∃ b y, x = .tuple #[.int .i64 y, .bool b] ∧ K.tgt e2 = (K.s e2, .inl (b, y)) := by
   rcases hx.2 with ⟨h1, h2⟩ | ⟨y, h1, h2⟩
   ·exact ⟨_, _, h1, h2⟩
   ·exact ⟨_, _, h1, h2⟩
  clear hx hg c0 k0 k2 hkept
  have hap := (K.mineA e2 _ B2.m3).1
  have H0 : AnW K e2 (N + 3) false 0 (K.w e2) := ⟨B2.b3, fun _ _ => rfl, rfl⟩
  have n1 : (K.w e2).cell? ⟨N + 3, 1, none⟩ = some (.int .i64 0) := (cell_of B2.b3 1).trans rfl
  have y1 := frozen_of B2.b3 1
  unfold LW
  walk_nrm
  repeat (first | refine Walk.cx ?_ | (refine Walk.cReg ?_; simp only [z14]) | (refine Walk.oq ?_; try walk_nrm) | (refine Walk.un ?_; walk_nrm))
  (have hfr := hap.1 ⟨N + 3, 1, none⟩ rfl; refine Walk.os hfr n1 ?_; clear hfr; try walk_nrm)
  have H1 := H0.set1 y
  clear n1 y1
  generalize (K.w e2).setCell ⟨N + 3, 1, none⟩ (.int .i64 y) = wA at *
  have n0 : wA.cell? ⟨N + 3, 0, none⟩ = some (.bool false) := (cell_of H1.d 0).trans rfl
  have y0 := frozen_of H1.d 0
  repeat (first | refine Walk.cx ?_ | (refine Walk.cReg ?_; simp only [z14]) | (refine Walk.oq ?_; try walk_nrm) | (refine Walk.un ?_; walk_nrm))
  (have hfr := hap.1 ⟨N + 3, 0, none⟩ rfl; refine Walk.os hfr n0 ?_; clear hfr; try walk_nrm)
  have HA := H1.set0 b
  clear n0 y0
  generalize wA.setCell ⟨N + 3, 0, none⟩ (.bool b) = wB at *
  repeat (first | refine Walk.cx ?_ | (refine Walk.cReg ?_; simp only [z14]) | (refine Walk.oq ?_; try walk_nrm) | (refine Walk.un ?_; walk_nrm))
  refine Walk.loadS 51 (.tmp 7) (ho_of (by conv => lhs; whnf) (by kernel_rfl)) (by rfl) (by decide) rfl (N + 3) 0 [.bool b, .int .i64 (y), .slice none 0 0] (.struct fsA) rfl (fun j v hj => ?_) huA rfl (by kernel_rfl) ?_
  ·rw [Nat.zero_add, cell_of HA.d]
   simpa using hj
  walk_nrm
  have dR : wB.heap[N + 2]? = some (.cells #[.bool false, .int .i64 0, .slice none 0 0] 51) := (HA.o _ (by omega)).trans B2.b2
  have hap2 := (K.mineA e2 _ B2.m2).1
  refine Walk.storeS 51 (.tmp 6) (.tmp 22) (ho_of (by conv => lhs; whnf) (by kernel_rfl)) (by rfl) (by decide) rfl (N + 2) #[.bool b, .int .i64 (y), .slice none 0 0] _ 51 rfl rfl dR (by kernel_rfl) (by rfl) (by simp [Value.oneCell']) hap2 ?_
  have dS := setRow_self (cells := #[.bool b, .int .i64 (y), .slice none 0 0]) dR
  walk_nrm
  repeat (first | refine Walk.cx ?_ | (refine Walk.cReg ?_; simp only [z14]) | (refine Walk.oq ?_; try walk_nrm) | (refine Walk.un ?_; walk_nrm))
  exact call_back K (a := (b, y)) (by rw [setRow_size, HA.z]; exact Nat.le_refl _) (fun x _ hx => (setRow_other _ _ (fun h : x = N + 2 => hx (by rw [h]; exact B2.m2))).trans (HA.o x (fun h : x = N + 3 => hx (by rw [h]; exact B2.m3)))) dS ht2 hk ⟨rfl, rfl, rfl, rfl, rfl⟩
 have hbk1 : (ok == 1) = false := by simp [h1]
 simp only [hbk1]
 repeat (first | refine Walk.cx ?_ | (refine Walk.cReg ?_; simp only [z14]) | (refine Walk.oq ?_; try walk_nrm) | (refine Walk.un ?_; walk_nrm))
 by_cases h2 : ok = 2
 ·subst h2
  have ht3 : K.tgt e1 = (K.s e1, .inr (.s1 i ob)) := ht1
  repeat (first | refine Walk.cx ?_ | (refine Walk.cReg ?_; simp only [z14]) | (refine Walk.oq ?_; try walk_nrm) | (refine Walk.un ?_; walk_nrm))
  have hg := SCall.fz K (set_s (Fz K e1) i hi ob (fz0 K e1) ht3)
  unfold onP at hg
  refine LW.callS (K := K.toLb) (e := e1) (l := fr :: l) (f := 41) (Q := fun x e' => ∃ h : Kept K e1 e', TwoOut (Fz K e1) x ⟨e', h⟩) ?_ (ho_of (by conv => lhs; whnf) (by kernel_rfl)) (by rfl) (by decide) rfl Try.func41 (by kernel_rfl) (by rfl) ⟨rfl, rfl, _, Try.func14⟩ (plain_cons hp hl) ?_
  ·walk_nrm
   exact hg
  rintro x e2 ⟨hkept, hx⟩
  have B2 := B1.kept hkept
  obtain ⟨b, y, rfl, ht2⟩ : ∃ b y, x = .tuple #[.int .i64 y, .bool b] ∧ K.tgt e2 = (K.s e2, .inl (b, y)) := by
   obtain ⟨b, y, h1, h2⟩ := hx
   exact ⟨b, y, h1, h2⟩
  clear hx hg c0 k0 k2 hkept
  have hap := (K.mineA e2 _ B2.m3).1
  have H0 : AnW K e2 (N + 3) false 0 (K.w e2) := ⟨B2.b3, fun _ _ => rfl, rfl⟩
  have n1 : (K.w e2).cell? ⟨N + 3, 1, none⟩ = some (.int .i64 0) := (cell_of B2.b3 1).trans rfl
  have y1 := frozen_of B2.b3 1
  unfold LW
  walk_nrm
  repeat (first | refine Walk.cx ?_ | (refine Walk.cReg ?_; simp only [z14]) | (refine Walk.oq ?_; try walk_nrm) | (refine Walk.un ?_; walk_nrm))
  (have hfr := hap.1 ⟨N + 3, 1, none⟩ rfl; refine Walk.os hfr n1 ?_; clear hfr; try walk_nrm)
  have H1 := H0.set1 y
  clear n1 y1
  generalize (K.w e2).setCell ⟨N + 3, 1, none⟩ (.int .i64 y) = wA at *
  have n0 : wA.cell? ⟨N + 3, 0, none⟩ = some (.bool false) := (cell_of H1.d 0).trans rfl
  have y0 := frozen_of H1.d 0
  repeat (first | refine Walk.cx ?_ | (refine Walk.cReg ?_; simp only [z14]) | (refine Walk.oq ?_; try walk_nrm) | (refine Walk.un ?_; walk_nrm))
  (have hfr := hap.1 ⟨N + 3, 0, none⟩ rfl; refine Walk.os hfr n0 ?_; clear hfr; try walk_nrm)
  have HA := H1.set0 b
  clear n0 y0
  generalize wA.setCell ⟨N + 3, 0, none⟩ (.bool b) = wB at *
  repeat (first | refine Walk.cx ?_ | (refine Walk.cReg ?_; simp only [z14]) | (refine Walk.oq ?_; try walk_nrm) | (refine Walk.un ?_; walk_nrm))
  refine Walk.loadS 51 (.tmp 7) (ho_of (by conv => lhs; whnf) (by kernel_rfl)) (by rfl) (by decide) rfl (N + 3) 0 [.bool b, .int .i64 (y), .slice none 0 0] (.struct fsA) rfl (fun j v hj => ?_) huA rfl (by kernel_rfl) ?_
  ·rw [Nat.zero_add, cell_of HA.d]
   simpa using hj
  walk_nrm
  have dR : wB.heap[N + 2]? = some (.cells #[.bool false, .int .i64 0, .slice none 0 0] 51) := (HA.o _ (by omega)).trans B2.b2
  have hap2 := (K.mineA e2 _ B2.m2).1
  refine Walk.storeS 51 (.tmp 6) (.tmp 35) (ho_of (by conv => lhs; whnf) (by kernel_rfl)) (by rfl) (by decide) rfl (N + 2) #[.bool b, .int .i64 (y), .slice none 0 0] _ 51 rfl rfl dR (by kernel_rfl) (by rfl) (by simp [Value.oneCell']) hap2 ?_
  have dS := setRow_self (cells := #[.bool b, .int .i64 (y), .slice none 0 0]) dR
  walk_nrm
  repeat (first | refine Walk.cx ?_ | (refine Walk.cReg ?_; simp only [z14]) | (refine Walk.oq ?_; try walk_nrm) | (refine Walk.un ?_; walk_nrm))
  exact call_back K (a := (b, y)) (by rw [setRow_size, HA.z]; exact Nat.le_refl _) (fun x _ hx => (setRow_other _ _ (fun h : x = N + 2 => hx (by rw [h]; exact B2.m2))).trans (HA.o x (fun h : x = N + 3 => hx (by rw [h]; exact B2.m3)))) dS ht2 hk ⟨rfl, rfl, rfl, rfl, rfl⟩
 have hbk2 : (ok == 2) = false := by simp [h2]
 simp only [hbk2]
 repeat (first | refine Walk.cx ?_ | (refine Walk.cReg ?_; simp only [z14]) | (refine Walk.oq ?_; try walk_nrm) | (refine Walk.un ?_; walk_nrm))
 by_cases h3 : ok = 3
 ·subst h3
  have ht3 : K.tgt e1 = (K.s e1, .inr (.m1 false i ob (triesX oc))) := ht1
  repeat (first | refine Walk.cx ?_ | (refine Walk.cReg ?_; simp only [z14]) | (refine Walk.oq ?_; try walk_nrm) | (refine Walk.un ?_; walk_nrm))
  have hline := fun k u0 => call_mk3 K i hi N 3 i ob oc (fun e1 B => hM N 3 i ob oc e1 B) e1 B1 ht3 fr l hp hl k u0
  unfold LW at hline
  refine slots_walk (F := fun u => G ((base 14).at ⟨tmK sv N u, []⟩ (.code (.region 12 reg14_12 true) :: _)) (fr :: (l ++ K.bot e1))) (A := _) (fun u0 => hline _ u0 ?_) rfl
  intro u e2 y n h8 B2 hx
  clear c0 k0 k2 hline
  have hap := (K.mineA e2 _ B2.m3).1
  have HA1 := (AnW.set1 (K := K) (e := e2) (A := N + 3) (b := false) (y := 0) (w := K.w e2) ⟨B2.b3, fun _ _ => rfl, rfl⟩ y)
  generalize (K.w e2).setCell ⟨N + 3, 1, none⟩ (.int .i64 y) = wA at *
  have n0 : wA.cell? ⟨N + 3, 0, none⟩ = some (.bool false) := (cell_of HA1.d 0).trans rfl
  have y0 := frozen_of HA1.d 0
  rcases hx with ⟨rfl, ht2⟩ | ⟨rfl, rfl, ht2⟩ | ⟨rfl, rfl, ht2⟩
  ·simp only [tmK, h8]
   repeat (first | refine Walk.cx ?_ | (refine Walk.cReg ?_; simp only [z14]) | (refine Walk.oq ?_; try walk_nrm) | (refine Walk.un ?_; walk_nrm))
   (have hfr := hap.1 ⟨N + 3, 0, none⟩ rfl; refine Walk.os hfr n0 ?_; clear hfr; try walk_nrm)
   have HA := HA1.set0 true
   clear n0 y0
   generalize wA.setCell ⟨N + 3, 0, none⟩ (.bool true) = wB at *
   have q0 : wB.cell? ⟨N + 3, 0, none⟩ = some (.bool true) := (cell_of HA.d 0).trans rfl
   repeat (first | refine Walk.cx ?_ | (refine Walk.cReg ?_; simp only [z14]) | (refine Walk.oq ?_; try walk_nrm) | (refine Walk.un ?_; walk_nrm))
   refine Walk.loadS 51 (.tmp 7) (ho_of (by conv => lhs; whnf) (by kernel_rfl)) (by rfl) (by decide) rfl (N + 3) 0 [.bool true, .int .i64 (y), .slice none 0 0] (.struct fsA) rfl (fun j v hj => ?_) huA rfl (by kernel_rfl) ?_
   ·rw [Nat.zero_add, cell_of HA.d]
    simpa using hj
   walk_nrm
   have dR : wB.heap[N + 2]? = some (.cells #[.bool false, .int .i64 0, .slice none 0 0] 51) := (HA.o _ (by omega)).trans B2.b2
   have hap2 := (K.mineA e2 _ B2.m2).1
   refine Walk.storeS 51 (.tmp 6) (.tmp 74) (ho_of (by conv => lhs; whnf) (by kernel_rfl)) (by rfl) (by decide) rfl (N + 2) #[.bool true, .int .i64 (y), .slice none 0 0] _ 51 rfl rfl dR (by kernel_rfl) (by rfl) (by simp [Value.oneCell']) hap2 ?_
   have dS := setRow_self (cells := #[.bool true, .int .i64 (y), .slice none 0 0]) dR
   walk_nrm
   repeat (first | refine Walk.cx ?_ | (refine Walk.cReg ?_; simp only [z14]) | (refine Walk.oq ?_; try walk_nrm) | (refine Walk.un ?_; walk_nrm))
   exact call_back K (a := (true, y)) (by rw [setRow_size, HA.z]; exact Nat.le_refl _) (fun x _ hx => (setRow_other _ _ (fun h : x = N + 2 => hx (by rw [h]; exact B2.m2))).trans (HA.o x (fun h : x = N + 3 => hx (by rw [h]; exact B2.m3)))) dS ht2 hk ⟨rfl, rfl, rfl, rfl, rfl⟩
  ·simp only [tmK, h8]
   repeat (first | refine Walk.cx ?_ | (refine Walk.cReg ?_; simp only [z14]) | (refine Walk.oq ?_; try walk_nrm) | (refine Walk.un ?_; walk_nrm))
   (have hfr := hap.1 ⟨N + 3, 0, none⟩ rfl; refine Walk.os hfr n0 ?_; clear hfr; try walk_nrm)
   have HA2 := HA1.set0 false
   clear n0 y0
   generalize wA.setCell ⟨N + 3, 0, none⟩ (.bool false) = wC at *
   have q0 : wC.cell? ⟨N + 3, 0, none⟩ = some (.bool false) := (cell_of HA2.d 0).trans rfl
   have q1 : wC.cell? ⟨N + 3, 1, none⟩ = some (.int .i64 0) := (cell_of HA2.d 1).trans rfl
   have y1 := frozen_of HA2.d 1
   repeat (first | refine Walk.cx ?_ | (refine Walk.cReg ?_; simp only [z14]) | (refine Walk.oq ?_; try walk_nrm) | (refine Walk.un ?_; walk_nrm))
   (have hfr := hap.1 ⟨N + 3, 1, none⟩ rfl; refine Walk.os hfr q1 ?_; clear hfr; try walk_nrm)
   have HA := HA2.set1 (-4)
   clear q0 q1 y1
   generalize wC.setCell ⟨N + 3, 1, none⟩ (.int .i64 (-4)) = wB at *
   repeat (first | refine Walk.cx ?_ | (refine Walk.cReg ?_; simp only [z14]) | (refine Walk.oq ?_; try walk_nrm) | (refine Walk.un ?_; walk_nrm))
   refine Walk.loadS 51 (.tmp 7) (ho_of (by conv => lhs; whnf) (by kernel_rfl)) (by rfl) (by decide) rfl (N + 3) 0 [.bool false, .int .i64 (-4), .slice none 0 0] (.struct fsA) rfl (fun j v hj => ?_) huA rfl (by kernel_rfl) ?_
   ·rw [Nat.zero_add, cell_of HA.d]
    simpa using hj
   walk_nrm
   have dR : wB.heap[N + 2]? = some (.cells #[.bool false, .int .i64 0, .slice none 0 0] 51) := (HA.o _ (by omega)).trans B2.b2
   have hap2 := (K.mineA e2 _ B2.m2).1
   refine Walk.storeS 51 (.tmp 6) (.tmp 74) (ho_of (by conv => lhs; whnf) (by kernel_rfl)) (by rfl) (by decide) rfl (N + 2) #[.bool false, .int .i64 (-4), .slice none 0 0] _ 51 rfl rfl dR (by kernel_rfl) (by rfl) (by simp [Value.oneCell']) hap2 ?_
   have dS := setRow_self (cells := #[.bool false, .int .i64 (-4), .slice none 0 0]) dR
   walk_nrm
   repeat (first | refine Walk.cx ?_ | (refine Walk.cReg ?_; simp only [z14]) | (refine Walk.oq ?_; try walk_nrm) | (refine Walk.un ?_; walk_nrm))
   exact call_back K (a := (false, -4)) (by rw [setRow_size, HA.z]; exact Nat.le_refl _) (fun x _ hx => (setRow_other _ _ (fun h : x = N + 2 => hx (by rw [h]; exact B2.m2))).trans (HA.o x (fun h : x = N + 3 => hx (by rw [h]; exact B2.m3)))) dS ht2 hk ⟨rfl, rfl, rfl, rfl, rfl⟩
  ·simp only [tmK, h8]
   repeat (first | refine Walk.cx ?_ | (refine Walk.cReg ?_; simp only [z14]) | (refine Walk.oq ?_; try walk_nrm) | (refine Walk.un ?_; walk_nrm))
   (have hfr := hap.1 ⟨N + 3, 0, none⟩ rfl; refine Walk.os hfr n0 ?_; clear hfr; try walk_nrm)
   have HA2 := HA1.set0 false
   clear n0 y0
   generalize wA.setCell ⟨N + 3, 0, none⟩ (.bool false) = wC at *
   have q0 : wC.cell? ⟨N + 3, 0, none⟩ = some (.bool false) := (cell_of HA2.d 0).trans rfl
   have q1 : wC.cell? ⟨N + 3, 1, none⟩ = some (.int .i64 0) := (cell_of HA2.d 1).trans rfl
   have y1 := frozen_of HA2.d 1
   repeat (first | refine Walk.cx ?_ | (refine Walk.cReg ?_; simp only [z14]) | (refine Walk.oq ?_; try walk_nrm) | (refine Walk.un ?_; walk_nrm))
   (have hfr := hap.1 ⟨N + 3, 1, none⟩ rfl; refine Walk.os hfr q1 ?_; clear hfr; try walk_nrm)
   have HA := HA2.set1 (-6)
   clear q0 q1 y1
   generalize wC.setCell ⟨N + 3, 1, none⟩ (.int .i64 (-6)) = wB at *
   repeat (first | refine Walk.cx ?_ | (refine Walk.cReg ?_; simp only [z14]) | (refine Walk.oq ?_; try walk_nrm) | (refine Walk.un ?_; walk_nrm))
   refine Walk.loadS 51 (.tmp 7) (ho_of (by conv => lhs; whnf) (by kernel_rfl)) (by rfl) (by decide) rfl (N + 3) 0 [.bool false, .int .i64 (-6), .slice none 0 0] (.struct fsA) rfl (fun j v hj => ?_) huA rfl (by kernel_rfl) ?_
   ·rw [Nat.zero_add, cell_of HA.d]
    simpa using hj
   walk_nrm
   have dR : wB.heap[N + 2]? = some (.cells #[.bool false, .int .i64 0, .slice none 0 0] 51) := (HA.o _ (by omega)).trans B2.b2
   have hap2 := (K.mineA e2 _ B2.m2).1
   refine Walk.storeS 51 (.tmp 6) (.tmp 74) (ho_of (by conv => lhs; whnf) (by kernel_rfl)) (by rfl) (by decide) rfl (N + 2) #[.bool false, .int .i64 (-6), .slice none 0 0] _ 51 rfl rfl dR (by kernel_rfl) (by rfl) (by simp [Value.oneCell']) hap2 ?_
   have dS := setRow_self (cells := #[.bool false, .int .i64 (-6), .slice none 0 0]) dR
   walk_nrm
   repeat (first | refine Walk.cx ?_ | (refine Walk.cReg ?_; simp only [z14]) | (refine Walk.oq ?_; try walk_nrm) | (refine Walk.un ?_; walk_nrm))
   exact call_back K (a := (false, -6)) (by rw [setRow_size, HA.z]; exact Nat.le_refl _) (fun x _ hx => (setRow_other _ _ (fun h : x = N + 2 => hx (by rw [h]; exact B2.m2))).trans (HA.o x (fun h : x = N + 3 => hx (by rw [h]; exact B2.m3)))) dS ht2 hk ⟨rfl, rfl, rfl, rfl, rfl⟩
 have hbk3 : (ok == 3) = false := by simp [h3]
 simp only [hbk3]
 repeat (first | refine Walk.cx ?_ | (refine Walk.cReg ?_; simp only [z14]) | (refine Walk.oq ?_; try walk_nrm) | (refine Walk.un ?_; walk_nrm))
 by_cases h4 : ok = 4
 ·subst h4
  have ht3 : K.tgt e1 = (K.s e1, .inr (.m1 true i 0 (triesX oc))) := ht1
  repeat (first | refine Walk.cx ?_ | (refine Walk.cReg ?_; simp only [z14]) | (refine Walk.oq ?_; try walk_nrm) | (refine Walk.un ?_; walk_nrm))
  have hline := fun k u0 => call_mk4 K i hi N 4 i ob oc (fun e1 B => call2_ok (Fz K e1) i 0) e1 B1 ht3 fr l hp hl k u0
  unfold LW at hline
  refine slots_walk (F := fun u => G ((base 14).at ⟨tmK sv N u, []⟩ (.code (.region 14 reg14_14 true) :: _)) (fr :: (l ++ K.bot e1))) (A := _) (fun u0 => hline _ u0 ?_) rfl
  intro u e2 y n h8 B2 hx
  clear c0 k0 k2 hline
  have hap := (K.mineA e2 _ B2.m3).1
  have HA1 := (AnW.set1 (K := K) (e := e2) (A := N + 3) (b := false) (y := 0) (w := K.w e2) ⟨B2.b3, fun _ _ => rfl, rfl⟩ y)
  generalize (K.w e2).setCell ⟨N + 3, 1, none⟩ (.int .i64 y) = wA at *
  have n0 : wA.cell? ⟨N + 3, 0, none⟩ = some (.bool false) := (cell_of HA1.d 0).trans rfl
  have y0 := frozen_of HA1.d 0
  rcases hx with ⟨rfl, ht2⟩ | ⟨rfl, rfl, ht2⟩ | ⟨rfl, rfl, ht2⟩
  ·simp only [tmK, h8]
   repeat (first | refine Walk.cx ?_ | (refine Walk.cReg ?_; simp only [z14]) | (refine Walk.oq ?_; try walk_nrm) | (refine Walk.un ?_; walk_nrm))
   (have hfr := hap.1 ⟨N + 3, 0, none⟩ rfl; refine Walk.os hfr n0 ?_; clear hfr; try walk_nrm)
   have HA := HA1.set0 true
   clear n0 y0
   generalize wA.setCell ⟨N + 3, 0, none⟩ (.bool true) = wB at *
   have q0 : wB.cell? ⟨N + 3, 0, none⟩ = some (.bool true) := (cell_of HA.d 0).trans rfl
   repeat (first | refine Walk.cx ?_ | (refine Walk.cReg ?_; simp only [z14]) | (refine Walk.oq ?_; try walk_nrm) | (refine Walk.un ?_; walk_nrm))
   refine Walk.loadS 51 (.tmp 7) (ho_of (by conv => lhs; whnf) (by kernel_rfl)) (by rfl) (by decide) rfl (N + 3) 0 [.bool true, .int .i64 (y), .slice none 0 0] (.struct fsA) rfl (fun j v hj => ?_) huA rfl (by kernel_rfl) ?_
   ·rw [Nat.zero_add, cell_of HA.d]
    simpa using hj
   walk_nrm
   have dR : wB.heap[N + 2]? = some (.cells #[.bool false, .int .i64 0, .slice none 0 0] 51) := (HA.o _ (by omega)).trans B2.b2
   have hap2 := (K.mineA e2 _ B2.m2).1
   refine Walk.storeS 51 (.tmp 6) (.tmp 74) (ho_of (by conv => lhs; whnf) (by kernel_rfl)) (by rfl) (by decide) rfl (N + 2) #[.bool true, .int .i64 (y), .slice none 0 0] _ 51 rfl rfl dR (by kernel_rfl) (by rfl) (by simp [Value.oneCell']) hap2 ?_
   have dS := setRow_self (cells := #[.bool true, .int .i64 (y), .slice none 0 0]) dR
   walk_nrm
   repeat (first | refine Walk.cx ?_ | (refine Walk.cReg ?_; simp only [z14]) | (refine Walk.oq ?_; try walk_nrm) | (refine Walk.un ?_; walk_nrm))
   exact call_back K (a := (true, y)) (by rw [setRow_size, HA.z]; exact Nat.le_refl _) (fun x _ hx => (setRow_other _ _ (fun h : x = N + 2 => hx (by rw [h]; exact B2.m2))).trans (HA.o x (fun h : x = N + 3 => hx (by rw [h]; exact B2.m3)))) dS ht2 hk ⟨rfl, rfl, rfl, rfl, rfl⟩
  ·simp only [tmK, h8]
   repeat (first | refine Walk.cx ?_ | (refine Walk.cReg ?_; simp only [z14]) | (refine Walk.oq ?_; try walk_nrm) | (refine Walk.un ?_; walk_nrm))
   (have hfr := hap.1 ⟨N + 3, 0, none⟩ rfl; refine Walk.os hfr n0 ?_; clear hfr; try walk_nrm)
   have HA2 := HA1.set0 false
   clear n0 y0
   generalize wA.setCell ⟨N + 3, 0, none⟩ (.bool false) = wC at *
   have q0 : wC.cell? ⟨N + 3, 0, none⟩ = some (.bool false) := (cell_of HA2.d 0).trans rfl
   have q1 : wC.cell? ⟨N + 3, 1, none⟩ = some (.int .i64 0) := (cell_of HA2.d 1).trans rfl
   have y1 := frozen_of HA2.d 1
   repeat (first | refine Walk.cx ?_ | (refine Walk.cReg ?_; simp only [z14]) | (refine Walk.oq ?_; try walk_nrm) | (refine Walk.un ?_; walk_nrm))
   (have hfr := hap.1 ⟨N + 3, 1, none⟩ rfl; refine Walk.os hfr q1 ?_; clear hfr; try walk_nrm)
   have HA := HA2.set1 (-4)
   clear q0 q1 y1
   generalize wC.setCell ⟨N + 3, 1, none⟩ (.int .i64 (-4)) = wB at *
   repeat (first | refine Walk.cx ?_ | (refine Walk.cReg ?_; simp only [z14]) | (refine Walk.oq ?_; try walk_nrm) | (refine Walk.un ?_; walk_nrm))
   refine Walk.loadS 51 (.tmp 7) (ho_of (by conv => lhs; whnf) (by kernel_rfl)) (by rfl) (by decide) rfl (N + 3) 0 [.bool false, .int .i64 (-4), .slice none 0 0] (.struct fsA) rfl (fun j v hj => ?_) huA rfl (by kernel_rfl) ?_
   ·rw [Nat.zero_add, cell_of HA.d]
    simpa using hj
   walk_nrm
   have dR : wB.heap[N + 2]? = some (.cells #[.bool false, .int .i64 0, .slice none 0 0] 51) := (HA.o _ (by omega)).trans B2.b2
   have hap2 := (K.mineA e2 _ B2.m2).1
   refine Walk.storeS 51 (.tmp 6) (.tmp 74) (ho_of (by conv => lhs; whnf) (by kernel_rfl)) (by rfl) (by decide) rfl (N + 2) #[.bool false, .int .i64 (-4), .slice none 0 0] _ 51 rfl rfl dR (by kernel_rfl) (by rfl) (by simp [Value.oneCell']) hap2 ?_
   have dS := setRow_self (cells := #[.bool false, .int .i64 (-4), .slice none 0 0]) dR
   walk_nrm
   repeat (first | refine Walk.cx ?_ | (refine Walk.cReg ?_; simp only [z14]) | (refine Walk.oq ?_; try walk_nrm) | (refine Walk.un ?_; walk_nrm))
   exact call_back K (a := (false, -4)) (by rw [setRow_size, HA.z]; exact Nat.le_refl _) (fun x _ hx => (setRow_other _ _ (fun h : x = N + 2 => hx (by rw [h]; exact B2.m2))).trans (HA.o x (fun h : x = N + 3 => hx (by rw [h]; exact B2.m3)))) dS ht2 hk ⟨rfl, rfl, rfl, rfl, rfl⟩
  ·simp only [tmK, h8]
   repeat (first | refine Walk.cx ?_ | (refine Walk.cReg ?_; simp only [z14]) | (refine Walk.oq ?_; try walk_nrm) | (refine Walk.un ?_; walk_nrm))
   (have hfr := hap.1 ⟨N + 3, 0, none⟩ rfl; refine Walk.os hfr n0 ?_; clear hfr; try walk_nrm)
   have HA2 := HA1.set0 false
   clear n0 y0
   generalize wA.setCell ⟨N + 3, 0, none⟩ (.bool false) = wC at *
   have q0 : wC.cell? ⟨N + 3, 0, none⟩ = some (.bool false) := (cell_of HA2.d 0).trans rfl
   have q1 : wC.cell? ⟨N + 3, 1, none⟩ = some (.int .i64 0) := (cell_of HA2.d 1).trans rfl
   have y1 := frozen_of HA2.d 1
   repeat (first | refine Walk.cx ?_ | (refine Walk.cReg ?_; simp only [z14]) | (refine Walk.oq ?_; try walk_nrm) | (refine Walk.un ?_; walk_nrm))
   (have hfr := hap.1 ⟨N + 3, 1, none⟩ rfl; refine Walk.os hfr q1 ?_; clear hfr; try walk_nrm)
   have HA := HA2.set1 (-6)
   clear q0 q1 y1
   generalize wC.setCell ⟨N + 3, 1, none⟩ (.int .i64 (-6)) = wB at *
   repeat (first | refine Walk.cx ?_ | (refine Walk.cReg ?_; simp only [z14]) | (refine Walk.oq ?_; try walk_nrm) | (refine Walk.un ?_; walk_nrm))
   refine Walk.loadS 51 (.tmp 7) (ho_of (by conv => lhs; whnf) (by kernel_rfl)) (by rfl) (by decide) rfl (N + 3) 0 [.bool false, .int .i64 (-6), .slice none 0 0] (.struct fsA) rfl (fun j v hj => ?_) huA rfl (by kernel_rfl) ?_
   ·rw [Nat.zero_add, cell_of HA.d]
    simpa using hj
   walk_nrm
   have dR : wB.heap[N + 2]? = some (.cells #[.bool false, .int .i64 0, .slice none 0 0] 51) := (HA.o _ (by omega)).trans B2.b2
   have hap2 := (K.mineA e2 _ B2.m2).1
   refine Walk.storeS 51 (.tmp 6) (.tmp 74) (ho_of (by conv => lhs; whnf) (by kernel_rfl)) (by rfl) (by decide) rfl (N + 2) #[.bool false, .int .i64 (-6), .slice none 0 0] _ 51 rfl rfl dR (by kernel_rfl) (by rfl) (by simp [Value.oneCell']) hap2 ?_
   have dS := setRow_self (cells := #[.bool false, .int .i64 (-6), .slice none 0 0]) dR
   walk_nrm
   repeat (first | refine Walk.cx ?_ | (refine Walk.cReg ?_; simp only [z14]) | (refine Walk.oq ?_; try walk_nrm) | (refine Walk.un ?_; walk_nrm))
   exact call_back K (a := (false, -6)) (by rw [setRow_size, HA.z]; exact Nat.le_refl _) (fun x _ hx => (setRow_other _ _ (fun h : x = N + 2 => hx (by rw [h]; exact B2.m2))).trans (HA.o x (fun h : x = N + 3 => hx (by rw [h]; exact B2.m3)))) dS ht2 hk ⟨rfl, rfl, rfl, rfl, rfl⟩
 have hbk4 : (ok == 4) = false := by simp [h4]
 simp only [hbk4]
 repeat (first | refine Walk.cx ?_ | (refine Walk.cReg ?_; simp only [z14]) | (refine Walk.oq ?_; try walk_nrm) | (refine Walk.un ?_; walk_nrm))
 have ht2 : K.tgt e1 = (K.s e1, .inl (false, 0)) := ht1.trans (onKind_no _ _ h1 h2 h3 h4)
 have B2 := B1
 have HA : AnW K e1 (N + 3) false 0 (K.w e1) := ⟨B1.b3, fun _ _ => rfl, rfl⟩
 generalize hwB : K.w e1 = wB at *
 refine Walk.loadS 51 (.tmp 7) (ho_of (by conv => lhs; whnf) (by kernel_rfl)) (by rfl) (by decide) rfl (N + 3) 0 [.bool false, .int .i64 (0), .slice none 0 0] (.struct fsA) rfl (fun j v hj => ?_) huA rfl (by kernel_rfl) ?_
 ·rw [Nat.zero_add, cell_of HA.d]
  simpa using hj
 walk_nrm
 have dR : wB.heap[N + 2]? = some (.cells #[.bool false, .int .i64 0, .slice none 0 0] 51) := (HA.o _ (by omega)).trans B2.b2
 have hap2 := (K.mineA e1 _ B2.m2).1
 refine Walk.storeS 51 (.tmp 6) (.tmp 11) (ho_of (by conv => lhs; whnf) (by kernel_rfl)) (by rfl) (by decide) rfl (N + 2) #[.bool false, .int .i64 (0), .slice none 0 0] _ 51 rfl rfl dR (by kernel_rfl) (by rfl) (by simp [Value.oneCell']) hap2 ?_
 have dS := setRow_self (cells := #[.bool false, .int .i64 (0), .slice none 0 0]) dR
 walk_nrm
 repeat (first | refine Walk.cx ?_ | (refine Walk.cReg ?_; simp only [z14]) | (refine Walk.oq ?_; try walk_nrm) | (refine Walk.un ?_; walk_nrm))
 exact call_back K (a := (false, 0)) (by rw [setRow_size, HA.z]; exact Nat.le_refl _) (fun x _ hx => (setRow_other _ _ (fun h : x = N + 2 => hx (by rw [h]; exact B2.m2))).trans (HA.o x (fun h : x = N + 3 => hx (by rw [h]; exact B2.m3)))) dS ht2 hk ⟨rfl, rfl, rfl, rfl, rfl⟩
end
end
end Go.Proofs.Ytdcjgmlgmjjogaa
