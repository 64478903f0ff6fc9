/- Part 28. -/
import Derived.Test.YtcdcnmphjhfbpaaJ9
import Derived.Test.YtcdcnmphjhfbpaaJ12
import Derived.Test.YtcdcnmphjhfbpaaJ13
import Derived.Test.YtcdcnmphjhfbpaaJ17
import Derived.Test.YtcdcnmphjhfbpaaJ27
set_option linter.unusedSimpArgs false
set_option linter.unusedVariables false
set_option maxHeartbeats 8000000
set_option maxRecDepth 100000
namespace Go.Proofs.Ytcdcnmphjhfbpaa
open Go.Conc Go.RowKit Go.Relay
open Go.ConcN (upd upd_ne upd_same)
section
section
variable {main : Bool} {V : Nat -> Option Wait} {n : Nat}
structure NwR (w0 : World) (rb sb n j : Nat) (w : World) : Prop where
 I : RgI rb sb n (Oj j) w
 old : ∀ b, b < w0.heap.size -> w.heap[b]? = w0.heap[b]?
 size : w0.heap.size <= w.heap.size
theorem NwR.at {w0 w : World} {rb sb j : Nat} (h : NwR w0 rb sb n j w) (d : Nat) : NwR w0 rb sb n j (w.at d) := ⟨⟨h.I.hd, h.I.sl, h.I.pos⟩, h.old, h.size⟩
theorem Qdn (sz : Int) (hz : sz = (n : Nat)) (hok : okS sz) (cs : List Frame) (w : World) :
  Walk Try.prog main (DR V) (fun gr w' => (∃ u, gr = G (Ql (w.heap.size + 1) n 0 u) cs) /\ NwR w (w.heap.size + 1) w.heap.size n 0 w') (G (Frame.enter Try.prog 17 #[.int .i64 sz] .normal) cs) w := by
 have hi1 := Option.some_get (show (Try.prog.info? 134).isSome = true by kernel_rfl)
 subst hz
 obtain ⟨h1, h2, h3⟩ := hok
 have hw1 : IntKind.wrap .i64 ((n : Int) - 1) = (n : Int) - 1 := by rw [IntKind.wrap_i64]; omega
 have g1 : decide ((n : Int) < 1) = false := decide_eq_false (by omega)
 have g2 : decide (65536 < (n : Int)) = false := decide_eq_false (by omega)
 have g3 : (bits .and .i64 (n : Int) ((n : Int) - 1) != 0) = false := by rw [h3]; rfl
 rw [enter_at _ Try.func17 Qd]
 simp only [Try.ntmps17, ez, Nat.reduceAdd, Nat.reduceSub]
 refine Aa z17 ?_
 clear g1 g2 g3 h3 hw1
 refine Ek 130 (.tmp 19) (.tmp 19) Aj (by rfl) (by decide) rfl 134 _ (.agg #[.int .i64 0, .int .i64 0]) 2 16 (by kernel_rfl) hi1.symm (by rfl) (by rfl) (by rfl) n (by rfl) (by rfl) (by omega) (by omega) ?_
 walk_nrm
 simp only [Value.cells]
 have s1 : (w.alloc (.cells (madeCells #[.int .i64 0, .int .i64 0] (n * 2)) 134)).heap.size = w.heap.size + 1 := by simp
 have o1 : ∀ b, b < w.heap.size -> (w.alloc (.cells (madeCells #[.int .i64 0, .int .i64 0] (n * 2)) 134)).heap[b]? = w.heap[b]? := fun b hb => Ad _ _ hb
 have d1 := heap_alloc_new w (.cells (madeCells #[.int .i64 0, .int .i64 0] (n * 2)) 134)
 generalize hN : w.heap.size = N at *
 generalize w.alloc (.cells (madeCells #[.int .i64 0, .int .i64 0] (n * 2)) 134) = w1 at *
 repeat (first | (refine Walk.oq ?_; try walk_nrm) | (refine Bn ?_; walk_nrm))
 (refine Walk.oa ?_; try walk_nrm)
 have s2 : (w1.alloc (.cells #[.slice (some ⟨N, 0, none⟩) n n] 132)).heap.size = w1.heap.size + 1 := by simp
 have o2 : ∀ b, b < w1.heap.size -> (w1.alloc (.cells #[.slice (some ⟨N, 0, none⟩) n n] 132)).heap[b]? = w1.heap[b]? := fun b hb => Ad _ _ hb
 have d2 := heap_alloc_new w1 (.cells #[.slice (some ⟨N, 0, none⟩) n n] 132)
 try simp only [s1]
 rw [s1] at d2
 generalize w1.alloc (.cells #[.slice (some ⟨N, 0, none⟩) n n] 132) = w2 at *
 have I : RgI (N + 1) N n (Oj 0) w2 := ⟨d2, ⟨_, (o2 N (by omega)).trans d1, by rw [size_madeCells]; omega, fun i hi => ⟨(Qct n (i * 2) (by omega)).trans (by simp [Oj]), (Qct n (i * 2 + 1) (by omega)).trans (by simp [Oj])⟩⟩, by omega⟩
 have c1 := I.size
 refine Aa z17 ?_
 refine Walk.ctl rfl (fun w => stepG_loop) ?_
 refine .stop fun d => ⟨Ak ?_, NwR.at ⟨I, fun b hb => (o2 b (by omega)).trans (o1 b (by omega)), by omega⟩ d⟩
 simp only [Ql]
 rfl
theorem Qdo (w0 : World) (rb sb j : Nat) (hj : j < n) (u : Nat -> Value) (cs : List Frame) (w : World) (hap : Bd V sb) (E : NwR w0 rb sb n j w) (hsb : w0.heap.size <= sb) :
  Walk Try.prog main (DR V) (fun gr w' => (∃ u, gr = G (Ql rb n (j + 1) u) cs) /\ NwR w0 rb sb n (j + 1) w') (G (Ql rb n j u) cs) w := by
 have hn := E.I.pos
 have c1 := E.I.size
 obtain ⟨hc0, hz0⟩ := E.I.rdS hj
 have hst := Yk (main := main) (V := V) sb (j * 2) _ (-2) w hc0 hz0 (hap.1 _ rfl)
 have I2 := E.I.wrS hj (-2)
 rw [Qch] at I2
 have E2 : NwR w0 rb sb n (j + 1) (w.setCell ⟨sb, j * 2, none⟩ (.int .i64 (-2))) := ⟨I2, fun b hb => (Ab _ _ _ _ (fun e : b = sb => by omega)).trans (E.old b hb), by rw [Af]; exact E.size⟩
 have hj0 : (0 : Int) <= j := by omega
 have hj1 : decide ((j : Int) < n) = true := by simp; omega
 have hj3 : decide (j < n) = true := by simp; omega
 have hj4 : (j : Int) < n := by omega
 have hw1 : IntKind.wrap .i64 ((j : Int) + 1) = (j : Int) + 1 := by rw [IntKind.wrap_i64]; omega
 have hc : ((j + 1 : Nat) : Int) = (j : Int) + 1 := by simp
 clear E I2 hc0 hz0
 conv => arg 5; unfold Ql
 refine Aa z17 ?_
 refine Walk.callV (x := .tuple #[]) (W := w.setCell ⟨sb, j * 2, none⟩ (.int .i64 (-2))) ?_ Aj (by rfl) (by decide) rfl Try.func71 (by kernel_rfl) (by rfl) ?_
 ·walk_nrm
  exact hst
 clear hst c1
 generalize w.setCell ⟨sb, j * 2, none⟩ (.int .i64 (-2)) = w2 at *
 walk_nrm
 refine Aa z17 ?_
 refine Walk.ctl rfl (fun w => stepG_inLoop) ?_
 refine .stop fun d' => ⟨Ak ?_, E2.at d'⟩
 simp only [Ql, hc]
 rfl
theorem Qck (rb : Nat) (u : Nat -> Value) (c : Frame) (cs : List Frame) (w : World) :
  Walk Try.prog main (DR V) (fun gr w' => gr = G (c.finish (.tuple #[.pointer (some ⟨rb, 0, none⟩), .int .i64 0])) cs /\ ∃ d, w' = w.at d) (G (Ql rb n n u) (c :: cs)) w := by
 have hj1 : decide ((n : Int) < n) = false := by simp
 have hj3 : decide (n < n) = false := by simp
 conv => arg 5; unfold Ql
 refine Aa z17 ?_
 exact By rfl rfl Try.func17 rfl (.stop fun d => ⟨rfl, d, rfl⟩)
theorem Qba (w0 : World) (rb sb : Nat) (cs : List Frame) (hap : Bd V sb) (hsb : w0.heap.size <= sb) :
  ∀ (r j : Nat) (u : Nat -> Value) (w : World), j + r = n -> NwR w0 rb sb n j w -> Walk Try.prog main (DR V) (fun gr w' => (∃ u, gr = G (Ql rb n n u) cs) /\ NwR w0 rb sb n n w') (G (Ql rb n j u) cs) w := by
 intro r
 induction r with
 | zero =>
  intro j u w hj E
  have hj : j = n := hj
  subst hj
  exact .stop fun d => ⟨⟨u, rfl⟩, E.at d⟩
 | succ r ih =>
  intro j u w hj E
  refine (Qdo w0 rb sb j (by omega) u cs w hap E hsb).then ?_
  rintro _ w2 ⟨⟨u2, rfl⟩, E2⟩
  exact ih (j + 1) u2 w2 (by omega) E2
theorem Qcs (sz : Int) (hok : okS sz) (w : World) (hA : ∀ b, w.heap.size <= b -> Bd V b) : CallW Try.prog main V 17 #[.int .i64 sz] w (fun v w' => v = .tuple #[.pointer (some ⟨w.heap.size + 1, 0, none⟩), .int .i64 0] /\ NwR w (w.heap.size + 1) w.heap.size sz.toNat sz.toNat w') := fun fr cs => by
 have hz : sz = ((sz.toNat : Nat) : Int) := by have := hok.1; omega
 refine (Qdn sz hz hok (fr :: cs) w).then ?_
 rintro _ w1 ⟨⟨u, rfl⟩, E1⟩
 refine (Qba w (w.heap.size + 1) w.heap.size (fr :: cs) (hA _ (Nat.le_refl _)) (Nat.le_refl _) sz.toNat 0 u w1 (Nat.zero_add _) E1).then ?_
 rintro _ w2 ⟨⟨u2, rfl⟩, E2⟩
 refine (Qck (w.heap.size + 1) u2 fr cs w2).mono ?_
 rintro _ _ ⟨rfl, d, rfl⟩
 exact ⟨_, ⟨rfl, E2.at d⟩, rfl⟩
end
end
section
section
variable {P : Program} {t e : TypeId} {ti : TypeInfo}
theorem Qao (hu : P.underlying t = some (.slice e)) (hi : P.info? e = some ti) (hz : ti.size = 1) (b o y cap : Nat) (hc : y + 1 <= cap) : ∃ a' : Option Addr, (0 < y -> a' = some ⟨b, o + 1, none⟩) /\ ∀ (w : World) (es : Array Event), (Instr.sliceAt t (.slice (some ⟨b, o, none⟩) (y + 1) cap) (some (.int .i64 1)) none none).run P w = .ok (.slice a' y (cap - 1)) w /\
  (Instr.sliceAt t (.slice (some ⟨b, o, none⟩) (y + 1) cap) (some (.int .i64 1)) none none).events P w es = es := by
 have g1 : (1 : Int) <= ((y + 1 : Nat) : Int) := by omega
 have g3 : (1 : Int) <= (y : Int) + 1 := by omega
 have g4 : ¬ ((y : Int) + 1 < 1) := by omega
 by_cases g2 : cap = 1
 ·subst g2
  have hy : y = 0 := by omega
  subst hy
  refine ⟨some ⟨b, o, none⟩, fun h => by omega, fun w es => ?_⟩
  constructor <;> simp [Instr.sliceAt, Instr.slice, run_underlying hu, Instr.sliceBounds, Instr.sliceBound, asIntOf, sizeOf, typeInfo, hi, hz, Addr.add]
 ·refine ⟨some ⟨b, o + 1, none⟩, fun _ => rfl, fun w es => ?_⟩
  constructor <;> simp [Instr.sliceAt, Instr.slice, run_underlying hu, Instr.sliceBounds, Instr.sliceBound, asIntOf, sizeOf, typeInfo, hi, hz, g1, g2, g3, g4, Addr.add]
end
def Hn (n : Nat) (s : Rg) (q v : Int) : Rg := Cg (Eu (Cg s (Bq n q) (Ce n q - 1)) (Bq n q) v) (Bq n q) (Ce n q)
theorem Qp (rb sb n : Nat) (s : Rg) (q v : Int) : runN (Bs rb sb n) 3 (s, .inr (.p1 q v)) = some (Hn n s q v, ⟨true, 0, []⟩) := rfl
def Zz (n : Nat) : Nat -> List Int -> Rg -> Rg
 | _, [], s => s
 | q, v :: l, s => Zz n (q + 1) l (Hn n s (q : Nat) v)
end
section
noncomputable def reg65_0 := rk Try.f65.body 0
noncomputable def reg65_1 := rk Try.f65.body 1
noncomputable def reg65_2 := rk Try.f65.body 2
noncomputable def reg65_3 := rk Try.f65.body 3
noncomputable def reg65_4 := rk Try.f65.body 4
noncomputable def reg65_5 := rk Try.f65.body 5
noncomputable def reg65_6 := rk Try.f65.body 6
noncomputable def reg65_7 := rk Try.f65.body 7
noncomputable def reg65_8 := rk Try.f65.body 8
noncomputable def reg65_9 := rk Try.f65.body 9
noncomputable def reg65_10 := rk Try.f65.body 10
noncomputable def reg65_11 := rk Try.f65.body 11
theorem z65 : reg65_0.size = 1 /\ reg65_1.size = 9 /\ reg65_2.size = 1 /\ reg65_3.size = 10 /\ reg65_4.size = 2 /\ reg65_5.size = 1 /\ reg65_6.size = 4 /\ reg65_7.size = 1 /\ reg65_8.size = 5 /\ reg65_9.size = 4 /\ reg65_10.size = 2 /\ reg65_11.size = 2 := by and_intros <;> kernel_rfl
theorem Qc : Try.f65.body = some (.seq (.region 0 reg65_0 false) (.seq (.seq (.region 1 reg65_1 false) (.cond (.tmp 15 ) (.seq (.region 2 reg65_2 false) (.ret)) (.skip))) (.seq (.region 3 reg65_3 false) (.seq (.seq (.region 4 reg65_4 false) (.cond (.tmp 25 ) (.seq (.region 5 reg65_5 false) (.ret)) (.skip))) (.seq (.seq (.region 6 reg65_6 false) (.block 0 (.loop (.seq (.region 7 reg65_7 false) (.seq (.cond (.tmp 30 ) (.skip) (.exit 0)) (.seq (.block 1 (.seq (.region 8 reg65_8 false) (.region 9 reg65_9 false))) (.region 10 reg65_10 false))))))) (.seq (.region 11 reg65_11 false) (.ret))))))) := by kernel_rfl
noncomputable def Qi (st : Value) (rb : Nat) (rv : Value) (m j : Nat) (u : Nat -> Value) : Frame :=
 (base 65).at { tmps := #[st, u 1, .pointer none, .pointer (some ⟨rb, 0, none⟩), .int .i64 0, u 5, u 6, u 7, u 8, u 9, u 10, u 11, u 12, u 13, u 14, u 15, u 16, u 17, u 18, u 19, u 20, u 21, u 22, u 23, u 24, u 25, u 26, rv, .int .i64 m, .int .i64 j, u 30, u 31, u 32, u 33, u 34, u 35, u 36, u 37, u 38, u 39], defers := [] } [.code (.seq (.region 7 reg65_7 false) (.seq (.cond (.tmp 30 ) (.skip) (.exit 0)) (.seq (.block 1 (.seq (.region 8 reg65_8 false) (.region 9 reg65_9 false))) (.region 10 reg65_10 false)))), .inLoop (.seq (.region 7 reg65_7 false) (.seq (.cond (.tmp 30 ) (.skip) (.exit 0)) (.seq (.block 1 (.seq (.region 8 reg65_8 false) (.region 9 reg65_9 false))) (.region 10 reg65_10 false)))), .inBlock 0, .code (.seq (.region 11 reg65_11 false) (.ret))]
section
variable {main : Bool} {V : Nat -> Option Wait} {rb sb n : Nat}
theorem nr_go (hA : ∀ b, Bd V b) (st : Value) (b o m c j : Nat) (z : Int) (s : Rg) (hj : j < m) (hm : m <= 17592186044416) (u : Nat -> Value) (cs : List Frame) (w : World) (I : RgI rb sb n s w) (hz : w.cell? ⟨b, o + j, none⟩ = some (.int .i64 z)) :
  Walk Try.prog main (DR V) (fun gr w' => (∃ u, gr = G (Qi st rb (.slice (some ⟨b, o, none⟩) m c) m (j + 1) u) cs) /\ RgI rb sb n (Hn n s (j : Nat) z) w' /\ (∀ x, x < w.heap.size -> x ≠ rb -> x ≠ sb -> w'.heap[x]? = w.heap[x]?) /\ w.heap.size <= w'.heap.size) (G (Qi st rb (.slice (some ⟨b, o, none⟩) m c) m j u) cs) w := by
 have hq : good (j : Nat) := ⟨by omega, by omega⟩
 have hrun := Qp rb sb n s (j : Nat) z
 have hj0 : (0 : Int) <= j := by omega
 have hj1 : decide ((j : Int) < m) = true := by simp; omega
 have hj3 : decide (j < m) = true := by simp; omega
 have hj4 : (j : Int) < m := by omega
 have hw1 : IntKind.wrap .i64 ((j : Int) + 1) = (j : Int) + 1 := by rw [IntKind.wrap_i64]; omega
 have hc : ((j + 1 : Nat) : Int) = (j : Int) + 1 := by simp
 conv => arg 5; unfold Qi
 refine Aa z65 ?_
 clear hz
 refine Walk.callLone (L := Bs rb sb n) (Rel := fun v x w' P => v = .int .i64 0) 3 () s (.inr (.p1 (j : Nat) z)) hA I hrun (fun K e ht => ?_) Aj (by rfl) (by decide) rfl Try.func60 (by kernel_rfl) (by rfl) ⟨rfl, rfl, _, Try.func65⟩ ?_
 ·walk_nrm
  exact (put_s K e (j : Nat) z hq ht).mono fun v e' ⟨h1, h2⟩ => ⟨⟨true, 0, []⟩, h1, h2⟩
 rintro v w' y rfl hL
 have I2 : RgI rb sb n (Hn n s (j : Nat) z) w' := hL.I
 have hold : ∀ x, x < w.heap.size -> x ≠ rb -> x ≠ sb -> w'.heap[x]? = w.heap[x]? := fun x hx h1 h2 => hL.old x hx fun h => h.elim h1 h2
 have hsz := hL.size
 clear hL hrun I
 walk_nrm
 refine Aa z65 ?_
 refine Walk.ctl rfl (fun w => stepG_inLoop) ?_
 refine .stop fun d' => ⟨Ak ?_, ⟨I2.hd, I2.sl, I2.pos⟩, hold, hsz⟩
 simp only [Qi, hc]
 rfl
theorem Qdj (st rv : Value) (m : Nat) (u : Nat -> Value) (c : Frame) (cs : List Frame) (w : World) :
  Walk Try.prog main (DR V) (fun gr w' => gr = G (c.finish (.pointer (some ⟨rb, 0, none⟩))) cs /\ ∃ d, w' = w.at d) (G (Qi st rb rv m m u) (c :: cs)) w := by
 have hj1 : decide ((m : Int) < m) = false := by simp
 have hj3 : decide (m < m) = false := by simp
 conv => arg 5; unfold Qi
 refine Aa z65 ?_
 exact Be rfl rfl Try.func65 rfl (.stop fun d => ⟨rfl, d, rfl⟩)
theorem Qcj (hA : ∀ b, Bd V b) (st : Value) (b o m c : Nat) (a' : Option Addr) (ha : 0 < m -> a' = some ⟨b, o, none⟩) (l : List Int) (hl : l.length = m) (hm : m <= 17592186044416) (cs : List Frame) (w0 : World) (hne : b ≠ rb /\ b ≠ sb) (hz : ∀ (j : Nat) (z : Int), l[j]? = some z -> w0.cell? ⟨b, o + j, none⟩ = some (.int .i64 z)) :
  ∀ (r j : Nat) (s : Rg) (u : Nat -> Value) (w : World), j + r = m -> RgI rb sb n s w -> (∀ x, x < w0.heap.size -> x ≠ rb -> x ≠ sb -> w.heap[x]? = w0.heap[x]?) -> w0.heap.size <= w.heap.size ->
   Walk Try.prog main (DR V) (fun gr w' => (∃ u, gr = G (Qi st rb (.slice a' m c) m m u) cs) /\ RgI rb sb n (Zz n j (l.drop j) s) w' /\ (∀ x, x < w0.heap.size -> x ≠ rb -> x ≠ sb -> w'.heap[x]? = w0.heap[x]?) /\ w0.heap.size <= w'.heap.size) (G (Qi st rb (.slice a' m c) m j u) cs) w := by
 intro r
 induction r with
 | zero =>
  intro j s u w hj I hO hS
  have hj : j = m := hj
  subst hj
  refine .stop fun d => ⟨⟨u, rfl⟩, ?_, hO, hS⟩
  rw [List.drop_eq_nil_of_le (by omega)]
  exact ⟨I.hd, I.sl, I.pos⟩
 | succ r ih =>
  intro j s u w hj I hO hS
  have hjm : j < m := by omega
  obtain rfl := ha (by omega)
  obtain ⟨z, hzz⟩ : ∃ z, l[j]? = some z := ⟨_, List.getElem?_eq_getElem (by omega)⟩
  have hc0 := hz j z hzz
  have hb : b < w0.heap.size := Aw hc0
  have hc1 : w.cell? ⟨b, o + j, none⟩ = some (.int .i64 z) := (World.cell?_of_block (a := ⟨b, o + j, none⟩) (hO b hb hne.1 hne.2)).trans hc0
  refine (nr_go hA st b o m c j z s hjm hm u cs w I hc1).then ?_
  rintro _ w2 ⟨⟨u2, rfl⟩, I2, O2, S2⟩
  refine (ih (j + 1) _ u2 w2 (by omega) I2 (fun x hx h1 h2 => (O2 x (by omega) h1 h2).trans (hO x hx h1 h2)) (by omega)).mono ?_
  rintro _ w3 ⟨hu, I3, O3, S3⟩
  refine ⟨hu, ?_, O3, S3⟩
  have hd : l.drop j = z :: l.drop (j + 1) := by
   obtain ⟨h, e⟩ := List.getElem?_eq_some_iff.1 hzz
   rw [<- e]
   exact List.drop_eq_getElem_cons h
  rw [hd]
  exact I3
end
end
section
section
variable {main : Bool} {V : Nat -> Option Wait}
theorem Qay (xa : Option Addr) (c : Nat) (w : World) : As Try.prog main V 65 #[.slice xa 0 c] w (.pointer none) w := by
 refine Ap Try.func65 Qc fun fr cs => ?_
 simp only [Try.ntmps65, ez, Nat.reduceAdd, Nat.reduceSub]
 refine Aa z65 ?_
 exact An rfl rfl Try.func65 rfl fun d => ⟨rfl, d, rfl⟩
theorem Qdk (b o ln c : Nat) (hln : 0 < ln) (x : Int) (hx : 65536 < x) (w : World) (hc : w.cell? ⟨b, o, none⟩ = some (.int .i64 x)) : As Try.prog main V 65 #[.slice (some ⟨b, o, none⟩) ln c] w (.pointer none) w := by
 have i0 : (0 : Int) <= 0 := by omega
 have i1 : (0 : Int) < (ln : Int) := by omega
 have i2 : ((ln : Int) == 0) = false := by simp; omega
 have i3 : (ln == 0) = false := by simp; omega
 have i4 : decide (65536 < x) = true := by simp [hx]
 refine Ap Try.func65 Qc fun fr cs => ?_
 simp only [Try.ntmps65, ez, Nat.reduceAdd, Nat.reduceSub]
 refine Aa z65 ?_
 exact An rfl rfl Try.func65 rfl fun d => ⟨rfl, d, rfl⟩
theorem Qdl (b o ln c : Nat) (hln : 0 < ln) (x : Int) (hx : x <= 65536) (hok : ¬ okS (max x 0)) (w : World) (hc : w.cell? ⟨b, o, none⟩ = some (.int .i64 x)) : As Try.prog main V 65 #[.slice (some ⟨b, o, none⟩) ln c] w (.pointer none) w := by
 have hmx := @Ew Try.prog
 have i0 : (0 : Int) <= 0 := by omega
 have i1 : (0 : Int) < (ln : Int) := by omega
 have i2 : ((ln : Int) == 0) = false := by simp; omega
 have i3 : (ln == 0) = false := by simp; omega
 have i4 : decide (65536 < x) = false := by simp [hx]
 have hnew := Qdm (main := main) (V := V) (max x 0) hok w
 clear hok
 refine Ap Try.func65 Qc fun fr cs => ?_
 simp only [Try.ntmps65, ez, Nat.reduceAdd, Nat.reduceSub]
 refine Aa z65 ?_
 refine Walk.callV (x := .tuple #[.pointer none, .int .i64 1]) (W := w) ?_ Aj (by rfl) (by decide) rfl Try.func17 (by kernel_rfl) (by rfl) ?_
 ·walk_nrm
  exact hnew
 walk_nrm
 refine Aa z65 ?_
 exact An rfl rfl Try.func65 rfl fun d => ⟨rfl, d, rfl⟩
theorem nr_in (b o y c : Nat) (hcap : y + 1 <= c) (x : Int) (hx : x <= 65536) (hok : okS (max x 0)) (hA : ∀ b, Bd V b) (cs : List Frame) (w : World) (hc : w.cell? ⟨b, o, none⟩ = some (.int .i64 x)) :
  Walk Try.prog main (DR V) (fun gr w' => (∃ u a', (0 < y -> a' = some ⟨b, o + 1, none⟩) /\ gr = G (Qi (.slice (some ⟨b, o, none⟩) (y + 1) c) (w.heap.size + 1) (.slice a' y (c - 1)) y 0 u) cs) /\ NwR w (w.heap.size + 1) w.heap.size (max x 0).toNat (max x 0).toNat w') (G (Frame.enter Try.prog 65 #[.slice (some ⟨b, o, none⟩) (y + 1) c] .normal) cs) w := by
 have hmx := @Ew Try.prog
 have i0 : (0 : Int) <= 0 := by omega
 have hnew := Qcs (main := main) (V := V) (max x 0) hok w (fun b _ => hA b)
 have hu64 : Try.prog.underlying 22 = some (.slice 2) := by kernel_rfl
 have hi64 := Option.some_get (show (Try.prog.info? 2).isSome = true by kernel_rfl)
 obtain ⟨a', ha', htl⟩ := Qao (P := Try.prog) hu64 hi64.symm (by rfl) b o y c hcap
 have ht1 := fun w => (htl w #[]).1
 have ht2 := fun w es => (htl w es).2
 clear htl hok hi64
 generalize hln : y + 1 = ln at *
 have i1 : (0 : Int) < (ln : Int) := by omega
 have i5 : 0 < ln := by omega
 have i2 : ((ln : Int) == 0) = false := by simp; omega
 have i3 : (ln == 0) = false := by simp; omega
 have i4 : decide (65536 < x) = false := by simp [hx]
 rw [enter_at _ Try.func65 Qc]
 simp only [Try.ntmps65, ez, Nat.reduceAdd, Nat.reduceSub]
 refine Aa z65 ?_
 refine Ah (Post := fun v w' => v = .tuple #[.pointer (some ⟨w.heap.size + 1, 0, none⟩), .int .i64 0] /\ NwR w (w.heap.size + 1) w.heap.size (max x 0).toNat (max x 0).toNat w') ?_ Aj (by rfl) (by decide) rfl Try.func17 (by kernel_rfl) (by rfl) ?_
 ·walk_nrm
  exact hnew
 rintro v w1 ⟨rfl, E⟩
 clear hnew hc
 walk_nrm
 refine Aa z65 ?_
 refine Walk.ctl rfl (fun w => stepG_loop) ?_
 refine .stop fun d => ⟨?_, E.at d⟩
 refine (Ak (F := fun u => G (Qi (.slice (some ⟨b, o, none⟩) ln c) (w.heap.size + 1) (.slice a' y (c - 1)) y 0 u) cs) ?_).imp fun u hu => ⟨a', ha', hu⟩
 simp only [Qi]
 rfl
end
end
section
def Nu (xs : List Int) : Prop := ∃ x l, xs = x :: l /\ x <= 65536 /\ okS (max x 0)
def Ki (xs : List Int) : Nat := (max (xs.headD 0) 0).toNat
def r0R (xs : List Int) : Rg := Zz (Ki xs) 0 xs.tail (Oj (Ki xs))
section
variable {main : Bool} {V : Nat -> Option Wait}
theorem Zp (xa : Option Addr) (xs : List Int) (xc : Nat) (hn : ¬ Nu xs) (w : World) (hx : LsR (.slice xa xs.length xc) xs w) : As Try.prog main V 65 #[.slice xa xs.length xc] w (.pointer none) w := by
 cases xs with
 | nil => exact Qay xa xc w
 | cons x l =>
  obtain ⟨a, c, e, _, _, h⟩ := hx
  injection e with e1 _ e3
  obtain ⟨b, o, e2, hc⟩ := h 0 x rfl
  subst e1 e3 e2
  by_cases h1 : 65536 < x
  ·exact Qdk b o (x :: l).length xc (by simp) x h1 w hc
  ·exact Qdl b o (x :: l).length xc (by simp) x (by omega) (fun hok => hn ⟨x, l, rfl, by omega, hok⟩) w hc
theorem Yv (hA : ∀ b, Bd V b) (xa : Option Addr) (xs : List Int) (xc : Nat) (hr : Nu xs) (hxn : xs.length <= 17592186044416) (w : World) (hx : LsR (.slice xa xs.length xc) xs w) :
  CallW Try.prog main V 65 #[.slice xa xs.length xc] w (fun v w' => v = .pointer (some ⟨w.heap.size + 1, 0, none⟩) /\ RgI (w.heap.size + 1) w.heap.size (Ki xs) (r0R xs) w' /\ (∀ b, b < w.heap.size -> w'.heap[b]? = w.heap[b]?) /\ w.heap.size <= w'.heap.size) := fun fr cs => by
 obtain ⟨x, l, rfl, h1, hok⟩ := hr
 obtain ⟨a, c, e, hcap, _, h⟩ := hx
 injection e with e1 _ e3
 obtain ⟨b, o, e2, hc⟩ := h 0 x rfl
 subst e1 e3 e2
 have hb : b < w.heap.size := Aw hc
 have hz : ∀ (j : Nat) (z : Int), l[j]? = some z -> w.cell? ⟨b, o + 1 + j, none⟩ = some (.int .i64 z) := fun j z hz => by
  obtain ⟨b', o', e', hc'⟩ := h (j + 1) z (by simpa using hz)
  cases e'
  rw [show o + 1 + j = o + (j + 1) by omega]
  exact hc'
 have hl : l.length <= 17592186044416 := by simp only [List.length_cons] at hxn; omega
 refine (nr_in b o l.length xc hcap x h1 hok hA (fr :: cs) w hc).then ?_
 rintro _ w1 ⟨⟨u, a', ha', rfl⟩, E⟩
 refine (Qcj hA _ b (o + 1) l.length (xc - 1) a' ha' l rfl hl (fr :: cs) w1 ⟨by omega, by omega⟩ (fun j z hj => (World.cell?_of_block (a := ⟨b, o + 1 + j, none⟩) (E.old b hb)).trans (hz j z hj)) l.length 0 _ u w1 (Nat.zero_add _) E.I (fun _ _ _ _ => rfl) (Nat.le_refl _)).then ?_
 rintro _ w2 ⟨⟨u2, rfl⟩, I2, O2, S2⟩
 refine (Qdj _ _ l.length u2 fr cs w2).mono ?_
 rintro _ _ ⟨rfl, d, rfl⟩
 have hs := E.size
 exact ⟨_, ⟨rfl, ⟨I2.hd, I2.sl, I2.pos⟩, fun x hx => (O2 x (by omega) (by omega) (by omega)).trans (E.old x hx), by show w.heap.size <= w2.heap.size; omega⟩, rfl⟩
end
end
section
variable {main : Bool} {V : Nat -> Option Wait}
theorem Qbs (B : Nat) (c : Frame) (cs : List Frame) (w : World) (h0 : w.cell? ⟨B, 0, none⟩ = some (.slice none 0 0)) :
  Walk Try.prog main (DR V) (fun g w' => g = G (c.finish (.slice (some ⟨w.heap.size, 0, none⟩) 0 0)) cs /\ ∃ d, w' = (w.alloc (.cells (madeCells #[.bool false] 0) 4)).at d) (G (Frame.enter Try.prog 147 #[.pointer (some ⟨B, 0, none⟩)] .normal) (c :: cs)) w := by
 rw [enter_at _ Try.func147 rfl]
 simp only [Try.f147, ez, Nat.reduceAdd, Nat.reduceSub]
 refine Ae ?_
 have hi4 := Option.some_get (show (Try.prog.info? 4).isSome = true by kernel_rfl)
 refine Ek 180 (.tmp 10) (.tmp 10) rfl (by rfl) (by decide) rfl 4 _ (.bool false) 1 1 (by kernel_rfl) hi4.symm (by rfl) (by rfl) (by rfl) 0 (by rfl) (by rfl) (by omega) (by omega) ?_
 have h0' := Ai w (.cells (madeCells #[.bool false] 0) 4) h0
 walk_nrm
 simp only [Value.cells, Nat.mul_one]
 refine Ae ?_
 refine Walk.ctl rfl (fun w => stepG_loop) ?_
 refine Ae ?_
 exact (An (Post := fun v w' => v = .slice (some ⟨w.heap.size, 0, none⟩) 0 0 /\ ∃ d, w' = (w.alloc (.cells (madeCells #[.bool false] 0) 4)).at d) rfl rfl Try.func147 rfl fun d => ⟨by simp, d, rfl⟩).mono fun g w' ⟨v, ⟨e, d, e'⟩, hg⟩ => ⟨by rw [hg, e], d, e'⟩
end
section
section
variable {main : Bool} {V : Nat -> Option Wait}
theorem Zk (B tc : Nat) (ta : Option Addr) (c : Frame) (cs : List Frame) (w : World) (h0 : w.cell? ⟨B, 0, none⟩ = some (.slice none 0 0)) :
  Walk Try.prog main (DR V) (fun g w' => g = G (c.finish (.tuple #[])) cs /\ ∃ d, w' = w.at d) (G (Frame.enter Try.prog 145 #[.pointer (some ⟨B, 0, none⟩), .slice ta 0 tc] .normal) (c :: cs)) w := by
 rw [enter_at _ Try.func145 rfl]
 simp only [Try.f145, ez, Nat.reduceAdd, Nat.reduceSub]
 refine Ae ?_
 refine Walk.ctl rfl (fun w => stepG_loop) ?_
 refine Ae ?_
 exact Walk.ctl rfl (fun w => stepG_leave rfl rfl Try.func145 (results_none rfl _ _ w) (events_results_none rfl _ _)) (.stop fun d => ⟨rfl, d, rfl⟩)
theorem Zo (sa : Option Addr) (m sc tc : Nat) (ta : Option Addr) (most : Int) (og : Value) (c : Frame) (cs : List Frame) (w : World) (hog : As Try.prog main V 143 #[og] w (.slice ta 0 tc) w)
  (hs : 0 < m -> ∃ s so x, sa = some ⟨s, so, none⟩ /\ w.cell? ⟨s, so, none⟩ = some (.int .i64 x)) :
  Walk Try.prog main (DR V) (fun g w' => g = G (c.finish (.tuple #[.slice none 0 0, .bool false, .slice (some ⟨w.heap.size + 1, 0, none⟩) 0 0])) cs /\ ∃ d, w' = ((turnW w 0 most).alloc (.cells (madeCells #[.bool false] 0) 4)).at d)
   (G (Frame.enter Try.prog 112 #[og, .slice sa m sc, .int .i64 most] .normal) (c :: cs)) w := by
 have hs1 : (turnW w 0 most).heap.size = w.heap.size + 1 := by simp [turnW]
 have ht : ∀ i, (turnW w 0 most).cell? ⟨w.heap.size, i, none⟩ = (#[.slice none 0 0, .int .i64 (0 : Nat), .int .i64 (min (max most 0) 1048576), .slice none 0 0] : Array Value)[i]? := fun i => Ac (heap_alloc_new w _) i
 have t0 := (ht 0).trans rfl
 have t1 := (ht 1).trans rfl
 have t2 := (ht 2).trans rfl
 have t3 := (ht 3).trans rfl
 clear ht
 refine (over_in 0 tc m sc ta sa og most (c :: cs) w hog (nt_in 0 tc ta most (fr23t 0 tc m sc ta sa og most :: c :: cs) w)).then ?_
 rintro _ _ ⟨⟨u0, rfl⟩, d1, rfl⟩
 refine Walk.back ?_ d1
 refine (nt_out w.heap.size 0 u0 (fr23t 0 tc m sc ta sa og most) (c :: cs) _).then ?_
 rintro _ _ ⟨rfl, d2, rfl⟩
 refine Walk.back ?_ d2
 refine (Mc w.heap.size 0 tc m sc ta sa og most (c :: cs) _ (Zk w.heap.size tc ta _ (c :: cs) _ t0)).then ?_
 rintro _ _ ⟨rfl, d3, rfl⟩
 refine Walk.back ?_ d3
 refine (Kn w.heap.size 0 tc m sc ta sa og most (c :: cs) _ (follow_in w.heap.size sa m sc _ _)).then ?_
 rintro _ _ ⟨⟨u4, rfl⟩, d4, rfl⟩
 refine Walk.back ?_ d4
 have back : Walk Try.prog main (DR V) (fun g w' => g = G ((fr23b w.heap.size 0 tc m sc ta sa og most).finish (.tuple #[])) (c :: cs) /\ ∃ d, w' = (turnW w 0 most).at d) (G (hd55 w.heap.size sa m sc 0 u4) (fr23b w.heap.size 0 tc m sc ta sa og most :: c :: cs)) (turnW w 0 most) := by
  rcases Nat.eq_zero_or_pos m with hm | hm
  ·subst hm
   refine (Kq w.heap.size sa 0 sc u4 _ _).then ?_
   rintro _ _ ⟨⟨u5, rfl⟩, d5, rfl⟩
   refine Walk.back ?_ d5
   exact Lt w.heap.size sa 0 sc (0 : Nat) _ none 0 0 u5 _ (c :: cs) _ t1 t2 t3 (by simp)
  ·obtain ⟨s, so, x, rfl, hc⟩ := hs hm
   refine Kr w.heap.size s so m sc 0 x (0 : Nat) _ none 0 0 u4 _ (c :: cs) _ hm ?_ t1 t2 t3 (by simp)
   exact Ai w _ hc
 refine back.then ?_
 rintro _ _ ⟨rfl, d5, rfl⟩
 refine Walk.back ?_ d5
 refine (over_end w.heap.size 0 tc m sc ta sa og most (0 : Nat) (c :: cs) _ t1 (Qbs w.heap.size _ (c :: cs) _ t0)).then ?_
 rintro _ _ ⟨rfl, d6, rfl⟩
 refine Walk.back ?_ d6
 have t3' := Ai _ (.cells (madeCells #[.bool false] 0) 4) t3
 rw [hs1]
 refine (over_out w.heap.size (w.heap.size + 1) 0 tc m sc ta sa og most (0 : Nat) none 0 0 c cs _ t3').mono ?_
 rintro _ _ ⟨rfl, d7, rfl⟩
 exact ⟨by simp, d7, rfl⟩
theorem Qbn : Try.prog.underlying 23 = some (.slice 34) := by kernel_rfl
theorem Ij (a : Option Addr) (m cap : Nat) (w : World) (hm : m <= cap) (ha : a = none /\ cap = 0 ∨ ∃ p, a = some p) : As Try.prog main V 140 #[.slice a m cap] w (.slice a (min m 64) cap) w := by
 refine Ap Try.func140 rfl fun fr cs => ?_
 simp only [Try.ntmps140, ez, Nat.reduceAdd, Nat.reduceSub]
 have hmn := @Bx Try.prog
 refine Ae ?_
 have hmin : min (m : Int) 64 = ((min m 64 : Nat) : Int) := by omega
 rw [hmin]
 have hxl : min m 64 <= cap := by omega
 generalize min m 64 = x at hxl ⊢
 have hi := Option.some_get (show (Try.prog.info? 34).isSome = true by kernel_rfl)
 have hs := fun w => (Hy Qbn hi.symm a m cap x hxl ha w #[]).1
 have hse := fun w es => (Hy Qbn hi.symm a m cap x hxl ha w es).2
 clear hi
 refine Ae ?_
 exact An rfl rfl Try.func140 rfl fun d => ⟨by simp, d, rfl⟩
end
theorem Lz (L : La) (s0 : L.Sg) (ops : Nat -> List OpV) (most : Int) (sl : List Int) : Bu L s0 ops 0 most sl = (Ok L s0, []) := by
 have hov : Bv (Cc L 0 (min (max most 0) 1048576) ops) (Ok L s0, []) = true := rfl
 have hst : ∀ z, Bj (Cc L 0 (min (max most 0) 1048576) ops) (Ok L s0, []) z = (Ok L s0, []) := fun z => by
  unfold Bj
  rw [hov]
  exact if_neg fun h => by cases h.1
 have hfold : ∀ l : List Int, l.foldl (Bj (Cc L 0 (min (max most 0) 1048576) ops)) (Ok L s0, []) = (Ok L s0, []) := fun l => by
  induction l with
  | nil => rfl
  | cons z l ih => rw [List.foldl_cons, hst, ih]
 show Dj _ _ (sl.foldl _ (Ok L s0, [])) = _
 rw [hfold]
 generalize (Cc L 0 (min (max most 0) 1048576) ops).most.toNat = f
 cases f with
 | zero => rfl
 | succ f =>
  unfold Dj
  rw [hov]
  rfl
section
variable {L : La} {fdo : FuncId} {first cap : Array Value}
theorem Yc (hD : DoFn L fdo first cap) (y0 : L.Gh) (s0 : L.Sg) (tv : Value) (most : Int) (ta : Option Addr) (tb toff tc n : Nat) (hta : 0 < n -> ta = some ⟨tb, toff, none⟩) (hn : n <= 64) (oa : Nat -> Option Addr) (ln oc : Nat -> Nat) (ops : Nat -> List OpV) (sa : Option Addr) (sc : Nat) (sl : List Int) (hsl : sl.length <= 17592186044416) (c : Frame) (cs : List Frame) (w : World)
  (I : OpsIn tb toff n oa ln oc ops w) (hI : L.I y0 s0 w) (hns : ∀ i, i < n -> ∀ (j : Nat) (o : OpV), (ops i)[j]? = some o -> ∀ b off, oa i = some ⟨b, off, none⟩ -> ¬ L.sh y0 b)
  (hsc : ∀ (j : Nat) (z : Int), sl[j]? = some z -> ∃ s so, sa = some ⟨s, so, none⟩ /\ w.cell? ⟨s, so + j, none⟩ = some (.int .i64 z) /\ ¬ L.sh y0 s)
  (hp : ∀ w' : World, (∀ b, b < w.heap.size -> w'.heap[b]? = w.heap[b]?) -> As Try.prog true (fun _ => none) 140 #[tv] w' (.slice ta n tc) w') :
  Runs (fun g w' => ∃ cells, OpsOut L y0 s0 ops n most sl w w' cells /\ g = G (c.finish (.agg cells)) cs) (G (Frame.enter Try.prog 66 #[tv, .func (.func fdo) first cap, .slice sa sl.length sc, .int .i64 most] .normal) (c :: cs)) w := by
 rcases Nat.eq_zero_or_pos n with h0 | h1
 ·subst h0
  have hA : ∀ b, Bd (fun _ => none) b := fun b => ⟨fun _ _ _ _ h => (by cases h), fun _ _ h => (by cases h)⟩
  refine Runs.walk (ops_in fdo first cap tv (.slice sa sl.length sc) most ta tb toff tc 0 hta hn oa ln oc ops c cs w I (fun b _ => hA b) hp) ?_
  rintro _ w2 ⟨fr, w1, rfl, o1, s1, hT, M, hB⟩
  have s2 : w2.heap.size = w.heap.size + 1 + 4 + 2 * 0 := M.size
  have hN := M.cN
  have o2 : ∀ b, b < w.heap.size + 1 -> w2.heap[b]? = w1.heap[b]? := fun b hb => M.old b hb
  have hc2 : ∀ {b j : Nat} {v : Value}, w.cell? ⟨b, j, none⟩ = some v -> w2.cell? ⟨b, j, none⟩ = some v := fun {b j v} h => (World.cell?_of_block (a := ⟨b, j, none⟩) ((o2 b (by have := Aw h; omega)).trans (o1 b (Aw h)))).trans h
  refine Runs.walk (Zo sa sl.length sc 0 (some ⟨w.heap.size + 4, 0, none⟩) most _ fr (c :: cs) w2 ?_ fun h => ?_) ?_
  ·have := Mo (main := true) (V := fun _ => none) (w.heap.size + 4) 0 0 w2 (Nat.le_refl _)
   simpa using this
  ·obtain ⟨s, so, e, hc, _⟩ := hsc 0 (sl[0]'h) (List.getElem?_eq_getElem h)
   exact ⟨s, so, _, e, hc2 hc⟩
  rintro _ _ ⟨rfl, d, rfl⟩
  have o3 : ∀ b, b < w2.heap.size -> ((turnW w2 0 most).alloc (.cells (madeCells #[.bool false] 0) 4)).heap[b]? = w2.heap[b]? := fun b hb => by
   rw [Ad _ _ (by simp [turnW]; omega)]
   exact Ad _ _ hb
  have s3 : w2.heap.size <= ((turnW w2 0 most).alloc (.cells (madeCells #[.bool false] 0) 4)).heap.size := by simp [turnW]; omega
  generalize (turnW w2 0 most).alloc (.cells (madeCells #[.bool false] 0) 4) = w3 at *
  have hT3 : (w3.at d).heap[w.heap.size]? = some (.cells #[.slice none 0 0, .slice none 0 0, .slice none 0 0, .bool false] 31) := (o3 _ (by omega)).trans ((o2 _ (by omega)).trans hT)
  refine Runs.walk (hB none 0 0 _ false _ hT3 (hA _)) ?_
  rintro _ _ ⟨rfl, d', rfl⟩
  have hset : ∀ b, b ≠ w.heap.size -> ((w3.at d).setRow w.heap.size #[.slice (some ⟨w.heap.size + 2, 0, none⟩) 0 0, .slice none 0 0, .slice none 0 0, .bool false]).heap[b]? = w3.heap[b]? := fun b hb => Av _ _ hb
  have hold : ∀ b, b < w.heap.size -> ((w3.at d).setRow w.heap.size #[.slice (some ⟨w.heap.size + 2, 0, none⟩) 0 0, .slice none 0 0, .slice none 0 0, .bool false]).heap[b]? = w.heap[b]? := fun b hb => (hset b (by omega)).trans ((o3 b (by omega)).trans ((o2 b (by omega)).trans (o1 b hb)))
  have e1 : (Bu L s0 ops 0 most sl).2 = [] := by rw [Lz]
  have e2 : (Bu L s0 ops 0 most sl).1 = Ok L s0 := by rw [Lz]
  refine .now ⟨_, ⟨?_, fun b hb _ => hold b hb, ?_⟩, rfl⟩
  ·rw [e1, e2]
   refine ⟨y0, w.heap.size + 2, none, 0, fun _ => .slice none 0 0, fun _ _ => False, ⟨rfl, ⟨rfl, .inl ⟨rfl, rfl⟩⟩, by omega, ⟨madeCells #[.slice none 0 0] 0, (hset _ (by omega)).trans ((o3 _ (by omega)).trans hN), Ff _ _, fun i hi => absurd hi (Nat.not_lt_zero _)⟩, fun i hi => absurd hi (Nat.not_lt_zero _), fun _ _ _ h => h.elim, fun _ _ h => h.elim, fun _ _ h => h.elim, fun b h => ⟨?_, fun e => (by cases e)⟩, fun e => (by cases e), L.refl _, L.stable hI fun b h => hold b (L.lt hI h), fun b h _ => h⟩⟩
   have := L.lt hI h; omega
  ·show w.heap.size <= (World.setRow _ _ _).heap.size
   rw [Bg]
   show _ <= w3.heap.size
   omega
 ·obtain rfl := hta h1
  exact ops_run hD y0 s0 tv most tb toff tc n h1 hn oa ln oc ops sa sc sl hsl c cs w I hI hns hsc hp
end
end
noncomputable def reg15_0 := rk Try.f15.body 0
noncomputable def reg15_1 := rk Try.f15.body 1
noncomputable def reg15_2 := rk Try.f15.body 2
noncomputable def reg15_3 := rk Try.f15.body 3
noncomputable def reg15_4 := rk Try.f15.body 4
theorem z15 : reg15_0.size = 1 /\ reg15_1.size = 3 /\ reg15_2.size = 8 /\ reg15_3.size = 4 /\ reg15_4.size = 2 := by and_intros <;> kernel_rfl
theorem Qt : Try.f15.body = some (.seq (.region 0 reg15_0 false) (.seq (.region 1 reg15_1 false) (.seq (.region 2 reg15_2 false) (.seq (.region 3 reg15_3 false) (.seq (.region 4 reg15_4 false) (.ret)))))) := by kernel_rfl
def Qdz (T0 rb sb n : Nat) (fr c : Frame) (cs : List Frame) : Prop := ∀ (A na : Nat) (oo : Option Addr) (ol ok : Nat) (stuck : Bool) (s : Rg) (w : World), rb ≠ T0 -> sb ≠ T0 -> RgI rb sb n s w -> w.heap[T0]? = some (.cells #[.slice none 0 0, .slice none 0 0, .slice none 0 0, .bool false] 31) ->
 Walk Try.prog true (DR (fun _ => none)) (fun g w' => ∃ B bc, g = G (c.finish (.agg #[.slice (some ⟨A, 0, none⟩) na na, .slice oo ol ok, .slice (some ⟨B, 0, none⟩) (n + n) bc, .bool stuck])) cs /\ w'.ownsRow w.heap.size 2 1 (.slice (some ⟨B, 0, none⟩) (n + n) bc) (n + n) ((Lc n s).map fun z => .int .i64 z) /\ (∀ b, b < w.heap.size -> b ≠ T0 -> w'.heap[b]? = w.heap[b]?) /\ w.heap.size <= w'.heap.size)
  (G (fr.finish (.agg #[.slice (some ⟨A, 0, none⟩) na na, .slice oo ol ok, .slice none 0 0, .bool stuck])) (c :: cs)) w
theorem Qaj (sl : Value) (xs : List Int) (hxn : xs.length <= 17592186044416) (tv sv : Value) (most : Int) (c : Frame) (cs : List Frame) (w : World) (hx : LsR sl xs w) (hr : Nu xs) :
  Walk Try.prog true (DR (fun _ => none)) (fun g w' => ∃ fr, g = G (Frame.enter Try.prog 66 #[tv, .func (.func 67) #[.pointer (some ⟨w.heap.size + 2, 0, none⟩)] #[], sv, .int .i64 most] .normal) (fr :: c :: cs) /\ RgI (w.heap.size + 2) (w.heap.size + 1) (Ki xs) (r0R xs) w' /\ (∀ b, b < w.heap.size -> w'.heap[b]? = w.heap[b]?) /\ w.heap.size + 1 <= w'.heap.size /\
    w'.heap[w.heap.size]? = some (.cells #[.slice none 0 0, .slice none 0 0, .slice none 0 0, .bool false] 31) /\ Qdz w.heap.size (w.heap.size + 2) (w.heap.size + 1) (Ki xs) fr c cs)
   (G (Frame.enter Try.prog 15 #[sl, tv, sv, .int .i64 most] .normal) (c :: cs)) w := by
 have hA : ∀ b, Bd (fun _ => none) b := fun b => ⟨fun _ _ _ _ h => (by cases h), fun _ _ h => (by cases h)⟩
 obtain ⟨fsT, huT⟩ := Co 31 (by kernel_rfl)
 rw [enter_at _ Try.func15 Qt]
 simp only [Try.ntmps15, ez, Nat.reduceAdd, Nat.reduceSub]
 refine Aa z15 ?_
 (refine Walk.oa ?_; try walk_nrm)
 have s1 : (w.alloc (.cells #[.slice none 0 0, .slice none 0 0, .slice none 0 0, .bool false] 31)).heap.size = w.heap.size + 1 := by simp
 have o1 : ∀ b, b < w.heap.size -> (w.alloc (.cells #[.slice none 0 0, .slice none 0 0, .slice none 0 0, .bool false] 31)).heap[b]? = w.heap[b]? := fun b hb => Ad _ _ hb
 have d1 := heap_alloc_new w (.cells #[.slice none 0 0, .slice none 0 0, .slice none 0 0, .bool false] 31)
 generalize hN : w.heap.size = T0 at *
 generalize w.alloc (.cells #[.slice none 0 0, .slice none 0 0, .slice none 0 0, .bool false] 31) = w1 at *
 refine Aa z15 ?_
 have hx1 : LsR sl xs w1 := hx.same (fun b hb => o1 b (by omega))
 obtain ⟨xa, xc, rfl, hxr⟩ := hx
 clear hxr
 refine Ah (Post := fun v w' => v = .pointer (some ⟨w1.heap.size + 1, 0, none⟩) /\ RgI (w1.heap.size + 1) w1.heap.size (Ki xs) (r0R xs) w' /\ (∀ b, b < w1.heap.size -> w'.heap[b]? = w1.heap[b]?) /\ w1.heap.size <= w'.heap.size) ?_ Aj (by rfl) (by decide) rfl Try.func65 (by kernel_rfl) (by rfl) ?_
 ·walk_nrm
  exact Yv hA xa xs xc hr hxn w1 hx1
 rintro v w2 ⟨rfl, hI, hO, hS⟩
 rw [s1] at hI hO hS ⊢
 have hk15 := hI.pos
 generalize r0R xs = s0 at *
 generalize Ki xs = n at *
 clear hx1
 walk_nrm
 refine Aa z15 ?_
 refine Walk.callE Aj (by rfl) (by decide) rfl Try.func66 (by kernel_rfl) (by rfl) ?_
 walk_nrm
 refine .stop fun d => ⟨_, rfl, ⟨hI.hd, hI.sl, hI.pos⟩, fun b hb => (hO b (by omega)).trans (o1 b (by omega)), show T0 + 1 <= w2.heap.size by omega, (hO T0 (by omega)).trans d1, ?_⟩
 intro A na oo ol ok stuck s w4 hne hne2 I4 hT
 refine Walk.finish Aj ?_
 walk_nrm
 (refine Walk.oa ?_; try walk_nrm)
 have d5 := heap_alloc_new w4 (.cells #[.slice none 0 0, .slice none 0 0, .slice none 0 0, .bool false] 31)
 have s5 : (w4.alloc (.cells #[.slice none 0 0, .slice none 0 0, .slice none 0 0, .bool false] 31)).heap.size = w4.heap.size + 1 := by simp
 have o5 : ∀ b, b < w4.heap.size -> (w4.alloc (.cells #[.slice none 0 0, .slice none 0 0, .slice none 0 0, .bool false] 31)).heap[b]? = w4.heap[b]? := fun b hb => Ad _ _ hb
 have hT0 : T0 < w4.heap.size := (Array.getElem?_eq_some_iff.1 hT).1
 generalize hT1 : w4.heap.size = T1 at *
 generalize w4.alloc (.cells #[.slice none 0 0, .slice none 0 0, .slice none 0 0, .bool false] 31) = w5 at *
 refine Az 31 (.tmp 10) (.tmp 18) Aj (by rfl) (by decide) rfl T1 #[.slice (some ⟨A, 0, none⟩) na na, .slice oo ol ok, .slice none 0 0, .bool stuck] _ 31 rfl rfl d5 (by kernel_rfl) (by rfl) (by simp [Value.oneCell']) (hA _) ?_
 have d6 := Bk (cells := #[.slice (some ⟨A, 0, none⟩) na na, .slice oo ol ok, .slice none 0 0, .bool stuck]) d5
 have o6 : ∀ b, b < T1 -> (w5.setRow T1 #[.slice (some ⟨A, 0, none⟩) na na, .slice oo ol ok, .slice none 0 0, .bool stuck]).heap[b]? = w4.heap[b]? := fun b hb => (Av _ _ (by omega)).trans (o5 b (by omega))
 have s6 := Bg w5 T1 #[.slice (some ⟨A, 0, none⟩) na na, .slice oo ol ok, .slice none 0 0, .bool stuck]
 rw [s5] at s6
 generalize w5.setRow T1 #[.slice (some ⟨A, 0, none⟩) na na, .slice oo ol ok, .slice none 0 0, .bool stuck] = w6 at *
 have hlt4 := I4.lt
 rw [hT1] at hlt4
 have I6 : RgI (T0 + 1 + 1) (T0 + 1) n s w6 := I4.old (o6 _ hlt4.1) (o6 _ hlt4.2)
 walk_nrm
 refine Aa z15 ?_
 refine Ah (Post := StR n s w6) ?_ Aj (by rfl) (by decide) rfl Try.func68 (by kernel_rfl) (by rfl) ?_
 ·walk_nrm
  exact Qaq w6 I6 (fun b _ => hA b)
 rintro v w7 ⟨B, bc, rfl, hrow, hold7, hs7⟩
 have hrB := hrow.lt B rfl
 have d7 := (hold7 T1 (by omega)).trans d6
 have c7 := (Ac d7 2).trans rfl
 have z7 := Aq d7 2
 walk_nrm
 repeat (first | (refine Walk.oq ?_; try walk_nrm) | (refine Bn ?_; walk_nrm))
 (have hfr := (hA T1).1 ⟨T1, 2, none⟩ rfl; refine Walk.os hfr c7 ?_; clear hfr; try walk_nrm)
 have d8 : (w7.setCell ⟨T1, 2, none⟩ (.slice (some ⟨B, 0, none⟩) (n + n) bc)).heap[T1]? = some (.cells #[.slice (some ⟨A, 0, none⟩) na na, .slice oo ol ok, .slice (some ⟨B, 0, none⟩) (n + n) bc, .bool stuck] 31) := by
  rw [Am _ _ d7]
  simp
 have o8 : ∀ b, b ≠ T1 -> (w7.setCell ⟨T1, 2, none⟩ (.slice (some ⟨B, 0, none⟩) (n + n) bc)).heap[b]? = w7.heap[b]? := fun b hb => Ab _ _ _ _ hb
 have s8 := Af w7 ⟨T1, 2, none⟩ (.slice (some ⟨B, 0, none⟩) (n + n) bc)
 clear c7 z7
 generalize w7.setCell ⟨T1, 2, none⟩ (.slice (some ⟨B, 0, none⟩) (n + n) bc) = w8 at *
 refine Aa z15 ?_
 refine Walk.loadS 31 (.tmp 10) Aj (by rfl) (by decide) rfl T1 0 [.slice (some ⟨A, 0, none⟩) na na, .slice oo ol ok, .slice (some ⟨B, 0, none⟩) (n + n) bc, .bool stuck] (.struct fsT) rfl (fun j v hj => ?_) huT rfl (by kernel_rfl) ?_
 ·rw [Nat.zero_add, Ac d8]
  simpa using hj
 have dT : w8.heap[T0]? = some (.cells #[.slice none 0 0, .slice none 0 0, .slice none 0 0, .bool false] 31) := (o8 T0 (by omega)).trans ((hold7 T0 (by omega)).trans ((o6 T0 (by omega)).trans hT))
 walk_nrm
 refine Az 31 (.tmp 8) (.tmp 22) Aj (by rfl) (by decide) rfl T0 #[.slice (some ⟨A, 0, none⟩) na na, .slice oo ol ok, .slice (some ⟨B, 0, none⟩) (n + n) bc, .bool stuck] _ 31 rfl rfl dT (by kernel_rfl) (by rfl) (by simp [Value.oneCell']) (hA _) ?_
 have d9 := Bk (cells := #[.slice (some ⟨A, 0, none⟩) na na, .slice oo ol ok, .slice (some ⟨B, 0, none⟩) (n + n) bc, .bool stuck]) dT
 walk_nrm
 refine Aa z15 ?_
 refine Cj (T := T0) rfl rfl rfl Try.func15 rfl (by rfl) d9 (by kernel_rfl) (by kernel_rfl) (.stop fun d => ⟨B, bc, rfl, ?_, fun b hb hbT => ?_, ?_⟩)
 ·refine Ao (row_raise hrow fun g hg => ?_) fun g hg => (Av _ _ ?_).trans (o8 g ?_)
  all_goals (have hg : B = g := Option.some.inj hg; omega)
 ·exact (Av _ _ hbT).trans ((o8 b (by omega)).trans ((hold7 b (by omega)).trans (o6 b hb)))
 ·show T1 <= (w8.setRow _ _).heap.size
  rw [Bg]
  omega
end Go.Proofs.Ytcdcnmphjhfbpaa
