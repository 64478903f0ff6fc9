/- Part 13. -/
import Derived.Test.YtjenoiekfkhafaaJ2
import Derived.Test.YtjenoiekfkhafaaJ3
import Derived.Test.YtjenoiekfkhafaaJ10
import Derived.Test.YtjenoiekfkhafaaJ12
set_option linter.unusedSimpArgs false
set_option linter.unusedVariables false
set_option linter.unusedVariables false
set_option maxHeartbeats 8000000
set_option maxRecDepth 100000
namespace Go.Proofs.Ytjenoiekfkhafaa
open Go.Conc Go.RowKit Go.Relay
open Go.ConcN (upd upd_ne upd_same)
section
def DoOK (L : La) (f : FuncId) (first cap : Array Value) : Prop := ∀ (sv : Value) (K : Lg L sv) (e : K.E) (th : Int) (op : OpV), K.tgt e = L.enter (K.s e) th op ->
 SCall K.toLb f (first ++ #[sv, .int .i64 th, Bu op] ++ cap) e (fun v e' => ∃ a sl, K.tgt e' = (K.s e', .inl a) /\ v = Bw a sl /\ LsR sl a.l (K.w e') /\ a.l.length <= 1048576)
noncomputable def reg64_0 := rk Try.f64.body 0
noncomputable def reg64_1 := rk Try.f64.body 1
noncomputable def reg64_2 := rk Try.f64.body 2
noncomputable def reg64_3 := rk Try.f64.body 3
noncomputable def reg64_4 := rk Try.f64.body 4
noncomputable def reg64_5 := rk Try.f64.body 5
theorem z64 : reg64_0.size = 2 /\ reg64_1.size = 2 /\ reg64_2.size = 2 /\ reg64_3.size = 7 /\ reg64_4.size = 5 /\ reg64_5.size = 2 := by and_intros <;> kernel_rfl
theorem code64_is : Try.f64.body = some (.seq (.region 0 reg64_0 false) (.seq (.seq (.region 1 reg64_1 false) (.cond (.tmp 11 ) (.seq (.region 2 reg64_2 false) (.ret)) (.skip))) (.seq (.region 3 reg64_3 false) (.seq (.region 4 reg64_4 false) (.seq (.region 5 reg64_5 false) (.ret)))))) := by kernel_rfl
section
variable {L : La} {sv : Value}
theorem doOne_s (K : Lg L sv) (e : K.E) (op : OpV) (th : Int) (f : FuncId) (fn : Func) (first cap : Array Value) (hf : Try.prog.funcs[f]? = some fn) (hname : (fn.name == "runtime.NumGoroutine") = false) (hb : fn.body.isNone = false) (hdo : DoOK L f first cap) (ht : K.tgt e = L.enter (K.s e) th op) :
  SCall K.toLb 64 #[.func (.func f) first cap, sv, .int .i64 th, Bu op] e (fun v e' => ∃ a sl, K.tgt e' = (K.s e', .inl a) /\ v = Bw a sl /\ LsAt (K.w e).heap.size (K.mine e') sl a.l (K.w e')) := by
 intro fr l hp hl hk
 obtain ⟨fsO, huO⟩ := Cf 47 (by kernel_rfl)
 obtain ⟨fsA, huA⟩ := Cf 44 (by kernel_rfl)
 have hn1 := fun w => run_eql_func (P := Try.prog) (w := w) 83 (.func f) first cap (by kernel_rfl : Try.prog.underlying 83 = some (.func #[90, 3, 47] #[44] false))
 have hn2 := fun w es => ev_eql_func (P := Try.prog) (w := w) 83 (.func f) first cap es (by kernel_rfl : Try.prog.underlying 83 = some (.func #[90, 3, 47] #[44] false))
 unfold LW
 obtain ⟨ok, oa, ob, oc⟩ := op
 simp only [Bu] at *
 rw [enter_at _ Try.func64 code64_is]
 simp only [Try.ntmps64, ez, Nat.reduceAdd, Nat.reduceSub]
 refine Aa z64 ?_
 (refine Walk.oa ?_; try walk_nrm)
 (refine Walk.oa ?_; try walk_nrm)
 refine Aa z64 ?_
 have hsz : (((K.w e).alloc (.cells #[.int .i64 ok, .int .i64 oa, .int .i64 ob, .int .i64 oc] 47)).alloc (.cells #[.bool false, .int .i64 0, .slice none 0 0] 44)).heap.size = (K.w e).heap.size + 2 := by simp
 have hA1 : ((K.w e).alloc (.cells #[.int .i64 ok, .int .i64 oa, .int .i64 ob, .int .i64 oc] 47)).heap.size = (K.w e).heap.size + 1 := by simp
 have c1 : (((K.w e).alloc (.cells #[.int .i64 ok, .int .i64 oa, .int .i64 ob, .int .i64 oc] 47)).alloc (.cells #[.bool false, .int .i64 0, .slice none 0 0] 44)).heap[(K.w e).heap.size]? = some (.cells #[.int .i64 ok, .int .i64 oa, .int .i64 ob, .int .i64 oc] 47) := by
  rw [Ab _ _ (by omega)]
  exact heap_alloc_new _ _
 have c2 : (((K.w e).alloc (.cells #[.int .i64 ok, .int .i64 oa, .int .i64 ob, .int .i64 oc] 47)).alloc (.cells #[.bool false, .int .i64 0, .slice none 0 0] 44)).heap[(K.w e).heap.size + 1]? = some (.cells #[.bool false, .int .i64 0, .slice none 0 0] 44) := by
  have := heap_alloc_new ((K.w e).alloc (.cells #[.int .i64 ok, .int .i64 oa, .int .i64 ob, .int .i64 oc] 47)) (.cells #[.bool false, .int .i64 0, .slice none 0 0] 44)
  rwa [hA1] at this
 obtain ⟨e1, m1⟩ := K.grow e (w' := ((K.w e).alloc (.cells #[.int .i64 ok, .int .i64 oa, .int .i64 ob, .int .i64 oc] 47)).alloc (.cells #[.bool false, .int .i64 0, .slice none 0 0] 44)) (by omega) (fun b hb' => by
  rw [Ab _ _ (by omega)]
  exact Ab _ _ hb')
 try simp only [hA1]
 generalize hw2 : ((K.w e).alloc (.cells #[.int .i64 ok, .int .i64 oa, .int .i64 ob, .int .i64 oc] 47)).alloc (.cells #[.bool false, .int .i64 0, .slice none 0 0] 44) = w2 at *
 generalize hN : (K.w e).heap.size = N at *
 refine Walk.loadS 47 (.tmp 7) Ao (by rfl) (by decide) rfl N 0 [.int .i64 ok, .int .i64 oa, .int .i64 ob, .int .i64 oc] (.struct fsO) rfl (fun j v hj => ?_) huO rfl (by kernel_rfl) ?_
 ·rw [Nat.zero_add, Ad c1]
  simpa using hj
 walk_nrm
 refine Aa z64 ?_
 refine Walk.ctl rfl (fun w' => Dw Ao (by rfl) (by decide) rfl rfl hf hname hb) ?_
 walk_nrm
 generalize hX : Frame.at _ _ _ = X
 refine Dq (l := X :: fr :: l) m1 ?_
 have hpX : Bf X := by subst hX; exact ⟨rfl, rfl, _, Try.func64⟩
 have hpl : ∀ x ∈ fr :: l, Bf x := fun x hx => by
  rcases List.mem_cons.1 hx with rfl | hx
  ·exact hp
  ·exact hl x hx
 refine (Cs K (hdo sv (Fz K e1) (fz0 K e1) th ⟨ok, oa, ob, oc⟩ (by show K.tgt e1 = L.enter (K.s e1) _ _; rw [m1.tgt, m1.s, ht]))) X (fr :: l) hpX hpl ?_
 rintro v e2 ⟨hkept, a, sl, ht2, rfl, hls, hlsn⟩
 replace hls : LsR sl a.l (K.w e2) := hls
 obtain ⟨hm2, hb2⟩ := hkept (N + 1) (m1.new (by omega) (by omega))
 rw [m1.w, c2] at hb2
 have hap2 := (K.mineA e2 _ hm2).1
 have hlt2 := (K.mineA e2 _ hm2).2.2
 rw [<- hX]
 clear hX hpX
 unfold LW
 simp only [Bw]
 refine Walk.finish Ao ?_
 walk_nrm
 (refine Walk.oa ?_; try walk_nrm)
 have hap3 := K.newA e2 _ (Nat.le_refl (K.w e2).heap.size)
 have c3 := heap_alloc_new (K.w e2) (.cells #[.bool false, .int .i64 0, .slice none 0 0] 44)
 have c4 : ((K.w e2).alloc (.cells #[.bool false, .int .i64 0, .slice none 0 0] 44)).heap[N + 1]? = _ := (Ab _ _ hlt2).trans hb2
 have hs3 : ((K.w e2).alloc (.cells #[.bool false, .int .i64 0, .slice none 0 0] 44)).heap.size = (K.w e2).heap.size + 1 := by simp
 have o3 : ∀ b, b < (K.w e2).heap.size -> ((K.w e2).alloc (.cells #[.bool false, .int .i64 0, .slice none 0 0] 44)).heap[b]? = (K.w e2).heap[b]? := fun b hb' => Ab _ _ hb'
 generalize hM : (K.w e2).heap.size = M at *
 generalize (K.w e2).alloc (.cells #[.bool false, .int .i64 0, .slice none 0 0] 44) = w3 at *
 refine Ap 44 (.tmp 9) (.tmp 17) Ao (by rfl) (by decide) rfl M #[.bool a.ok, .int .i64 a.n, sl] _ 44 rfl rfl c3 (by kernel_rfl) (by rfl) (by rcases hls with ⟨_, _, rfl, _⟩; simp [Value.oneCell']) hap3 ?_
 have c5 := setRow_self (cells := #[.bool a.ok, .int .i64 a.n, sl]) c3
 have c6 : (w3.setRow M #[.bool a.ok, .int .i64 a.n, sl]).heap[N + 1]? = _ := (Aq w3 _ (show N + 1 ≠ M by omega)).trans c4
 have hs4 := Az w3 M #[.bool a.ok, .int .i64 a.n, sl]
 have o4 : ∀ b, b < M -> (w3.setRow M #[.bool a.ok, .int .i64 a.n, sl]).heap[b]? = (K.w e2).heap[b]? := fun b hb' => (Aq w3 _ (show b ≠ M by omega)).trans (o3 b hb')
 generalize w3.setRow M #[.bool a.ok, .int .i64 a.n, sl] = w4 at *
 have hle3 := hls.same (w' := w4) (fun b hb' => o4 b (by omega))
 have d2 := Ad c5 2
 have z2 := An c5 2
 simp only [List.getElem?_toArray, List.getElem?_cons_succ, List.getElem?_cons_zero] at d2
 have hs4' : w4.heap.size = M + 1 := by omega
 walk_nrm
 refine Aa z64 ?_
 refine Ah (Post := fun v w' => LsAt w4.heap.size (fun b => w4.heap.size <= b /\ b < w'.heap.size) v a.l w' /\ w4.heap.size <= w'.heap.size /\ ∀ b, b < w4.heap.size -> w'.heap[b]? = w4.heap[b]?) ?_ Ao (by rfl) (by decide) rfl Try.func81 (by kernel_rfl) (by rfl) ?_
 ·walk_nrm
  exact clone_w w4 sl a.l hle3 hlsn (fun b hb => K.newA e2 b (by omega))
 rintro sl' w4' ⟨hls', hs4'', o4''⟩
 obtain ⟨sa, sc, rfl⟩ : ∃ sa sc, sl' = .slice sa a.l.length sc := by
  obtain ⟨x, y, h, _⟩ := hls'
  exact ⟨x, y, h⟩
 have c5' := (o4'' M (by omega)).trans c5
 have d2' := Ad c5' 2
 have z2' := An c5' 2
 simp only [List.getElem?_toArray, List.getElem?_cons_succ, List.getElem?_cons_zero] at d2'
 clear d2 z2
 have d2 := d2'
 have z2 := z2'
 clear d2' z2'
 walk_nrm
 refine Aa z64 ?_
 (have hfr := hap3.1 ⟨M, 2, none⟩ rfl; refine Walk.os hfr d2 ?_; clear hfr; try walk_nrm)
 have c7 : (w4'.setCell ⟨M, 2, none⟩ (.slice sa a.l.length sc)).heap[M]? = some (.cells #[.bool a.ok, .int .i64 a.n, (.slice sa a.l.length sc)] 44) := by
  rw [Ak _ _ c5']
  simp
 have c8 : (w4'.setCell ⟨M, 2, none⟩ (.slice sa a.l.length sc)).heap[N + 1]? = _ := (Ac w4' _ _ _ (show N + 1 ≠ M by omega)).trans ((o4'' _ (by omega)).trans c6)
 have hs5 := Ai w4' ⟨M, 2, none⟩ (.slice sa a.l.length sc)
 have o5 : ∀ b, b < M -> (w4'.setCell ⟨M, 2, none⟩ (.slice sa a.l.length sc)).heap[b]? = (K.w e2).heap[b]? := fun b hb' => (Ac w4' _ _ _ (show b ≠ M by omega)).trans ((o4'' b (by omega)).trans (o4 b hb'))
 have hls5 := hls'.same (w' := w4'.setCell ⟨M, 2, none⟩ (.slice sa a.l.length sc)) (fun b hb' => Ac w4' _ _ _ (show b ≠ M by omega))
 generalize w4'.setCell ⟨M, 2, none⟩ (.slice sa a.l.length sc) = w5 at *
 refine Aa z64 ?_
 refine Walk.loadS 44 (.tmp 9) Ao (by rfl) (by decide) rfl M 0 [.bool a.ok, .int .i64 a.n, (.slice sa a.l.length sc)] (.struct fsA) rfl (fun j v hj => ?_) huA rfl (by kernel_rfl) ?_
 ·rw [Nat.zero_add, Ad c7]
  simpa using hj
 walk_nrm
 refine Ap 44 (.tmp 8) (.tmp 22) Ao (by rfl) (by decide) rfl (N + 1) #[.bool a.ok, .int .i64 a.n, (.slice sa a.l.length sc)] _ 44 rfl rfl c8 (by kernel_rfl) (by rfl) (by simp [Value.oneCell']) hap2 ?_
 have c9 := setRow_self (cells := #[.bool a.ok, .int .i64 a.n, (.slice sa a.l.length sc)]) c8
 have hls6 := hls5.same (w' := w5.setRow (N + 1) #[.bool a.ok, .int .i64 a.n, (.slice sa a.l.length sc)]) (fun b hb' => Aq w5 _ (show b ≠ N + 1 by omega))
 obtain ⟨e3, m3⟩ := K.own e2 (w' := w5.setRow (N + 1) #[.bool a.ok, .int .i64 a.n, (.slice sa a.l.length sc)]) (by rw [Az]; omega) (fun b hb' hbm => (Aq w5 _ (fun he : b = N + 1 => hbm (by rw [he]; exact hm2))).trans (o5 b (by omega)))
 have hnew : ∀ b, (w4.heap.size <= b /\ b < w4'.heap.size) -> K.mine e3 b := fun b hb => (m3.mine b).2 (.inr ⟨by omega, by rw [Az]; omega⟩)
 generalize w5.setRow (N + 1) #[.bool a.ok, .int .i64 a.n, (.slice sa a.l.length sc)] = w6 at *
 walk_nrm
 refine Aa z64 ?_
 refine Ec (T := N + 1) rfl rfl rfl Try.func64 rfl (by rfl) c9 (by kernel_rfl) (by kernel_rfl) ?_
 refine Dq m3 (hk _ e3 ⟨a, (.slice sa a.l.length sc), ?_, rfl, ?_⟩)
 ·rw [m3.tgt, m3.s]
  exact ht2
 ·rw [m3.w]
  exact (hls6.imp hnew).low (by omega)
end
end
section
theorem ListOK.ne {L : La} {sv : Value} {K : Lg L sv} {e : K.E} {sl : Value} {ls : List Int} (h : ListOK K e sl ls) {R : Nat} {arr : Array Value} (hR : (K.w e).heap[R]? = some (.cells arr 44)) : ∀ b, sl.ownBlock = some b -> b ≠ R := by
 rcases h with ⟨rfl, rfl⟩ | ⟨B, rfl, hm, hN⟩
 ·intro b hb; cases hb
 ·intro b hb e
  have hb : some B = some b := hb
  obtain rfl := Option.some.inj hb
  subst e
  unfold NumB at hN
  rw [hR] at hN
  simp at hN
theorem ListOK.keep {L : La} {sv : Value} {K : Lg L sv} {e e' : K.E} {sl : Value} {ls : List Int} (h : ListOK K e sl ls) (hm : ∀ b, K.mine e b -> K.mine e' b) (hb : ∀ b, K.mine e b -> sl.ownBlock = some b -> (K.w e').heap[b]? = (K.w e).heap[b]?) : ListOK K e' sl ls := by
 rcases h with ⟨rfl, rfl⟩ | ⟨B, rfl, hB, hN⟩
 ·exact .inl ⟨rfl, rfl⟩
 ·exact .inr ⟨B, rfl, hm B hB, hN.same (hb B hB rfl)⟩
theorem Cn {L : La} {sv : Value} (K : Lg L sv) {F : FuncId} {fn : Func} {e2 : K.E} {fr c : Frame} {l : List Frame} {R : Nat} {a : Ans} {sl : Value} (hm : K.mine e2 R) (hR : (K.w e2).heap[R]? = some (.cells #[.bool false, .int .i64 0, .slice none 0 0] 44))
  (ht : K.tgt e2 = (K.s e2, .inl a)) (hsl : ListOK K e2 sl a.l) (hk : ∀ e', K.tgt e' = (K.s e', .inl a) -> ListOK K e' sl a.l -> LW K.toLb e' (G (c.finish (Bw a sl)) (l ++ K.bot e')))
  (hF : Try.prog.funcs[F]? = some fn) (hres : fn.results = #[.cell 8 44]) (hfr : fr.mode = .returning /\ fr.kind = .normal /\ fr.defers = [] /\ fr.fn = F /\ fr.tmps.getD 8 undef = .pointer (some ⟨R, 0, none⟩)) :
  Walk Try.prog K.main (DR (K.V e2)) (K.Stop e2) (G fr (c :: (l ++ K.bot e2))) ((K.w e2).setRow R #[.bool a.ok, .int .i64 a.n, sl]) := by
 obtain ⟨h1, h2, h3, h4, h5⟩ := hfr
 obtain ⟨e3, m⟩ := K.own e2 (w' := (K.w e2).setRow R #[.bool a.ok, .int .i64 a.n, sl]) (by rw [Az]; exact Nat.le_refl _) (fun b _ hbm => Aq _ _ (fun he : b = R => hbm (by rw [he]; exact hm)))
 have c9 := setRow_self (cells := #[.bool a.ok, .int .i64 a.n, sl]) hR
 refine Ec (T := R) h1 h2 h3 (by rw [h4]; exact hF) hres h5 c9 (by kernel_rfl) (by kernel_rfl) ?_
 refine Dq m (hk e3 ?_ ?_)
 ·rw [m.tgt, m.s]
  exact ht
 ·refine hsl.keep (fun b h => (m.mine b).2 (.inl h)) fun b _ hb => ?_
  rw [m.w]
  exact Aq _ _ (hsl.ne hR b hb)
section
variable {lb k : Nat} {sv : Value}
theorem Oo (K : Lg (Aj lb k) sv) (xs : Nat -> Int) (e : K.E) (a : Int) (sl : Value) (vs : List Int) (hsl : LsR sl vs (K.w e)) (hxs : Fv k xs vs) (ht : K.tgt e = (K.s e, .inr (.w1 false (Bv a) xs))) : SCall K.toLb 23 #[.pointer (some ⟨lb, 0, none⟩), sv, .int .i64 a, sl] e (Ge K) := by
 intro fr l hp hl hk
 have he := fun (e1 : K.E) (N : Nat) (hN : K.mine e1 N) (hc : (K.w e1).heap[N]? = some (.cells #[sv] 90)) (hsl1 : LsR sl vs (K.w e1)) (h : K.tgt e1 = (K.s e1, .inr (.w1 false (Bv a) xs))) =>
  Cs K (change_s (Fz K e1) false xs 42 _ #[.pointer (some ⟨N, 0, none⟩)] Try.func42 (by kernel_rfl) (by rfl) (layW_ok (Fz K e1) N (fun e2 => ((e2.2 N hN).2).trans hc)) (fz0 K e1) a sl vs hsl1 hxs h)
 obtain ⟨sa, sc, rfl, hslr⟩ := hsl
 have hsl : LsR (.slice sa vs.length sc) vs (K.w e) := ⟨sa, sc, rfl, hslr⟩
 clear hslr
 generalize vs.length = vn at *
 unfold LW
 rw [enter_at _ Try.func23 code23_is]
 simp only [Try.ntmps23, ez, Nat.reduceAdd, Nat.reduceSub]
 refine Aa z23 ?_
 (refine Walk.oa ?_; try walk_nrm)
 change Walk Try.prog K.main (DR (K.V e)) (K.Stop e) _ ((K.w e).alloc (.cells sv.cells 90))
 rw [K.one]
 have c1 := heap_alloc_new (K.w e) (.cells #[sv] 90)
 have s1 : ((K.w e).alloc (.cells #[sv] 90)).heap.size = (K.w e).heap.size + 1 := by simp
 have hsl1 := hsl.same (w' := (K.w e).alloc (.cells #[sv] 90)) (fun b hb' => Ab _ _ hb')
 obtain ⟨e1, m1⟩ := K.grow e (w' := (K.w e).alloc (.cells #[sv] 90)) (by omega) (fun b hb' => Ab _ _ hb')
 generalize hR : (K.w e).heap.size = R at *
 generalize (K.w e).alloc (.cells #[sv] 90) = w1 at *
 have hmR : K.mine e1 R := m1.new (by omega) (by omega)
 have ht1 : K.tgt e1 = (K.s e1, .inr (.w1 false (Bv a) xs)) := by rw [m1.tgt, m1.s]; exact ht
 have d1 := (Ad c1 0).trans rfl
 have hw1 := m1.w
 rw [<- hw1] at c1 hsl1
 have h1 := he e1 R hmR c1 hsl1 ht1
 clear he hw1 c1 hsl1 hsl
 refine Aa z23 ?_
 refine Dq (l := fr :: l) m1 ?_
 refine Bb (K := K.toLb) (e := e1) (l := fr :: l) (f := 41) (Q := fun x e' => ∃ h : Lo K e1 e', Ge (Fz K e1) x ⟨e', h⟩) ?_ Ao (by rfl) (by decide) rfl Try.func41 (by kernel_rfl) (by rfl) ⟨rfl, rfl, _, Try.func23⟩ (As hp hl) ?_
 ·walk_nrm
  exact h1
 rintro x e2 ⟨hkept, b, rfl, ht2⟩
 have hkk := hk (.bool b) e2 ⟨b, rfl, ht2⟩
 unfold LW at hkk ⊢
 walk_nrm
 refine Aa z23 ?_
 exact Bh rfl rfl Try.func23 rfl hkk
theorem add_s (K : Lg (Aj lb k) sv) (xs : Nat -> Int) (e : K.E) (a : Int) (sl : Value) (vs : List Int) (hsl : LsR sl vs (K.w e)) (hxs : Fv k xs vs) (ht : K.tgt e = (K.s e, .inr (.w1 true (Bv a) xs))) : SCall K.toLb 24 #[.pointer (some ⟨lb, 0, none⟩), sv, .int .i64 a, sl] e (Ge K) := by
 intro fr l hp hl hk
 have he := fun (e1 : K.E) (N : Nat) (hN : K.mine e1 N) (hc : (K.w e1).heap[N]? = some (.cells #[sv] 90)) (hsl1 : LsR sl vs (K.w e1)) (h : K.tgt e1 = (K.s e1, .inr (.w1 true (Bv a) xs))) =>
  Cs K (change_s (Fz K e1) true xs 43 _ #[.pointer (some ⟨N, 0, none⟩)] Try.func43 (by kernel_rfl) (by rfl) (layA_ok (Fz K e1) N (fun e2 => ((e2.2 N hN).2).trans hc)) (fz0 K e1) a sl vs hsl1 hxs h)
 obtain ⟨sa, sc, rfl, hslr⟩ := hsl
 have hsl : LsR (.slice sa vs.length sc) vs (K.w e) := ⟨sa, sc, rfl, hslr⟩
 clear hslr
 generalize vs.length = vn at *
 unfold LW
 rw [enter_at _ Try.func24 code24_is]
 simp only [Try.ntmps24, ez, Nat.reduceAdd, Nat.reduceSub]
 refine Aa z24 ?_
 (refine Walk.oa ?_; try walk_nrm)
 change Walk Try.prog K.main (DR (K.V e)) (K.Stop e) _ ((K.w e).alloc (.cells sv.cells 90))
 rw [K.one]
 have c1 := heap_alloc_new (K.w e) (.cells #[sv] 90)
 have s1 : ((K.w e).alloc (.cells #[sv] 90)).heap.size = (K.w e).heap.size + 1 := by simp
 have hsl1 := hsl.same (w' := (K.w e).alloc (.cells #[sv] 90)) (fun b hb' => Ab _ _ hb')
 obtain ⟨e1, m1⟩ := K.grow e (w' := (K.w e).alloc (.cells #[sv] 90)) (by omega) (fun b hb' => Ab _ _ hb')
 generalize hR : (K.w e).heap.size = R at *
 generalize (K.w e).alloc (.cells #[sv] 90) = w1 at *
 have hmR : K.mine e1 R := m1.new (by omega) (by omega)
 have ht1 : K.tgt e1 = (K.s e1, .inr (.w1 true (Bv a) xs)) := by rw [m1.tgt, m1.s]; exact ht
 have d1 := (Ad c1 0).trans rfl
 have hw1 := m1.w
 rw [<- hw1] at c1 hsl1
 have h1 := he e1 R hmR c1 hsl1 ht1
 clear he hw1 c1 hsl1 hsl
 refine Aa z24 ?_
 refine Dq (l := fr :: l) m1 ?_
 refine Bb (K := K.toLb) (e := e1) (l := fr :: l) (f := 41) (Q := fun x e' => ∃ h : Lo K e1 e', Ge (Fz K e1) x ⟨e', h⟩) ?_ Ao (by rfl) (by decide) rfl Try.func41 (by kernel_rfl) (by rfl) ⟨rfl, rfl, _, Try.func24⟩ (As hp hl) ?_
 ·walk_nrm
  exact h1
 rintro x e2 ⟨hkept, b, rfl, ht2⟩
 have hkk := hk (.bool b) e2 ⟨b, rfl, ht2⟩
 unfold LW at hkk ⊢
 walk_nrm
 refine Aa z24 ?_
 exact Bh rfl rfl Try.func24 rfl hkk
end
end
section
structure OSt (L : La) (g : OG) (S : Stile) : Prop where
 n : S.n = g.n
 alo : g.A < g.w0.heap.size
 tbs : ¬ g.sh S.tb /\ S.tb ≠ g.A
 tb : ∀ i, i < g.n -> g.w0.cell? ⟨S.tb, i, none⟩ = some (S.F i)
 sch : ∀ (j : Nat) (z : Int), S.sl[j]? = some z -> ∃ s so, S.sa = some ⟨s, so, none⟩ /\ g.w0.cell? ⟨s, so + j, none⟩ = some (.int .i64 z) /\ ¬ g.sh s /\ s ≠ g.A
def t0 (L : La) : Tst L := ⟨[], none, []⟩
structure OInv (L : La) (g : OG) (S : Stile) (k : Nat) (o : Nat -> Option Role) (x : OX L) (cs : Nat -> List Frame) (w : World) (pr : Nat -> Option Nat) (hd : Nat -> Value) (y : L.Gh) : Prop where
 st : OSt L g S
 kn : k <= g.n
 size : g.w0.heap.size <= w.heap.size
 base : ∀ b, b < g.w0.heap.size -> o b = none
 old : ∀ b, b < g.w0.heap.size -> ¬ g.sh b -> b ≠ g.A -> w.heap[b]? = g.w0.heap[b]?
 prl : ∀ b i, pr b = some i -> g.w0.heap.size <= b /\ b < w.heap.size /\ o b = none /\ ¬ L.sh y b
 shl : ∀ b, L.sh y b -> o b = none /\ b ≠ g.A /\ b < w.heap.size /\ (b < g.w0.heap.size -> g.sh b)
 I : L.I y x.s w
 an : ∃ arr : Array Value, w.heap[g.A]? = some (.cells arr 42) /\ arr.size = g.n /\ ∀ i, i < g.n -> arr[i]? = some (hd i)
 row : ∀ i, i < g.n -> RowA g.w0.heap.size (fun b => pr b = some i) (hd i) (x.th i).ans w
 cont : ∀ i, i < k -> i < g.n -> x.out i = none -> (x.th i).d.isSome = true /\ cs i ≠ [] /\ (∀ f ∈ cs i, Bf f) /\ Cont L g S i (1048577 - x.cnt) (x.th i) (cs i) y (hd i) (fun b => pr b = some i) w
 fresh : ∀ i, k <= i -> i < g.n -> x.th i = t0 L
def Ns (L : La) (g : OG) (S : Stile) (yb : L.Gh) (k : Nat) (o : Nat -> Option Role) (x : OX L) (cs : Nat -> List Frame) (w : World) : Prop := ∃ pr hd y, L.le yb y /\ OInv L g S k o x cs w pr hd y
theorem Al {w : World} {b i : Nat} {v : Value} (h : w.cell? ⟨b, i, none⟩ = some v) : b < w.heap.size := by
 unfold World.cell? at h
 split at h
 ·rename_i h'; exact (Array.getElem?_eq_some_iff.1 h').1
 ·cases h
section
variable {L : La} {g : OG} {S : Stile} {k : Nat} {o o' : Nat -> Option Role} {x : OX L} {cs : Nat -> List Frame} {w w' : World} {pr : Nat -> Option Nat} {hd : Nat -> Value} {y yb : L.Gh}
theorem OInv.cell (P : OInv L g S k o x cs w pr hd y) {b i : Nat} {v : Value} (h : g.w0.cell? ⟨b, i, none⟩ = some v) (hs : ¬ g.sh b) (hA : b ≠ g.A) : w.cell? ⟨b, i, none⟩ = some v :=
 (World.cell?_of_block (a := ⟨b, i, none⟩) (P.old b (Al h) hs hA)).trans h
theorem invO_keep (h : Ns L g S yb k o x cs w) (K : Keeps o o' w w') : Ns L g S yb k o' x cs w' := by
 obtain ⟨pr, hd, y, hy, P⟩ := h
 have hb : ∀ b, b < g.w0.heap.size -> o' b = none /\ w'.heap[b]? = w.heap[b]? := fun b h => K.same b (Nat.lt_of_lt_of_le h P.size) (P.base b h)
 have hp : ∀ b i, pr b = some i -> o' b = none /\ w'.heap[b]? = w.heap[b]? := fun b i h => K.same b (P.prl b i h).2.1 (P.prl b i h).2.2.1
 have hsh : ∀ b, L.sh y b -> o' b = none /\ w'.heap[b]? = w.heap[b]? := fun b h => K.same b (P.shl b h).2.2.1 (P.shl b h).1
 refine ⟨pr, hd, y, hy, ⟨P.st, P.kn, Nat.le_trans P.size K.size, fun b h => (hb b h).1, fun b h h1 h2 => (hb b h).2.trans (P.old b h h1 h2), fun b i h => ⟨(P.prl b i h).1, Nat.lt_of_lt_of_le (P.prl b i h).2.1 K.size, (hp b i h).1, (P.prl b i h).2.2.2⟩, fun b h => ⟨(hsh b h).1, (P.shl b h).2.1, Nat.lt_of_lt_of_le (P.shl b h).2.2.1 K.size, (P.shl b h).2.2.2⟩, L.stable P.I fun b h => (hsh b h).2, ?_, fun i hi => (P.row i hi).same fun b e => (hp b i e).2, fun i hi hin ho => ?_, P.fresh⟩⟩
 ·obtain ⟨arr, ha, hz, hr⟩ := P.an
  exact ⟨arr, (hb _ P.st.alo).2.trans ha, hz, hr⟩
 ·obtain ⟨h1, h2, h3, h4⟩ := P.cont i hi hin ho
  exact ⟨h1, h2, h3, h4.keep (L.refl _) K.size fun b e => (hp b i e).2⟩
theorem OInv.rely (P : OInv L g S k o x cs w pr hd y) {V : Nat -> Option Wait} {i : Nat} (hi : i < g.n) (hA : ∀ b, o b = none -> Ay V b) (hlt : ∀ b r, o b = some r -> b < w.heap.size) : Rely L g i V y w (hd i) (fun b => pr b = some i) := by
 refine ⟨P.size, P.old, ?_, fun b e => ⟨(P.prl b i e).1, (P.prl b i e).2.1, (P.prl b i e).2.2.2⟩, fun b e => hA b ?_, fun b h => (P.shl b h).2, P.st.alo, (P.row i hi).hdo⟩
 ·obtain ⟨arr, ha, hz, hr⟩ := P.an
  exact ⟨arr, ha, hr i hi⟩
 ·rcases e with e | e | e | e
  ·exact P.base b e
  ·exact (P.prl b i e).2.2.1
  ·cases ho : o b with
   | none => rfl
   | some r => have := hlt b r ho; omega
  ·exact (P.shl b e).1
theorem Lz {V : Nat -> Option Wait} {f : Frame} {fs : List Frame} {i k' cnt' : Nat} {r : L.Sg × Tst L} {g' : Goroutine} (hy : L.le yb y) (P : OInv L g S k o x cs w pr hd y) (hi : i < g.n) (hik : i < k') (hkk : ∀ j, j < k' -> j ≠ i -> j < k) (hkf : k <= k') (hkn : k' <= g.n) (hc : x.cnt <= cnt')
  (hlt : ∀ b r, o b = some r -> b < w.heap.size) (hS : StopT L g S i (Cont L g S i (1048577 - cnt')) ⟨V, f, fs, w, y, fun b => pr b = some i, r⟩ g' w') : Fin (Ns L g S yb) OX.out S k' o (Gi x i r cnt') cs i f fs w g' w' := by
 obtain ⟨y', hyy, hsz, hfr, hI, hpub, hd', ⟨arr, arr', ha, ha', hasz, hai, haj⟩, hrow, hend⟩ := hS
 dsimp only at hyy hsz hfr hI hpub hrow hend ha ha' hasz hai haj
 let new : Nat -> Option Nat := fun b => if w.heap.size <= b /\ b < w'.heap.size then some i else pr b
 obtain ⟨pr', hpr1, hpr2⟩ : ∃ pr' : Nat -> Option Nat, (∀ b, L.sh y' b -> pr' b = none) /\ ∀ b, ¬ L.sh y' b -> pr' b = new b := ⟨fun b => @ite _ (L.sh y' b) (Classical.propDecidable _) none (new b), fun b h => if_pos h, fun b h => if_neg h⟩
 have hMi : (fun b => pr' b = some i) = Ct (⟨V, f, fs, w, y, fun b => pr b = some i, r⟩ : Tn L) y' w' := by
  funext b
  refine propext ⟨fun h => ?_, fun h => ?_⟩
  ·have hs : ¬ L.sh y' b := fun hs => by
    have h : pr' b = some i := h
    rw [hpr1 b hs] at h; cases h
   refine ⟨?_, hs⟩
   have h : pr' b = some i := h
   rw [hpr2 b hs] at h
   by_cases e : w.heap.size <= b /\ b < w'.heap.size
   ·exact .inr e
   ·have h : (if w.heap.size <= b /\ b < w'.heap.size then some i else pr b) = some i := h
    rw [if_neg e] at h
    exact .inl h
  ·show pr' b = some i
   rw [hpr2 b h.2]
   show (if w.heap.size <= b /\ b < w'.heap.size then some i else pr b) = some i
   rcases h.1 with h | h
   ·split
    ·rfl
    ·exact h
   ·rw [if_pos h]
 have hMj : ∀ j, j ≠ i -> ∀ b, pr' b = some j ↔ pr b = some j := fun j hj b => by
  by_cases hs : L.sh y' b
  ·rw [hpr1 b hs]
   refine ⟨fun h => (by cases h), fun h => ?_⟩
   have h1 := P.prl b j h
   rcases hpub b hs with h2 | h2 | h2
   ·exact absurd h2 h1.2.2.2
   ·rw [h] at h2; exact absurd (Option.some.inj h2) hj
   ·omega
  ·rw [hpr2 b hs]
   show (if w.heap.size <= b /\ b < w'.heap.size then some i else pr b) = some j ↔ pr b = some j
   by_cases e : w.heap.size <= b /\ b < w'.heap.size
   ·rw [if_pos e]
    refine ⟨fun h => absurd (Option.some.inj h).symm hj, fun h => ?_⟩
    have := (P.prl b j h).2.1
    omega
   ·rw [if_neg e]
 have hother : ∀ j b, j ≠ i -> pr b = some j -> w'.heap[b]? = w.heap[b]? := fun j b hj h => by
  have h1 := P.prl b j h
  refine hfr b h1.2.1 (fun e => hj ?_) h1.2.2.2 (fun e => ?_)
  ·rw [h] at e; exact Option.some.inj e
  ·have := P.st.alo; omega
 have hown : ∀ b, (pr b = some i ∨ (w.heap.size <= b /\ b < w'.heap.size)) -> g.w0.heap.size <= b /\ b < w'.heap.size /\ o b = none := fun b h => by
  rcases h with h | h
  ·have := P.prl b i h
   exact ⟨this.1, by omega, this.2.2.1⟩
  ·refine ⟨Nat.le_trans P.size h.1, h.2, ?_⟩
   cases ho : o b with
   | none => rfl
   | some z => have := hlt b z ho; have h1 : w.heap.size <= b := h.1; omega
 have harr : arr.size = arr'.size := hasz.symm
 obtain ⟨arr0, ha0, hz0, hr0⟩ := P.an
 rw [ha] at ha0
 have harr0 : arr0 = arr := by cases ha0; rfl
 subst harr0
 have hth : ∀ j, j ≠ i -> (Gi x i r cnt').th j = x.th j := fun j hj => upd_ne _ _ hj
 have hthi : (Gi x i r cnt').th i = r.2 := upd_same _ _ _
 have hinv : ∀ l, (r.2.d.isSome = true -> l ≠ [] /\ (∀ f ∈ l, Bf f) /\ Cont L g S i (1048577 - cnt') r.2 l y' hd' (fun b => pr' b = some i) w') -> Ns L g S yb k' o (Gi x i r cnt') (upd cs i l) w' := fun l hl => by
  refine ⟨pr', upd hd i hd', y', L.trans hy hyy, ⟨P.st, hkn, Nat.le_trans P.size hsz, P.base, fun b hb h1 h2 => (hfr b (Nat.lt_of_lt_of_le hb P.size) (fun e => by have := (P.prl b i e).1; omega) (fun e => h1 ((P.shl b e).2.2.2 hb)) h2).trans (P.old b hb h1 h2), fun b j h => ?_, fun b h => ?_, hI, ⟨arr', ha', by rw [hasz]; exact hz0, fun j hj => ?_⟩, fun j hj => ?_, fun j hj hjn ho => ?_, fun j hj hjn => ?_⟩⟩
  ·have hs : ¬ L.sh y' b := fun hs => by rw [hpr1 b hs] at h; cases h
   by_cases e : j = i
   ·subst e
    have h0 : Ct (⟨V, f, fs, w, y, fun b => pr b = some j, r⟩ : Tn L) y' w' b := by rw [<- hMi]; exact h
    have h1 := hown b h0.1
    exact ⟨h1.1, h1.2.1, h1.2.2, hs⟩
   ·have := P.prl b j ((hMj j e b).1 h)
    exact ⟨this.1, by omega, this.2.2.1, hs⟩
  ·have hl' := L.lt hI h
   rcases hpub b h with h1 | h1 | h1
   ·have := P.shl b h1
    exact ⟨this.1, this.2.1, hl', this.2.2.2⟩
   ·have h2 := hown b (.inl h1)
    exact ⟨h2.2.2, fun e => (by have := P.st.alo; omega), hl', fun e => (by omega)⟩
   ·have h2 := hown b (.inr ⟨h1, hl'⟩)
    exact ⟨h2.2.2, fun e => (by have := P.st.alo; omega), hl', fun e => (by omega)⟩
  ·by_cases e : j = i
   ·subst e; rw [upd_same]; exact hai
   ·rw [upd_ne _ _ e, haj j e]; exact hr0 j hj
  ·by_cases e : j = i
   ·subst e; rw [upd_same, hthi, hMi]; exact hrow
   ·rw [upd_ne _ _ e, hth j e]
    have hM : (fun b => pr' b = some j) = (fun b => pr b = some j) := funext fun b => propext (hMj j e b)
    rw [hM]
    exact (P.row j hj).same fun b hb => hother j b e hb
  ·by_cases e : j = i
   ·subst e
    rw [hthi, upd_same, upd_same]
    have ho : upd x.out j (match r.2.d with | none => some false | some _ => none) j = none := ho
    rw [upd_same] at ho
    have hs : r.2.d.isSome = true := by
     cases hd : r.2.d with
     | none => rw [hd] at ho; cases ho
     | some d => rfl
    exact ⟨hs, hl hs⟩
   ·have ho : upd x.out i (match r.2.d with | none => some false | some _ => none) j = none := ho
    rw [upd_ne _ _ e] at ho
    rw [hth j e, upd_ne _ _ e, upd_ne _ _ e]
    obtain ⟨h1, h2, h3, h4⟩ := P.cont j (hkk j hj e) hjn ho
    refine ⟨h1, h2, h3, ?_⟩
    have hM : (fun b => pr' b = some j) = (fun b => pr b = some j) := funext fun b => propext (hMj j e b)
    rw [hM]
    refine (h4.le (Nat.sub_le_sub_left hc _)).keep hyy hsz fun b hb => hother j b e hb
  ·have e : j ≠ i := by omega
   rw [hth j e]
   exact P.fresh j (by omega) hjn
 refine ⟨hsz, fun b z hb => hfr b (hlt b z hb) (fun e => by rw [(P.prl b i e).2.2.1] at hb; cases hb) (fun e => by rw [(P.shl b e).1] at hb; cases hb) (fun e => by rw [P.base b (e ▸ P.st.alo)] at hb; cases hb), ?_⟩
 have hout : (Gi x i r cnt').out i = match r.2.d with | none => some false | some _ => none := upd_same _ _ _
 rcases hend with ⟨h1, rfl⟩ | ⟨l, h1, h2, h3, h4, rfl⟩
 ·refine ⟨[], hinv [] (fun h => by rw [h1] at h; cases h), .inr (.inl ⟨?_, rfl⟩)⟩
  show (Gi x i r cnt').out i = some false
  rw [hout, h1]
 ·refine ⟨l, hinv l (fun _ => ⟨h2, h3, by rw [hMi]; exact h4⟩), .inl ⟨?_, rfl⟩⟩
  show (Gi x i r cnt').out i = none
  rw [hout]
  cases hd : r.2.d with
  | none => rw [hd] at h1; cases h1
  | some d => rfl
theorem goO {V : Nat -> Option Wait} {i : Nat} {c : Frame} {l : List Frame} (f : Frame) (fs : List Frame) (h : Ns L g S yb k o x cs w) (hik : i < k) (hout : x.out i = none) (hcs : cs i = c :: l) (hc : x.cnt < 1048576) (hA : ∀ b, o b = none -> Ay V b) (hlt : ∀ b r, o b = some r -> b < w.heap.size) :
  Walk Try.prog false (DR V) (Fin (Ns L g S yb) OX.out S k o (Cz x i) cs i f fs w) (G (c.finish (.tuple #[])) (l ++ f :: fs)) w := by
 obtain ⟨pr, hd, y, hy, P⟩ := h
 have hi : i < g.n := Nat.lt_of_lt_of_le hik P.kn
 obtain ⟨h1, h2, h3, h4⟩ := P.cont i hik hi hout
 obtain ⟨d, hdd⟩ := Option.isSome_iff_exists.1 h1
 rw [show 1048577 - x.cnt = (1048577 - (x.cnt + 1)) + 1 from by omega] at h4
 have hn : Cz x i = Gi x i (Em L (i : Nat) (L.act x.s d) (x.th i).left (x.th i).ans) (x.cnt + 1) := by
  unfold Cz; rw [hdd]
 rw [hn]
 exact (h4 V f fs y w x.s c l d (L.refl _) (Nat.le_refl _) (fun _ _ => rfl) (P.rely hi hA hlt) P.I hdd hcs).mono fun g' w' hS => Lz hy P hi hik (fun j hj _ => hj) (Nat.le_refl _) P.kn (Nat.le_succ _) hlt hS
theorem invO_shape {i : Nat} (h : Ns L g S yb k o x cs w) (hik : i < k) (hout : x.out i = none) : (∃ c l, cs i = c :: l) /\ ∀ f ∈ cs i, Bf f := by
 obtain ⟨pr, hd, y, hy, P⟩ := h
 obtain ⟨h1, h2, h3, h4⟩ := P.cont i hik (Nat.lt_of_lt_of_le hik P.kn) hout
 refine ⟨?_, h3⟩
 cases hc : cs i with
 | nil => exact absurd hc h2
 | cons c l => exact ⟨c, l, rfl⟩
theorem invO_thr {i : Nat} (h : Ns L g S yb k o x cs w) (hi : i < S.n) : w.cell? ⟨S.tb, i, none⟩ = some (S.F i) := by
 obtain ⟨pr, hd, y, hy, P⟩ := h
 exact P.cell (P.st.tb i (P.st.n ▸ hi)) P.st.tbs.1 P.st.tbs.2
theorem invO_sch {j : Nat} {z : Int} (h : Ns L g S yb k o x cs w) (hz : S.sl[j]? = some z) : ∃ s so, S.sa = some ⟨s, so, none⟩ /\ w.cell? ⟨s, so + j, none⟩ = some (.int .i64 z) := by
 obtain ⟨pr, hd, y, hy, P⟩ := h
 obtain ⟨s, so, e, hc, h1, h2⟩ := P.st.sch j z hz
 exact ⟨s, so, e, P.cell hc h1 h2⟩
end
end
section
noncomputable def reg56_0 := rk Try.f56.body 0
noncomputable def reg56_1 := rk Try.f56.body 1
theorem z56 : reg56_0.size = 2 /\ reg56_1.size = 2 := by and_intros <;> kernel_rfl
theorem code56_is : Try.f56.body = some (.seq (.region 0 reg56_0 false) (.cond (.tmp 3 ) (.region 1 reg56_1 false) (.skip))) := by kernel_rfl
theorem undStepper : ∃ ms, Try.prog.underlying 90 = some (.interface ms) := by
 have h : (match Try.prog.underlying 90 with | some (.interface _) => true | _ => false) = true := by kernel_rfl
 revert h
 cases Try.prog.underlying 90 with
 | none => simp
 | some d =>
  cases d with
  | interface fs => exact fun _ => ⟨fs, rfl⟩
  | _ => simp
structure EC (L : La) (g : OG) (S : Stile) (i : Nat) where
 τ : Tn L
 N : Nat
 w : World
 y : L.Gh
 s : L.Sg
 ans : List Ans
 hd : Value
 le : L.le τ.y y
 size : τ.w.heap.size <= w.heap.size
 frame : ∀ b, b < τ.w.heap.size -> ¬ τ.M b -> ¬ L.sh τ.y b -> b ≠ g.A -> w.heap[b]? = τ.w.heap[b]?
 pub : ∀ b, L.sh y b -> L.sh τ.y b ∨ τ.M b ∨ τ.w.heap.size <= b
 rely : ∃ hd0, Rely L g i τ.V τ.y τ.w hd0 τ.M
 an : AnT g i τ.w w hd
 row : RowA g.w0.heap.size (Ct τ y w) hd ans w
 inv : L.I y s w
structure OC where
 left : List OpV
 ans : List Ans
 hd : Value
 K : Nat -> Prop
 wK : World
structure EO (L : La) (g : OG) (S : Stile) (i : Nat) (c : OC) extends EC L g S i where
 tgt : L.Sg × (Ans ⊕ L.D)
 eqA : ans = c.ans
 eqH : hd = c.hd
 goal : τ.goal = Em L (i : Nat) tgt c.left ans
 Kown : ∀ b, c.K b -> Ct τ y w b
 kept : ∀ b, c.K b -> w.heap[b]? = c.wK.heap[b]?
 rowK : RowA g.w0.heap.size c.K hd ans w
section
variable {L : La} {g : OG} {S : Stile} {i : Nat} {c : OC}
theorem EC.lo (e : EC L g S i) {b : Nat} (h : Ct e.τ e.y e.w b) : g.w0.heap.size <= b /\ b < e.w.heap.size := by
 obtain ⟨hd0, r⟩ := e.rely
 have := e.size
 rcases h.1 with h | h
 ·have := r.lo b h; omega
 ·have := r.size; omega
theorem EC.noA (e : EC L g S i) {b : Nat} (h : Ct e.τ e.y e.w b) : ¬ L.sh e.y b /\ b ≠ g.A := by
 obtain ⟨hd0, r⟩ := e.rely
 have h1 := e.lo h
 exact ⟨h.2, fun h => by have := r.alo; omega⟩
theorem EC.shb (e : EC L g S i) {b : Nat} (h : L.sh e.y b) : b ≠ g.A /\ (b < g.w0.heap.size -> g.sh b) := by
 obtain ⟨hd0, r⟩ := e.rely
 rcases e.pub b h with h | h | h
 ·exact ⟨(r.shlo b h).1, (r.shlo b h).2.2⟩
 ·have := r.lo b h; have := r.alo; exact ⟨by omega, fun _ => by omega⟩
 ·have := r.alo; have := r.size; exact ⟨by omega, fun _ => by omega⟩
theorem EC.apart (e : EC L g S i) {b : Nat} (h : b < g.w0.heap.size ∨ Ct e.τ e.y e.w b ∨ e.w.heap.size <= b ∨ L.sh e.y b) : Ay e.τ.V b := by
 obtain ⟨hd0, r⟩ := e.rely
 have := e.size
 refine r.apart b ?_
 rcases h with h | h | h | h
 ·exact .inl h
 ·rcases h.1 with h | h
  ·exact .inr (.inl h)
  ·exact .inr (.inr (.inl h.1))
 ·exact .inr (.inr (.inl (by omega)))
 ·rcases e.pub b h with h | h | h
  ·exact .inr (.inr (.inr h))
  ·exact .inr (.inl h)
  ·exact .inr (.inr (.inl h))
theorem EC.hdo (e : EC L g S i) : ∀ b, e.hd.ownBlock = some b -> Ct e.τ e.y e.w b := e.row.hdo
def Ma (L : La) (g : OG) (S : Stile) (i : Nat) (c : OC) : Lb L where
 main := false
 E := EO L g S i c
 V := fun e => e.τ.V
 Stop := fun e => StopT L g S i (Cont L g S i e.N) e.τ
 bot := fun e => e.τ.f :: e.τ.fs
 w := fun e => e.w
 s := fun e => e.s
 gh := fun e => e.y
 tgt := fun e => e.tgt
 fuel := fun e => e.N
 mine := fun e b => Ct e.τ e.y e.w b /\ ¬ c.K b
theorem EO.mg (e : EO L g S i c) (y' : L.Gh) (s' : L.Sg) (w' : World) (hle : L.le e.y y') (hs : e.w.heap.size <= w'.heap.size) (hsame : ∀ b, b < e.w.heap.size -> ¬ (Ct e.τ e.y e.w b /\ ¬ c.K b) -> ¬ L.sh e.y b -> w'.heap[b]? = e.w.heap[b]?) (hI : L.I y' s' w')
  (hpub : ∀ b, L.sh y' b -> L.sh e.y b ∨ (Ct e.τ e.y e.w b /\ ¬ c.K b) ∨ e.w.heap.size <= b) : ∃ e' : EO L g S i c, Mg (Ma L g S i c) e e' y' s' w' := by
 obtain ⟨hd0, r⟩ := e.rely
 have hK : ∀ b, c.K b -> w'.heap[b]? = e.w.heap[b]? := fun b h => hsame b (e.lo (e.Kown b h)).2 (fun x => x.2 h) (e.noA (e.Kown b h)).1
 have hA : w'.heap[g.A]? = e.w.heap[g.A]? := hsame _ (by have := r.alo; have := r.size; have := e.size; omega) (fun x => by have := (e.lo x.1).1; have := r.alo; omega) (fun h => (e.shb h).1 rfl)
 have hKn : ∀ b, c.K b -> ¬ L.sh y' b := fun b h hs => by
  rcases hpub b hs with h1 | h1 | h1
  ·exact (e.noA (e.Kown b h)).1 h1
  ·exact h1.2 h
  ·have := (e.lo (e.Kown b h)).2; omega
 have hown : ∀ b, Ct e.τ e.y e.w b -> ¬ L.sh y' b -> Ct e.τ y' w' b := fun b h hn => ⟨h.1.imp id fun h => ⟨h.1, by omega⟩, hn⟩
 have hKo : ∀ b, c.K b -> Ct e.τ y' w' b := fun b h => hown b (e.Kown b h) (hKn b h)
 refine ⟨{ τ := e.τ, N := e.N, w := w', y := y', s := s', ans := e.ans, hd := e.hd, le := L.trans e.le hle, size := Nat.le_trans e.size hs, frame := fun b h1 h2 h3 h4 => ?_, pub := fun b h => ?_, rely := e.rely, an := ?_, row := (e.rowK.same hK).imp hKo, inv := hI, tgt := e.tgt, eqA := e.eqA, eqH := e.eqH, goal := e.goal, Kown := hKo, kept := fun b h => (hK b h).trans (e.kept b h), rowK := e.rowK.same hK }, ⟨rfl, rfl, rfl, rfl, rfl, rfl, rfl, rfl, fun b => ?_⟩⟩
 ·refine (hsame b (Nat.lt_of_lt_of_le h1 e.size) (fun x => ?_) (fun x => ?_)).trans (e.frame b h1 h2 h3 h4)
  ·rcases x.1.1 with h | h
   ·exact h2 h
   ·have := h.1; omega
  ·rcases e.pub b x with h | h | h
   ·exact h3 h
   ·exact h2 h
   ·omega
 ·rcases hpub b h with h | h | h
  ·exact e.pub b h
  ·rcases h.1.1 with h | h
   ·exact .inr (.inl h)
   ·exact .inr (.inr h.1)
  ·exact .inr (.inr (Nat.le_trans e.size h))
 ·obtain ⟨arr, arr', h1, h2, h3⟩ := e.an
  exact ⟨arr, arr', h1, hA.trans h2, h3⟩
 ·show (Ct e.τ y' w' b /\ ¬ c.K b) ↔ ((Ct e.τ e.y e.w b /\ ¬ c.K b) ∨ (e.w.heap.size <= b /\ b < w'.heap.size)) /\ ¬ L.sh y' b
  constructor
  ·rintro ⟨⟨h | h, hn⟩, hk⟩
   ·exact ⟨.inl ⟨⟨.inl h, fun hs => hn (L.mono hle hs)⟩, hk⟩, hn⟩
   ·refine ⟨?_, hn⟩
    by_cases hb : b < e.w.heap.size
    ·exact .inl ⟨⟨.inr ⟨h.1, hb⟩, fun hs => hn (L.mono hle hs)⟩, hk⟩
    ·exact .inr ⟨by omega, h.2⟩
  ·rintro ⟨⟨h, hk⟩ | h, hn⟩
   ·exact ⟨hown b h hn, hk⟩
   ·exact ⟨⟨.inr ⟨Nat.le_trans e.size h.1, h.2⟩, hn⟩, fun hk => by have := (e.lo (e.Kown b hk)).2; omega⟩
theorem EO.step (e : EO L g S i c) (d : L.D) (ht : e.tgt = (e.s, .inr d)) (fr : Frame) (l : List Frame) (hp : Bf fr) (hl : ∀ f ∈ l, Bf f) (hk : ∀ e' : EO L g S i c, Aft (Ma L g S i c) e d e' -> LW (Ma L g S i c) e' (G (fr.finish (.tuple #[])) (l ++ e'.τ.f :: e'.τ.fs))) :
  LW (Ma L g S i c) e (G (Frame.enter Try.prog 56 #[.iface 150 (.pointer (some ⟨S.p i, 0, none⟩))] .normal) (fr :: (l ++ e.τ.f :: e.τ.fs))) := by
 obtain ⟨ms, hu⟩ := undStepper
 have hn1 := fun w => Ex (P := Try.prog) (w := w) 90 150 (.pointer (some ⟨S.p i, 0, none⟩)) hu
 have hn2 := fun w es => Fm (P := Try.prog) (w := w) 90 150 (.pointer (some ⟨S.p i, 0, none⟩)) es hu
 unfold LW
 show Walk Try.prog false (DR e.τ.V) (StopT L g S i (Cont L g S i e.N) e.τ) _ e.w
 rw [enter_at _ Try.func56 code56_is]
 simp only [Try.ntmps56, ez, Nat.reduceAdd, Nat.reduceSub]
 refine Aa z56 ?_
 refine Walk.invokeStep (S.p i) Ao (by rfl) (by decide) rfl rfl ?_
 generalize hX : Frame.at _ _ _ = X
 have hgoal : e.τ.goal = (e.s, ⟨c.left, some d, e.ans⟩) := by rw [e.goal, ht]; rfl
 refine .stop fun dr => ⟨e.y, e.le, e.size, e.frame, ?_, e.pub, e.hd, e.an, ?_, .inr ⟨X :: fr :: l, ?_, by simp, ?_, ?_, rfl⟩⟩
 ·rw [hgoal]; exact L.stable e.inv fun _ _ => rfl
 ·rw [hgoal]; exact e.row.same fun _ _ => rfl
 ·rw [hgoal]; rfl
 ·intro x hx
  rcases List.mem_cons.1 hx with rfl | hx
  ·subst hX; exact ⟨rfl, rfl, _, Try.func56⟩
  ·rcases List.mem_cons.1 hx with rfl | hx
   ·exact hp
   ·exact hl x hx
 ·rw [hgoal]
  have hN : ∀ N', e.N = N' -> Cont L g S i N' ⟨c.left, some d, e.ans⟩ (X :: fr :: l) e.y e.hd (Ct e.τ e.y (e.w.at dr)) (e.w.at dr) := fun N' hN' => by
   cases N' with
   | zero => trivial
   | succ n =>
    intro V f fs y' w' s' c1 l' d' h0 h1 h2 h3 h4 h5 h6
    obtain rfl : d = d' := Option.some.inj h5
    obtain ⟨rfl, rfl⟩ := List.cons.inj h6
    rw [<- hX, Frame.finish_at]
    repeat (first | (refine Walk.oq ?_; try walk_nrm) | (refine Ax ?_; walk_nrm))
    refine Aa z56 ?_
    refine Av rfl rfl Try.func56 rfl ?_
    have hKo : ∀ b, c.K b -> Ct (⟨V, f, fs, w', y', Ct e.τ e.y e.w, Em L (i : Nat) (L.act s' d) c.left e.ans⟩ : Tn L) y' w' b := fun b h => ⟨.inl (e.Kown b h), (h3.lo b (e.Kown b h)).2.2⟩
    have hKs : ∀ b, c.K b -> w'.heap[b]? = e.w.heap[b]? := fun b h => h2 b (e.Kown b h)
    refine hk { τ := ⟨V, f, fs, w', y', Ct e.τ e.y e.w, Em L (i : Nat) (L.act s' d) c.left e.ans⟩, N := n, w := w', y := y', s := s', ans := e.ans, hd := e.hd, le := L.refl _, size := Nat.le_refl _, frame := fun _ _ _ _ _ => rfl, pub := fun b h => .inl h, rely := ⟨e.hd, h3⟩, an := ?_, row := (e.rowK.same hKs).imp hKo, inv := h4, tgt := L.act s' d, eqA := e.eqA, eqH := e.eqH, goal := rfl, Kown := hKo, kept := fun b h => (hKs b h).trans (e.kept b h), rowK := e.rowK.same hKs } ⟨rfl, ?_, h0, h1, fun b hb => ⟨⟨⟨.inl hb.1, (h3.lo b hb.1).2.2⟩, hb.2⟩, h2 b hb.1⟩⟩
    ·obtain ⟨arr, ha, hb⟩ := h3.an
     exact ⟨arr, arr, ha, ha, rfl, hb, fun _ _ => rfl⟩
    ·show n < e.N
     omega
  exact hN e.N rfl
def crewL (L : La) (g : OG) (S : Stile) (i : Nat) (c : OC) : Lg L (.iface 150 (.pointer (some ⟨S.p i, 0, none⟩))) where
 toLb := Ma L g S i c
 one := rfl
 inv := fun e => e.inv
 shA := fun e b h => e.apart (.inr (.inr (.inr h)))
 mineA := fun e b h => ⟨e.apart (.inr (.inl h.1)), (e.noA h.1).1, (e.lo h.1).2⟩
 newA := fun e b h => e.apart (.inr (.inr (.inl h)))
 mg := fun e y' s' w' h0 h1 h2 h3 h4 => EO.mg e y' s' w' h0 h1 h2 h3 h4
 step := fun e d ht fr l hp hl hk => EO.step e d ht fr l hp hl hk
end
end
section
noncomputable def reg63_0 := rk Try.f63.body 0
noncomputable def reg63_1 := rk Try.f63.body 1
noncomputable def reg63_2 := rk Try.f63.body 2
noncomputable def reg63_3 := rk Try.f63.body 3
theorem size63_3 : reg63_3.size = 15 := by kernel_rfl
noncomputable def reg63_4 := rk Try.f63.body 4
theorem z63 : reg63_0.size = 3 /\ reg63_1.size = 1 /\ reg63_2.size = 4 /\ reg63_3.size = 15 /\ reg63_4.size = 2 := by and_intros <;> kernel_rfl
theorem code63_is : Try.f63.body = some (.seq (.region 0 reg63_0 false) (.block 0 (.loop (.seq (.region 1 reg63_1 false) (.seq (.cond (.tmp 11 ) (.skip) (.exit 0)) (.seq (.block 1 (.seq (.region 2 reg63_2 false) (.region 3 reg63_3 true))) (.region 4 reg63_4 false))))))) := by kernel_rfl
def Eu (w1 : World) (a : Ans) (sl : Value) : World := w1.alloc (.cells #[.bool a.ok, .int .i64 a.n, sl] 44)
structure AppO (g : OG) (w1 : World) (a : Ans) (sl : Value) (hd : Value) (z : List (Ans × Value)) (gb gcap : Nat) (w3 : World) : Prop where
 own : w3.ownsRow g.w0.heap.size 44 3 (.slice (some ⟨gb, 0, none⟩) (z.length + 1) gcap) (z.length + 1) (Db z ++ [.bool a.ok, .int .i64 a.n, sl])
 grown : (Eu w1 a sl).grownBy w3 hd.ownBlock
 hat : hd.ownBlock = some gb ∨ gb = (Eu w1 a sl).heap.size
 hlt : gb < w3.heap.size
structure ThS (L : La) (g : OG) (i pO pA pI pD acap : Nat) (oa : Option Addr) (oc : Nat) (dv : Value) : Prop where
 hi : i < g.n
 n64 : g.n <= 64
 len : (g.ops i).length <= 65536
 cO : g.w0.cell? ⟨pO, 0, none⟩ = some (.slice oa (g.ops i).length oc)
 cA : g.w0.cell? ⟨pA, 0, none⟩ = some (.slice (some ⟨g.A, 0, none⟩) g.n acap)
 cI : g.w0.cell? ⟨pI, 0, none⟩ = some (.int .i64 (i : Nat))
 cD : g.w0.cell? ⟨pD, 0, none⟩ = some dv
 nO : ¬ g.sh pO /\ pO ≠ g.A
 nA : ¬ g.sh pA /\ pA ≠ g.A
 nI : ¬ g.sh pI /\ pI ≠ g.A
 nD : ¬ g.sh pD /\ pD ≠ g.A
 ops : ∀ (j : Nat) (o : OpV), (g.ops i)[j]? = some o -> ∃ b off, oa = some ⟨b, off, none⟩ /\ ¬ g.sh b /\ b ≠ g.A /\ g.w0.cell? ⟨b, off + j * 4, none⟩ = some (.int .i64 o.k) /\ g.w0.cell? ⟨b, off + j * 4 + 1, none⟩ = some (.int .i64 o.a) /\ g.w0.cell? ⟨b, off + j * 4 + 2, none⟩ = some (.int .i64 o.b) /\ g.w0.cell? ⟨b, off + j * 4 + 3, none⟩ = some (.int .i64 o.c)
structure ClO (g : OG) (i pA pI pD acap : Nat) (dv hd : Value) (w : World) : Prop where
 hA : w.cell? ⟨pA, 0, none⟩ = some (.slice (some ⟨g.A, 0, none⟩) g.n acap)
 hI : w.cell? ⟨pI, 0, none⟩ = some (.int .i64 (i : Nat))
 hD : w.cell? ⟨pD, 0, none⟩ = some dv
 hH : w.cell? ⟨g.A, i, none⟩ = some hd
 hHz : w.frozen? ⟨g.A, i, none⟩ = false
section
variable {L : La} {g : OG} {S : Stile} {i : Nat}
theorem EC.ro (e : EC L g S i) {b : Nat} (h : b < g.w0.heap.size) (h1 : ¬ g.sh b) (h2 : b ≠ g.A) : e.w.heap[b]? = g.w0.heap[b]? := by
 obtain ⟨hd0, r⟩ := e.rely
 exact (e.frame b (Nat.lt_of_lt_of_le h r.size) (fun hm => by have := (r.lo b hm).1; omega) (fun hs => h1 ((r.shlo b hs).2.2 h)) h2).trans (r.old b h h1 h2)
theorem EC.cell (e : EC L g S i) {b j : Nat} {v : Value} (h : g.w0.cell? ⟨b, j, none⟩ = some v) (h1 : ¬ g.sh b /\ b ≠ g.A) : e.w.cell? ⟨b, j, none⟩ = some v :=
 (World.cell?_of_block (a := ⟨b, j, none⟩) (e.ro (Al h) h1.1 h1.2)).trans h
theorem EC.apA (e : EC L g S i) : ∀ a : Addr, a.block = g.A -> Df e.τ.V a := (e.apart (b := g.A) (.inl (by obtain ⟨hd0, r⟩ := e.rely; exact r.alo))).1
variable {pO pA pI pD acap : Nat} {oa : Option Addr} {oc : Nat} {dv hd : Value}
theorem ThS.cl (T : ThS L g i pO pA pI pD acap oa oc dv) (e : EC L g S i) (h : e.hd = hd) : ClO g i pA pI pD acap dv hd e.w := by
 obtain ⟨arr, arr', h1, h2, h3, h4, h5⟩ := e.an
 exact ⟨e.cell T.cA T.nA, e.cell T.cI T.nI, e.cell T.cD T.nD, (Ad h2 i).trans (h ▸ h4), An h2 i⟩
theorem ClO.new {w : World} (h : ClO g i pA pI pD acap dv hd w) (a : Ans) (sl : Value) : ClO g i pA pI pD acap dv hd (Eu w a sl) :=
 ⟨Ag w _ h.hA, Ag w _ h.hI, Ag w _ h.hD, Ag w _ h.hH, Bq w _ h.hH h.hHz⟩
theorem ThS.app (T : ThS L g i pO pA pI pD acap oa oc dv) (e : EC L g S i) {a : Ans} {sl : Value} {z : List (Ans × Value)} {gb gcap : Nat} {w3 : World} (h : AppO g e.w a sl e.hd z gb gcap w3) (hc : ClO g i pA pI pD acap dv hd (Eu e.w a sl)) : ClO g i pA pI pD acap dv hd w3 := by
 obtain ⟨hd0, r⟩ := e.rely
 have far : ∀ b, b < g.w0.heap.size -> some b ≠ e.hd.ownBlock := fun b hb he => by have := (e.lo (e.hdo b he.symm)).1; omega
 have f1 : ∀ {b j : Nat} {v : Value}, b < g.w0.heap.size -> (Eu e.w a sl).cell? ⟨b, j, none⟩ = some v -> w3.cell? ⟨b, j, none⟩ = some v := fun {b j v} hb hv =>
  (h.grown.cell_far _ (Co _ hv) (far b hb)).trans hv
 exact ⟨f1 (Al T.cA) hc.hA, f1 (Al T.cI) hc.hI, f1 (Al T.cD) hc.hD, f1 r.alo hc.hH, (h.grown.frozen_far _ (Co _ hc.hH) (far _ r.alo)).trans hc.hHz⟩
structure RowZ (g : OG) (P : Nat -> Prop) (hd : Value) (z : List (Ans × Value)) (w : World) : Prop where
 sl : ∃ ta tc, hd = .slice ta z.length tc
 own : w.ownsRow g.w0.heap.size 44 3 hd z.length (Db z)
 hdo : ∀ b, hd.ownBlock = some b -> P b
 ls : ∀ p ∈ z, LsAt g.w0.heap.size P p.2 p.1.l w
theorem RowA.z {g : OG} {P : Nat -> Prop} {hd : Value} {ans : List Ans} {w : World} (h : RowA g.w0.heap.size P hd ans w) : ∃ z, z.map Prod.fst = ans /\ RowZ g P hd z w := by
 obtain ⟨ta, tc, z, h1, h2, h3, h4, h5⟩ := h
 have : z.length = ans.length := by rw [<- h1, List.length_map]
 exact ⟨z, h1, ⟨ta, tc, by rw [this]; exact h2⟩, by rw [this]; exact h3, h4, h5⟩
def Ph (L : La) (g : OG) (S : Stile) (i : Nat) (o : OpV) (rest' : List OpV) (X : Nat) (f : Nat -> Bool) (u : Nat -> Value) (e : EC L g S i) (w' : World) : Prop :=
 (f 10 = false /\ e.τ.goal = Em L (i : Nat) (L.enter e.s (i : Nat) o) rest' e.ans /\ e.w.heap[X]? = some (.cells #[.int .i64 o.k, .int .i64 o.a, .int .i64 o.b, .int .i64 o.c] 47) /\ ∃ d, w' = e.w.at d) ∨
 (f 10 = true /\ ∃ a sl, u 24 = Bw a sl /\ LsAt g.w0.heap.size (Ct e.τ e.y e.w) sl a.l e.w /\ e.τ.goal = Bs L (i : Nat) e.s rest' (e.ans ++ [a]) /\
  ((f 11 = false /\ f 12 = false /\ f 14 = false /\ ∃ d, w' = e.w.at d) ∨
   (f 11 = true /\ f 12 = false /\ f 14 = false /\ u 25 = .slice (some ⟨e.w.heap.size, 0, none⟩) 1 1 /\ ∃ d, w' = (Eu e.w a sl).at d) ∨
   (f 11 = true /\ f 12 = true /\ ∃ z gb gcap w3, z.map Prod.fst = e.ans /\ RowZ g (Ct e.τ e.y e.w) e.hd z e.w /\ AppO g e.w a sl e.hd z gb gcap w3 /\ u 26 = .slice (some ⟨gb, 0, none⟩) (e.ans.length + 1) gcap /\
    ((f 14 = false /\ ∃ d, w' = w3.at d) ∨ (f 14 = true /\ ∃ d, w' = (w3.setCell ⟨g.A, i, none⟩ (u 26)).at d)))))
variable {o : OpV} {rest' : List OpV} {X : Nat} {f : Nat -> Bool} {u : Nat -> Value} {e : EC L g S i} {w' : World}
theorem Ph.quiet {j d : Nat} {v : Value} (h : Ph L g S i o rest' X f u e w') (hj : j ≠ 10 /\ j ≠ 11 /\ j ≠ 12 /\ j ≠ 14) (hd : d ≠ 24 /\ d ≠ 25 /\ d ≠ 26) : Ph L g S i o rest' X (upd f j true) (upd u d v) e w' := by
 unfold Ph
 rw [upd_ne f true (Ne.symm hj.1), upd_ne f true (Ne.symm hj.2.1), upd_ne f true (Ne.symm hj.2.2.1), upd_ne f true (Ne.symm hj.2.2.2), upd_ne u v (Ne.symm hd.1), upd_ne u v (Ne.symm hd.2.1), upd_ne u v (Ne.symm hd.2.2)]
 exact h
theorem Ph.early (h : Ph L g S i o rest' X f u e w') (h10 : f 10 = false) : w'.heap[X]? = some (.cells #[.int .i64 o.k, .int .i64 o.a, .int .i64 o.b, .int .i64 o.c] 47) := by
 rcases h with ⟨_, _, h, d, rfl⟩ | ⟨h, _⟩
 ·exact h
 ·rw [h10] at h; cases h
theorem Ph.callAt (h : Ph L g S i o rest' X f u e w') (h10 : f 10 = false) : e.τ.goal = Em L (i : Nat) (L.enter e.s (i : Nat) o) rest' e.ans /\ ∃ d, w' = e.w.at d := by
 rcases h with ⟨_, h, _, h2⟩ | ⟨h, _⟩
 ·exact ⟨h, h2⟩
 ·rw [h10] at h; cases h
theorem Ph.newAt (h : Ph L g S i o rest' X f u e w') (h10 : f 10 = true) (h11 : f 11 = false) : ∃ a sl, u 24 = Bw a sl /\ LsAt g.w0.heap.size (Ct e.τ e.y e.w) sl a.l e.w /\ e.τ.goal = Bs L (i : Nat) e.s rest' (e.ans ++ [a]) /\ f 12 = false /\ ∃ d, w' = e.w.at d := by
 rcases h with ⟨h, _⟩ | ⟨_, a, sl, h1, hl, h2, ⟨_, h12, _, h⟩ | ⟨h, _⟩ | ⟨h, _⟩⟩
 ·rw [h10] at h; cases h
 ·exact ⟨a, sl, h1, hl, h2, h12, h⟩
 ·rw [h11] at h; cases h
 ·rw [h11] at h; cases h
theorem Ph.appAt (h : Ph L g S i o rest' X f u e w') (h10 : f 10 = true) (h11 : f 11 = true) (h12 : f 12 = false) : ∃ a sl, u 24 = Bw a sl /\ LsAt g.w0.heap.size (Ct e.τ e.y e.w) sl a.l e.w /\ e.τ.goal = Bs L (i : Nat) e.s rest' (e.ans ++ [a]) /\ u 25 = .slice (some ⟨e.w.heap.size, 0, none⟩) 1 1 /\ ∃ d, w' = (Eu e.w a sl).at d := by
 rcases h with ⟨h, _⟩ | ⟨_, a, sl, h1, hl, h2, ⟨h, _⟩ | ⟨_, _, _, h25, h⟩ | ⟨_, h, _⟩⟩
 ·rw [h10] at h; cases h
 ·rw [h11] at h; cases h
 ·exact ⟨a, sl, h1, hl, h2, h25, h⟩
 ·rw [h12] at h; cases h
theorem Ph.stAt (h : Ph L g S i o rest' X f u e w') (h10 : f 10 = true) (h11 : f 11 = true) (h12 : f 12 = true) (h14 : f 14 = false) : ∃ a sl, u 24 = Bw a sl /\ LsAt g.w0.heap.size (Ct e.τ e.y e.w) sl a.l e.w /\ e.τ.goal = Bs L (i : Nat) e.s rest' (e.ans ++ [a]) /\ ∃ z gb gcap w3, z.map Prod.fst = e.ans /\ RowZ g (Ct e.τ e.y e.w) e.hd z e.w /\ AppO g e.w a sl e.hd z gb gcap w3 /\ u 26 = .slice (some ⟨gb, 0, none⟩) (e.ans.length + 1) gcap /\ ∃ d, w' = w3.at d := by
 rcases h with ⟨h, _⟩ | ⟨_, a, sl, h1, hl, h2, ⟨h, _⟩ | ⟨_, h, _⟩ | ⟨_, _, z, gb, gcap, w3, hz, hZ, hA, h26, ⟨_, h⟩ | ⟨h, _⟩⟩⟩
 ·rw [h10] at h; cases h
 ·rw [h11] at h; cases h
 ·rw [h12] at h; cases h
 ·exact ⟨a, sl, h1, hl, h2, z, gb, gcap, w3, hz, hZ, hA, h26, h⟩
 ·rw [h14] at h; cases h
theorem Ph.endAt (h : Ph L g S i o rest' X f u e w') (h10 : f 10 = true) (h12 : f 12 = true) (h14 : f 14 = true) : ∃ a sl, LsAt g.w0.heap.size (Ct e.τ e.y e.w) sl a.l e.w /\ e.τ.goal = Bs L (i : Nat) e.s rest' (e.ans ++ [a]) /\ ∃ z gb gcap w3, z.map Prod.fst = e.ans /\ RowZ g (Ct e.τ e.y e.w) e.hd z e.w /\ AppO g e.w a sl e.hd z gb gcap w3 /\ ∃ d, w' = (w3.setCell ⟨g.A, i, none⟩ (.slice (some ⟨gb, 0, none⟩) (e.ans.length + 1) gcap)).at d := by
 rcases h with ⟨h, _⟩ | ⟨_, a, sl, h1, hl, h2, ⟨_, h, _⟩ | ⟨_, h, _⟩ | ⟨_, _, z, gb, gcap, w3, hz, hZ, hA, h26, ⟨h, _⟩ | ⟨_, h⟩⟩⟩
 ·rw [h10] at h; cases h
 ·rw [h12] at h; cases h
 ·rw [h12] at h; cases h
 ·rw [h14] at h; cases h
 ·rw [h26] at h
  exact ⟨a, sl, hl, h2, z, gb, gcap, w3, hz, hZ, hA, h⟩
theorem Bl {dsts : List Nat} {vals : List Value} {f : Nat -> Bool} {u : Nat -> Value} (F : Facts dsts vals f u) {d : Nat} {v : Value} (hd : d ∉ dsts) : Facts dsts vals f (upd u d v) := by
 intro j d' v' hf hd' hv'
 have hne : d' ≠ d := fun e => hd (by rw [<- e]; exact List.mem_of_getElem? hd')
 rw [upd_ne _ _ hne]
 exact F j d' v' hf hd' hv'
theorem LsAt.far {base : Nat} {P : Nat -> Prop} {sl : Value} {l : List Int} {w w' : World} (h : LsAt base P sl l w) (hb : ∀ b cur fr, P b -> w.heap[b]? = some (.cells cur 2 fr) -> w'.heap[b]? = w.heap[b]?) : LsAt base P sl l w' := by
 obtain ⟨a, c, e, hn, hr⟩ := h
 refine ⟨a, c, e, hn, fun hl => ⟨Aw (hr hl).1 fun b hb' => ?_, (hr hl).2⟩⟩
 rcases (hr hl).1.2 with ⟨h1, _⟩ | ⟨g, cap, cur, h1, _, h3, _⟩
 ·rw [h1] at hb'; cases hb'
 ·have : g = b := by rw [h1] at hb'; exact Option.some.inj hb'
  subst this
  exact hb _ _ _ ((hr hl).2 _ hb') h3
theorem RowZ.kind {g : OG} {P : Nat -> Prop} {hd : Value} {z : List (Ans × Value)} {w : World} (h : RowZ g P hd z w) {b : Nat} (hb : hd.ownBlock = some b) {cur : Array Value} {fr : Nat × Nat} : w.heap[b]? ≠ some (.cells cur 2 fr) := by
 intro hc
 rcases h.own.2 with ⟨h1, _⟩ | ⟨g', cap, cur', h1, _, h3, _⟩
 ·rw [h1] at hb; cases hb
 ·have : g' = b := by rw [h1] at hb; exact Option.some.inj hb
  subst this
  rw [h3] at hc
  simp at hc
theorem EC.told (e : EC L g S i) {a : Ans} {sl : Value} {z : List (Ans × Value)} {gb gcap : Nat} {w3 : World} (hl : LsAt g.w0.heap.size (Ct e.τ e.y e.w) sl a.l e.w) (hz : z.map Prod.fst = e.ans) (hZ : RowZ g (Ct e.τ e.y e.w) e.hd z e.w) (h : AppO g e.w a sl e.hd z gb gcap w3) : ∃ e' : EC L g S i, e'.τ = e.τ /\ e'.N = e.N /\ e'.s = e.s /\ e'.ans = e.ans ++ [a] /\ e'.w = w3.setCell ⟨g.A, i, none⟩ (.slice (some ⟨gb, 0, none⟩) (e.ans.length + 1) gcap) := by
 obtain ⟨hd0, r⟩ := e.rely
 obtain ⟨arr, arr', a1, a2, a3, a4, a5⟩ := e.an
 have hzl : z.length = e.ans.length := by rw [<- hz, List.length_map]
 have hsz1 : (Eu e.w a sl).heap.size = e.w.heap.size + 1 := by simp [Eu]
 have hs3 := h.grown.size
 have hold : ∀ b, b < e.w.heap.size -> some b ≠ e.hd.ownBlock -> w3.heap[b]? = e.w.heap[b]? := fun b hb hne => (h.grown.block b (by omega) hne).trans (Ab _ _ hb)
 have hAo : some g.A ≠ e.hd.ownBlock := fun he => by have := (e.lo (e.hdo _ he.symm)).1; have := r.alo; omega
 have hAl : g.A < e.w.heap.size := by have := r.alo; have := r.size; have := e.size; omega
 have hA3 : w3.heap[g.A]? = some (.cells arr' 42) := (hold _ hAl hAo).trans a2
 have hgo : Ct e.τ e.y e.w gb ∨ e.w.heap.size <= gb := by
  rcases h.hat with h | h
  ·exact .inl (e.hdo _ h)
  ·exact .inr (by omega)
 have hgA : gb ≠ g.A := fun he => by
  rcases hgo with h | h
  ·exact (e.noA h).2 he
  ·omega
 have hset : ∀ b, b ≠ g.A -> (w3.setCell ⟨g.A, i, none⟩ (.slice (some ⟨gb, 0, none⟩) (e.ans.length + 1) gcap)).heap[b]? = w3.heap[b]? := fun b hb => Ac _ _ _ _ hb
 have hil : i < arr'.size := (Array.getElem?_eq_some_iff.1 a4).1
 have hown' : ∀ b, Ct e.τ e.y e.w b -> Ct e.τ e.y (w3.setCell ⟨g.A, i, none⟩ (.slice (some ⟨gb, 0, none⟩) (e.ans.length + 1) gcap)) b := fun b hb => ⟨hb.1.imp id fun h => ⟨h.1, by rw [Ai]; omega⟩, hb.2⟩
 have hgn : ¬ L.sh e.y gb := fun hs => by
  rcases hgo with h | h
  ·exact h.2 hs
  ·have := L.lt e.inv hs; omega
 refine ⟨{ τ := e.τ, N := e.N, w := w3.setCell ⟨g.A, i, none⟩ (.slice (some ⟨gb, 0, none⟩) (e.ans.length + 1) gcap), y := e.y, s := e.s, ans := e.ans ++ [a], hd := .slice (some ⟨gb, 0, none⟩) (e.ans.length + 1) gcap, le := e.le, size := by rw [Ai]; have := e.size; omega, frame := fun b h1 h2 h3 h4 => (hset b h4).trans ((hold b (Nat.lt_of_lt_of_le h1 e.size) fun he => ?_).trans (e.frame b h1 h2 h3 h4)), pub := e.pub, rely := e.rely, an := ⟨arr, arr'.setIfInBounds i (.slice (some ⟨gb, 0, none⟩) (e.ans.length + 1) gcap), a1, Ak _ _ hA3, by simp [a3], by simp [hil], fun j hj => ?_⟩, row := ⟨some ⟨gb, 0, none⟩, gcap, z ++ [(a, sl)], by simp [hz], by simp, ?_, fun b hb => ?_, fun p hp => ?_⟩, inv := L.stable e.inv fun b hb => ?_ }, rfl, rfl, rfl, rfl, rfl⟩
 ·rcases (e.hdo b he.symm).1 with h | h
  ·exact h2 h
  ·have := h.1; omega
 ·rw [Array.getElem?_setIfInBounds_ne (Ne.symm hj)]; exact a5 j hj
 ·rw [Mb, List.length_append, List.length_singleton, <- hzl]
  refine Aw h.own fun b hb => ?_
  rw [hzl]
  refine hset b fun he => ?_
  simp only [Value.ownBlock, Option.some.injEq] at hb
  exact hgA (hb.trans he)
 ·simp only [Value.ownBlock, Option.some.injEq] at hb
  subst hb
  refine ⟨?_, hgn⟩
  rcases hgo with hg | hg
  ·exact (hown' _ hg).1
  ·exact .inr ⟨Nat.le_trans e.size hg, by rw [Ai]; exact h.hlt⟩
 ·have hp' : LsAt g.w0.heap.size (Ct e.τ e.y e.w) p.2 p.1.l e.w := by
   rcases List.mem_append.1 hp with hp | hp
   ·exact hZ.ls p hp
   ·rw [List.mem_singleton.1 hp]; exact hl
  refine (hp'.far fun b cur fr hb hc => ?_).imp hown'
  refine (hset b (e.noA hb).2).trans (hold b (e.lo hb).2 fun he => hZ.kind he.symm hc)
 ·have h1 := e.shb hb
  exact (hset b h1.1).trans (hold b (L.lt e.inv hb) fun he => (e.noA (e.hdo b he.symm)).1 hb)
end
end
end Go.Proofs.Ytjenoiekfkhafaa
