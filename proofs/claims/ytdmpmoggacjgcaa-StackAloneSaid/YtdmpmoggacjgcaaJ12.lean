/- Part 12. -/
import Derived.Test.YtdmpmoggacjgcaaJ3
import Derived.Test.YtdmpmoggacjgcaaJ11
set_option linter.unusedSimpArgs false
set_option maxHeartbeats 8000000
set_option maxRecDepth 100000
namespace Go.Proofs.Ytdmpmoggacjgcaa
open Go.Conc Go.RowKit Go.Relay
open Go.ConcN (upd upd_ne upd_same)
section
def DoOK (L : La) (f : FuncId) (first cap : Array Value) : Prop := ∀ (sv : Value) (K : Lg L sv) (e : K.E) (th : Int) (op : OpV), K.tgt e = L.enter (K.s e) op →
 SCall K.toLb f (first ++ #[sv, .int .i64 th, opVal op] ++ cap) e (fun v e' => ∃ a, K.tgt e' = (K.s e', .inl a) ∧ v = ansVal a)
noncomputable def reg69_0 := rg Try.f69.body [0]
noncomputable def reg69_1 := rg Try.f69.body [1, 0, 0]
noncomputable def reg69_2 := rg Try.f69.body [1, 0, 1, 0, 0]
noncomputable def reg69_3 := rg Try.f69.body [1, 1, 0]
noncomputable def reg69_4 := rg Try.f69.body [1, 1, 1, 0]
noncomputable def reg69_5 := rg Try.f69.body [1, 1, 1, 1, 0]
theorem z69 : List.range reg69_0.size = [0, 1] ∧ List.range reg69_1.size = [0, 1] ∧ List.range reg69_2.size = [0, 1] ∧ List.range reg69_3.size = [0, 1, 2, 3, 4, 5, 6] ∧ List.range reg69_4.size = [0, 1, 2, 3, 4] ∧ List.range reg69_5.size = [0, 1] := by refine ⟨?_, ?_, ?_, ?_, ?_, ?_⟩ <;> kernel_rfl
theorem code69_is : Try.f69.body = some (.seq (.region 0 reg69_0 false) (.seq (.seq (.region 1 reg69_1 false) (.cond (.tmp 11 ) (.seq (.region 2 reg69_2 false) (.ret)) (.skip))) (.seq (.region 3 reg69_3 false) (.seq (.region 4 reg69_4 false) (.seq (.region 5 reg69_5 false) (.ret)))))) := by kernel_rfl
section
variable {L : La} {sv : Value}
theorem doOne_s (K : Lg L sv) (e : K.E) (op : OpV) (th : Int) (f : FuncId) (fn : Func) (first cap : Array Value) (hf : Try.prog.funcs[f]? = some fn) (hname : (fn.name == "runtime.NumGoroutine") = false) (hb : fn.body.isNone = false) (hdo : DoOK L f first cap) (ht : K.tgt e = L.enter (K.s e) op) :
  SCall K.toLb 69 #[.func (.func f) first cap, sv, .int .i64 th, opVal op] e (fun v e' => ∃ a, K.tgt e' = (K.s e', .inl a) ∧ v = ansVal a) := by
 intro fr l hp hl hk
 obtain ⟨fsO, huO⟩ := structT 45 (by kernel_rfl)
 obtain ⟨fsA, huA⟩ := structT 32 (by kernel_rfl)
 have hn1 := fun w => run_eql_func (P := Try.prog) (w := w) 79 (.func f) first cap (by kernel_rfl : Try.prog.underlying 79 = some (.func #[100, 3, 45] #[32] false))
 have hn2 := fun w es => ev_eql_func (P := Try.prog) (w := w) 79 (.func f) first cap es (by kernel_rfl : Try.prog.underlying 79 = some (.func #[100, 3, 45] #[32] false))
 unfold LW
 obtain ⟨ok, oa, ob, oc⟩ := op
 simp only [opVal] at *
 rw [enter_at _ Try.func69 code69_is]
 simp only [Try.ntmps69, ez, Nat.reduceAdd, Nat.reduceSub]
 refine Walk.gz z69 ?_
 (refine Walk.oa ?_; try walk_nrm)
 (refine Walk.oa ?_; try walk_nrm)
 refine Walk.gz z69 ?_
 have hsz : (((K.w e).alloc (.cells #[.int .i64 ok, .int .i64 oa, .int .i64 ob, .int .i64 oc] 45)).alloc (.cells #[.bool false, .int .i64 0, .slice none 0 0] 32)).heap.size = (K.w e).heap.size + 2 := by simp
 have hA1 : ((K.w e).alloc (.cells #[.int .i64 ok, .int .i64 oa, .int .i64 ob, .int .i64 oc] 45)).heap.size = (K.w e).heap.size + 1 := by simp
 have c1 : (((K.w e).alloc (.cells #[.int .i64 ok, .int .i64 oa, .int .i64 ob, .int .i64 oc] 45)).alloc (.cells #[.bool false, .int .i64 0, .slice none 0 0] 32)).heap[(K.w e).heap.size]? = some (.cells #[.int .i64 ok, .int .i64 oa, .int .i64 ob, .int .i64 oc] 45) := by
  rw [heap_new_lt _ _ (by omega)]
  exact heap_alloc_new _ _
 have c2 : (((K.w e).alloc (.cells #[.int .i64 ok, .int .i64 oa, .int .i64 ob, .int .i64 oc] 45)).alloc (.cells #[.bool false, .int .i64 0, .slice none 0 0] 32)).heap[(K.w e).heap.size + 1]? = some (.cells #[.bool false, .int .i64 0, .slice none 0 0] 32) := by
  have := heap_alloc_new ((K.w e).alloc (.cells #[.int .i64 ok, .int .i64 oa, .int .i64 ob, .int .i64 oc] 45)) (.cells #[.bool false, .int .i64 0, .slice none 0 0] 32)
  rwa [hA1] at this
 obtain ⟨e1, m1⟩ := K.grow e (w' := ((K.w e).alloc (.cells #[.int .i64 ok, .int .i64 oa, .int .i64 ob, .int .i64 oc] 45)).alloc (.cells #[.bool false, .int .i64 0, .slice none 0 0] 32)) (by omega) (fun b hb' => by
  rw [heap_new_lt _ _ (by omega)]
  exact heap_new_lt _ _ hb')
 try simp only [hA1]
 generalize hw2 : ((K.w e).alloc (.cells #[.int .i64 ok, .int .i64 oa, .int .i64 ob, .int .i64 oc] 45)).alloc (.cells #[.bool false, .int .i64 0, .slice none 0 0] 32) = w2 at *
 generalize hN : (K.w e).heap.size = N at *
 refine Walk.loadS 45 (.tmp 7) hoA (by rfl) (by decide) rfl N 0 [.int .i64 ok, .int .i64 oa, .int .i64 ob, .int .i64 oc] (.struct fsO) rfl (fun j v hj => ?_) huO rfl (by kernel_rfl) ?_
 ·rw [Nat.zero_add, cell_of c1]
  simpa using hj
 walk_nrm
 refine Walk.gz z69 ?_
 refine Walk.ctl rfl (fun w' => stepG_callValue hoA (by rfl) (by decide) rfl rfl hf hname hb) ?_
 walk_nrm
 generalize hX : Frame.at _ _ _ = X
 refine LW.to (l := X :: fr :: l) m1 ?_
 have hpX : Plain X := by subst hX; exact ⟨rfl, rfl, _, Try.func69⟩
 have hpl : ∀ x ∈ fr :: l, Plain x := fun x hx => by
  rcases List.mem_cons.1 hx with rfl | hx
  ·exact hp
  ·exact hl x hx
 refine (SCall.fz K (hdo sv (Fz K e1) (fz0 K e1) th ⟨ok, oa, ob, oc⟩ (by show K.tgt e1 = L.enter (K.s e1) _; rw [m1.tgt, m1.s, ht]))) X (fr :: l) hpX hpl ?_
 rintro v e2 ⟨hkept, a, ht2, rfl⟩
 obtain ⟨hm2, hb2⟩ := hkept (N + 1) (m1.new (by omega) (by omega))
 rw [m1.w, c2] at hb2
 have hap2 := (K.mineA e2 _ hm2).1
 have hlt2 := (K.mineA e2 _ hm2).2.2
 rw [← hX]
 clear hX hpX
 unfold LW
 simp only [ansVal]
 refine Walk.finish hoA ?_
 walk_nrm
 (refine Walk.oa ?_; try walk_nrm)
 have hap3 := K.newA e2 _ (Nat.le_refl (K.w e2).heap.size)
 have c3 := heap_alloc_new (K.w e2) (.cells #[.bool false, .int .i64 0, .slice none 0 0] 32)
 have c4 : ((K.w e2).alloc (.cells #[.bool false, .int .i64 0, .slice none 0 0] 32)).heap[N + 1]? = _ := (heap_new_lt _ _ hlt2).trans hb2
 have hs3 : ((K.w e2).alloc (.cells #[.bool false, .int .i64 0, .slice none 0 0] 32)).heap.size = (K.w e2).heap.size + 1 := by simp
 have o3 : ∀ b, b < (K.w e2).heap.size → ((K.w e2).alloc (.cells #[.bool false, .int .i64 0, .slice none 0 0] 32)).heap[b]? = (K.w e2).heap[b]? := fun b hb' => heap_new_lt _ _ hb'
 generalize hM : (K.w e2).heap.size = M at *
 generalize (K.w e2).alloc (.cells #[.bool false, .int .i64 0, .slice none 0 0] 32) = w3 at *
 refine Walk.storeS 32 (.tmp 9) (.tmp 17) hoA (by rfl) (by decide) rfl M #[.bool a.1, .int .i64 a.2, .slice none 0 0] _ 32 rfl rfl c3 (by kernel_rfl) (by rfl) (by simp [Value.oneCell']) hap3 ?_
 have c5 := setRow_self (cells := #[.bool a.1, .int .i64 a.2, .slice none 0 0]) c3
 have c6 : (w3.setRow M #[.bool a.1, .int .i64 a.2, .slice none 0 0]).heap[N + 1]? = _ := (setRow_other w3 _ (show N + 1 ≠ M by omega)).trans c4
 have hs4 := setRow_size w3 M #[.bool a.1, .int .i64 a.2, .slice none 0 0]
 have o4 : ∀ b, b < M → (w3.setRow M #[.bool a.1, .int .i64 a.2, .slice none 0 0]).heap[b]? = (K.w e2).heap[b]? := fun b hb' => (setRow_other w3 _ (show b ≠ M by omega)).trans (o3 b hb')
 generalize w3.setRow M #[.bool a.1, .int .i64 a.2, .slice none 0 0] = w4 at *
 have d2 := cell_of c5 2
 have z2 := frozen_of c5 2
 simp only [List.getElem?_toArray, List.getElem?_cons_succ, List.getElem?_cons_zero] at d2
 walk_nrm
 refine Walk.gz z69 ?_
 refine Walk.callV (x := .slice none 0 0) (W := w4) ?_ hoA (by rfl) (by decide) rfl Try.func82 (by kernel_rfl) (by rfl) ?_
 ·walk_nrm
  exact clone_nil w4
 walk_nrm
 refine Walk.gz z69 ?_
 (have hfr := hap3.1 ⟨M, 2, none⟩ rfl; refine Walk.os hfr d2 ?_; clear hfr; try walk_nrm)
 have c7 : (w4.setCell ⟨M, 2, none⟩ (.slice none 0 0)).heap[M]? = some (.cells #[.bool a.1, .int .i64 a.2, .slice none 0 0] 32) := by
  rw [heap_set_self _ _ c5]
  simp
 have c8 : (w4.setCell ⟨M, 2, none⟩ (.slice none 0 0)).heap[N + 1]? = _ := (heap_set_other w4 _ _ _ (show N + 1 ≠ M by omega)).trans c6
 have hs5 := size_set w4 ⟨M, 2, none⟩ (.slice none 0 0)
 have o5 : ∀ b, b < M → (w4.setCell ⟨M, 2, none⟩ (.slice none 0 0)).heap[b]? = (K.w e2).heap[b]? := fun b hb' => (heap_set_other w4 _ _ _ (show b ≠ M by omega)).trans (o4 b hb')
 generalize w4.setCell ⟨M, 2, none⟩ (.slice none 0 0) = w5 at *
 refine Walk.gz z69 ?_
 refine Walk.loadS 32 (.tmp 9) hoA (by rfl) (by decide) rfl M 0 [.bool a.1, .int .i64 a.2, .slice none 0 0] (.struct fsA) rfl (fun j v hj => ?_) huA rfl (by kernel_rfl) ?_
 ·rw [Nat.zero_add, cell_of c7]
  simpa using hj
 walk_nrm
 refine Walk.storeS 32 (.tmp 8) (.tmp 22) hoA (by rfl) (by decide) rfl (N + 1) #[.bool a.1, .int .i64 a.2, .slice none 0 0] _ 32 rfl rfl c8 (by kernel_rfl) (by rfl) (by simp [Value.oneCell']) hap2 ?_
 have c9 := setRow_self (cells := #[.bool a.1, .int .i64 a.2, .slice none 0 0]) c8
 obtain ⟨e3, m3⟩ := K.own e2 (w' := w5.setRow (N + 1) #[.bool a.1, .int .i64 a.2, .slice none 0 0]) (by rw [setRow_size]; omega) (fun b hb' hbm => (setRow_other w5 _ (fun he : b = N + 1 => hbm (by rw [he]; exact hm2))).trans (o5 b (by omega)))
 generalize w5.setRow (N + 1) #[.bool a.1, .int .i64 a.2, .slice none 0 0] = w6 at *
 walk_nrm
 refine Walk.gz z69 ?_
 refine Walk.onCell (T := N + 1) rfl rfl rfl Try.func69 rfl (by rfl) c9 (by kernel_rfl) (by kernel_rfl) ?_
 refine LW.to m3 (hk _ e3 ⟨a, ?_, rfl⟩)
 rw [m3.tgt, m3.s]
 exact ht2
end
end
section
noncomputable def reg68_0 := rg Try.f68.body [0]
noncomputable def reg68_1 := rg Try.f68.body [1, 0, 0, 0]
noncomputable def reg68_2 := rg Try.f68.body [1, 0, 0, 1, 1, 0, 0, 0]
noncomputable def reg68_3 := rg Try.f68.body [1, 0, 0, 1, 1, 0, 0, 1]
theorem size68_3 : reg68_3.size = 15 := by kernel_rfl
noncomputable def reg68_4 := rg Try.f68.body [1, 0, 0, 1, 1, 1]
theorem z68 : List.range reg68_0.size = [0, 1, 2] ∧ List.range reg68_1.size = [0] ∧ List.range reg68_2.size = [0, 1, 2, 3] ∧ List.range reg68_3.size = [0, 1, 2, 3, 4, 5, 6, 7, 8, 9, 10, 11, 12, 13, 14] ∧ List.range reg68_4.size = [0, 1] := by refine ⟨?_, ?_, ?_, ?_, ?_⟩ <;> kernel_rfl
theorem code68_is : Try.f68.body = some (.seq (.region 0 reg68_0 false) (.block 0 (.loop (.seq (.region 1 reg68_1 false) (.seq (.cond (.tmp 11 ) (.skip) (.exit 0)) (.seq (.block 1 (.seq (.region 2 reg68_2 false) (.region 3 reg68_3 true))) (.region 4 reg68_4 false))))))) := by kernel_rfl
def ansA (w1 : World) (a : Ans) : World := w1.alloc (.cells #[.bool a.1, .int .i64 a.2, .slice none 0 0] 32)
structure AppO (g : OG) (w1 : World) (a : Ans) (hd : Value) (ans : List Ans) (gb gcap : Nat) (w3 : World) : Prop where
 own : w3.ownsRow g.w0.heap.size 32 3 (.slice (some ⟨gb, 0, none⟩) (ans.length + 1) gcap) (ans.length + 1) (ansRow ans ++ [.bool a.1, .int .i64 a.2, .slice none 0 0])
 grown : (ansA w1 a).grownBy w3 hd.ownBlock
 hat : hd.ownBlock = some gb ∨ gb = (ansA w1 a).heap.size
 hlt : gb < w3.heap.size
structure ThS (L : La) (g : OG) (i pO pA pI pD acap : Nat) (oa : Option Addr) (oc : Nat) (dv : Value) : Prop where
 hi : i < g.n
 n64 : g.n ≤ 64
 len : (g.ops i).length ≤ 65536
 cO : g.w0.cell? ⟨pO, 0, none⟩ = some (.slice oa (g.ops i).length oc)
 cA : g.w0.cell? ⟨pA, 0, none⟩ = some (.slice (some ⟨g.A, 0, none⟩) g.n acap)
 cI : g.w0.cell? ⟨pI, 0, none⟩ = some (.int .i64 (i : Nat))
 cD : g.w0.cell? ⟨pD, 0, none⟩ = some dv
 nO : ¬ L.sh pO ∧ pO ≠ g.A
 nA : ¬ L.sh pA ∧ pA ≠ g.A
 nI : ¬ L.sh pI ∧ pI ≠ g.A
 nD : ¬ L.sh pD ∧ pD ≠ g.A
 ops : ∀ (j : Nat) (o : OpV), (g.ops i)[j]? = some o → ∃ b off, oa = some ⟨b, off, none⟩ ∧ ¬ L.sh b ∧ b ≠ g.A ∧ g.w0.cell? ⟨b, off + j * 4, none⟩ = some (.int .i64 o.k) ∧ g.w0.cell? ⟨b, off + j * 4 + 1, none⟩ = some (.int .i64 o.a) ∧ g.w0.cell? ⟨b, off + j * 4 + 2, none⟩ = some (.int .i64 o.b) ∧ g.w0.cell? ⟨b, off + j * 4 + 3, none⟩ = some (.int .i64 o.c)
structure ClO (g : OG) (i pA pI pD acap : Nat) (dv hd : Value) (w : World) : Prop where
 hA : w.cell? ⟨pA, 0, none⟩ = some (.slice (some ⟨g.A, 0, none⟩) g.n acap)
 hI : w.cell? ⟨pI, 0, none⟩ = some (.int .i64 (i : Nat))
 hD : w.cell? ⟨pD, 0, none⟩ = some dv
 hH : w.cell? ⟨g.A, i, none⟩ = some hd
 hHz : w.frozen? ⟨g.A, i, none⟩ = false
section
variable {L : La} {g : OG} {S : Stile} {i : Nat}
theorem EC.ro (e : EC L g S i) {b : Nat} (h : b < g.w0.heap.size) (h1 : ¬ L.sh b) (h2 : b ≠ g.A) : e.w.heap[b]? = g.w0.heap[b]? := by
 obtain ⟨hd0, r⟩ := e.rely
 exact (e.frame b (Nat.lt_of_lt_of_le h r.size) (fun hm => by have := (r.lo b hm).1; omega) h1 h2).trans (r.old b h h1 h2)
theorem EC.cell (e : EC L g S i) {b j : Nat} {v : Value} (h : g.w0.cell? ⟨b, j, none⟩ = some v) (h1 : ¬ L.sh b ∧ b ≠ g.A) : e.w.cell? ⟨b, j, none⟩ = some v :=
 (World.cell?_of_block (a := ⟨b, j, none⟩) (e.ro (cell_lt' h) h1.1 h1.2)).trans h
theorem EC.apA (e : EC L g S i) : ∀ a : Addr, a.block = g.A → Free e.τ.V a := (e.apart (b := g.A) (.inl (by obtain ⟨hd0, r⟩ := e.rely; exact r.alo))).1
variable {pO pA pI pD acap : Nat} {oa : Option Addr} {oc : Nat} {dv hd : Value}
theorem ThS.cl (T : ThS L g i pO pA pI pD acap oa oc dv) (e : EC L g S i) (h : e.hd = hd) : ClO g i pA pI pD acap dv hd e.w := by
 obtain ⟨arr, arr', h1, h2, h3, h4, h5⟩ := e.an
 exact ⟨e.cell T.cA T.nA, e.cell T.cI T.nI, e.cell T.cD T.nD, (cell_of h2 i).trans (h ▸ h4), frozen_of h2 i⟩
theorem ClO.new {w : World} (h : ClO g i pA pI pD acap dv hd w) (a : Ans) : ClO g i pA pI pD acap dv hd (ansA w a) :=
 ⟨cell_alloc w _ h.hA, cell_alloc w _ h.hI, cell_alloc w _ h.hD, cell_alloc w _ h.hH, frozen_alloc w _ h.hH h.hHz⟩
theorem ThS.app (T : ThS L g i pO pA pI pD acap oa oc dv) (e : EC L g S i) {a : Ans} {gb gcap : Nat} {w3 : World} (h : AppO g e.w a e.hd e.ans gb gcap w3) (hc : ClO g i pA pI pD acap dv hd (ansA e.w a)) : ClO g i pA pI pD acap dv hd w3 := by
 obtain ⟨hd0, r⟩ := e.rely
 have far : ∀ b, b < g.w0.heap.size → some b ≠ e.hd.ownBlock := fun b hb he => by have := (e.lo (e.hdo b he.symm)).1; omega
 have f1 : ∀ {b j : Nat} {v : Value}, b < g.w0.heap.size → (ansA e.w a).cell? ⟨b, j, none⟩ = some v → w3.cell? ⟨b, j, none⟩ = some v := fun {b j v} hb hv =>
  (h.grown.cell_far _ (cell_lt _ hv) (far b hb)).trans hv
 exact ⟨f1 (cell_lt' T.cA) hc.hA, f1 (cell_lt' T.cI) hc.hI, f1 (cell_lt' T.cD) hc.hD, f1 r.alo hc.hH, (h.grown.frozen_far _ (cell_lt _ hc.hH) (far _ r.alo)).trans hc.hHz⟩
def Ph (L : La) (g : OG) (S : Stile) (i : Nat) (o : OpV) (rest' : List OpV) (X : Nat) (f : Nat → Bool) (u : Nat → Value) (e : EC L g S i) (w' : World) : Prop :=
 (f 10 = false ∧ e.τ.goal = landO L (L.enter e.s o) rest' e.ans ∧ e.w.heap[X]? = some (.cells #[.int .i64 o.k, .int .i64 o.a, .int .i64 o.b, .int .i64 o.c] 45) ∧ ∃ d, w' = e.w.at d) ∨
 (f 10 = true ∧ ∃ a, u 24 = ansVal a ∧ e.τ.goal = settleO L e.s rest' (e.ans ++ [a]) ∧
  ((f 11 = false ∧ f 12 = false ∧ f 14 = false ∧ ∃ d, w' = e.w.at d) ∨
   (f 11 = true ∧ f 12 = false ∧ f 14 = false ∧ u 25 = .slice (some ⟨e.w.heap.size, 0, none⟩) 1 1 ∧ ∃ d, w' = (ansA e.w a).at d) ∨
   (f 11 = true ∧ f 12 = true ∧ ∃ gb gcap w3, AppO g e.w a e.hd e.ans gb gcap w3 ∧ u 26 = .slice (some ⟨gb, 0, none⟩) (e.ans.length + 1) gcap ∧
    ((f 14 = false ∧ ∃ d, w' = w3.at d) ∨ (f 14 = true ∧ ∃ d, w' = (w3.setCell ⟨g.A, i, none⟩ (u 26)).at d)))))
variable {o : OpV} {rest' : List OpV} {X : Nat} {f : Nat → Bool} {u : Nat → Value} {e : EC L g S i} {w' : World}
theorem Ph.quiet {j d : Nat} {v : Value} (h : Ph L g S i o rest' X f u e w') (hj : j ≠ 10 ∧ j ≠ 11 ∧ j ≠ 12 ∧ j ≠ 14) (hd : d ≠ 24 ∧ d ≠ 25 ∧ d ≠ 26) : Ph L g S i o rest' X (upd f j true) (upd u d v) e w' := by
 unfold Ph
 rw [upd_ne f true (Ne.symm hj.1), upd_ne f true (Ne.symm hj.2.1), upd_ne f true (Ne.symm hj.2.2.1), upd_ne f true (Ne.symm hj.2.2.2), upd_ne u v (Ne.symm hd.1), upd_ne u v (Ne.symm hd.2.1), upd_ne u v (Ne.symm hd.2.2)]
 exact h
theorem Ph.early (h : Ph L g S i o rest' X f u e w') (h10 : f 10 = false) : w'.heap[X]? = some (.cells #[.int .i64 o.k, .int .i64 o.a, .int .i64 o.b, .int .i64 o.c] 45) := by
 rcases h with ⟨_, _, h, d, rfl⟩ | ⟨h, _⟩
 ·exact h
 ·rw [h10] at h; cases h
theorem Ph.callAt (h : Ph L g S i o rest' X f u e w') (h10 : f 10 = false) : e.τ.goal = landO L (L.enter e.s o) rest' e.ans ∧ ∃ d, w' = e.w.at d := by
 rcases h with ⟨_, h, _, h2⟩ | ⟨h, _⟩
 ·exact ⟨h, h2⟩
 ·rw [h10] at h; cases h
theorem Ph.newAt (h : Ph L g S i o rest' X f u e w') (h10 : f 10 = true) (h11 : f 11 = false) : ∃ a, u 24 = ansVal a ∧ e.τ.goal = settleO L e.s rest' (e.ans ++ [a]) ∧ f 12 = false ∧ ∃ d, w' = e.w.at d := by
 rcases h with ⟨h, _⟩ | ⟨_, a, h1, h2, ⟨_, h12, _, h⟩ | ⟨h, _⟩ | ⟨h, _⟩⟩
 ·rw [h10] at h; cases h
 ·exact ⟨a, h1, h2, h12, h⟩
 ·rw [h11] at h; cases h
 ·rw [h11] at h; cases h
theorem Ph.appAt (h : Ph L g S i o rest' X f u e w') (h10 : f 10 = true) (h11 : f 11 = true) (h12 : f 12 = false) : ∃ a, u 24 = ansVal a ∧ e.τ.goal = settleO L e.s rest' (e.ans ++ [a]) ∧ u 25 = .slice (some ⟨e.w.heap.size, 0, none⟩) 1 1 ∧ ∃ d, w' = (ansA e.w a).at d := by
 rcases h with ⟨h, _⟩ | ⟨_, a, h1, h2, ⟨h, _⟩ | ⟨_, _, _, h25, h⟩ | ⟨_, h, _⟩⟩
 ·rw [h10] at h; cases h
 ·rw [h11] at h; cases h
 ·exact ⟨a, h1, h2, h25, h⟩
 ·rw [h12] at h; cases h
theorem Ph.stAt (h : Ph L g S i o rest' X f u e w') (h10 : f 10 = true) (h11 : f 11 = true) (h12 : f 12 = true) (h14 : f 14 = false) : ∃ a, u 24 = ansVal a ∧ e.τ.goal = settleO L e.s rest' (e.ans ++ [a]) ∧ ∃ gb gcap w3, AppO g e.w a e.hd e.ans gb gcap w3 ∧ u 26 = .slice (some ⟨gb, 0, none⟩) (e.ans.length + 1) gcap ∧ ∃ d, w' = w3.at d := by
 rcases h with ⟨h, _⟩ | ⟨_, a, h1, h2, ⟨h, _⟩ | ⟨_, h, _⟩ | ⟨_, _, gb, gcap, w3, hA, h26, ⟨_, h⟩ | ⟨h, _⟩⟩⟩
 ·rw [h10] at h; cases h
 ·rw [h11] at h; cases h
 ·rw [h12] at h; cases h
 ·exact ⟨a, h1, h2, gb, gcap, w3, hA, h26, h⟩
 ·rw [h14] at h; cases h
theorem Ph.endAt (h : Ph L g S i o rest' X f u e w') (h10 : f 10 = true) (h12 : f 12 = true) (h14 : f 14 = true) : ∃ a, e.τ.goal = settleO L e.s rest' (e.ans ++ [a]) ∧ ∃ gb gcap w3, AppO g e.w a e.hd e.ans gb gcap w3 ∧ ∃ d, w' = (w3.setCell ⟨g.A, i, none⟩ (.slice (some ⟨gb, 0, none⟩) (e.ans.length + 1) gcap)).at d := by
 rcases h with ⟨h, _⟩ | ⟨_, a, h1, h2, ⟨_, h, _⟩ | ⟨_, h, _⟩ | ⟨_, _, gb, gcap, w3, hA, h26, ⟨h, _⟩ | ⟨_, h⟩⟩⟩
 ·rw [h10] at h; cases h
 ·rw [h12] at h; cases h
 ·rw [h12] at h; cases h
 ·rw [h14] at h; cases h
 ·rw [h26] at h
  exact ⟨a, h2, gb, gcap, w3, hA, h⟩
theorem Facts.other {dsts : List Nat} {vals : List Value} {f : Nat → Bool} {u : Nat → Value} (F : Facts dsts vals f u) {d : Nat} {v : Value} (hd : d ∉ dsts) : Facts dsts vals f (upd u d v) := by
 intro j d' v' hf hd' hv'
 have hne : d' ≠ d := fun e => hd (by rw [← e]; exact List.mem_of_getElem? hd')
 rw [upd_ne _ _ hne]
 exact F j d' v' hf hd' hv'
theorem EC.told (e : EC L g S i) {a : Ans} {gb gcap : Nat} {w3 : World} (h : AppO g e.w a e.hd e.ans gb gcap w3) : ∃ e' : EC L g S i, e'.τ = e.τ ∧ e'.N = e.N ∧ e'.s = e.s ∧ e'.ans = e.ans ++ [a] ∧ e'.w = w3.setCell ⟨g.A, i, none⟩ (.slice (some ⟨gb, 0, none⟩) (e.ans.length + 1) gcap) := by
 obtain ⟨hd0, r⟩ := e.rely
 obtain ⟨arr, arr', a1, a2, a3, a4, a5⟩ := e.an
 have hsz1 : (ansA e.w a).heap.size = e.w.heap.size + 1 := by simp [ansA]
 have hs3 := h.grown.size
 have hold : ∀ b, b < e.w.heap.size → some b ≠ e.hd.ownBlock → w3.heap[b]? = e.w.heap[b]? := fun b hb hne => (h.grown.block b (by omega) hne).trans (heap_new_lt _ _ hb)
 have hAo : some g.A ≠ e.hd.ownBlock := fun he => by have := (e.lo (e.hdo _ he.symm)).1; have := r.alo; omega
 have hAl : g.A < e.w.heap.size := by have := r.alo; have := r.size; have := e.size; omega
 have hA3 : w3.heap[g.A]? = some (.cells arr' 29) := (hold _ hAl hAo).trans a2
 have hgo : ownT e.τ e.w gb ∨ e.w.heap.size ≤ gb := by
  rcases h.hat with h | h
  ·exact .inl (e.hdo _ h)
  ·exact .inr (by omega)
 have hgA : gb ≠ g.A := fun he => by
  rcases hgo with h | h
  ·exact (e.noA h).2 he
  ·omega
 have hset : ∀ b, b ≠ g.A → (w3.setCell ⟨g.A, i, none⟩ (.slice (some ⟨gb, 0, none⟩) (e.ans.length + 1) gcap)).heap[b]? = w3.heap[b]? := fun b hb => heap_set_other _ _ _ _ hb
 have hil : i < arr'.size := (Array.getElem?_eq_some_iff.1 a4).1
 refine ⟨{ τ := e.τ, N := e.N, w := w3.setCell ⟨g.A, i, none⟩ (.slice (some ⟨gb, 0, none⟩) (e.ans.length + 1) gcap), s := e.s, ans := e.ans ++ [a], hd := .slice (some ⟨gb, 0, none⟩) (e.ans.length + 1) gcap, size := by rw [size_set]; have := e.size; omega, frame := fun b h1 h2 h3 h4 => (hset b h4).trans ((hold b (Nat.lt_of_lt_of_le h1 e.size) fun he => ?_).trans (e.frame b h1 h2 h3 h4)), rely := e.rely, an := ⟨arr, arr'.setIfInBounds i (.slice (some ⟨gb, 0, none⟩) (e.ans.length + 1) gcap), a1, heap_set_self _ _ hA3, by simp [a3], by simp [hil], fun j hj => ?_⟩, row := ⟨some ⟨gb, 0, none⟩, gcap, by simp, ?_⟩, hdo := fun b hb => ?_, inv := L.stable e.inv fun b hb => ?_ }, rfl, rfl, rfl, rfl, rfl⟩
 ·rcases e.hdo b he.symm with h | h
  ·exact h2 h
  ·have := h.1; omega
 ·rw [Array.getElem?_setIfInBounds_ne (Ne.symm hj)]; exact a5 j hj
 ·rw [ansRow_snoc, List.length_append, List.length_singleton]
  exact row_same h.own fun b hb => hset b fun he => by
   simp only [Value.ownBlock, Option.some.injEq] at hb
   exact hgA (hb.trans he)
 ·simp only [Value.ownBlock, Option.some.injEq] at hb
  subst hb
  rcases hgo with hg | hg
  ·rcases hg with hg | hg
   ·exact .inl hg
   ·exact .inr ⟨hg.1, by rw [size_set]; exact h.hlt⟩
  ·exact .inr ⟨Nat.le_trans e.size hg, by rw [size_set]; exact h.hlt⟩
 ·have h1 := r.shlo b hb
  exact (hset b h1.2).trans (hold b (by have := r.size; have := e.size; omega) fun he => by have := (e.lo (e.hdo b he.symm)).1; omega)
end
end
section
section
variable {L : La} {g : OG} {S : Stile} {i : Nat} {pO pA pI pD acap : Nat} {oa : Option Addr} {oc : Nat} {o : OpV} {rest' : List OpV} {X : Nat}
def tm68 (sv : Value) (pO pA pI pD X : Nat) (ov : Value) (ln j : Nat) (u : Nat → Value) : Array Value := #[sv, .pointer (some ⟨pO, 0, none⟩), .pointer (some ⟨pA, 0, none⟩), .pointer (some ⟨pI, 0, none⟩), .pointer (some ⟨pD, 0, none⟩), u 5, u 6, .pointer (some ⟨X, 0, none⟩), ov, .int .i64 ln, .int .i64 j, u 11, u 12, u 13, u 14, u 15, u 16, u 17, u 18, u 19, u 20, u 21, u 22, u 23, u 24, u 25, u 26, u 27, u 28]
theorem reg68_walk {fdo : FuncId} {first cap : Array Value} (T : ThS L g i pO pA pI pD acap oa oc (.func (.func fdo) first cap)) {fn : Func} (hf : Try.prog.funcs[fdo]? = some fn) (hname : (fn.name == "runtime.NumGoroutine") = false) (hb : fn.body.isNone = false) (hdo : DoOK L fdo first cap)
  (e0 : EC L g S i) (hlen : e0.ans.length < 1099511627776) (hg0 : e0.τ.goal = landO L (L.enter e0.s o) rest' e0.ans) (hX : e0.w.heap[X]? = some (.cells #[.int .i64 o.k, .int .i64 o.a, .int .i64 o.b, .int .i64 o.c] 45)) (ov : Value) (ln j : Nat) (u0 : Nat → Value) (k : List Item)
  (hk : ∀ (u : Nat → Value) (e : EC L g S i) a, e.ans = e0.ans ++ [a] → e.τ.goal = settleO L e.s rest' e.ans → Walk Try.prog false (DR e.τ.V) (StopT L g S i (Cont L g S i e.N) e.τ) (G ((base 68).at ⟨tm68 (.iface 160 (.pointer (some ⟨S.p i, 0, none⟩))) pO pA pI pD X ov ln j u, []⟩ (.inRegion reg68_3 [] :: k)) (e.τ.f :: e.τ.fs)) e.w) :
  Walk Try.prog false (DR e0.τ.V) (StopT L g S i (Cont L g S i e0.N) e0.τ) (G ((base 68).at ⟨tm68 (.iface 160 (.pointer (some ⟨S.p i, 0, none⟩))) pO pA pI pD X ov ln j u0, []⟩ (.code (.region 3 reg68_3 true) :: k)) (e0.τ.f :: e0.τ.fs)) e0.w := by
 have hiA := Option.some_get (show (Try.prog.info? 32).isSome = true by kernel_rfl)
 obtain ⟨fsO, huO⟩ := structT 45 (by kernel_rfl)
 have hi := T.hi
 have hn64 := T.n64
 generalize hsv : (.iface 160 (.pointer (some ⟨S.p i, 0, none⟩)) : Value) = sv at *
 generalize hdv : (.func (.func fdo) first cap : Value) = dv at *
 generalize hans : e0.ans = ans at *
 generalize hhd : e0.hd = hd
 refine Walk.drawnE (E := EC L g S i × World) (V := fun x => x.1.τ.V) (Stop := fun x => StopT L g S i (Cont L g S i x.1.N) x.1.τ) (cs := fun x => x.1.τ.f :: x.1.τ.fs) (w := fun x => x.2)
  (Inv := fun f a x => ∃ u, a = ⟨tm68 sv pO pA pI pD X ov ln j u, []⟩ ∧ Facts [14, 15, 16, 17, 18, 19, 20, 21, 22, 23, 1010, 1011, 1012, 27, 1014] [.slice (some ⟨g.A, 0, none⟩) g.n acap, .int .i64 (i : Nat), .slice (some ⟨g.A, 0, none⟩) g.n acap, .int .i64 (i : Nat), .pointer (some ⟨g.A, i, none⟩), hd, dv, sv, .int .i64 (i : Nat), opVal o, undef, undef, undef, .pointer (some ⟨g.A, i, none⟩), undef] f u ∧ x.1.ans = ans ∧ x.1.hd = hd ∧ (f 14 = false → ClO g i pA pI pD acap dv hd x.2) ∧ Ph L g S i o rest' X f u x.1 x.2) (e0, e0.w) (by kernel_rfl) (by kernel_rfl)
  ⟨u0, rfl, Facts.none _ _ _, hans, hhd, fun _ => T.cl e0 hhd, .inl ⟨rfl, hans ▸ hg0, hX, e0.w.drawn, rfl⟩⟩ ?_ ?_
 ·rintro f oi op a ⟨e, w'⟩ ⟨u, rfl, F, he1, he2, hc, hw⟩ hC hfi ho hdeps rest hr
  dsimp only at he1 he2 hc hw hr ⊢
  have hil : oi < 15 := (Array.getElem?_eq_some_iff.1 ho).1
  match oi, hil with
  | 0, _ =>
   have h14 : f 14 = false := by cases h : f 14 with | false => rfl | true => exact absurd (hC.deps (l := [0]) h (by kernel_rfl) 0 (by simp)) (by simp [hfi])
   have h14' : upd f 0 true 14 = false := (upd_ne _ _ (by decide)).trans h14
   replace hc := hc h14
   clear hdeps ho hC hfi
   obtain ⟨hA, hI, hD, hH, hHz⟩ := hc
   simp only [tm68] at hr ⊢
   (refine Walk.oq ?_; try walk_nrm)
   refine hr _ (e, w') ⟨upd u 14 (.slice (some ⟨g.A, 0, none⟩) g.n acap), ?_, F.set (by decide) rfl rfl, he1, he2, fun _ => ⟨hA, hI, hD, hH, hHz⟩, hw.quiet (by decide) (by decide)⟩
   simp [tm68, upd]
  | 1, _ =>
   have h14 : f 14 = false := by cases h : f 14 with | false => rfl | true => exact absurd (hC.deps (l := [1]) h (by kernel_rfl) 1 (by simp)) (by simp [hfi])
   have h14' : upd f 1 true 14 = false := (upd_ne _ _ (by decide)).trans h14
   replace hc := hc h14
   clear hdeps ho hC hfi
   obtain ⟨hA, hI, hD, hH, hHz⟩ := hc
   simp only [tm68] at hr ⊢
   (refine Walk.oq ?_; try walk_nrm)
   refine hr _ (e, w') ⟨upd u 15 (.int .i64 (i : Nat)), ?_, F.set (by decide) rfl rfl, he1, he2, fun _ => ⟨hA, hI, hD, hH, hHz⟩, hw.quiet (by decide) (by decide)⟩
   simp [tm68, upd]
  | 2, _ =>
   have h14 : f 14 = false := by cases h : f 14 with | false => rfl | true => exact absurd (hC.deps (l := [2]) h (by kernel_rfl) 2 (by simp)) (by simp [hfi])
   have h14' : upd f 2 true 14 = false := (upd_ne _ _ (by decide)).trans h14
   replace hc := hc h14
   clear hdeps ho hC hfi
   obtain ⟨hA, hI, hD, hH, hHz⟩ := hc
   simp only [tm68] at hr ⊢
   (refine Walk.oq ?_; try walk_nrm)
   refine hr _ (e, w') ⟨upd u 16 (.slice (some ⟨g.A, 0, none⟩) g.n acap), ?_, F.set (by decide) rfl rfl, he1, he2, fun _ => ⟨hA, hI, hD, hH, hHz⟩, hw.quiet (by decide) (by decide)⟩
   simp [tm68, upd]
  | 3, _ =>
   have h14 : f 14 = false := by cases h : f 14 with | false => rfl | true => exact absurd (hC.deps (l := [3]) h (by kernel_rfl) 3 (by simp)) (by simp [hfi])
   have h14' : upd f 3 true 14 = false := (upd_ne _ _ (by decide)).trans h14
   replace hc := hc h14
   clear hdeps ho hC hfi
   obtain ⟨hA, hI, hD, hH, hHz⟩ := hc
   simp only [tm68] at hr ⊢
   (refine Walk.oq ?_; try walk_nrm)
   refine hr _ (e, w') ⟨upd u 17 (.int .i64 (i : Nat)), ?_, F.set (by decide) rfl rfl, he1, he2, fun _ => ⟨hA, hI, hD, hH, hHz⟩, hw.quiet (by decide) (by decide)⟩
   simp [tm68, upd]
  | 4, _ =>
   have hdd := deps_of (l := [2, 3]) (by kernel_rfl) ho hdeps
   have e16 := F 2 16 _ (hdd 2 (by simp)) rfl rfl
   have e17 := F 3 17 _ (hdd 3 (by simp)) rfl rfl
   have h14 : f 14 = false := by cases h : f 14 with | false => rfl | true => exact absurd (hC.deps (l := [4]) h (by kernel_rfl) 4 (by simp)) (by simp [hfi])
   have h14' : upd f 4 true 14 = false := (upd_ne _ _ (by decide)).trans h14
   replace hc := hc h14
   clear hdeps ho hC hfi hdd
   obtain ⟨hA, hI, hD, hH, hHz⟩ := hc
   simp only [tm68] at hr ⊢
   (refine Walk.oq ?_; try walk_nrm)
   refine hr _ (e, w') ⟨upd u 18 (.pointer (some ⟨g.A, i, none⟩)), ?_, F.set (by decide) rfl rfl, he1, he2, fun _ => ⟨hA, hI, hD, hH, hHz⟩, hw.quiet (by decide) (by decide)⟩
   simp [tm68, upd, e16, e17]
  | 5, _ =>
   have hdd := deps_of (l := [4]) (by kernel_rfl) ho hdeps
   have e18 := F 4 18 _ (hdd 4 (by simp)) rfl rfl
   have h14 : f 14 = false := by cases h : f 14 with | false => rfl | true => exact absurd (hC.deps (l := [5]) h (by kernel_rfl) 5 (by simp)) (by simp [hfi])
   have h14' : upd f 5 true 14 = false := (upd_ne _ _ (by decide)).trans h14
   replace hc := hc h14
   clear hdeps ho hC hfi hdd
   obtain ⟨hA, hI, hD, hH, hHz⟩ := hc
   simp only [tm68] at hr ⊢
   (refine Walk.oq ?_; try walk_nrm)
   refine hr _ (e, w') ⟨upd u 19 (hd), ?_, F.set (by decide) rfl rfl, he1, he2, fun _ => ⟨hA, hI, hD, hH, hHz⟩, hw.quiet (by decide) (by decide)⟩
   simp [tm68, upd, e18]
  | 6, _ =>
   have h14 : f 14 = false := by cases h : f 14 with | false => rfl | true => exact absurd (hC.deps (l := [6]) h (by kernel_rfl) 6 (by simp)) (by simp [hfi])
   have h14' : upd f 6 true 14 = false := (upd_ne _ _ (by decide)).trans h14
   replace hc := hc h14
   clear hdeps ho hC hfi
   obtain ⟨hA, hI, hD, hH, hHz⟩ := hc
   simp only [tm68] at hr ⊢
   (refine Walk.oq ?_; try walk_nrm)
   refine hr _ (e, w') ⟨upd u 20 (dv), ?_, F.set (by decide) rfl rfl, he1, he2, fun _ => ⟨hA, hI, hD, hH, hHz⟩, hw.quiet (by decide) (by decide)⟩
   simp [tm68, upd]
  | 7, _ =>
   have h14 : f 14 = false := by cases h : f 14 with | false => rfl | true => exact absurd (hC.deps (l := [7]) h (by kernel_rfl) 7 (by simp)) (by simp [hfi])
   have h14' : upd f 7 true 14 = false := (upd_ne _ _ (by decide)).trans h14
   replace hc := hc h14
   clear hdeps ho hC hfi
   obtain ⟨hA, hI, hD, hH, hHz⟩ := hc
   simp only [tm68] at hr ⊢
   (refine Walk.oq ?_; try walk_nrm)
   refine hr _ (e, w') ⟨upd u 21 (sv), ?_, F.set (by decide) rfl rfl, he1, he2, fun _ => ⟨hA, hI, hD, hH, hHz⟩, hw.quiet (by decide) (by decide)⟩
   simp [tm68, upd]
  | 8, _ =>
   have h14 : f 14 = false := by cases h : f 14 with | false => rfl | true => exact absurd (hC.deps (l := [8]) h (by kernel_rfl) 8 (by simp)) (by simp [hfi])
   have h14' : upd f 8 true 14 = false := (upd_ne _ _ (by decide)).trans h14
   replace hc := hc h14
   clear hdeps ho hC hfi
   obtain ⟨hA, hI, hD, hH, hHz⟩ := hc
   simp only [tm68] at hr ⊢
   (refine Walk.oq ?_; try walk_nrm)
   refine hr _ (e, w') ⟨upd u 22 (.int .i64 (i : Nat)), ?_, F.set (by decide) rfl rfl, he1, he2, fun _ => ⟨hA, hI, hD, hH, hHz⟩, hw.quiet (by decide) (by decide)⟩
   simp [tm68, upd]
  | 9, _ =>
   have h14 : f 14 = false := by cases h : f 14 with | false => rfl | true => exact absurd (hC.deps (l := [9]) h (by kernel_rfl) 9 (by simp)) (by simp [hfi])
   have h14' : upd f 9 true 14 = false := (upd_ne _ _ (by decide)).trans h14
   replace hc := hc h14
   have hX := hw.early (by cases h : f 10 with | false => rfl | true => exact absurd (hC.deps (l := [9]) h (by kernel_rfl) 9 (by simp)) (by simp [hfi]))
   clear hdeps ho hC hfi
   simp only [tm68] at hr ⊢
   refine Walk.loadS 45 (.tmp 7) hoA (by rfl) (by decide) rfl X 0 [.int .i64 o.k, .int .i64 o.a, .int .i64 o.b, .int .i64 o.c] (.struct fsO) rfl (fun j v hj => ?_) huO rfl (by kernel_rfl) ?_
   ·rw [Nat.zero_add, cell_of hX]
    simpa using hj
   walk_nrm
   refine hr _ (e, w') ⟨upd u 23 (opVal o), ?_, F.set (by decide) rfl rfl, he1, he2, fun _ => hc, hw.quiet (by decide) (by decide)⟩
   simp [tm68, upd, opVal]
  | 10, _ =>
   have hdd := deps_of (l := [6, 7, 8, 9]) (by kernel_rfl) ho hdeps
   have e20 := F 6 20 _ (hdd 6 (by simp)) rfl rfl
   have e21 := F 7 21 _ (hdd 7 (by simp)) rfl rfl
   have e22 := F 8 22 _ (hdd 8 (by simp)) rfl rfl
   have e23 := F 9 23 _ (hdd 9 (by simp)) rfl rfl
   have h14 : f 14 = false := by cases h : f 14 with | false => rfl | true => exact absurd (hC.deps (l := [10]) h (by kernel_rfl) 10 (by simp)) (by simp [hfi])
   have h14' : upd f 10 true 14 = false := (upd_ne _ _ (by decide)).trans h14
   replace hc := hc h14
   obtain ⟨hg, dd, rfl⟩ := hw.callAt hfi
   refine Walk.back ?_ dd
   have h11 : f 11 = false := by cases h : f 11 with | false => rfl | true => exact absurd (hC.deps (l := [10]) h (by kernel_rfl) 10 (by simp)) (by simp [hfi])
   have h12 : f 12 = false := by cases h : f 12 with | false => rfl | true => exact absurd (hC.deps (l := [11]) h (by kernel_rfl) 11 (by simp)) (by simp [h11])
   clear hdeps ho hC
   obtain ⟨c, eo, q1, q2, q3, q4, q5⟩ : ∃ (c : OC) (eo : EO L g S i c), eo.toEC = e ∧ eo.tgt = L.enter e.s o ∧ c.left = rest' ∧ c.ans = e.ans ∧ c.hd = e.hd := ⟨⟨rest', e.ans, e.hd, ownT e.τ e.w, e.w⟩, { e with tgt := L.enter e.s o, eqA := rfl, eqH := rfl, goal := hg, Kown := fun _ h => h, kept := fun _ _ => rfl, hdK := e.hdo }, rfl, rfl, rfl, rfl, rfl⟩
   subst q1
   have hcall : SCall (crewB L g S i c) 69 #[dv, sv, .int .i64 (i : Nat), opVal o] eo (fun v e' => ∃ a, e'.tgt = (e'.s, .inl a) ∧ v = ansVal a) := by
    rw [← hsv, ← hdv]
    exact doOne_s (crewL L g S i c) eo o (i : Nat) fdo fn first cap hf hname hb hdo q2
   refine (?_ : LW (crewB L g S i c) eo (G _ ([] ++ (crewB L g S i c).bot eo)))
   refine LW.callS (f := 69) (Q := fun v e' => ∃ a, e'.tgt = (e'.s, .inl a) ∧ v = ansVal a) ?_ hoA (by rfl) (by decide) rfl Try.func69 (by kernel_rfl) (by rfl) ⟨rfl, rfl, _, Try.func68⟩ (fun _ h => by cases h) ?_
   ·simp only [tm68]
    walk_nrm
    simp only [e20, e21, e22, e23]
    exact hcall
   rintro v e' ⟨a', ht, rfl⟩
   have hg' : e'.τ.goal = settleO L e'.s rest' (e'.ans ++ [a']) := by rw [e'.goal, ht, q3]; rfl
   have hans : e'.ans = eo.ans := e'.eqA.trans q4
   have hhd : e'.hd = eo.hd := e'.eqH.trans q5
   simp only [tm68] at hr ⊢
   walk_nrm
   refine hr _ (e'.toEC, e'.w) ⟨upd (upd u 1010 undef) 24 (ansVal a'), ?_, Facts.other (F.set (by decide) rfl rfl) (by decide), hans.trans he1, hhd.trans he2, fun _ => T.cl e'.toEC (hhd.trans he2), .inr ⟨upd_same _ _ _, a', upd_same _ _ _, hg', .inl ⟨by rw [upd_ne _ _ (by decide)]; exact h11, by rw [upd_ne _ _ (by decide)]; exact h12, h14', e'.w.drawn, rfl⟩⟩⟩
   simp [tm68, upd]
  | 11, _ =>
   have h14 : f 14 = false := by cases h : f 14 with | false => rfl | true => exact absurd (hC.deps (l := [11]) h (by kernel_rfl) 11 (by simp)) (by simp [hfi])
   have h14' : upd f 11 true 14 = false := (upd_ne _ _ (by decide)).trans h14
   replace hc := hc h14
   have h10 := (deps_of (l := [10]) (by kernel_rfl) ho hdeps) 10 (by simp)
   obtain ⟨a', h24, hg, h12, dd, rfl⟩ := hw.newAt h10 hfi
   refine Walk.back ?_ dd
   clear hdeps ho hC
   replace hc : ClO g i pA pI pD acap dv hd e.w := ⟨hc.hA, hc.hI, hc.hD, hc.hH, hc.hHz⟩
   have hc1 := hc.new a'
   simp only [tm68, h24, ansVal] at hr ⊢
   (refine Walk.oa ?_; try walk_nrm)
   refine hr _ (e, ansA e.w a') ⟨upd (upd u 1011 undef) 25 (.slice (some ⟨e.w.heap.size, 0, none⟩) 1 1), ?_, Facts.other (F.set (by decide) rfl rfl) (by decide), he1, he2, fun _ => hc1, .inr ⟨by rw [upd_ne _ _ (by decide)]; exact h10, a', by rw [upd_ne _ _ (by decide), upd_ne _ _ (by decide)]; exact h24, hg, .inr (.inl ⟨upd_same _ _ _, by rw [upd_ne _ _ (by decide)]; exact h12, h14', upd_same _ _ _, (ansA e.w a').drawn, rfl⟩)⟩⟩
   simp [tm68, upd, h24, ansVal]
  | 12, _ =>
   have hdd := deps_of (l := [5]) (by kernel_rfl) ho hdeps
   have e19 := F 5 19 _ (hdd 5 (by simp)) rfl rfl
   have h14 : f 14 = false := by cases h : f 14 with | false => rfl | true => exact absurd (hC.deps (l := [12]) h (by kernel_rfl) 12 (by simp)) (by simp [hfi])
   have h14' : upd f 12 true 14 = false := (upd_ne _ _ (by decide)).trans h14
   replace hc := hc h14
   have h11 := (deps_of (l := [10, 11]) (by kernel_rfl) ho hdeps) 11 (by simp)
   have h10 := (deps_of (l := [10, 11]) (by kernel_rfl) ho hdeps) 10 (by simp)
   obtain ⟨a', h24, hg, h25, dd, rfl⟩ := hw.appAt h10 h11 hfi
   refine Walk.back ?_ dd
   clear hdeps ho hC
   replace hc : ClO g i pA pI pD acap dv hd (ansA e.w a') := ⟨hc.hA, hc.hI, hc.hD, hc.hH, hc.hHz⟩
   have hrow : (ansA e.w a').ownsRow g.w0.heap.size 32 3 hd ans.length (ansRow ans) := by
    obtain ⟨ta', tc', q1, q2⟩ := e.row
    rw [he1, he2] at q2
    exact row_same q2 fun b hb' => heap_new_lt _ _ (q2.lt b hb').2
   have hnews : ∀ (j : Nat) (x : Value), ([.bool a'.1, .int .i64 a'.2, .slice none 0 0] : List Value)[j]? = some x → (ansA e.w a').cell? ((⟨e.w.heap.size, 0, none⟩ : Addr).add j) = some x := fun j x hx => by
    rw [add_none, Nat.zero_add]
    refine (cell_of (heap_alloc_new _ _) j).trans ?_
    simpa using hx
   have hbase : g.w0.heap.size ≤ (ansA e.w a').heap.size := by
    obtain ⟨hd0, r⟩ := e.rely
    have := r.size
    have := e.size
    have : (ansA e.w a').heap.size = e.w.heap.size + 1 := by simp [ansA]
    omega
   simp only [tm68] at hr ⊢
   simp only [h25, e19]
   refine Walk.append (.tmp 19) (.tmp 25) 29 hoA (by rfl) (by decide) rfl g.w0.heap.size 32 _ (.agg #[.bool false, .int .i64 0, .slice none 0 0]) 3 40 (by kernel_rfl) hiA.symm (by rfl) (by rfl) (by rfl) (by rfl) (by decide) hd ans.length (ansRow ans) rfl hrow ⟨e.w.heap.size, 0, none⟩ 1 1 [.bool a'.1, .int .i64 a'.2, .slice none 0 0] rfl (by rfl) hnews (by simp [Value.oneCell']) (by decide) (by simp [maxLen]; omega) (by omega) hbase (fun b hb' => e.apart (.inr (.inl (e.hdo b (by rw [he2]; exact hb'))))) (fun gb gcap w3 hown3 hgr hat hlt => ?_)
   walk_nrm
   have hA3 : AppO g e.w a' e.hd e.ans gb gcap w3 := by rw [he1, he2]; exact ⟨hown3, hgr, hat, hlt⟩
   refine hr _ (e, w3) ⟨upd (upd u 1012 undef) 26 (.slice (some ⟨gb, 0, none⟩) (ans.length + 1) gcap), ?_, Facts.other (F.set (by decide) rfl rfl) (by decide), he1, he2, fun _ => T.app e hA3 hc , .inr ⟨by rw [upd_ne _ _ (by decide)]; exact h10, a', by rw [upd_ne _ _ (by decide), upd_ne _ _ (by decide)]; exact h24, hg, .inr (.inr ⟨by rw [upd_ne _ _ (by decide)]; exact h11, upd_same _ _ _, gb, gcap, w3, hA3, by rw [upd_same, he1], .inl ⟨h14', w3.drawn, rfl⟩⟩)⟩⟩
   simp [tm68, upd, h25, e19]
  | 13, _ =>
   have hdd := deps_of (l := [0, 1, 2, 3, 4, 5, 6, 7, 8, 9, 10, 11, 12]) (by kernel_rfl) ho hdeps
   have e14 := F 0 14 _ (hdd 0 (by simp)) rfl rfl
   have e15 := F 1 15 _ (hdd 1 (by simp)) rfl rfl
   have h14 : f 14 = false := by cases h : f 14 with | false => rfl | true => exact absurd (hC.deps (l := [13]) h (by kernel_rfl) 13 (by simp)) (by simp [hfi])
   have h14' : upd f 13 true 14 = false := (upd_ne _ _ (by decide)).trans h14
   replace hc := hc h14
   clear hdeps ho hC hfi hdd
   obtain ⟨hA, hI, hD, hH, hHz⟩ := hc
   simp only [tm68] at hr ⊢
   (refine Walk.oq ?_; try walk_nrm)
   refine hr _ (e, w') ⟨upd u 27 (.pointer (some ⟨g.A, i, none⟩)), ?_, F.set (by decide) rfl rfl, he1, he2, fun _ => ⟨hA, hI, hD, hH, hHz⟩, hw.quiet (by decide) (by decide)⟩
   simp [tm68, upd, e14, e15]
  | 14, _ =>
   have hdd := deps_of (l := [0, 1, 2, 3, 4, 5, 6, 7, 8, 9, 10, 11, 12, 13]) (by kernel_rfl) ho hdeps
   have e27 := F 13 27 _ (hdd 13 (by simp)) rfl rfl
   replace hc := hc hfi
   have h10 := hdd 10 (by simp)
   have h11 := hdd 11 (by simp)
   have h12 := hdd 12 (by simp)
   obtain ⟨a', h24, hg, gb, gcap, w3, hA3, h26, dd, rfl⟩ := hw.stAt h10 h11 h12 hfi
   refine Walk.back ?_ dd
   obtain ⟨hA, hI, hD, hH, hHz⟩ := hc
   replace hH : w3.cell? ⟨g.A, i, none⟩ = some hd := hH
   replace hHz : w3.frozen? ⟨g.A, i, none⟩ = false := hHz
   clear hdeps ho hC hdd hA hI hD
   simp only [tm68] at hr ⊢
   have h26' : u 26 = .slice (some ⟨gb, 0, none⟩) (ans.length + 1) gcap := by rw [h26, he1]
   simp only [h26', e27]
   (have hfr := e.apA ⟨g.A, i, none⟩ rfl; refine Walk.os hfr hH ?_; clear hfr; try walk_nrm)
   refine hr _ (e, w3.setCell ⟨g.A, i, none⟩ (.slice (some ⟨gb, 0, none⟩) (ans.length + 1) gcap)) ⟨upd u 1014 undef, ?_, F.set (by decide) rfl rfl, he1, he2, fun h => (by rw [upd_same] at h; cases h), .inr ⟨by rw [upd_ne _ _ (by decide)]; exact h10, a', by rw [upd_ne _ _ (by decide)]; exact h24, hg, .inr (.inr ⟨by rw [upd_ne _ _ (by decide)]; exact h11, by rw [upd_ne _ _ (by decide)]; exact h12, gb, gcap, w3, hA3, by rw [upd_ne _ _ (by decide)]; exact h26, .inr ⟨upd_same _ _ _, (w3.setCell ⟨g.A, i, none⟩ (.slice (some ⟨gb, 0, none⟩) (ans.length + 1) gcap)).drawn, by rw [upd_ne _ _ (by decide), h26']; rfl⟩⟩)⟩⟩
   simp [tm68, upd, h24, h26', e27]
 ·rintro f a ⟨e, w'⟩ ⟨u, rfl, F, he1, he2, hc, hw⟩ hall
  have hsz : reg68_3.size = 15 := size68_3
  obtain ⟨a', hg, gb, gcap, w3, hA3, dd, hw'⟩ := hw.endAt (hall 10 (by omega)) (hall 12 (by omega)) (hall 14 (by omega))
  obtain ⟨e', h1, h2, h3, h4, h5⟩ := e.told hA3
  have := hk u e' a' (h4.trans (by dsimp only at he1; rw [he1])) (by rw [h1, h3, h4]; exact hg)
  dsimp only at hw' ⊢
  subst hw'
  refine Walk.back ?_ dd
  rw [← h1, ← h2, ← h5]
  exact this
end
end
end Go.Proofs.Ytdmpmoggacjgcaa
