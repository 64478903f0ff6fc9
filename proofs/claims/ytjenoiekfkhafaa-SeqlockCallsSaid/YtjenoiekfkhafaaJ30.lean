/- Part 30. -/
import Derived.Test.YtjenoiekfkhafaaJ16
import Derived.Test.YtjenoiekfkhafaaJ17
import Derived.Test.YtjenoiekfkhafaaJ27
import Derived.Test.YtjenoiekfkhafaaJ29
set_option linter.unusedSimpArgs false
set_option linter.unusedVariables false
set_option linter.unusedVariables false
set_option maxHeartbeats 8000000
set_option maxRecDepth 100000
namespace Go.Proofs.Ytjenoiekfkhafaa
open Go.Conc Go.RowKit Go.Relay
open Go.ConcN (upd upd_ne upd_same)
section
section
variable {X : Type} {A : Abs X}
theorem Nv : ∀ (l : List Int) (st : X × List Nat), (st.2.length : Int) <= A.most -> ((l.foldl (Bk A) st).2.length : Int) <= A.most
 | [], _, h => h
 | z :: l, st, h => Nv l _ (Mp h z)
theorem Ly : ∀ (l : List Nat) (st : X × List Nat), (st.2.length : Int) <= A.most -> ((l.foldl (fun st i => Bk A st (i : Nat)) st).2.length : Int) <= A.most
 | [], _, h => h
 | z :: l, st, h => Ly l _ (Mp h _)
theorem Mz : ∀ (f : Nat) (st : X × List Nat), (st.2.length : Int) <= A.most -> ((Dl A f st).2.length : Int) <= A.most
 | 0, _, h => h
 | f + 1, st, h => by
  unfold Dl
  split
  ·exact h
  ·exact Mz f _ (Ly _ _ h)
end
theorem playO_short (L : La) (s0 : L.Sg) (ops : Nat -> List OpV) (n : Nat) (most : Int) (sl : List Int) : (Bt L s0 ops n most sl).2.length <= 1048576 := by
 have h : ((Bt L s0 ops n most sl).2.length : Int) <= min (max most 0) 1048576 := Mz (A := Ce L n (min (max most 0) 1048576) ops) _ _ (Nv _ _ (by show ((0 : Nat) : Int) <= min (max most 0) 1048576; omega))
 omega
def stM (m : Nat) (s : Sq) : List Int := s.v :: cL s.w m
theorem stM_len (m : Nat) (s : Sq) : (stM m s).length = 1 + m := by simp [stM, cL]; omega
def CapS (cells : Array Value) : Prop := ∀ (sa : Option Addr) (m sc : Nat), cells[2]? = some (.slice sa m sc) -> m <= sc
def RunR (n m a0 : Nat) (L : La) (stx : L.Sg -> List Int) (W w : World) (F : OX L × List Nat) (v : Value) (w' : World) : Prop := ∃ cells, v = .agg cells /\ (∀ w'' : World, (∀ b, a0 <= b -> b < w'.heap.size -> w''.heap[b]? = w'.heap[b]?) -> TrA cells n (fun i => (F.1.th i).ans) F.2 (stx F.1.s) (Dy n F.1) w'') /\ (∀ b, b < a0 -> w'.heap[b]? = W.heap[b]?) /\ w.heap.size <= w'.heap.size /\ (∀ i, i < n -> (F.1.th i).ans.length <= 65536) /\ CapS cells
section
variable {a0 M cg cc n m R : Nat} {main : Bool} {lb : Nat} {ops : Nat -> List OpV} {W : World}
theorem run_tail (hm : m <= 64) (hn : n <= 64) (hol : ∀ i, i < n -> (ops i).length <= 65536) (F : OX (Aj lb (m - 1)) × List Nat) (oa : Option Addr) (oc : Nat) (u : Nat -> Value) (c : Frame) (cs : List Frame) (w : World) (H : RS8 lb a0 M cg cc m R ops W n F oa oc w) (hRa : a0 <= R) :
  Walk Try.prog main (DR (fun _ => none)) (fun g w' => ∃ v, RunR n m a0 (Aj lb (m - 1)) (stM m) W w F v w' /\ g = G (c.finish v) cs) (G (hdRunE M R n (.slice oa F.2.length oc) u) (c :: cs)) w := by
 obtain ⟨tb, tc, ta, T, N, hF⟩ := H.N
 have hRl := (Array.getElem?_eq_some_iff.1 N.res).1
 have hl := RO8.left (main := main) (most := 0) hn H
 have hl : Bn Try.prog main (fun _ => none) 54 #[.pointer (some ⟨M, 0, none⟩)] w (.bool (Dy n F.1)) w := hl
 have hav : ∀ i, i < n -> ∃ aa ac, (T i).av = .slice aa (T i).ans.length ac /\ RowA a0 (T i).ownA (.slice aa (T i).ans.length ac) (T i).ans w /\ w.cell? ⟨tb, i * 8 + 1, none⟩ = some (.slice aa (T i).ans.length ac) /\ (T i).ans = (F.1.th i).ans /\ (∀ b, (T i).ownA b -> a0 <= b /\ b < w.heap.size /\ b ≠ R) := fun i hi => by
  have hr := (N.I.rows i hi).rA
  have hlo := (N.I.rows i hi).lo
  obtain ⟨aa, ac, z, _, e, _⟩ := id hr
  have hc := N.I.tcell hi (j := 1) (v := (T i).av) rfl
  refine ⟨aa, ac, e, by rw [<- e]; exact hr, by rw [<- e]; exact hc, (N.th i hi).ans, fun b hb => ⟨(hlo b hb).1, (hlo b hb).2, fun hbR => N.resS ?_⟩⟩
  subst hbR
  exact .inr (.inr (.inr ⟨i, hi, .inl hb⟩))
 refine (last_in M R n (1 + m) oa F.2.length oc (Dy n F.1) (stM m F.1.s) u (c :: cs) w hl (state8_w w N.I hm)).then ?_
 rintro _ w1 ⟨sa, sc, Q, ⟨u1, rfl⟩, hQ, hQb, hC1, hst, hs1, hsQ⟩
 have loop : ∀ (r i : Nat) (ha : Option Addr) (hc : Nat) (u : Nat -> Value) (w2 : World), i + r = n -> w2.heap[Q]? = some (.cells (Mm (.slice ha i hc) (.slice oa F.2.length oc) (.slice sa (1 + m) sc) (Dy n F.1)) 31) -> w2.ownsRow (Q + 1) 42 1 (.slice ha i hc) i (Ib (fun i => (T i).av) i) -> Chg (fun x => x = Q ∨ Q + 1 <= x) w1 w2 ->
   Walk Try.prog main (DR (fun _ => none)) (fun g w' => ∃ v, RunR n m a0 (Aj lb (m - 1)) (stM m) W w F v w' /\ g = G (c.finish v) cs) (G (hdRun4 M R n Q i u) (c :: cs)) w2 := by
  intro r
  induction r with
  | zero =>
   intro i ha hc u w2 hi h2 h3 h4
   obtain rfl : i = n := hi
   have hR2 : w2.heap[R]? = some Fq := (h4.same R (by have := hC1.size; omega) (by omega)).trans ((hC1.same R hRl id).trans N.res)
   have hs4 := h4.size
   refine (last_out M R i Q _ _ _ _ u c cs w2 h2 hR2 (by simp [Value.oneCell'])).mono ?_
   rintro g w' ⟨rfl, hC5⟩
   have hs5 := hC5.size
   have far : ∀ b, b < w.heap.size -> b ≠ R -> w'.heap[b]? = w.heap[b]? := fun b hb hbR => (hC5.same b (by have := hC1.size; omega) hbR).trans ((h4.same b (by have := hC1.size; omega) (by omega)).trans (hC1.same b hb id))
   refine ⟨_, ⟨_, rfl, fun w'' h'' => ⟨⟨ha, hc, oa, oc, sa, sc, ?_, ?_, ?_, fun j hj => ?_⟩⟩, fun b hb => ?_, by omega, fun j hj => ?_, fun s1 m1 c1 hc => ?_⟩, rfl⟩
   ·have e : (stM m F.1.s).length = 1 + m := stM_len _ _
    show _ = Mm _ _ (.slice sa (stM m F.1.s).length sc) _
    rw [e]; rfl
   ·refine Iq (base := a0) (e := 3) (m := F.2.length) (tc := oc) ?_
    have e : ((F.2.map fun i => ((i : Nat) : Int)).map (Value.int .i64)) = Eg F.2 := by simp [Eg]
    rw [e]
    exact Aw H.row fun g hg => (h'' g (H.row.lt g hg).1 (by have := (H.row.lt g hg).2; have := hC1.size; omega)).trans (far g (H.row.lt g hg).2 (hF g hg).2)
   ·refine Iq (base := w.heap.size) (e := 2) (m := 1 + m) (tc := sc) ?_
    refine Aw hst fun g hg => ?_
    have g1 := (hst.lt g hg).1
    have g2 := hsQ g hg
    have gN := N.le
    exact (h'' g (by omega) (by omega)).trans <| (hC5.same g (by omega) (by omega)).trans (h4.same g (by omega) (by omega))
   ·obtain ⟨aa, ac, e1, e2, e3, e4, e5⟩ := hav j hj
    obtain ⟨g, eg, hg, hgl, hcell⟩ := Jh h3 (j := j) (x := (T j).av) (by simp [Ib, hj])
    refine ⟨g, 0, aa, ac, eg, ?_, ?_⟩
    ·rw [Nat.zero_add, <- e4, <- e1]
     have gN := N.le
     have gC := hC1.size
     exact (World.cell?_of_block (a := ⟨g, j, none⟩) ((h'' g (by omega) (by omega)).trans (hC5.same g hgl (by omega)))).trans hcell
    ·rw [<- e4]
     have hr : RowA a0 (T j).ownA (.slice aa (T j).ans.length ac) (T j).ans w'' := e2.same fun b hb => (h'' b (e5 b hb).1 (by have := (e5 b hb).2.1; have := hC1.size; omega)).trans (far b (e5 b hb).2.1 (e5 b hb).2.2)
     obtain ⟨ta', tc'', e, hA⟩ := ansA_of hr
     cases e
     exact hA
   ·have := N.le
    exact (far b (by omega) (by omega)).trans (N.old b hb)
   ·obtain ⟨aa, ac, e1, e2, e3, e4, e5⟩ := hav j hj
    rw [<- e4]
    have hal := N.al j hj
    have hp : (T j).at' <= (ops j).length := by
     rcases (N.th j hj).pos with ⟨_, _, h, _⟩ | ⟨_, o, _, h, _⟩
     ·omega
     ·have := (List.getElem?_eq_some_iff.1 h).1; omega
    have := hol j hj
    omega
   ·have hcv : Value.slice sa (1 + m) sc = .slice s1 m1 c1 := by simpa [Mm] using hc
    obtain ⟨_, rfl, rfl⟩ := Value.slice.inj hcv
    rcases hst.2 with ⟨_, h⟩ | ⟨g', cap', cur, e, _, _, hle, _⟩
    ·omega
    ·injection e with _ _ e
     omega
  | succ r ih =>
   intro i ha hc u w2 hi h2 h3 h4
   obtain ⟨aa, ac, e1, e2, e3, e4, e5⟩ := hav i (by omega)
   obtain ⟨l1, l2, l3⟩ := N.I.lt
   have l3 := l3 (by omega)
   have hs4 := h4.size
   have hcell : ∀ {x j : Nat} {v : Value}, w.cell? ⟨x, j, none⟩ = some v -> w2.cell? ⟨x, j, none⟩ = some v := fun {x j v} h => (World.cell?_of_block (a := ⟨x, j, none⟩) ((h4.same x (by have := Al h; have := hC1.size; omega) (by have := Al h; omega)).trans (hC1.same x (Al h) id))).trans h
   refine (last_go M R n Q i tb tc _ _ _ ha hc aa (T i).ans.length ac (fun i => (T i).av) u (c :: cs) (Q + 1) w2 h2 h3 (by omega) hn e1 (by omega) (by omega) (hcell (N.I.cT (by omega))) (hcell e3) (by omega) (by omega)).then ?_
   rintro g w3 ⟨g', cap, ⟨u', rfl⟩, m1, m2, m3⟩
   exact ih (i + 1) _ cap u' w3 (by omega) m1 m2 (h4.trans m3 fun x hx h => h)
 exact loop n 0 none 0 u1 w1 (by omega) hQb (rowNil _ _ _ _) Chg.refl
theorem run_w (hm0 : 0 < m) (hm : m <= 64) (C0 : Sq) (T : Nat -> R8) (b off n0 tcc N : Nat) (hN : N = min n0 64) (va : Option Addr) (hv : 0 < N -> va = some ⟨b, off, none⟩) (oa : Nat -> Option Addr) (ln oc : Nat -> Nat) (ops : Nat -> List OpV) (sa : Option Addr) (sc : Nat) (sl : List Int) (most : Int) (ha0 : a0 = W.heap.size) (O : OpsIn b off N oa ln oc ops W)
  (hsl : sl.length <= 17592186044416) (hs : ∀ (j : Nat) (z : Int), sl[j]? = some z -> ∃ s so, sa = some ⟨s, so, none⟩ /\ W.cell? ⟨s, so + j, none⟩ = some (.int .i64 z)) (w : World) (I : M8 a0 M cg cc 0 0 0 m none C0 T w) (old : ∀ b, b < a0 -> w.heap[b]? = W.heap[b]?) (hle : a0 <= w.heap.size) :
  CallW Try.prog main (fun _ => none) 37 #[.pointer (some ⟨M, 0, none⟩), .slice va n0 tcc, .slice sa sl.length sc, .int .i64 most] w (RunR N m a0 (Aj lb (m - 1)) (stM m) W w (Bt (Aj lb (m - 1)) C0 ops N most sl)) := by
 intro c cs
 have hol : ∀ i, i < N -> (ops i).length <= 65536 := fun i hi => by have := O.len i hi; omega
 have hN64 : N <= 64 := by omega
 refine (into_run M va n0 tcc (.slice sa sl.length sc) most (c :: cs) w).then ?_
 rw [<- hN]
 rintro _ _ ⟨⟨u0, rfl⟩, d0, rfl⟩
 refine Walk.back ?_ d0
 obtain ⟨l1, l2, l3⟩ := I.lt
 have hsz : (w.alloc Fq).heap.size = w.heap.size + 1 := by simp
 have H0 : RN8 lb a0 M cg cc m w.heap.size ops W M 0 none T 0 (Qc (Aj lb (m - 1)) C0) (w.alloc Fq) := by
  refine ⟨(I.same fun b hb => Ab _ _ hb).noT, fun _ => ⟨rfl, rfl⟩, fun _ => rfl, fun i hi => absurd hi (Nat.not_lt_zero i), fun i hi => absurd hi (Nat.not_lt_zero i), fun i hi => absurd hi (Nat.not_lt_zero i), heap_alloc_new _ _, ?_, fun b hb => (Ab _ _ (by omega)).trans (old b hb), by omega⟩
  rintro (h | h | h | ⟨k, hk, _⟩)
  ·omega
  ·omega
  ·omega
  ·exact absurd hk (Nat.not_lt_zero k)
 refine (run_threads (main := main) hN64 hm0 b off n0 tcc (.slice sa sl.length sc) (min (max most 0) 1048576) (min (max most 0) 1048576) oa ln oc ops (by omega) W ha0 O (.slice va n0 tcc) (fun h => by rw [hv h]) (c :: cs) N 0 M 0 none T _ u0 _ (by omega) H0).then ?_
 rintro _ w1 ⟨⟨u1, rfl⟩, tb, tc', ta', T1, H1⟩
 have hs1 := H1.le
 refine (run_end0 M _ _ _ w.heap.size N u1 (c :: cs) w1).then ?_
 rintro _ _ ⟨⟨u2, rfl⟩, d, rfl⟩
 refine Walk.back ?_ d
 have HO : RS8 lb a0 M cg cc m w.heap.size ops W N (Jo (Ce (Aj lb (m - 1)) N (min (max most 0) 1048576) ops) N 0 (Qc (Aj lb (m - 1)) C0), []) none 0 w1 := ⟨⟨tb, tc', ta', T1, H1, fun b hb => by cases hb⟩, rowNil _ _ _ _⟩
 refine (run_sched (main := main) (most := min (max most 0) 1048576) hm0 hm hN64 hol (by omega) sa sc sl hsl (fun j z hz => by
  obtain ⟨s, so, e, h⟩ := hs j z hz
  exact ⟨s, so, e, by rw [ha0]; exact Al h, h⟩) (c :: cs) sl.length 0 _ none 0 u2 w1 (by omega) HO).then ?_
 rintro _ w2 ⟨oa2, oc2, ⟨u3, rfl⟩, H2⟩
 rw [List.drop_zero] at H2 ⊢
 refine (run_rest (main := main) (most := min (max most 0) 1048576) hm0 hm hN64 hol (by omega) (c :: cs) (min (max most 0) 1048576).toNat _ oa2 oc2 u3 w2 (by omega) H2).then ?_
 rintro _ w3 ⟨oa3, oc3, ⟨u4, rfl⟩, H3⟩
 have eF : Dl (Ce (Aj lb (m - 1)) N (min (max most 0) 1048576) ops) (min (max most 0) 1048576).toNat (sl.foldl (Bk (Ce (Aj lb (m - 1)) N (min (max most 0) 1048576) ops)) (Jo (Ce (Aj lb (m - 1)) N (min (max most 0) 1048576) ops) N 0 (Qc (Aj lb (m - 1)) C0), [])) = Bt (Aj lb (m - 1)) C0 ops N most sl := rfl
 rw [eF] at H3 ⊢
 obtain ⟨_, _, _, _, N3, _⟩ := H3.N
 have hR3 := (Array.getElem?_eq_some_iff.1 N3.res).1
 refine (run_tail (main := main) hm hN64 hol _ oa3 oc3 u4 c cs w3 H3 hle).mono ?_
 rintro g w' ⟨v, ⟨cells, e1, e2, e3, e4, e5⟩, hg⟩
 exact ⟨v, ⟨cells, e1, e2, e3, by omega, e5⟩, hg⟩
end
end
section
noncomputable def reg36_0 := rk Try.f36.body 0
noncomputable def reg36_1 := rk Try.f36.body 1
noncomputable def reg36_2 := rk Try.f36.body 2
noncomputable def reg36_3 := rk Try.f36.body 3
noncomputable def reg36_5 := rk Try.f36.body 5
theorem size36_5 : reg36_5.size = 14 := by kernel_rfl
noncomputable def reg36_4 := rk Try.f36.body 4
noncomputable def reg36_6 := rk Try.f36.body 6
noncomputable def reg36_7 := rk Try.f36.body 7
noncomputable def reg36_8 := rk Try.f36.body 8
theorem z36 : reg36_0.size = 1 /\ reg36_1.size = 3 /\ reg36_2.size = 1 /\ reg36_3.size = 8 /\ reg36_4.size = 3 /\ reg36_5.size = 14 /\ reg36_6.size = 6 /\ reg36_7.size = 5 /\ reg36_8.size = 2 := by and_intros <;> kernel_rfl
theorem code36_is : Try.f36.body = some (.seq (.region 0 reg36_0 false) (.seq (.region 1 reg36_1 false) (.seq (.seq (.region 2 reg36_2 false) (.block 0 (.loop (.seq (.seq (.region 3 reg36_3 false) (.cond (.tmp 14 ) (.skip) (.exit 0))) (.seq (.block 1 (.region 5 reg36_5 true)) (.region 4 reg36_4 false)))))) (.seq (.seq (.region 6 reg36_6 false) (.cond (.tmp 35 ) (.region 7 reg36_7 false) (.skip))) (.seq (.region 8 reg36_8 false) (.ret)))))) := by kernel_rfl
noncomputable def hdNew8 (xv : Value) (M j : Nat) (u : Nat -> Value) : Frame :=
 (base 36).at { tmps := #[xv, u 1, u 2, .pointer (some ⟨M, 0, none⟩), .int .i64 j, u 5, u 6, u 7, u 8, u 9, u 10, u 11, u 12, u 13, u 14, u 15, u 16, u 17, u 18, u 19, u 20, u 21, u 22, u 23, u 24, u 25, u 26, u 27, u 28, u 29, u 30, u 31, u 32, u 33, u 34, u 35, u 36, u 37, u 38, u 39, u 40], defers := [] } [.code (.seq (.seq (.region 3 reg36_3 false) (.cond (.tmp 14 ) (.skip) (.exit 0))) (.seq (.block 1 (.region 5 reg36_5 true)) (.region 4 reg36_4 false))), .inLoop (.seq (.seq (.region 3 reg36_3 false) (.cond (.tmp 14 ) (.skip) (.exit 0))) (.seq (.block 1 (.region 5 reg36_5 true)) (.region 4 reg36_4 false))), .inBlock 0, .code (.seq (.seq (.region 6 reg36_6 false) (.cond (.tmp 35 ) (.region 7 reg36_7 false) (.skip))) (.seq (.region 8 reg36_8 false) (.ret)))]
def SlIn (sa : Option Addr) (sl : List Int) (w : World) : Prop := ∀ (j : Nat) (z : Int), sl[j]? = some z -> ∃ s so, sa = some ⟨s, so, none⟩ /\ w.cell? ⟨s, so + j, none⟩ = some (.int .i64 z)
theorem SlIn.old {sa : Option Addr} {sl : List Int} {w w' : World} (h : SlIn sa sl w) (hb : ∀ b, b < w.heap.size -> w'.heap[b]? = w.heap[b]?) : SlIn sa sl w' := fun j z hz => by
 obtain ⟨s, so, e, hc⟩ := h j z hz
 exact ⟨s, so, e, (World.cell?_of_block (a := ⟨s, so + j, none⟩) (hb s (Al hc))).trans hc⟩
def Li (x : Int) : Obj := .cells #[.int .i64 x] 2
section
variable {main : Bool}
structure NwR (M : Nat) (xs : List Int) (j : Nat) (cv : Value) (w0 w : World) : Prop where
 hd : w.heap[M]? = some (.cells #[.int .i64 0, cv, .slice none 0 0] 110)
 row : w.ownsRow (M + 1) 2 1 cv j (Bp (xs.take j))
 old : ∀ b, b < M -> w.heap[b]? = w0.heap[b]?
 lt : M < w.heap.size
theorem rnew_in (xa : Option Addr) (n c : Nat) (cs : List Frame) (w : World) :
  Walk Try.prog main (DR (fun _ => none)) (fun g w' => ∃ u w1, g = G (hdNew8 (.slice xa n c) w.heap.size 0 u) cs /\ NwR w.heap.size [] 0 (.slice none 0 0) w w1 /\ ∃ d, w' = w1.at d)
   (G (Frame.enter Try.prog 36 #[.slice xa n c] .normal) cs) w := by
 rw [enter_at _ Try.func36 code36_is]
 simp only [Try.ntmps36, ez, Nat.reduceAdd, Nat.reduceSub]
 refine Aa z36 ?_
 (refine Walk.oa ?_; try walk_nrm)
 have d1 := heap_alloc_new w (.cells #[.int .i64 0, .slice none 0 0, .slice none 0 0] 110)
 have o1 : ∀ b, b < w.heap.size -> (w.alloc (.cells #[.int .i64 0, .slice none 0 0, .slice none 0 0] 110)).heap[b]? = w.heap[b]? := fun b hb => Ab _ _ hb
 have s1 : (w.alloc (.cells #[.int .i64 0, .slice none 0 0, .slice none 0 0] 110)).heap.size = w.heap.size + 1 := by simp
 generalize w.heap.size = M at *
 generalize w.alloc (.cells #[.int .i64 0, .slice none 0 0, .slice none 0 0] 110) = w1 at *
 refine Aa z36 ?_
 refine Walk.ctl rfl (fun w => stepG_loop) ?_
 refine Bz (F := fun u => G (hdNew8 (.slice xa n c) M 0 u) cs) (fun u => .stop fun d => ⟨u, w1, rfl, ⟨d1, ⟨rfl, .inl ⟨rfl, rfl⟩⟩, o1, by omega⟩, d, rfl⟩) ?_
 simp only [hdNew8]
 rfl
theorem rnew_go (xa : Option Addr) (xs : List Int) (c j M : Nat) (cv : Value) (hj : j < xs.length) (hj6 : j < 16) (hxn : xs.length <= 17592186044416) (w0 w : World) (hM : w0.heap.size = M) (hx : SlIn xa xs w0) (I : NwR M xs j cv w0 w) (u : Nat -> Value) (cs : List Frame) :
  Walk Try.prog main (DR (fun _ => none)) (fun g w' => ∃ u w1 cv', g = G (hdNew8 (.slice xa xs.length c) M (j + 1) u) cs /\ NwR M xs (j + 1) cv' w0 w1 /\ ∃ d, w' = w1.at d) (G (hdNew8 (.slice xa xs.length c) M j u) cs) w := by
 have hx0 : xs[j]? = some (xs.getD j 0) := by rw [List.getD_eq_getElem?_getD, List.getElem?_eq_getElem (by omega)]; rfl
 have htk : Bp (xs.take (j + 1)) = Bp (xs.take j) ++ [.int .i64 (xs.getD j 0)] := by
  rw [List.take_succ_eq_append_getElem hj, Ia]
  congr 3
  rw [List.getD_eq_getElem?_getD, List.getElem?_eq_getElem hj]
  rfl
 obtain ⟨s, so, rfl, hc0⟩ := hx j _ hx0
 have hsl := Al hc0
 have c2 : w.cell? ⟨s, so + j, none⟩ = some (.int .i64 (xs.getD j 0)) := (World.cell?_of_block (a := ⟨s, so + j, none⟩) (I.old s (by omega))).trans hc0
 have c1 : w.cell? ⟨M, 1, none⟩ = some cv := (Ad I.hd 1).trans rfl
 have hMl := I.lt
 generalize xs.getD j 0 = x at *
 generalize hln : xs.length = ln at *
 have hj0 : (0 : Int) <= j := by omega
 have hj1 : decide ((j : Int) < ln) = true := by simp; omega
 have hj3 : decide (j < ln) = true := by simp; omega
 have hj4 : (j : Int) < ln := by omega
 have hj5 : decide ((j : Int) < 16) = true := by simp; omega
 have hw1 : IntKind.wrap .i64 ((j : Int) + 1) = (j : Int) + 1 := by rw [IntKind.wrap_i64]; omega
 have hcc : ((j + 1 : Nat) : Int) = (j : Int) + 1 := by simp
 have hsz1 : w.heap.size + 1 <= (w.alloc (Li x)).heap.size /\ (w.alloc (Li x)).heap.size <= w.heap.size + 1 := by simp
 have hO1 : ∀ y, y < w.heap.size -> (w.alloc (Li x)).heap[y]? = w.heap[y]? := fun y hy => Ab _ _ hy
 have hown' : (w.alloc (Li x)).ownsRow (M + 1) 2 1 cv j (Bp (xs.take j)) := Aw I.row fun g hg => hO1 g (I.row.lt g hg).2
 have hnews : ∀ (j : Nat) (u : Value), ([.int .i64 x] : List Value)[j]? = some u -> (w.alloc (Li x)).cell? ((⟨w.heap.size, 0, none⟩ : Addr).add j) = some u := fun j u hu => by
  rw [Bj, Nat.zero_add]
  refine (Ad (heap_alloc_new _ _) j).trans ?_
  simpa using hu
 have hnM : ∀ g, cv.ownBlock = some g -> M < g := fun g hg => (I.row.lt g hg).1
 have hfar : ∀ (y : Nat) (w2 : World), y <= M -> (w.alloc (Li x)).grownBy w2 cv.ownBlock -> w2.heap[y]? = w.heap[y]? := fun y w2 hy hg => (hg.block y (by omega) (fun e => by have := hnM y e.symm; omega)).trans (hO1 y (by omega))
 conv => arg 5; unfold hdNew8
 refine Aa z36 ?_
 refine Fe (iA := 9) (iB := 10) (w1 := w.alloc (Li x)) (vA := .slice (some ⟨w.heap.size, 0, none⟩) 1 1) (Z := fun y => y.cell? ⟨M, 1, none⟩ = some cv /\ y.cell? ⟨s, so + j, none⟩ = some (.int .i64 x))
  (fun v w2 => ∃ g cap, v = .slice (some ⟨g, 0, none⟩) (j + 1) cap /\ w2.ownsRow (M + 1) 2 1 (.slice (some ⟨g, 0, none⟩) (j + 1) cap) (j + 1) (Bp (xs.take j) ++ [.int .i64 x]) /\ (w.alloc (Li x)).grownBy w2 cv.ownBlock) (by kernel_rfl) size36_5 (by kernel_rfl) (by kernel_rfl) (by kernel_rfl) (by kernel_rfl) (by decide) Ao Ao ⟨c1, c2⟩ ⟨Ag _ _ c1, Ag _ _ c2⟩ ?_ ?_
 ·rintro v w2 ⟨g, cap, _, _, hg⟩
  exact ⟨(World.cell?_of_block (a := ⟨M, 1, none⟩) (hfar M w2 (by omega) hg)).trans c1, (World.cell?_of_block (a := ⟨s, so + j, none⟩) (hfar s w2 (by omega) hg)).trans c2⟩
 rw [show List.filter (Cg 9 10) (List.range 13) = [0, 1, 2, 3, 4, 5, 6, 7, 8, 11, 12] from by decide]
 repeat (first | (refine Ix Ao (by rfl) (fun wz hz dd e he => ?_) ?_; (· (obtain ⟨z1, z2⟩ := hz; simp [go_sem, *] at he; try (subst he; exact Cc _ _))); apply Exists.intro; apply And.intro; (· (intro wz hz dd K hK; obtain ⟨z1, z2⟩ := hz; go_simp; exact hK))) | (refine Bm Ao (by rfl) ?_; walk_nrm))
 refine Cm.done ⟨?_, ?_, ?_⟩
 ·intro y hev rest hr'
  have e0 : y.eval (.tmp 25) = .int .i64 x := (hev (.tmp 25) (by simp [Op.operands])).trans rfl
  have e1 : y.tmps[25]?.getD undef = .int .i64 x := by
   rw [<- Array.getD_eq_getD_getElem?]
   exact e0
  clear e0 hev
  (refine Walk.oa ?_; try walk_nrm)
  exact hr' _ _ ⟨rfl, _, rfl⟩
 ·intro y hev rest hr'
  have e1 : y.eval (.tmp 21) = cv := (hev (.tmp 21) (by simp [Op.operands, Call.operands])).trans rfl
  have e2 : y.eval (.tmp 26) = .slice (some ⟨w.heap.size, 0, none⟩) 1 1 := (hev (.tmp 26) (by simp [Op.operands, Call.operands])).trans rfl
  have hiA := Option.some_get (show (Try.prog.info? 2).isSome = true by kernel_rfl)
  refine Walk.append (.tmp 21) (.tmp 26) 22 Ao (by rfl) (by decide) rfl (M + 1) 2 _ (.int .i64 0) 1 8 (by kernel_rfl) hiA.symm (by rfl) (by rfl) (by rfl) (by rfl) (by decide) cv j (Bp (xs.take j)) e1 hown' ⟨w.heap.size, 0, none⟩ 1 1 [.int .i64 x] e2 (by rfl) hnews (by simp [Value.oneCell']) (by decide) (by simp [maxLen]; omega) (by omega) (by omega) (fun g _ => Oi g) (fun g cap w3 hown hg hat hlt => ?_)
  exact hr' _ _ ⟨_, w3, ⟨g, cap, rfl, hown, hg⟩, rfl, w3.drawn, rfl⟩
 rintro v w2 ⟨g, cap, rfl, hown, hg⟩ rest hr'
 have hb2 : w2.heap[M]? = w.heap[M]? := hfar M w2 (by omega) hg
 have h12 : w2.cell? ⟨M, 1, none⟩ = some cv := (World.cell?_of_block (a := ⟨M, 1, none⟩) hb2).trans c1
 have z12 : w2.frozen? ⟨M, 1, none⟩ = false := An (hb2.trans I.hd) 1
 have hgs := hg.size
 have hgM := (hown.lt g rfl).1
 have I3 : NwR M xs (j + 1) (.slice (some ⟨g, 0, none⟩) (j + 1) cap) w0 (w2.setCell ⟨M, 1, none⟩ (.slice (some ⟨g, 0, none⟩) (j + 1) cap)) := by
  refine ⟨?_, ?_, fun b hb => ?_, ?_⟩
  ·rw [Ak _ _ (hb2.trans I.hd)]
   simp
  ·rw [htk]
   exact Aw hown fun y hy => Ac _ _ _ _ (by have := (hown.lt y hy).1; show y ≠ M; omega)
  ·exact (Ac _ _ _ _ (by show b ≠ M; omega)).trans ((hfar b w2 (by omega) hg).trans (I.old b hb))
  ·rw [Ai]; omega
 (have hfr := Jr M 1; refine Walk.os hfr h12 ?_; clear hfr; try walk_nrm)
 refine hr' _ _ ?_
 generalize w2.setCell ⟨M, 1, none⟩ (.slice (some ⟨g, 0, none⟩) (j + 1) cap) = w3 at *
 clear hb2 h12 z12 hown hg hfar hown' hnews c1 c2
 try walk_nrm
 refine Aa z36 ?_
 refine Walk.ctl rfl (fun w => stepG_inLoop) ?_
 refine Bz (F := fun u => G (hdNew8 (.slice (some ⟨s, so, none⟩) ln c) M (j + 1) u) cs) (fun u => .stop fun d => ⟨u, w3, _, rfl, I3, d, rfl⟩) ?_
 simp only [hdNew8, hcc]
 rfl
end
end
section
section
variable {main : Bool}
theorem sq0_w {xs : List Int} {i : Nat} (h : i < min xs.length 16) : (Ef xs).w i = xs.getD i 0 := by
 have hk : Da xs.length + 1 = min xs.length 16 := by unfold Da; omega
 unfold Ef sqN
 show (if i < Da xs.length + 1 then (Ds (xs.take (Da xs.length + 1)) (Da xs.length + 1)).getD i 0 else 0) = _
 rw [if_pos (by omega), Er (by simp; omega), List.getD_eq_getElem?_getD, List.getD_eq_getElem?_getD, List.getElem?_take, if_pos (by omega)]
def NewR (xs : List Int) (T : Nat -> R8) (w : World) (v : Value) (w' : World) : Prop := v = .pointer (some ⟨w.heap.size, 0, none⟩) /\ ∃ cg cc, M8 w.heap.size w.heap.size cg cc 0 0 0 ((Da xs.length + 1)) none (Ef xs) T w' /\ Chg (fun _ => False) w w'
theorem rnew_end1 (xa : Option Addr) (xs : List Int) (c : Nat) (k M : Nat) (T : Nat -> R8) (cv : Value) (hk : k = min xs.length 16) (hk0 : 0 < k) (w0 w : World) (hM : w0.heap.size = M) (I : NwR M xs k cv w0 w) (u : Nat -> Value) (fr : Frame) (cs : List Frame) :
  Walk Try.prog main (DR (fun _ => none)) (fun g w' => g = G (fr.finish (.pointer (some ⟨M, 0, none⟩))) cs /\ ∃ cg cc, M8 M M cg cc 0 0 0 ((Da xs.length + 1)) none (Ef xs) T w' /\ Chg (fun _ => False) w0 w') (G (hdNew8 (.slice xa xs.length c) M k u) (fr :: cs)) w := by
 have hmk : Da xs.length + 1 = k := by unfold Da; omega
 rw [hmk]
 obtain ⟨g, cap, cur, rfl, h1, h2, h3, h4, h5, h6⟩ : ∃ g cap cur, cv = .slice (some ⟨g, 0, none⟩) k cap /\ M + 1 <= g /\ w.heap[g]? = some (.cells cur 2 (0, 0)) /\ k <= cap /\ cap <= maxLen /\ cur.size = cap * 1 /\ cur.toList.take (k * 1) = Bp (xs.take k) := by
  rcases I.row.2 with ⟨_, hn⟩ | h
  ·omega
  ·exact h
 have IM : M8 M M g cap 0 0 0 k none (Ef xs) T w := by
  refine ⟨I.hd, ⟨cur, h2, fun i hi => ?_⟩, fun h => absurd h (by decide), fun i hi => absurd hi (Nat.not_lt_zero i), fun i hi => absurd hi (Nat.not_lt_zero i), Nat.le_refl _, by omega, by omega, fun h => absurd h (by decide)⟩
  have e : (Bp (xs.take k))[i]? = some (.int .i64 (xs.getD i 0)) := by
   simp only [Bp, List.getElem?_map, List.getElem?_take, if_pos hi]
   rw [List.getD_eq_getElem?_getD, List.getElem?_eq_getElem (by omega)]
   rfl
  rw [<- h6, List.getElem?_take, if_pos (by omega)] at e
  rw [sq0_w (xs := xs) (i := i) (by omega)]
  simpa using e
 have hC : Chg (fun _ => False) w0 w := ⟨by have := I.lt; omega, fun b hb _ => I.old b (by omega)⟩
 have c1 : w.cell? ⟨M, 1, none⟩ = some (.slice (some ⟨g, 0, none⟩) k cap) := (Ad I.hd 1).trans rfl
 have hb0 : ((k : Int) == 0) = false := by simp; omega
 have hb1 : ¬ (k : Int) = 0 := by omega
 have hb2 : ¬ k = 0 := by omega
 generalize xs.length = ln at *
 by_cases hl : ln <= 16
 ·have hkl : k = ln := by omega
  subst hkl
  have hj3 : decide (k < k) = false := by simp
  clear hk hmk h1 h2 h3 h4 h5 h6 hl
  conv => arg 5; unfold hdNew8
  refine Aa z36 ?_
  exact Bh rfl rfl Try.func36 rfl (.stop fun d => ⟨rfl, g, cap, IM.same fun _ _ => rfl, hC.at d⟩)
 ·have hkl : k = 16 := by omega
  have hj1 : decide ((k : Int) < ln) = true := by simp; omega
  have hj3 : decide (k < ln) = true := by simp; omega
  have hj5 : decide ((k : Int) < 16) = false := by simp; omega
  have hj6 : ¬ (k : Int) < 16 := by omega
  clear hkl hk hmk h1 h2 h3 h4 h5 h6 hl
  conv => arg 5; unfold hdNew8
  refine Aa z36 ?_
  exact Bh rfl rfl Try.func36 rfl (.stop fun d => ⟨rfl, g, cap, IM.same fun _ _ => rfl, hC.at d⟩)
theorem rnew_end0 (xa : Option Addr) (c M : Nat) (T : Nat -> R8) (w0 w : World) (hM : w0.heap.size = M) (I : NwR M [] 0 (.slice none 0 0) w0 w) (u : Nat -> Value) (fr : Frame) (cs : List Frame) :
  Walk Try.prog main (DR (fun _ => none)) (fun g w' => g = G (fr.finish (.pointer (some ⟨M, 0, none⟩))) cs /\ ∃ cg cc, M8 M M cg cc 0 0 0 1 none (Ef []) T w' /\ Chg (fun _ => False) w0 w') (G (hdNew8 (.slice xa 0 c) M 0 u) (fr :: cs)) w := by
 have c1 : w.cell? ⟨M, 1, none⟩ = some (.slice none 0 0) := (Ad I.hd 1).trans rfl
 have hMl := I.lt
 conv => arg 5; unfold hdNew8
 refine Aa z36 ?_
 (refine Walk.oa ?_; try walk_nrm)
 have d1 : (w.alloc (Li 0)).heap[w.heap.size]? = some (.cells #[.int .i64 0] 2) := heap_alloc_new _ _
 have o1 : ∀ b, b < w.heap.size -> (w.alloc (Li 0)).heap[b]? = w.heap[b]? := fun b hb => Ab _ _ hb
 have s1 : (w.alloc (Li 0)).heap.size = w.heap.size + 1 := by simp
 have e1 : w.alloc (.cells #[.int .i64 0] 2) = w.alloc (Li 0) := rfl
 try rw [e1]
 clear e1 c1
 generalize hS : w.heap.size = S at *
 generalize w.alloc (Li 0) = w1 at *
 have hd1 := (o1 M hMl).trans I.hd
 have c1 : w1.cell? ⟨M, 1, none⟩ = some (.slice none 0 0) := (Ad hd1 1).trans rfl
 have z1 : w1.frozen? ⟨M, 1, none⟩ = false := An hd1 1
 refine Aa z36 ?_
 (have hfr := Jr M 1; refine Walk.os hfr c1 ?_; clear hfr; try walk_nrm)
 have IM : M8 M M S 1 0 0 0 1 none (Ef []) T (w1.setCell ⟨M, 1, none⟩ (.slice (some ⟨S, 0, none⟩) 1 1)) := by
  refine ⟨?_, ⟨_, (Ac _ _ _ _ (by show S ≠ M; omega)).trans d1, fun i hi => ?_⟩, fun h => absurd h (by decide), fun i hi => absurd hi (Nat.not_lt_zero i), fun i hi => absurd hi (Nat.not_lt_zero i), Nat.le_refl _, by omega, by omega, fun h => absurd h (by decide)⟩
  ·rw [Ak _ _ hd1]
   simp
   rfl
  ·have : i = 0 := by omega
   subst this
   rfl
 have hC : Chg (fun _ => False) w0 (w1.setCell ⟨M, 1, none⟩ (.slice (some ⟨S, 0, none⟩) 1 1)) := ⟨by rw [Ai]; omega, fun b hb _ => (Ac _ _ _ _ (by show b ≠ M; omega)).trans ((o1 b (by omega)).trans (I.old b (by omega)))⟩
 generalize w1.setCell ⟨M, 1, none⟩ (.slice (some ⟨S, 0, none⟩) 1 1) = w2 at *
 try walk_nrm
 refine Aa z36 ?_
 exact Bh rfl rfl Try.func36 rfl (.stop fun d => ⟨rfl, S, 1, IM.same fun _ _ => rfl, hC.at d⟩)
end
end
section
section
variable {main : Bool}
theorem rnew_w (xa : Option Addr) (xs : List Int) (xc : Nat) (hxn : xs.length <= 17592186044416) (T : Nat -> R8) (w : World) (hx : SlIn xa xs w) : CallW Try.prog main (fun _ => none) 36 #[.slice xa xs.length xc] w (NewR xs T w) := by
 intro c cs
 refine (rnew_in xa xs.length xc (c :: cs) w).then ?_
 rintro _ _ ⟨u, w1, rfl, I, d, rfl⟩
 refine Walk.back ?_ d
 by_cases h0 : xs.length = 0
 ·have hnil : xs = [] := List.eq_nil_of_length_eq_zero h0
  subst hnil
  refine (rnew_end0 xa xc w.heap.size T w w1 rfl I u c cs).mono ?_
  rintro g w' ⟨rfl, cg, cc, I2, hC⟩
  exact ⟨_, ⟨rfl, cg, cc, I2, hC⟩, rfl⟩
 ·have loop : ∀ (r j : Nat) (cv : Value) (w2 : World) (u : Nat -> Value), j + r = min xs.length 16 -> NwR w.heap.size xs j cv w w2 ->
    Walk Try.prog main (DR (fun _ => none)) (fun g w' => g = G (c.finish (.pointer (some ⟨w.heap.size, 0, none⟩))) cs /\ ∃ cg cc, M8 w.heap.size w.heap.size cg cc 0 0 0 ((Da xs.length + 1)) none (Ef xs) T w' /\ Chg (fun _ => False) w w') (G (hdNew8 (.slice xa xs.length xc) w.heap.size j u) (c :: cs)) w2 := by
   intro r
   induction r with
   | zero =>
    intro j cv w2 u hj I2
    have hj' : j = min xs.length 16 := hj
    have := rnew_end1 (main := main) xa xs xc j w.heap.size T cv hj' (by omega) w w2 rfl I2 u c cs
    rw [hj'] at this ⊢
    exact this
   | succ r ih =>
    intro j cv w2 u hj I2
    refine (rnew_go xa xs xc j w.heap.size cv (by omega) (by omega) hxn w w2 rfl hx I2 u (c :: cs)).then ?_
    rintro _ _ ⟨u3, w3, cv', rfl, I3, d, rfl⟩
    exact Walk.back (ih (j + 1) cv' w3 u3 (by omega) I3) d
  refine (loop (min xs.length 16) 0 (.slice none 0 0) w1 u (by omega) ⟨I.hd, by simpa using I.row, I.old, I.lt⟩).mono ?_
  rintro g w' ⟨rfl, cg, cc, I2, hC⟩
  exact ⟨_, ⟨rfl, cg, cc, I2, hC⟩, rfl⟩
end
end
section
noncomputable def reg15_0 := rk Try.f15.body 0
noncomputable def reg15_1 := rk Try.f15.body 1
theorem z15 : reg15_0.size = 1 /\ reg15_1.size = 7 := by and_intros <;> kernel_rfl
theorem code15_is : Try.f15.body = some (.seq (.region 0 reg15_0 false) (.seq (.region 1 reg15_1 false) (.ret))) := by kernel_rfl
def RPl (n : Nat) (L : La) (stx : L.Sg -> List Int) (W : World) (F : OX L × List Nat) (v : Value) (w' : World) : Prop := ∃ cells, v = .agg cells /\ TrA cells n (fun i => (F.1.th i).ans) F.2 (stx F.1.s) (Dy n F.1) w' /\ Chg (fun _ => False) W w' /\ (∀ i, i < n -> (F.1.th i).ans.length <= 65536) /\ CapS cells
section
variable {main : Bool}
theorem rplay_in (xa : Option Addr) (xs : List Int) (xc : Nat) (tv sv : Value) (most : Int) (Y : Nat -> World -> World -> Prop) (cs : List Frame) (c : Frame) (W : World) (Z : Array Value -> World -> Prop)
  (hnew : ∀ w1, w1 = W.alloc Fq -> CallW Try.prog main (fun _ => none) 36 #[.slice xa xs.length xc] w1 (fun v w' => v = .pointer (some ⟨w1.heap.size, 0, none⟩) /\ Y w1.heap.size w1 w'))
  (hrun : ∀ w1 w2, w1 = W.alloc Fq -> Y w1.heap.size w1 w2 -> CallW Try.prog main (fun _ => none) 37 #[.pointer (some ⟨w1.heap.size, 0, none⟩), tv, sv, .int .i64 most] w2 (fun v w' => ∃ x0 x1 x2 x3, v = .agg #[x0, x1, x2, x3] /\ w'.heap[W.heap.size]? = some Fq /\ (#[x0, x1, x2, x3] : Array Value).all (·.oneCell') = true /\ Z #[x0, x1, x2, x3] w')) :
  Walk Try.prog main (DR (fun _ => none)) (fun g w' => ∃ cells w3 d, g = G (c.finish (.agg cells)) cs /\ Z cells w3 /\ w' = (w3.setRow W.heap.size cells).at d) (G (Frame.enter Try.prog 15 #[.slice xa xs.length xc, tv, sv, .int .i64 most] .normal) (c :: cs)) W := by
 rw [enter_at _ Try.func15 code15_is]
 simp only [Try.ntmps15, ez, Nat.reduceAdd, Nat.reduceSub]
 refine Aa z15 ?_
 (refine Walk.oa ?_; try walk_nrm)
 have e1 : W.alloc (.cells #[.slice none 0 0, .slice none 0 0, .slice none 0 0, .bool false] 31) = W.alloc Fq := rfl
 try rw [e1]
 clear e1
 have hnew := hnew _ rfl
 have hrun := fun w2 => hrun _ w2 rfl
 generalize W.alloc Fq = w1 at *
 generalize hR : W.heap.size = R at *
 refine Aa z15 ?_
 refine Ah (Post := fun v w' => v = .pointer (some ⟨w1.heap.size, 0, none⟩) /\ Y w1.heap.size w1 w') ?_ Ao (by rfl) (by decide) rfl Try.func36 (by kernel_rfl) (by rfl) ?_
 ·walk_nrm
  exact hnew
 rintro v w2 ⟨rfl, hY⟩
 have hrun := hrun w2 hY
 walk_nrm
 repeat (first | (refine Walk.oq ?_; try walk_nrm) | (refine Ax ?_; walk_nrm))
 refine Ah (Post := fun v w' => ∃ x0 x1 x2 x3, v = .agg #[x0, x1, x2, x3] /\ w'.heap[R]? = some Fq /\ (#[x0, x1, x2, x3] : Array Value).all (·.oneCell') = true /\ Z #[x0, x1, x2, x3] w') ?_ Ao (by rfl) (by decide) rfl Try.func37 (by kernel_rfl) (by rfl) ?_
 ·walk_nrm
  exact hrun
 rintro v w3 ⟨x0, x1, x2, x3, rfl, hr, h1, hZ⟩
 have hT := setRow_self (cells := #[x0, x1, x2, x3]) hr
 walk_nrm
 repeat (first | (refine Walk.oq ?_; try walk_nrm) | (refine Ax ?_; walk_nrm))
 refine Ap 31 (.tmp 8) (.tmp 14) Ao (by rfl) (by decide) rfl R #[x0, x1, x2, x3] #[.slice none 0 0, .slice none 0 0, .slice none 0 0, .bool false] 31 rfl rfl hr (by kernel_rfl) rfl h1 (Oi _) ?_
 have he : w3.setRow R #[x0, x1, x2, x3] = w3.setRow R #[x0, x1, x2, x3] := rfl
 generalize hw4 : w3.setRow R #[x0, x1, x2, x3] = w4 at hT ⊢
 try walk_nrm
 refine Aa z15 ?_
 refine Ec (T := R) rfl rfl rfl Try.func15 rfl (by rfl) hT (by kernel_rfl) (by kernel_rfl) (.stop fun d => ⟨#[x0, x1, x2, x3], w3, d, rfl, hZ, ?_⟩)
 rw [hw4]
theorem rplay_w (lb : Nat) (xa : Option Addr) (xs : List Int) (xc : Nat) (hxn : xs.length <= 17592186044416) (b off n0 tcc N : Nat) (hN : N = min n0 64) (va : Option Addr) (hv : 0 < N -> va = some ⟨b, off, none⟩) (oa : Nat -> Option Addr) (ln oc : Nat -> Nat) (ops : Nat -> List OpV) (sa : Option Addr) (sc : Nat) (sl : List Int) (most : Int) (W : World) (hx : SlIn xa xs W) (O : OpsIn b off N oa ln oc ops W)
  (hsl : sl.length <= 17592186044416) (hs : ∀ (j : Nat) (z : Int), sl[j]? = some z -> ∃ s so, sa = some ⟨s, so, none⟩ /\ W.cell? ⟨s, so + j, none⟩ = some (.int .i64 z)) :
  CallW Try.prog main (fun _ => none) 15 #[.slice xa xs.length xc, .slice va n0 tcc, .slice sa sl.length sc, .int .i64 most] W (RPl N (Aj lb (Da xs.length)) (stM (Da xs.length + 1)) W (Bt (Aj lb (Da xs.length)) (Ef xs) ops N most sl)) := by
 have q1 := (Mr xs.length).1
 intro c cs
 have hO1 : ∀ b, b < W.heap.size -> (W.alloc Fq).heap[b]? = W.heap[b]? := fun b hb => Ab _ _ hb
 have hsz : (W.alloc Fq).heap.size = W.heap.size + 1 := by simp
 have hs1 : ∀ (j : Nat) (z : Int), sl[j]? = some z -> ∃ s so, sa = some ⟨s, so, none⟩ /\ (W.alloc Fq).cell? ⟨s, so + j, none⟩ = some (.int .i64 z) := fun j z hz => by
  obtain ⟨s, so, e, hc⟩ := hs j z hz
  exact ⟨s, so, e, Ag _ _ hc⟩
 have hnew := rnew_w (main := main) xa xs xc hxn (fun _ => R8.new none 0 0 0 []) (W.alloc Fq) (hx.old hO1)
 have hz : (W.alloc Fq).heap[W.heap.size]? = some Fq := heap_alloc_new _ _
 refine (rplay_in (main := main) xa xs xc (.slice va n0 tcc) (.slice sa sl.length sc) most (fun M w1 w' => ∃ cg cc, M8 M M cg cc 0 0 0 (Da xs.length + 1) none (Ef xs) (fun _ => R8.new none 0 0 0 []) w' /\ Chg (fun _ => False) w1 w') cs c W
  (fun cells w' => (∀ w'' : World, (∀ b, W.heap.size + 1 <= b -> b < w'.heap.size -> w''.heap[b]? = w'.heap[b]?) -> TrA cells N (fun i => ((Bt (Aj lb (Da xs.length)) (Ef xs) ops N most sl).1.th i).ans) (Bt (Aj lb (Da xs.length)) (Ef xs) ops N most sl).2 (stM (Da xs.length + 1) (Bt (Aj lb (Da xs.length)) (Ef xs) ops N most sl).1.s) (Dy N (Bt (Aj lb (Da xs.length)) (Ef xs) ops N most sl).1) w'') /\ (∀ b, b < W.heap.size -> w'.heap[b]? = W.heap[b]?) /\ W.heap.size <= w'.heap.size /\ (∀ i, i < N -> ((Bt (Aj lb (Da xs.length)) (Ef xs) ops N most sl).1.th i).ans.length <= 65536) /\ CapS cells) ?_ ?_).mono ?_
 ·rintro w1 rfl c' cs'
  refine (hnew c' cs').mono ?_
  rintro g w' ⟨v, ⟨rfl, cg, cc, I, hC⟩, hg⟩
  exact ⟨_, ⟨rfl, cg, cc, I, hC⟩, hg⟩
 ·rintro w1 w2 rfl ⟨cg, cc, I, hC⟩ c' cs'
  have hC2 := hC.size
  have hold : ∀ b, b < (W.alloc Fq).heap.size -> w2.heap[b]? = (W.alloc Fq).heap[b]? := fun b hb => hC.same b hb id
  refine (run_w (main := main) (lb := lb) (W := W.alloc Fq) (by omega) (by omega) (Ef xs) _ b off n0 tcc N hN va hv oa ln oc ops sa sc sl most rfl (O.old hO1) hsl hs1 w2 I hold hC2 c' cs').mono ?_
  rintro g w' ⟨v, ⟨cells, rfl, e2, e3, e4, e5⟩, hg⟩
  obtain ⟨aa, ac, oa', oc', sa', sc', rfl, _⟩ := (e2 w' fun _ _ _ => rfl).all
  refine ⟨_, ⟨_, _, _, _, rfl, (e3 _ (by omega)).trans hz, by simp [Value.oneCell'], fun w'' h => e2 w'' fun b hb => h b (by omega), fun b hb => (e3 b (by omega)).trans (hO1 b hb), by omega, e5⟩, hg⟩
 ·rintro g w' ⟨cells, w3, d, rfl, ⟨z1, z2, z3, z4⟩, rfl⟩
  refine ⟨_, ⟨cells, rfl, z1 _ fun b hb _ => Aq _ _ (by omega), ⟨?_, fun b hb _ => (Aq _ _ (by omega)).trans (z2 b hb)⟩, z4⟩, rfl⟩
  show W.heap.size <= (w3.setRow W.heap.size cells).heap.size
  rw [Az]
  exact z3
end
end
section
theorem mdT_code (Q kb lb p : Nat) (u : Nat -> Value) : G (mdT Q kb lb p u) [] = G ((base 4).at ⟨Dd Q kb lb p u, []⟩ (.code (.region 17 reg4_17 true) :: [.code .ret])) [] := rfl
theorem Nn {i k : Nat} (h1 : i <= 65536) (h2 : k <= 15) : i * (k + 4) <= 1245184 := Nat.le_trans (Nat.mul_le_mul h1 (show k + 4 <= 19 by omega)) (by decide)
section
variable {kb lb k p : Nat}
theorem calls_out (Q : Nat) (u : Nat -> Value) (h : u 4 = .bool true) (w : World) : Walk Try.prog true (DR (fun _ => none)) (fun g w' => Closing 4 4 (.bool true) g /\ ∃ d, w' = w.at d) (G ((base 4).at ⟨Dd Q kb lb p u, []⟩ (.inRegion reg4_17 [] :: [.code .ret])) []) w := by
 simp only [Dd, h]
 refine Aa z4 ?_
 exact .stop fun d => ⟨⟨_, rfl, rfl, rfl, rfl, rfl, rfl⟩, d, rfl⟩
theorem cal_loop {main : Bool} (xv iv : Value) (oa0 : Option Addr) (n0 tc Q n ab ao ac tc1 : Nat) (ta : Option Addr) (s0 : Sq) (h0 : ¬ Ba s0.v) (l : List OpV) (hl : l.length = min n0 65536) (hn0 : n0 <= 17592186044416) (hn1 : n <= k + 1) (hn2 : k + 1 <= n) (hk15 : k <= 15) (W0 : World) (t1 : kb ≠ lb) (t2 : kb ≠ p) (t3 : lb ≠ p)
  (hop : ∀ (j : Nat) (o : OpV), l[j]? = some o -> ∃ b off, oa0 = some ⟨b, off, none⟩ /\ (b ≠ kb /\ b ≠ lb /\ b ≠ p) /\ W0.cell? ⟨b, off + j * 4, none⟩ = some (.int .i64 o.k) /\ W0.cell? ⟨b, off + j * 4 + 1, none⟩ = some (.int .i64 o.a) /\ W0.cell? ⟨b, off + j * 4 + 2, none⟩ = some (.int .i64 o.b) /\ W0.cell? ⟨b, off + j * 4 + 3, none⟩ = some (.int .i64 o.c))
  (hQ : Q ≠ kb /\ Q ≠ lb /\ Q ≠ p) (hab : ab ≠ kb /\ ab ≠ lb /\ ab ≠ p) (x0 : W0.cell? ⟨Q, 0, none⟩ = some (.slice (some ⟨ab, ao, none⟩) 1 ac)) (x1 : W0.cell? ⟨ab, ao, none⟩ = some (.slice ta l.length tc1))
  (hA : ∀ i, i < l.length -> ∃ b o la lc, ta = some ⟨b, o, none⟩ /\ (b ≠ kb /\ b ≠ lb /\ b ≠ p) /\ W0.cell? ⟨b, o + i * 3, none⟩ = some (.bool (anQ k s0 l i).ok) /\ W0.cell? ⟨b, o + i * 3 + 1, none⟩ = some (.int .i64 (anQ k s0 l i).n) /\ W0.cell? ⟨b, o + i * 3 + 2, none⟩ = some (.slice la (anQ k s0 l i).l.length lc) /\ NumA la (anQ k s0 l i).l W0 /\ (∀ b x, la = some ⟨b, x, none⟩ -> (anQ k s0 l i).l ≠ [] -> b ≠ kb /\ b ≠ lb /\ b ≠ p)) (cs : List Frame) :
  ∀ (r i : Nat) (w : World) (u : Nat -> Value), i + r = l.length -> CalQ kb lb k p (Gu k s0 l i).1 (Gu k s0 l i).2 W0 w ->
  Walk Try.prog main (DR (fun _ => none)) (fun g w' => (∃ u, g = G (mdT Q kb lb p u) cs) /\ CalQ kb lb k p (Gu k s0 l l.length).1 (Gu k s0 l l.length).2 W0 w') (G (Kh xv iv (.slice oa0 n0 tc) Q kb lb p n i u) cs) w := by
 intro r
 induction r with
 | zero =>
  intro i w u hi I
  have hi : i = l.length := hi
  subst hi
  have hcell : ∀ {x y : Nat} {v : Value}, (x ≠ kb /\ x ≠ lb /\ x ≠ p) -> W0.cell? ⟨x, y, none⟩ = some v -> w.cell? ⟨x, y, none⟩ = some v := fun {x y v} e h => (World.cell?_of_block (a := ⟨x, y, none⟩) (I.old x (Al h) e.1 e.2.1 e.2.2)).trans h
  refine (cal_end xv iv _ Q n ab ao ac l.length tc1 ta w (hcell hQ x0) (hcell hab x1) cs u).mono ?_
  rintro g w' ⟨⟨u, rfl⟩, d, rfl⟩
  exact ⟨⟨u, rfl⟩, I.at d⟩
 | succ r ih =>
  intro i w u hi I
  have hil : i < l.length := by omega
  have ho : l[i]? = some l[i] := List.getElem?_eq_getElem hil
  generalize l[i] = o at ho
  obtain ⟨b, off, rfl, hOb, o0, o1, o2, o3⟩ := hop i o ho
  obtain ⟨b1, o1', la, lc, rfl, hO1, a0, a1, a2, nW, offw⟩ := hA i hil
  have ha : anQ k s0 l i = (Cj k (Gu k s0 l i).1 o).2 := by unfold anQ; rw [ho]
  rw [ha] at a0 a1 a2 nW offw
  have hcell : ∀ {x y : Nat} {v : Value}, (x ≠ kb /\ x ≠ lb /\ x ≠ p) -> W0.cell? ⟨x, y, none⟩ = some v -> w.cell? ⟨x, y, none⟩ = some v := fun {x y v} e h => (World.cell?_of_block (a := ⟨x, y, none⟩) (I.old x (Al h) e.1 e.2.1 e.2.2)).trans h
  have nW' : NumA la (Cj k (Gu k s0 l i).1 o).2.l w := fun j z hz => by
   obtain ⟨b, o, e, hc⟩ := nW j z hz
   exact ⟨b, o, e, hcell (offw b o e (fun hn => by rw [hn] at hz; simp at hz)) hc⟩
  have hl6 : l.length <= 65536 := by rw [hl]; exact Nat.min_le_right _ _
  have hin : i < n0 := Nat.lt_of_lt_of_le hil (by rw [hl]; exact Nat.min_le_left _ _)
  refine (cal_round (k := k) xv iv b off n0 tc Q n i ab ao ac b1 o1' l.length tc1 (Gu k s0 l i).1 (Kc s0 h0 l i) (Gu k s0 l i).2 o hin hn0 hn1 hn2 hil hl6 W0 w I (Nat.le_trans (prQ_le (k := k) s0 l i) (Nat.le_trans (Nn (Nat.le_trans (Nat.le_of_lt hil) hl6) hk15) (by decide))) t1 t2 t3 (fun c hc => ?_) la lc offw (Nat.le_trans (one_len (k := k) (Gu k s0 l i).1 o) (Nat.le_trans (Nat.succ_le_succ hk15) (by decide))) (hcell hQ x0) (hcell hab x1) (hcell hO1 a0) (hcell hO1 a1) (hcell hO1 a2) nW' (hcell hOb o0) (hcell hOb o1) (hcell hOb o2) (hcell hOb o3) cs u).then ?_
  ·rcases hc with rfl | rfl | rfl | rfl
   ·exact hOb
   ·exact hQ
   ·exact hab
   ·exact hO1
  rintro g w' ⟨⟨u', rfl⟩, I'⟩
  have hp := Kb (k := k) s0 l i o ho
  refine ih (i + 1) w' u' ((Nat.add_right_comm i 1 r).trans hi) ?_
  rw [hp]
  exact I'
theorem sc_tail (Q sn y : Nat) (oa : Option Addr) (oc sb so sc : Nat) (S : Sq) (c : Nat) (W0 : World) (hy1 : k + 1 <= y) (hy2 : y <= k + 1) (hs1 : sn <= y + 1) (hs2 : y + 1 <= sn) (hsc : sn <= sc) (t1 : kb ≠ lb) (t2 : kb ≠ p) (t3 : lb ≠ p) (hc : c <= 9223372036854)
  (hQ : Q ≠ kb /\ Q ≠ lb /\ Q ≠ p) (hsb : sb ≠ kb /\ sb ≠ lb /\ sb ≠ p) (x1 : W0.cell? ⟨Q, 1, none⟩ = some (.slice oa c oc)) (x2 : W0.cell? ⟨Q, 2, none⟩ = some (.slice (some ⟨sb, so, none⟩) sn sc)) (hst : NumA (some ⟨sb, so, none⟩) (Pu k S) W0) (w : World) (u : Nat -> Value) (I : CalQ kb lb k p S c W0 w) :
  Walk Try.prog true (DR (fun _ => none)) (fun g w' => Closing 4 4 (.bool true) g /\ ∀ b, b < W0.heap.size -> b ≠ kb -> b ≠ lb -> b ≠ p -> w'.heap[b]? = W0.heap[b]?) (G (mdT Q kb lb p u) []) w := by
 have hcell : ∀ {x y : Nat} {v : Value}, (x ≠ kb /\ x ≠ lb /\ x ≠ p) -> W0.cell? ⟨x, y, none⟩ = some v -> w.cell? ⟨x, y, none⟩ = some v := fun {x y v} e h => (World.cell?_of_block (a := ⟨x, y, none⟩) (I.old x (Al h) e.1 e.2.1 e.2.2)).trans h
 have hst' : NumA (some ⟨sb, so + 1, none⟩) (Je k S) w := fun j x hx => by
  obtain ⟨b', o', e, h⟩ := hst (j + 1) x (by simpa [Pu] using hx)
  cases e
  refine ⟨sb, so + 1, rfl, ?_⟩
  rw [show so + 1 + j = so + (j + 1) by omega]
  exact hcell hsb h
 have hv0 : w.cell? ⟨sb, so, none⟩ = some (.int .i64 S.v) := by
  obtain ⟨b', o', e, h⟩ := hst 0 S.v rfl
  cases e
  exact hcell hsb h
 rw [mdT_code]
 refine calls_last Q sn y sb so sc oc oa S.v rfl hy1 hy2 hs1 hs2 hsc t1 t2 t3 W0 I hc (hcell hQ x1) (hcell hQ x2) hv0 hQ hsb hst' [.code .ret] [] u fun u2 w2 h4 hO hZ => ?_
 refine (calls_out Q u2 h4 w2).mono ?_
 rintro g _ ⟨hC, d, rfl⟩
 have hIs := I.size
 exact ⟨hC, fun b hb g1 g2 g3 => (hO b (by omega) g1 g2 g3).trans (I.old b hb g1 g2 g3)⟩
end
theorem rplay1 (xa : Option Addr) (xs : List Int) (xc : Nat) (hxn : xs.length <= 17592186044416) (oa0 : Option Addr) (n0 tc T : Nat) (l : List OpV) (w2 : World) (hx : SlIn xa xs w2) (O : OpsIn T 0 1 (fun _ => oa0) (fun _ => n0) (fun _ => tc) (fun _ => l) w2) :
  CallW Try.prog true (fun _ => none) 15 #[.slice xa xs.length xc, .slice (some ⟨T, 0, none⟩) 1 1, .slice none 0 0, .int .i64 1048576] w2 (RPl 1 (Aj 0 (Da xs.length)) (Pu (Da xs.length)) w2 (Bt (Aj 0 (Da xs.length)) (Ef xs) (fun _ => l) 1 1048576 [])) :=
 rplay_w (main := true) 0 xa xs xc hxn T 0 1 1 1 rfl (some ⟨T, 0, none⟩) (fun _ => rfl) (fun _ => oa0) (fun _ => n0) (fun _ => tc) (fun _ => l) none 0 [] 1048576 w2 hx O (Nat.zero_le _) (fun j z hj => by simp at hj)
theorem sc_all (xa : Option Addr) (xs : List Int) (xc : Nat) (hxn : xs.length <= 17592186044415) (oa0 : Option Addr) (n0 tc : Nat) (hcap : n0 <= tc) (had : (oa0 = none /\ tc = 0) ∨ ∃ p, oa0 = some p) (hn0 : n0 <= 17592186044416) (l : List OpV) (hl : l.length = min n0 65536) (W : World) (hx : LsR (.slice xa xs.length xc) xs W) (hxi : SlIn xa xs W)
  (hop : ∀ (j : Nat) (o : OpV), l[j]? = some o -> ∃ b off, oa0 = some ⟨b, off, none⟩ /\ W.cell? ⟨b, off + j * 4, none⟩ = some (.int .i64 o.k) /\ W.cell? ⟨b, off + j * 4 + 1, none⟩ = some (.int .i64 o.a) /\ W.cell? ⟨b, off + j * 4 + 2, none⟩ = some (.int .i64 o.b) /\ W.cell? ⟨b, off + j * 4 + 3, none⟩ = some (.int .i64 o.c)) :
  Runs (fun g w' => Closing 4 4 (.bool true) g /\ ∀ b, b < W.heap.size -> w'.heap[b]? = W.heap[b]?) (G (Frame.enter Try.prog 4 #[.slice xa xs.length xc, .slice oa0 n0 tc] .normal) []) W := by
 have hk15 := (Mr xs.length).1
 have hF := playO_short (Aj 0 (Da xs.length)) (Ef xs) (fun _ => l) 1 1048576 []
 have h0 : ¬ Ba (Ef xs).v := by show ¬ Ba 0; decide
 have hal := alone_Q (lb := 0) (k := Da xs.length) (Ef xs) h0 (fun _ => l) 1048576
 have hpl := fun T w2 hx O => rplay1 xa xs xc (by omega) oa0 n0 tc T l w2 hx O
 refine Runs.walk (sc_in xa xs xc hxn (Da xs.length) (Da xs.length + 2) (Da xs.length + 1) rfl (by omega) (by omega) (by omega) (by omega) (.slice oa0 n0 tc) W) ?_
 rintro _ _ ⟨fr, rfl, ⟨d, rfl⟩, hB⟩
 refine Runs.then (fixed_run fr [] (W.at d)) ?_
 rintro _ w1 ⟨rfl, O1, Z1⟩
 have O1 : ∀ b, b < W.heap.size -> w1.heap[b]? = W.heap[b]? := O1
 have Z1 : W.heap.size <= w1.heap.size := Z1
 generalize hk : Da xs.length = k at *
 generalize Bt (Aj 0 k) (Ef xs) (fun _ => l) 1 1048576 [] = F at *
 refine Runs.walk (hB w1 oa0 n0 tc (fun cells w => TrA cells 1 (fun i => (F.1.th i).ans) F.2 (Pu k F.1.s) (Dy 1 F.1) w /\ CapS cells) rfl (hx.same O1) fun w2 T hO2 hZ2 hT hh => ?_) ?_
 ·have up2 : ∀ b, b < W.heap.size -> w2.heap[b]? = W.heap[b]? := fun b hb => (hO2 b (by omega)).trans (O1 b hb)
  have O : OpsIn T 0 1 (fun _ => oa0) (fun _ => n0) (fun _ => tc) (fun _ => l) w2 := by
   refine ⟨fun i hi => ?_, fun _ _ => hcap, fun _ _ => had, fun _ _ => hl, fun i hi j o ho => ?_⟩
   ·have hi : i = 0 := by omega
    subst hi
    exact (Ad hh 0).trans rfl
   ·obtain ⟨b, off, e, c0, c1, c2, c3⟩ := hop j o ho
    have hb := up2 b (Al c0)
    exact ⟨b, off, e, (World.cell?_of_block (a := ⟨b, _, none⟩) hb).trans c0, (World.cell?_of_block (a := ⟨b, _, none⟩) hb).trans c1, (World.cell?_of_block (a := ⟨b, _, none⟩) hb).trans c2, (World.cell?_of_block (a := ⟨b, _, none⟩) hb).trans c3⟩
  intro c' cs'
  refine (hpl T w2 (hxi.old up2) O c' cs').mono ?_
  rintro g w' ⟨v, ⟨cells, rfl, hT', hC, _, hcs⟩, hg⟩
  have hCs := hC.size
  obtain ⟨aa, ac, oa', oc', sa', sc', e, _⟩ := id hT'.all
  have hlen : (Pu k F.1.s).length = k + 2 := stL_len _ _
  rw [hlen] at e
  subst e
  exact ⟨_, ⟨_, _, _, _, _, rfl, by simp [Value.oneCell'], ⟨hT', hcs⟩, fun b hb => (hC.same b (by omega) id).trans (hO2 b hb), by omega⟩, hg⟩
 rintro g w4 ⟨x0, x1, za, zc, x3, w3, Q, hY, hQ, hO3, hZ3, dQ, lowQ, hcase⟩
 have up : ∀ b, b < W.heap.size -> w4.heap[b]? = W.heap[b]? := fun b hb => (lowQ b (by omega)).trans ((hO3 b (by omega)).trans (O1 b hb))
 rcases hcase with ⟨_, hC⟩ | ⟨rfl, iv, kb, lb, p, ⟨u, rfl⟩, z1, z2, z3, I⟩
 ·exact .now ⟨hC, up⟩
 obtain ⟨aa, ac, oa', oc', sa', sc', e, n1, n2, n3⟩ := hY.1.all
 have hzc : k + 2 <= zc := hY.2 za (k + 2) zc rfl
 have e : x0 = .slice aa 1 ac /\ x1 = .slice oa' F.2.length oc' /\ Value.slice za (k + 2) zc = .slice sa' (Pu k F.1.s).length sc' /\ false = Dy 1 F.1 := by
  simp only [Mm, Array.mk.injEq, List.cons.injEq, Value.bool.injEq] at e
  exact ⟨e.1, e.2.1, e.2.2.1, e.2.2.2.1⟩
 obtain ⟨rfl, rfl, es, hst⟩ := e
 obtain ⟨rfl, _, rfl⟩ := Value.slice.inj es
 clear es
 obtain ⟨a1, a2, a3⟩ := hal hst.symm
 have a2 : (F.1.th 0).ans = azQ k (Ef xs) l l.length := a2
 obtain ⟨ab, ao, ta, tc1, rfl, k1, k2⟩ := n3 0 (by decide)
 have k1 : w3.cell? ⟨ab, ao + 0, none⟩ = some (.slice ta (F.1.th 0).ans.length tc1) := k1
 have k2 : Qa ta (F.1.th 0).ans w3 := k2
 rw [a2] at k1 k2
 rw [azQ_len, Nat.add_zero] at k1
 have a1 : F.1.s = (Gu k (Ef xs) l l.length).1 := a1
 have a3 : F.2.length = (Gu k (Ef xs) l l.length).2 := a3
 rw [a3] at dQ
 have hsm : (Pu k F.1.s) = Pu k (Gu k (Ef xs) l l.length).1 := congrArg (Pu k) a1
 rw [hsm] at n2
 have hQ4 : Q < w4.heap.size := (Array.getElem?_eq_some_iff.1 dQ).1
 have offQ : ∀ b, b <= Q -> b ≠ kb /\ b ≠ lb /\ b ≠ p := fun b hb => ⟨by omega, by omega, by omega⟩
 have hcl : ∀ {x y : Nat} {v : Value}, w3.cell? ⟨x, y, none⟩ = some v -> x < Q /\ w4.cell? ⟨x, y, none⟩ = some v := fun {x y v} h => by
  have hx := Al h
  exact ⟨by omega, (World.cell?_of_block (a := ⟨x, y, none⟩) (lowQ x (by omega))).trans h⟩
 obtain ⟨sb, so, rfl, hsb⟩ : ∃ sb so, za = some ⟨sb, so, none⟩ /\ sb < Q := by
  obtain ⟨b, o, e, h⟩ := n2 0 _ rfl
  exact ⟨b, o, e, (hcl h).1⟩
 have hst4 : NumA (some ⟨sb, so, none⟩) (Pu k (Gu k (Ef xs) l l.length).1) w4 := fun j x hx => by
  obtain ⟨b, o, e, h⟩ := n2 j x hx
  exact ⟨b, o, e, (hcl h).2⟩
 have hfew : (Gu k (Ef xs) l l.length).2 <= 9223372036854 := Nat.le_trans (prQ_le (k := k) (Ef xs) l l.length) (Nat.le_trans (Nn (show l.length <= 65536 by rw [hl]; exact Nat.min_le_right _ _) hk15) (by decide))
 have q1 : kb ≠ lb := by omega
 have q2 : kb ≠ p := by omega
 have q3 : lb ≠ p := by omega
 refine Runs.walk (Stop := fun g w' => Closing 4 4 (.bool true) g /\ ∀ b, b < w4.heap.size -> b ≠ kb -> b ≠ lb -> b ≠ p -> w'.heap[b]? = w4.heap[b]?) ((cal_loop (k := k) _ iv oa0 n0 tc Q (k + 1) ab ao ac tc1 ta (Ef xs) h0 l hl hn0 (Nat.le_refl _) (Nat.le_refl _) hk15 w4 q1 q2 q3 (fun j o ho => ?_) (offQ Q (Nat.le_refl _)) (offQ ab (by have := (hcl k1).1; omega)) ((Ad dQ 0).trans rfl) (hcl k1).2 (fun i hi => ?_) [] l.length 0 w4 u (by omega) (by rw [prQ_zero]; exact I)).then ?_) ?_
 ·obtain ⟨b, off, e, c0, c1, c2, c3⟩ := hop j o ho
  have hbW := Al c0
  have hb := up b hbW
  exact ⟨b, off, e, offQ b (by omega), (World.cell?_of_block (a := ⟨b, _, none⟩) hb).trans c0, (World.cell?_of_block (a := ⟨b, _, none⟩) hb).trans c1, (World.cell?_of_block (a := ⟨b, _, none⟩) hb).trans c2, (World.cell?_of_block (a := ⟨b, _, none⟩) hb).trans c3⟩
 ·obtain ⟨b, o, la, lc, e, g1, g2, g3, g4, g5⟩ := k2 i _ (azQ_get (Ef xs) l l.length i hi)
  refine ⟨b, o, la, lc, e, offQ b (by have := (hcl g1).1; omega), (hcl g1).2, (hcl g2).2, (hcl g3).2, fun j z hz => ?_, fun b' x e' hne => ?_⟩
  ·obtain ⟨b', o', e', hc⟩ := g4 j z hz
   exact ⟨b', o', e', (hcl hc).2⟩
  ·obtain ⟨z, hz⟩ : ∃ z, (anQ k (Ef xs) l i).l[0]? = some z := by
    cases hh : (anQ k (Ef xs) l i).l with
    | nil => exact absurd hh hne
    | cons z zs => exact ⟨z, rfl⟩
   obtain ⟨b'', o', e'', hc⟩ := g4 0 z hz
   rw [e'] at e''
   cases e''
   exact offQ b' (by have := (hcl hc).1; omega)
 ·rintro g w5 ⟨⟨u', rfl⟩, I5⟩
  exact sc_tail Q (k + 2) (k + 1) oa' oc' sb so zc (Gu k (Ef xs) l l.length).1 (Gu k (Ef xs) l l.length).2 w4 (Nat.le_refl _) (Nat.le_refl _) (Nat.le_refl _) (Nat.le_refl _) hzc q1 q2 q3 hfew (offQ Q (Nat.le_refl _)) (offQ sb (by omega)) ((Ad dQ 1).trans rfl) ((Ad dQ 2).trans rfl) hst4 w5 u' I5
 ·rintro g w6 ⟨hC, hO⟩
  exact .now ⟨hC, fun b hb => (hO b (by omega) (by omega) (by omega) (by omega)).trans (up b hb)⟩
end
end Go.Proofs.Ytjenoiekfkhafaa
