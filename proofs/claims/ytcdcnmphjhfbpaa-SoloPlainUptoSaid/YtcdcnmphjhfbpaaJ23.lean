/- Part 23. -/
import Derived.Test.YtcdcnmphjhfbpaaJ21
import Derived.Test.YtcdcnmphjhfbpaaJ22
set_option linter.unusedSimpArgs false
set_option linter.unusedVariables false
set_option linter.unusedVariables false
set_option maxHeartbeats 8000000
set_option maxRecDepth 100000
namespace Go.Proofs.Ytcdcnmphjhfbpaa
open Go.Conc Go.RowKit Go.Relay
open Go.ConcN (upd upd_ne upd_same)
section
structure PlI (W : World) (n k rb sb ob qb tb base : Nat) (all : List Int) (pt : Nat → Nat) (s : So) (aa : Option Addr) (ac : Nat) (w : World) : Prop where
  I : SoI rb sb n ob qb k s w
  M : SoM n k all pt s
  row : w.ownsRow base 2 1 (.slice aa all.length ac) all.length (intRow3 all)
  tbl : ∃ arr : Array Value, w.heap[tb]? = some (.cells arr 3) ∧ ∀ i, i < k → arr[i]? = some (.int .i64 (pt i : Nat))
  old : ∀ b, b < W.heap.size → w.heap[b]? = W.heap[b]?
  size : base ≤ w.heap.size
  lo : W.heap.size ≤ tb ∧ tb < base ∧ W.heap.size ≤ base
  sh : ∀ b, soSh rb sb ob qb b → W.heap.size ≤ b ∧ b < base ∧ b ≠ tb
section
variable {W w w' : World} {n k rb sb ob qb tb base : Nat} {all : List Int} {pt : Nat → Nat} {s s' : So} {aa : Option Addr} {ac : Nat}
theorem PlI.at (H : PlI W n k rb sb ob qb tb base all pt s aa ac w) (d : Nat) : PlI W n k rb sb ob qb tb base all pt s aa ac (w.at d) :=
  ⟨H.I.old fun _ _ => rfl, H.M, row_same H.row fun _ _ => rfl, H.tbl, H.old, H.size, H.lo, H.sh⟩
theorem PlI.grow (H : PlI W n k rb sb ob qb tb base all pt s aa ac w) (hs : w.heap.size ≤ w'.heap.size) (ho : ∀ b, b < w.heap.size → w'.heap[b]? = w.heap[b]?) : PlI W n k rb sb ob qb tb base all pt s aa ac w' := by
  have h1 := H.size
  obtain ⟨l1, l2, l3⟩ := H.lo
  obtain ⟨arr, h2, h3⟩ := H.tbl
  exact ⟨H.I.old fun b hb => ho b (by have := (H.sh b hb).2.1; omega), H.M, row_same H.row fun b hb => ho b (H.row.lt b hb).2, ⟨arr, (ho tb (by omega)).trans h2, h3⟩, fun b hb => (ho b (by omega)).trans (H.old b hb), by omega, H.lo, H.sh⟩
theorem PlI.call (H : PlI W n k rb sb ob qb tb base all pt s aa ac w) (hC : CN rb sb n ob qb k s' w w') {pt' : Nat → Nat} {all' : List Int} (M : SoM n k all' pt' s') :
    SoI rb sb n ob qb k s' w' ∧ w'.ownsRow base 2 1 (.slice aa all.length ac) all.length (intRow3 all) ∧ (∃ arr : Array Value, w'.heap[tb]? = some (.cells arr 3) ∧ ∀ i, i < k → arr[i]? = some (.int .i64 (pt i : Nat))) ∧ (∀ b, b < W.heap.size → w'.heap[b]? = W.heap[b]?) ∧ base ≤ w'.heap.size := by
  have h1 := H.size
  obtain ⟨l1, l2, l3⟩ := H.lo
  obtain ⟨arr, h2, h3⟩ := H.tbl
  have hc := hC.size
  refine ⟨hC.I, row_same H.row fun b hb => hC.old b (H.row.lt b hb).2 fun h => ?_, ⟨arr, (hC.old tb (by omega) fun h => (H.sh tb h).2.2 rfl).trans h2, h3⟩, fun b hb => (hC.old b (by omega) fun h => by have := (H.sh b h).1; omega).trans (H.old b hb), by omega⟩
  have := (H.row.lt b hb).1
  have := (H.sh b h).2.1
  omega
theorem PlI.after (H : PlI W n k rb sb ob qb tb base all pt s aa ac w) (hC : CN rb sb n ob qb k s' w w') (M : SoM n k all pt s') : PlI W n k rb sb ob qb tb base all pt s' aa ac w' := by
  obtain ⟨h1, h2, h3, h4, h5⟩ := H.call hC M
  exact ⟨h1, M, h2, h3, h4, h5, H.lo, H.sh⟩
theorem PlI.pcell (H : PlI W n k rb sb ob qb tb base all pt s aa ac w) {i : Nat} (hi : i < k) : w.cell? ⟨tb, i, none⟩ = some (.int .i64 (pt i : Nat)) := by
  obtain ⟨arr, h2, h3⟩ := H.tbl
  exact (cell_of h2 _).trans (h3 i hi)
theorem row_lsR {base : Nat} {l : List Int} {a : Option Addr} {c : Nat} (h : w.ownsRow base 2 1 (.slice a l.length c) l.length (intRow3 l)) : LsR (.slice a l.length c) l w := by
  rcases h.2 with ⟨e, h0⟩ | ⟨g, cap, cur, e, h1, h2, h3, h4, h5, h6⟩
  · injection e with e1 e2 e3
    subst e1 e3
    have hl : l = [] := List.length_eq_zero_iff.1 h0
    subst hl
    exact ⟨none, 0, rfl, Nat.le_refl _, fun _ => rfl, fun j z hz => by simp at hz⟩
  · injection e with e1 e2 e3
    subst e1 e3
    refine ⟨_, _, rfl, h3, fun h => (by cases h), fun j z hz => ⟨g, 0, rfl, ?_⟩⟩
    have hj := (List.getElem?_eq_some_iff.1 hz).1
    have hr : (intRow3 l)[j]? = some (.int .i64 z) := by simp [intRow3, hz]
    rw [← h6, List.getElem?_take, if_pos (by omega)] at hr
    rw [Nat.zero_add]
    exact (cell_of h2 j).trans (by simpa using hr)
theorem row_addr {base : Nat} {l : List Value} {a : Option Addr} {c m : Nat} (h : w.ownsRow base 2 1 (.slice a m c) m l) (hm : 0 < m) : ∃ g, a = some ⟨g, 0, none⟩ ∧ m ≤ c ∧ base ≤ g ∧ g < w.heap.size := by
  rcases h.2 with ⟨e, h0⟩ | ⟨g, cap, cur, e, h1, h2, h3, h4, h5, h6⟩
  · omega
  · injection e with e1 e2 e3
    subst e1 e3
    exact ⟨g, rfl, h3, h1, (Array.getElem?_eq_some_iff.1 h2).1⟩
end
section
variable {main : Bool} {V : Nat → Option Wait}
theorem same3_roundO (ga gb p n ca cb i : Nat) (x : Int) (w : World) (hi : i < n) (hn : n ≤ 65536) (h1 : w.cell? ⟨ga, i, none⟩ = some (.int .i64 x)) (h2 : w.cell? ⟨gb, p + i, none⟩ = some (.int .i64 x)) (u : Nat → Value) (cs : List Frame) :
    Walk Try.prog main (DR V) (fun g w' => (∃ u, g = G (hdSame3 (.slice (some ⟨ga, 0, none⟩) n ca) (.slice (some ⟨gb, p, none⟩) n cb) (i + 1) u) cs) ∧ ∃ d, w' = w.at d) (G (hdSame3 (.slice (some ⟨ga, 0, none⟩) n ca) (.slice (some ⟨gb, p, none⟩) n cb) i u) cs) w := by
  have hi0 : (0 : Int) ≤ i := by omega
  have hi1 : decide ((i : Int) < n) = true := by simp; omega
  have hi3 : decide (i < n) = true := by simp; omega
  have hw1 : IntKind.wrap .i64 ((i : Int) + 1) = (i : Int) + 1 := by rw [IntKind.wrap_i64]; omega
  have hx : (x != x) = false := by simp
  unfold hdSame3
  repeat (first | refine Walk.cx ?_ | (refine Walk.cReg ?_; simp only [z43]) | (refine Walk.oq ?_; try walk_nrm) | (refine Walk.un ?_; walk_nrm))
  (refine Walk.drawnCW (by kernel_rfl) size43_6 (by kernel_rfl) (by kernel_rfl) (by decide) ?_; simp only [List.range, List.range.loop]; repeat (first | (refine Cm.oq ?_) | (refine Cm.unw (ho_of (by conv => lhs; whnf) (by kernel_rfl)) (by rfl) ?_; walk_nrm)))
  refine Cm.done ?_
  try simp only [hx]
  repeat (first | refine Walk.cx ?_ | (refine Walk.cReg ?_; simp only [z43]) | (refine Walk.oq ?_; try walk_nrm) | (refine Walk.un ?_; walk_nrm))
  refine Walk.ctl rfl (fun w => stepG_inLoop) ?_
  refine .stop fun d => ⟨at_slots ?_, d, rfl⟩
  have hc : ((i + 1 : Nat) : Int) = (i : Int) + 1 := by simp
  simp only [hdSame3, hc]
  rfl
theorem same3_endO (av bv : Value) (ga gb p n ca cb : Nat) (w : World) (u : Nat → Value) (c : Frame) (cs : List Frame) :
    Walk Try.prog main (DR V) (fun g w' => g = G (c.finish (.bool true)) cs ∧ ∃ d, w' = w.at d) (G (hdSame3 (.slice (some ⟨ga, 0, none⟩) n ca) (.slice (some ⟨gb, p, none⟩) n cb) n u) (c :: cs)) w := by
  unfold hdSame3
  repeat (first | refine Walk.cx ?_ | (refine Walk.cReg ?_; simp only [z43]) | (refine Walk.oq ?_; try walk_nrm) | (refine Walk.un ?_; walk_nrm))
  exact Walk.on1 rfl rfl Try.func43 rfl (.stop fun d => ⟨rfl, d, rfl⟩)
theorem same3_wO (l : List Int) (ga gb p ca cb : Nat) (w : World) (hl : l.length ≤ 65536) (h1 : ∀ (j : Nat) (x : Value), (intRow3 l)[j]? = some x → w.cell? ⟨ga, j, none⟩ = some x) (h2 : ∀ (j : Nat) (x : Value), (intRow3 l)[j]? = some x → w.cell? ⟨gb, p + j, none⟩ = some x) :
    CallV Try.prog main V 43 #[.slice (some ⟨ga, 0, none⟩) l.length ca, .slice (some ⟨gb, p, none⟩) l.length cb] w (.bool true) w := by
  intro c cs
  have loop : ∀ (r i : Nat) (u : Nat → Value) (d : Nat), i + r = l.length →
      Walk Try.prog main (DR V) (fun g w' => ∃ v, (v = .bool true ∧ ∃ d, w' = w.at d) ∧ g = G (c.finish v) cs) (G (hdSame3 (.slice (some ⟨ga, 0, none⟩) l.length ca) (.slice (some ⟨gb, p, none⟩) l.length cb) i u) (c :: cs)) (w.at d) := by
    intro r
    induction r with
    | zero =>
      intro i u d hi
      obtain rfl : i = l.length := hi
      refine (same3_endO undef undef ga gb p _ ca cb (w.at d) u c cs).mono ?_
      rintro g w' ⟨rfl, d', rfl⟩
      exact ⟨_, ⟨rfl, d', rfl⟩, rfl⟩
    | succ r ih =>
      intro i u d hi
      have hil : i < l.length := by omega
      have hget : (intRow3 l)[i]? = some (.int .i64 l[i]) := by simp [intRow3, List.getElem?_eq_getElem hil]
      refine (same3_roundO ga gb p l.length ca cb i l[i] (w.at d) hil hl (h1 i _ hget) (h2 i _ hget) u (c :: cs)).then ?_
      rintro g w' ⟨⟨u', rfl⟩, d', rfl⟩
      exact ih (i + 1) u' d' (by omega)
  have key := fun u => loop l.length 0 u w.drawn (by omega)
  have hbn : ((l.length : Int) != l.length) = false := by simp
  rw [enter_at _ Try.func43 code43_is]
  simp only [Try.ntmps43, ez, Nat.reduceAdd, Nat.reduceSub]
  repeat (first | refine Walk.cx ?_ | (refine Walk.cReg ?_; simp only [z43]) | (refine Walk.oq ?_; try walk_nrm) | (refine Walk.un ?_; walk_nrm))
  refine Walk.ctl rfl (fun w => stepG_loop) ?_
  refine slots_walk (F := fun u => G (hdSame3 (.slice (some ⟨ga, 0, none⟩) l.length ca) (.slice (some ⟨gb, p, none⟩) l.length cb) 0 u) (c :: cs)) key ?_
  simp only [hdSame3]
  rfl
end
end
section
theorem VI.at {w0 w : World} {pre : List Int} {ta : Option Addr} {tc : Nat} (h : VI w0 w pre ta tc) (d : Nat) : VI w0 (w.at d) pre ta tc := ⟨row_same h.row fun _ _ => rfl, h.old, h.size⟩
theorem pv_all (n k ob : Nat) (av tv sv : Value) (L i X c : Nat) (A : Int) (hc : c ≤ 65537) (w0 : World) (hX : w0.cell? ⟨X, 2, none⟩ = some (.int .i64 A)) (cs : List Frame) :
    ∀ (r j : Nat) (pre : List Int) (ta : Option Addr) (tc : Nat) (w : World) (u : Nat → Value), j + r = c → pre.length = j → VI w0 w pre ta tc →
    Walk Try.prog true (DR (fun _ => none)) (fun g w' => ∃ vs ta tc, vs.length = c ∧ (∃ u, g = G (hdPv n k ob av tv sv L i X c c (.slice ta c tc) u) cs) ∧ VI w0 w' vs ta tc) (G (hdPv n k ob av tv sv L i X c j (.slice ta j tc) u) cs) w := by
  have hA : ∀ b, Apart (fun _ => none) b := fun b => ⟨fun _ _ _ _ h => (by cases h), fun _ _ h => (by cases h)⟩
  intro r
  induction r with
  | zero =>
    intro j pre ta tc w u hj hp H
    have hj : j = c := hj
    subst hj
    exact .stop fun d => ⟨pre, ta, tc, hp, ⟨u, rfl⟩, H.at d⟩
  | succ r ih =>
    intro j pre ta tc w u hj hp H
    refine (pv_round n k ob av tv sv L i X c j A (by omega) hc pre hp ta tc w0 w hA H hX cs u).then ?_
    rintro _ w' ⟨ta', tc', ⟨u', rfl⟩, H'⟩
    exact ih (j + 1) _ ta' tc' w' u' (by omega) (by simp [hp]) H'
theorem pl_all (n k ob : Nat) (av tv sv : Value) (L i X c : Nat) (vv : Value) (tb : Nat) (pt : Nat → Nat) (htv : tv = .slice (some ⟨tb, 0, none⟩) k k) (hk : k ≤ 65536) (w : World) (hp : ∀ y, y < k → w.cell? ⟨tb, y, none⟩ = some (.int .i64 (pt y : Nat))) (cs : List Frame) :
    ∀ (r y : Nat) (z : Int) (u : Nat → Value) (d : Nat), y + r = k →
    Walk Try.prog true (DR (fun _ => none)) (fun g w' => ∃ z', (z' ≤ z ∧ (∀ q, y ≤ q → q < k → z' ≤ (pt q : Int)) ∧ (z' = z ∨ ∃ q, y ≤ q ∧ q < k ∧ z' = (pt q : Int))) ∧ (∃ u, g = G (hdPl n k ob av tv sv L i X c k vv z' u) cs) ∧ ∃ d, w' = w.at d) (G (hdPl n k ob av tv sv L i X c y vv z u) cs) (w.at d) := by
  intro r
  induction r with
  | zero =>
    intro y z u d hy
    have hy : y = k := hy
    subst hy
    exact .stop fun d' => ⟨z, ⟨Int.le_refl _, fun q h1 h2 => by omega, .inl rfl⟩, ⟨u, rfl⟩, d', rfl⟩
  | succ r ih =>
    intro y z u d hy
    refine (pl_round n k ob av tv sv L i X c y vv z tb (pt y : Nat) (by omega) (w.at d) htv hk (hp y (by omega)) cs u).then ?_
    rintro _ w' ⟨⟨u', rfl⟩, d', rfl⟩
    refine (ih (y + 1) (min z (pt y : Nat)) u' d' (by omega)).mono ?_
    rintro _ w' ⟨z', ⟨h1, h2, h3⟩, h4, h5⟩
    refine ⟨z', ⟨by omega, fun q hq hk => ?_, ?_⟩, h4, h5⟩
    · by_cases e : q = y
      · subst e; omega
      · exact h2 q (by omega) hk
    · rcases h3 with h3 | ⟨q, h3, h6, h7⟩
      · by_cases e : z ≤ (pt y : Nat)
        · exact .inl (by omega)
        · exact .inr ⟨y, Nat.le_refl _, by omega, by omega⟩
      · exact .inr ⟨q, by omega, h6, h7⟩
section
variable {W : World} {n k rb sb ob qb tb base : Nat} {all : List Int} {pt : Nat → Nat} {s : So} {aa : Option Addr} {ac : Nat}
def NextP (W : World) (n k rb sb ob qb tb base : Nat) (bound : Nat) (sv : Value) (L i : Nat) (g : Goroutine) (w : World) : Prop :=
  ∃ all pt s aa ac, (∃ u, g = G (hdPa n k ob (.slice aa all.length ac) (.slice (some ⟨tb, 0, none⟩) k k) sv L i u) []) ∧ PlI W n k rb sb ob qb tb base all pt s aa ac w ∧ all.length ≤ bound
theorem pw_act (sb' so sc L i : Nat) (wv kd a b cx : Int) (c bound : Nat) (hk : k ≤ 2) (hn : n ≤ 16) (hn1 : 1 ≤ n) (hwv0 : 0 ≤ wv) (hwv1 : wv < 256) (hwho : wv.tmod ((k : Int) + 1) = 0) (hub : 0 ≤ IntKind.wrap .u64 b) (hc : (IntKind.wrap .u64 b).tmod ((n : Int) + 2) = c) (hc2 : c ≤ n + 1) (hi : i < L) (hL : L ≤ 17592186044416) (hb : bound ≤ 1099511627776) (w : World)
    (hcs : ∀ (y : Nat) (v : Value), ([.int .u8 wv, .int .i64 kd, .int .i64 a, .int .i64 b, .int .i64 cx] : List Value)[y]? = some v → w.cell? ⟨sb', so + i * 5 + y, none⟩ = some v) (H : PlI W n k rb sb ob qb tb base all pt s aa ac w) (hal : all.length ≤ bound) (u : Nat → Value) :
    Walk Try.prog true (DR (fun _ => none)) (NextP W n k rb sb ob qb tb base (bound + 16) (.slice (some ⟨sb', so, none⟩) L sc) L (i + 1)) (G (hdPa n k ob (.slice aa all.length ac) (.slice (some ⟨tb, 0, none⟩) k k) (.slice (some ⟨sb', so, none⟩) L sc) L i u) []) w := by
  have hA : ∀ b, Apart (fun _ => none) b := fun b => ⟨fun _ _ _ _ h => (by cases h), fun _ _ h => (by cases h)⟩
  refine (pw_in n k ob (.slice aa all.length ac) (.slice (some ⟨tb, 0, none⟩) k k) sb' so sc L i wv kd a b cx c hk hn hwv0 hwv1 hwho hub hc hc2 hi hL w hcs [] u).then ?_
  rintro _ w1 ⟨⟨u1, rfl⟩, s1, o1, c1⟩
  have H1 := H.grow (by omega) o1
  refine (pv_all n k ob (.slice aa all.length ac) (.slice (some ⟨tb, 0, none⟩) k k) (.slice (some ⟨sb', so, none⟩) L sc) L i w.heap.size c a (by omega) w1 c1 [] c 0 [] none 0 w1 u1 (by omega) rfl ⟨⟨rfl, .inl ⟨rfl, rfl⟩⟩, fun _ _ => rfl, Nat.le_refl _⟩).then ?_
  rintro _ w2 ⟨vs, ta, tc, hvl, ⟨u2, rfl⟩, V2⟩
  have H2 := H1.grow V2.size V2.old
  refine (pv_out n k ob aa all.length ac tb (.slice (some ⟨sb', so, none⟩) L sc) L i w.heap.size c (.slice ta c tc) (by omega) w2 [] u2).then ?_
  rintro _ _ ⟨⟨u3, rfl⟩, d3, rfl⟩
  refine (pl_all n k ob (.slice aa all.length ac) (.slice (some ⟨tb, 0, none⟩) k k) (.slice (some ⟨sb', so, none⟩) L sc) L i w.heap.size c (.slice ta c tc) tb pt rfl (by omega) w2 (fun y hy => H2.pcell hy) [] k 0 _ u3 d3 (by omega)).then ?_
  rintro _ _ ⟨z, ⟨z1, z2, z3⟩, ⟨u4, rfl⟩, d4, rfl⟩
  refine Walk.back ?_ d4
  have hls : LsR (.slice ta vs.length tc) vs w2 := row_lsR V2.row
  have hlo : ∀ b off, ta = some ⟨b, off, none⟩ → ¬ soSh rb sb ob qb b := fun b off e h => by
    have hv := V2.row.lt b (by rw [e]; rfl)
    have := (H2.sh b h).2.1
    have := H1.size
    omega
  obtain ⟨xs, hxs⟩ : ∃ xs : Nat → Int, ∀ i, i < vs.length → vs[i]? = some (xs i) := ⟨fun i => vs.getD i 0, fun i hi => by simp [List.getElem?_eq_getElem hi, hi]⟩
  have hpos : 0 < n + 1 := by omega
  by_cases g1 : c < 1
  · have hw := owrite_n (main := true) hA H2.I 0 ta tc vs xs hxs hls hlo (s, ⟨false, 1, []⟩) (wrun_range _ xs (.inl (by omega)))
    rw [hvl] at hw
    have hcal : CallP true (fun _ => none) 41 #[.pointer (some ⟨ob, 0, none⟩), .nilIface, .slice ta c tc] w2 (fun v w' => v = .tuple #[.int .i64 0, .int .i64 1] ∧ PlI W n k rb sb ob qb tb base all pt s aa ac w') := hw.mono fun v w' ⟨a, er, h1, h2, h3, h4⟩ => by
      have e1 : er ≠ 0 := fun e => by subst e; cases h2
      rw [if_neg e1] at h2
      injection h2 with _ h2 _
      have h2 : er = 1 := h2.symm
      rw [h3 e1, h2] at h1
      exact ⟨h1, H2.after h4 H2.M⟩
    refine (pd_none n k ob aa all.length ac tb (.slice (some ⟨sb', so, none⟩) L sc) L i w.heap.size c (.slice ta c tc) z g1 (by omega) (by omega) hi hL _ (fun w d h => h.at d) w2 hcal [] u4).mono ?_
    rintro _ w' ⟨hu, h⟩
    exact ⟨all, pt, s, aa, ac, hu, h, by omega⟩
  by_cases g2 : n < c
  · have hw := owrite_n (main := true) hA H2.I 0 ta tc vs xs hxs hls hlo (s, ⟨false, 1, []⟩) (wrun_range _ xs (.inr (by omega)))
    rw [hvl] at hw
    have hcal : CallP true (fun _ => none) 41 #[.pointer (some ⟨ob, 0, none⟩), .nilIface, .slice ta c tc] w2 (fun v w' => v = .tuple #[.int .i64 0, .int .i64 1] ∧ PlI W n k rb sb ob qb tb base all pt s aa ac w') := hw.mono fun v w' ⟨a, er, h1, h2, h3, h4⟩ => by
      have e1 : er ≠ 0 := fun e => by subst e; cases h2
      rw [if_neg e1] at h2
      injection h2 with _ h2 _
      have h2 : er = 1 := h2.symm
      rw [h3 e1, h2] at h1
      exact ⟨h1, H2.after h4 H2.M⟩
    refine (pd_many n k ob aa all.length ac tb (.slice (some ⟨sb', so, none⟩) L sc) L i w.heap.size c (.slice ta c tc) z (by omega) g2 (by omega) (by omega) hi hL _ (fun w d h => h.at d) w2 hcal [] u4).mono ?_
    rintro _ w' ⟨hu, h⟩
    exact ⟨all, pt, s, aa, ac, hu, h, by omega⟩
  obtain ⟨f1, f2⟩ := wrun_find (rb := rb) (sb := sb) (ob := ob) (qb := qb) H2.M vs xs hxs (by omega) (by omega) (by omega)
  by_cases g3 : z < (all.length : Int) + c - n
  · obtain ⟨N, s', M', hrun⟩ := f2 (by
      rcases z3 with z3 | ⟨q, _, hq, z3⟩
      · omega
      · exact ⟨q, hq, by omega⟩)
    have hw := owrite_n (main := true) hA H2.I N ta tc vs xs hxs hls hlo (s', ⟨false, 3, []⟩) hrun
    rw [hvl] at hw
    have hcal : CallP true (fun _ => none) 41 #[.pointer (some ⟨ob, 0, none⟩), .nilIface, .slice ta c tc] w2 (fun v w' => v = .tuple #[.int .i64 0, .int .i64 3] ∧ PlI W n k rb sb ob qb tb base all pt s' aa ac w') := hw.mono fun v w' ⟨a, er, h1, h2, h3, h4⟩ => by
      have e1 : er ≠ 0 := fun e => by subst e; cases h2
      rw [if_neg e1] at h2
      injection h2 with _ h2 _
      have h2 : er = 3 := h2.symm
      rw [h3 e1, h2] at h1
      exact ⟨h1, H2.after h4 M'⟩
    refine (pd_full n k ob aa all.length ac tb (.slice (some ⟨sb', so, none⟩) L sc) L i w.heap.size c (.slice ta c tc) z (by omega) (by omega) g3 (by omega) (by omega) hi hL _ (fun w d h => h.at d) w2 hcal [] u4).mono ?_
    rintro _ w' ⟨hu, h⟩
    exact ⟨all, pt, s', aa, ac, hu, h, by omega⟩
  · obtain ⟨N, s', M', hrun⟩ := f1 (fun q hq => by have := z2 q (Nat.zero_le _) hq; omega)
    have hw := owrite_n (main := true) hA H2.I N ta tc vs xs hxs hls hlo (s', ⟨true, all.length, []⟩) hrun
    obtain ⟨gv, rfl, htc, hgv1, hgv2⟩ := row_addr V2.row (by omega)
    have hnews : ∀ w' : World, w'.heap[gv]? = w2.heap[gv]? → ∀ (j : Nat) (x : Value), (intRow3 vs)[j]? = some x → w'.cell? ⟨gv, j, none⟩ = some x := fun w' hw' j x hx => by
      simp only [intRow3, List.getElem?_map, Option.map_eq_some_iff] at hx
      obtain ⟨y, hy, rfl⟩ := hx
      obtain ⟨a', c', e1, _, _, h⟩ := hls
      injection e1 with e1 _ _
      obtain ⟨b, off, e2, h2⟩ := h j y hy
      rw [← e1] at e2
      cases e2
      rw [Nat.zero_add] at h2
      exact (World.cell?_of_block (a := ⟨gv, j, none⟩) hw').trans h2
    rw [hvl] at hw
    have hcal : CallP true (fun _ => none) 41 #[.pointer (some ⟨ob, 0, none⟩), .nilIface, .slice (some ⟨gv, 0, none⟩) c tc] w2 (fun v w' => v = .tuple #[.int .i64 all.length, .int .i64 0] ∧ CN rb sb n ob qb k s' w2 w') := hw.mono fun v w' ⟨a, er, h1, h2, h3, h4⟩ => by
      have e1 : er = 0 := by
        by_cases e : er = 0
        · exact e
        · exfalso
          have h5 : (true : Bool) = (er == 0) := congrArg Ans.ok h2
          simp at h5
          exact e h5
      subst e1
      have h6 : (all.length : Int) = a := congrArg Ans.n h2
      rw [← h6] at h1
      exact ⟨h1, h4⟩
    have hB1 := H1.size
    refine (pd_ok n k ob aa all.length ac tb (.slice (some ⟨sb', so, none⟩) L sc) L i w.heap.size c (.slice (some ⟨gv, 0, none⟩) c tc) z (by omega) (by omega) g3 (by omega) base gv tc (intRow3 all) (intRow3 vs) rfl (by simp [intRow3, hvl]) (by simp [intRow3, Value.oneCell']) (by omega) (by omega) hi hL _ w2 (fun w' h => ?_) hcal [] u4).mono ?_
    · obtain ⟨k1, k2, k3, k4, k5⟩ := H2.call h M'
      refine ⟨k2, hnews w' (h.old gv hgv2 fun hs => ?_), k5⟩
      have := (H2.sh gv hs).2.1
      omega
    · rintro _ w' ⟨g2', cap, hu, w3, hC, hrow, hg⟩
      obtain ⟨k1, k2, k3, k4, k5⟩ := H2.call hC M'
      have hown : ∀ x, (Value.slice aa all.length ac).ownBlock = some x → base ≤ x := fun x hx => (H2.row.lt x hx).1
      have hl : (all ++ vs).length = all.length + c := by rw [List.length_append, hvl]
      have hgs := hg.size
      obtain ⟨l1, l2, l3⟩ := H.lo
      have hkeep : ∀ x, x < base → w'.heap[x]? = w3.heap[x]? := fun x hx => hg.block x (by omega) fun e => by have := hown x e.symm; omega
      refine ⟨all ++ vs, pt, s', some ⟨g2', 0, none⟩, cap, by rw [hl]; exact hu, ⟨k1.old fun b hb => hkeep b (H.sh b hb).2.1, M', ?_, ?_, fun b hb => (hkeep b (by omega)).trans (k4 b hb), by omega, H.lo, H.sh⟩, by omega⟩
      · rw [hl, show intRow3 (all ++ vs) = intRow3 all ++ intRow3 vs from List.map_append]
        exact hrow
      · obtain ⟨arr, a1, a2⟩ := k3
        exact ⟨arr, (hkeep tb (by omega)).trans a1, a2⟩
end
end
section
section
variable {W : World} {n k rb sb ob qb tb base : Nat} {all : List Int} {pt : Nat → Nat} {s : So} {aa : Option Addr} {ac : Nat}
theorem run_end (a : Option Addr) (m c : Nat) (h : (a = none ∧ m = 0 ∧ c = 0) ∨ ∃ b, a = some ⟨b, 0, none⟩ ∧ m ≤ c) : ∃ la lc, ∀ (w : World) (es : Array Event), (Instr.sliceAt 22 (.slice a m c) (some (.int .i64 (m : Nat))) none none).run Try.prog w = .ok (.slice la 0 lc) w ∧ (Instr.sliceAt 22 (.slice a m c) (some (.int .i64 (m : Nat))) none none).events Try.prog w es = es := by
  have hiI := Option.some_get (show (Try.prog.info? 2).isSome = true by kernel_rfl)
  rcases h with ⟨rfl, rfl, rfl⟩ | ⟨b, rfl, hc⟩
  · exact ⟨none, 0, fun w es => run_from_nil (by kernel_rfl) hiI.symm (by kernel_rfl) w es⟩
  · obtain ⟨a', _, h⟩ := run_from (P := Try.prog) (t := 22) (by kernel_rfl) hiI.symm (by kernel_rfl) b 0 m 0 c hc
    exact ⟨a', c - m, h⟩
theorem pb_actN (sb' so sc L i : Nat) (wv kd a b cx : Int) (r mo bound : Nat) (hk : k ≤ 2) (hr : r < k) (hwv0 : 0 ≤ wv) (hwv1 : wv < 256) (hwho : wv.tmod ((k : Int) + 1) = (r : Int) + 1) (hub : 0 ≤ IntKind.wrap .u64 a) (hm : (IntKind.wrap .u64 a).tmod 5 = mo) (hm2 : mo ≤ 4) (hi : i < L) (hL : L ≤ 17592186044416) (hb : bound ≤ 1099511627776) (w : World)
    (hcs : ∀ (y : Nat) (v : Value), ([.int .u8 wv, .int .i64 kd, .int .i64 a, .int .i64 b, .int .i64 cx] : List Value)[y]? = some v → w.cell? ⟨sb', so + i * 5 + y, none⟩ = some v) (H : PlI W n k rb sb ob qb tb base all pt s aa ac w) (hal : all.length ≤ bound) (hp : pt r = all.length) (u : Nat → Value) :
    Walk Try.prog true (DR (fun _ => none)) (NextP W n k rb sb ob qb tb base bound (.slice (some ⟨sb', so, none⟩) L sc) L (i + 1)) (G (hdPa n k ob (.slice aa all.length ac) (.slice (some ⟨tb, 0, none⟩) k k) (.slice (some ⟨sb', so, none⟩) L sc) L i u) []) w := by
  have hA : ∀ b, Apart (fun _ => none) b := fun b => ⟨fun _ _ _ _ h => (by cases h), fun _ _ h => (by cases h)⟩
  obtain ⟨la, lc, hf⟩ := run_end aa all.length ac (by
    rcases H.row.2 with ⟨e, h0⟩ | ⟨g, cap, cur, e, h1, h2, h3, _⟩
    · injection e with e1 e2 e3
      exact .inl ⟨e1, h0, e3⟩
    · injection e with e1 e2 e3
      exact .inr ⟨g, e1, by omega⟩)
  refine (pb_none n k ob 0 0 all.length 0 tb sb' so sc L i wv kd a b cx r mo hk hr hwv0 hwv1 hwho hub hm hm2 hi hL (by omega) w (.slice aa all.length ac) la lc (fun w => (hf w #[]).1) (fun w es => (hf w es).2) (fun w' => PlI W n k rb sb ob qb tb base all pt s aa ac w') (fun w' h => by rw [h.pcell hr, hp]) (fun w2 h1 h2 => ?_) hcs [] u).mono ?_
  · have H2 := H.grow (by omega) h2
    refine (obatch_n (main := true) hA H2.I 1 r hr mo (s, ⟨false, 4, []⟩) (brun_none H2.M r hr mo hp)).mono ?_
    rintro v w' ⟨a, cp, er, e1, e2, e3, _, _, hC⟩
    have e3 : (4 : Int) = er := e3
    subst e3
    exact ⟨a, cp, e1, H2.after hC H2.M⟩
  · rintro _ w' ⟨hu, w3, h3, d, rfl⟩
    exact ⟨all, pt, s, aa, ac, hu, h3.at d, hal⟩
theorem pb_actS (sb' so sc L i : Nat) (wv kd a b cx : Int) (r mo bound : Nat) (hk : k ≤ 2) (hr : r < k) (hwv0 : 0 ≤ wv) (hwv1 : wv < 256) (hwho : wv.tmod ((k : Int) + 1) = (r : Int) + 1) (hub : 0 ≤ IntKind.wrap .u64 a) (hm : (IntKind.wrap .u64 a).tmod 5 = mo) (hm2 : mo ≤ 4) (hi : i < L) (hL : L ≤ 17592186044416) (hb : bound ≤ 1099511627776) (w : World)
    (hcs : ∀ (y : Nat) (v : Value), ([.int .u8 wv, .int .i64 kd, .int .i64 a, .int .i64 b, .int .i64 cx] : List Value)[y]? = some v → w.cell? ⟨sb', so + i * 5 + y, none⟩ = some v) (H : PlI W n k rb sb ob qb tb base all pt s aa ac w) (hal : all.length ≤ bound) (hp : pt r < all.length) (u : Nat → Value) :
    Walk Try.prog true (DR (fun _ => none)) (NextP W n k rb sb ob qb tb base bound (.slice (some ⟨sb', so, none⟩) L sc) L (i + 1)) (G (hdPa n k ob (.slice aa all.length ac) (.slice (some ⟨tb, 0, none⟩) k k) (.slice (some ⟨sb', so, none⟩) L sc) L i u) []) w := by
  have hA : ∀ b, Apart (fun _ => none) b := fun b => ⟨fun _ _ _ _ h => (by cases h), fun _ _ h => (by cases h)⟩
  obtain ⟨ab, rfl, hac, hab1, hab2⟩ := row_addr H.row (by omega)
  obtain ⟨j, hj⟩ : ∃ j : Nat, (j : Int) = min ((all.length : Int) - pt r) (max (mo : Int) 1) := ⟨(min ((all.length : Int) - pt r) (max (mo : Int) 1)).toNat, by omega⟩
  obtain ⟨N, s', M', hrun⟩ := brun_some (rb := rb) (sb := sb) (ob := ob) (qb := qb) H.M r hr mo hp (by omega) j hj
  obtain ⟨y, hy⟩ : ∃ y, all.length = pt r + y := ⟨all.length - pt r, by omega⟩
  obtain ⟨l, hl⟩ : ∃ l, (all.drop (pt r)).take j = l := ⟨_, rfl⟩
  have hlj : l.length = j := by rw [← hl, List.length_take, List.length_drop]; omega
  have hlg : ∀ (q : Nat) (z : Int), l[q]? = some z → all[pt r + q]? = some z := fun q z hz => by
    have hq := (List.getElem?_eq_some_iff.1 hz).1
    rw [← hl, List.getElem?_take, if_pos (by omega), List.getElem?_drop] at hz
    exact hz
  rw [hl] at hrun
  have hgo := pb_some n k ob ab ac (pt r) y tb sb' so sc L i wv kd a b cx r mo hk hr hwv0 hwv1 hwho hub hm hm2 hi hL (by omega) w j (by omega) (by omega) (by omega) (by omega)
    (fun g gc w' => (SoI rb sb n ob qb k s' w' ∧ w'.ownsRow base 2 1 (.slice (some ⟨ab, 0, none⟩) all.length ac) all.length (intRow3 all) ∧ (∃ arr : Array Value, w'.heap[tb]? = some (.cells arr 3) ∧ ∀ i, i < k → arr[i]? = some (.int .i64 (pt i : Nat))) ∧ (∀ b, b < W.heap.size → w'.heap[b]? = W.heap[b]?) ∧ base ≤ w'.heap.size) ∧ w'.ownsRow 0 2 1 (.slice (some ⟨g, 0, none⟩) l.length gc) l.length (intRow3 l))
    (fun g gc w' ⟨⟨h1, h2, ⟨arr, h3, h4⟩, h5, h6⟩, h7⟩ => ⟨(cell_of h3 r).trans (h4 r hr), frozen_of h3 r, by
      have e1 := row_lsR h7
      have e2 := row_lsR h2
      have hc1 : ∀ (q : Nat) (x : Value), (intRow3 l)[q]? = some x → w'.cell? ⟨g, q, none⟩ = some x := fun q x hx => by
        simp only [intRow3, List.getElem?_map, Option.map_eq_some_iff] at hx
        obtain ⟨z, hz, rfl⟩ := hx
        obtain ⟨a', c', f1, _, _, f⟩ := e1
        injection f1 with f1 _ _
        obtain ⟨b', off, f2, f3⟩ := f q z hz
        rw [← f1] at f2
        cases f2
        rwa [Nat.zero_add] at f3
      have hc2 : ∀ (q : Nat) (x : Value), (intRow3 l)[q]? = some x → w'.cell? ⟨ab, pt r + q, none⟩ = some x := fun q x hx => by
        simp only [intRow3, List.getElem?_map, Option.map_eq_some_iff] at hx
        obtain ⟨z, hz, rfl⟩ := hx
        obtain ⟨a', c', f1, _, _, f⟩ := e2
        injection f1 with f1 _ _
        obtain ⟨b', off, f2, f3⟩ := f (pt r + q) z (hlg q z hz)
        rw [← f1] at f2
        cases f2
        rwa [Nat.zero_add] at f3
      have := same3_wO (main := true) (V := fun _ => none) l g ab (pt r) gc (ac - pt r) w' (by omega) hc1 hc2
      rwa [hlj] at this⟩)
    (fun w2 h1 h2 => by
      have H2 := H.grow (by omega) h2
      refine (obatch_n (main := true) hA H2.I N r hr mo (s', ⟨true, 0, l⟩) hrun).mono ?_
      rintro v w' ⟨a, cp, er, e1, e2, e3, e4, e5, hC⟩
      have e3 : (0 : Int) = er := e3
      subst e3
      obtain ⟨g, rfl, _, _, _⟩ := row_addr e4 (by show 0 < l.length; omega)
      refine ⟨g, cp, ?_, H2.call hC M', e4⟩
      rw [e1]
      show Value.tuple #[.slice _ l.length cp, _] = _
      rw [hlj]) hcs [] u
  rw [hy]
  refine hgo.mono ?_
  rintro _ w' ⟨hu, g, gc, w3, ⟨⟨h1, h2, ⟨arr, h3, h4⟩, h5, h6⟩, h7⟩, d, rfl⟩
  obtain ⟨l1, l2, l3⟩ := H.lo
  have ho : ∀ x, x ≠ tb → (w3.setCell ⟨tb, r, none⟩ (.int .i64 ((pt r : Int) + j))).heap[x]? = w3.heap[x]? := fun x hx => heap_set_other _ _ _ _ hx
  have hP : PlI W n k rb sb ob qb tb base all (upd pt r (pt r + j)) s' (some ⟨ab, 0, none⟩) ac (w3.setCell ⟨tb, r, none⟩ (.int .i64 ((pt r : Int) + j))) := by
    refine ⟨h1.old fun b hb => ho b (H.sh b hb).2.2, M', row_same h2 fun b hb => ho b (by have := (h2.lt b hb).1; omega), ⟨_, heap_set_self _ _ h3, fun q hq => ?_⟩, fun b hb => (ho b (by omega)).trans (h5 b hb), by rw [size_set]; exact h6, H.lo, H.sh⟩
    by_cases e : q = r
    · subst e
      rw [upd_same]
      refine (Array.getElem?_setIfInBounds_self_of_lt (Array.getElem?_eq_some_iff.1 (h4 q hq)).1).trans ?_
      simp
    · rw [upd_ne _ _ e, Array.getElem?_setIfInBounds_ne (by omega)]
      exact h4 q hq
  exact ⟨all, upd pt r (pt r + j), s', some ⟨ab, 0, none⟩, ac, by rw [hy]; exact hu, hP.at d, hal⟩
end
end
end Go.Proofs.Ytcdcnmphjhfbpaa
