/- Part 28. -/
import Derived.Test.YtflcclneedldoaaJ14
import Derived.Test.YtflcclneedldoaaJ18
import Derived.Test.YtflcclneedldoaaJ27
set_option linter.unusedSimpArgs false
set_option linter.unusedVariables false
set_option maxHeartbeats 8000000
set_option maxRecDepth 100000
namespace Go.Proofs.Ytflcclneedldoaa
open Go.Conc Go.RowKit Go.Relay Try
open Go.ConcN (upd upd_ne upd_same)
theorem lay_eq (m : Nat) (s : Rg) (q v : Int) : Fa (Cj s (Bl m q) (Bx m q)) (Bl m q) v = Hx m s q v := by
 unfold Hx Fa Cj
 congr 1
 funext k
 simp only [upd]
 by_cases e : k = Bl m q
 ·rw [if_pos e, if_pos e]
 ·rw [if_neg e, if_neg e, if_neg e]
section
variable {main : Bool}
theorem nwa_M11 {M m : Nat} {sv vv : Value} {w0 w : World} (hm : 0 < m) (I : NwA M m (m : Nat) sv vv w0 w) (T : Nat -> R11) : ∃ cb, M11 M M cb 0 0 0 m none (Ho m) T w := by
 obtain ⟨g, gc, cur, rfl, h1, h2, h3, h4, h5, h6⟩ : ∃ g cap cur, sv = .slice (some ⟨g, 0, none⟩) m cap /\ M + 1 <= g /\ w.heap[g]? = some (.cells cur 2 (0, 0)) /\ m <= cap /\ cap <= maxLen /\ cur.size = cap * 1 /\ cur.toList.take (m * 1) = Bg (List.replicate m (-2)) := by
  rcases I.rs.2 with ⟨_, hn⟩ | h
  ·omega
  ·exact h
 obtain ⟨h, hc, cur2, rfl, k1, k2, k3, k4, k5, k6⟩ : ∃ g cap cur, vv = .slice (some ⟨g, 0, none⟩) m cap /\ M + 1 <= g /\ w.heap[g]? = some (.cells cur 2 (0, 0)) /\ m <= cap /\ cap <= maxLen /\ cur.size = cap * 1 /\ cur.toList.take (m * 1) = Bg (List.replicate m 0) := by
  rcases I.rv.2 with ⟨_, hn⟩ | h
  ·omega
  ·exact h
 have hne : g ≠ h := fun e => I.ne g rfl (by rw [e]; rfl)
 have get : ∀ (cur : Array Value) (x : Int), cur.toList.take (m * 1) = Bg (List.replicate m x) -> ∀ i, i < m -> cur[i]? = some (.int .i64 x) := fun cur x he i hi => by
  have e : (Bg (List.replicate m x))[i]? = some (.int .i64 x) := by simp [Bg, hi]
  rw [<- he, List.getElem?_take, if_pos (by omega)] at e
  simpa using e
 refine ⟨⟨g, gc, h, hc⟩, ⟨?_, fun _ => ⟨⟨cur, h2, fun i hi => ?_⟩, cur2, k2, fun i hi => ?_⟩, fun h => absurd h (by decide), fun i hi => absurd hi (Nat.not_lt_zero i), fun i hi => absurd hi (Nat.not_lt_zero i), Nat.le_refl _, fun _ => ⟨by show M <= g; omega, by show M <= h; omega⟩, fun _ => ⟨by show M ≠ g; omega, by show M ≠ h; omega, hne⟩, fun h => absurd h (by decide)⟩⟩
 ·rw [CB.sa, CB.va, if_pos hm, if_pos hm]
  exact I.hd
 ·show _ = some (Value.int .i64 (if i < m then -2 else 0))
  rw [if_pos hi]
  exact get cur _ h6 i hi
 ·exact get cur2 _ k6 i hi
theorem nb_end (M L xc : Nat) (xa : Option Addr) (w : World) (u : Nat -> Value) (fr : Frame) (cs : List Frame) (j : Nat) (hj : L <= j) :
  Walk prog main (DR (fun _ => none)) (fun g w' => g = G (fr.finish (.pointer (some ⟨M, 0, none⟩))) cs /\ ∃ d, w' = w.at d) (G (hdNb M (.slice xa L xc) j u) (fr :: cs)) w := by
 have hj1 : decide ((j : Int) < L) = false := by simp; omega
 have hj3 : decide (j < L) = false := by simp; omega
 conv => arg 5; unfold hdNb
 refine Aa z58 ?_
 exact Bk rfl rfl func58 rfl (.stop fun d => ⟨rfl, d, rfl⟩)
theorem nb_round {cb : CB} {m : Nat} {S : Rg} {T : Nat -> R11} (M L xc j sb so : Nat) (x : Int) (hj0 : 1 <= j) (hj : j < L) (hL : L <= 17592186044416) (hm0 : 0 < m) (hm : m <= 65536) (w : World) (I : M11 M M cb 0 0 0 m none S T w) (hx : w.cell? ⟨sb, so + j, none⟩ = some (.int .i64 x)) (hsb : sb < M) (u : Nat -> Value) (cs : List Frame) :
  Walk prog main (DR (fun _ => none)) (fun g w' => (∃ u, g = G (hdNb M (.slice (some ⟨sb, so, none⟩) L xc) (j + 1) u) cs) /\ M11 M M cb 0 0 0 m none (Hx m S ((j - 1 : Nat) : Int) x) T w' /\ ∀ b, b < M -> w'.heap[b]? = w.heap[b]?) (G (hdNb M (.slice (some ⟨sb, so, none⟩) L xc) j u) cs) w := by
 obtain ⟨hi0, hj1, hj3, hj4⟩ := hIx j L
 have hw1 := wI ((j : Int) + 1)
 have hcc : ((j + 1 : Nat) : Int) = (j : Int) + 1 := by simp
 obtain ⟨q, hq⟩ : ∃ q : Int, ((j - 1 : Nat) : Int) = q := ⟨_, rfl⟩
 have hw2 : IntKind.wrap .i64 ((j : Int) - 1) = q := by rw [IntKind.wrap_i64]; omega
 have hg : good q := ⟨by omega, by omega⟩
 rw [hq]
 have hsl := Ka (main := main) (V := fun _ => none) q hg hm0 hm w I
 have hla := Qa (main := main) (V := fun _ => none) q hg hm0 hm w I
 have hLw : IntKind.wrap .i64 (2 * q.tdiv m) = Bx m q := by
  have h1 := Eb hg m
  have h2 := Dq hg m
  rw [h1, IntKind.wrap_i64]; omega
 have hxm := Ec hg hm0
 have hlo := I.cLo (b := cb.sg) ⟨hm0, .inl rfl⟩
 have hlo2 := I.cLo (b := cb.vg) ⟨hm0, .inr rfl⟩
 have c1 := I.cS hm0
 have c3 := I.scell hxm
 have z3 := I.sfrz hm0 (Bl m q)
 have I1 := I.putS hxm (Bx m q)
 have hsl1 := fun w1 (I1 : M11 M M cb 0 0 0 m none (Cj S (Bl m q) (Bx m q)) T w1) => Ka (main := main) (V := fun _ => none) q hg hm0 hm w1 I1
 rw [<- lay_eq]
 generalize hX : Bl m q = ix at *
 generalize q.tdiv m = lp at *
 generalize Bx m q = la at *
 obtain ⟨hx0, hx1, hx3, hx4⟩ := hIx ix m
 clear hq hg
 conv => arg 5; unfold hdNb
 refine Aa z58 ?_
 (refine Bw (by kernel_rfl) size58_14 (by kernel_rfl) (by kernel_rfl) (by kernel_rfl) (by decide) ?_; simp only [List.range, List.range.loop]; repeat (first | (refine cQ ?_) | (refine Be Ah (by rfl) ?_; walk_nrm)))
 refine Cm.callV (x := .int .i64 (ix : Nat)) ?_ Ah (by rfl) rfl func115 (by kernel_rfl) (by rfl) ?_
 ·intro w' e
  subst e
  walk_nrm
  exact hsl
 walk_nrm
 repeat (first | (refine cQ ?_) | (refine Be Ah (by rfl) ?_; walk_nrm))
 refine Cm.callV (x := .int .i64 lp) ?_ Ah (by rfl) rfl func114 (by kernel_rfl) (by rfl) ?_
 ·intro w' e
  subst e
  walk_nrm
  exact hla
 walk_nrm
 repeat (first | (refine cQ ?_) | (refine Be Ah (by rfl) ?_; walk_nrm))
 refine cDn ?_
 intro rest hr
 (have hfr := Ju cb.sg ix; refine Ws hfr c3 ?_; clear hfr; try walk_nrm)
 refine hr _ _ ?_
 have o1 : ∀ b, b < M -> (w.setCell ⟨cb.sg, ix, none⟩ (.int .i64 la)).heap[b]? = w.heap[b]? := fun b hb => Ac _ _ _ _ (by show b ≠ cb.sg; omega)
 generalize w.setCell ⟨cb.sg, ix, none⟩ (.int .i64 la) = w1 at *
 have hsl2 := hsl1 w1 I1
 have hx' : w1.cell? ⟨sb, so + j, none⟩ = some (.int .i64 x) := (cBk (a := ⟨sb, so + j, none⟩) (o1 sb hsb)).trans hx
 clear c1 c3 z3 hsl hla hsl1 hx
 have c2 := I1.cV hm0
 have c3 := I1.vcell hxm
 have z3 := I1.vfrz hm0 ix
 have I2 := I1.putV hxm x
 try walk_nrm
 refine Aa z58 ?_
 (refine Bw (by kernel_rfl) size58_15 (by kernel_rfl) (by kernel_rfl) (by kernel_rfl) (by decide) ?_; simp only [List.range, List.range.loop]; repeat (first | (refine cQ ?_) | (refine Be Ah (by rfl) ?_; walk_nrm)))
 refine Cm.callV (x := .int .i64 (ix : Nat)) ?_ Ah (by rfl) rfl func115 (by kernel_rfl) (by rfl) ?_
 ·intro w' e
  subst e
  walk_nrm
  exact hsl2
 walk_nrm
 repeat (first | (refine cQ ?_) | (refine Be Ah (by rfl) ?_; walk_nrm))
 refine cDn ?_
 intro rest2 hr2
 (have hfr := Ju cb.vg ix; refine Ws hfr c3 ?_; clear hfr; try walk_nrm)
 refine hr2 _ _ ?_
 have o2 : ∀ b, b < M -> (w1.setCell ⟨cb.vg, ix, none⟩ (.int .i64 x)).heap[b]? = w1.heap[b]? := fun b hb => Ac _ _ _ _ (by show b ≠ cb.vg; omega)
 generalize w1.setCell ⟨cb.vg, ix, none⟩ (.int .i64 x) = w2 at *
 clear c2 c3 z3 hsl2 hx'
 try walk_nrm
 refine Aa z58 ?_
 refine cIL ?_
 refine .stop fun d => ⟨Ak ?_, I2.same fun _ _ => rfl, fun b hb => (o2 b hb).trans (o1 b hb)⟩
 simp only [hdNb, hcc]
 rfl
end
noncomputable def szZ (xs : List Int) : Nat := by classical exact if Qx xs then Lv xs else 0
noncomputable def r0Z (xs : List Int) : Rg := by classical exact if Qx xs then r0R xs else Ho 0
theorem Mm {xs : List Int} (h : Qx xs) : szZ xs = Lv xs := if_pos h
theorem szZ_no {xs : List Int} (h : ¬ Qx xs) : szZ xs = 0 := if_neg h
theorem r0Z_yes {xs : List Int} (h : Qx xs) : r0Z xs = r0R xs := if_pos h
theorem r0Z_no {xs : List Int} (h : ¬ Qx xs) : r0Z xs = Ho 0 := if_neg h
theorem Oe (x : Int) (l : List Int) : Qx (x :: l) ↔ Qw x := by
 constructor
 ·rintro ⟨y, l', e, h1, h2⟩
  injection e with e _
  subst e
  have : max x 0 = x := by have := h2.1; omega
  rwa [this] at h2
 ·intro h
  have : max x 0 = x := by have := h.1; omega
  exact ⟨x, l, rfl, h.2.1, by rwa [this]⟩
def NewR (xs : List Int) (T : Nat -> R11) (w : World) (v : Value) (w' : World) : Prop := v = .pointer (some ⟨w.heap.size, 0, none⟩) /\ ∃ cb, (szZ xs = 0 -> cb.sc = 0 /\ cb.vc = 0) /\ M11 w.heap.size w.heap.size cb 0 0 0 (szZ xs) none (r0Z xs) T w' /\ Chg (fun _ => False) w w'
section
variable {main : Bool}
theorem M11.none {M : Nat} {w : World} (S : Rg) (T : Nat -> R11) (h : w.heap[M]? = some (Pe 0 (.slice none 0 0) (.slice none 0 0))) : M11 M M ⟨0, 0, 0, 0⟩ 0 0 0 0 none S T w := by
 refine ⟨?_, fun h => absurd h (by decide), fun h => absurd h (by decide), fun i hi => absurd hi (Nat.not_lt_zero i), fun i hi => absurd hi (Nat.not_lt_zero i), Nat.le_refl _, fun h => absurd h (by decide), fun h => absurd h (by decide), fun h => absurd h (by decide)⟩
 rw [CB.sa, CB.va, if_neg (by decide)]
 exact h
theorem nw_nil (xa : Option Addr) (xc : Nat) (w : World) (fr : Frame) (cs : List Frame) :
  Walk prog main (DR (fun _ => none)) (fun g w' => g = G (fr.finish (.pointer (some ⟨w.heap.size, 0, none⟩))) cs /\ ∃ d, w' = (w.alloc (Pe 0 (.slice none 0 0) (.slice none 0 0))).at d) (G (Frame.enter prog 58 #[.slice xa 0 xc] .normal) (fr :: cs)) w := by
 rw [enter_at _ func58 code58_is]
 simp only [ntmps58, ez, Nat.reduceAdd, Nat.reduceSub]
 refine Aa z58 ?_
 (refine Wa ?_; try walk_nrm)
 have e1 : w.alloc (.cells #[.int .i64 0, .slice none 0 0, .slice none 0 0, .slice none 0 0, .int .i64 0] 188) = w.alloc (Pe 0 (.slice none 0 0) (.slice none 0 0)) := rfl
 try rw [e1]
 clear e1
 generalize w.alloc (Pe 0 (.slice none 0 0) (.slice none 0 0)) = w1
 generalize w.heap.size = M
 refine Aa z58 ?_
 exact Bk rfl rfl func58 rfl (.stop fun d => ⟨rfl, d, rfl⟩)
theorem nw_no (sb so n xc : Nat) (x : Int) (hn : 0 < n) (hx0 : Kg x = false) (w : World) (hc : w.cell? ⟨sb, so, none⟩ = some (.int .i64 x)) (fr : Frame) (cs : List Frame) :
  Walk prog main (DR (fun _ => none)) (fun g w' => g = G (fr.finish (.pointer (some ⟨w.heap.size, 0, none⟩))) cs /\ ∃ d, w' = (w.alloc (Pe 0 (.slice none 0 0) (.slice none 0 0))).at d) (G (Frame.enter prog 58 #[.slice (some ⟨sb, so, none⟩) n xc] .normal) (fr :: cs)) w := by
 have h1 : ((n : Int) == 0) = false := by simp; omega
 have h2 : (n == 0) = false := by simp; omega
 have h3 : (0 : Int) < n := by omega
 have h4 : decide ((0 : Int) < n) = true := by simp; omega
 have hr := fun w => Mp (main := main) (V := fun _ => none) x w
 rw [hx0] at hr
 have hc1 := Aj _ (Pe 0 (.slice none 0 0) (.slice none 0 0)) hc
 rw [enter_at _ func58 code58_is]
 simp only [ntmps58, ez, Nat.reduceAdd, Nat.reduceSub]
 refine Aa z58 ?_
 (refine Wa ?_; try walk_nrm)
 have e1 : w.alloc (.cells #[.int .i64 0, .slice none 0 0, .slice none 0 0, .slice none 0 0, .int .i64 0] 188) = w.alloc (Pe 0 (.slice none 0 0) (.slice none 0 0)) := rfl
 try rw [e1]
 clear e1 hc
 generalize w.alloc (Pe 0 (.slice none 0 0) (.slice none 0 0)) = w1 at *
 generalize w.heap.size = M
 refine Aa z58 ?_
 refine qV (x := .bool false) (W := w1) func15 ?_ ?_
 ·walk_nrm
  exact hr w1
 clear hr
 walk_nrm
 refine Aa z58 ?_
 exact Bk rfl rfl func58 rfl (.stop fun d => ⟨rfl, d, rfl⟩)
theorem nw_yes (sb so n xc : Nat) (x : Int) (hn : 0 < n) (hx0 : Kg x = true) (w : World) (hc : w.cell? ⟨sb, so, none⟩ = some (.int .i64 x)) (cs : List Frame) :
  Walk prog main (DR (fun _ => none)) (fun g w' => (∃ u, g = G (hdNa w.heap.size (.slice (some ⟨sb, so, none⟩) n xc) 0 u) cs) /\ NwA w.heap.size 0 x (.slice none 0 0) (.slice none 0 0) w w') (G (Frame.enter prog 58 #[.slice (some ⟨sb, so, none⟩) n xc] .normal) cs) w := by
 have h1 : ((n : Int) == 0) = false := by simp; omega
 have h2 : (n == 0) = false := by simp; omega
 have h3 : (0 : Int) < n := by omega
 have h4 : decide ((0 : Int) < n) = true := by simp; omega
 have hr := fun w => Mp (main := main) (V := fun _ => none) x w
 rw [hx0] at hr
 have hc1 := Aj _ (Pe 0 (.slice none 0 0) (.slice none 0 0)) hc
 have d1 := hAw w (Pe 0 (.slice none 0 0) (.slice none 0 0))
 have o1 : ∀ b, b < w.heap.size -> (w.alloc (Pe 0 (.slice none 0 0) (.slice none 0 0))).heap[b]? = w.heap[b]? := fun b hb => Ad _ _ hb
 have s1 : (w.alloc (Pe 0 (.slice none 0 0) (.slice none 0 0))).heap.size = w.heap.size + 1 := by simp
 rw [enter_at _ func58 code58_is]
 simp only [ntmps58, ez, Nat.reduceAdd, Nat.reduceSub]
 refine Aa z58 ?_
 (refine Wa ?_; try walk_nrm)
 have e1 : w.alloc (.cells #[.int .i64 0, .slice none 0 0, .slice none 0 0, .slice none 0 0, .int .i64 0] 188) = w.alloc (Pe 0 (.slice none 0 0) (.slice none 0 0)) := rfl
 try rw [e1]
 clear e1 hc
 generalize w.alloc (Pe 0 (.slice none 0 0) (.slice none 0 0)) = w1 at *
 generalize w.heap.size = M at *
 replace s1 : M + 1 <= w1.heap.size := by omega
 have cM : w1.cell? ⟨M, 0, none⟩ = some (.int .i64 0) := (Ab d1 0).trans rfl
 have zM : w1.frozen? ⟨M, 0, none⟩ = false := Av d1 0
 refine Aa z58 ?_
 refine qV (x := .bool true) (W := w1) func15 ?_ ?_
 ·walk_nrm
  exact hr w1
 clear hr
 walk_nrm
 refine Aa z58 ?_
 (have hfr := Ju M 0; refine Ws hfr cM ?_; clear hfr; try walk_nrm)
 have d2 : (w1.setCell ⟨M, 0, none⟩ (.int .i64 x)).heap[M]? = some (Pe x (.slice none 0 0) (.slice none 0 0)) := (Ao _ _ d1).trans rfl
 have s2 := Ai w1 ⟨M, 0, none⟩ (.int .i64 x)
 have o2 : ∀ b, b ≠ M -> (w1.setCell ⟨M, 0, none⟩ (.int .i64 x)).heap[b]? = w1.heap[b]? := fun b hb => Ac _ _ _ _ hb
 generalize w1.setCell ⟨M, 0, none⟩ (.int .i64 x) = w2 at *
 have I : NwA M 0 x (.slice none 0 0) (.slice none 0 0) w w2 := ⟨d2, ⟨rfl, .inl ⟨rfl, rfl⟩⟩, ⟨rfl, .inl ⟨rfl, rfl⟩⟩, fun b hb => (by cases hb), fun b hb => (o2 b (by omega)).trans (o1 b hb), by omega⟩
 clear cM zM d1 d2 o1 o2 hc1
 try walk_nrm
 refine Aa z58 ?_
 refine cLp ?_
 refine .stop fun d => ⟨Ak ?_, I.at d⟩
 simp only [hdNa]
 rfl
theorem na_loop (M : Nat) (m : Nat) (hm : m <= 65536) (xv : Value) (w0 : World) (cs : List Frame) : ∀ (r j : Nat) (sv vv : Value) (w : World) (u : Nat -> Value), j + r = m -> NwA M j (m : Nat) sv vv w0 w ->
  Walk prog main (DR (fun _ => none)) (fun g w' => (∃ u, g = G (hdNb M xv 1 u) cs) /\ ∃ sv vv, NwA M m (m : Nat) sv vv w0 w') (G (hdNa M xv j u) cs) w := by
 intro r
 induction r with
 | zero =>
  intro j sv vv w u hj I
  have hj : j = m := hj
  subst hj
  refine (na_end M j _ sv vv xv rfl w0 w I cs u).mono ?_
  rintro _ _ ⟨hu, d, rfl⟩
  exact ⟨hu, sv, vv, I.at d⟩
 | succ r ih =>
  intro j sv vv w u hj I
  refine (na_round M j _ sv vv xv (by omega) (by omega) w0 w I cs u).then ?_
  rintro _ w' ⟨⟨u', rfl⟩, sv', vv', I'⟩
  exact ih (j + 1) sv' vv' w' u' (by omega) I'
theorem nb_loop {cb : CB} {m : Nat} {T : Nat -> R11} (M xc sb so : Nat) (xs : List Int) (hL : xs.length <= 17592186044416) (hm0 : 0 < m) (hm : m <= 65536) (hsb : sb < M) (w0 : World) (hx : ∀ (j : Nat) (z : Int), xs[j]? = some z -> w0.cell? ⟨sb, so + j, none⟩ = some (.int .i64 z)) (R : Rg) (fr : Frame) (cs : List Frame) :
  ∀ (r j : Nat) (S : Rg) (w : World) (u : Nat -> Value), 1 <= j -> j + r = xs.length -> R = rgAll m (j - 1) (xs.drop j) S -> M11 M M cb 0 0 0 m none S T w -> (∀ b, b < M -> w.heap[b]? = w0.heap[b]?) ->
  Walk prog main (DR (fun _ => none)) (fun g w' => g = G (fr.finish (.pointer (some ⟨M, 0, none⟩))) cs /\ M11 M M cb 0 0 0 m none R T w' /\ ∀ b, b < M -> w'.heap[b]? = w0.heap[b]?) (G (hdNb M (.slice (some ⟨sb, so, none⟩) xs.length xc) j u) (fr :: cs)) w := by
 intro r
 induction r with
 | zero =>
  intro j S w u h1 hj hR I ho
  refine (nb_end M xs.length xc (some ⟨sb, so, none⟩) w u fr cs j (by omega)).mono ?_
  rintro _ _ ⟨rfl, d, rfl⟩
  rw [List.drop_eq_nil_of_le (by omega)] at hR
  have hR : R = S := hR
  subst hR
  exact ⟨rfl, I.same fun _ _ => rfl, ho⟩
 | succ r ih =>
  intro j S w u h1 hj hR I ho
  have hjl : j < xs.length := by omega
  have hxj : xs[j]? = some xs[j] := List.getElem?_eq_getElem hjl
  have hc := (cBk (a := ⟨sb, so + j, none⟩) (ho sb hsb)).trans (hx j _ hxj)
  refine (nb_round M xs.length xc j sb so xs[j] h1 hjl hL hm0 hm w I hc hsb u (fr :: cs)).then ?_
  rintro _ w' ⟨⟨u', rfl⟩, I', ho'⟩
  refine ih (j + 1) _ w' u' (by omega) (by omega) ?_ I' fun b hb => (ho' b hb).trans (ho b hb)
  rw [hR, List.drop_eq_getElem_cons hjl, show j + 1 - 1 = j - 1 + 1 by omega]
  rfl
theorem rnew_w (xa : Option Addr) (xs : List Int) (xc : Nat) (hxn : xs.length <= 17592186044416) (T : Nat -> R11) (w : World) (hx : LsR (.slice xa xs.length xc) xs w) : CallW prog main (fun _ => none) 58 #[.slice xa xs.length xc] w (NewR xs T w) := by
 intro c cs
 have hnone : ¬ Qx xs -> Walk prog main (DR (fun _ => none)) (fun g w' => g = G (c.finish (.pointer (some ⟨w.heap.size, 0, none⟩))) cs /\ ∃ d, w' = (w.alloc (Pe 0 (.slice none 0 0) (.slice none 0 0))).at d) (G (Frame.enter prog 58 #[.slice xa xs.length xc] .normal) (c :: cs)) w -> Walk prog main (DR (fun _ => none)) (fun g w' => ∃ v, NewR xs T w v w' /\ g = G (c.finish v) cs) (G (Frame.enter prog 58 #[.slice xa xs.length xc] .normal) (c :: cs)) w := fun hno h => by
  refine h.mono ?_
  rintro _ _ ⟨rfl, d, rfl⟩
  refine ⟨_, ⟨rfl, ⟨0, 0, 0, 0⟩, fun _ => ⟨rfl, rfl⟩, ?_, ⟨by show w.heap.size <= (w.alloc _).heap.size; simp, fun b hb _ => Ad _ _ hb⟩⟩, rfl⟩
  rw [szZ_no hno, r0Z_no hno]
  exact M11.none _ T (hAw _ _)
 cases xs with
 | nil =>
  exact hnone (fun ⟨_, _, e, _⟩ => by cases e) (nw_nil xa xc w c cs)
 | cons x l =>
  obtain ⟨a', c', e1, _, _, hcells⟩ := id hx
  injection e1 with e1 _ _
  obtain ⟨sb, so, e2, hc0⟩ := hcells 0 x rfl
  rw [<- e1] at e2
  subst e2
  have hc0 : w.cell? ⟨sb, so, none⟩ = some (.int .i64 x) := hc0
  by_cases hr : Qw x
  ·have hp : Kg x = true := by rw [Mr]; exact decide_eq_true hr
   have hir : Qx (x :: l) := (Oe x l).2 hr
   obtain ⟨m, rfl⟩ : ∃ m : Nat, x = m := ⟨x.toNat, by have := hr.1; omega⟩
   have hsz : Lv ((m : Int) :: l) = m := by
    show (max (m : Int) 0).toNat = m
    omega
   have hm0 : 0 < m := by have := hr.1; omega
   have hm : m <= 65536 := by have := hr.2.1; omega
   have hall : ∀ (j : Nat) (z : Int), ((m : Int) :: l)[j]? = some z -> w.cell? ⟨sb, so + j, .none⟩ = some (.int .i64 z) := fun j z hz => by
    obtain ⟨b, off, e3, h3⟩ := hcells j z hz
    rw [<- e1] at e3
    cases e3
    exact h3
   refine (nw_yes sb so _ xc m (by simp) hp w hc0 (c :: cs)).then ?_
   rintro _ w1 ⟨⟨u1, rfl⟩, I1⟩
   refine (na_loop w.heap.size m hm _ w (c :: cs) m 0 _ _ w1 u1 (Nat.zero_add _) I1).then ?_
   rintro _ w2 ⟨⟨u2, rfl⟩, sv, vv, I2⟩
   obtain ⟨cb, I3⟩ := nwa_M11 hm0 I2 T
   refine (nb_loop (T := T) w.heap.size xc sb so _ hxn hm0 hm (Al hc0) w hall (r0R ((m : Int) :: l)) c cs l.length 1 (Ho m) w2 u2 (Nat.le_refl _) (by simp; omega) (by unfold r0R; rw [hsz]; rfl) I3 I2.old).mono ?_
   rintro _ w3 ⟨rfl, I4, ho⟩
   refine ⟨_, ⟨rfl, cb, fun h => ?_, ?_, ⟨?_, fun b hb _ => ho b hb⟩⟩, rfl⟩
   ·rw [Mm hir, hsz] at h
    omega
   ·rw [Mm hir, hsz, r0Z_yes hir]
    exact I4
   ·have := I4.lt.1
    omega
  ·have hp : Kg x = false := by rw [Mr]; exact decide_eq_false hr
   exact hnone (fun h => hr ((Oe x l).1 h)) (nw_no sb so _ xc x (by simp) hp w hc0 c cs)
end
noncomputable def reg16_0 := rk f16.body 0
noncomputable def reg16_1 := rk f16.body 1
theorem z16 : reg16_0.size = 1 /\ reg16_1.size = 7 := by and_intros <;> kernel_rfl
theorem code16_is : f16.body = some (.seq (.region 0 reg16_0 false) (.seq (.region 1 reg16_1 false) (.ret))) := by kernel_rfl
section
variable {main : Bool}
theorem rplay_in (xa : Option Addr) (xs : List Int) (xc : Nat) (tv sv : Value) (most : Int) (Y : Nat -> World -> World -> Prop) (cs : List Frame) (c : Frame) (W : World) (Z : Array Value -> World -> Prop)
  (hnew : ∀ w1, w1 = W.alloc Fl -> CallW prog main (fun _ => none) 58 #[.slice xa xs.length xc] w1 (fun v w' => v = .pointer (some ⟨w1.heap.size, 0, none⟩) /\ Y w1.heap.size w1 w'))
  (hrun : ∀ w1 w2, w1 = W.alloc Fl -> Y w1.heap.size w1 w2 -> CallW prog main (fun _ => none) 59 #[.pointer (some ⟨w1.heap.size, 0, none⟩), tv, sv, .int .i64 most] w2 (fun v w' => ∃ x0 x1 x2 x3, v = .agg #[x0, x1, x2, x3] /\ w'.heap[W.heap.size]? = some Fl /\ (#[x0, x1, x2, x3] : Array Value).all (·.oneCell') = true /\ Z #[x0, x1, x2, x3] w')) :
  Walk prog main (DR (fun _ => none)) (fun g w' => ∃ cells w3 d, g = G (c.finish (.agg cells)) cs /\ Z cells w3 /\ w' = (w3.setRow W.heap.size cells).at d) (G (Frame.enter prog 16 #[.slice xa xs.length xc, tv, sv, .int .i64 most] .normal) (c :: cs)) W := by
 rw [enter_at _ func16 code16_is]
 simp only [ntmps16, ez, Nat.reduceAdd, Nat.reduceSub]
 refine Aa z16 ?_
 (refine Wa ?_; try walk_nrm)
 have e1 : W.alloc (.cells #[.slice none 0 0, .slice none 0 0, .slice none 0 0, .bool false] 33) = W.alloc Fl := rfl
 try rw [e1]
 clear e1
 have hnew := hnew _ rfl
 have hrun := fun w2 => hrun _ w2 rfl
 generalize W.alloc Fl = w1 at *
 generalize hR : W.heap.size = R at *
 refine Aa z16 ?_
 refine qW (Post := fun v w' => v = .pointer (some ⟨w1.heap.size, 0, none⟩) /\ Y w1.heap.size w1 w') func58 ?_ ?_
 ·walk_nrm
  exact hnew
 rintro v w2 ⟨rfl, hY⟩
 have hrun := hrun w2 hY
 walk_nrm
 repeat (first | (refine Wq ?_; try walk_nrm) | (refine Bh ?_; walk_nrm))
 refine qW (Post := fun v w' => ∃ x0 x1 x2 x3, v = .agg #[x0, x1, x2, x3] /\ w'.heap[R]? = some Fl /\ (#[x0, x1, x2, x3] : Array Value).all (·.oneCell') = true /\ Z #[x0, x1, x2, x3] w') func59 ?_ ?_
 ·walk_nrm
  exact hrun
 rintro v w3 ⟨x0, x1, x2, x3, rfl, hr, h1, hZ⟩
 have hT := Ba (cells := #[x0, x1, x2, x3]) hr
 walk_nrm
 repeat (first | (refine Wq ?_; try walk_nrm) | (refine Bh ?_; walk_nrm))
 refine Am 33 (.tmp 8) (.tmp 14) Ah (by rfl) (by decide) rfl R #[x0, x1, x2, x3] #[.slice none 0 0, .slice none 0 0, .slice none 0 0, .bool false] 33 rfl rfl hr (by kernel_rfl) rfl h1 (Ov _) ?_
 have he : w3.setRow R #[x0, x1, x2, x3] = w3.setRow R #[x0, x1, x2, x3] := rfl
 generalize hw4 : w3.setRow R #[x0, x1, x2, x3] = w4 at hT ⊢
 try walk_nrm
 refine Aa z16 ?_
 refine Bv (T := R) rfl rfl rfl func16 rfl (by rfl) hT (by kernel_rfl) (by kernel_rfl) (.stop fun d => ⟨#[x0, x1, x2, x3], w3, d, rfl, hZ, ?_⟩)
 rw [hw4]
end
theorem enter_same {m : Nat} (hm : 0 < m) (s : Rg) (th : Int) (o : OpV) : Bt m s th o = Hq m s th o := by
 have h0 : ¬ m = 0 := by omega
 unfold Hq Bt eR dR
 by_cases k1 : o.k = 1
 ·by_cases g : good o.a <;> simp [k1, g, h0]
 by_cases k2 : o.k = 2
 ·by_cases g : good o.a <;> simp [k2, g, h0]
 by_cases k3 : o.k = 3
 ·by_cases g : good o.a <;> simp [k3, g, h0]
 by_cases k4 : o.k = 4
 ·by_cases g : good o.a /\ o.a <= o.b
  ·have ha : ¬ o.a = -9223372036854775808 := fun e => by have := g.1.1; omega
   simp [k4, ha, g, h0]
  ·by_cases e : o.a = -9223372036854775808
   ·have g' : ¬ good (-9223372036854775808) := fun h => by have := h.1; omega
    simp [k4, e, g', h0]
   ·simp [k4, e, g, h0]
 by_cases k5 : o.k = 5
 ·by_cases g : good o.a
  ·by_cases hb : o.b < 1
   ·have hb' : min o.b m <= 0 := by omega
    simp [k5, g, hb, hb', h0]
   ·have hb' : ¬ min o.b m <= 0 := by omega
    simp only [k5, g, hb, hb', h0]
    simp
  ·simp [k5, g, h0]
 ·have hM : m = 0 ∨ o.k < 1 ∨ 5 < o.k := by omega
  rw [if_pos hM, if_neg k1, if_neg k2, if_neg k3, if_neg k4, if_neg k5]
theorem Jw : prog.underlying 36 = some (.pointer 38) := by kernel_rfl
theorem run_ifaceSteps (a : Option Addr) (w : World) : (Instr.makeInterface 36 (.pointer a)).run prog w = .ok (.iface 36 (.pointer a)) w := by simp [Instr.makeInterface, run_underlying Jw]
theorem ev_ifaceSteps (a : Option Addr) (w : World) (es : Array Event) : (Instr.makeInterface 36 (.pointer a)).events prog w es = es := by simp [Instr.makeInterface, run_underlying Jw]
noncomputable def rowStepsB : Bool := match prog.info? 36 with
 | some ti => (match ti.methods.find? (·.name == "Step") with
  | some m => m.path.isEmpty && (m.func == some (231, true))
  | none => false)
 | none => false
theorem rowSteps : ∃ ti m, prog.info? 36 = some ti /\ ti.methods.find? (·.name == "Step") = some m /\ m.path = #[] /\ m.func = some (231, true) := by
 have h : rowStepsB = true := by kernel_rfl
 unfold rowStepsB at h
 revert h
 cases h1 : prog.info? 36 with
 | none => simp
 | some ti =>
  simp only []
  cases h2 : ti.methods.find? (·.name == "Step") with
  | none => simp
  | some m =>
   simp only [Bool.and_eq_true, Array.isEmpty_iff, beq_iff_eq]
   exact fun h => ⟨ti, m, rfl, h2, h.1, h.2⟩
theorem method_steps (p : Nat) (w : World) (es : Array Event) : (method (prog.types.size + Made.depth) 36 (.pointer (some ⟨p, 0, none⟩)) "Step").run prog w = .ok (231, .pointer (some ⟨p, 0, none⟩)) w /\ (method (prog.types.size + Made.depth) 36 (.pointer (some ⟨p, 0, none⟩)) "Step").events prog w es = es := by
 obtain ⟨ti, m, h1, h2, h3, h4⟩ := rowSteps
 obtain ⟨k, hk⟩ : ∃ k, prog.types.size + Made.depth = k + 1 := ⟨prog.types.size + (Made.depth - 1), by (have : 1 <= Made.depth := by decide); omega⟩
 rw [hk]
 unfold method
 refine ⟨?_, ?_⟩
 ·simp [typeInfo, h1, h2, h3, h4, follow, receiverAt, run_underlying Jw, Place.get]
 ·simp [typeInfo, h1, h2, h3, h4, follow, receiverAt, run_underlying Jw, Place.get]
section
variable {main : Bool} {V : Nat -> Option Wait} {Stop : Goroutine -> World -> Prop} {w : World} {b : Frame} {a : Act} {k : List Item} {cs : List Frame} {ops : Array Oper} {i : Nat} {rest : List Nat} {o : Oper}
theorem Jy {x : Operand} {ats : Array TypeId} (p : Nat) (ho : ops[i]? = some o) (hw : Region.wanted o (yielded ops a.tmps) = true) (hk : b.kind ≠ .early) (hop : o.op = .call { callee := .invoke x "Step", args := #[], argTypes := ats }) (hx : a.eval x = .iface 36 (.pointer (some ⟨p, 0, none⟩))) :
  stepG prog main (G (b.at a (.inRegion ops (i :: rest) :: k)) cs) w = .go (G (Frame.enter prog 231 #[.pointer (some ⟨p, 0, none⟩)] .normal) (b.at a (.inRegion ops (i :: rest) :: k) :: cs)) w := by
 have h1 : ¬ f231.name = "runtime.NumGoroutine" := by decide
 have h2 : ¬ f231.body = none := by simp [f231]
 have hm := method_steps p w #[]
 rw [show prog.types.size = 325 from by kernel_rfl] at hm
 have hr : (execOp a.eval o).run prog w = .ok (.enter 231 #[.pointer (some ⟨p, 0, none⟩)]) w := by
  unfold execOp
  simp [hop, resolve, invoke, callMethod, callFunc, hm.1, func231, h1, h2, hx]
 have he : (execOp a.eval o).events prog w #[] = #[] := by
  unfold execOp
  simp [hop, resolve, invoke, callMethod, callFunc, hm.1, hm.2, func231, h1, h2, hx]
 rw [stepG_enter ho hw hk hr]
 have : listed prog b.fn a o w = #[] := by unfold listed; rw [he]; exact seen_none prog _
 rw [this]
theorem Walk.invokeSteps {x : Operand} {ats : Array TypeId} (p : Nat) (ho : ops[i]? = some o) (hw : Region.wanted o (yielded ops a.tmps) = true) (hk : b.kind ≠ .early) (hop : o.op = .call { callee := .invoke x "Step", args := #[], argTypes := ats }) (hx : a.eval x = .iface 36 (.pointer (some ⟨p, 0, none⟩)))
  (h : Walk prog main (DR V) Stop (G (Frame.enter prog 231 #[.pointer (some ⟨p, 0, none⟩)] .normal) (b.at a (.inRegion ops (i :: rest) :: k) :: cs)) w) : Walk prog main (DR V) Stop (G (b.at a (.inRegion ops (i :: rest) :: k)) cs) w :=
 Walk.ctl rfl (fun _ => Jy p ho hw hk hop hx) h
end
noncomputable def reg231_0 := rk f231.body 0
theorem z231 : reg231_0.size = 8 := by kernel_rfl
theorem code231_is : f231.body = some (.region 0 reg231_0 false) := by kernel_rfl
section
variable {main : Bool} {V : Nat -> Option Wait}
theorem steps_w (p : Nat) (n : Int) (w : World) (hc : w.heap[p]? = some (.cells #[.int .i64 n] 38)) (hz : w.frozen? ⟨p, 0, none⟩ = false) (hn0 : 0 <= n) (hn : n < 4611686018427387904) (hf : Az V p) :
  Aw prog main V 231 #[.pointer (some ⟨p, 0, none⟩)] w (.tuple #[]) (w.setCell ⟨p, 0, none⟩ (.int .i64 (n + 1))) := by
 have hw1 : IntKind.wrap .i64 (n + 1) = n + 1 := by rw [IntKind.wrap_i64]; omega
 have h1 : w.cell? ⟨p, 0, none⟩ = some (.int .i64 n) := (Ab hc 0).trans rfl
 have hf' : Dm V ⟨p, 0, none⟩ := hf.1 _ rfl
 refine Aq func231 code231_is fun fr cs => ?_
 simp only [ntmps231, ez, Nat.reduceAdd, Nat.reduceSub]
 refine Aa z231 ?_
 (refine Ws hf' h1 ?_; try walk_nrm)
 refine Aa z231 ?_
 exact Jd rfl rfl func231 rfl fun d => ⟨rfl, d, rfl⟩
end
def Ic (L : La) : Nat -> Nat -> L.Sg × (Ans ⊕ L.D) -> Option (Nat × L.Sg × Ans)
 | _, c, (s, .inl a) => some (c, s, a)
 | 0, _, (_, .inr _) => none
 | n + 1, c, (s, .inr d) => Ic L n (c + 1) (L.act s d)
theorem Nz (L : La) (n c : Nat) (s : L.Sg) (a : Ans) : Ic L n c (s, .inl a) = some (c, s, a) := by cases n <;> rfl
structure CntE (L : La) (y0 : L.Gh) (base : World) (p : Nat) (R : Nat × L.Sg × Ans) where
 w : World
 y : L.Gh
 s : L.Sg
 tgt : L.Sg × (Ans ⊕ L.D)
 fuel : Nat
 n : Nat
 le : L.le y0 y
 inv : L.I y s w
 size : base.heap.size <= w.heap.size
 old : ∀ b, b < base.heap.size -> ¬ L.sh y0 b -> b ≠ p -> w.heap[b]? = base.heap[b]?
 pub : ∀ b, L.sh y b -> b < base.heap.size -> L.sh y0 b
 cnt : w.heap[p]? = some (.cells #[.int .i64 n] 38)
 few : n + fuel < 4611686018427387904
 run : Ic L fuel n tgt = some R
section
variable {L : La} {main : Bool} {V : Nat -> Option Wait} {Stop : Goroutine -> World -> Prop} {cs : List Frame} {y0 : L.Gh} {base : World} {p : Nat} {R : Nat × L.Sg × Ans}
def cntB (main : Bool) (V : Nat -> Option Wait) (Stop : Goroutine -> World -> Prop) (cs : List Frame) (y0 : L.Gh) (base : World) (p : Nat) (R : Nat × L.Sg × Ans) : Lb L where
 main := main
 E := CntE L y0 base p R
 V := fun _ => V
 Stop := fun _ => Stop
 bot := fun _ => cs
 w := fun e => e.w
 s := fun e => e.s
 gh := fun e => e.y
 tgt := fun e => e.tgt
 fuel := fun e => e.fuel
 mine := fun e b => (base.heap.size <= b /\ b < e.w.heap.size) /\ ¬ L.sh e.y b
theorem cnt_step (hA : Az V p) (hp : ¬ L.sh y0 p) (hlo : p < base.heap.size) (e : CntE L y0 base p R) (d : L.D) (ht : e.tgt = (e.s, .inr d)) (fr : Frame) (l : List Frame) (hk : ∀ e' : CntE L y0 base p R, Aft (cntB main V Stop cs y0 base p R) e d e' -> LW (cntB main V Stop cs y0 base p R) e' (G (fr.finish (.tuple #[])) (l ++ cs))) :
  LW (cntB main V Stop cs y0 base p R) e (G (Frame.enter prog 112 #[.iface 36 (.pointer (some ⟨p, 0, none⟩))] .normal) (fr :: (l ++ cs))) := by
 obtain ⟨ms, hu⟩ := Hs
 have hn1 := fun w => Es (P := prog) (w := w) 130 36 (.pointer (some ⟨p, 0, none⟩)) hu
 have hn2 := fun w es => Ff (P := prog) (w := w) 130 36 (.pointer (some ⟨p, 0, none⟩)) es hu
 obtain ⟨n, hn, hr⟩ : ∃ n, e.fuel = n + 1 /\ Ic L n (e.n + 1) (L.act e.s d) = some R := by
  have h := e.run
  rw [ht] at h
  cases hf : e.fuel with
  | zero => rw [hf] at h; cases h
  | succ n => rw [hf] at h; exact ⟨n, rfl, h⟩
 have hz : e.w.frozen? ⟨p, 0, none⟩ = false := Av e.cnt 0
 have hoth : ∀ b, b ≠ p -> (e.w.setCell ⟨p, 0, none⟩ (.int .i64 ((e.n : Int) + 1))).heap[b]? = e.w.heap[b]? := fun b hb => by simp [World.setCell, Array.getElem?_modify, Ne.symm hb]
 have hsz : (e.w.setCell ⟨p, 0, none⟩ (.int .i64 ((e.n : Int) + 1))).heap.size = e.w.heap.size := by simp
 have hcn : (e.w.setCell ⟨p, 0, none⟩ (.int .i64 ((e.n : Int) + 1))).heap[p]? = some (.cells #[.int .i64 ((e.n + 1 : Nat) : Int)] 38) := by
  have h := e.cnt
  simp [World.setCell, Array.getElem?_modify, h]
 have hfew := e.few
 have hs0 := e.size
 have hps : ¬ L.sh e.y p := fun h => hp (e.pub p h hlo)
 have hh := hk { w := e.w.setCell ⟨p, 0, none⟩ (.int .i64 ((e.n : Int) + 1)), y := e.y, s := e.s, tgt := L.act e.s d, fuel := n, n := e.n + 1, le := e.le, inv := L.stable e.inv fun b hb => hoth b fun x => hps (x ▸ hb), size := by rw [hsz]; exact e.size, old := fun b h1 h2 h3 => (hoth b h3).trans (e.old b h1 h2 h3), pub := e.pub, cnt := hcn, few := by omega, run := hr } ⟨rfl, show n < e.fuel by omega, L.refl _, Nat.le_of_eq hsz.symm, fun b h => ⟨⟨⟨h.1.1, Nat.lt_of_lt_of_eq h.1.2 hsz.symm⟩, h.2⟩, hoth b (fun x => by have := h.1.1; omega)⟩⟩
 unfold LW at hh ⊢
 show Walk prog main (DR V) Stop _ e.w
 replace hh : Walk prog main (DR V) Stop (G (fr.finish (.tuple #[])) (l ++ cs)) (e.w.setCell ⟨p, 0, none⟩ (.int .i64 ((e.n : Int) + 1))) := hh
 rw [enter_at _ func112 code112_is]
 simp only [ntmps112, ez, Nat.reduceAdd, Nat.reduceSub]
 refine Aa z112 ?_
 refine Walk.invokeSteps p Ah (by rfl) (by decide) rfl rfl ?_
 refine (steps_w p e.n e.w e.cnt hz (by omega) (by omega) hA _ _).then ?_
 rintro g' w' ⟨v', ⟨rfl, dd, rfl⟩, rfl⟩
 refine Walk.back ?_ dd
 refine Walk.finish Ah ?_
 walk_nrm
 refine Aa z112 ?_
 exact Au rfl rfl func112 rfl hh
theorem cnt_mine {y' : L.Gh} {e : CntE L y0 base p R} {w' : World} {b : Nat} (hle : L.le e.y y') (hs : e.w.heap.size <= w'.heap.size) : ((base.heap.size <= b /\ b < w'.heap.size) /\ ¬ L.sh y' b) ↔ ((((base.heap.size <= b /\ b < e.w.heap.size) /\ ¬ L.sh e.y b) ∨ (e.w.heap.size <= b /\ b < w'.heap.size)) /\ ¬ L.sh y' b) := by
 have := e.size
 constructor
 ·rintro ⟨⟨a, b'⟩, hn⟩
  refine ⟨?_, hn⟩
  by_cases hb : b < e.w.heap.size
  ·exact .inl ⟨⟨a, hb⟩, fun h => hn (L.mono hle h)⟩
  ·exact .inr ⟨by omega, b'⟩
 ·rintro ⟨⟨⟨a, b'⟩, _⟩ | ⟨a, b'⟩, hn⟩
  ·exact ⟨⟨a, by omega⟩, hn⟩
  ·exact ⟨⟨by omega, b'⟩, hn⟩
def cntL (hA : ∀ b, Az V b) (hp : ¬ L.sh y0 p) (hlo : p < base.heap.size) (main : Bool) (Stop : Goroutine -> World -> Prop) (cs : List Frame) (R : Nat × L.Sg × Ans) : Lg L (.iface 36 (.pointer (some ⟨p, 0, none⟩))) where
 toLb := cntB main V Stop cs y0 base p R
 one := rfl
 inv := fun e => e.inv
 shA := fun _ b _ => hA b
 mineA := fun e b h => ⟨hA b, h.2, h.1.2⟩
 newA := fun _ b _ => hA b
 mg := fun e y' s' w' h0 h1 h2 h3 h4 => ⟨{ w := w', y := y', s := s', tgt := e.tgt, fuel := e.fuel, n := e.n, le := L.trans e.le h0, inv := h3, size := Nat.le_trans e.size h1, old := fun b hb hs hb' => (h2 b (Nat.lt_of_lt_of_le hb e.size) (fun hm => by have := hm.1.1; omega) (fun hm => hs (e.pub b hm hb))).trans (e.old b hb hs hb'), pub := fun b hb hlt => (h4 b hb).elim (fun h => e.pub b h hlt) fun h => h.elim (fun h => absurd h.1.1 (Nat.not_le_of_lt hlt)) fun h => absurd (Nat.le_trans e.size h) (Nat.not_le_of_lt hlt), cnt := (h2 p (Nat.lt_of_lt_of_le hlo e.size) (fun hm => by have := hm.1.1; omega) (fun hm => hp (e.pub p hm hlo))).trans e.cnt, few := e.few, run := e.run }, rfl, rfl, rfl, rfl, rfl, rfl, rfl, rfl, fun b => cnt_mine h0 h1⟩
 step := fun e d ht fr l _ _ hk => cnt_step (hA p) hp hlo e d ht fr l hk
structure Counted (L : La) (y0 : L.Gh) (w : World) (p : Nat) (R : Nat × L.Sg × Ans) (w' : World) (y : L.Gh) : Prop where
 le : L.le y0 y
 I : L.I y R.2.1 w'
 size : w.heap.size <= w'.heap.size
 old : ∀ b, b < w.heap.size -> ¬ L.sh y0 b -> b ≠ p -> w'.heap[b]? = w.heap[b]?
 pub : ∀ b, L.sh y b -> b < w.heap.size -> L.sh y0 b
 cnt : w'.heap[p]? = some (.cells #[.int .i64 R.1] 38)
theorem CallP.cnt {f : FuncId} {args : Array Value} {w : World} {Rel : Value -> Ans -> World -> (Nat -> Prop) -> Prop} (N n : Nat) (y0 : L.Gh) (s : L.Sg) (r0 : Ans ⊕ L.D) (hat : ∀ v x w' P d, Rel v x w' P -> Rel v x (w'.at d) P) (hA : ∀ b, Az V b) (hI : L.I y0 s w) (hp0 : ¬ L.sh y0 p) (hcnt : w.heap[p]? = some (.cells #[.int .i64 n] 38)) (hfew : n + N < 4611686018427387904) (hrun : Ic L N n (s, r0) = some R)
  (hc : ∀ (K : Lg L (.iface 36 (.pointer (some ⟨p, 0, none⟩)))) (e : K.E), K.w e = w -> K.tgt e = (K.s e, r0) -> SCall K.toLb f args e (fun v e' => ∃ x, Rel v x (K.w e') (K.mine e') /\ K.tgt e' = (K.s e', .inl x))) :
  CallP main V f args w (fun v w' => ∃ y, Rel v R.2.2 w' (fun b => (w.heap.size <= b /\ b < w'.heap.size) /\ ¬ L.sh y b) /\ Counted L y0 w p R w' y) := by
 intro c cs hp
 have key := hc (cntL (V := V) (y0 := y0) (base := w) hA hp0 (aEs hcnt).1 main (fun g w' => ∃ v, (∃ y, Rel v R.2.2 w' (fun b => (w.heap.size <= b /\ b < w'.heap.size) /\ ¬ L.sh y b) /\ Counted L y0 w p R w' y) /\ g = G (c.finish v) cs) cs R) { w := w, y := y0, s := s, tgt := (s, r0), fuel := N, n := n, le := L.refl _, inv := hI, size := Nat.le_refl _, old := fun _ _ _ _ => rfl, pub := fun _ h _ => h, cnt := hcnt, few := hfew, run := hrun } rfl rfl c [] hp (fun _ h => by cases h) ?_
 ·exact key
 ·rintro v e' ⟨x, hr, ht⟩
  have hrn := e'.run
  have hcn := e'.cnt
  have ht : e'.tgt = (e'.s, .inl x) := ht
  rw [ht, Nz] at hrn
  have hR := Option.some.inj hrn
  have r0 : R.1 = e'.n := (congrArg Prod.fst hR).symm
  have r1 : R.2.1 = e'.s := (congrArg (fun x => x.2.1) hR).symm
  have r2 : R.2.2 = x := (congrArg (fun x => x.2.2) hR).symm
  refine .stop fun d => ⟨v, ⟨e'.y, ?_, ⟨e'.le, ?_, e'.size, fun b h1 h2 h3 => e'.old b h1 h2 h3, e'.pub, ?_⟩⟩, rfl⟩
  ·rw [r2]
   exact hat _ _ _ _ d hr
  ·rw [r1]; exact L.stable e'.inv fun _ _ => rfl
  ·rw [r0]; exact hcn
end
inductive Whole (L : La) (N : Nat) : Nat -> L.Sg -> List OpV -> List Ans -> Nat -> L.Sg -> List Ans -> Prop
 | nil (c : Nat) (s : L.Sg) (az : List Ans) : Whole L N c s [] az c s az
 | cons {c c1 c2 : Nat} {s s1 s2 : L.Sg} {o : OpV} {l : List OpV} {az az2 : List Ans} {a : Ans} (h : Ic L N c (L.enter s 0 o) = some (c1, s1, a)) (k : Whole L N c1 s1 l (az ++ [a]) c2 s2 az2) : Whole L N c s (o :: l) az c2 s2 az2
section
variable {L : La}
structure At1 (x : OX L) (r : L.Sg × Tst L) : Prop where
 s : x.s = r.1
 th : x.th 0 = r.2
 out : x.out 0 = (match r.2.d with | none => some false | some _ => none)
theorem At1.put (x : OX L) (r : L.Sg × Tst L) (c : Nat) : At1 (Ge x 0 r c) r := ⟨rfl, (upd_same x.th 0 r.2 : _), (upd_same x.out 0 _ : _)⟩
theorem At1.next {x : OX L} {s : L.Sg} {left : List OpV} {d : L.D} {az : List Ans} (h : At1 x (s, ⟨left, some d, az⟩)) : At1 (Cz x 0) (Ei L 0 (L.act s d) left az) := by
 have hd : (x.th 0).d = some d := by rw [h.th]
 have e : Cz x 0 = Ge x 0 (Ei L ((0 : Nat) : Int) (L.act x.s d) (x.th 0).left (x.th 0).ans) (x.cnt + 1) := by
  unfold Cz
  rw [hd]
 rw [e, h.th, h.s]
 exact At1.put _ _ _
inductive Go1 : Nat -> OX L -> OX L -> Prop
 | refl (x : OX L) : Go1 0 x x
 | step {m : Nat} {x y : OX L} (h : x.out 0 = none) (k : Go1 m (Cz x 0) y) : Go1 (m + 1) x y
theorem Go1.trans {m n : Nat} {x y z : OX L} (h : Go1 m x y) (k : Go1 n y z) : Go1 (m + n) x z := by
 induction h with
 | refl => rw [Nat.zero_add]; exact k
 | step h _ ih =>
  rw [Nat.add_right_comm]
  exact .step h (ih k)
theorem go_call {N : Nat} : ∀ {c c1 : Nat} {s s1 : L.Sg} {r : Ans ⊕ L.D} {a : Ans}, Ic L N c (s, r) = some (c1, s1, a) -> ∀ (left : List OpV) (az : List Ans) (x : OX L), At1 x (Ei L 0 (s, r) left az) -> c <= c1 /\ ∃ y, Go1 (c1 - c) x y /\ At1 y (Bq L 0 s1 left (az ++ [a])) := by
 induction N with
 | zero =>
  intro c c1 s s1 r a h left az x hx
  cases r with
  | inl a' =>
   rw [Nz] at h
   simp only [Option.some.injEq, Prod.mk.injEq] at h
   obtain ⟨rfl, rfl, rfl⟩ := h
   exact ⟨Nat.le_refl _, x, by rw [Nat.sub_self]; exact .refl x, hx⟩
  | inr d => exact absurd h (by simp [Ic])
 | succ N ih =>
  intro c c1 s s1 r a h left az x hx
  cases r with
  | inl a' =>
   rw [Nz] at h
   simp only [Option.some.injEq, Prod.mk.injEq] at h
   obtain ⟨rfl, rfl, rfl⟩ := h
   exact ⟨Nat.le_refl _, x, by rw [Nat.sub_self]; exact .refl x, hx⟩
  | inr d =>
   have h' : Ic L N (c + 1) ((L.act s d).1, (L.act s d).2) = some (c1, s1, a) := h
   have hx' : At1 x (s, ⟨left, some d, az⟩) := hx
   obtain ⟨h1, y, h2, h3⟩ := ih h' left az (Cz x 0) hx'.next
   refine ⟨by omega, y, ?_, h3⟩
   have e : c1 - c = (c1 - (c + 1)) + 1 := by omega
   rw [e]
   exact .step hx'.out h2
theorem go_whole {N c c2 : Nat} {s s2 : L.Sg} {l : List OpV} {az az2 : List Ans} (h : Whole L N c s l az c2 s2 az2) : ∀ x : OX L, At1 x (Bq L 0 s l az) -> c <= c2 /\ ∃ y, Go1 (c2 - c) x y /\ At1 y (s2, ⟨[], none, az2⟩) := by
 induction h with
 | nil c s az => exact fun x hx => ⟨Nat.le_refl _, x, by rw [Nat.sub_self]; exact .refl x, hx⟩
 | @cons c c1 c2 s s1 s2 o l az az2 a h _ ih =>
  intro x hx
  rw [Gx] at hx
  have h' : Ic L N c ((L.enter s 0 o).1, (L.enter s 0 o).2) = some (c1, s1, a) := h
  obtain ⟨h1, y, h2, h3⟩ := go_call h' l az x hx
  obtain ⟨k1, z, k2, k3⟩ := ih y h3
  refine ⟨by omega, z, ?_, k3⟩
  have e : c2 - c = (c1 - c) + (c2 - c1) := by omega
  rw [e]
  exact h2.trans k2
theorem rest_alone (most : Int) (ops : Nat -> List OpV) {m : Nat} {x y : OX L} (h : Go1 m x y) (hy : y.out 0 ≠ none) : ∀ (f : Nat) (ord : List Nat), (Bz (Cc L 1 most ops) f (x, ord)).1.out 0 ≠ none -> Bz (Cc L 1 most ops) f (x, ord) = (y, ord ++ List.replicate m 0) := by
 induction h with
 | refl x =>
  intro f ord _
  have hov : Bj (Cc L 1 most ops) (x, ord) = true := by
   unfold Bj Do
   have hn : (x.out 0).isNone = false := by
    cases h : x.out 0 with
    | none => exact absurd h hy
    | some _ => rfl
   have : (List.range 1).countP (fun i => (x.out i).isNone) = 0 := by
    show List.countP (fun i => (x.out i).isNone) [0] = 0
    simp [hn]
   show (decide ((List.range 1).countP (fun i => (x.out i).isNone) = 0) || _) = true
   rw [this]
   rfl
  cases f with
  | zero => simp [Bz]
  | succ f =>
   unfold Bz
   rw [hov]
   simp
 | @step m x y hx _ ih =>
  intro f ord hF
  cases f with
  | zero => exact absurd hx hF
  | succ f =>
   unfold Bz at hF ⊢
   cases hov : Bj (Cc L 1 most ops) (x, ord) with
   | true =>
    rw [hov] at hF
    exact absurd hx hF
   | false =>
    rw [hov] at hF
    have hr : El (Cc L 1 most ops) (x, ord) = (Cz x 0, ord ++ [0]) := by
     show Bb (Cc L 1 most ops) (x, ord) (0 : Nat) = _
     unfold Bb
     rw [if_pos ⟨hov, by decide, by show ((0 : Nat) : Int) < ((1 : Nat) : Int); decide, hx⟩]
     rfl
    simp only [Bool.false_eq_true, if_false] at hF ⊢
    rw [hr] at hF ⊢
    rw [ih hy f (ord ++ [0]) hF]
    simp [List.replicate_succ]
theorem play_alone {N c2 : Nat} {s0 s2 : L.Sg} {ops : Nat -> List OpV} {az2 : List Ans} (most : Int) (h : Whole L N 0 s0 (ops 0) [] c2 s2 az2) (hs : Du 1 (Ca L s0 ops 1 most []).1 = false) :
  (Ca L s0 ops 1 most []).1.s = s2 /\ ((Ca L s0 ops 1 most []).1.th 0).ans = az2 /\ (Ca L s0 ops 1 most []).2.length = c2 := by
 have hb : At1 (Kr ops (Qv L s0) 0) (Bq L 0 s0 (ops 0) []) := At1.put _ _ _
 obtain ⟨_, y, h1, h2⟩ := go_whole h _ hb
 have hy : y.out 0 ≠ none := by rw [h2.out]; exact fun e => by cases e
 have e : Ca L s0 ops 1 most [] = Bz (Cc L 1 (min (max most 0) 1048576) ops) (min (max most 0) 1048576).toNat (Kr ops (Qv L s0) 0, []) := rfl
 have ho : (Ca L s0 ops 1 most []).1.out 0 ≠ none := fun hn => by
  have : Du 1 (Ca L s0 ops 1 most []).1 = true := by
   show decide (0 < List.countP (fun i => ((Ca L s0 ops 1 most []).1.out i).isNone) [0]) = true
   simp [hn]
  rw [this] at hs
  cases hs
 rw [e] at ho
 have hF := rest_alone _ ops h1 hy _ [] ho
 rw [e, hF]
 exact ⟨h2.s, by rw [h2.th], by simp⟩
end
end Go.Proofs.Ytflcclneedldoaa
