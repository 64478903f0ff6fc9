/- Part 30. -/
import Derived.Test.YtcdcnmphjhfbpaaJ3
import Derived.Test.YtcdcnmphjhfbpaaJ13
import Derived.Test.YtcdcnmphjhfbpaaJ29
set_option linter.unusedSimpArgs false
set_option linter.unusedVariables false
set_option maxHeartbeats 8000000
set_option maxRecDepth 100000
namespace Go.Proofs.Ytcdcnmphjhfbpaa
open Go.Conc Go.RowKit Go.Relay
open Go.ConcN (upd upd_ne upd_same)
section
theorem Qdt (m : Nat) (s : Rg) (q v : Int) : Eu (Cg s (Bq m q) (Ce m q)) (Bq m q) v = Hn m s q v := by
 unfold Hn Eu Cg
 congr 1
 funext k
 simp only [upd]
 by_cases e : k = Bq m q
 ·rw [if_pos e, if_pos e]
 ·rw [if_neg e, if_neg e, if_neg e]
section
variable {main : Bool}
theorem Qci {M m : Nat} {sv vv : Value} {w0 w : World} (hm : 0 < m) (I : NwA M m (m : Nat) sv vv w0 w) (T : Nat -> R11) : ∃ cb, M11 M M cb 0 0 0 m none (Oj m) T w := by
 obtain ⟨g, gc, cur, rfl, h1, h2, h3, h4, h5, h6⟩ : ∃ g cap cur, sv = .slice (some ⟨g, 0, none⟩) m cap /\ M + 1 <= g /\ w.heap[g]? = some (.cells cur 2 (0, 0)) /\ m <= cap /\ cap <= maxLen /\ cur.size = cap * 1 /\ cur.toList.take (m * 1) = Bb (List.replicate m (-2)) := by
  rcases I.rs.2 with ⟨_, hn⟩ | h
  ·omega
  ·exact h
 obtain ⟨h, hc, cur2, rfl, k1, k2, k3, k4, k5, k6⟩ : ∃ g cap cur, vv = .slice (some ⟨g, 0, none⟩) m cap /\ M + 1 <= g /\ w.heap[g]? = some (.cells cur 2 (0, 0)) /\ m <= cap /\ cap <= maxLen /\ cur.size = cap * 1 /\ cur.toList.take (m * 1) = Bb (List.replicate m 0) := by
  rcases I.rv.2 with ⟨_, hn⟩ | h
  ·omega
  ·exact h
 have hne : g ≠ h := fun e => I.ne g rfl (by rw [e]; rfl)
 have get : ∀ (cur : Array Value) (x : Int), cur.toList.take (m * 1) = Bb (List.replicate m x) -> ∀ i, i < m -> cur[i]? = some (.int .i64 x) := fun cur x he i hi => by
  have e : (Bb (List.replicate m x))[i]? = some (.int .i64 x) := by simp [Bb, hi]
  rw [<- he, List.getElem?_take, if_pos (by omega)] at e
  simpa using e
 refine ⟨⟨g, gc, h, hc⟩, ⟨?_, fun _ => ⟨⟨cur, h2, fun i hi => ?_⟩, cur2, k2, fun i hi => ?_⟩, fun h => absurd h (by decide), fun i hi => absurd hi (Nat.not_lt_zero i), fun i hi => absurd hi (Nat.not_lt_zero i), Nat.le_refl _, fun _ => ⟨by show M <= g; omega, by show M <= h; omega⟩, fun _ => ⟨by show M ≠ g; omega, by show M ≠ h; omega, hne⟩, fun h => absurd h (by decide)⟩⟩
 ·rw [CB.sa, CB.va, if_pos hm, if_pos hm]
  exact I.hd
 ·show _ = some (Value.int .i64 (if i < m then -2 else 0))
  rw [if_pos hi]
  exact get cur _ h6 i hi
 ·exact get cur2 _ k6 i hi
theorem Qdq (M L xc : Nat) (xa : Option Addr) (w : World) (u : Nat -> Value) (fr : Frame) (cs : List Frame) (j : Nat) (hj : L <= j) :
  Walk Try.prog main (DR (fun _ => none)) (fun g w' => g = G (fr.finish (.pointer (some ⟨M, 0, none⟩))) cs /\ ∃ d, w' = w.at d) (G (Qm M (.slice xa L xc) j u) (fr :: cs)) w := by
 have hj1 : decide ((j : Int) < L) = false := by simp; omega
 have hj3 : decide (j < L) = false := by simp; omega
 conv => arg 5; unfold Qm
 refine Aa z69 ?_
 exact Be rfl rfl Try.func69 rfl (.stop fun d => ⟨rfl, d, rfl⟩)
theorem Qbb {cb : CB} {m : Nat} {S : Rg} {T : Nat -> R11} (M L xc j sb so : Nat) (x : Int) (hj0 : 1 <= j) (hj : j < L) (hL : L <= 17592186044416) (hm0 : 0 < m) (hm : m <= 65536) (w : World) (I : M11 M M cb 0 0 0 m none S T w) (hx : w.cell? ⟨sb, so + j, none⟩ = some (.int .i64 x)) (hsb : sb < M) (u : Nat -> Value) (cs : List Frame) :
  Walk Try.prog main (DR (fun _ => none)) (fun g w' => (∃ u, g = G (Qm M (.slice (some ⟨sb, so, none⟩) L xc) (j + 1) u) cs) /\ M11 M M cb 0 0 0 m none (Hn m S ((j - 1 : Nat) : Int) x) T w' /\ ∀ b, b < M -> w'.heap[b]? = w.heap[b]?) (G (Qm M (.slice (some ⟨sb, so, none⟩) L xc) j u) cs) w := by
 have hi0 : (0 : Int) <= j := by omega
 have hj1 : decide ((j : Int) < L) = true := by simp; omega
 have hj3 : decide (j < L) = true := by simp; omega
 have hj4 : (j : Int) < L := by omega
 have hw1 : IntKind.wrap .i64 ((j : Int) + 1) = (j : Int) + 1 := by rw [IntKind.wrap_i64]; omega
 have hcc : ((j + 1 : Nat) : Int) = (j : Int) + 1 := by simp
 obtain ⟨q, hq⟩ : ∃ q : Int, ((j - 1 : Nat) : Int) = q := ⟨_, rfl⟩
 have hw2 : IntKind.wrap .i64 ((j : Int) - 1) = q := by rw [IntKind.wrap_i64]; omega
 have hg : good q := ⟨by omega, by omega⟩
 rw [hq]
 have hsl := Dx (main := main) (V := fun _ => none) q hg hm0 hm w I
 have hla := Fp (main := main) (V := fun _ => none) q hg hm0 hm w I
 have hLw : IntKind.wrap .i64 (2 * q.tdiv m) = Ce m q := by
  have h1 := Es hg m
  have h2 := Dw hg m
  rw [h1, IntKind.wrap_i64]; omega
 have hxm := Eh hg hm0
 have hlo := I.cLo (b := cb.sg) ⟨hm0, .inl rfl⟩
 have hlo2 := I.cLo (b := cb.vg) ⟨hm0, .inr rfl⟩
 have c1 := I.cS hm0
 have c3 := I.scell hxm
 have z3 := I.sfrz hm0 (Bq m q)
 have I1 := I.putS hxm (Ce m q)
 have hsl1 := fun w1 (I1 : M11 M M cb 0 0 0 m none (Cg S (Bq m q) (Ce m q)) T w1) => Dx (main := main) (V := fun _ => none) q hg hm0 hm w1 I1
 rw [<- Qdt]
 generalize hX : Bq m q = ix at *
 generalize q.tdiv m = lp at *
 generalize Ce m q = la at *
 have hx0 : (0 : Int) <= ix := by omega
 have hx1 : decide ((ix : Int) < m) = true := by simp; omega
 have hx3 : decide (ix < m) = true := by simp; omega
 have hx4 : (ix : Int) < m := by omega
 clear hq hg
 conv => arg 5; unfold Qm
 refine Aa z69 ?_
 (refine Ay (by kernel_rfl) Yp (by kernel_rfl) (by kernel_rfl) (by kernel_rfl) (by decide) ?_; simp only [List.range, List.range.loop]; repeat (first | (refine Cm.oq ?_) | (refine Al Aj (by rfl) ?_; walk_nrm)))
 refine Cm.callV (x := .int .i64 (ix : Nat)) ?_ Aj (by rfl) rfl Try.func115 (by kernel_rfl) (by rfl) ?_
 ·intro w' e
  subst e
  walk_nrm
  exact hsl
 walk_nrm
 repeat (first | (refine Cm.oq ?_) | (refine Al Aj (by rfl) ?_; walk_nrm))
 refine Cm.callV (x := .int .i64 lp) ?_ Aj (by rfl) rfl Try.func114 (by kernel_rfl) (by rfl) ?_
 ·intro w' e
  subst e
  walk_nrm
  exact hla
 walk_nrm
 repeat (first | (refine Cm.oq ?_) | (refine Al Aj (by rfl) ?_; walk_nrm))
 refine Cm.done ?_
 intro rest hr
 (have hfr := Dq cb.sg ix; refine Walk.os hfr c3 ?_; clear hfr; try walk_nrm)
 refine hr _ _ ?_
 have o1 : ∀ b, b < M -> (w.setCell ⟨cb.sg, ix, none⟩ (.int .i64 la)).heap[b]? = w.heap[b]? := fun b hb => Ab _ _ _ _ (by show b ≠ cb.sg; omega)
 generalize w.setCell ⟨cb.sg, ix, none⟩ (.int .i64 la) = w1 at *
 have hsl2 := hsl1 w1 I1
 have hx' : w1.cell? ⟨sb, so + j, none⟩ = some (.int .i64 x) := (World.cell?_of_block (a := ⟨sb, so + j, none⟩) (o1 sb hsb)).trans hx
 clear c1 c3 z3 hsl hla hsl1 hx
 have c2 := I1.cV hm0
 have c3 := I1.vcell hxm
 have z3 := I1.vfrz hm0 ix
 have I2 := I1.putV hxm x
 try walk_nrm
 refine Aa z69 ?_
 (refine Ay (by kernel_rfl) Yo (by kernel_rfl) (by kernel_rfl) (by kernel_rfl) (by decide) ?_; simp only [List.range, List.range.loop]; repeat (first | (refine Cm.oq ?_) | (refine Al Aj (by rfl) ?_; walk_nrm)))
 refine Cm.callV (x := .int .i64 (ix : Nat)) ?_ Aj (by rfl) rfl Try.func115 (by kernel_rfl) (by rfl) ?_
 ·intro w' e
  subst e
  walk_nrm
  exact hsl2
 walk_nrm
 repeat (first | (refine Cm.oq ?_) | (refine Al Aj (by rfl) ?_; walk_nrm))
 refine Cm.done ?_
 intro rest2 hr2
 (have hfr := Dq cb.vg ix; refine Walk.os hfr c3 ?_; clear hfr; try walk_nrm)
 refine hr2 _ _ ?_
 have o2 : ∀ b, b < M -> (w1.setCell ⟨cb.vg, ix, none⟩ (.int .i64 x)).heap[b]? = w1.heap[b]? := fun b hb => Ab _ _ _ _ (by show b ≠ cb.vg; omega)
 generalize w1.setCell ⟨cb.vg, ix, none⟩ (.int .i64 x) = w2 at *
 clear c2 c3 z3 hsl2 hx'
 try walk_nrm
 refine Aa z69 ?_
 refine Walk.ctl rfl (fun w => stepG_inLoop) ?_
 refine .stop fun d => ⟨Ak ?_, I2.same fun _ _ => rfl, fun b hb => (o2 b hb).trans (o1 b hb)⟩
 simp only [Qm, hcc]
 rfl
end
end
section
noncomputable def szZ (xs : List Int) : Nat := by classical exact if Nu xs then Ki xs else 0
noncomputable def r0Z (xs : List Int) : Rg := by classical exact if Nu xs then r0R xs else Oj 0
theorem Iv {xs : List Int} (h : Nu xs) : szZ xs = Ki xs := if_pos h
theorem Nl {xs : List Int} (h : ¬ Nu xs) : szZ xs = 0 := if_neg h
theorem Ya {xs : List Int} (h : Nu xs) : r0Z xs = r0R xs := if_pos h
theorem Qat {xs : List Int} (h : ¬ Nu xs) : r0Z xs = Oj 0 := if_neg h
theorem Zh (x : Int) (l : List Int) : Nu (x :: l) ↔ okS x := by
 constructor
 ·rintro ⟨y, l', e, h1, h2⟩
  injection e with e _
  subst e
  have : max x 0 = x := by have := h2.1; omega
  rwa [this] at h2
 ·intro h
  have : max x 0 = x := by have := h.1; omega
  exact ⟨x, l, rfl, h.2.1, by rwa [this]⟩
def NewR (xs : List Int) (T : Nat -> R11) (w : World) (v : Value) (w' : World) : Prop := v = .pointer (some ⟨w.heap.size, 0, none⟩) /\ ∃ cb, (szZ xs = 0 -> cb.sc = 0 /\ cb.vc = 0) /\ M11 w.heap.size w.heap.size cb 0 0 0 (szZ xs) none (r0Z xs) T w' /\ Chg (fun _ => False) w w'
section
variable {main : Bool}
theorem M11.none {M : Nat} {w : World} (S : Rg) (T : Nat -> R11) (h : w.heap[M]? = some (Na 0 (.slice none 0 0) (.slice none 0 0))) : M11 M M ⟨0, 0, 0, 0⟩ 0 0 0 0 none S T w := by
 refine ⟨?_, fun h => absurd h (by decide), fun h => absurd h (by decide), fun i hi => absurd hi (Nat.not_lt_zero i), fun i hi => absurd hi (Nat.not_lt_zero i), Nat.le_refl _, fun h => absurd h (by decide), fun h => absurd h (by decide), fun h => absurd h (by decide)⟩
 rw [CB.sa, CB.va, if_neg (by decide)]
 exact h
theorem Qdi (xa : Option Addr) (xc : Nat) (w : World) (fr : Frame) (cs : List Frame) :
  Walk Try.prog main (DR (fun _ => none)) (fun g w' => g = G (fr.finish (.pointer (some ⟨w.heap.size, 0, none⟩))) cs /\ ∃ d, w' = (w.alloc (Na 0 (.slice none 0 0) (.slice none 0 0))).at d) (G (Frame.enter Try.prog 69 #[.slice xa 0 xc] .normal) (fr :: cs)) w := by
 rw [enter_at _ Try.func69 Qg]
 simp only [Try.ntmps69, ez, Nat.reduceAdd, Nat.reduceSub]
 refine Aa z69 ?_
 (refine Walk.oa ?_; try walk_nrm)
 have e1 : w.alloc (.cells #[.int .i64 0, .slice none 0 0, .slice none 0 0, .slice none 0 0, .int .i64 0] 190) = w.alloc (Na 0 (.slice none 0 0) (.slice none 0 0)) := rfl
 try rw [e1]
 clear e1
 generalize w.alloc (Na 0 (.slice none 0 0) (.slice none 0 0)) = w1
 generalize w.heap.size = M
 refine Aa z69 ?_
 exact Be rfl rfl Try.func69 rfl (.stop fun d => ⟨rfl, d, rfl⟩)
theorem nw_no (sb so n xc : Nat) (x : Int) (hn : 0 < n) (hx0 : Ky x = false) (w : World) (hc : w.cell? ⟨sb, so, none⟩ = some (.int .i64 x)) (fr : Frame) (cs : List Frame) :
  Walk Try.prog main (DR (fun _ => none)) (fun g w' => g = G (fr.finish (.pointer (some ⟨w.heap.size, 0, none⟩))) cs /\ ∃ d, w' = (w.alloc (Na 0 (.slice none 0 0) (.slice none 0 0))).at d) (G (Frame.enter Try.prog 69 #[.slice (some ⟨sb, so, none⟩) n xc] .normal) (fr :: cs)) w := by
 have h1 : ((n : Int) == 0) = false := by simp; omega
 have h2 : (n == 0) = false := by simp; omega
 have h3 : (0 : Int) < n := by omega
 have h4 : decide ((0 : Int) < n) = true := by simp; omega
 have hr := fun w => Zy (main := main) (V := fun _ => none) x w
 rw [hx0] at hr
 have hc1 := Ai _ (Na 0 (.slice none 0 0) (.slice none 0 0)) hc
 rw [enter_at _ Try.func69 Qg]
 simp only [Try.ntmps69, ez, Nat.reduceAdd, Nat.reduceSub]
 refine Aa z69 ?_
 (refine Walk.oa ?_; try walk_nrm)
 have e1 : w.alloc (.cells #[.int .i64 0, .slice none 0 0, .slice none 0 0, .slice none 0 0, .int .i64 0] 190) = w.alloc (Na 0 (.slice none 0 0) (.slice none 0 0)) := rfl
 try rw [e1]
 clear e1 hc
 generalize w.alloc (Na 0 (.slice none 0 0) (.slice none 0 0)) = w1 at *
 generalize w.heap.size = M
 refine Aa z69 ?_
 refine Walk.callV (x := .bool false) (W := w1) ?_ Aj (by rfl) (by decide) rfl Try.func18 (by kernel_rfl) (by rfl) ?_
 ·walk_nrm
  exact hr w1
 clear hr
 walk_nrm
 refine Aa z69 ?_
 exact Be rfl rfl Try.func69 rfl (.stop fun d => ⟨rfl, d, rfl⟩)
theorem Qdh (sb so n xc : Nat) (x : Int) (hn : 0 < n) (hx0 : Ky x = true) (w : World) (hc : w.cell? ⟨sb, so, none⟩ = some (.int .i64 x)) (cs : List Frame) :
  Walk Try.prog main (DR (fun _ => none)) (fun g w' => (∃ u, g = G (Qx w.heap.size (.slice (some ⟨sb, so, none⟩) n xc) 0 u) cs) /\ NwA w.heap.size 0 x (.slice none 0 0) (.slice none 0 0) w w') (G (Frame.enter Try.prog 69 #[.slice (some ⟨sb, so, none⟩) n xc] .normal) cs) w := by
 have h1 : ((n : Int) == 0) = false := by simp; omega
 have h2 : (n == 0) = false := by simp; omega
 have h3 : (0 : Int) < n := by omega
 have h4 : decide ((0 : Int) < n) = true := by simp; omega
 have hr := fun w => Zy (main := main) (V := fun _ => none) x w
 rw [hx0] at hr
 have hc1 := Ai _ (Na 0 (.slice none 0 0) (.slice none 0 0)) hc
 have d1 := heap_alloc_new w (Na 0 (.slice none 0 0) (.slice none 0 0))
 have o1 : ∀ b, b < w.heap.size -> (w.alloc (Na 0 (.slice none 0 0) (.slice none 0 0))).heap[b]? = w.heap[b]? := fun b hb => Ad _ _ hb
 have s1 : (w.alloc (Na 0 (.slice none 0 0) (.slice none 0 0))).heap.size = w.heap.size + 1 := by simp
 rw [enter_at _ Try.func69 Qg]
 simp only [Try.ntmps69, ez, Nat.reduceAdd, Nat.reduceSub]
 refine Aa z69 ?_
 (refine Walk.oa ?_; try walk_nrm)
 have e1 : w.alloc (.cells #[.int .i64 0, .slice none 0 0, .slice none 0 0, .slice none 0 0, .int .i64 0] 190) = w.alloc (Na 0 (.slice none 0 0) (.slice none 0 0)) := rfl
 try rw [e1]
 clear e1 hc
 generalize w.alloc (Na 0 (.slice none 0 0) (.slice none 0 0)) = w1 at *
 generalize w.heap.size = M at *
 replace s1 : M + 1 <= w1.heap.size := by omega
 have cM : w1.cell? ⟨M, 0, none⟩ = some (.int .i64 0) := (Ac d1 0).trans rfl
 have zM : w1.frozen? ⟨M, 0, none⟩ = false := Aq d1 0
 refine Aa z69 ?_
 refine Walk.callV (x := .bool true) (W := w1) ?_ Aj (by rfl) (by decide) rfl Try.func18 (by kernel_rfl) (by rfl) ?_
 ·walk_nrm
  exact hr w1
 clear hr
 walk_nrm
 refine Aa z69 ?_
 (have hfr := Dq M 0; refine Walk.os hfr cM ?_; clear hfr; try walk_nrm)
 have d2 : (w1.setCell ⟨M, 0, none⟩ (.int .i64 x)).heap[M]? = some (Na x (.slice none 0 0) (.slice none 0 0)) := (Am _ _ d1).trans rfl
 have s2 := Af w1 ⟨M, 0, none⟩ (.int .i64 x)
 have o2 : ∀ b, b ≠ M -> (w1.setCell ⟨M, 0, none⟩ (.int .i64 x)).heap[b]? = w1.heap[b]? := fun b hb => Ab _ _ _ _ hb
 generalize w1.setCell ⟨M, 0, none⟩ (.int .i64 x) = w2 at *
 have I : NwA M 0 x (.slice none 0 0) (.slice none 0 0) w w2 := ⟨d2, ⟨rfl, .inl ⟨rfl, rfl⟩⟩, ⟨rfl, .inl ⟨rfl, rfl⟩⟩, fun b hb => (by cases hb), fun b hb => (o2 b (by omega)).trans (o1 b hb), by omega⟩
 clear cM zM d1 d2 o1 o2 hc1
 try walk_nrm
 refine Aa z69 ?_
 refine Walk.ctl rfl (fun w => stepG_loop) ?_
 refine .stop fun d => ⟨Ak ?_, I.at d⟩
 simp only [Qx]
 rfl
theorem Qcn (M : Nat) (m : Nat) (hm : m <= 65536) (xv : Value) (w0 : World) (cs : List Frame) : ∀ (r j : Nat) (sv vv : Value) (w : World) (u : Nat -> Value), j + r = m -> NwA M j (m : Nat) sv vv w0 w ->
  Walk Try.prog main (DR (fun _ => none)) (fun g w' => (∃ u, g = G (Qm M xv 1 u) cs) /\ ∃ sv vv, NwA M m (m : Nat) sv vv w0 w') (G (Qx M xv j u) cs) w := by
 intro r
 induction r with
 | zero =>
  intro j sv vv w u hj I
  have hj : j = m := hj
  subst hj
  refine (Qdr M j _ sv vv xv rfl w0 w I cs u).mono ?_
  rintro _ _ ⟨hu, d, rfl⟩
  exact ⟨hu, sv, vv, I.at d⟩
 | succ r ih =>
  intro j sv vv w u hj I
  refine (Qbc M j _ sv vv xv (by omega) (by omega) w0 w I cs u).then ?_
  rintro _ w' ⟨⟨u', rfl⟩, sv', vv', I'⟩
  exact ih (j + 1) sv' vv' w' u' (by omega) I'
theorem Qcm {cb : CB} {m : Nat} {T : Nat -> R11} (M xc sb so : Nat) (xs : List Int) (hL : xs.length <= 17592186044416) (hm0 : 0 < m) (hm : m <= 65536) (hsb : sb < M) (w0 : World) (hx : ∀ (j : Nat) (z : Int), xs[j]? = some z -> w0.cell? ⟨sb, so + j, none⟩ = some (.int .i64 z)) (R : Rg) (fr : Frame) (cs : List Frame) :
  ∀ (r j : Nat) (S : Rg) (w : World) (u : Nat -> Value), 1 <= j -> j + r = xs.length -> R = Zz m (j - 1) (xs.drop j) S -> M11 M M cb 0 0 0 m none S T w -> (∀ b, b < M -> w.heap[b]? = w0.heap[b]?) ->
  Walk Try.prog main (DR (fun _ => none)) (fun g w' => g = G (fr.finish (.pointer (some ⟨M, 0, none⟩))) cs /\ M11 M M cb 0 0 0 m none R T w' /\ ∀ b, b < M -> w'.heap[b]? = w0.heap[b]?) (G (Qm M (.slice (some ⟨sb, so, none⟩) xs.length xc) j u) (fr :: cs)) w := by
 intro r
 induction r with
 | zero =>
  intro j S w u h1 hj hR I ho
  refine (Qdq M xs.length xc (some ⟨sb, so, none⟩) w u fr cs j (by omega)).mono ?_
  rintro _ _ ⟨rfl, d, rfl⟩
  rw [List.drop_eq_nil_of_le (by omega)] at hR
  have hR : R = S := hR
  subst hR
  exact ⟨rfl, I.same fun _ _ => rfl, ho⟩
 | succ r ih =>
  intro j S w u h1 hj hR I ho
  have hjl : j < xs.length := by omega
  have hxj : xs[j]? = some xs[j] := List.getElem?_eq_getElem hjl
  have hc := (World.cell?_of_block (a := ⟨sb, so + j, none⟩) (ho sb hsb)).trans (hx j _ hxj)
  refine (Qbb M xs.length xc j sb so xs[j] h1 hjl hL hm0 hm w I hc hsb u (fr :: cs)).then ?_
  rintro _ w' ⟨⟨u', rfl⟩, I', ho'⟩
  refine ih (j + 1) _ w' u' (by omega) (by omega) ?_ I' fun b hb => (ho' b hb).trans (ho b hb)
  rw [hR, List.drop_eq_getElem_cons hjl, show j + 1 - 1 = j - 1 + 1 by omega]
  rfl
theorem Qdg (xa : Option Addr) (xs : List Int) (xc : Nat) (hxn : xs.length <= 17592186044416) (T : Nat -> R11) (w : World) (hx : LsR (.slice xa xs.length xc) xs w) : CallW Try.prog main (fun _ => none) 69 #[.slice xa xs.length xc] w (NewR xs T w) := by
 intro c cs
 have hnone : ¬ Nu xs -> Walk Try.prog main (DR (fun _ => none)) (fun g w' => g = G (c.finish (.pointer (some ⟨w.heap.size, 0, none⟩))) cs /\ ∃ d, w' = (w.alloc (Na 0 (.slice none 0 0) (.slice none 0 0))).at d) (G (Frame.enter Try.prog 69 #[.slice xa xs.length xc] .normal) (c :: cs)) w -> Walk Try.prog main (DR (fun _ => none)) (fun g w' => ∃ v, NewR xs T w v w' /\ g = G (c.finish v) cs) (G (Frame.enter Try.prog 69 #[.slice xa xs.length xc] .normal) (c :: cs)) w := fun hno h => by
  refine h.mono ?_
  rintro _ _ ⟨rfl, d, rfl⟩
  refine ⟨_, ⟨rfl, ⟨0, 0, 0, 0⟩, fun _ => ⟨rfl, rfl⟩, ?_, ⟨by show w.heap.size <= (w.alloc _).heap.size; simp, fun b hb _ => Ad _ _ hb⟩⟩, rfl⟩
  rw [Nl hno, Qat hno]
  exact M11.none _ T (heap_alloc_new _ _)
 cases xs with
 | nil =>
  exact hnone (fun ⟨_, _, e, _⟩ => by cases e) (Qdi xa xc w c cs)
 | cons x l =>
  obtain ⟨a', c', e1, _, _, hcells⟩ := id hx
  injection e1 with e1 _ _
  obtain ⟨sb, so, e2, hc0⟩ := hcells 0 x rfl
  rw [<- e1] at e2
  subst e2
  have hc0 : w.cell? ⟨sb, so, none⟩ = some (.int .i64 x) := hc0
  by_cases hr : okS x
  ·have hp : Ky x = true := by rw [Yb]; exact decide_eq_true hr
   have hir : Nu (x :: l) := (Zh x l).2 hr
   obtain ⟨m, rfl⟩ : ∃ m : Nat, x = m := ⟨x.toNat, by have := hr.1; omega⟩
   have hsz : Ki ((m : Int) :: l) = m := by
    show (max (m : Int) 0).toNat = m
    omega
   have hm0 : 0 < m := by have := hr.1; omega
   have hm : m <= 65536 := by have := hr.2.1; omega
   have hall : ∀ (j : Nat) (z : Int), ((m : Int) :: l)[j]? = some z -> w.cell? ⟨sb, so + j, .none⟩ = some (.int .i64 z) := fun j z hz => by
    obtain ⟨b, off, e3, h3⟩ := hcells j z hz
    rw [<- e1] at e3
    cases e3
    exact h3
   refine (Qdh sb so _ xc m (by simp) hp w hc0 (c :: cs)).then ?_
   rintro _ w1 ⟨⟨u1, rfl⟩, I1⟩
   refine (Qcn w.heap.size m hm _ w (c :: cs) m 0 _ _ w1 u1 (Nat.zero_add _) I1).then ?_
   rintro _ w2 ⟨⟨u2, rfl⟩, sv, vv, I2⟩
   obtain ⟨cb, I3⟩ := Qci hm0 I2 T
   refine (Qcm (T := T) w.heap.size xc sb so _ hxn hm0 hm (Aw hc0) w hall (r0R ((m : Int) :: l)) c cs l.length 1 (Oj m) w2 u2 (Nat.le_refl _) (by simp; omega) (by unfold r0R; rw [hsz]; rfl) I3 I2.old).mono ?_
   rintro _ w3 ⟨rfl, I4, ho⟩
   refine ⟨_, ⟨rfl, cb, fun h => ?_, ?_, ⟨?_, fun b hb _ => ho b hb⟩⟩, rfl⟩
   ·rw [Iv hir, hsz] at h
    omega
   ·rw [Iv hir, hsz, Ya hir]
    exact I4
   ·have := I4.lt.1
    omega
  ·have hp : Ky x = false := by rw [Yb]; exact decide_eq_false hr
   exact hnone (fun h => hr ((Zh x l).1 h)) (nw_no sb so _ xc x (by simp) hp w hc0 c cs)
end
end
section
noncomputable def reg16_0 := rk Try.f16.body 0
noncomputable def reg16_1 := rk Try.f16.body 1
theorem z16 : reg16_0.size = 1 /\ reg16_1.size = 7 := by and_intros <;> kernel_rfl
theorem Qac : Try.f16.body = some (.seq (.region 0 reg16_0 false) (.seq (.region 1 reg16_1 false) (.ret))) := by kernel_rfl
def RPl (n : Nat) (L : La) (stx : L.Sg -> List Int) (W : World) (F : OX L × List Nat) (v : Value) (w' : World) : Prop := ∃ cells, v = .agg cells /\ TrA cells n (fun i => (F.1.th i).ans) F.2 (stx F.1.s) (Fc n F.1) w' /\ Chg (fun _ => False) W w' /\ (∀ i, i < n -> (F.1.th i).ans.length <= 65536) /\ CapS cells
section
variable {main : Bool}
theorem Qar (xa : Option Addr) (xs : List Int) (xc : Nat) (tv sv : Value) (most : Int) (Y : Nat -> World -> World -> Prop) (cs : List Frame) (c : Frame) (W : World) (Z : Array Value -> World -> Prop)
  (hnew : ∀ w1, w1 = W.alloc Ga -> CallW Try.prog main (fun _ => none) 69 #[.slice xa xs.length xc] w1 (fun v w' => v = .pointer (some ⟨w1.heap.size, 0, none⟩) /\ Y w1.heap.size w1 w'))
  (hrun : ∀ w1 w2, w1 = W.alloc Ga -> Y w1.heap.size w1 w2 -> CallW Try.prog main (fun _ => none) 70 #[.pointer (some ⟨w1.heap.size, 0, none⟩), tv, sv, .int .i64 most] w2 (fun v w' => ∃ x0 x1 x2 x3, v = .agg #[x0, x1, x2, x3] /\ w'.heap[W.heap.size]? = some Ga /\ (#[x0, x1, x2, x3] : Array Value).all (·.oneCell') = true /\ Z #[x0, x1, x2, x3] w')) :
  Walk Try.prog main (DR (fun _ => none)) (fun g w' => ∃ cells w3 d, g = G (c.finish (.agg cells)) cs /\ Z cells w3 /\ w' = (w3.setRow W.heap.size cells).at d) (G (Frame.enter Try.prog 16 #[.slice xa xs.length xc, tv, sv, .int .i64 most] .normal) (c :: cs)) W := by
 rw [enter_at _ Try.func16 Qac]
 simp only [Try.ntmps16, ez, Nat.reduceAdd, Nat.reduceSub]
 refine Aa z16 ?_
 (refine Walk.oa ?_; try walk_nrm)
 have e1 : W.alloc (.cells #[.slice none 0 0, .slice none 0 0, .slice none 0 0, .bool false] 31) = W.alloc Ga := rfl
 try rw [e1]
 clear e1
 have hnew := hnew _ rfl
 have hrun := fun w2 => hrun _ w2 rfl
 generalize W.alloc Ga = w1 at *
 generalize hR : W.heap.size = R at *
 refine Aa z16 ?_
 refine Ah (Post := fun v w' => v = .pointer (some ⟨w1.heap.size, 0, none⟩) /\ Y w1.heap.size w1 w') ?_ Aj (by rfl) (by decide) rfl Try.func69 (by kernel_rfl) (by rfl) ?_
 ·walk_nrm
  exact hnew
 rintro v w2 ⟨rfl, hY⟩
 have hrun := hrun w2 hY
 walk_nrm
 repeat (first | (refine Walk.oq ?_; try walk_nrm) | (refine Bn ?_; walk_nrm))
 refine Ah (Post := fun v w' => ∃ x0 x1 x2 x3, v = .agg #[x0, x1, x2, x3] /\ w'.heap[R]? = some Ga /\ (#[x0, x1, x2, x3] : Array Value).all (·.oneCell') = true /\ Z #[x0, x1, x2, x3] w') ?_ Aj (by rfl) (by decide) rfl Try.func70 (by kernel_rfl) (by rfl) ?_
 ·walk_nrm
  exact hrun
 rintro v w3 ⟨x0, x1, x2, x3, rfl, hr, h1, hZ⟩
 have hT := Bk (cells := #[x0, x1, x2, x3]) hr
 walk_nrm
 repeat (first | (refine Walk.oq ?_; try walk_nrm) | (refine Bn ?_; walk_nrm))
 refine Az 31 (.tmp 8) (.tmp 14) Aj (by rfl) (by decide) rfl R #[x0, x1, x2, x3] #[.slice none 0 0, .slice none 0 0, .slice none 0 0, .bool false] 31 rfl rfl hr (by kernel_rfl) rfl h1 (Nx _) ?_
 have he : w3.setRow R #[x0, x1, x2, x3] = w3.setRow R #[x0, x1, x2, x3] := rfl
 generalize hw4 : w3.setRow R #[x0, x1, x2, x3] = w4 at hT ⊢
 try walk_nrm
 refine Aa z16 ?_
 refine Cj (T := R) rfl rfl rfl Try.func16 rfl (by rfl) hT (by kernel_rfl) (by kernel_rfl) (.stop fun d => ⟨#[x0, x1, x2, x3], w3, d, rfl, hZ, ?_⟩)
 rw [hw4]
theorem Qcf (xa : Option Addr) (xs : List Int) (xc : Nat) (hxn : xs.length <= 17592186044416) (b off n0 tcc N : Nat) (hN : N = min n0 64) (va : Option Addr) (hv : 0 < N -> va = some ⟨b, off, none⟩) (oa : Nat -> Option Addr) (ln oc : Nat -> Nat) (ops : Nat -> List OpV) (sa : Option Addr) (sc : Nat) (sl : List Int) (most : Int) (W : World) (hx : LsR (.slice xa xs.length xc) xs W) (O : OpsIn b off N oa ln oc ops W) (hwr : ∀ k, k < N -> ∀ o, o ∈ ops k -> -9223372036854775808 <= o.a)
  (hsl : sl.length <= 17592186044416) (hs : ∀ (j : Nat) (z : Int), sl[j]? = some z -> ∃ s so, sa = some ⟨s, so, none⟩ /\ W.cell? ⟨s, so + j, none⟩ = some (.int .i64 z)) :
  CallW Try.prog main (fun _ => none) 16 #[.slice xa xs.length xc, .slice va n0 tcc, .slice sa sl.length sc, .int .i64 most] W (RPl N (Bp (szZ xs)) (Lc (szZ xs)) W (Bu (Bp (szZ xs)) (r0Z xs) ops N most sl)) := by
 have hm : szZ xs <= 65536 := by
  by_cases h : Nu xs
  ·rw [Iv h]
   obtain ⟨x, l, rfl, h1, h2⟩ := h
   show (max x 0).toNat <= _
   omega
  ·rw [Nl h]
   omega
 intro c cs
 have hO1 : ∀ b, b < W.heap.size -> (W.alloc Ga).heap[b]? = W.heap[b]? := fun b hb => Ad _ _ hb
 have hsz : (W.alloc Ga).heap.size = W.heap.size + 1 := by simp
 have hs1 : ∀ (j : Nat) (z : Int), sl[j]? = some z -> ∃ s so, sa = some ⟨s, so, none⟩ /\ (W.alloc Ga).cell? ⟨s, so + j, none⟩ = some (.int .i64 z) := fun j z hz => by
  obtain ⟨s, so, e, hc⟩ := hs j z hz
  exact ⟨s, so, e, Ai _ _ hc⟩
 have hnew := Qdg (main := main) xa xs xc hxn (fun _ => R11.new none 0 0 0 []) (W.alloc Ga) (hx.same hO1)
 have hz : (W.alloc Ga).heap[W.heap.size]? = some Ga := heap_alloc_new _ _
 obtain ⟨m, hme⟩ : ∃ m, szZ xs = m := ⟨_, rfl⟩
 obtain ⟨r0, hre⟩ : ∃ r0, r0Z xs = r0 := ⟨_, rfl⟩
 unfold NewR at hnew
 rw [hme, hre] at hnew ⊢
 rw [hme] at hm
 refine (Qar (main := main) xa xs xc (.slice va n0 tcc) (.slice sa sl.length sc) most (fun M w1 w' => ∃ cb, (m = 0 -> cb.sc = 0 /\ cb.vc = 0) /\ M11 M M cb 0 0 0 m none r0 (fun _ => R11.new none 0 0 0 []) w' /\ Chg (fun _ => False) w1 w') cs c W
  (fun cells w' => (∀ w'' : World, (∀ b, W.heap.size + 1 <= b -> b < w'.heap.size -> w''.heap[b]? = w'.heap[b]?) -> TrA cells N (fun i => ((Bu (Bp m) r0 ops N most sl).1.th i).ans) (Bu (Bp m) r0 ops N most sl).2 (Lc m (Bu (Bp m) r0 ops N most sl).1.s) (Fc N (Bu (Bp m) r0 ops N most sl).1) w'') /\ (∀ b, b < W.heap.size -> w'.heap[b]? = W.heap[b]?) /\ W.heap.size <= w'.heap.size /\ (∀ i, i < N -> ((Bu (Bp m) r0 ops N most sl).1.th i).ans.length <= 65536) /\ CapS cells) ?_ ?_).mono ?_
 ·rintro w1 rfl c' cs'
  refine (hnew c' cs').mono ?_
  rintro g w' ⟨v, ⟨rfl, cb, hz, I, hC⟩, hg⟩
  exact ⟨_, ⟨rfl, cb, hz, I, hC⟩, hg⟩
 ·rintro w1 w2 rfl ⟨cb, hz0, I, hC⟩ c' cs'
  have hC2 := hC.size
  have hold : ∀ b, b < (W.alloc Ga).heap.size -> w2.heap[b]? = (W.alloc Ga).heap[b]? := fun b hb => hC.same b hb id
  refine (run_w (main := main) (W := W.alloc Ga) hm hz0 r0 _ b off n0 tcc N hN va hv oa ln oc ops sa sc sl most rfl (O.old hO1) hwr hsl hs1 w2 I hold hC2 c' cs').mono ?_
  rintro g w' ⟨v, ⟨cells, rfl, e2, e3, e4, e5⟩, hg⟩
  obtain ⟨aa, ac, oa', oc', sa', sc', rfl, _⟩ := (e2 w' fun _ _ _ => rfl).all
  refine ⟨_, ⟨_, _, _, _, rfl, (e3 _ (by omega)).trans hz, by simp [Value.oneCell'], fun w'' h => e2 w'' fun b hb => h b (by omega), fun b hb => (e3 b (by omega)).trans (hO1 b hb), by omega, e5⟩, hg⟩
 ·rintro g w' ⟨cells, w3, d, rfl, ⟨z1, z2, z3, z4⟩, rfl⟩
  refine ⟨_, ⟨cells, rfl, z1 _ fun b hb _ => Av _ _ (by omega), ⟨?_, fun b hb _ => (Av _ _ (by omega)).trans (z2 b hb)⟩, z4⟩, rfl⟩
  show W.heap.size <= (w3.setRow W.heap.size cells).heap.size
  rw [Bg]
  exact z3
end
end
section
section
variable {P : Program}
theorem Qbr (d : Nat) (t : TypeId) (x y : Bool) (w : World) (es : Array Event) (hu : P.underlying t = some .bool) : (Op.equalIn (d + 1) t (.bool x) (.bool y)).run P w = .ok (x == y) w /\ (Op.equalIn (d + 1) t (.bool x) (.bool y)).events P w es = es := by
 constructor <;> simp [Op.equalIn, run_underlying hu]
theorem Za (t : TypeId) (hu : P.underlying t = some .bool) (x y : Bool) (w : World) : (binOp .neq t (.bool x) (.bool y)).run P w = .ok (.bool (x != y)) w := by
 simp only [binOp]
 simp [Op.equal, Op.maxDepth, (Qbr 9999 t x y w #[] hu).1, bne]
theorem Yf (t : TypeId) (hu : P.underlying t = some .bool) (x y : Bool) (w : World) (es : Array Event) : (binOp .neq t (.bool x) (.bool y)).events P w es = es := by
 simp only [binOp]
 simp [Op.equal, Op.maxDepth, (Qbr 9999 t x y w #[] hu).1, (Qbr 9999 t x y w es hu).2]
end
theorem Zv : Try.prog.underlying 4 = some .bool := by kernel_rfl
noncomputable def reg25_0 := rk Try.f25.body 0
noncomputable def reg25_1 := rk Try.f25.body 1
noncomputable def reg25_2 := rk Try.f25.body 2
noncomputable def reg25_3 := rk Try.f25.body 3
noncomputable def reg25_4 := rk Try.f25.body 4
noncomputable def reg25_6 := rk Try.f25.body 6
theorem Qal : reg25_6.size = 9 := by kernel_rfl
noncomputable def reg25_7 := rk Try.f25.body 7
noncomputable def reg25_5 := rk Try.f25.body 5
noncomputable def reg25_8 := rk Try.f25.body 8
theorem z25 : reg25_0.size = 1 /\ reg25_1.size = 5 /\ reg25_2.size = 1 /\ reg25_3.size = 1 /\ reg25_4.size = 4 /\ reg25_5.size = 3 /\ reg25_6.size = 9 /\ reg25_7.size = 1 /\ reg25_8.size = 1 := by and_intros <;> kernel_rfl
theorem Yz : Try.f25.body = some (.seq (.region 0 reg25_0 false) (.seq (.seq (.region 1 reg25_1 false) (.cond (.tmp 10 ) (.seq (.region 2 reg25_2 false) (.ret)) (.skip))) (.seq (.seq (.region 3 reg25_3 false) (.block 0 (.loop (.seq (.seq (.region 4 reg25_4 false) (.cond (.tmp 14 ) (.skip) (.exit 0))) (.seq (.block 1 (.seq (.region 6 reg25_6 true) (.cond (.tmp 25 ) (.seq (.region 7 reg25_7 false) (.ret)) (.skip)))) (.region 5 reg25_5 false)))))) (.seq (.region 8 reg25_8 false) (.ret))))) := by kernel_rfl
noncomputable def Qb (av bv : Value) (i : Nat) (u : Nat -> Value) : Frame :=
 (base 25).at { tmps := #[av, bv, u 2, u 3, u 4, .int .i64 i, u 6, u 7, u 8, u 9, u 10, u 11, u 12, u 13, u 14, u 15, u 16, u 17, u 18, u 19, u 20, u 21, u 22, u 23, u 24, u 25], defers := [] } [.code (.seq (.seq (.region 4 reg25_4 false) (.cond (.tmp 14 ) (.skip) (.exit 0))) (.seq (.block 1 (.seq (.region 6 reg25_6 true) (.cond (.tmp 25 ) (.seq (.region 7 reg25_7 false) (.ret)) (.skip)))) (.region 5 reg25_5 false))), .inLoop (.seq (.seq (.region 4 reg25_4 false) (.cond (.tmp 14 ) (.skip) (.exit 0))) (.seq (.block 1 (.seq (.region 6 reg25_6 true) (.cond (.tmp 25 ) (.seq (.region 7 reg25_7 false) (.ret)) (.skip)))) (.region 5 reg25_5 false))), .inBlock 0, .code (.seq (.region 8 reg25_8 false) (.ret))]
noncomputable def reg64_0 := rk Try.f64.body 0
noncomputable def reg64_1 := rk Try.f64.body 1
noncomputable def reg64_2 := rk Try.f64.body 2
noncomputable def reg64_3 := rk Try.f64.body 3
noncomputable def reg64_4 := rk Try.f64.body 4
noncomputable def reg64_6 := rk Try.f64.body 6
theorem Qak : reg64_6.size = 9 := by kernel_rfl
noncomputable def reg64_7 := rk Try.f64.body 7
noncomputable def reg64_5 := rk Try.f64.body 5
noncomputable def reg64_8 := rk Try.f64.body 8
theorem z64 : reg64_0.size = 1 /\ reg64_1.size = 5 /\ reg64_2.size = 1 /\ reg64_3.size = 1 /\ reg64_4.size = 4 /\ reg64_5.size = 3 /\ reg64_6.size = 9 /\ reg64_7.size = 1 /\ reg64_8.size = 1 := by and_intros <;> kernel_rfl
theorem Yy : Try.f64.body = some (.seq (.region 0 reg64_0 false) (.seq (.seq (.region 1 reg64_1 false) (.cond (.tmp 10 ) (.seq (.region 2 reg64_2 false) (.ret)) (.skip))) (.seq (.seq (.region 3 reg64_3 false) (.block 0 (.loop (.seq (.seq (.region 4 reg64_4 false) (.cond (.tmp 14 ) (.skip) (.exit 0))) (.seq (.block 1 (.seq (.region 6 reg64_6 true) (.cond (.tmp 25 ) (.seq (.region 7 reg64_7 false) (.ret)) (.skip)))) (.region 5 reg64_5 false)))))) (.seq (.region 8 reg64_8 false) (.ret))))) := by kernel_rfl
noncomputable def Qa (av bv : Value) (i : Nat) (u : Nat -> Value) : Frame :=
 (base 64).at { tmps := #[av, bv, u 2, u 3, u 4, .int .i64 i, u 6, u 7, u 8, u 9, u 10, u 11, u 12, u 13, u 14, u 15, u 16, u 17, u 18, u 19, u 20, u 21, u 22, u 23, u 24, u 25], defers := [] } [.code (.seq (.seq (.region 4 reg64_4 false) (.cond (.tmp 14 ) (.skip) (.exit 0))) (.seq (.block 1 (.seq (.region 6 reg64_6 true) (.cond (.tmp 25 ) (.seq (.region 7 reg64_7 false) (.ret)) (.skip)))) (.region 5 reg64_5 false))), .inLoop (.seq (.seq (.region 4 reg64_4 false) (.cond (.tmp 14 ) (.skip) (.exit 0))) (.seq (.block 1 (.seq (.region 6 reg64_6 true) (.cond (.tmp 25 ) (.seq (.region 7 reg64_7 false) (.ret)) (.skip)))) (.region 5 reg64_5 false))), .inBlock 0, .code (.seq (.region 8 reg64_8 false) (.ret))]
section
variable {main : Bool} {V : Nat -> Option Wait}
theorem sn_in (a b : Option Addr) (n ca cb : Nat) (cs : List Frame) (w : World) :
  Walk Try.prog main (DR V) (fun g w' => (∃ u, g = G (Qb (.slice a n ca) (.slice b n cb) 0 u) cs) /\ ∃ d, w' = w.at d) (G (Frame.enter Try.prog 25 #[.slice a n ca, .slice b n cb] .normal) cs) w := by
 rw [enter_at _ Try.func25 Yz]
 simp only [Try.ntmps25, ez, Nat.reduceAdd, Nat.reduceSub]
 refine Aa z25 ?_
 refine Walk.ctl rfl (fun w => stepG_loop) ?_
 refine .stop fun d => ⟨Ak ?_, d, rfl⟩
 simp only [Qb]
 rfl
theorem Qcy (a b : Option Addr) (n ca cb : Nat) (u : Nat -> Value) (c : Frame) (cs : List Frame) (w : World) :
  Walk Try.prog main (DR V) (fun g w' => g = G (c.finish (.bool true)) cs /\ ∃ d, w' = w.at d) (G (Qb (.slice a n ca) (.slice b n cb) n u) (c :: cs)) w := by
 unfold Qb
 refine Aa z25 ?_
 exact Be rfl rfl Try.func25 rfl (.stop fun d => ⟨rfl, d, rfl⟩)
theorem sn_go (ab ao n ca bb bo cb i : Nat) (x : Int) (u : Nat -> Value) (cs : List Frame) (w : World) (hi : i < n) (hn : n <= 17592186044416) (ha : w.cell? ⟨ab, ao + i, none⟩ = some (.int .i64 x)) (hb : w.cell? ⟨bb, bo + i, none⟩ = some (.int .i64 x)) :
  Walk Try.prog main (DR V) (fun g w' => (∃ u', g = G (Qb (.slice (some ⟨ab, ao, none⟩) n ca) (.slice (some ⟨bb, bo, none⟩) n cb) (i + 1) u') cs) /\ ∃ d, w' = w.at d) (G (Qb (.slice (some ⟨ab, ao, none⟩) n ca) (.slice (some ⟨bb, bo, none⟩) n cb) i u) cs) w := by
 have hw1 : IntKind.wrap .i64 ((i : Int) + 1) = (i : Int) + 1 := by rw [IntKind.wrap_i64]; omega
 conv => arg 5; unfold Qb
 refine Aa z25 ?_
 (refine Ba (by kernel_rfl) Qal (by kernel_rfl) (by kernel_rfl) (by decide) ?_; simp only [List.range, List.range.loop]; repeat (first | (refine Cm.oq ?_) | (refine Al Aj (by rfl) ?_; walk_nrm)))
 refine Cm.done ?_
 refine Aa z25 ?_
 refine Walk.ctl rfl (fun w => stepG_inLoop) ?_
 refine .stop fun d' => ⟨Ak ?_, d', rfl⟩
 have hc : ((i + 1 : Nat) : Int) = (i : Int) + 1 := by simp
 simp only [Qb, hc]
 rfl
theorem Qca (a b : Option Addr) (l : List Int) (ca cb : Nat) (hn : l.length <= 17592186044416) (c : Frame) (cs : List Frame) (w : World) (ha : NumA a l w) (hb : NumA b l w) : ∀ (r i : Nat) (u : Nat -> Value), i + r = l.length ->
  Walk Try.prog main (DR V) (fun g w' => g = G (c.finish (.bool true)) cs /\ ∃ d, w' = w.at d) (G (Qb (.slice a l.length ca) (.slice b l.length cb) i u) (c :: cs)) w := by
 intro r
 induction r with
 | zero =>
  intro i u hi
  have hi : i = l.length := hi
  subst hi
  exact Qcy a b l.length ca cb u c cs w
 | succ r ih =>
  intro i u hi
  have hin : i < l.length := by omega
  have hx := List.getElem?_eq_getElem hin
  obtain ⟨ab, ao, rfl, h1⟩ := ha i _ hx
  obtain ⟨bb, bo, rfl, h2⟩ := hb i _ hx
  refine (sn_go ab ao l.length ca bb bo cb i _ u (c :: cs) w hin hn h1 h2).then ?_
  rintro g w' ⟨⟨u', rfl⟩, d, rfl⟩
  exact Walk.back (ih (i + 1) u' (by omega)) d
theorem sn_w (a b : Option Addr) (l : List Int) (ca cb : Nat) (hn : l.length <= 17592186044416) (w : World) (ha : NumA a l w) (hb : NumA b l w) : As Try.prog main V 25 #[.slice a l.length ca, .slice b l.length cb] w (.bool true) w := by
 intro fr cs
 refine (sn_in a b l.length ca cb (fr :: cs) w).then ?_
 rintro g w1 ⟨⟨u, rfl⟩, d, rfl⟩
 refine Walk.back ?_ d
 refine (Qca a b l ca cb hn fr cs w ha hb l.length 0 u (by omega)).mono ?_
 rintro g w' ⟨rfl, d, rfl⟩
 exact ⟨_, ⟨rfl, d, rfl⟩, rfl⟩
theorem si_in (a b : Option Addr) (n ca cb : Nat) (cs : List Frame) (w : World) :
  Walk Try.prog main (DR V) (fun g w' => (∃ u, g = G (Qa (.slice a n ca) (.slice b n cb) 0 u) cs) /\ ∃ d, w' = w.at d) (G (Frame.enter Try.prog 64 #[.slice a n ca, .slice b n cb] .normal) cs) w := by
 rw [enter_at _ Try.func64 Yy]
 simp only [Try.ntmps64, ez, Nat.reduceAdd, Nat.reduceSub]
 refine Aa z64 ?_
 refine Walk.ctl rfl (fun w => stepG_loop) ?_
 refine .stop fun d => ⟨Ak ?_, d, rfl⟩
 simp only [Qa]
 rfl
theorem Qdb (a b : Option Addr) (n ca cb : Nat) (u : Nat -> Value) (c : Frame) (cs : List Frame) (w : World) :
  Walk Try.prog main (DR V) (fun g w' => g = G (c.finish (.bool true)) cs /\ ∃ d, w' = w.at d) (G (Qa (.slice a n ca) (.slice b n cb) n u) (c :: cs)) w := by
 unfold Qa
 refine Aa z64 ?_
 exact Be rfl rfl Try.func64 rfl (.stop fun d => ⟨rfl, d, rfl⟩)
theorem si_go (ab ao n ca bb bo cb i : Nat) (x : Int) (u : Nat -> Value) (cs : List Frame) (w : World) (hi : i < n) (hn : n <= 17592186044416) (ha : w.cell? ⟨ab, ao + i, none⟩ = some (.int .i64 x)) (hb : w.cell? ⟨bb, bo + i, none⟩ = some (.int .i64 x)) :
  Walk Try.prog main (DR V) (fun g w' => (∃ u', g = G (Qa (.slice (some ⟨ab, ao, none⟩) n ca) (.slice (some ⟨bb, bo, none⟩) n cb) (i + 1) u') cs) /\ ∃ d, w' = w.at d) (G (Qa (.slice (some ⟨ab, ao, none⟩) n ca) (.slice (some ⟨bb, bo, none⟩) n cb) i u) cs) w := by
 have hw1 : IntKind.wrap .i64 ((i : Int) + 1) = (i : Int) + 1 := by rw [IntKind.wrap_i64]; omega
 conv => arg 5; unfold Qa
 refine Aa z64 ?_
 (refine Ba (by kernel_rfl) Qak (by kernel_rfl) (by kernel_rfl) (by decide) ?_; simp only [List.range, List.range.loop]; repeat (first | (refine Cm.oq ?_) | (refine Al Aj (by rfl) ?_; walk_nrm)))
 refine Cm.done ?_
 refine Aa z64 ?_
 refine Walk.ctl rfl (fun w => stepG_inLoop) ?_
 refine .stop fun d' => ⟨Ak ?_, d', rfl⟩
 have hc : ((i + 1 : Nat) : Int) = (i : Int) + 1 := by simp
 simp only [Qa, hc]
 rfl
theorem Qcb (a b : Option Addr) (l : List Int) (ca cb : Nat) (hn : l.length <= 17592186044416) (c : Frame) (cs : List Frame) (w : World) (ha : NumA a l w) (hb : NumA b l w) : ∀ (r i : Nat) (u : Nat -> Value), i + r = l.length ->
  Walk Try.prog main (DR V) (fun g w' => g = G (c.finish (.bool true)) cs /\ ∃ d, w' = w.at d) (G (Qa (.slice a l.length ca) (.slice b l.length cb) i u) (c :: cs)) w := by
 intro r
 induction r with
 | zero =>
  intro i u hi
  have hi : i = l.length := hi
  subst hi
  exact Qdb a b l.length ca cb u c cs w
 | succ r ih =>
  intro i u hi
  have hin : i < l.length := by omega
  have hx := List.getElem?_eq_getElem hin
  obtain ⟨ab, ao, rfl, h1⟩ := ha i _ hx
  obtain ⟨bb, bo, rfl, h2⟩ := hb i _ hx
  refine (si_go ab ao l.length ca bb bo cb i _ u (c :: cs) w hin hn h1 h2).then ?_
  rintro g w' ⟨⟨u', rfl⟩, d, rfl⟩
  exact Walk.back (ih (i + 1) u' (by omega)) d
theorem si_w (a b : Option Addr) (l : List Int) (ca cb : Nat) (hn : l.length <= 17592186044416) (w : World) (ha : NumA a l w) (hb : NumA b l w) : As Try.prog main V 64 #[.slice a l.length ca, .slice b l.length cb] w (.bool true) w := by
 intro fr cs
 refine (si_in a b l.length ca cb (fr :: cs) w).then ?_
 rintro g w1 ⟨⟨u, rfl⟩, d, rfl⟩
 refine Walk.back ?_ d
 refine (Qcb a b l ca cb hn fr cs w ha hb l.length 0 u (by omega)).mono ?_
 rintro g w' ⟨rfl, d, rfl⟩
 exact ⟨_, ⟨rfl, d, rfl⟩, rfl⟩
noncomputable def reg21_0 := rk Try.f21.body 0
noncomputable def reg21_1 := rk Try.f21.body 1
noncomputable def reg21_2 := rk Try.f21.body 2
noncomputable def reg21_3 := rk Try.f21.body 3
noncomputable def reg21_4 := rk Try.f21.body 4
noncomputable def reg21_6 := rk Try.f21.body 6
theorem Qam : reg21_6.size = 38 := by kernel_rfl
noncomputable def reg21_7 := rk Try.f21.body 7
noncomputable def reg21_5 := rk Try.f21.body 5
noncomputable def reg21_8 := rk Try.f21.body 8
theorem z21 : reg21_0.size = 1 /\ reg21_1.size = 5 /\ reg21_2.size = 1 /\ reg21_3.size = 1 /\ reg21_4.size = 4 /\ reg21_5.size = 3 /\ reg21_6.size = 38 /\ reg21_7.size = 1 /\ reg21_8.size = 1 := by and_intros <;> kernel_rfl
theorem Qaa : Try.f21.body = some (.seq (.region 0 reg21_0 false) (.seq (.seq (.region 1 reg21_1 false) (.cond (.tmp 10 ) (.seq (.region 2 reg21_2 false) (.ret)) (.skip))) (.seq (.seq (.region 3 reg21_3 false) (.block 0 (.loop (.seq (.seq (.region 4 reg21_4 false) (.cond (.tmp 14 ) (.skip) (.exit 0))) (.seq (.block 1 (.seq (.region 6 reg21_6 true) (.cond (.tmp 54 ) (.seq (.region 7 reg21_7 false) (.ret)) (.skip)))) (.region 5 reg21_5 false)))))) (.seq (.region 8 reg21_8 false) (.ret))))) := by kernel_rfl
noncomputable def Qw (a b : Value) (i : Nat) (u : Nat -> Value) : Frame :=
 (base 21).at { tmps := #[a, b, u 2, u 3, u 4, .int .i64 i, u 6, u 7, u 8, u 9, u 10, u 11, u 12, u 13, u 14, u 15, u 16, u 17, u 18, u 19, u 20, u 21, u 22, u 23, u 24, u 25, u 26, u 27, u 28, u 29, u 30, u 31, u 32, u 33, u 34, u 35, u 36, u 37, u 38, u 39, u 40, u 41, u 42, u 43, u 44, u 45, u 46, u 47, u 48, u 49, u 50, u 51, u 52, u 53, u 54], defers := [] } [.code (.seq (.seq (.region 4 reg21_4 false) (.cond (.tmp 14 ) (.skip) (.exit 0))) (.seq (.block 1 (.seq (.region 6 reg21_6 true) (.cond (.tmp 54 ) (.seq (.region 7 reg21_7 false) (.ret)) (.skip)))) (.region 5 reg21_5 false))), .inLoop (.seq (.seq (.region 4 reg21_4 false) (.cond (.tmp 14 ) (.skip) (.exit 0))) (.seq (.block 1 (.seq (.region 6 reg21_6 true) (.cond (.tmp 54 ) (.seq (.region 7 reg21_7 false) (.ret)) (.skip)))) (.region 5 reg21_5 false))), .inBlock 0, .code (.seq (.region 8 reg21_8 false) (.ret))]
theorem sa_in (a b : Option Addr) (n ca cb : Nat) (cs : List Frame) (w : World) :
  Walk Try.prog main (DR V) (fun g w' => (∃ u, g = G (Qw (.slice a n ca) (.slice b n cb) 0 u) cs) /\ ∃ d, w' = w.at d) (G (Frame.enter Try.prog 21 #[.slice a n ca, .slice b n cb] .normal) cs) w := by
 rw [enter_at _ Try.func21 Qaa]
 simp only [Try.ntmps21, ez, Nat.reduceAdd, Nat.reduceSub]
 refine Aa z21 ?_
 refine Walk.ctl rfl (fun w => stepG_loop) ?_
 refine .stop fun d => ⟨Ak ?_, d, rfl⟩
 simp only [Qw]
 rfl
theorem Qdc (a b : Option Addr) (n ca cb : Nat) (u : Nat -> Value) (c : Frame) (cs : List Frame) (w : World) :
  Walk Try.prog main (DR V) (fun g w' => g = G (c.finish (.bool true)) cs /\ ∃ d, w' = w.at d) (G (Qw (.slice a n ca) (.slice b n cb) n u) (c :: cs)) w := by
 unfold Qw
 refine Aa z21 ?_
 exact Be rfl rfl Try.func21 rfl (.stop fun d => ⟨rfl, d, rfl⟩)
theorem sa_go (ab ao n ca bb bo cb i : Nat) (y : Bool) (x : Int) (la lb : Option Addr) (lc ld : Nat) (xl : List Int) (hxl : xl.length <= 1048576) (u : Nat -> Value) (cs : List Frame) (w : World) (hi : i < n) (hn : n <= 17592186044416) (a0 : w.cell? ⟨ab, ao + i * 3, none⟩ = some (.bool y)) (a1 : w.cell? ⟨ab, ao + i * 3 + 1, none⟩ = some (.int .i64 x)) (a2 : w.cell? ⟨ab, ao + i * 3 + 2, none⟩ = some (.slice la xl.length lc)) (b0 : w.cell? ⟨bb, bo + i * 3, none⟩ = some (.bool y)) (b1 : w.cell? ⟨bb, bo + i * 3 + 1, none⟩ = some (.int .i64 x)) (b2 : w.cell? ⟨bb, bo + i * 3 + 2, none⟩ = some (.slice lb xl.length ld)) (n1 : NumA la xl w) (n2 : NumA lb xl w) :
  Walk Try.prog main (DR V) (fun g w' => (∃ u', g = G (Qw (.slice (some ⟨ab, ao, none⟩) n ca) (.slice (some ⟨bb, bo, none⟩) n cb) (i + 1) u') cs) /\ ∃ d, w' = w.at d) (G (Qw (.slice (some ⟨ab, ao, none⟩) n ca) (.slice (some ⟨bb, bo, none⟩) n cb) i u) cs) w := by
 have hw1 : IntKind.wrap .i64 ((i : Int) + 1) = (i : Int) + 1 := by rw [IntKind.wrap_i64]; omega
 have qb := Za (P := Try.prog) 4 Zv y y
 have qe := Yf (P := Try.prog) 4 Zv y y
 have qy : (y != y) = false := by cases y <;> rfl
 have hq := sn_w (main := main) (V := V) la lb xl lc ld (by omega) w n1 n2
 clear n1 n2
 generalize xl.length = m at *
 rw [qy] at qb
 conv => arg 5; unfold Qw
 refine Aa z21 ?_
 (refine Ba (by kernel_rfl) Qam (by kernel_rfl) (by kernel_rfl) (by decide) ?_; simp only [List.range, List.range.loop]; repeat (first | (refine Cm.oq ?_) | (refine Al Aj (by rfl) ?_; walk_nrm)))
 refine Cm.callV (x := .bool true) ?_ Aj (by rfl) rfl Try.func25 (by kernel_rfl) (by rfl) ?_
 ·intro w' e
  subst e
  walk_nrm
  exact hq
 walk_nrm
 repeat (first | (refine Cm.oq ?_) | (refine Al Aj (by rfl) ?_; walk_nrm))
 refine Cm.done ?_
 refine Aa z21 ?_
 refine Walk.ctl rfl (fun w => stepG_inLoop) ?_
 refine .stop fun d' => ⟨Ak ?_, d', rfl⟩
 have hc : ((i + 1 : Nat) : Int) = (i : Int) + 1 := by simp
 simp only [Qw, hc]
 rfl
theorem Qcc (a b : Option Addr) (l : List Ans) (ca cb : Nat) (hn : l.length <= 17592186044416) (c : Frame) (cs : List Frame) (w : World) (ha : AnsA a l w) (hb : AnsA b l w) : ∀ (r i : Nat) (u : Nat -> Value), i + r = l.length ->
  Walk Try.prog main (DR V) (fun g w' => g = G (c.finish (.bool true)) cs /\ ∃ d, w' = w.at d) (G (Qw (.slice a l.length ca) (.slice b l.length cb) i u) (c :: cs)) w := by
 intro r
 induction r with
 | zero =>
  intro i u hi
  have hi : i = l.length := hi
  subst hi
  exact Qdc a b l.length ca cb u c cs w
 | succ r ih =>
  intro i u hi
  have hin : i < l.length := by omega
  have hx := List.getElem?_eq_getElem hin
  generalize l[i] = x at hx
  obtain ⟨ab, ao, la, lc, rfl, h1, h2, h3, h4, h5⟩ := ha i _ hx
  obtain ⟨bb, bo, lb, ld, rfl, k1, k2, k3, k4, _⟩ := hb i _ hx
  refine (sa_go ab ao l.length ca bb bo cb i x.ok x.n la lb lc ld x.l h5 u (c :: cs) w hin hn h1 h2 h3 k1 k2 k3 h4 k4).then ?_
  rintro g w' ⟨⟨u', rfl⟩, d, rfl⟩
  exact Walk.back (ih (i + 1) u' (by omega)) d
theorem sa_w (a b : Option Addr) (l : List Ans) (ca cb : Nat) (hn : l.length <= 17592186044416) (w : World) (ha : AnsA a l w) (hb : AnsA b l w) : As Try.prog main V 21 #[.slice a l.length ca, .slice b l.length cb] w (.bool true) w := by
 intro fr cs
 refine (sa_in a b l.length ca cb (fr :: cs) w).then ?_
 rintro g w1 ⟨⟨u, rfl⟩, d, rfl⟩
 refine Walk.back ?_ d
 refine (Qcc a b l ca cb hn fr cs w ha hb l.length 0 u (by omega)).mono ?_
 rintro g w' ⟨rfl, d, rfl⟩
 exact ⟨_, ⟨rfl, d, rfl⟩, rfl⟩
end
section
variable {main : Bool}
noncomputable def reg14_0 := rk Try.f14.body 0
noncomputable def reg14_1 := rk Try.f14.body 1
noncomputable def reg14_2 := rk Try.f14.body 2
noncomputable def reg14_3 := rk Try.f14.body 3
noncomputable def reg14_4 := rk Try.f14.body 4
noncomputable def reg14_6 := rk Try.f14.body 6
theorem Qan : reg14_6.size = 12 := by kernel_rfl
noncomputable def reg14_7 := rk Try.f14.body 7
noncomputable def reg14_5 := rk Try.f14.body 5
noncomputable def reg14_8 := rk Try.f14.body 8
theorem z14 : reg14_0.size = 3 /\ reg14_1.size = 30 /\ reg14_2.size = 1 /\ reg14_3.size = 1 /\ reg14_4.size = 5 /\ reg14_5.size = 3 /\ reg14_6.size = 12 /\ reg14_7.size = 1 /\ reg14_8.size = 1 := by and_intros <;> kernel_rfl
theorem Qad : Try.f14.body = some (.seq (.region 0 reg14_0 false) (.seq (.seq (.region 1 reg14_1 false) (.cond (.tmp 35 ) (.seq (.region 2 reg14_2 false) (.ret)) (.skip))) (.seq (.seq (.region 3 reg14_3 false) (.block 0 (.loop (.seq (.seq (.region 4 reg14_4 false) (.cond (.tmp 40 ) (.skip) (.exit 0))) (.seq (.block 1 (.seq (.region 6 reg14_6 true) (.cond (.tmp 54 ) (.seq (.region 7 reg14_7 false) (.ret)) (.skip)))) (.region 5 reg14_5 false)))))) (.seq (.region 8 reg14_8 false) (.ret))))) := by kernel_rfl
noncomputable def Qv (X Y i : Nat) (u : Nat -> Value) : Frame :=
 (base 14).at { tmps := #[u 0, u 1, .pointer (some ⟨X, 0, none⟩), .pointer (some ⟨Y, 0, none⟩), u 4, .int .i64 i, u 6, u 7, u 8, u 9, u 10, u 11, u 12, u 13, u 14, u 15, u 16, u 17, u 18, u 19, u 20, u 21, u 22, u 23, u 24, u 25, u 26, u 27, u 28, u 29, u 30, u 31, u 32, u 33, u 34, u 35, u 36, u 37, u 38, u 39, u 40, u 41, u 42, u 43, u 44, u 45, u 46, u 47, u 48, u 49, u 50, u 51, u 52, u 53, u 54], defers := [] } [.code (.seq (.seq (.region 4 reg14_4 false) (.cond (.tmp 40 ) (.skip) (.exit 0))) (.seq (.block 1 (.seq (.region 6 reg14_6 true) (.cond (.tmp 54 ) (.seq (.region 7 reg14_7 false) (.ret)) (.skip)))) (.region 5 reg14_5 false))), .inLoop (.seq (.seq (.region 4 reg14_4 false) (.cond (.tmp 40 ) (.skip) (.exit 0))) (.seq (.block 1 (.seq (.region 6 reg14_6 true) (.cond (.tmp 54 ) (.seq (.region 7 reg14_7 false) (.ret)) (.skip)))) (.region 5 reg14_5 false))), .inBlock 0, .code (.seq (.region 8 reg14_8 false) (.ret))]
theorem sm_in (aa : Option Addr) (n ac : Nat) (oa : Option Addr) (ord : List Int) (oc : Nat) (sa : Option Addr) (sts : List Int) (sc : Nat) (k : Bool) (ba : Option Addr) (bc : Nat) (pa : Option Addr) (pc : Nat) (ra : Option Addr) (rc : Nat) (cs : List Frame) (w : World) (hsn : sts.length <= 17592186044416) (s1 : NumA sa sts w) (s2 : NumA ra sts w) (hon : ord.length <= 17592186044416) (t1 : NumA oa ord w) (t2 : NumA pa ord w) :
  Walk Try.prog main (DR (fun _ => none)) (fun g w' => (∃ u, g = G (Qv w.heap.size (w.heap.size + 1) 0 u) cs) /\ Chg (fun _ => False) w w' /\ w'.heap[w.heap.size]? = some (.cells (Ih (.slice aa n ac) (.slice oa ord.length oc) (.slice sa sts.length sc) k) 31) /\ w'.heap[w.heap.size + 1]? = some (.cells (Ih (.slice ba n bc) (.slice pa ord.length pc) (.slice ra sts.length rc) k) 31))
   (G (Frame.enter Try.prog 14 #[.agg (Ih (.slice aa n ac) (.slice oa ord.length oc) (.slice sa sts.length sc) k), .agg (Ih (.slice ba n bc) (.slice pa ord.length pc) (.slice ra sts.length rc) k)] .normal) cs) w := by
 have qb := Za (P := Try.prog) 4 Zv k k
 have qe := Yf (P := Try.prog) 4 Zv k k
 have qk : (k != k) = false := by cases k <;> rfl
 rw [qk] at qb
 rw [enter_at _ Try.func14 Qad]
 simp only [Try.ntmps14, ez, Nat.reduceAdd, Nat.reduceSub]
 refine Aa z14 ?_
 (refine Walk.oa ?_; try walk_nrm)
 have hO : Chg (fun _ => False) w (w.alloc (.cells (Ih (.slice aa n ac) (.slice oa ord.length oc) (.slice sa sts.length sc) k) 31)) := Chg.alloc
 have hX := heap_alloc_new w (.cells (Ih (.slice aa n ac) (.slice oa ord.length oc) (.slice sa sts.length sc) k) 31)
 have hsz : (w.alloc (.cells (Ih (.slice aa n ac) (.slice oa ord.length oc) (.slice sa sts.length sc) k) 31)).heap.size = w.heap.size + 1 := by simp
 generalize w.alloc (.cells (Ih (.slice aa n ac) (.slice oa ord.length oc) (.slice sa sts.length sc) k) 31) = w1 at *
 repeat (first | (refine Walk.oq ?_; try walk_nrm) | (refine Bn ?_; walk_nrm))
 (refine Walk.oa ?_; try walk_nrm)
 have hO2 : Chg (fun _ => False) w (w1.alloc (.cells (Ih (.slice ba n bc) (.slice pa ord.length pc) (.slice ra sts.length rc) k) 31)) := hO.trans (S' := fun _ => False) Chg.alloc fun _ _ h => h
 have hY := heap_alloc_new w1 (.cells (Ih (.slice ba n bc) (.slice pa ord.length pc) (.slice ra sts.length rc) k) 31)
 have hX2 := (Ad w1 (.cells (Ih (.slice ba n bc) (.slice pa ord.length pc) (.slice ra sts.length rc) k) 31) (by rw [hsz]; exact Nat.lt_succ_self _)).trans hX
 rw [hsz] at hY
 clear hX hO hsz
 generalize w1.alloc (.cells (Ih (.slice ba n bc) (.slice pa ord.length pc) (.slice ra sts.length rc) k) 31) = w2 at *
 have h17 := si_w (main := main) (V := fun _ => none) oa pa ord oc pc hon w2 (t1.chg hO2) (t2.chg hO2)
 have h18 := sn_w (main := main) (V := fun _ => none) sa ra sts sc rc hsn w2 (s1.chg hO2) (s2.chg hO2)
 generalize w.heap.size = X at *
 have x0 : w2.cell? ⟨X, 0, none⟩ = some (.slice aa n ac) := (Ac hX2 0).trans rfl
 have x1 : w2.cell? ⟨X, 1, none⟩ = some (.slice oa ord.length oc) := (Ac hX2 1).trans rfl
 have x2 : w2.cell? ⟨X, 2, none⟩ = some (.slice sa sts.length sc) := (Ac hX2 2).trans rfl
 have x3 : w2.cell? ⟨X, 3, none⟩ = some (.bool k) := (Ac hX2 3).trans rfl
 have y0 : w2.cell? ⟨X + 1, 0, none⟩ = some (.slice ba n bc) := (Ac hY 0).trans rfl
 have y1 : w2.cell? ⟨X + 1, 1, none⟩ = some (.slice pa ord.length pc) := (Ac hY 1).trans rfl
 have y2 : w2.cell? ⟨X + 1, 2, none⟩ = some (.slice ra sts.length rc) := (Ac hY 2).trans rfl
 have y3 : w2.cell? ⟨X + 1, 3, none⟩ = some (.bool k) := (Ac hY 3).trans rfl
 clear s1 s2 t1 t2
 refine Aa z14 ?_
 refine Walk.callV (x := .bool true) (W := w2) ?_ Aj (by rfl) (by decide) rfl Try.func64 (by kernel_rfl) (by rfl) ?_
 ·walk_nrm
  exact h17
 walk_nrm
 refine Aa z14 ?_
 refine Walk.callV (x := .bool true) (W := w2) ?_ Aj (by rfl) (by decide) rfl Try.func25 (by kernel_rfl) (by rfl) ?_
 ·walk_nrm
  exact h18
 walk_nrm
 refine Aa z14 ?_
 refine Walk.ctl rfl (fun w => stepG_loop) ?_
 refine .stop fun d => ⟨Ak ?_, hO2.at d, hX2, hY⟩
 simp only [Qv]
 rfl
theorem sm_go (X Y n i ab ao ac bb bo bc : Nat) (ta tb : Option Addr) (l : List Ans) (tc td : Nat) (u : Nat -> Value) (cs : List Frame) (w : World) (hi : i < n) (hn : n <= 17592186044416) (htl : l.length <= 17592186044416) (x0 : w.cell? ⟨X, 0, none⟩ = some (.slice (some ⟨ab, ao, none⟩) n ac)) (y0 : w.cell? ⟨Y, 0, none⟩ = some (.slice (some ⟨bb, bo, none⟩) n bc))
  (ha : w.cell? ⟨ab, ao + i, none⟩ = some (.slice ta l.length tc)) (hb : w.cell? ⟨bb, bo + i, none⟩ = some (.slice tb l.length td)) (h1 : AnsA ta l w) (h2 : AnsA tb l w) :
  Walk Try.prog main (DR (fun _ => none)) (fun g w' => (∃ u', g = G (Qv X Y (i + 1) u') cs) /\ ∃ d, w' = w.at d) (G (Qv X Y i u) cs) w := by
 have hw1 : IntKind.wrap .i64 ((i : Int) + 1) = (i : Int) + 1 := by rw [IntKind.wrap_i64]; omega
 have hq := sa_w (main := main) (V := fun _ => none) ta tb l tc td htl w h1 h2
 clear h1 h2
 conv => arg 5; unfold Qv
 refine Aa z14 ?_
 (refine Ba (by kernel_rfl) Qan (by kernel_rfl) (by kernel_rfl) (by decide) ?_; simp only [List.range, List.range.loop]; repeat (first | (refine Cm.oq ?_) | (refine Al Aj (by rfl) ?_; walk_nrm)))
 refine Cm.callV (x := .bool true) ?_ Aj (by rfl) rfl Try.func21 (by kernel_rfl) (by rfl) ?_
 ·intro w' e
  subst e
  walk_nrm
  exact hq
 walk_nrm
 repeat (first | (refine Cm.oq ?_) | (refine Al Aj (by rfl) ?_; walk_nrm))
 refine Cm.done ?_
 refine Aa z14 ?_
 refine Walk.ctl rfl (fun w => stepG_inLoop) ?_
 refine .stop fun d' => ⟨Ak ?_, d', rfl⟩
 have hc : ((i + 1 : Nat) : Int) = (i : Int) + 1 := by simp
 simp only [Qv, hc]
 rfl
theorem Qcz (X Y n : Nat) (aa : Option Addr) (ac : Nat) (u : Nat -> Value) (c : Frame) (cs : List Frame) (w : World) (x0 : w.cell? ⟨X, 0, none⟩ = some (.slice aa n ac)) :
  Walk Try.prog main (DR (fun _ => none)) (fun g w' => g = G (c.finish (.bool true)) cs /\ ∃ d, w' = w.at d) (G (Qv X Y n u) (c :: cs)) w := by
 unfold Qv
 refine Aa z14 ?_
 exact Be rfl rfl Try.func14 rfl (.stop fun d => ⟨rfl, d, rfl⟩)
theorem sm_w (ca cb : Array Value) (n : Nat) (F : Nat -> List Ans) (ord : List Nat) (sts : List Int) (k : Bool) (w : World) (hn : n <= 64) (hord : ord.length <= 1048576) (hsn : sts.length <= 1048576) (hF : ∀ i, i < n -> (F i).length <= 65536) (h1 : TrA ca n F ord sts k w) (h2 : TrA cb n F ord sts k w) :
  CallW Try.prog main (fun _ => none) 14 #[.agg ca, .agg cb] w (fun v w' => v = .bool true /\ Chg (fun _ => False) w w') := by
 obtain ⟨aa, ac, oa, oc, sa, sc, rfl, n1, n2, n3⟩ := h1.all
 obtain ⟨ba, bc, pa, pc, ra, rc, rfl, m1, m2, m3⟩ := h2.all
 have olen : (ord.map fun i => ((i : Nat) : Int)).length = ord.length := by simp
 intro fr cs
 have hin := sm_in (main := main) aa n ac oa (ord.map fun i => ((i : Nat) : Int)) oc sa sts sc k ba bc pa pc ra rc (fr :: cs) w (by omega) n2 m2 (by omega) n1 m1
 rw [olen] at hin
 refine hin.then ?_
 rintro g w1 ⟨⟨u, rfl⟩, hC, hX, hY⟩
 have x0 : w1.cell? ⟨w.heap.size, 0, none⟩ = some (.slice aa n ac) := (Ac hX 0).trans rfl
 have y0 : w1.cell? ⟨w.heap.size + 1, 0, none⟩ = some (.slice ba n bc) := (Ac hY 0).trans rfl
 have hcell : ∀ {x j : Nat} {v : Value}, w.cell? ⟨x, j, none⟩ = some v -> w1.cell? ⟨x, j, none⟩ = some v := fun {x j v} h => (World.cell?_of_block (a := ⟨x, j, none⟩) (hC.same x (Aw h) id)).trans h
 have loop : ∀ (r i : Nat) (u : Nat -> Value), i + r = n -> Walk Try.prog main (DR (fun _ => none)) (fun g w' => g = G (fr.finish (.bool true)) cs /\ ∃ d, w' = w1.at d) (G (Qv w.heap.size (w.heap.size + 1) i u) (fr :: cs)) w1 := by
  intro r
  induction r with
  | zero =>
   intro i u hi
   obtain rfl : i = n := hi
   exact Qcz _ _ i aa ac u fr cs w1 x0
  | succ r ih =>
   intro i u hi
   obtain ⟨ab, ao, ta, tc, rfl, k1, k2⟩ := n3 i (by omega)
   obtain ⟨bb, bo, tb, td, rfl, j1, j2⟩ := m3 i (by omega)
   refine (sm_go _ _ n i ab ao ac bb bo bc ta tb (F i) tc td u (fr :: cs) w1 (by omega) (by omega) (by have := hF i (by omega); omega) x0 y0 (hcell k1) (hcell j1) (k2.chg hC) (j2.chg hC)).then ?_
   rintro g w' ⟨⟨u', rfl⟩, d, rfl⟩
   exact Walk.back (ih (i + 1) u' (by omega)) d
 refine (loop n 0 u (by omega)).mono ?_
 rintro g w' ⟨rfl, d, rfl⟩
 exact ⟨_, ⟨rfl, hC.at d⟩, rfl⟩
end
end
end Go.Proofs.Ytcdcnmphjhfbpaa
