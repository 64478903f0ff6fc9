/- Part 20. -/
import Derived.Test.YtdmpmoggacjgcaaJ17
set_option linter.unusedSimpArgs false
set_option linter.unusedVariables false
set_option maxHeartbeats 8000000
set_option maxRecDepth 100000
namespace Go.Proofs.Ytdmpmoggacjgcaa
open Go.Conc Go.RowKit Go.Relay
open Go.ConcN (upd upd_ne upd_same)
section
theorem enter_of (s : Sk) (o : OpV) : (¬ (1 ≤ o.k ∧ o.k ≤ 4) ∧ skEnter s o = (s, .inl (false, 0))) ∨ (1 ≤ o.k ∧ o.k ≤ 4 ∧ ∃ d, skEnter s o = (s, .inr d) ∧ ∀ n N, dR n o (10 * o.k) N d) := by
 unfold skEnter
 by_cases h1 : o.k = 1
 ·exact .inr ⟨by omega, by omega, _, if_pos h1, fun n N => ⟨by omega, rfl⟩⟩
 rw [if_neg h1]
 by_cases h2 : o.k = 2
 ·exact .inr ⟨by omega, by omega, _, if_pos h2, fun n N => (by show _ = _; omega)⟩
 rw [if_neg h2]
 by_cases h3 : o.k = 3
 ·exact .inr ⟨by omega, by omega, _, if_pos h3, fun n N => (by show _ = _; omega)⟩
 rw [if_neg h3]
 by_cases h4 : o.k = 4
 ·exact .inr ⟨by omega, by omega, _, if_pos h4, fun n N => (by show _ = _; omega)⟩
 rw [if_neg h4]
 exact .inl ⟨by omega, rfl⟩
section
variable {main : Bool} {S : Nat → Prop} {b : Nat} {ops : List OpV} {oa : Option Addr} {oc : Nat} {e : Bool} {kb nb n : Nat} {tg : Bool}
def TisR (L : La) (f : L.D → SD) (S : Nat → Prop) (n b : Nat) (ops : List OpV) (oa : Option Addr) (oc : Nat) (t : Tst L) (w : World) : Prop := TIs S n b ops oa oc t.left (t.d.map f) t.ans (t.d.isNone) w
theorem settle_same (s : Sk) : ∀ (l : List OpV) (az : List Ans), (settleO (skLa kb nb n tg) s l az).1 = s
 | [], _ => rfl
 | o :: l, az => by
  show (landO (skLa kb nb n tg) (skEnter s o) l az).1 = s
  rcases enter_of s o with ⟨_, h⟩ | ⟨_, _, d, h, _⟩
  ·rw [h]; exact settle_same s l _
  ·rw [h]; rfl
theorem mbg_loop (m : Nat) (hl : ops.length ≤ 65536) (s : Sk) (c : Frame) (cs : List Frame) : ∀ (r k : Nat) (S : Nat → Prop) (N : Nat → Int) (ans : List Ans) (aa : Option Addr) (ac : Nat) (u : Nat → Value) (w : World), k + r = ops.length → ans.length = k → ThX S b ops oa oc (k : Nat) 0 N ans aa ac e w →
  Walk Try.prog main (DR (fun _ => none)) (fun g w' => g = G (c.finish (.tuple #[])) cs ∧ TisR (skLa kb nb n tg) id (fun g => S g ∨ w.heap.size ≤ g) n b ops oa oc (settleO (skLa kb nb n tg) s (ops.drop k) ans).2 w' ∧ Chg S w w') (G (hdBg m b u) (c :: cs)) w := by
 intro r
 induction r with
 | zero =>
  intro k S N ans aa ac u w hk ha X
  obtain rfl : k = ops.length := hk
  refine (mbg_out m u c cs w X (.inr rfl) (Nat.le_refl _)).mono ?_
  rintro g w' ⟨rfl, X', hC⟩
  refine ⟨rfl, ?_, hC⟩
  rw [List.drop_length]
  exact ⟨ops.length, 0, N, aa, ac, (by rw [decide_eq_true rfl] at X'; exact X'.mono fun _ h => .inl h), ha, .inl ⟨rfl, rfl, rfl⟩⟩
 | succ r ih =>
  intro k S N ans aa ac u w hk ha X
  have hkl : k < ops.length := by omega
  have ho : ops[k]? = some ops[k] := List.getElem?_eq_getElem hkl
  have hdrop : ops.drop k = ops[k] :: ops.drop (k + 1) := List.drop_eq_getElem_cons hkl
  rw [hdrop]
  show Walk Try.prog main (DR (fun _ => none)) (fun g w' => g = G (c.finish (.tuple #[])) cs ∧ TisR (skLa kb nb n tg) id (fun g => S g ∨ w.heap.size ≤ g) n b ops oa oc (landO (skLa kb nb n tg) (skEnter s ops[k]) (ops.drop (k + 1)) ans).2 w' ∧ Chg S w w') _ _
  generalize ops[k] = o at *
  rcases enter_of s o with ⟨hb, h⟩ | ⟨h1, h4, d, h, hd⟩
  ·rw [h]
   refine (mbg_bad m o u (c :: cs) w X hl (by omega) ho hb).then ?_
   rintro g w1 ⟨⟨u', rfl⟩, ⟨aa', ac', X'⟩, hC⟩
   refine (ih (k + 1) _ N _ aa' ac' u' w1 (by omega) (by simp; omega) X').mono ?_
   rintro g w' ⟨rfl, hT, hC'⟩
   have hs := hC.size
   refine ⟨rfl, TIs.mono hT fun g hg => ?_, hC.trans hC' fun b hb h => h.resolve_right (by omega)⟩
   rcases hg with (h | h) | h
   ·exact .inl h
   ·exact .inr h
   ·exact .inr (by omega)
  ·rw [h]
   refine (mbg_good m o u (c :: cs) w X hl ho h1 h4).then ?_
   rintro g w1 ⟨⟨u', rfl⟩, X', hC⟩
   refine (mbg_out m u' c cs w1 X' (.inl (by omega)) (by omega)).mono ?_
   rintro g w' ⟨rfl, X2, hC'⟩
   have hf : decide (k = ops.length) = false := by simp; omega
   rw [hf] at X2
   exact ⟨rfl, ⟨k, 10 * o.k, N, aa, ac, X2.mono fun _ h => .inl h, ha, .inr ⟨d, o, rfl, ho, rfl, hd n N, rfl⟩⟩, hC.trans hC' fun _ _ h => h⟩
theorem mbg_w (m k : Nat) (N : Nat → Int) (ans : List Ans) (aa : Option Addr) (ac : Nat) (s : Sk) (w : World) (hl : ops.length ≤ 65536) (hk : k ≤ ops.length) (ha : ans.length = k) (X : ThX S b ops oa oc (k : Nat) 0 N ans aa ac e w) :
  CallW Try.prog main (fun _ => none) 37 #[.pointer (some ⟨m, 0, none⟩), .pointer (some ⟨b, 0, none⟩)] w (fun v w' => v = .tuple #[] ∧ TisR (skLa kb nb n tg) id (fun g => S g ∨ w.heap.size ≤ g) n b ops oa oc (settleO (skLa kb nb n tg) s (ops.drop k) ans).2 w' ∧ Chg S w w') := by
 intro c cs
 refine (mbg_in m b (c :: cs) w).then ?_
 rintro g w1 ⟨⟨u, rfl⟩, d, rfl⟩
 refine Walk.back ?_ d
 refine (mbg_loop (kb := kb) (nb := nb) (n := n) (tg := tg) m hl s c cs (ops.length - k) k S N ans aa ac u w (by omega) ha X).mono ?_
 rintro g w' ⟨rfl, h⟩
 exact ⟨_, ⟨rfl, h⟩, rfl⟩
theorem mbg_on (m k : Nat) (PC : Int) (N : Nat → Int) (ans : List Ans) (aa : Option Addr) (ac : Nat) (o : OpV) (d : SD) (w : World) (ho : ops[k]? = some o) (ha : ans.length = k) (X : ThX S b ops oa oc (k : Nat) PC N ans aa ac e w) (hd : dR n o PC N d) :
  CallW Try.prog main (fun _ => none) 37 #[.pointer (some ⟨m, 0, none⟩), .pointer (some ⟨b, 0, none⟩)] w (fun v w' => v = .tuple #[] ∧ TisR (skLa kb nb n tg) id (fun g => S g ∨ w.heap.size ≤ g) n b ops oa oc ⟨ops.drop (k + 1), some d, ans⟩ w' ∧ Chg S w w') := by
 intro c cs
 have hkl := (List.getElem?_eq_some_iff.1 ho).1
 have hp := dR_pos hd
 refine (mbg_in m b (c :: cs) w).then ?_
 rintro g w1 ⟨⟨u, rfl⟩, d1, rfl⟩
 refine Walk.back ?_ d1
 refine (mbg_out m u c cs w X (.inl (by omega)) (by omega)).mono ?_
 rintro g w' ⟨rfl, X2, hC'⟩
 have hf : decide (k = ops.length) = false := by simp; omega
 rw [hf] at X2
 exact ⟨_, ⟨rfl, ⟨k, PC, N, aa, ac, X2.mono fun _ h => .inl h, ha, .inr ⟨d, o, rfl, ho, rfl, hd, rfl⟩⟩, hC'⟩, rfl⟩
end
end
section
noncomputable def reg75_0 := rg Try.f75.body [0]
noncomputable def reg75_1 := rg Try.f75.body [1, 0, 0]
noncomputable def reg75_2 := rg Try.f75.body [1, 0, 1, 0, 0]
noncomputable def reg75_3 := rg Try.f75.body [1, 1, 0]
noncomputable def reg75_4 := rg Try.f75.body [1, 1, 1, 0, 0]
noncomputable def reg75_5 := rg Try.f75.body [1, 1, 1, 0, 1, 0]
noncomputable def reg75_6 := rg Try.f75.body [1, 1, 1, 1, 0]
theorem z75 : List.range reg75_0.size = [0] ∧ List.range reg75_1.size = [0, 1, 2, 3, 4, 5, 6, 7, 8, 9, 10, 11, 12, 13] ∧ List.range reg75_2.size = [0] ∧ List.range reg75_3.size = [0, 1, 2, 3, 4] ∧ List.range reg75_4.size = [0, 1, 2, 3] ∧ List.range reg75_5.size = [0, 1, 2, 3, 4, 5, 6, 7, 8, 9] ∧ List.range reg75_6.size = [0] := by refine ⟨?_, ?_, ?_, ?_, ?_, ?_, ?_⟩ <;> kernel_rfl
theorem code75_is : Try.f75.body = some (.seq (.region 0 reg75_0 false) (.seq (.seq (.region 1 reg75_1 false) (.cond (.tmp 24 ) (.seq (.region 2 reg75_2 false) (.ret)) (.skip))) (.seq (.region 3 reg75_3 false) (.seq (.seq (.region 4 reg75_4 false) (.cond (.tmp 32 ) (.region 5 reg75_5 false) (.skip))) (.seq (.region 6 reg75_6 false) (.ret)))))) := by kernel_rfl
section
variable {main : Bool} {S : Nat → Prop} {m nb vb n cn cv : Nat} {tl : Value} {s : Sk}
theorem ma_hd {tg : Bool} {w w' : World} {to : Int} (X : MaX S m nb vb n cn cv tg tl s w) (h1 : -1 ≤ to) (h2 : to < n) (hn : n ≤ 65536) (hb : w'.heap[m]? = some (.cells (maA (.slice (some ⟨nb, 0, none⟩) n cn) (.slice (some ⟨vb, 0, none⟩) n cv) to (turnTag tg s.hd) (nodeX s.fr) (tagX s.fr) tg tl) 87)) (h : ∀ g, g ≠ m → w'.heap[g]? = w.heap[g]?) : MaX S m nb vb n cn cv tg tl { s with hd := heldX to (turnTag tg s.hd) } w' := by
 obtain ⟨a1, e1, e1'⟩ := X.nx
 obtain ⟨a2, e2, e2'⟩ := X.vl
 obtain ⟨n1, n2, n3⟩ := X.ne
 have hO := X.hd.turn tg h1 h2 hn
 have hT := tag_held X.hd tg h1 h2 hn
 refine ⟨?_, ⟨a1, (h nb (Ne.symm n1)).trans e1, e1'⟩, ⟨a2, (h vb (Ne.symm n2)).trans e2, e2'⟩, hO.1, X.fr, X.nxb, fun ht => ⟨by show tagX (heldX to (turnTag tg s.hd)) = 0; rw [hT, ht]; rfl, (X.tag ht).2⟩, X.sm, X.sn, X.sv, X.ne⟩
 ·show w'.heap[m]? = some (.cells (maA (.slice (some ⟨nb, 0, none⟩) n cn) (.slice (some ⟨vb, 0, none⟩) n cv) (nodeX (heldX to (turnTag tg s.hd))) (tagX (heldX to (turnTag tg s.hd))) (nodeX s.fr) (tagX s.fr) tg tl) 87)
  rw [hO.2, hT]
  exact hb
theorem turn_hd_yes (tg : Bool) (to : Int) (w : World) (X : MaX S m nb vb n cn cv tg tl s w) (h1 : -1 ≤ to) (h2 : to < n) (hn : n ≤ 65536) :
  CallW Try.prog main (fun _ => none) 75 #[.pointer (some ⟨m, 0, none⟩), .pointer (some ⟨m, 2, none⟩), .int .i64 (nodeX s.hd), .int .i64 (tagX s.hd), .int .i64 to] w (fun v w' => v = .bool true ∧ MaX S m nb vb n cn cv tg tl { s with hd := heldX to (turnTag tg s.hd) } w' ∧ Chg S w w') := by
 intro c cs
 have c0 : w.cell? ⟨m, 2, none⟩ = some (.int .i64 (nodeX s.hd)) := mc2 X.blk
 have c1 : w.cell? ⟨m, 2 + 1, none⟩ = some (.int .i64 (tagX s.hd)) := mc3 X.blk
 have z0 := frozen_of X.blk 2
 have hb1 : (nodeX s.hd != nodeX s.hd) = false := by simp
 have hb2 : (tagX s.hd != tagX s.hd) = false := by simp
 obtain ⟨t1, t2, t3⟩ := tag_turn X.hd
 rw [enter_at _ Try.func75 code75_is]
 simp only [Try.ntmps75, ez, Nat.reduceAdd, Nat.reduceSub]
 refine Walk.gz z75 ?_
 (have hfr := fr0 m 2; refine Walk.os hfr c0 ?_; clear hfr; try walk_nrm)
 cases tg with
 | true =>
  have d1 : (w.setCell ⟨m, 2, none⟩ (.int .i64 to)).heap[m]? = some (.cells (maA (.slice (some ⟨nb, 0, none⟩) n cn) (.slice (some ⟨vb, 0, none⟩) n cv) to (tagX s.hd) (nodeX s.fr) (tagX s.fr) true tl) 87) := by
   rw [heap_set_self _ _ X.blk]
   simp [maA]
  have o1 : ∀ g, g ≠ m → (w.setCell ⟨m, 2, none⟩ (.int .i64 to)).heap[g]? = w.heap[g]? := fun g hg => heap_set_other _ _ _ _ hg
  have s1 := size_set w ⟨m, 2, none⟩ (.int .i64 to)
  clear c0 c1 z0
  generalize w.setCell ⟨m, 2, none⟩ (.int .i64 to) = w1 at *
  have c6 := mc6 d1
  have c1 : w1.cell? ⟨m, 2 + 1, none⟩ = some (.int .i64 (tagX s.hd)) := mc3 d1
  have z1 : w1.frozen? ⟨m, 2 + 1, none⟩ = false := frozen_of d1 (2 + 1)
  have hw1 : IntKind.i64.wrap (tagX s.hd + 1) = tagX s.hd + 1 := by rw [IntKind.wrap_i64]; omega
  have ht : Int.tmod (tagX s.hd + 1) 2147483648 = turnTag true s.hd := by rw [t1, Int.tmod_eq_emod_of_nonneg (by omega)]
  clear t1
  refine Walk.gz z75 ?_
  (have hfr := fr0 m (2 + 1); refine Walk.os hfr c1 ?_; clear hfr; try walk_nrm)
  have d2 : (w1.setCell ⟨m, 2 + 1, none⟩ (.int .i64 (turnTag true s.hd))).heap[m]? = some (.cells (maA (.slice (some ⟨nb, 0, none⟩) n cn) (.slice (some ⟨vb, 0, none⟩) n cv) to (turnTag true s.hd) (nodeX s.fr) (tagX s.fr) true tl) 87) := by
   rw [heap_set_self _ _ d1]
   simp [maA]
  have hX := ma_hd (to := to) X h1 h2 hn d2 fun g hg => (heap_set_other _ _ _ _ hg).trans (o1 g hg)
  have hC : Chg S w (w1.setCell ⟨m, 2 + 1, none⟩ (.int .i64 (turnTag true s.hd))) := ⟨by rw [size_set, s1]; exact Nat.le_refl _, fun g hg hn => (heap_set_other _ _ _ _ (fun e => hn (by rw [e]; exact X.sm))).trans (o1 g fun e => hn (by rw [e]; exact X.sm))⟩
  clear c6 c1 z1 hw1 ht d1 d2 o1 s1
  generalize w1.setCell ⟨m, 2 + 1, none⟩ (.int .i64 (turnTag true s.hd)) = w2 at *
  refine Walk.gz z75 ?_
  exact Walk.on1 rfl rfl Try.func75 rfl (.stop fun d => ⟨_, ⟨rfl, hX.at d, hC.at d⟩, rfl⟩)
 | false =>
  have hz : turnTag false s.hd = 0 := rfl
  have d1 : (w.setCell ⟨m, 2, none⟩ (.int .i64 to)).heap[m]? = some (.cells (maA (.slice (some ⟨nb, 0, none⟩) n cn) (.slice (some ⟨vb, 0, none⟩) n cv) to (turnTag false s.hd) (nodeX s.fr) (tagX s.fr) false tl) 87) := by
   rw [heap_set_self _ _ X.blk, hz, (X.tag rfl).1]
   simp [maA]
  have hX := ma_hd (to := to) X h1 h2 hn d1 fun g hg => heap_set_other _ _ _ _ hg
  have hC : Chg S w (w.setCell ⟨m, 2, none⟩ (.int .i64 to)) := Chg.set X.sm
  clear c0 c1 z0
  have c6 := mc6 d1
  clear d1
  generalize w.setCell ⟨m, 2, none⟩ (.int .i64 to) = w1 at *
  refine Walk.gz z75 ?_
  exact Walk.on1 rfl rfl Try.func75 rfl (.stop fun d => ⟨_, ⟨rfl, hX.at d, hC.at d⟩, rfl⟩)
theorem turn_hd_no (tg : Bool) (node tag to : Int) (w : World) (X : MaX S m nb vb n cn cv tg tl s w) (hne : ¬ (nodeX s.hd = node ∧ tagX s.hd = tag)) :
  CallV Try.prog main (fun _ => none) 75 #[.pointer (some ⟨m, 0, none⟩), .pointer (some ⟨m, 2, none⟩), .int .i64 node, .int .i64 tag, .int .i64 to] w (.bool false) w := by
 intro c cs
 have c0 : w.cell? ⟨m, 2, none⟩ = some (.int .i64 (nodeX s.hd)) := mc2 X.blk
 have c1 : w.cell? ⟨m, 2 + 1, none⟩ = some (.int .i64 (tagX s.hd)) := mc3 X.blk
 clear X
 generalize nodeX s.hd = A at *
 generalize tagX s.hd = T at *
 rw [enter_at _ Try.func75 code75_is]
 simp only [Try.ntmps75, ez, Nat.reduceAdd, Nat.reduceSub]
 by_cases ha : A = node
 ·have hb2 : (T != tag) = true := by simp; exact fun e => hne ⟨ha, e⟩
  have hb1 : (A != node) = false := by simp [ha]
  clear ha hne
  refine Walk.gz z75 ?_
  exact Walk.on1 rfl rfl Try.func75 rfl (.stop fun d => ⟨_, ⟨rfl, d, rfl⟩, rfl⟩)
 ·have hb1 : (A != node) = true := by simpa using ha
  clear ha hne
  refine Walk.gz z75 ?_
  exact Walk.on1 rfl rfl Try.func75 rfl (.stop fun d => ⟨_, ⟨rfl, d, rfl⟩, rfl⟩)
theorem ma_fr {tg : Bool} {w w' : World} {to : Int} (X : MaX S m nb vb n cn cv tg tl s w) (h1 : -1 ≤ to) (h2 : to < n) (hn : n ≤ 65536) (hb : w'.heap[m]? = some (.cells (maA (.slice (some ⟨nb, 0, none⟩) n cn) (.slice (some ⟨vb, 0, none⟩) n cv) (nodeX s.hd) (tagX s.hd) to (turnTag tg s.fr) tg tl) 87)) (h : ∀ g, g ≠ m → w'.heap[g]? = w.heap[g]?) : MaX S m nb vb n cn cv tg tl { s with fr := heldX to (turnTag tg s.fr) } w' := by
 obtain ⟨a1, e1, e1'⟩ := X.nx
 obtain ⟨a2, e2, e2'⟩ := X.vl
 obtain ⟨n1, n2, n3⟩ := X.ne
 have hO := X.fr.turn tg h1 h2 hn
 have hT := tag_held X.fr tg h1 h2 hn
 refine ⟨?_, ⟨a1, (h nb (Ne.symm n1)).trans e1, e1'⟩, ⟨a2, (h vb (Ne.symm n2)).trans e2, e2'⟩, X.hd, hO.1, X.nxb, fun ht => ⟨(X.tag ht).1, by show tagX (heldX to (turnTag tg s.fr)) = 0; rw [hT, ht]; rfl⟩, X.sm, X.sn, X.sv, X.ne⟩
 ·show w'.heap[m]? = some (.cells (maA (.slice (some ⟨nb, 0, none⟩) n cn) (.slice (some ⟨vb, 0, none⟩) n cv) (nodeX s.hd) (tagX s.hd) (nodeX (heldX to (turnTag tg s.fr))) (tagX (heldX to (turnTag tg s.fr))) tg tl) 87)
  rw [hO.2, hT]
  exact hb
theorem turn_fr_yes (tg : Bool) (to : Int) (w : World) (X : MaX S m nb vb n cn cv tg tl s w) (h1 : -1 ≤ to) (h2 : to < n) (hn : n ≤ 65536) :
  CallW Try.prog main (fun _ => none) 75 #[.pointer (some ⟨m, 0, none⟩), .pointer (some ⟨m, 4, none⟩), .int .i64 (nodeX s.fr), .int .i64 (tagX s.fr), .int .i64 to] w (fun v w' => v = .bool true ∧ MaX S m nb vb n cn cv tg tl { s with fr := heldX to (turnTag tg s.fr) } w' ∧ Chg S w w') := by
 intro c cs
 have c0 : w.cell? ⟨m, 4, none⟩ = some (.int .i64 (nodeX s.fr)) := mc4 X.blk
 have c1 : w.cell? ⟨m, 4 + 1, none⟩ = some (.int .i64 (tagX s.fr)) := mc5 X.blk
 have z0 := frozen_of X.blk 4
 have hb1 : (nodeX s.fr != nodeX s.fr) = false := by simp
 have hb2 : (tagX s.fr != tagX s.fr) = false := by simp
 obtain ⟨t1, t2, t3⟩ := tag_turn X.fr
 rw [enter_at _ Try.func75 code75_is]
 simp only [Try.ntmps75, ez, Nat.reduceAdd, Nat.reduceSub]
 refine Walk.gz z75 ?_
 (have hfr := fr0 m 4; refine Walk.os hfr c0 ?_; clear hfr; try walk_nrm)
 cases tg with
 | true =>
  have d1 : (w.setCell ⟨m, 4, none⟩ (.int .i64 to)).heap[m]? = some (.cells (maA (.slice (some ⟨nb, 0, none⟩) n cn) (.slice (some ⟨vb, 0, none⟩) n cv) (nodeX s.hd) (tagX s.hd) to (tagX s.fr) true tl) 87) := by
   rw [heap_set_self _ _ X.blk]
   simp [maA]
  have o1 : ∀ g, g ≠ m → (w.setCell ⟨m, 4, none⟩ (.int .i64 to)).heap[g]? = w.heap[g]? := fun g hg => heap_set_other _ _ _ _ hg
  have s1 := size_set w ⟨m, 4, none⟩ (.int .i64 to)
  clear c0 c1 z0
  generalize w.setCell ⟨m, 4, none⟩ (.int .i64 to) = w1 at *
  have c6 := mc6 d1
  have c1 : w1.cell? ⟨m, 4 + 1, none⟩ = some (.int .i64 (tagX s.fr)) := mc5 d1
  have z1 : w1.frozen? ⟨m, 4 + 1, none⟩ = false := frozen_of d1 (4 + 1)
  have hw1 : IntKind.i64.wrap (tagX s.fr + 1) = tagX s.fr + 1 := by rw [IntKind.wrap_i64]; omega
  have ht : Int.tmod (tagX s.fr + 1) 2147483648 = turnTag true s.fr := by rw [t1, Int.tmod_eq_emod_of_nonneg (by omega)]
  clear t1
  refine Walk.gz z75 ?_
  (have hfr := fr0 m (4 + 1); refine Walk.os hfr c1 ?_; clear hfr; try walk_nrm)
  have d2 : (w1.setCell ⟨m, 4 + 1, none⟩ (.int .i64 (turnTag true s.fr))).heap[m]? = some (.cells (maA (.slice (some ⟨nb, 0, none⟩) n cn) (.slice (some ⟨vb, 0, none⟩) n cv) (nodeX s.hd) (tagX s.hd) to (turnTag true s.fr) true tl) 87) := by
   rw [heap_set_self _ _ d1]
   simp [maA]
  have hX := ma_fr (to := to) X h1 h2 hn d2 fun g hg => (heap_set_other _ _ _ _ hg).trans (o1 g hg)
  have hC : Chg S w (w1.setCell ⟨m, 4 + 1, none⟩ (.int .i64 (turnTag true s.fr))) := ⟨by rw [size_set, s1]; exact Nat.le_refl _, fun g hg hn => (heap_set_other _ _ _ _ (fun e => hn (by rw [e]; exact X.sm))).trans (o1 g fun e => hn (by rw [e]; exact X.sm))⟩
  clear c6 c1 z1 hw1 ht d1 d2 o1 s1
  generalize w1.setCell ⟨m, 4 + 1, none⟩ (.int .i64 (turnTag true s.fr)) = w2 at *
  refine Walk.gz z75 ?_
  exact Walk.on1 rfl rfl Try.func75 rfl (.stop fun d => ⟨_, ⟨rfl, hX.at d, hC.at d⟩, rfl⟩)
 | false =>
  have hz : turnTag false s.fr = 0 := rfl
  have d1 : (w.setCell ⟨m, 4, none⟩ (.int .i64 to)).heap[m]? = some (.cells (maA (.slice (some ⟨nb, 0, none⟩) n cn) (.slice (some ⟨vb, 0, none⟩) n cv) (nodeX s.hd) (tagX s.hd) to (turnTag false s.fr) false tl) 87) := by
   rw [heap_set_self _ _ X.blk, hz, (X.tag rfl).2]
   simp [maA]
  have hX := ma_fr (to := to) X h1 h2 hn d1 fun g hg => heap_set_other _ _ _ _ hg
  have hC : Chg S w (w.setCell ⟨m, 4, none⟩ (.int .i64 to)) := Chg.set X.sm
  clear c0 c1 z0
  have c6 := mc6 d1
  clear d1
  generalize w.setCell ⟨m, 4, none⟩ (.int .i64 to) = w1 at *
  refine Walk.gz z75 ?_
  exact Walk.on1 rfl rfl Try.func75 rfl (.stop fun d => ⟨_, ⟨rfl, hX.at d, hC.at d⟩, rfl⟩)
theorem turn_fr_no (tg : Bool) (node tag to : Int) (w : World) (X : MaX S m nb vb n cn cv tg tl s w) (hne : ¬ (nodeX s.fr = node ∧ tagX s.fr = tag)) :
  CallV Try.prog main (fun _ => none) 75 #[.pointer (some ⟨m, 0, none⟩), .pointer (some ⟨m, 4, none⟩), .int .i64 node, .int .i64 tag, .int .i64 to] w (.bool false) w := by
 intro c cs
 have c0 : w.cell? ⟨m, 4, none⟩ = some (.int .i64 (nodeX s.fr)) := mc4 X.blk
 have c1 : w.cell? ⟨m, 4 + 1, none⟩ = some (.int .i64 (tagX s.fr)) := mc5 X.blk
 clear X
 generalize nodeX s.fr = A at *
 generalize tagX s.fr = T at *
 rw [enter_at _ Try.func75 code75_is]
 simp only [Try.ntmps75, ez, Nat.reduceAdd, Nat.reduceSub]
 by_cases ha : A = node
 ·have hb2 : (T != tag) = true := by simp; exact fun e => hne ⟨ha, e⟩
  have hb1 : (A != node) = false := by simp [ha]
  clear ha hne
  refine Walk.gz z75 ?_
  exact Walk.on1 rfl rfl Try.func75 rfl (.stop fun d => ⟨_, ⟨rfl, d, rfl⟩, rfl⟩)
 ·have hb1 : (A != node) = true := by simpa using ha
  clear ha hne
  refine Walk.gz z75 ?_
  exact Walk.on1 rfl rfl Try.func75 rfl (.stop fun d => ⟨_, ⟨rfl, d, rfl⟩, rfl⟩)
end
end
section
def MidR (Sm St : Nat → Prop) (m nb vb n cn cv : Nat) (tg : Bool) (tl : Value) (b : Nat) (ops : List OpV) (oa : Option Addr) (oc k : Nat) (o : OpV) (ans : List Ans) (e : Bool) (r : Sk × (Ans ⊕ SD)) (w w' : World) : Prop :=
 MaX Sm m nb vb n cn cv tg tl r.1 w' ∧ Chg (fun g => Sm g ∨ St g) w w' ∧
 match r.2 with
 | .inl a => ∃ (N : Nat → Int) (aa : Option Addr) (ac : Nat), ThX (fun g => St g ∨ w.heap.size ≤ g) b ops oa oc ((k + 1 : Nat) : Int) 0 N (ans ++ [a]) aa ac e w'
 | .inr d => ∃ (PC : Int) (N : Nat → Int) (aa : Option Addr) (ac : Nat), ThX (fun g => St g ∨ w.heap.size ≤ g) b ops oa oc (k : Nat) PC N ans aa ac e w' ∧ dR n o PC N d
section
variable {Sm St : Nat → Prop} {m nb vb n cn cv : Nat} {tg : Bool} {tl : Value} {b : Nat} {ops : List OpV} {oa : Option Addr} {oc k : Nat} {o : OpV} {PC : Int} {N : Nat → Int} {ans : List Ans} {aa : Option Addr} {ac : Nat} {e : Bool} {s : Sk} {w w1 w' : World}
theorem mid_end {s' : Sk} {a : Ans} (M' : MaX Sm m nb vb n cn cv tg tl s' w') (hC : Chg (fun g => Sm g ∨ St g) w w') {aa' : Option Addr} {ac' : Nat} (X' : ThX (fun g => St g ∨ w.heap.size ≤ g) b ops oa oc ((k + 1 : Nat) : Int) 0 N (ans ++ [a]) aa' ac' e w') :
  MidR Sm St m nb vb n cn cv tg tl b ops oa oc k o ans e (s', .inl a) w w' := ⟨M', hC, N, aa', ac', X'⟩
theorem MidR.at {r : Sk × (Ans ⊕ SD)} (h : MidR Sm St m nb vb n cn cv tg tl b ops oa oc k o ans e r w w') (d : Nat) : MidR Sm St m nb vb n cn cv tg tl b ops oa oc k o ans e r w (w'.at d) := by
 obtain ⟨h1, h2, h3⟩ := h
 refine ⟨h1.at d, h2.at d, ?_⟩
 cases hr : r.2 with
 | inl a =>
  rw [hr] at h3
  obtain ⟨N, aa, ac, X⟩ := h3
  exact ⟨N, aa, ac, X.at d⟩
 | inr x =>
  rw [hr] at h3
  obtain ⟨PC, N, aa, ac, X, hd⟩ := h3
  exact ⟨PC, N, aa, ac, X.at d, hd⟩
theorem ma_vl {i : Nat} {v : Int} (M : MaX Sm m nb vb n cn cv tg tl s w) (hi : i < n) : MaX Sm m nb vb n cn cv tg tl { s with vl := upd s.vl i v } (w.setCell ⟨vb, i, none⟩ (.int .i64 v)) := by
 obtain ⟨a1, e1, e1'⟩ := M.nx
 obtain ⟨a2, e2, e2'⟩ := M.vl
 obtain ⟨n1, n2, n3⟩ := M.ne
 refine ⟨(heap_set_other _ _ _ _ n2).trans M.blk, ⟨a1, (heap_set_other _ _ _ _ n3).trans e1, e1'⟩, ⟨_, heap_set_self _ _ e2, fun j hj => ?_⟩, M.hd, M.fr, M.nxb, M.tag, M.sm, M.sn, M.sv, M.ne⟩
 have hl := (Array.getElem?_eq_some_iff.1 (e2' i hi)).1
 by_cases h : j = i
 ·subst h
  rw [Array.getElem?_setIfInBounds_self_of_lt hl]
  simp only [upd_same]
 ·rw [Array.getElem?_setIfInBounds_ne (Ne.symm h)]
  simp only [upd_ne _ _ h]
  exact e2' j hj
theorem ma_nx {i : Nat} {v : Int} (M : MaX Sm m nb vb n cn cv tg tl s w) (hi : i < n) (h1 : -1 ≤ v) (h2 : v < n) : MaX Sm m nb vb n cn cv tg tl { s with nx := upd s.nx i v } (w.setCell ⟨nb, i, none⟩ (.int .i64 v)) := by
 obtain ⟨a1, e1, e1'⟩ := M.nx
 obtain ⟨a2, e2, e2'⟩ := M.vl
 obtain ⟨n1, n2, n3⟩ := M.ne
 refine ⟨(heap_set_other _ _ _ _ n1).trans M.blk, ⟨_, heap_set_self _ _ e1, fun j hj => ?_⟩, ⟨a2, (heap_set_other _ _ _ _ (Ne.symm n3)).trans e2, e2'⟩, M.hd, M.fr, fun j hj => ?_, M.tag, M.sm, M.sn, M.sv, M.ne⟩
 ·have hl := (Array.getElem?_eq_some_iff.1 (e1' i hi)).1
  by_cases h : j = i
  ·subst h
   rw [Array.getElem?_setIfInBounds_self_of_lt hl]
   simp only [upd_same]
  ·rw [Array.getElem?_setIfInBounds_ne (Ne.symm h)]
   simp only [upd_ne _ _ h]
   exact e1' j hj
 ·by_cases h : j = i
  ·subst h
   simp only [upd_same]
   exact ⟨h1, h2⟩
  ·simp only [upd_ne _ _ h]
   exact M.nxb j hj
theorem MaX.nxc (M : MaX Sm m nb vb n cn cv tg tl s w) {i : Nat} (hi : i < n) : w.cell? ⟨nb, i, none⟩ = some (.int .i64 (s.nx i)) := by
 obtain ⟨a1, e1, e1'⟩ := M.nx
 exact (cell_of e1 i).trans (e1' i hi)
theorem MaX.vlc (M : MaX Sm m nb vb n cn cv tg tl s w) {i : Nat} (hi : i < n) : w.cell? ⟨vb, i, none⟩ = some (.int .i64 (s.vl i)) := by
 obtain ⟨a1, e1, e1'⟩ := M.vl
 exact (cell_of e1 i).trans (e1' i hi)
theorem MaX.nxz (M : MaX Sm m nb vb n cn cv tg tl s w) {i : Nat} : w.frozen? ⟨nb, i, none⟩ = false := by
 obtain ⟨a1, e1, e1'⟩ := M.nx
 exact frozen_of e1 i
theorem MaX.vlz (M : MaX Sm m nb vb n cn cv tg tl s w) {i : Nat} : w.frozen? ⟨vb, i, none⟩ = false := by
 obtain ⟨a1, e1, e1'⟩ := M.vl
 exact frozen_of e1 i
end
end
section
noncomputable def reg60_0 := rg Try.f60.body [0]
noncomputable def reg60_1 := rg Try.f60.body [1, 0, 0]
noncomputable def reg60_2 := rg Try.f60.body [1, 0, 1, 0, 0]
theorem size60_2 : reg60_2.size = 10 := by kernel_rfl
noncomputable def reg60_3 := rg Try.f60.body [1, 0, 1, 0, 1, 0]
theorem size60_3 : reg60_3.size = 10 := by kernel_rfl
noncomputable def reg60_4 := rg Try.f60.body [1, 0, 1, 0, 1, 1, 0]
noncomputable def reg60_5 := rg Try.f60.body [1, 0, 1, 0, 1, 1, 1, 0]
noncomputable def reg60_6 := rg Try.f60.body [1, 0, 1, 0, 1, 1, 1, 1, 0]
noncomputable def reg60_7 := rg Try.f60.body [1, 0, 1, 1, 0]
noncomputable def reg60_8 := rg Try.f60.body [1, 0, 1, 1, 1, 0, 0]
theorem size60_8 : reg60_8.size = 16 := by kernel_rfl
noncomputable def reg60_9 := rg Try.f60.body [1, 0, 1, 1, 1, 0, 1]
noncomputable def reg60_10 := rg Try.f60.body [1, 0, 1, 1, 1, 1, 0]
noncomputable def reg60_11 := rg Try.f60.body [1, 0, 1, 1, 1, 1, 1, 0, 0]
noncomputable def reg60_12 := rg Try.f60.body [1, 0, 1, 1, 1, 1, 1, 0, 1, 0]
theorem size60_12 : reg60_12.size = 20 := by kernel_rfl
noncomputable def reg60_13 := rg Try.f60.body [1, 0, 1, 1, 1, 1, 1, 0, 1, 1, 0, 0]
theorem size60_13 : reg60_13.size = 10 := by kernel_rfl
noncomputable def reg60_14 := rg Try.f60.body [1, 0, 1, 1, 1, 1, 1, 0, 1, 1, 0, 1]
noncomputable def reg60_15 := rg Try.f60.body [1, 0, 1, 1, 1, 1, 1, 1, 0]
noncomputable def reg60_16 := rg Try.f60.body [1, 0, 1, 1, 1, 1, 1, 1, 1, 0, 0]
theorem size60_16 : reg60_16.size = 14 := by kernel_rfl
noncomputable def reg60_17 := rg Try.f60.body [1, 0, 1, 1, 1, 1, 1, 1, 1, 0, 1]
noncomputable def reg60_18 := rg Try.f60.body [1, 0, 1, 1, 1, 1, 1, 1, 1, 1, 0]
noncomputable def reg60_19 := rg Try.f60.body [1, 0, 1, 1, 1, 1, 1, 1, 1, 1, 1, 0, 0]
theorem size60_19 : reg60_19.size = 10 := by kernel_rfl
noncomputable def reg60_20 := rg Try.f60.body [1, 0, 1, 1, 1, 1, 1, 1, 1, 1, 1, 0, 1, 0]
theorem size60_20 : reg60_20.size = 10 := by kernel_rfl
noncomputable def reg60_21 := rg Try.f60.body [1, 0, 1, 1, 1, 1, 1, 1, 1, 1, 1, 0, 1, 1]
noncomputable def reg60_22 := rg Try.f60.body [1, 0, 1, 1, 1, 1, 1, 1, 1, 1, 1, 1, 0]
noncomputable def reg60_23 := rg Try.f60.body [1, 0, 1, 1, 1, 1, 1, 1, 1, 1, 1, 1, 1, 0, 0]
theorem size60_23 : reg60_23.size = 16 := by kernel_rfl
noncomputable def reg60_24 := rg Try.f60.body [1, 0, 1, 1, 1, 1, 1, 1, 1, 1, 1, 1, 1, 0, 1]
noncomputable def reg60_25 := rg Try.f60.body [1, 0, 1, 1, 1, 1, 1, 1, 1, 1, 1, 1, 1, 1, 0]
noncomputable def reg60_26 := rg Try.f60.body [1, 0, 1, 1, 1, 1, 1, 1, 1, 1, 1, 1, 1, 1, 1, 0, 0]
noncomputable def reg60_27 := rg Try.f60.body [1, 0, 1, 1, 1, 1, 1, 1, 1, 1, 1, 1, 1, 1, 1, 0, 1, 0]
theorem size60_27 : reg60_27.size = 20 := by kernel_rfl
noncomputable def reg60_28 := rg Try.f60.body [1, 0, 1, 1, 1, 1, 1, 1, 1, 1, 1, 1, 1, 1, 1, 0, 1, 1, 0]
theorem z60 : List.range reg60_0.size = [0, 1, 2, 3] ∧ List.range reg60_1.size = [0, 1] ∧ List.range reg60_2.size = [0, 1, 2, 3, 4, 5, 6, 7, 8, 9] ∧ List.range reg60_3.size = [0, 1, 2, 3, 4, 5, 6, 7, 8, 9] ∧ List.range reg60_4.size = [0, 1, 2, 3] ∧ List.range reg60_5.size = [0, 1, 2, 3, 4, 5] ∧ List.range reg60_6.size = [0, 1, 2] ∧ List.range reg60_7.size = [0, 1] ∧ List.range reg60_8.size = [0, 1, 2, 3, 4, 5, 6, 7, 8, 9, 10, 11, 12, 13, 14, 15] ∧ List.range reg60_9.size = [0, 1, 2, 3] ∧ List.range reg60_10.size = [0, 1] ∧ List.range reg60_11.size = [0, 1, 2, 3] ∧ List.range reg60_12.size = [0, 1, 2, 3, 4, 5, 6, 7, 8, 9, 10, 11, 12, 13, 14, 15, 16, 17, 18, 19] ∧ List.range reg60_13.size = [0, 1, 2, 3, 4, 5, 6, 7, 8, 9] ∧ List.range reg60_14.size = [0, 1, 2, 3] ∧ List.range reg60_15.size = [0, 1] ∧ List.range reg60_16.size = [0, 1, 2, 3, 4, 5, 6, 7, 8, 9, 10, 11, 12, 13] ∧ List.range reg60_17.size = [0, 1, 2, 3] ∧ List.range reg60_18.size = [0, 1] ∧ List.range reg60_19.size = [0, 1, 2, 3, 4, 5, 6, 7, 8, 9] ∧ List.range reg60_20.size = [0, 1, 2, 3, 4, 5, 6, 7, 8, 9] ∧ List.range reg60_21.size = [0, 1, 2, 3] ∧ List.range reg60_22.size = [0, 1] ∧ List.range reg60_23.size = [0, 1, 2, 3, 4, 5, 6, 7, 8, 9, 10, 11, 12, 13, 14, 15] ∧ List.range reg60_24.size = [0, 1, 2, 3] ∧ List.range reg60_25.size = [0, 1] ∧ List.range reg60_26.size = [0, 1, 2, 3] ∧ List.range reg60_27.size = [0, 1, 2, 3, 4, 5, 6, 7, 8, 9, 10, 11, 12, 13, 14, 15, 16, 17, 18, 19] ∧ List.range reg60_28.size = [0, 1, 2] := by refine ⟨?_, ?_, ?_, ?_, ?_, ?_, ?_, ?_, ?_, ?_, ?_, ?_, ?_, ?_, ?_, ?_, ?_, ?_, ?_, ?_, ?_, ?_, ?_, ?_, ?_, ?_, ?_, ?_, ?_⟩ <;> kernel_rfl
theorem code60_is : Try.f60.body = some (.seq (.region 0 reg60_0 false) (.block 0 (.seq (.region 1 reg60_1 false) (.cond (.tmp 8 ) (.seq (.region 2 reg60_2 true) (.seq (.region 3 reg60_3 true) (.seq (.region 4 reg60_4 false) (.seq (.region 5 reg60_5 false) (.cond (.tmp 36 ) (.region 6 reg60_6 false) (.skip)))))) (.seq (.region 7 reg60_7 false) (.cond (.tmp 40 ) (.seq (.region 8 reg60_8 true) (.region 9 reg60_9 false)) (.seq (.region 10 reg60_10 false) (.cond (.tmp 60 ) (.seq (.region 11 reg60_11 false) (.seq (.region 12 reg60_12 true) (.cond (.tmp 84 ) (.seq (.region 13 reg60_13 true) (.region 14 reg60_14 false)) (.skip)))) (.seq (.region 15 reg60_15 false) (.cond (.tmp 97 ) (.seq (.region 16 reg60_16 true) (.region 17 reg60_17 false)) (.seq (.region 18 reg60_18 false) (.cond (.tmp 115 ) (.seq (.region 19 reg60_19 true) (.seq (.region 20 reg60_20 true) (.region 21 reg60_21 false))) (.seq (.region 22 reg60_22 false) (.cond (.tmp 138 ) (.seq (.region 23 reg60_23 true) (.region 24 reg60_24 false)) (.seq (.region 25 reg60_25 false) (.cond (.tmp 158 ) (.seq (.region 26 reg60_26 false) (.seq (.region 27 reg60_27 true) (.cond (.tmp 182 ) (.region 28 reg60_28 false) (.skip)))) (.skip))))))))))))))))) := by kernel_rfl
section
variable {main : Bool} {Sm St : Nat → Prop} {m nb vb n cn cv : Nat} {tg : Bool} {tl : Value} {b : Nat} {ops : List OpV} {oa : Option Addr} {oc k : Nat} {o : OpV} {PC : Int} {N : Nat → Int} {ans : List Ans} {aa : Option Addr} {ac : Nat} {e : Bool} {s : Sk}
theorem evix0 (a : Addr) (w : World) (es : Array Event) : (Instr.indexAt 118 (.pointer (some a)) (.int .i64 0)).events Try.prog w es = es := events_indexAt_array 118 2 8 a .i64 0 (by kernel_rfl) ⟨by decide, by decide⟩
theorem evix1 (a : Addr) (w : World) (es : Array Event) : (Instr.indexAt 118 (.pointer (some a)) (.int .i64 1)).events Try.prog w es = es := events_indexAt_array 118 2 8 a .i64 1 (by kernel_rfl) ⟨by decide, by decide⟩
theorem evix2 (a : Addr) (w : World) (es : Array Event) : (Instr.indexAt 118 (.pointer (some a)) (.int .i64 2)).events Try.prog w es = es := events_indexAt_array 118 2 8 a .i64 2 (by kernel_rfl) ⟨by decide, by decide⟩
theorem evix3 (a : Addr) (w : World) (es : Array Event) : (Instr.indexAt 118 (.pointer (some a)) (.int .i64 3)).events Try.prog w es = es := events_indexAt_array 118 2 8 a .i64 3 (by kernel_rfl) ⟨by decide, by decide⟩
theorem evix4 (a : Addr) (w : World) (es : Array Event) : (Instr.indexAt 118 (.pointer (some a)) (.int .i64 4)).events Try.prog w es = es := events_indexAt_array 118 2 8 a .i64 4 (by kernel_rfl) ⟨by decide, by decide⟩
theorem evix5 (a : Addr) (w : World) (es : Array Event) : (Instr.indexAt 118 (.pointer (some a)) (.int .i64 5)).events Try.prog w es = es := events_indexAt_array 118 2 8 a .i64 5 (by kernel_rfl) ⟨by decide, by decide⟩
theorem evix6 (a : Addr) (w : World) (es : Array Event) : (Instr.indexAt 118 (.pointer (some a)) (.int .i64 6)).events Try.prog w es = es := events_indexAt_array 118 2 8 a .i64 6 (by kernel_rfl) ⟨by decide, by decide⟩
theorem evix7 (a : Addr) (w : World) (es : Array Event) : (Instr.indexAt 118 (.pointer (some a)) (.int .i64 7)).events Try.prog w es = es := events_indexAt_array 118 2 8 a .i64 7 (by kernel_rfl) ⟨by decide, by decide⟩
theorem push_1 (x : Int) (w : World) (X : ThX St b ops oa oc (k : Nat) PC N ans aa ac e w) (M : MaX Sm m nb vb n cn cv tg tl s w) (hdis : ∀ g, Sm g → ¬ St g) (hd : dR n o PC N (.pu1 x)) (hok : ops[k]? = some o) (hl : ops.length ≤ 65536) (hal : ans.length = k) (hn : n ≤ 65536) :
  CallW Try.prog main (fun _ => none) 60 #[.pointer (some ⟨m, 0, none⟩), .pointer (some ⟨b, 0, none⟩)] w (fun v w' => v = .tuple #[] ∧ MidR Sm St m nb vb n cn cv tg tl b ops oa oc k o ans e (skAct tg s (.pu1 x)) w w') := by
 intro c cs
 have hkl := (List.getElem?_eq_some_iff.1 hok).1
 have hbm : m ≠ b := fun h => hdis m M.sm (by rw [h]; exact X.sb)
 have hbn : nb ≠ b := fun h => hdis nb M.sn (by rw [h]; exact X.sb)
 have hbv : vb ≠ b := fun h => hdis vb M.sv (by rw [h]; exact X.sb)
 obtain ⟨rfl, hv⟩ := hd
 have hb0 := X.blk
 have ho0 : ∀ g, g ≠ b → w.heap[g]? = w.heap[g]? := fun _ _ => rfl
 have hs0 : w.heap.size = w.heap.size := rfl
 have hCB : Chg (fun g => Sm g ∨ St g) w w := Chg.refl
 have cP0 : w.cell? ⟨b, 2, none⟩ = some (.int .i64 10) := tcP hb0
 have hOk := M.fr
 have mfn0 : w.cell? ⟨m, 4, none⟩ = some (.int .i64 (nodeX s.fr)) := mc4 (M.same fun g _ hg => ho0 g (fun h => hdis g hg (by rw [h]; exact X.sb))).blk
 have mft0 : w.cell? ⟨m, 5, none⟩ = some (.int .i64 (tagX s.fr)) := mc5 (M.same fun g _ hg => ho0 g (fun h => hdis g hg (by rw [h]; exact X.sb))).blk
 have hia0 := evix0
 have hia1 := evix1
 have hia2 := evix2
 have hia3 := evix3
 have hia4 := evix4
 rw [enter_at _ Try.func60 code60_is]
 simp only [Try.ntmps60, ez, Nat.reduceAdd, Nat.reduceSub]
 refine Walk.gz z60 ?_
 have cX := tc0 hb0
 have zX := frozen_of hb0 3
 (refine Walk.drawnL (by kernel_rfl) size60_2 (by kernel_rfl) (by kernel_rfl) (by kernel_rfl) (by decide) ?_; simp only [List.range, List.range.loop]; repeat (first | (refine Cm.oq ?_) | (refine Cm.unw hoA (by rfl) ?_; walk_nrm)))
 refine Cm.done ?_
 intro rest hr0
 (have hfr := fr0 b 3; refine Walk.os hfr cX ?_; clear hfr; try walk_nrm)
 refine hr0 _ _ ?_
 have hb1 : (w.setCell ⟨b, 3, none⟩ (.int .i64 (nodeX s.fr))).heap[b]? = some (.cells (thA (.slice oa ops.length oc) (k : Nat) 10 (upd N 0 (nodeX s.fr)) (.slice none 0 0) (.slice aa ans.length ac) e) 120) := by rw [heap_set_self _ _ hb0, thA_0]
 have ho1 : ∀ g, g ≠ b → (w.setCell ⟨b, 3, none⟩ (.int .i64 (nodeX s.fr))).heap[g]? = w.heap[g]? := fun g hg => (heap_set_other _ _ _ _ hg).trans (ho0 g hg)
 have hs1 : (w.setCell ⟨b, 3, none⟩ (.int .i64 (nodeX s.fr))).heap.size = w.heap.size := (size_set ..).trans hs0
 clear cX zX
 generalize w.setCell ⟨b, 3, none⟩ (.int .i64 (nodeX s.fr)) = w1 at *
 try walk_nrm
 refine Walk.gz z60 ?_
 have mfn1 : w1.cell? ⟨m, 4, none⟩ = some (.int .i64 (nodeX s.fr)) := mc4 (M.same fun g _ hg => ho1 g (fun h => hdis g hg (by rw [h]; exact X.sb))).blk
 have mft1 : w1.cell? ⟨m, 5, none⟩ = some (.int .i64 (tagX s.fr)) := mc5 (M.same fun g _ hg => ho1 g (fun h => hdis g hg (by rw [h]; exact X.sb))).blk
 have cX := tc1 hb1
 have zX := frozen_of hb1 4
 (refine Walk.drawnL (by kernel_rfl) size60_3 (by kernel_rfl) (by kernel_rfl) (by kernel_rfl) (by decide) ?_; simp only [List.range, List.range.loop]; repeat (first | (refine Cm.oq ?_) | (refine Cm.unw hoA (by rfl) ?_; walk_nrm)))
 refine Cm.done ?_
 intro rest hr0
 (have hfr := fr0 b 4; refine Walk.os hfr cX ?_; clear hfr; try walk_nrm)
 refine hr0 _ _ ?_
 have hb2 : (w1.setCell ⟨b, 4, none⟩ (.int .i64 (tagX s.fr))).heap[b]? = some (.cells (thA (.slice oa ops.length oc) (k : Nat) 10 (upd (upd N 0 (nodeX s.fr)) 1 (tagX s.fr)) (.slice none 0 0) (.slice aa ans.length ac) e) 120) := by rw [heap_set_self _ _ hb1, thA_1]
 have ho2 : ∀ g, g ≠ b → (w1.setCell ⟨b, 4, none⟩ (.int .i64 (tagX s.fr))).heap[g]? = w.heap[g]? := fun g hg => (heap_set_other _ _ _ _ hg).trans (ho1 g hg)
 have hs2 : (w1.setCell ⟨b, 4, none⟩ (.int .i64 (tagX s.fr))).heap.size = w.heap.size := (size_set ..).trans hs1
 clear cX zX
 generalize w1.setCell ⟨b, 4, none⟩ (.int .i64 (tagX s.fr)) = w2 at *
 try walk_nrm
 refine Walk.gz z60 ?_
 have cP := tcP hb2
 have cX := tcP hb2
 have zX := frozen_of hb2 2
 (have hfr := fr0 b 2; refine Walk.os hfr cX ?_; clear hfr; try walk_nrm)
 have hb3 : (w2.setCell ⟨b, 2, none⟩ (.int .i64 11)).heap[b]? = some (.cells (thA (.slice oa ops.length oc) (k : Nat) 11 (upd (upd N 0 (nodeX s.fr)) 1 (tagX s.fr)) (.slice none 0 0) (.slice aa ans.length ac) e) 120) := by rw [heap_set_self _ _ hb2, thA_PC]
 have ho3 : ∀ g, g ≠ b → (w2.setCell ⟨b, 2, none⟩ (.int .i64 11)).heap[g]? = w.heap[g]? := fun g hg => (heap_set_other _ _ _ _ hg).trans (ho2 g hg)
 have hs3 : (w2.setCell ⟨b, 2, none⟩ (.int .i64 11)).heap.size = w.heap.size := (size_set ..).trans hs2
 clear cX zX
 generalize w2.setCell ⟨b, 2, none⟩ (.int .i64 11) = w3 at *
 try walk_nrm
 have n3_3 : w3.cell? ⟨b, 3, none⟩ = some (.int .i64 (nodeX s.fr)) := (tc0 hb3).trans (congrArg (fun z => some (Value.int .i64 z)) (rfl))
 by_cases hz : nodeX s.fr = -1
 ·have hzd : decide (nodeX s.fr < 0) = true := by simp; omega
  refine Walk.gz z60 ?_
  have Xe : ThX St b ops oa oc (k : Nat) 11 (upd (upd N 0 (nodeX s.fr)) 1 (tagX s.fr)) ans aa ac e w3 := X.put hb3 fun g hg _ _ => ho3 g hg
  have Me := M.same fun g _ hg => ho3 g (fun h => hdis g hg (by rw [h]; exact X.sb))
  have hCf : Chg (fun g => Sm g ∨ St g) w w3 := Chg.trans (S' := fun g => Sm g ∨ St g) hCB ⟨by omega, fun g _ hg => ho3 g (fun h => hg (.inr (by rw [h]; exact X.sb)))⟩ fun g _ h => h
  have hsf := hCf.size
  refine Walk.callW (Post := fun v w' => v = .tuple #[] ∧ (∃ aa' ac', ThX (fun g => St g ∨ w3.heap.size ≤ g) b ops oa oc ((k + 1 : Nat) : Int) 0 (upd (upd N 0 (nodeX s.fr)) 1 (tagX s.fr)) (ans ++ [(false, 0)]) aa' ac' e w') ∧ Chg St w3 w') ?_ hoA (by rfl) (by decide) rfl Try.func59 (by kernel_rfl) (by rfl) ?_
  ·walk_nrm
   exact end_w (false, 0) w3 Xe (by omega) (by omega)
  rintro v wE ⟨rfl, ⟨aa2, ac2, XE⟩, hCE⟩
  have ME := Me.chg hCE fun g _ h => hdis g h
  have hsE := hCE.size
  have hCE' : Chg (fun g => Sm g ∨ St g) w wE := Chg.trans (S' := St) hCf hCE fun g _ h => .inr h
  have XE' := XE.mono (S' := fun g => St g ∨ w.heap.size ≤ g) fun g hg => hg.imp id fun h => by omega
  walk_nrm
  refine Walk.gz z60 ?_
  refine Walk.ctl rfl (fun w => stepG_leave rfl rfl Try.func60 (results_none rfl _ _ w) (events_results_none rfl _ _)) (.stop fun d => ⟨_, ⟨rfl, MidR.at ?_ d⟩, rfl⟩)
  have hr : skAct tg s (.pu1 x) = (s, .inl (false, 0)) := if_pos hz
  rw [hr]
  exact mid_end ME hCE' XE'
 ·have hzd : decide (nodeX s.fr < 0) = false := by simp; have := hOk.nlo; omega
  refine Walk.gz z60 ?_
  refine Walk.ctl rfl (fun w => stepG_leave rfl rfl Try.func60 (results_none rfl _ _ w) (events_results_none rfl _ _)) (.stop fun d => ⟨_, ⟨rfl, MidR.at ?_ d⟩, rfl⟩)
  have hr : skAct tg s (.pu1 x) = (s, .inr (.pu2 x s.fr)) := if_neg hz
  rw [hr]
  have hCf : Chg (fun g => Sm g ∨ St g) w w3 := Chg.trans (S' := fun g => Sm g ∨ St g) hCB ⟨by omega, fun g _ hg => ho3 g (fun h => hg (.inr (by rw [h]; exact X.sb)))⟩ fun g _ h => h
  exact ⟨M.same fun g _ hg => ho3 g (fun h => hdis g hg (by rw [h]; exact X.sb)), hCf, _, _, aa, ac, (X.put hb3 fun g hg _ _ => ho3 g hg).mono fun _ h => .inl h, ⟨rfl, hv, rfl, rfl, hOk, hz⟩⟩
theorem push_2 (x top : Int) (w : World) (X : ThX St b ops oa oc (k : Nat) PC N ans aa ac e w) (M : MaX Sm m nb vb n cn cv tg tl s w) (hdis : ∀ g, Sm g → ¬ St g) (hd : dR n o PC N (.pu2 x top)) (hok : ops[k]? = some o) (hl : ops.length ≤ 65536) (hal : ans.length = k) (hn : n ≤ 65536) :
  CallW Try.prog main (fun _ => none) 60 #[.pointer (some ⟨m, 0, none⟩), .pointer (some ⟨b, 0, none⟩)] w (fun v w' => v = .tuple #[] ∧ MidR Sm St m nb vb n cn cv tg tl b ops oa oc k o ans e (skAct tg s (.pu2 x top)) w w') := by
 intro c cs
 have hkl := (List.getElem?_eq_some_iff.1 hok).1
 have hbm : m ≠ b := fun h => hdis m M.sm (by rw [h]; exact X.sb)
 have hbn : nb ≠ b := fun h => hdis nb M.sn (by rw [h]; exact X.sb)
 have hbv : vb ≠ b := fun h => hdis vb M.sv (by rw [h]; exact X.sb)
 obtain ⟨rfl, hv, e0, e1, hO, hne⟩ := hd
 obtain ⟨i, hi⟩ : ∃ i : Nat, nodeX top = i := ⟨(nodeX top).toNat, by have := hO.nlo; omega⟩
 have hin : i < n := by have := hO.nhi; omega
 have hb0 := X.blk
 have ho0 : ∀ g, g ≠ b → w.heap[g]? = w.heap[g]? := fun _ _ => rfl
 have hs0 : w.heap.size = w.heap.size := rfl
 have hCB : Chg (fun g => Sm g ∨ St g) w w := Chg.refl
 have cP0 : w.cell? ⟨b, 2, none⟩ = some (.int .i64 11) := tcP hb0
 have mnx0 : w.cell? ⟨m, 0, none⟩ = some (.slice (some ⟨nb, 0, none⟩) n cn) := mc0 (M.same fun g _ hg => ho0 g (fun h => hdis g hg (by rw [h]; exact X.sb))).blk
 have n3_0 : w.cell? ⟨b, 3, none⟩ = some (.int .i64 (i : Int)) := (tc0 hb0).trans (congrArg (fun z => some (Value.int .i64 z)) (e0.trans hi))
 have x0 := (M.same fun g _ hg => ho0 g (fun h => hdis g hg (by rw [h]; exact X.sb))).nxc hin
 have hia0 := evix0
 have hia1 := evix1
 have hia2 := evix2
 have hia3 := evix3
 have hia4 := evix4
 rw [enter_at _ Try.func60 code60_is]
 simp only [Try.ntmps60, ez, Nat.reduceAdd, Nat.reduceSub]
 refine Walk.gz z60 ?_
 have cX := tc2 hb0
 have zX := frozen_of hb0 5
 (refine Walk.drawnL (by kernel_rfl) size60_8 (by kernel_rfl) (by kernel_rfl) (by kernel_rfl) (by decide) ?_; simp only [List.range, List.range.loop]; repeat (first | (refine Cm.oq ?_) | (refine Cm.unw hoA (by rfl) ?_; walk_nrm)))
 refine Cm.done ?_
 intro rest hr0
 (have hfr := fr0 b 5; refine Walk.os hfr cX ?_; clear hfr; try walk_nrm)
 refine hr0 _ _ ?_
 have hb1 : (w.setCell ⟨b, 5, none⟩ (.int .i64 (s.nx i))).heap[b]? = some (.cells (thA (.slice oa ops.length oc) (k : Nat) 11 (upd N 2 (s.nx i)) (.slice none 0 0) (.slice aa ans.length ac) e) 120) := by rw [heap_set_self _ _ hb0, thA_2]
 have ho1 : ∀ g, g ≠ b → (w.setCell ⟨b, 5, none⟩ (.int .i64 (s.nx i))).heap[g]? = w.heap[g]? := fun g hg => (heap_set_other _ _ _ _ hg).trans (ho0 g hg)
 have hs1 : (w.setCell ⟨b, 5, none⟩ (.int .i64 (s.nx i))).heap.size = w.heap.size := (size_set ..).trans hs0
 clear cX zX
 generalize w.setCell ⟨b, 5, none⟩ (.int .i64 (s.nx i)) = w1 at *
 try walk_nrm
 refine Walk.gz z60 ?_
 have cX := tcP hb1
 have zX := frozen_of hb1 2
 (have hfr := fr0 b 2; refine Walk.os hfr cX ?_; clear hfr; try walk_nrm)
 have hb2 : (w1.setCell ⟨b, 2, none⟩ (.int .i64 12)).heap[b]? = some (.cells (thA (.slice oa ops.length oc) (k : Nat) 12 (upd N 2 (s.nx i)) (.slice none 0 0) (.slice aa ans.length ac) e) 120) := by rw [heap_set_self _ _ hb1, thA_PC]
 have ho2 : ∀ g, g ≠ b → (w1.setCell ⟨b, 2, none⟩ (.int .i64 12)).heap[g]? = w.heap[g]? := fun g hg => (heap_set_other _ _ _ _ hg).trans (ho1 g hg)
 have hs2 : (w1.setCell ⟨b, 2, none⟩ (.int .i64 12)).heap.size = w.heap.size := (size_set ..).trans hs1
 clear cX zX
 generalize w1.setCell ⟨b, 2, none⟩ (.int .i64 12) = w2 at *
 try walk_nrm
 refine Walk.gz z60 ?_
 refine Walk.ctl rfl (fun w => stepG_leave rfl rfl Try.func60 (results_none rfl _ _ w) (events_results_none rfl _ _)) (.stop fun d => ⟨_, ⟨rfl, MidR.at ?_ d⟩, rfl⟩)
 have hr : skAct tg s (.pu2 x top) = (s, .inr (.pu3 x top (s.nx i))) := by show (s, Sum.inr (SD.pu3 x top (s.nx (nodeX top).toNat))) = _; rw [hi]; rfl
 rw [hr]
 have hCf : Chg (fun g => Sm g ∨ St g) w w2 := Chg.trans (S' := fun g => Sm g ∨ St g) hCB ⟨by omega, fun g _ hg => ho2 g (fun h => hg (.inr (by rw [h]; exact X.sb)))⟩ fun g _ h => h
 exact ⟨M.same fun g _ hg => ho2 g (fun h => hdis g hg (by rw [h]; exact X.sb)), hCf, _, _, aa, ac, (X.put hb2 fun g hg _ _ => ho2 g hg).mono fun _ h => .inl h, ⟨rfl, hv, e0, e1, hO, hne, rfl, (M.nxb i hin).1, (M.nxb i hin).2⟩⟩
theorem push_3 (x top nx : Int) (w : World) (X : ThX St b ops oa oc (k : Nat) PC N ans aa ac e w) (M : MaX Sm m nb vb n cn cv tg tl s w) (hdis : ∀ g, Sm g → ¬ St g) (hd : dR n o PC N (.pu3 x top nx)) (hok : ops[k]? = some o) (hl : ops.length ≤ 65536) (hal : ans.length = k) (hn : n ≤ 65536) :
  CallW Try.prog main (fun _ => none) 60 #[.pointer (some ⟨m, 0, none⟩), .pointer (some ⟨b, 0, none⟩)] w (fun v w' => v = .tuple #[] ∧ MidR Sm St m nb vb n cn cv tg tl b ops oa oc k o ans e (skAct tg s (.pu3 x top nx)) w w') := by
 intro c cs
 have hkl := (List.getElem?_eq_some_iff.1 hok).1
 have hbm : m ≠ b := fun h => hdis m M.sm (by rw [h]; exact X.sb)
 have hbn : nb ≠ b := fun h => hdis nb M.sn (by rw [h]; exact X.sb)
 have hbv : vb ≠ b := fun h => hdis vb M.sv (by rw [h]; exact X.sb)
 obtain ⟨rfl, hv, e0, e1, hO, hne, e2, hx1, hx2⟩ := hd
 have hb0 := X.blk
 have ho0 : ∀ g, g ≠ b → w.heap[g]? = w.heap[g]? := fun _ _ => rfl
 have hs0 : w.heap.size = w.heap.size := rfl
 have hCB : Chg (fun g => Sm g ∨ St g) w w := Chg.refl
 have cP0 : w.cell? ⟨b, 2, none⟩ = some (.int .i64 12) := tcP hb0
 have hia0 := evix0
 have hia1 := evix1
 have hia2 := evix2
 have hia3 := evix3
 have hia4 := evix4
 rw [enter_at _ Try.func60 code60_is]
 simp only [Try.ntmps60, ez, Nat.reduceAdd, Nat.reduceSub]
 refine Walk.gz z60 ?_
 have cX := tcP hb0
 have zX := frozen_of hb0 2
 (have hfr := fr0 b 2; refine Walk.os hfr cX ?_; clear hfr; try walk_nrm)
 have hb1 : (w.setCell ⟨b, 2, none⟩ (.int .i64 10)).heap[b]? = some (.cells (thA (.slice oa ops.length oc) (k : Nat) 10 N (.slice none 0 0) (.slice aa ans.length ac) e) 120) := by rw [heap_set_self _ _ hb0, thA_PC]
 have ho1 : ∀ g, g ≠ b → (w.setCell ⟨b, 2, none⟩ (.int .i64 10)).heap[g]? = w.heap[g]? := fun g hg => (heap_set_other _ _ _ _ hg).trans (ho0 g hg)
 have hs1 : (w.setCell ⟨b, 2, none⟩ (.int .i64 10)).heap.size = w.heap.size := (size_set ..).trans hs0
 clear cX zX
 generalize w.setCell ⟨b, 2, none⟩ (.int .i64 10) = w1 at *
 try walk_nrm
 refine Walk.gz z60 ?_
 have n3_1 : w1.cell? ⟨b, 3, none⟩ = some (.int .i64 (nodeX top)) := (tc0 hb1).trans (congrArg (fun z => some (Value.int .i64 z)) (e0))
 have n4_1 : w1.cell? ⟨b, 4, none⟩ = some (.int .i64 (tagX top)) := (tc1 hb1).trans (congrArg (fun z => some (Value.int .i64 z)) (e1))
 have n5_1 : w1.cell? ⟨b, 5, none⟩ = some (.int .i64 nx) := (tc2 hb1).trans (congrArg (fun z => some (Value.int .i64 z)) (e2))
 by_cases hq : s.fr = top
 ·subst hq
  have MT0 := M.same fun g _ hg => ho1 g (fun h => hdis g hg (by rw [h]; exact X.sb))
  have XT0 : ThX St b ops oa oc (k : Nat) 10 N ans aa ac e w1 := X.put hb1 fun g hg _ _ => ho1 g hg
  have hCT0 : Chg (fun g => Sm g ∨ St g) w w1 := Chg.trans (S' := fun g => Sm g ∨ St g) hCB ⟨by omega, fun g _ hg => ho1 g (fun h => hg (.inr (by rw [h]; exact X.sb)))⟩ fun g _ h => h
  (refine Walk.drawnL (by kernel_rfl) size60_12 (by kernel_rfl) (by kernel_rfl) (by kernel_rfl) (by decide) ?_; simp only [List.range, List.range.loop]; repeat (first | (refine Cm.oq ?_) | (refine Cm.unw hoA (by rfl) ?_; walk_nrm)))
  refine Cm.done ?_
  intro rest hr0
  refine Walk.callW (Post := fun v w' => v = .bool true ∧ MaX Sm m nb vb n cn cv tg tl { s with fr := heldX nx (turnTag tg s.fr) } w' ∧ Chg Sm w1 w') ?_ hoA (by rfl) (by decide) rfl Try.func75 (by kernel_rfl) (by rfl) ?_
  ·walk_nrm
   exact turn_fr_yes tg nx w1 MT0 hx1 hx2 hn
  rintro v wT ⟨rfl, MT, hCT⟩
  refine hr0 _ _ ?_
  have XT := XT0.same fun g hg h => hCT.same g hg fun h2 => hdis g h2 h
  have hCT1 : Chg (fun g => Sm g ∨ St g) w wT := Chg.trans (S' := Sm) hCT0 hCT fun g _ h => .inl h
  have hsT := hCT1.size
  have hbB_wT := XT.blk
  have ho0 : ∀ g, g ≠ b → wT.heap[g]? = wT.heap[g]? := fun _ _ => rfl
  have hs0 : wT.heap.size = wT.heap.size := rfl
  have hb0 : wT.heap[b]? = some (.cells (thA (.slice oa ops.length oc) (k : Nat) 10 N (.slice none 0 0) (.slice aa ans.length ac) e) 120) := hbB_wT
  have n3_0 : wT.cell? ⟨b, 3, none⟩ = some (.int .i64 (nodeX s.fr)) := (tc0 hb0).trans (congrArg (fun z => some (Value.int .i64 z)) (e0))
  clear n3_1 n4_1 n5_1
  walk_nrm
  refine Walk.gz z60 ?_
  have cX := tc4 hb0
  have zX := frozen_of hb0 7
  (refine Walk.drawnL (by kernel_rfl) size60_13 (by kernel_rfl) (by kernel_rfl) (by kernel_rfl) (by decide) ?_; simp only [List.range, List.range.loop]; repeat (first | (refine Cm.oq ?_) | (refine Cm.unw hoA (by rfl) ?_; walk_nrm)))
  refine Cm.done ?_
  intro rest hr0
  (have hfr := fr0 b 7; refine Walk.os hfr cX ?_; clear hfr; try walk_nrm)
  refine hr0 _ _ ?_
  have hb1 : (wT.setCell ⟨b, 7, none⟩ (.int .i64 (nodeX s.fr))).heap[b]? = some (.cells (thA (.slice oa ops.length oc) (k : Nat) 10 (upd N 4 (nodeX s.fr)) (.slice none 0 0) (.slice aa ans.length ac) e) 120) := by rw [heap_set_self _ _ hb0, thA_4]
  have ho1 : ∀ g, g ≠ b → (wT.setCell ⟨b, 7, none⟩ (.int .i64 (nodeX s.fr))).heap[g]? = wT.heap[g]? := fun g hg => (heap_set_other _ _ _ _ hg).trans (ho0 g hg)
  have hs1 : (wT.setCell ⟨b, 7, none⟩ (.int .i64 (nodeX s.fr))).heap.size = wT.heap.size := (size_set ..).trans hs0
  clear cX zX
  generalize wT.setCell ⟨b, 7, none⟩ (.int .i64 (nodeX s.fr)) = w1 at *
  try walk_nrm
  refine Walk.gz z60 ?_
  have cX := tcP hb1
  have zX := frozen_of hb1 2
  (have hfr := fr0 b 2; refine Walk.os hfr cX ?_; clear hfr; try walk_nrm)
  have hb2 : (w1.setCell ⟨b, 2, none⟩ (.int .i64 13)).heap[b]? = some (.cells (thA (.slice oa ops.length oc) (k : Nat) 13 (upd N 4 (nodeX s.fr)) (.slice none 0 0) (.slice aa ans.length ac) e) 120) := by rw [heap_set_self _ _ hb1, thA_PC]
  have ho2 : ∀ g, g ≠ b → (w1.setCell ⟨b, 2, none⟩ (.int .i64 13)).heap[g]? = wT.heap[g]? := fun g hg => (heap_set_other _ _ _ _ hg).trans (ho1 g hg)
  have hs2 : (w1.setCell ⟨b, 2, none⟩ (.int .i64 13)).heap.size = wT.heap.size := (size_set ..).trans hs1
  clear cX zX
  generalize w1.setCell ⟨b, 2, none⟩ (.int .i64 13) = w2 at *
  try walk_nrm
  refine Walk.gz z60 ?_
  refine Walk.ctl rfl (fun w => stepG_leave rfl rfl Try.func60 (results_none rfl _ _ w) (events_results_none rfl _ _)) (.stop fun d => ⟨_, ⟨rfl, MidR.at ?_ d⟩, rfl⟩)
  have hr : skAct tg s (.pu3 x s.fr nx) = ({ s with fr := heldX nx (turnTag tg s.fr) }, .inr (.pu4 x (nodeX s.fr))) := if_pos rfl
  rw [hr]
  have hCf : Chg (fun g => Sm g ∨ St g) w w2 := Chg.trans (S' := fun g => Sm g ∨ St g) hCT1 ⟨by omega, fun g _ hg => ho2 g (fun h => hg (.inr (by rw [h]; exact X.sb)))⟩ fun g _ h => h
  exact ⟨MT.same fun g _ hg => ho2 g (fun h => hdis g hg (by rw [h]; exact X.sb)), hCf, _, _, aa, ac, (XT.put hb2 fun g hg _ _ => ho2 g hg).mono fun _ h => .inl h, ⟨rfl, hv, rfl, by have := hO.nlo; omega, hO.nhi⟩⟩
 ·have hne2 : ¬ (nodeX s.fr = nodeX top ∧ tagX s.fr = tagX top) := fun h => hq ((okH_inj M.fr hO).1 h)
  have MT0 := M.same fun g _ hg => ho1 g (fun h => hdis g hg (by rw [h]; exact X.sb))
  (refine Walk.drawnL (by kernel_rfl) size60_12 (by kernel_rfl) (by kernel_rfl) (by kernel_rfl) (by decide) ?_; simp only [List.range, List.range.loop]; repeat (first | (refine Cm.oq ?_) | (refine Cm.unw hoA (by rfl) ?_; walk_nrm)))
  refine Cm.done ?_
  intro rest hr0
  refine Walk.callV (x := .bool false) (W := w1) ?_ hoA (by rfl) (by decide) rfl Try.func75 (by kernel_rfl) (by rfl) ?_
  ·walk_nrm
   exact turn_fr_no tg (nodeX top) (tagX top) nx w1 MT0 hne2
  refine hr0 _ _ ?_
  walk_nrm
  refine Walk.gz z60 ?_
  refine Walk.ctl rfl (fun w => stepG_leave rfl rfl Try.func60 (results_none rfl _ _ w) (events_results_none rfl _ _)) (.stop fun d => ⟨_, ⟨rfl, MidR.at ?_ d⟩, rfl⟩)
  have hr : skAct tg s (.pu3 x top nx) = (s, .inr (.pu1 x)) := if_neg hq
  rw [hr]
  have hCf : Chg (fun g => Sm g ∨ St g) w w1 := Chg.trans (S' := fun g => Sm g ∨ St g) hCB ⟨by omega, fun g _ hg => ho1 g (fun h => hg (.inr (by rw [h]; exact X.sb)))⟩ fun g _ h => h
  exact ⟨M.same fun g _ hg => ho1 g (fun h => hdis g hg (by rw [h]; exact X.sb)), hCf, _, _, aa, ac, (X.put hb1 fun g hg _ _ => ho1 g hg).mono fun _ h => .inl h, ⟨rfl, hv⟩⟩
theorem push_5 (z : Int) (w : World) (X : ThX St b ops oa oc (k : Nat) PC N ans aa ac e w) (M : MaX Sm m nb vb n cn cv tg tl s w) (hdis : ∀ g, Sm g → ¬ St g) (hd : dR n o PC N (.pu5 z)) (hok : ops[k]? = some o) (hl : ops.length ≤ 65536) (hal : ans.length = k) (hn : n ≤ 65536) :
  CallW Try.prog main (fun _ => none) 60 #[.pointer (some ⟨m, 0, none⟩), .pointer (some ⟨b, 0, none⟩)] w (fun v w' => v = .tuple #[] ∧ MidR Sm St m nb vb n cn cv tg tl b ops oa oc k o ans e (skAct tg s (.pu5 z)) w w') := by
 intro c cs
 have hkl := (List.getElem?_eq_some_iff.1 hok).1
 have hbm : m ≠ b := fun h => hdis m M.sm (by rw [h]; exact X.sb)
 have hbn : nb ≠ b := fun h => hdis nb M.sn (by rw [h]; exact X.sb)
 have hbv : vb ≠ b := fun h => hdis vb M.sv (by rw [h]; exact X.sb)
 obtain ⟨rfl, e4, hz0, hz1⟩ := hd
 have hb0 := X.blk
 have ho0 : ∀ g, g ≠ b → w.heap[g]? = w.heap[g]? := fun _ _ => rfl
 have hs0 : w.heap.size = w.heap.size := rfl
 have hCB : Chg (fun g => Sm g ∨ St g) w w := Chg.refl
 have cP0 : w.cell? ⟨b, 2, none⟩ = some (.int .i64 14) := tcP hb0
 have mhn0 : w.cell? ⟨m, 2, none⟩ = some (.int .i64 (nodeX s.hd)) := mc2 (M.same fun g _ hg => ho0 g (fun h => hdis g hg (by rw [h]; exact X.sb))).blk
 have mht0 : w.cell? ⟨m, 3, none⟩ = some (.int .i64 (tagX s.hd)) := mc3 (M.same fun g _ hg => ho0 g (fun h => hdis g hg (by rw [h]; exact X.sb))).blk
 have hia0 := evix0
 have hia1 := evix1
 have hia2 := evix2
 have hia3 := evix3
 have hia4 := evix4
 rw [enter_at _ Try.func60 code60_is]
 simp only [Try.ntmps60, ez, Nat.reduceAdd, Nat.reduceSub]
 refine Walk.gz z60 ?_
 have cX := tc0 hb0
 have zX := frozen_of hb0 3
 (refine Walk.drawnL (by kernel_rfl) size60_19 (by kernel_rfl) (by kernel_rfl) (by kernel_rfl) (by decide) ?_; simp only [List.range, List.range.loop]; repeat (first | (refine Cm.oq ?_) | (refine Cm.unw hoA (by rfl) ?_; walk_nrm)))
 refine Cm.done ?_
 intro rest hr0
 (have hfr := fr0 b 3; refine Walk.os hfr cX ?_; clear hfr; try walk_nrm)
 refine hr0 _ _ ?_
 have hb1 : (w.setCell ⟨b, 3, none⟩ (.int .i64 (nodeX s.hd))).heap[b]? = some (.cells (thA (.slice oa ops.length oc) (k : Nat) 14 (upd N 0 (nodeX s.hd)) (.slice none 0 0) (.slice aa ans.length ac) e) 120) := by rw [heap_set_self _ _ hb0, thA_0]
 have ho1 : ∀ g, g ≠ b → (w.setCell ⟨b, 3, none⟩ (.int .i64 (nodeX s.hd))).heap[g]? = w.heap[g]? := fun g hg => (heap_set_other _ _ _ _ hg).trans (ho0 g hg)
 have hs1 : (w.setCell ⟨b, 3, none⟩ (.int .i64 (nodeX s.hd))).heap.size = w.heap.size := (size_set ..).trans hs0
 clear cX zX
 generalize w.setCell ⟨b, 3, none⟩ (.int .i64 (nodeX s.hd)) = w1 at *
 try walk_nrm
 refine Walk.gz z60 ?_
 have mhn1 : w1.cell? ⟨m, 2, none⟩ = some (.int .i64 (nodeX s.hd)) := mc2 (M.same fun g _ hg => ho1 g (fun h => hdis g hg (by rw [h]; exact X.sb))).blk
 have mht1 : w1.cell? ⟨m, 3, none⟩ = some (.int .i64 (tagX s.hd)) := mc3 (M.same fun g _ hg => ho1 g (fun h => hdis g hg (by rw [h]; exact X.sb))).blk
 have cX := tc1 hb1
 have zX := frozen_of hb1 4
 (refine Walk.drawnL (by kernel_rfl) size60_20 (by kernel_rfl) (by kernel_rfl) (by kernel_rfl) (by decide) ?_; simp only [List.range, List.range.loop]; repeat (first | (refine Cm.oq ?_) | (refine Cm.unw hoA (by rfl) ?_; walk_nrm)))
 refine Cm.done ?_
 intro rest hr0
 (have hfr := fr0 b 4; refine Walk.os hfr cX ?_; clear hfr; try walk_nrm)
 refine hr0 _ _ ?_
 have hb2 : (w1.setCell ⟨b, 4, none⟩ (.int .i64 (tagX s.hd))).heap[b]? = some (.cells (thA (.slice oa ops.length oc) (k : Nat) 14 (upd (upd N 0 (nodeX s.hd)) 1 (tagX s.hd)) (.slice none 0 0) (.slice aa ans.length ac) e) 120) := by rw [heap_set_self _ _ hb1, thA_1]
 have ho2 : ∀ g, g ≠ b → (w1.setCell ⟨b, 4, none⟩ (.int .i64 (tagX s.hd))).heap[g]? = w.heap[g]? := fun g hg => (heap_set_other _ _ _ _ hg).trans (ho1 g hg)
 have hs2 : (w1.setCell ⟨b, 4, none⟩ (.int .i64 (tagX s.hd))).heap.size = w.heap.size := (size_set ..).trans hs1
 clear cX zX
 generalize w1.setCell ⟨b, 4, none⟩ (.int .i64 (tagX s.hd)) = w2 at *
 try walk_nrm
 refine Walk.gz z60 ?_
 have cX := tcP hb2
 have zX := frozen_of hb2 2
 (have hfr := fr0 b 2; refine Walk.os hfr cX ?_; clear hfr; try walk_nrm)
 have hb3 : (w2.setCell ⟨b, 2, none⟩ (.int .i64 15)).heap[b]? = some (.cells (thA (.slice oa ops.length oc) (k : Nat) 15 (upd (upd N 0 (nodeX s.hd)) 1 (tagX s.hd)) (.slice none 0 0) (.slice aa ans.length ac) e) 120) := by rw [heap_set_self _ _ hb2, thA_PC]
 have ho3 : ∀ g, g ≠ b → (w2.setCell ⟨b, 2, none⟩ (.int .i64 15)).heap[g]? = w.heap[g]? := fun g hg => (heap_set_other _ _ _ _ hg).trans (ho2 g hg)
 have hs3 : (w2.setCell ⟨b, 2, none⟩ (.int .i64 15)).heap.size = w.heap.size := (size_set ..).trans hs2
 clear cX zX
 generalize w2.setCell ⟨b, 2, none⟩ (.int .i64 15) = w3 at *
 try walk_nrm
 refine Walk.gz z60 ?_
 refine Walk.ctl rfl (fun w => stepG_leave rfl rfl Try.func60 (results_none rfl _ _ w) (events_results_none rfl _ _)) (.stop fun d => ⟨_, ⟨rfl, MidR.at ?_ d⟩, rfl⟩)
 have hr : skAct tg s (.pu5 z) = (s, .inr (.pu6 z s.hd)) := rfl
 rw [hr]
 have hCf : Chg (fun g => Sm g ∨ St g) w w3 := Chg.trans (S' := fun g => Sm g ∨ St g) hCB ⟨by omega, fun g _ hg => ho3 g (fun h => hg (.inr (by rw [h]; exact X.sb)))⟩ fun g _ h => h
 exact ⟨M.same fun g _ hg => ho3 g (fun h => hdis g hg (by rw [h]; exact X.sb)), hCf, _, _, aa, ac, (X.put hb3 fun g hg _ _ => ho3 g hg).mono fun _ h => .inl h, ⟨rfl, e4, hz0, hz1, rfl, rfl, M.hd⟩⟩
theorem push_6 (z top : Int) (w : World) (X : ThX St b ops oa oc (k : Nat) PC N ans aa ac e w) (M : MaX Sm m nb vb n cn cv tg tl s w) (hdis : ∀ g, Sm g → ¬ St g) (hd : dR n o PC N (.pu6 z top)) (hok : ops[k]? = some o) (hl : ops.length ≤ 65536) (hal : ans.length = k) (hn : n ≤ 65536) :
  CallW Try.prog main (fun _ => none) 60 #[.pointer (some ⟨m, 0, none⟩), .pointer (some ⟨b, 0, none⟩)] w (fun v w' => v = .tuple #[] ∧ MidR Sm St m nb vb n cn cv tg tl b ops oa oc k o ans e (skAct tg s (.pu6 z top)) w w') := by
 intro c cs
 have hkl := (List.getElem?_eq_some_iff.1 hok).1
 have hbm : m ≠ b := fun h => hdis m M.sm (by rw [h]; exact X.sb)
 have hbn : nb ≠ b := fun h => hdis nb M.sn (by rw [h]; exact X.sb)
 have hbv : vb ≠ b := fun h => hdis vb M.sv (by rw [h]; exact X.sb)
 obtain ⟨rfl, e4, hz0, hz1, e0, e1, hO⟩ := hd
 obtain ⟨i, hi⟩ : ∃ i : Nat, z = i := ⟨(z).toNat, by omega⟩
 have hin : i < n := by omega
 have hb0 := X.blk
 have ho0 : ∀ g, g ≠ b → w.heap[g]? = w.heap[g]? := fun _ _ => rfl
 have hs0 : w.heap.size = w.heap.size := rfl
 have hCB : Chg (fun g => Sm g ∨ St g) w w := Chg.refl
 have cP0 : w.cell? ⟨b, 2, none⟩ = some (.int .i64 15) := tcP hb0
 have mnx0 : w.cell? ⟨m, 0, none⟩ = some (.slice (some ⟨nb, 0, none⟩) n cn) := mc0 (M.same fun g _ hg => ho0 g (fun h => hdis g hg (by rw [h]; exact X.sb))).blk
 have n7_0 : w.cell? ⟨b, 7, none⟩ = some (.int .i64 (i : Int)) := (tc4 hb0).trans (congrArg (fun z => some (Value.int .i64 z)) (e4.trans hi))
 have n3_0 : w.cell? ⟨b, 3, none⟩ = some (.int .i64 (nodeX top)) := (tc0 hb0).trans (congrArg (fun z => some (Value.int .i64 z)) (e0))
 have x0 := (M.same fun g _ hg => ho0 g (fun h => hdis g hg (by rw [h]; exact X.sb))).nxc hin
 have hia0 := evix0
 have hia1 := evix1
 have hia2 := evix2
 have hia3 := evix3
 have hia4 := evix4
 rw [enter_at _ Try.func60 code60_is]
 simp only [Try.ntmps60, ez, Nat.reduceAdd, Nat.reduceSub]
 refine Walk.gz z60 ?_
 have zN := M.nxz (i := i)
 (refine Walk.drawnL (by kernel_rfl) size60_23 (by kernel_rfl) (by kernel_rfl) (by kernel_rfl) (by decide) ?_; simp only [List.range, List.range.loop]; repeat (first | (refine Cm.oq ?_) | (refine Cm.unw hoA (by rfl) ?_; walk_nrm)))
 refine Cm.done ?_
 intro rest hr0
 (have hfr := fr0 nb i; refine Walk.os hfr x0 ?_; clear hfr; try walk_nrm)
 refine hr0 _ _ ?_
 have MA := ma_nx M hin hO.nlo hO.nhi
 have XA := X.same (w' := w.setCell ⟨nb, i, none⟩ (.int .i64 (nodeX top))) fun g _ hg => heap_set_other _ _ _ _ (fun h => hdis nb M.sn (by have h : g = nb := h; rw [← h]; exact hg))
 have hCA : Chg (fun g => Sm g ∨ St g) w (w.setCell ⟨nb, i, none⟩ (.int .i64 (nodeX top))) := Chg.set (.inl M.sn)
 have hsA := hCA.size
 clear zN x0 mnx0 n7_0 n3_0 cP0 hb0 ho0 hs0
 generalize w.setCell ⟨nb, i, none⟩ (.int .i64 (nodeX top)) = wA at *
 have hbB_wA := XA.blk
 have ho0 : ∀ g, g ≠ b → wA.heap[g]? = wA.heap[g]? := fun _ _ => rfl
 have hs0 : wA.heap.size = wA.heap.size := rfl
 have hb0 : wA.heap[b]? = some (.cells (thA (.slice oa ops.length oc) (k : Nat) 15 N (.slice none 0 0) (.slice aa ans.length ac) e) 120) := hbB_wA
 walk_nrm
 refine Walk.gz z60 ?_
 have cX := tcP hb0
 have zX := frozen_of hb0 2
 (have hfr := fr0 b 2; refine Walk.os hfr cX ?_; clear hfr; try walk_nrm)
 have hb1 : (wA.setCell ⟨b, 2, none⟩ (.int .i64 16)).heap[b]? = some (.cells (thA (.slice oa ops.length oc) (k : Nat) 16 N (.slice none 0 0) (.slice aa ans.length ac) e) 120) := by rw [heap_set_self _ _ hb0, thA_PC]
 have ho1 : ∀ g, g ≠ b → (wA.setCell ⟨b, 2, none⟩ (.int .i64 16)).heap[g]? = wA.heap[g]? := fun g hg => (heap_set_other _ _ _ _ hg).trans (ho0 g hg)
 have hs1 : (wA.setCell ⟨b, 2, none⟩ (.int .i64 16)).heap.size = wA.heap.size := (size_set ..).trans hs0
 clear cX zX
 generalize wA.setCell ⟨b, 2, none⟩ (.int .i64 16) = w1 at *
 try walk_nrm
 refine Walk.gz z60 ?_
 refine Walk.ctl rfl (fun w => stepG_leave rfl rfl Try.func60 (results_none rfl _ _ w) (events_results_none rfl _ _)) (.stop fun d => ⟨_, ⟨rfl, MidR.at ?_ d⟩, rfl⟩)
 have hr : skAct tg s (.pu6 z top) = ({ s with nx := upd s.nx i (nodeX top) }, .inr (.pu7 z top)) := by show ({ s with nx := upd s.nx z.toNat (nodeX top) }, Sum.inr (SD.pu7 z top)) = _; rw [hi]; rfl
 rw [hr]
 have hCf : Chg (fun g => Sm g ∨ St g) w w1 := Chg.trans (S' := fun g => Sm g ∨ St g) hCA ⟨by omega, fun g _ hg => ho1 g (fun h => hg (.inr (by rw [h]; exact X.sb)))⟩ fun g _ h => h
 exact ⟨MA.same fun g _ hg => ho1 g (fun h => hdis g hg (by rw [h]; exact X.sb)), hCf, _, _, aa, ac, (XA.put hb1 fun g hg _ _ => ho1 g hg).mono fun _ h => .inl h, ⟨rfl, e4, hz0, hz1, e0, e1, hO⟩⟩
theorem push_7 (z top : Int) (w : World) (X : ThX St b ops oa oc (k : Nat) PC N ans aa ac e w) (M : MaX Sm m nb vb n cn cv tg tl s w) (hdis : ∀ g, Sm g → ¬ St g) (hd : dR n o PC N (.pu7 z top)) (hok : ops[k]? = some o) (hl : ops.length ≤ 65536) (hal : ans.length = k) (hn : n ≤ 65536) :
  CallW Try.prog main (fun _ => none) 60 #[.pointer (some ⟨m, 0, none⟩), .pointer (some ⟨b, 0, none⟩)] w (fun v w' => v = .tuple #[] ∧ MidR Sm St m nb vb n cn cv tg tl b ops oa oc k o ans e (skAct tg s (.pu7 z top)) w w') := by
 intro c cs
 have hkl := (List.getElem?_eq_some_iff.1 hok).1
 have hbm : m ≠ b := fun h => hdis m M.sm (by rw [h]; exact X.sb)
 have hbn : nb ≠ b := fun h => hdis nb M.sn (by rw [h]; exact X.sb)
 have hbv : vb ≠ b := fun h => hdis vb M.sv (by rw [h]; exact X.sb)
 obtain ⟨rfl, e4, hz0, hz1, e0, e1, hO⟩ := hd
 have hb0 := X.blk
 have ho0 : ∀ g, g ≠ b → w.heap[g]? = w.heap[g]? := fun _ _ => rfl
 have hs0 : w.heap.size = w.heap.size := rfl
 have hCB : Chg (fun g => Sm g ∨ St g) w w := Chg.refl
 have cP0 : w.cell? ⟨b, 2, none⟩ = some (.int .i64 16) := tcP hb0
 have hia0 := evix0
 have hia1 := evix1
 have hia2 := evix2
 have hia3 := evix3
 have hia4 := evix4
 rw [enter_at _ Try.func60 code60_is]
 simp only [Try.ntmps60, ez, Nat.reduceAdd, Nat.reduceSub]
 refine Walk.gz z60 ?_
 have cX := tcP hb0
 have zX := frozen_of hb0 2
 (have hfr := fr0 b 2; refine Walk.os hfr cX ?_; clear hfr; try walk_nrm)
 have hb1 : (w.setCell ⟨b, 2, none⟩ (.int .i64 14)).heap[b]? = some (.cells (thA (.slice oa ops.length oc) (k : Nat) 14 N (.slice none 0 0) (.slice aa ans.length ac) e) 120) := by rw [heap_set_self _ _ hb0, thA_PC]
 have ho1 : ∀ g, g ≠ b → (w.setCell ⟨b, 2, none⟩ (.int .i64 14)).heap[g]? = w.heap[g]? := fun g hg => (heap_set_other _ _ _ _ hg).trans (ho0 g hg)
 have hs1 : (w.setCell ⟨b, 2, none⟩ (.int .i64 14)).heap.size = w.heap.size := (size_set ..).trans hs0
 clear cX zX
 generalize w.setCell ⟨b, 2, none⟩ (.int .i64 14) = w1 at *
 try walk_nrm
 refine Walk.gz z60 ?_
 have n3_1 : w1.cell? ⟨b, 3, none⟩ = some (.int .i64 (nodeX top)) := (tc0 hb1).trans (congrArg (fun z => some (Value.int .i64 z)) (e0))
 have n4_1 : w1.cell? ⟨b, 4, none⟩ = some (.int .i64 (tagX top)) := (tc1 hb1).trans (congrArg (fun z => some (Value.int .i64 z)) (e1))
 have n7_1 : w1.cell? ⟨b, 7, none⟩ = some (.int .i64 z) := (tc4 hb1).trans (congrArg (fun z => some (Value.int .i64 z)) (e4))
 by_cases hq : s.hd = top
 ·subst hq
  have MT0 := M.same fun g _ hg => ho1 g (fun h => hdis g hg (by rw [h]; exact X.sb))
  have XT0 : ThX St b ops oa oc (k : Nat) 14 N ans aa ac e w1 := X.put hb1 fun g hg _ _ => ho1 g hg
  have hCT0 : Chg (fun g => Sm g ∨ St g) w w1 := Chg.trans (S' := fun g => Sm g ∨ St g) hCB ⟨by omega, fun g _ hg => ho1 g (fun h => hg (.inr (by rw [h]; exact X.sb)))⟩ fun g _ h => h
  (refine Walk.drawnL (by kernel_rfl) size60_27 (by kernel_rfl) (by kernel_rfl) (by kernel_rfl) (by decide) ?_; simp only [List.range, List.range.loop]; repeat (first | (refine Cm.oq ?_) | (refine Cm.unw hoA (by rfl) ?_; walk_nrm)))
  refine Cm.done ?_
  intro rest hr0
  refine Walk.callW (Post := fun v w' => v = .bool true ∧ MaX Sm m nb vb n cn cv tg tl { s with hd := heldX z (turnTag tg s.hd) } w' ∧ Chg Sm w1 w') ?_ hoA (by rfl) (by decide) rfl Try.func75 (by kernel_rfl) (by rfl) ?_
  ·walk_nrm
   exact turn_hd_yes tg z w1 MT0 (by omega) hz1 hn
  rintro v wT ⟨rfl, MT, hCT⟩
  refine hr0 _ _ ?_
  have XT := XT0.same fun g hg h => hCT.same g hg fun h2 => hdis g h2 h
  have hCT1 : Chg (fun g => Sm g ∨ St g) w wT := Chg.trans (S' := Sm) hCT0 hCT fun g _ h => .inl h
  have hsT := hCT1.size
  have hbB_wT := XT.blk
  have ho0 : ∀ g, g ≠ b → wT.heap[g]? = wT.heap[g]? := fun _ _ => rfl
  have hs0 : wT.heap.size = wT.heap.size := rfl
  have hb0 : wT.heap[b]? = some (.cells (thA (.slice oa ops.length oc) (k : Nat) 14 N (.slice none 0 0) (.slice aa ans.length ac) e) 120) := hbB_wT
  clear n3_1 n4_1 n7_1
  walk_nrm
  refine Walk.gz z60 ?_
  have Xe : ThX St b ops oa oc (k : Nat) 14 N ans aa ac e wT := XT.put hb0 fun g hg _ _ => ho0 g hg
  have Me := MT.same fun g _ hg => ho0 g (fun h => hdis g hg (by rw [h]; exact X.sb))
  have hCf : Chg (fun g => Sm g ∨ St g) w wT := Chg.trans (S' := fun g => Sm g ∨ St g) hCT1 ⟨by omega, fun g _ hg => ho0 g (fun h => hg (.inr (by rw [h]; exact X.sb)))⟩ fun g _ h => h
  have hsf := hCf.size
  refine Walk.callW (Post := fun v w' => v = .tuple #[] ∧ (∃ aa' ac', ThX (fun g => St g ∨ wT.heap.size ≤ g) b ops oa oc ((k + 1 : Nat) : Int) 0 N (ans ++ [(true, 0)]) aa' ac' e w') ∧ Chg St wT w') ?_ hoA (by rfl) (by decide) rfl Try.func59 (by kernel_rfl) (by rfl) ?_
  ·walk_nrm
   exact end_w (true, 0) wT Xe (by omega) (by omega)
  rintro v wE ⟨rfl, ⟨aa2, ac2, XE⟩, hCE⟩
  have ME := Me.chg hCE fun g _ h => hdis g h
  have hsE := hCE.size
  have hCE' : Chg (fun g => Sm g ∨ St g) w wE := Chg.trans (S' := St) hCf hCE fun g _ h => .inr h
  have XE' := XE.mono (S' := fun g => St g ∨ w.heap.size ≤ g) fun g hg => hg.imp id fun h => by omega
  walk_nrm
  refine Walk.gz z60 ?_
  refine Walk.ctl rfl (fun w => stepG_leave rfl rfl Try.func60 (results_none rfl _ _ w) (events_results_none rfl _ _)) (.stop fun d => ⟨_, ⟨rfl, MidR.at ?_ d⟩, rfl⟩)
  have hr : skAct tg s (.pu7 z s.hd) = ({ s with hd := heldX z (turnTag tg s.hd) }, .inl (true, 0)) := if_pos rfl
  rw [hr]
  exact mid_end ME hCE' XE'
 ·have hne2 : ¬ (nodeX s.hd = nodeX top ∧ tagX s.hd = tagX top) := fun h => hq ((okH_inj M.hd hO).1 h)
  have MT0 := M.same fun g _ hg => ho1 g (fun h => hdis g hg (by rw [h]; exact X.sb))
  (refine Walk.drawnL (by kernel_rfl) size60_27 (by kernel_rfl) (by kernel_rfl) (by kernel_rfl) (by decide) ?_; simp only [List.range, List.range.loop]; repeat (first | (refine Cm.oq ?_) | (refine Cm.unw hoA (by rfl) ?_; walk_nrm)))
  refine Cm.done ?_
  intro rest hr0
  refine Walk.callV (x := .bool false) (W := w1) ?_ hoA (by rfl) (by decide) rfl Try.func75 (by kernel_rfl) (by rfl) ?_
  ·walk_nrm
   exact turn_hd_no tg (nodeX top) (tagX top) z w1 MT0 hne2
  refine hr0 _ _ ?_
  walk_nrm
  refine Walk.gz z60 ?_
  refine Walk.ctl rfl (fun w => stepG_leave rfl rfl Try.func60 (results_none rfl _ _ w) (events_results_none rfl _ _)) (.stop fun d => ⟨_, ⟨rfl, MidR.at ?_ d⟩, rfl⟩)
  have hr : skAct tg s (.pu7 z top) = (s, .inr (.pu5 z)) := if_neg hq
  rw [hr]
  have hCf : Chg (fun g => Sm g ∨ St g) w w1 := Chg.trans (S' := fun g => Sm g ∨ St g) hCB ⟨by omega, fun g _ hg => ho1 g (fun h => hg (.inr (by rw [h]; exact X.sb)))⟩ fun g _ h => h
  exact ⟨M.same fun g _ hg => ho1 g (fun h => hdis g hg (by rw [h]; exact X.sb)), hCf, _, _, aa, ac, (X.put hb1 fun g hg _ _ => ho1 g hg).mono fun _ h => .inl h, ⟨rfl, e4, hz0, hz1⟩⟩
end
end
end Go.Proofs.Ytdmpmoggacjgcaa
