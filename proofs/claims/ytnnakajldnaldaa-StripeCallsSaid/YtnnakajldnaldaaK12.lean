/- Part 12. -/
import Derived.Test.YtnnakajldnaldaaK11
set_option linter.unusedSimpArgs false
set_option linter.unusedVariables false
set_option maxHeartbeats 8000000
set_option maxRecDepth 100000
namespace Go.Proofs.Ytnnakajldnaldaa
open Go.Conc Go.RowKit Go.Relay
open Go.ConcN (upd upd_ne upd_same)
section
noncomputable def tmT (Q kb lb p : Nat) (t : Int) (u : Nat → Value) : Array Value := #[u 0, u 1, u 2, u 3, u 4, u 5, .pointer (some ⟨Q, 0, none⟩), .pointer (some ⟨kb, 0, none⟩), .pointer (some ⟨lb, 0, none⟩), .pointer (some ⟨p, 0, none⟩), u 10, u 11, u 12, .int .i64 t, u 14, u 15, u 16, u 17, u 18, u 19, u 20, u 21, u 22, u 23, u 24, u 25, u 26, u 27, u 28, u 29, u 30, u 31, u 32, u 33, u 34, u 35, u 36, u 37, u 38, u 39, u 40, u 41, u 42, u 43, u 44, u 45, u 46, u 47, u 48, u 49, u 50, u 51, u 52, u 53, u 54, u 55, u 56, u 57, u 58, u 59, u 60, u 61, u 62, u 63, u 64, u 65, u 66, u 67, u 68, u 69, u 70, u 71, u 72, u 73, u 74, u 75, u 76, u 77, u 78, u 79, u 80, u 81, u 82, u 83, u 84, u 85, u 86, u 87, u 88, u 89, u 90, u 91, u 92, u 93, u 94, u 95, u 96, u 97, u 98, u 99, u 100, u 101, u 102, u 103, u 104, u 105, u 106, u 107, u 108, u 109, u 110, u 111, u 112, u 113, u 114, u 115, u 116, u 117, u 118, u 119, u 120, u 121, u 122, u 123, u 124, u 125, u 126, u 127, u 128, u 129, u 130, u 131, u 132, u 133]
def dsT : List Nat := [106, 107, 108, 109, 110, 111, 112, 113, 114, 115, 116, 117, 118, 119, 120, 121, 122, 123, 124, 125, 126, 127, 128, 129, 130, 131, 132, 133, 4]
def vsT (Q kb lb p m sb so sc c oc : Nat) (oa : Option Addr) (t : Int) (B1 B2 : Nat) : List Value := [.pointer (some ⟨kb, 0, none⟩), .slice (some ⟨B1, 0, none⟩) m m, .pointer (some ⟨Q, 2, none⟩), .slice (some ⟨sb, so, none⟩) m sc, .bool true, .bool true, .pointer (some ⟨lb, 0, none⟩), .slice (some ⟨B2, 0, none⟩) m m, .pointer (some ⟨Q, 2, none⟩), .slice (some ⟨sb, so, none⟩) m sc, .bool true, .bool true, .bool true, .pointer (some ⟨kb, 0, none⟩), .int .i64 t, .int .i64 t, .bool true, .bool true, .bool true, .pointer (some ⟨p, 0, none⟩), .pointer (some ⟨p, 0, none⟩), .pointer (some ⟨p, 0, none⟩), .int .i64 c, .pointer (some ⟨Q, 1, none⟩), .slice oa c oc, .int .i64 c, .bool true, .bool true, .bool true]
structure LasT (kb kr : Nat) (kra : Option Addr) (krc lb lr : Nat) (lra : Option Addr) (lrc m p : Nat) (S : Sp) (c : Nat) (W : World) (f : Nat → Bool) (B1 B2 : Nat) (w : World) : Prop where
  I : CalI kb kr kra krc lb lr lra lrc m p S c W w
  t1 : f 1 = true → f 5 = false → Told w B1 m (stL S m)
  t2 : f 7 = true → f 11 = false → Told w B2 m (stL S m)
section
variable {kb kr : Nat} {kra : Option Addr} {krc lb lr : Nat} {lra : Option Addr} {lrc m p : Nat} {S : Sp} {c : Nat} {W : World} {main : Bool}
theorem Told.numA {w : World} {B : Nat} {l : List Int} (h : Told w B m l) : NumA (some ⟨B, 0, none⟩) l w := fun j x hx => ⟨B, 0, rfl, by rw [Nat.zero_add]; exact h.cell j x hx⟩
theorem LasT.at {f : Nat → Bool} {B1 B2 : Nat} {w : World} (h : LasT kb kr kra krc lb lr lra lrc m p S c W f B1 B2 w) (d : Nat) : LasT kb kr kra krc lb lr lra lrc m p S c W f B1 B2 (w.at d) := ⟨h.I.at d, h.t1, h.t2⟩
theorem LasT.quiet {f : Nat → Bool} {B1 B2 : Nat} {w : World} (h : LasT kb kr kra krc lb lr lra lrc m p S c W f B1 B2 w) {i : Nat} (h1 : i ≠ 1) (h7 : i ≠ 7) (hf : f i = false) : LasT kb kr kra krc lb lr lra lrc m p S c W (upd f i true) B1 B2 w := by
  refine ⟨h.I, fun a b => ?_, fun a b => ?_⟩
  · rw [upd_ne _ _ (Ne.symm h1)] at a
    by_cases e : i = 5
    · subst e; rw [upd_same] at b; cases b
    · rw [upd_ne _ _ (Ne.symm e)] at b; exact h.t1 a b
  · rw [upd_ne _ _ (Ne.symm h7)] at a
    by_cases e : i = 11
    · subst e; rw [upd_same] at b; cases b
    · rw [upd_ne _ _ (Ne.symm e)] at b; exact h.t2 a b
theorem calls_last (Q sb so sc oc : Nat) (oa : Option Addr) (t : Int) (hm0 : 0 < m) (hm64 : m ≤ 64) (T : Two kb kr lb lr p m) (W0 : World) (I0 : CalI kb kr kra krc lb lr lra lrc m p S c W0 W) (ht : t = sumZ (stL S m)) (hc : c ≤ 9223372036854)
    (x1 : W.cell? ⟨Q, 1, none⟩ = some (.slice oa c oc)) (x2 : W.cell? ⟨Q, 2, none⟩ = some (.slice (some ⟨sb, so, none⟩) m sc)) (hQ : Off kb kr lb lr p m Q) (hsb : Off kb kr lb lr p m sb) (hst : NumA (some ⟨sb, so, none⟩) (stL S m) W)
    (k : List Item) (cs : List Frame) (u0 : Nat → Value) {Stop : Goroutine → World → Prop}
    (hend : ∀ (u : Nat → Value) (w : World), u 4 = .bool true → (∀ b, b < W.heap.size → Off kb kr lb lr p m b → w.heap[b]? = W.heap[b]?) → W.heap.size ≤ w.heap.size → Walk Try.prog main (DR (fun _ => none)) Stop (G ((base 4).at ⟨tmT Q kb lb p t u, []⟩ (.inRegion reg4_19 [] :: k)) cs) w) :
    Walk Try.prog main (DR (fun _ => none)) Stop (G ((base 4).at ⟨tmT Q kb lb p t u0, []⟩ (.code (.region 19 reg4_19 true) :: k)) cs) W := by
  obtain ⟨t1, t2, t3, t4⟩ := T
  have hA : ∀ b, Apart (fun _ => none) b := ap0
  have hsl : (stL S m).length = m := stL_len S m
  have htoA : ∀ (w : World), SpI kb kr m kra krc S w → CallW Try.prog main (fun _ => none) 22 #[.pointer (some ⟨kb, 0, none⟩)] w (fun v w' => v = .int .i64 (sumZ (stL S m)) ∧ Reads kb kr m kra krc S w w') := fun w I => total_w (main := main) hA S w I
  generalize sumZ (stL S m) = t2 at ht htoA
  subst ht
  refine Walk.drawnJ (Inv := fun f ac' w => ∃ u B1 B2, ac' = ⟨tmT Q kb lb p t u, []⟩ ∧ Facts dsT (vsT Q kb lb p m sb so sc c oc oa t B1 B2) f u ∧ LasT kb kr kra krc lb lr lra lrc m p S c W f B1 B2 w) (by kernel_rfl) (by kernel_rfl) (fun d => ⟨u0, 0, 0, rfl, Facts.none _ _ _, LasT.at ⟨⟨I0.ik, I0.il, I0.cn, fun _ _ _ => rfl, Nat.le_refl _⟩, fun h => (by cases h), fun h => (by cases h)⟩ d⟩) ?_ ?_
  · rintro f j op act w ⟨u, B1, B2, rfl, F0, L⟩ hC hfj ho hdeps rest hr
    have hj : j < 29 := by have := (Array.getElem?_eq_some_iff.1 ho).1; rw [size4_19] at this; exact this
    have I := L.I
    have hcell : ∀ {x y : Nat} {v : Value}, Off kb kr lb lr p m x → W.cell? ⟨x, y, none⟩ = some v → w.cell? ⟨x, y, none⟩ = some v := fun {x y v} e h => (World.cell?_of_block (a := ⟨x, y, none⟩) (I.old x (cell_lt' h) e)).trans h
    have l1 := I.ik.lt
    have l2 : 1 < m → kr < w.heap.size := fun h => I.ik.ltr h
    have l3 := I.il.lt
    have l4 : 1 < m → lr < w.heap.size := fun h => I.il.ltr h
    have l5 := (Array.getElem?_eq_some_iff.1 I.cn).1
    have hIs := I.size
    match j, hj with
    | 0, _ =>
      clear hdeps hC hend htoA
      simp only [tmT] at hr ⊢
      (refine Walk.oq ?_; try walk_nrm)
      refine hr _ _ ⟨upd u 106 (.pointer (some ⟨kb, 0, none⟩)), B1, B2, ?_, F0.set (by decide) rfl rfl, L.quiet (by decide) (by decide) hfj⟩
      simp [tmT, upd]
    | 1, _ =>
      have hd := deps_of (l := [0]) (by kernel_rfl) ho hdeps
      have e106 := F0 0 106 _ (hd 0 (by simp)) rfl rfl
      have hal := all_w (main := main) hA S w I.ik
      have hC' := hC
      clear hdeps hC hend htoA
      simp only [tmT] at hr ⊢
      simp only [e106]
      refine Walk.callW (Post := AllOut kb kr m kra krc S w) ?_ (ho_of (by conv => lhs; whnf) (by kernel_rfl)) (by rfl) (by decide) rfl Try.func21 (by kernel_rfl) (by rfl) ?_
      · walk_nrm
        exact hal
      rintro v w1 ⟨⟨B, rfl, hB1, hB2, hT⟩, hI, hO, hZ⟩
      walk_nrm
      refine hr _ w1 ⟨upd u 107 (.slice (some ⟨B, 0, none⟩) m m), B, B2, ?_, Facts.set (facts_vals F0 fun j v hf hv => ?_) (by decide) rfl rfl, ⟨⟨?_, ?_, ?_, fun b hb hOf => ?_, by omega⟩, fun a b => ?_, fun a b => ?_⟩⟩
      · simp [tmT, upd, e106]
      · exact match j, hf, hv with
          | 0, _, hv => hv
          | 1, hf, hv => by rw [hfj] at hf; cases hf
          | 2, _, hv => hv
          | 3, _, hv => hv
          | 4, _, hv => hv
          | 5, _, hv => hv
          | 6, _, hv => hv
          | 7, _, hv => hv
          | 8, _, hv => hv
          | 9, _, hv => hv
          | 10, _, hv => hv
          | 11, _, hv => hv
          | 12, _, hv => hv
          | 13, _, hv => hv
          | 14, _, hv => hv
          | 15, _, hv => hv
          | 16, _, hv => hv
          | 17, _, hv => hv
          | 18, _, hv => hv
          | 19, _, hv => hv
          | 20, _, hv => hv
          | 21, _, hv => hv
          | 22, _, hv => hv
          | 23, _, hv => hv
          | 24, _, hv => hv
          | 25, _, hv => hv
          | 26, _, hv => hv
          | 27, _, hv => hv
          | 28, _, hv => hv
          | j + 29, _, hv => hv
      · exact hI
      · exact I.il.old fun b hb => hO b (by rcases hb with rfl | ⟨hm1, rfl⟩; omega; have := l4 hm1; omega) (by
          rcases hb with rfl | ⟨hm1, rfl⟩
          · rintro (h | ⟨hm1, h⟩)
            · omega
            · have := t4 hm1; omega
          · have := t4 hm1
            rintro (h | ⟨_, h⟩) <;> omega)
      · refine (hO p (by omega) ?_).trans I.cn
        rintro (h | ⟨hm1, h⟩)
        · omega
        · have := t4 hm1; omega
      · exact (hO b (by omega) hOf.1).trans (I.old b hb hOf)
      · exact hT
      · rw [upd_ne _ _ (by decide)] at a
        have := hC'.deps (i := 7) (l := [5]) a (by kernel_rfl) 5 (by simp)
        have h4 := hC'.deps (i := 5) (l := [4]) this (by kernel_rfl) 4 (by simp)
        have h1 := hC'.deps (i := 4) (l := [1]) h4 (by kernel_rfl) 1 (by simp)
        rw [hfj] at h1
        cases h1
    | 2, _ =>
      clear hdeps hC hend htoA
      simp only [tmT] at hr ⊢
      (refine Walk.oq ?_; try walk_nrm)
      refine hr _ _ ⟨upd u 108 (.pointer (some ⟨Q, 2, none⟩)), B1, B2, ?_, F0.set (by decide) rfl rfl, L.quiet (by decide) (by decide) hfj⟩
      simp [tmT, upd]
    | 3, _ =>
      have hd := deps_of (l := [2]) (by kernel_rfl) ho hdeps
      have e108 := F0 2 108 _ (hd 2 (by simp)) rfl rfl
      have y2 := hcell hQ x2
      clear hdeps hC hend htoA
      simp only [tmT] at hr ⊢
      simp only [e108]
      (refine Walk.oq ?_; try walk_nrm)
      refine hr _ _ ⟨upd u 109 (.slice (some ⟨sb, so, none⟩) m sc), B1, B2, ?_, F0.set (by decide) rfl rfl, L.quiet (by decide) (by decide) hfj⟩
      simp [tmT, upd, e108]
    | 4, _ =>
      have hd := deps_of (l := [1, 3]) (by kernel_rfl) ho hdeps
      have e107 := F0 1 107 _ (hd 1 (by simp)) rfl rfl
      have e109 := F0 3 109 _ (hd 3 (by simp)) rfl rfl
      have hnx : f 5 = false := by
        cases h : f 5 with
        | false => rfl
        | true => have := hC.deps (i := 5) (l := [4]) h (by kernel_rfl) 4 (by simp); rw [hfj] at this; cases this
      have hT := L.t1 (hd 1 (by simp)) hnx
      have hsn := sn_w (main := main) (V := fun _ => none) (some ⟨B1, 0, none⟩) (some ⟨sb, so, none⟩) (stL S m) m sc (by omega) w hT.numA (fun j x hx => by
        obtain ⟨b', o', e, h⟩ := hst j x hx
        cases e
        exact ⟨sb, so, rfl, hcell hsb h⟩)
      rw [hsl] at hsn
      clear hdeps hC hend htoA
      simp only [tmT] at hr ⊢
      simp only [e107, e109]
      refine Walk.callV (x := .bool true) (W := w) ?_ (ho_of (by conv => lhs; whnf) (by kernel_rfl)) (by rfl) (by decide) rfl Try.func20 (by kernel_rfl) (by rfl) ?_
      · walk_nrm
        exact hsn
      walk_nrm
      refine hr _ _ ⟨upd u 110 (.bool true), B1, B2, ?_, F0.set (by decide) rfl rfl, L.quiet (by decide) (by decide) hfj⟩
      simp [tmT, upd, e107, e109]
    | 5, _ =>
      have hd := deps_of (l := [4]) (by kernel_rfl) ho hdeps
      have e110 := F0 4 110 _ (hd 4 (by simp)) rfl rfl
      clear hdeps hC hend htoA
      simp only [tmT] at hr ⊢
      simp only [e110]
      (refine Walk.oq ?_; try walk_nrm)
      refine hr _ _ ⟨upd u 111 (.bool true), B1, B2, ?_, F0.set (by decide) rfl rfl, L.quiet (by decide) (by decide) hfj⟩
      simp [tmT, upd, e110]
    | 6, _ =>
      have hd := deps_of (l := [5]) (by kernel_rfl) ho hdeps
      have e111 := F0 5 111 _ (hd 5 (by simp)) rfl rfl
      clear hdeps hC hend htoA
      simp only [tmT] at hr ⊢
      simp only [e111]
      (refine Walk.oq ?_; try walk_nrm)
      refine hr _ _ ⟨upd u 112 (.pointer (some ⟨lb, 0, none⟩)), B1, B2, ?_, F0.set (by decide) rfl rfl, L.quiet (by decide) (by decide) hfj⟩
      simp [tmT, upd, e111]
    | 7, _ =>
      have hd := deps_of (l := [6, 5]) (by kernel_rfl) ho hdeps
      have e112 := F0 6 112 _ (hd 6 (by simp)) rfl rfl
      have e111 := F0 5 111 _ (hd 5 (by simp)) rfl rfl
      have hal := all_w (main := main) hA S w I.il
      have hC' := hC
      clear hdeps hC hend htoA
      simp only [tmT] at hr ⊢
      simp only [e112, e111]
      refine Walk.callW (Post := AllOut lb lr m lra lrc S w) ?_ (ho_of (by conv => lhs; whnf) (by kernel_rfl)) (by rfl) (by decide) rfl Try.func21 (by kernel_rfl) (by rfl) ?_
      · walk_nrm
        exact hal
      rintro v w1 ⟨⟨B, rfl, hB1, hB2, hT⟩, hI, hO, hZ⟩
      walk_nrm
      refine hr _ w1 ⟨upd u 113 (.slice (some ⟨B, 0, none⟩) m m), B1, B, ?_, Facts.set (facts_vals F0 fun j v hf hv => ?_) (by decide) rfl rfl, ⟨⟨?_, ?_, ?_, fun b hb hOf => ?_, by omega⟩, fun a b => ?_, fun a b => ?_⟩⟩
      · simp [tmT, upd, e112, e111]
      · exact match j, hf, hv with
          | 0, _, hv => hv
          | 1, _, hv => hv
          | 2, _, hv => hv
          | 3, _, hv => hv
          | 4, _, hv => hv
          | 5, _, hv => hv
          | 6, _, hv => hv
          | 7, hf, hv => by rw [hfj] at hf; cases hf
          | 8, _, hv => hv
          | 9, _, hv => hv
          | 10, _, hv => hv
          | 11, _, hv => hv
          | 12, _, hv => hv
          | 13, _, hv => hv
          | 14, _, hv => hv
          | 15, _, hv => hv
          | 16, _, hv => hv
          | 17, _, hv => hv
          | 18, _, hv => hv
          | 19, _, hv => hv
          | 20, _, hv => hv
          | 21, _, hv => hv
          | 22, _, hv => hv
          | 23, _, hv => hv
          | 24, _, hv => hv
          | 25, _, hv => hv
          | 26, _, hv => hv
          | 27, _, hv => hv
          | 28, _, hv => hv
          | j + 29, _, hv => hv
      · exact I.ik.old fun b hb => hO b (by rcases hb with rfl | ⟨hm1, rfl⟩; omega; have := l2 hm1; omega) (by
          rcases hb with rfl | ⟨hm1, rfl⟩
          · rintro (h | ⟨hm1, h⟩)
            · omega
            · have := t4 hm1; omega
          · have := t4 hm1
            rintro (h | ⟨_, h⟩) <;> omega)
      · exact hI
      · refine (hO p (by omega) ?_).trans I.cn
        rintro (h | ⟨hm1, h⟩)
        · omega
        · have := t4 hm1; omega
      · exact (hO b (by omega) hOf.2.1).trans (I.old b hb hOf)
      · rw [upd_ne _ _ (by decide), hd 5 (by simp)] at b
        cases b
      · exact hT
    | 8, _ =>
      have hd := deps_of (l := [5]) (by kernel_rfl) ho hdeps
      have e111 := F0 5 111 _ (hd 5 (by simp)) rfl rfl
      clear hdeps hC hend htoA
      simp only [tmT] at hr ⊢
      simp only [e111]
      (refine Walk.oq ?_; try walk_nrm)
      refine hr _ _ ⟨upd u 114 (.pointer (some ⟨Q, 2, none⟩)), B1, B2, ?_, F0.set (by decide) rfl rfl, L.quiet (by decide) (by decide) hfj⟩
      simp [tmT, upd, e111]
    | 9, _ =>
      have hd := deps_of (l := [8, 5]) (by kernel_rfl) ho hdeps
      have e114 := F0 8 114 _ (hd 8 (by simp)) rfl rfl
      have e111 := F0 5 111 _ (hd 5 (by simp)) rfl rfl
      have y2 := hcell hQ x2
      clear hdeps hC hend htoA
      simp only [tmT] at hr ⊢
      simp only [e114, e111]
      (refine Walk.oq ?_; try walk_nrm)
      refine hr _ _ ⟨upd u 115 (.slice (some ⟨sb, so, none⟩) m sc), B1, B2, ?_, F0.set (by decide) rfl rfl, L.quiet (by decide) (by decide) hfj⟩
      simp [tmT, upd, e114, e111]
    | 10, _ =>
      have hd := deps_of (l := [7, 9, 5]) (by kernel_rfl) ho hdeps
      have e113 := F0 7 113 _ (hd 7 (by simp)) rfl rfl
      have e115 := F0 9 115 _ (hd 9 (by simp)) rfl rfl
      have e111 := F0 5 111 _ (hd 5 (by simp)) rfl rfl
      have hnx : f 11 = false := by
        cases h : f 11 with
        | false => rfl
        | true => have := hC.deps (i := 11) (l := [10]) h (by kernel_rfl) 10 (by simp); rw [hfj] at this; cases this
      have hT := L.t2 (hd 7 (by simp)) hnx
      have hsn := sn_w (main := main) (V := fun _ => none) (some ⟨B2, 0, none⟩) (some ⟨sb, so, none⟩) (stL S m) m sc (by omega) w hT.numA (fun j x hx => by
        obtain ⟨b', o', e, h⟩ := hst j x hx
        cases e
        exact ⟨sb, so, rfl, hcell hsb h⟩)
      rw [hsl] at hsn
      clear hdeps hC hend htoA
      simp only [tmT] at hr ⊢
      simp only [e113, e115, e111]
      refine Walk.callV (x := .bool true) (W := w) ?_ (ho_of (by conv => lhs; whnf) (by kernel_rfl)) (by rfl) (by decide) rfl Try.func20 (by kernel_rfl) (by rfl) ?_
      · walk_nrm
        exact hsn
      walk_nrm
      refine hr _ _ ⟨upd u 116 (.bool true), B1, B2, ?_, F0.set (by decide) rfl rfl, L.quiet (by decide) (by decide) hfj⟩
      simp [tmT, upd, e113, e115, e111]
    | 11, _ =>
      have hd := deps_of (l := [5, 10]) (by kernel_rfl) ho hdeps
      have e111 := F0 5 111 _ (hd 5 (by simp)) rfl rfl
      have e116 := F0 10 116 _ (hd 10 (by simp)) rfl rfl
      clear hdeps hC hend htoA
      simp only [tmT] at hr ⊢
      simp only [e111, e116]
      (refine Walk.oq ?_; try walk_nrm)
      refine hr _ _ ⟨upd u 117 (.bool true), B1, B2, ?_, F0.set (by decide) rfl rfl, L.quiet (by decide) (by decide) hfj⟩
      simp [tmT, upd, e111, e116]
    | 12, _ =>
      have hd := deps_of (l := [11, 10]) (by kernel_rfl) ho hdeps
      have e117 := F0 11 117 _ (hd 11 (by simp)) rfl rfl
      have e116 := F0 10 116 _ (hd 10 (by simp)) rfl rfl
      clear hdeps hC hend htoA
      simp only [tmT] at hr ⊢
      simp only [e117, e116]
      (refine Walk.oq ?_; try walk_nrm)
      refine hr _ _ ⟨upd u 118 (.bool true), B1, B2, ?_, F0.set (by decide) rfl rfl, L.quiet (by decide) (by decide) hfj⟩
      simp [tmT, upd, e117, e116]
    | 13, _ =>
      have hd := deps_of (l := [12]) (by kernel_rfl) ho hdeps
      have e118 := F0 12 118 _ (hd 12 (by simp)) rfl rfl
      clear hdeps hC hend htoA
      simp only [tmT] at hr ⊢
      simp only [e118]
      (refine Walk.oq ?_; try walk_nrm)
      refine hr _ _ ⟨upd u 119 (.pointer (some ⟨kb, 0, none⟩)), B1, B2, ?_, F0.set (by decide) rfl rfl, L.quiet (by decide) (by decide) hfj⟩
      simp [tmT, upd, e118]
    | 14, _ =>
      have hd := deps_of (l := [13, 12]) (by kernel_rfl) ho hdeps
      have e119 := F0 13 119 _ (hd 13 (by simp)) rfl rfl
      have e118 := F0 12 118 _ (hd 12 (by simp)) rfl rfl
      have hto := htoA w I.ik
      have h11 := hC.deps (i := 12) (l := [11]) (hd 12 (by simp)) (by kernel_rfl) 11 (by simp)
      have h5 := hC.deps (i := 11) (l := [5]) h11 (by kernel_rfl) 5 (by simp)
      clear hdeps hC hend
      simp only [tmT] at hr ⊢
      simp only [e119, e118]
      refine Walk.callW (Post := fun v w' => v = .int .i64 t ∧ Reads kb kr m kra krc S w w') ?_ (ho_of (by conv => lhs; whnf) (by kernel_rfl)) (by rfl) (by decide) rfl Try.func22 (by kernel_rfl) (by rfl) ?_
      · walk_nrm
        exact hto
      rintro v w1 ⟨rfl, hI, hZ, hO⟩
      walk_nrm
      refine hr _ w1 ⟨upd u 120 (.int .i64 t), B1, B2, ?_, F0.set (by decide) rfl rfl, ⟨⟨hI, ?_, ?_, fun b hb hOf => ?_, by omega⟩, fun a b => ?_, fun a b => ?_⟩⟩
      · simp [tmT, upd, e119, e118]
      · exact I.il.old fun b hb => hO b (by rcases hb with rfl | ⟨hm1, rfl⟩; omega; have := l4 hm1; omega) (by
          rcases hb with rfl | ⟨hm1, rfl⟩
          · rintro (h | ⟨hm1, h⟩)
            · omega
            · have := t4 hm1; omega
          · have := t4 hm1
            rintro (h | ⟨_, h⟩) <;> omega)
      · refine (hO p (by omega) ?_).trans I.cn
        rintro (h | ⟨hm1, h⟩)
        · omega
        · have := t4 hm1; omega
      · exact (hO b (by omega) hOf.1).trans (I.old b hb hOf)
      · rw [upd_ne _ _ (by decide), h5] at b
        cases b
      · rw [upd_ne _ _ (by decide), h11] at b
        cases b
    | 15, _ =>
      have hd := deps_of (l := [12]) (by kernel_rfl) ho hdeps
      have e118 := F0 12 118 _ (hd 12 (by simp)) rfl rfl
      clear hdeps hC hend htoA
      simp only [tmT] at hr ⊢
      simp only [e118]
      (refine Walk.oq ?_; try walk_nrm)
      refine hr _ _ ⟨upd u 121 (.int .i64 t), B1, B2, ?_, F0.set (by decide) rfl rfl, L.quiet (by decide) (by decide) hfj⟩
      simp [tmT, upd, e118]
    | 16, _ =>
      have hd := deps_of (l := [14, 15, 12]) (by kernel_rfl) ho hdeps
      have e120 := F0 14 120 _ (hd 14 (by simp)) rfl rfl
      have e121 := F0 15 121 _ (hd 15 (by simp)) rfl rfl
      have e118 := F0 12 118 _ (hd 12 (by simp)) rfl rfl
      have hbe : (t == t) = true := by simp
      clear hdeps hC hend htoA
      simp only [tmT] at hr ⊢
      simp only [e120, e121, e118]
      (refine Walk.oq ?_; try walk_nrm)
      refine hr _ _ ⟨upd u 122 (.bool true), B1, B2, ?_, F0.set (by decide) rfl rfl, L.quiet (by decide) (by decide) hfj⟩
      simp [tmT, upd, e120, e121, e118]
    | 17, _ =>
      have hd := deps_of (l := [12, 16]) (by kernel_rfl) ho hdeps
      have e118 := F0 12 118 _ (hd 12 (by simp)) rfl rfl
      have e122 := F0 16 122 _ (hd 16 (by simp)) rfl rfl
      clear hdeps hC hend htoA
      simp only [tmT] at hr ⊢
      simp only [e118, e122]
      (refine Walk.oq ?_; try walk_nrm)
      refine hr _ _ ⟨upd u 123 (.bool true), B1, B2, ?_, F0.set (by decide) rfl rfl, L.quiet (by decide) (by decide) hfj⟩
      simp [tmT, upd, e118, e122]
    | 18, _ =>
      have hd := deps_of (l := [17, 14]) (by kernel_rfl) ho hdeps
      have e123 := F0 17 123 _ (hd 17 (by simp)) rfl rfl
      have e120 := F0 14 120 _ (hd 14 (by simp)) rfl rfl
      clear hdeps hC hend htoA
      simp only [tmT] at hr ⊢
      simp only [e123, e120]
      (refine Walk.oq ?_; try walk_nrm)
      refine hr _ _ ⟨upd u 124 (.bool true), B1, B2, ?_, F0.set (by decide) rfl rfl, L.quiet (by decide) (by decide) hfj⟩
      simp [tmT, upd, e123, e120]
    | 19, _ =>
      have hd := deps_of (l := [18]) (by kernel_rfl) ho hdeps
      have e124 := F0 18 124 _ (hd 18 (by simp)) rfl rfl
      clear hdeps hC hend htoA
      simp only [tmT] at hr ⊢
      simp only [e124]
      (refine Walk.oq ?_; try walk_nrm)
      refine hr _ _ ⟨upd u 125 (.pointer (some ⟨p, 0, none⟩)), B1, B2, ?_, F0.set (by decide) rfl rfl, L.quiet (by decide) (by decide) hfj⟩
      simp [tmT, upd, e124]
    | 20, _ =>
      have hd := deps_of (l := [19, 18]) (by kernel_rfl) ho hdeps
      have e125 := F0 19 125 _ (hd 19 (by simp)) rfl rfl
      have e124 := F0 18 124 _ (hd 18 (by simp)) rfl rfl
      clear hdeps hC hend htoA
      simp only [tmT] at hr ⊢
      simp only [e125, e124]
      (refine Walk.oq ?_; try walk_nrm)
      refine hr _ _ ⟨upd u 126 (.pointer (some ⟨p, 0, none⟩)), B1, B2, ?_, F0.set (by decide) rfl rfl, L.quiet (by decide) (by decide) hfj⟩
      simp [tmT, upd, e125, e124]
    | 21, _ =>
      have hd := deps_of (l := [20, 18]) (by kernel_rfl) ho hdeps
      have e126 := F0 20 126 _ (hd 20 (by simp)) rfl rfl
      have e124 := F0 18 124 _ (hd 18 (by simp)) rfl rfl
      clear hdeps hC hend htoA
      simp only [tmT] at hr ⊢
      simp only [e126, e124]
      (refine Walk.oq ?_; try walk_nrm)
      refine hr _ _ ⟨upd u 127 (.pointer (some ⟨p, 0, none⟩)), B1, B2, ?_, F0.set (by decide) rfl rfl, L.quiet (by decide) (by decide) hfj⟩
      simp [tmT, upd, e126, e124]
    | 22, _ =>
      have hd := deps_of (l := [21, 18]) (by kernel_rfl) ho hdeps
      have e127 := F0 21 127 _ (hd 21 (by simp)) rfl rfl
      have e124 := F0 18 124 _ (hd 18 (by simp)) rfl rfl
      have y3 : w.cell? ⟨p, 0, none⟩ = some (.int .i64 c) := (cell_of I.cn 0).trans rfl
      clear hdeps hC hend htoA
      simp only [tmT] at hr ⊢
      simp only [e127, e124]
      (refine Walk.oq ?_; try walk_nrm)
      refine hr _ _ ⟨upd u 128 (.int .i64 c), B1, B2, ?_, F0.set (by decide) rfl rfl, L.quiet (by decide) (by decide) hfj⟩
      simp [tmT, upd, e127, e124]
    | 23, _ =>
      have hd := deps_of (l := [18]) (by kernel_rfl) ho hdeps
      have e124 := F0 18 124 _ (hd 18 (by simp)) rfl rfl
      clear hdeps hC hend htoA
      simp only [tmT] at hr ⊢
      simp only [e124]
      (refine Walk.oq ?_; try walk_nrm)
      refine hr _ _ ⟨upd u 129 (.pointer (some ⟨Q, 1, none⟩)), B1, B2, ?_, F0.set (by decide) rfl rfl, L.quiet (by decide) (by decide) hfj⟩
      simp [tmT, upd, e124]
    | 24, _ =>
      have hd := deps_of (l := [23, 18]) (by kernel_rfl) ho hdeps
      have e129 := F0 23 129 _ (hd 23 (by simp)) rfl rfl
      have e124 := F0 18 124 _ (hd 18 (by simp)) rfl rfl
      have y1 := hcell hQ x1
      clear hdeps hC hend htoA
      simp only [tmT] at hr ⊢
      simp only [e129, e124]
      (refine Walk.oq ?_; try walk_nrm)
      refine hr _ _ ⟨upd u 130 (.slice oa c oc), B1, B2, ?_, F0.set (by decide) rfl rfl, L.quiet (by decide) (by decide) hfj⟩
      simp [tmT, upd, e129, e124]
    | 25, _ =>
      have hd := deps_of (l := [24, 18]) (by kernel_rfl) ho hdeps
      have e130 := F0 24 130 _ (hd 24 (by simp)) rfl rfl
      have e124 := F0 18 124 _ (hd 18 (by simp)) rfl rfl
      clear hdeps hC hend htoA
      simp only [tmT] at hr ⊢
      simp only [e130, e124]
      (refine Walk.oq ?_; try walk_nrm)
      refine hr _ _ ⟨upd u 131 (.int .i64 c), B1, B2, ?_, F0.set (by decide) rfl rfl, L.quiet (by decide) (by decide) hfj⟩
      simp [tmT, upd, e130, e124]
    | 26, _ =>
      have hd := deps_of (l := [22, 25, 18]) (by kernel_rfl) ho hdeps
      have e128 := F0 22 128 _ (hd 22 (by simp)) rfl rfl
      have e131 := F0 25 131 _ (hd 25 (by simp)) rfl rfl
      have e124 := F0 18 124 _ (hd 18 (by simp)) rfl rfl
      have hbe : ((c : Int) == c) = true := by simp
      clear hdeps hC hend htoA
      simp only [tmT] at hr ⊢
      simp only [e128, e131, e124]
      (refine Walk.oq ?_; try walk_nrm)
      refine hr _ _ ⟨upd u 132 (.bool true), B1, B2, ?_, F0.set (by decide) rfl rfl, L.quiet (by decide) (by decide) hfj⟩
      simp [tmT, upd, e128, e131, e124]
    | 27, _ =>
      have hd := deps_of (l := [18, 26]) (by kernel_rfl) ho hdeps
      have e124 := F0 18 124 _ (hd 18 (by simp)) rfl rfl
      have e132 := F0 26 132 _ (hd 26 (by simp)) rfl rfl
      clear hdeps hC hend htoA
      simp only [tmT] at hr ⊢
      simp only [e124, e132]
      (refine Walk.oq ?_; try walk_nrm)
      refine hr _ _ ⟨upd u 133 (.bool true), B1, B2, ?_, F0.set (by decide) rfl rfl, L.quiet (by decide) (by decide) hfj⟩
      simp [tmT, upd, e124, e132]
    | 28, _ =>
      have hd := deps_of (l := [27, 18]) (by kernel_rfl) ho hdeps
      have e133 := F0 27 133 _ (hd 27 (by simp)) rfl rfl
      have e124 := F0 18 124 _ (hd 18 (by simp)) rfl rfl
      clear hdeps hC hend htoA
      simp only [tmT] at hr ⊢
      simp only [e133, e124]
      (refine Walk.oq ?_; try walk_nrm)
      refine hr _ _ ⟨upd u 4 (.bool true), B1, B2, ?_, F0.set (by decide) rfl rfl, L.quiet (by decide) (by decide) hfj⟩
      simp [tmT, upd, e133, e124]
  · rintro f act w ⟨u, B1, B2, rfl, F0, L⟩ hall
    exact hend u w (F0 28 4 _ (hall 28 (by rw [size4_19]; decide)) rfl rfl) L.I.old L.I.size
end
end
end Go.Proofs.Ytnnakajldnaldaa
