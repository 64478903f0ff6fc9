/- Part 36. -/
import Derived.Test.YtdcjgmlgmjjogaaJ25
import Derived.Test.YtdcjgmlgmjjogaaJ35
set_option linter.unusedSimpArgs false
set_option linter.unusedVariables false
set_option maxHeartbeats 8000000
set_option maxRecDepth 100000
namespace Go.Proofs.Ytdcjgmlgmjjogaa
open Go.Conc Go.RowKit Go.Relay
open Go.ConcN (upd upd_ne upd_same)
section
theorem omx_new {m n lc N : Nat} {la : Option Addr} {w0 w : World} (h1 : 1 ≤ N) (hm : w0.heap.size = m) (H : CelI m n lc la N w0 w) : ∃ cb cc, OmX (fun g => m ≤ g) m cb N cc (.slice la n lc) oz0 w := by
 obtain ⟨ca, cc, hb, hrow⟩ := H.mb
 rcases hrow.2 with ⟨_, h0⟩ | ⟨g, cap, cur, e, hg, hh, hle, _, hsz, htk⟩
 ·omega
 ·injection e with e1 e2 e3
  subst e1
  refine ⟨g, cc, hb, ⟨cur, hh, fun i hi => ?_⟩, Nat.le_refl _, by show m ≤ g; omega, by omega⟩
  have key : ∀ j, j < N * 3 → cur[j]? = some (.int .i64 0) := fun j hj => by
   have h : (cur.toList.take (N * 3))[j]? = some (.int .i64 0) := by rw [htk]; simp [hj]
   rw [List.getElem?_take, if_pos hj] at h
   simpa using h
  exact ⟨key _ (by omega), key _ (by omega), key _ (by omega)⟩
section
variable {main : Bool}
theorem ply_in (sz : Int) (tb toff n0 tc n : Nat) (ta : Option Addr) (oa : Nat → Option Addr) (ln oc : Nat → Nat) (ops : Nat → List OpV) (sv : Value) (most : Int) (cs : List Frame) (W : World) (hn : n = min n0 64) (ht : 0 < n → ta = some ⟨tb, toff, none⟩) (hI : ∀ w, (∀ b, b < W.heap.size → w.heap[b]? = W.heap[b]?) → OpsIn tb toff n oa ln oc ops w) :
  Walk Try.prog main (DR (fun _ => none)) (fun g w' => ∃ a2 cb cc pr ts oas ocs la lc, (∃ u, g = G (hdY1 sv most W.heap.size a2 0 u) cs) ∧ PlyIn sz ops n W a2 cb cc pr ts oas ocs la lc w')
   (G (Frame.enter Try.prog 12 #[.int .i64 sz, .slice ta n0 tc, sv, .int .i64 most] .normal) cs) W := by
 refine (ply_open sz tb toff n0 tc n ta oa ln oc ops sv most cs W hn ht hI).then ?_
 rintro _ w1 ⟨w0, pr, ts, oas, ocs, la, lc, ⟨u, rfl⟩, ⟨wa, sa, oa1, ra, H⟩, C1⟩
 refine (ply_cells sz sv most W.heap.size w0.heap.size n lc la cs w0 (cellsN sz) 0 u w1 (by omega) C1).then ?_
 rintro _ w2 ⟨⟨u2, rfl⟩, C2⟩
 refine (ply_celled sz sv most W.heap.size w0.heap.size u2 cs w2).mono ?_
 rintro _ w3 ⟨⟨u3, rfl⟩, d, rfl⟩
 obtain ⟨cb, cc, M⟩ := omx_new (cellsN_le sz).1 rfl C2
 have hs := H.size
 have hsz := C2.size
 have old2 : ∀ b, b < w0.heap.size → (w2.at d).heap[b]? = w0.heap[b]? := C2.old
 refine ⟨w0.heap.size, cb, cc, pr, ts, oas, ocs, la, lc, ⟨u3, rfl⟩, ⟨by omega, ?_⟩, fun b hb => ?_, ?_, M.at d, ?_, fun g hg => ⟨H.rowp g hg, ?_⟩, fun b j hj => ?_, fun j hj => (H.th j hj).same fun g hg hp => old2 g (by have := (H.prl g j hp).2.1; omega)⟩
 ·show w0.heap.size ≤ w2.heap.size
  omega
 ·exact (old2 b (by omega)).trans ((H.old b (by omega)).trans (oa1 b hb))
 ·exact (old2 _ (by omega)).trans ((H.old _ (by omega)).trans ra)
 ·have h := row_same H.row (w' := w2.at d) fun g hg => old2 g (H.row.lt g hg).2
  rwa [sa] at h
 ·exact (H.row.lt g hg).2
 ·have := H.prl b j hj
  exact ⟨by omega, this.2.1, this.2.2⟩
theorem ply_one (sv : Value) (most : Int) (r m i tl n lc q : Nat) (Z : World → Prop) (u : Nat → Value) (cs : List Frame) (w : World) (hi : i < n) (hn : n ≤ 64) (c1 : w.cell? ⟨m, 1, none⟩ = some (.slice (some ⟨tl, 0, none⟩) n lc)) (hl : w.cell? ⟨tl, i, none⟩ = some (.pointer (some ⟨q, 0, none⟩)))
  (hb : CallW Try.prog main (fun _ => none) 34 #[.pointer (some ⟨m, 0, none⟩), .pointer (some ⟨q, 0, none⟩)] w (fun v w' => v = .tuple #[] ∧ Z w')) :
  Walk Try.prog main (DR (fun _ => none)) (fun g w' => (∃ u, g = G (hdY1 sv most r m (i + 1) u) cs) ∧ ∃ w1 d, Z w1 ∧ w' = w1.at d) (G (hdY1 sv most r m i u) cs) w := by
 have hw1 : IntKind.wrap .i64 ((i : Int) + 1) = (i : Int) + 1 := by rw [IntKind.wrap_i64]; omega
 conv => arg 5; unfold hdY1
 repeat (first | refine Walk.cx ?_ | (refine Walk.cReg ?_; simp only [z12]) | (refine Walk.oq ?_; try walk_nrm) | (refine Walk.un ?_; walk_nrm))
 refine Walk.callW (Post := fun v w' => v = .tuple #[] ∧ Z w') ?_ (ho_of (by conv => lhs; whnf) (by kernel_rfl)) (by rfl) (by decide) rfl Try.func34 (by kernel_rfl) (by rfl) ?_
 ·walk_nrm
  exact hb
 rintro v w1 ⟨rfl, hZ⟩
 clear c1 hl hb
 walk_nrm
 repeat (first | refine Walk.cx ?_ | (refine Walk.cReg ?_; simp only [z12]) | (refine Walk.oq ?_; try walk_nrm) | (refine Walk.un ?_; walk_nrm))
 refine Walk.ctl rfl (fun w => stepG_inLoop) ?_
 refine .stop fun d => ⟨at_slots ?_, w1, d, hZ, rfl⟩
 have hc : ((i + 1 : Nat) : Int) = (i : Int) + 1 := by simp
 simp only [hdY1, hc]
 rfl
theorem ply_turn (sa : Option Addr) (sn sc : Nat) (most : Int) (r m n lc : Nat) (la : Option Addr) (B : World → Nat → World → Prop) (u : Nat → Value) (cs : List Frame) (w : World) (c1 : w.cell? ⟨m, 1, none⟩ = some (.slice la n lc))
  (hb : CallW Try.prog main (fun _ => none) 35 #[.slice sa sn sc, .int .i64 most] w (fun v w' => ∃ b, v = .pointer (some ⟨b, 0, none⟩) ∧ B w b w')) :
  Walk Try.prog main (DR (fun _ => none)) (fun g w' => ∃ b w1 d, (∃ u, g = G (hdY2 r m b u) cs) ∧ B w b w1 ∧ w' = w1.at d) (G (hdY1 (.slice sa sn sc) most r m n u) cs) w := by
 conv => arg 5; unfold hdY1
 repeat (first | refine Walk.cx ?_ | (refine Walk.cReg ?_; simp only [z12]) | (refine Walk.oq ?_; try walk_nrm) | (refine Walk.un ?_; walk_nrm))
 refine Walk.callW (Post := fun v w' => ∃ b, v = .pointer (some ⟨b, 0, none⟩) ∧ B w b w') ?_ (ho_of (by conv => lhs; whnf) (by kernel_rfl)) (by rfl) (by decide) rfl Try.func35 (by kernel_rfl) (by rfl) ?_
 ·walk_nrm
  exact hb
 rintro v w1 ⟨b, rfl, hB⟩
 clear c1 hb
 walk_nrm
 repeat (first | refine Walk.cx ?_ | (refine Walk.cReg ?_; simp only [z12]) | (refine Walk.oq ?_; try walk_nrm) | (refine Walk.un ?_; walk_nrm))
 refine Walk.ctl rfl (fun w => stepG_loop) ?_
 refine .stop fun d => ⟨b, w1, d, at_slots ?_, hB, rfl⟩
 simp only [hdY2]
 rfl
theorem ply_go (r m B n lc : Nat) (la : Option Addr) (Y : Nat → World → Prop) (Z : Nat → World → World → Prop) (u : Nat → Value) (cs : List Frame) (w : World) (hn : n ≤ 64) (c1 : w.cell? ⟨m, 1, none⟩ = some (.slice la n lc))
  (hp : CallW Try.prog main (fun _ => none) 36 #[.pointer (some ⟨B, 0, none⟩), .slice la n lc] w (fun v w' => ∃ x : Nat, v = .int .i64 (x : Nat) ∧ Y x w'))
  (hy : ∀ x w1, Y x w1 → x < n ∧ w1.cell? ⟨m, 1, none⟩ = some (.slice la n lc) ∧ ∃ tl q, la = some ⟨tl, 0, none⟩ ∧ w1.cell? ⟨tl, x, none⟩ = some (.pointer (some ⟨q, 0, none⟩)) ∧ CallW Try.prog main (fun _ => none) 39 #[.pointer (some ⟨m, 0, none⟩), .pointer (some ⟨q, 0, none⟩)] w1 (fun v w' => v = .tuple #[] ∧ Z x w1 w')) :
  Walk Try.prog main (DR (fun _ => none)) (fun g w' => (∃ u, g = G (hdY2 r m B u) cs) ∧ ∃ x w1 w2 d, Y x w1 ∧ Z x w1 w2 ∧ w' = w2.at d) (G (hdY2 r m B u) cs) w := by
 conv => arg 5; unfold hdY2
 repeat (first | refine Walk.cx ?_ | (refine Walk.cReg ?_; simp only [z12]) | (refine Walk.oq ?_; try walk_nrm) | (refine Walk.un ?_; walk_nrm))
 refine Walk.callW (Post := fun v w' => ∃ x : Nat, v = .int .i64 (x : Nat) ∧ Y x w') ?_ (ho_of (by conv => lhs; whnf) (by kernel_rfl)) (by rfl) (by decide) rfl Try.func36 (by kernel_rfl) (by rfl) ?_
 ·walk_nrm
  exact hp
 rintro v w1 ⟨x, rfl, hY⟩
 obtain ⟨hx, k1, tl, q, rfl, hl, hs⟩ := hy x w1 hY
 clear c1 hp hy
 have hd0 : decide ((x : Int) < 0) = false := by simp
 have hx1 : (x : Int) < n := by omega
 walk_nrm
 repeat (first | refine Walk.cx ?_ | (refine Walk.cReg ?_; simp only [z12]) | (refine Walk.oq ?_; try walk_nrm) | (refine Walk.un ?_; walk_nrm))
 refine Walk.callW (Post := fun v w' => v = .tuple #[] ∧ Z x w1 w') ?_ (ho_of (by conv => lhs; whnf) (by kernel_rfl)) (by rfl) (by decide) rfl Try.func39 (by kernel_rfl) (by rfl) ?_
 ·walk_nrm
  exact hs
 rintro v w2 ⟨rfl, hZ⟩
 clear k1 hl hs
 walk_nrm
 repeat (first | refine Walk.cx ?_ | (refine Walk.cReg ?_; simp only [z12]) | (refine Walk.oq ?_; try walk_nrm) | (refine Walk.un ?_; walk_nrm))
 refine Walk.ctl rfl (fun w => stepG_inLoop) ?_
 refine .stop fun d => ⟨at_slots ?_, x, w1, w2, d, hY, hZ, rfl⟩
 simp only [hdY2]
 rfl
end
end
section
theorem facts_out {dsts : List Nat} {vals : List Value} {f : Nat → Bool} {u : Nat → Value} (F : Facts dsts vals f u) {i d : Nat} {v : Value} (hd : dsts[i]? = none) (hn : d ∉ dsts) : Facts dsts vals (upd f i true) (upd u d v) := by
 intro j e x hf hj hv
 have e1 : j ≠ i := fun h => by rw [h, hd] at hj; cases hj
 have e2 : e ≠ d := fun h => hn (h ▸ List.mem_of_getElem? hj)
 rw [upd_ne _ _ e1] at hf
 rw [upd_ne _ _ e2]
 exact F j e x hf hj hv
section
variable {main : Bool}
structure PlyEnd (m cb N cc : Nat) (s : Oz) (n lc : Nat) (la : Option Addr) (hv : Nat → Value) (B : Nat) (lo : Option Addr) (lco : Nat) (sl : List Int) (most : Int) (p rd : Nat) (oa : Option Addr) (oc : Nat) (ord : List Nat) (st : Bool) (r : Nat) (w : World) : Prop where
 M : OmX (fun g => g < w.heap.size) m cb N cc (.slice la n lc) s w
 U : TuX (fun g => g < w.heap.size) B lo lco sl most p rd oa oc ord st w
 th : ∀ i, i < n → ∃ tl q aa al ac, la = some ⟨tl, 0, none⟩ ∧ w.cell? ⟨tl, 0 + i, none⟩ = some (.pointer (some ⟨q, 0, none⟩)) ∧ w.cell? ⟨q, 12, none⟩ = some (.slice aa al ac) ∧ hv i = .slice aa al ac
 res : w.heap[r]? = some zTr
 rlt : r < w.heap.size
def PlyOut (n : Nat) (hv : Nat → Value) (oa : Option Addr) (oc : Nat) (ord : List Nat) (sts : List Int) (st : Bool) (r : Nat) (w1 : World) (v : Value) (w' : World) : Prop := ∃ ha hc sa sc, v = .agg (trC (.slice ha n hc) (.slice oa ord.length oc) (.slice sa sts.length sc) st) ∧ w'.ownsRow w1.heap.size 49 1 (.slice ha n hc) n (hdRow hv n) ∧ w'.ownsRow w1.heap.size 2 1 (.slice sa sts.length sc) sts.length (intRow sts) ∧ Chg (fun b => b = r) w1 w'
def tmX (r m B : Nat) (u : Nat → Value) : Array Value := #[u 0, u 1, u 2, u 3, u 4, u 5, u 6, u 7, .pointer (some ⟨r, 0, none⟩), .pointer (some ⟨m, 0, none⟩), u 10, u 11, .pointer (some ⟨B, 0, none⟩), u 13, u 14, u 15, u 16, u 17, u 18, u 19, u 20, u 21, u 22, u 23, u 24, u 25, u 26, u 27, u 28, u 29, u 30, u 31, u 32, u 33, u 34, u 35, u 36, u 37, u 38, u 39, u 40, u 41, u 42, u 43, u 44, u 45, u 46, u 47, u 48, u 49, u 50, u 51, u 52, u 53, u 54, u 55, u 56, u 57, u 58, u 59, u 60, u 61, u 62, u 63, u 64, u 65, u 66, u 67, u 68, u 69, u 70, u 71, u 72, u 73, u 74, u 75, u 76, u 77, u 78, u 79]
def dsX : List Nat := [63, 64, 65, 66, 67, 68]
def vsX (m B n lc : Nat) (la : Option Addr) : List Value := [.pointer (some ⟨B, 0, none⟩), .pointer (some ⟨m, 0, none⟩), .pointer (some ⟨m, 0, none⟩), .pointer (some ⟨m, 1, none⟩), .slice la n lc, .pointer (some ⟨m, 0, none⟩)]
inductive LaR (n : Nat) (hv : Nat → Value) (oa : Option Addr) (oc : Nat) (ord : List Nat) (sts : List Int) (st : Bool) (r : Nat) (w1 : World) (f : Nat → Bool) (u : Nat → Value) (w' : World) : Prop
 | early (h6 : f 6 = false) (h7 : f 7 = false) (h8 : f 8 = false) (e : ∃ d, w' = w1.at d)
 | stated (h6 : f 6 = true) (h7 : f 7 = false) (h8 : f 8 = false) (sa : Option Addr) (sc : Nat) (e : u 69 = .slice sa sts.length sc) (H : VI w1 w' sts sa sc)
 | told (h7 : f 7 = true) (h8 : f 8 = false) (sa : Option Addr) (sc : Nat) (ha : Option Addr) (hc : Nat) (e : u 70 = .agg (trC (.slice ha n hc) (.slice oa ord.length oc) (.slice sa sts.length sc) st)) (r1 : w'.ownsRow w1.heap.size 49 1 (.slice ha n hc) n (hdRow hv n)) (r2 : w'.ownsRow w1.heap.size 2 1 (.slice sa sts.length sc) sts.length (intRow sts)) (C : Chg (fun _ => False) w1 w')
 | done (h8 : f 8 = true) (cells : Array Value) (hr : w'.heap[r]? = some (.cells cells 29)) (hs : cells.size = 4) (h : PlyOut n hv oa oc ord sts st r w1 (.agg cells) w')
theorem LaR.quiet {n : Nat} {hv : Nat → Value} {oa : Option Addr} {oc : Nat} {ord : List Nat} {sts : List Int} {st : Bool} {r : Nat} {w1 : World} {f : Nat → Bool} {u : Nat → Value} {w' : World} (H : LaR n hv oa oc ord sts st r w1 f u w') {i d : Nat} {v : Value} (hi : i < 6) (hd : d < 69) : LaR n hv oa oc ord sts st r w1 (upd f i true) (upd u d v) w' := by
 have n6 : upd f i true 6 = f 6 := upd_ne _ _ (by omega)
 have n7 : upd f i true 7 = f 7 := upd_ne _ _ (by omega)
 have n8 : upd f i true 8 = f 8 := upd_ne _ _ (by omega)
 have u9 : upd u d v 69 = u 69 := upd_ne _ _ (by omega)
 have u0 : upd u d v 70 = u 70 := upd_ne _ _ (by omega)
 cases H with
 | early h6 h7 h8 e => exact .early (n6.trans h6) (n7.trans h7) (n8.trans h8) e
 | stated h6 h7 h8 sa sc e H => exact .stated (n6.trans h6) (n7.trans h7) (n8.trans h8) sa sc (u9.trans e) H
 | told h7 h8 sa sc ha hc e r1 r2 C => exact .told (n7.trans h7) (n8.trans h8) sa sc ha hc (u0.trans e) r1 r2 C
 | done h8 cells hr hs h => exact .done (n8.trans h8) cells hr hs h
theorem LaR.olds {n : Nat} {hv : Nat → Value} {oa : Option Addr} {oc : Nat} {ord : List Nat} {sts : List Int} {st : Bool} {r : Nat} {w1 : World} {f : Nat → Bool} {u : Nat → Value} {w' : World} (H : LaR n hv oa oc ord sts st r w1 f u w') {b : Nat} (hb : b < w1.heap.size) (hr : b ≠ r) : w'.heap[b]? = w1.heap[b]? := by
 cases H with
 | early _ _ _ e => obtain ⟨d, rfl⟩ := e; rfl
 | stated _ _ _ _ _ _ H => exact H.old b hb
 | told _ _ _ _ _ _ _ _ _ C => exact C.same b hb id
 | done _ _ _ _ h => obtain ⟨_, _, _, _, _, _, _, C⟩ := h; exact C.same b hb hr
theorem ply_last (m cb N cc : Nat) (s : Oz) (n lc : Nat) (la : Option Addr) (hv : Nat → Value) (B : Nat) (Y : World → Prop) (r : Nat) (u0 : Nat → Value) (c : Frame) (cs : List Frame) (w : World) (hn : n ≤ 64) (hN : N ≤ 64) (hmr : m ≠ r) (c1 : w.cell? ⟨m, 1, none⟩ = some (.slice la n lc))
  (hp : CallW Try.prog main (fun _ => none) 36 #[.pointer (some ⟨B, 0, none⟩), .slice la n lc] w (fun v w' => v = .int .i64 (-1) ∧ Y w'))
  (hy : ∀ w1, Y w1 → ∃ lo lco sl most p rd oa oc ord st, PlyEnd m cb N cc s n lc la hv B lo lco sl most p rd oa oc ord st r w1) :
  Walk Try.prog main (DR (fun _ => none)) (fun g w' => ∃ v w1 lo lco sl most p rd oa oc ord st, Y w1 ∧ PlyEnd m cb N cc s n lc la hv B lo lco sl most p rd oa oc ord st r w1 ∧ PlyOut n hv oa oc ord (ozState s N) st r w1 v w' ∧ g = G (c.finish v) cs) (G (hdY2 r m B u0) (c :: cs)) w := by
 conv => arg 5; unfold hdY2
 repeat (first | refine Walk.cx ?_ | (refine Walk.cReg ?_; simp only [z12]) | (refine Walk.oq ?_; try walk_nrm) | (refine Walk.un ?_; walk_nrm))
 refine Walk.callW (Post := fun v w' => v = .int .i64 (-1) ∧ Y w') ?_ (ho_of (by conv => lhs; whnf) (by kernel_rfl)) (by rfl) (by decide) rfl Try.func36 (by kernel_rfl) (by rfl) ?_
 ·walk_nrm
  exact hp
 rintro v w1 ⟨rfl, hY⟩
 obtain ⟨lo, lco, sl, most, p, rd, oa, oc, ord, st, E⟩ := hy w1 hY
 clear c1 hp hy
 have hstt := rstate_w (main := main) hN w1 E.M
 obtain ⟨l1, l2⟩ := E.M.lt
 have k1 := E.M.c1
 have hrl := E.rlt
 walk_nrm
 repeat (first | refine Walk.cx ?_ | (refine Walk.cReg ?_; simp only [z12]) | (refine Walk.oq ?_; try walk_nrm) | (refine Walk.un ?_; walk_nrm))
 refine slots_walk (F := fun u => G ((base 12).at ⟨tmX r m B u, []⟩ (.code (.region 13 reg12_13 true) :: _)) (c :: cs)) (A := _) (fun u1 => ?_) rfl
 refine Walk.drawnJ (Inv := fun f ac' w' => ∃ u, ac' = ⟨tmX r m B u, []⟩ ∧ Facts dsX (vsX m B n lc la) f u ∧ LaR n hv oa oc ord (ozState s N) st r w1 f u w') (by kernel_rfl) (by kernel_rfl) (fun d => ⟨u1, rfl, Facts.none _ _ _, .early rfl rfl rfl ⟨d, rfl⟩⟩) ?_ ?_
 ·rintro f j op act w' ⟨u, rfl, F0, Q⟩ hC hfj ho hdeps rest hr
  have hj : j < 9 := by have := (Array.getElem?_eq_some_iff.1 ho).1; rw [size12_13] at this; exact this
  have c1 : w'.cell? ⟨m, 1, none⟩ = some (.slice la n lc) := (World.cell?_of_block (a := ⟨m, 1, none⟩) (Q.olds l1 hmr)).trans k1
  match j, hj with
  | 0, _ =>
   clear hdeps hC c1
   simp only [tmX] at hr ⊢
   (refine Walk.oq ?_; try walk_nrm)
   refine hr _ _ ⟨upd u 63 (.pointer (some ⟨B, 0, none⟩)), ?_, F0.set (by decide) rfl rfl, Q.quiet (by decide) (by decide)⟩
   simp [tmX, upd]
  | 1, _ =>
   clear hdeps hC c1
   simp only [tmX] at hr ⊢
   (refine Walk.oq ?_; try walk_nrm)
   refine hr _ _ ⟨upd u 64 (.pointer (some ⟨m, 0, none⟩)), ?_, F0.set (by decide) rfl rfl, Q.quiet (by decide) (by decide)⟩
   simp [tmX, upd]
  | 2, _ =>
   have hd := deps_of (l := [1]) (by kernel_rfl) ho hdeps
   have e64 := F0 1 64 _ (hd 1 (by simp)) rfl rfl
   clear hdeps hC c1
   simp only [tmX] at hr ⊢
   simp only [e64]
   (refine Walk.oq ?_; try walk_nrm)
   refine hr _ _ ⟨upd u 65 (.pointer (some ⟨m, 0, none⟩)), ?_, F0.set (by decide) rfl rfl, Q.quiet (by decide) (by decide)⟩
   simp [tmX, upd, e64]
  | 3, _ =>
   have hd := deps_of (l := [2]) (by kernel_rfl) ho hdeps
   have e65 := F0 2 65 _ (hd 2 (by simp)) rfl rfl
   clear hdeps hC c1
   simp only [tmX] at hr ⊢
   simp only [e65]
   (refine Walk.oq ?_; try walk_nrm)
   refine hr _ _ ⟨upd u 66 (.pointer (some ⟨m, 1, none⟩)), ?_, F0.set (by decide) rfl rfl, Q.quiet (by decide) (by decide)⟩
   simp [tmX, upd, e65]
  | 4, _ =>
   have hd := deps_of (l := [3]) (by kernel_rfl) ho hdeps
   have e66 := F0 3 66 _ (hd 3 (by simp)) rfl rfl
   clear hdeps hC
   simp only [tmX] at hr ⊢
   simp only [e66]
   (refine Walk.oq ?_; try walk_nrm)
   refine hr _ _ ⟨upd u 67 (.slice la n lc), ?_, F0.set (by decide) rfl rfl, Q.quiet (by decide) (by decide)⟩
   simp [tmX, upd, e66]
  | 5, _ =>
   clear hdeps hC c1
   simp only [tmX] at hr ⊢
   (refine Walk.oq ?_; try walk_nrm)
   refine hr _ _ ⟨upd u 68 (.pointer (some ⟨m, 0, none⟩)), ?_, F0.set (by decide) rfl rfl, Q.quiet (by decide) (by decide)⟩
   simp [tmX, upd]
  | 6, _ =>
   have hd := deps_of (l := [5]) (by kernel_rfl) ho hdeps
   have e68 := F0 5 68 _ (hd 5 (by simp)) rfl rfl
   have f8 : f 8 = false := by
    cases h : f 8 with
    | false => rfl
    | true => have := hC.deps (i := 8) (l := [6]) h (by kernel_rfl) 6 (by simp); rw [hfj] at this; cases this
   have f7 : f 7 = false := by
    cases h : f 7 with
    | false => rfl
    | true => have := hC.deps (i := 7) (l := [6]) h (by kernel_rfl) 6 (by simp); rw [hfj] at this; cases this
   cases Q with
   | stated h6 => rw [hfj] at h6; cases h6
   | told h7 => rw [f7] at h7; cases h7
   | done h8 => rw [f8] at h8; cases h8
   | early h6 h7 h8 e =>
    obtain ⟨dd, rfl⟩ := e
    refine Walk.back ?_ dd
    clear hdeps hC c1
    simp only [tmX] at hr ⊢
    simp only [e68]
    refine Walk.callW (Post := ValOut w1 (ozState s N)) ?_ (ho_of (by conv => lhs; whnf) (by kernel_rfl)) (by rfl) (by decide) rfl Try.func38 (by kernel_rfl) (by rfl) ?_
    ·walk_nrm
     exact hstt
    rintro v w3 ⟨sa, sc, rfl, H⟩
    walk_nrm
    refine hr _ _ ⟨upd u 69 (.slice sa (ozState s N).length sc), ?_, facts_out F0 rfl (by decide), .stated (upd_same _ _ _) ((upd_ne _ _ (by decide)).trans f7) ((upd_ne _ _ (by decide)).trans f8) sa sc (upd_same _ _ _) ⟨H.row, H.old, H.size⟩⟩
    simp [tmX, upd, e68]
  | 7, _ =>
   have hd := deps_of (l := [0, 4, 6]) (by kernel_rfl) ho hdeps
   have e63 := F0 0 63 _ (hd 0 (by simp)) rfl rfl
   have e67 := F0 4 67 _ (hd 4 (by simp)) rfl rfl
   have f6 := hd 6 (by simp)
   have f8 : f 8 = false := by
    cases h : f 8 with
    | false => rfl
    | true => have := hC.deps (i := 8) (l := [7]) h (by kernel_rfl) 7 (by simp); rw [hfj] at this; cases this
   cases Q with
   | early h6 => rw [f6] at h6; cases h6
   | told h7 => rw [hfj] at h7; cases h7
   | done h8 => rw [f8] at h8; cases h8
   | stated h6 h7 h8 sa sc e69 H =>
    have hsz := H.size
    have U4 : TuX (fun g => g < w1.heap.size) B lo lco sl most p rd oa oc ord st w' := E.U.same fun g hg _ => H.old g hg
    have hcell : ∀ {x j : Nat} {v : Value}, w1.cell? ⟨x, j, none⟩ = some v → w'.cell? ⟨x, j, none⟩ = some v := fun {x j v} h => (World.cell?_of_block (a := ⟨x, j, none⟩) (H.old x (cell_lt' h))).trans h
    have htr := trc_w (main := main) la n lc sa (ozState s N).length sc hv w' hn U4 fun i hi => by
     obtain ⟨tl, q, aa, al, ac, e, h1, h2, h3⟩ := E.th i hi
     exact ⟨tl, q, aa, al, ac, e, hcell h1, hcell h2, h3⟩
    clear hdeps hC c1
    simp only [tmX] at hr ⊢
    simp only [e63, e67, e69]
    refine Walk.callW (Post := TraceR n hv (.slice oa ord.length oc) (.slice sa (ozState s N).length sc) st w') ?_ (ho_of (by conv => lhs; whnf) (by kernel_rfl)) (by rfl) (by decide) rfl Try.func37 (by kernel_rfl) (by rfl) ?_
    ·walk_nrm
     exact htr
    rintro v w5 ⟨ha, hc, rfl, hrow5, hC5⟩
    walk_nrm
    refine hr _ _ ⟨upd u 70 (.agg (trC (.slice ha n hc) (.slice oa ord.length oc) (.slice sa (ozState s N).length sc) st)), ?_, facts_out F0 rfl (by decide), .told (upd_same _ _ _) ((upd_ne _ _ (by decide)).trans f8) sa sc ha hc (upd_same _ _ _) (row_raise hrow5 fun g hg => by have := (hrow5.lt g hg).1; omega) (row_same H.row fun g hg => hC5.same g (H.row.lt g hg).2 id) ⟨by have := hC5.size; show w1.heap.size ≤ w5.heap.size; omega, fun x hx _ => (hC5.same x (by omega) id).trans (H.old x hx)⟩⟩
    simp [tmX, upd, e63, e67, e69, trC]
  | 8, _ =>
   have f7 := deps_of (l := [7]) (by kernel_rfl) ho hdeps 7 (by simp)
   have f6 := deps_of (l := [6]) (by kernel_rfl) ho hdeps 6 (by simp)
   cases Q with
   | early h6 => rw [f6] at h6; cases h6
   | stated _ h7 => rw [f7] at h7; cases h7
   | done h8 => rw [hfj] at h8; cases h8
   | told h7 h8 sa sc ha hc e70 r1 r2 C =>
    have hr5 : w'.heap[r]? = some zTr := (C.same r hrl id).trans E.res
    have hT := setRow_self (cells := trC (.slice ha n hc) (.slice oa ord.length oc) (.slice sa (ozState s N).length sc) st) hr5
    have hfin : PlyOut n hv oa oc ord (ozState s N) st r w1 (.agg (trC (.slice ha n hc) (.slice oa ord.length oc) (.slice sa (ozState s N).length sc) st)) (w'.setRow r (trC (.slice ha n hc) (.slice oa ord.length oc) (.slice sa (ozState s N).length sc) st)) := by
     have hCs := C.size
     refine ⟨ha, hc, sa, sc, rfl, ?_, ?_, ⟨by rw [setRow_size]; omega, fun x hx hn => ?_⟩⟩
     ·exact row_same r1 fun g hg => setRow_other _ _ (by have := (r1.lt g hg).1; omega)
     ·exact row_same r2 fun g hg => setRow_other _ _ (by have := (r2.lt g hg).1; omega)
     ·rw [setRow_other _ _ hn]
      exact C.same x hx id
    simp only [trC] at hT hfin e70
    clear hdeps hC c1
    simp only [tmX] at hr ⊢
    simp only [e70]
    refine Walk.storeS 29 (.tmp 8) (.tmp 70) (ho_of (by conv => lhs; whnf) (by kernel_rfl)) (by rfl) (by decide) rfl r #[.slice ha n hc, .slice oa ord.length oc, .slice sa (ozState s N).length sc, .bool st] #[.slice none 0 0, .slice none 0 0, .slice none 0 0, .bool false] 29 rfl rfl hr5 (by kernel_rfl) rfl (by simp [Value.oneCell']) (ap0 _) ?_
    walk_nrm
    refine hr _ _ ⟨u, ?_, facts_moreO F0 rfl, .done (upd_same _ _ _) _ hT rfl hfin⟩
    simp [tmX, e70]
 ·rintro f act w6 ⟨u, rfl, F0, Q⟩ hall
  have h6 : f 6 = true := hall 6 (by rw [size12_13]; decide)
  have h7 : f 7 = true := hall 7 (by rw [size12_13]; decide)
  have h8 : f 8 = true := hall 8 (by rw [size12_13]; decide)
  cases Q with
  | early h => rw [h6] at h; cases h
  | stated _ h => rw [h7] at h; cases h
  | told _ h => rw [h8] at h; cases h
  | done _ cells hT hs4 hfin =>
   have hcs : (Try.prog.info? 29).map (·.size) = some cells.size := by rw [hs4]; kernel_rfl
   clear hall F0 h6 h7 h8 hstt
   simp only [tmX]
   try walk_nrm
   repeat (first | refine Walk.cx ?_ | (refine Walk.cReg ?_; simp only [z12]) | (refine Walk.oq ?_; try walk_nrm) | (refine Walk.un ?_; walk_nrm))
   refine Walk.onCell (T := r) rfl rfl rfl Try.func12 rfl (by rfl) hT (by kernel_rfl) hcs (.stop fun d => ⟨_, w1, lo, lco, sl, most, p, rd, oa, oc, ord, st, hY, E, ?_, rfl⟩)
   obtain ⟨ha', hc', sa', sc', e, h1, h2, h3⟩ := hfin
   exact ⟨ha', hc', sa', sc', e, h1, h2, h3.at d⟩
end
end
section
def ext (κ : Nat → Nat) (a c : Nat) : Nat → Nat := fun b => if a ≤ b then c else κ b
theorem ext_lt {κ : Nat → Nat} {a c b : Nat} (h : b < a) : ext κ a c b = κ b := if_neg (by omega)
theorem ext_ge {κ : Nat → Nat} {a c b : Nat} (h : a ≤ b) : ext κ a c b = c := if_pos h
theorem OmX.mono' {S S' : Nat → Prop} {m cb n cc : Nat} {tl : Value} {s : Oz} {w : World} (X : OmX S m cb n cc tl s w) (h : ∀ g, g < w.heap.size → S g → S' g) : OmX S' m cb n cc tl s w := by
 obtain ⟨l1, l2⟩ := X.lt
 exact ⟨X.blk, X.row, h _ l1 X.sm, h _ l2 X.sc, X.ne⟩
theorem TuX.mono' {S S' : Nat → Prop} {B : Nat} {la : Option Addr} {lc : Nat} {sl : List Int} {most : Int} {p rd : Nat} {oa : Option Addr} {oc : Nat} {ord : List Nat} {st : Bool} {w : World} (X : TuX S B la lc sl most p rd oa oc ord st w) (h : ∀ g, g < w.heap.size → S g → S' g) : TuX S' B la lc sl most p rd oa oc ord st w :=
 ⟨X.blk, X.lst, X.row, h _ X.lt X.sb, fun g hg => ⟨h _ (X.lst.lt g hg).2 (X.sq g hg).1, (X.sq g hg).2⟩, fun g hg => ⟨h _ (X.row.lt g hg).2 (X.so g hg).1, (X.so g hg).2⟩⟩
theorem TIs.mono' {S S' : Nat → Prop} {n b : Nat} {ops : List OpV} {oa : Option Addr} {oc : Nat} {left : List OpV} {d : Option OD} {ans : List Ans} {e : Bool} {w : World} (X : TIs S n b ops oa oc left d ans e w) (h : ∀ g, g < w.heap.size → S g → S' g) : TIs S' n b ops oa oc left d ans e w := by
 obtain ⟨k, PC, N, aa, ac, X, h1, h2⟩ := X
 exact ⟨k, PC, N, aa, ac, X.mono' h, h1, h2⟩
structure RQ (N : Nat) (kb0 : Nat) (ops : Nat → List OpV) (n : Nat) (W : World) (a2 cb cc : Nat) (ts : Nat → Nat) (oas : Nat → Option Addr) (ocs : Nat → Nat) (la : Option Addr) (lc : Nat) (κ : Nat → Nat) (k : Nat) (x : OX (onLa kb0 N)) (w : World) : Prop where
 size : W.heap.size + 1 ≤ w.heap.size
 old : ∀ b, b < W.heap.size → κ b = 0 ∧ w.heap[b]? = W.heap[b]?
 res : κ W.heap.size = 3 ∧ w.heap[W.heap.size]? = some zTr
 M : OmX (fun g => κ g = 1) a2 cb N cc (.slice la n lc) x.s w
 L : ∀ i, i < n → ∃ tl, la = some ⟨tl, 0, none⟩ ∧ κ tl = 4 ∧ w.cell? ⟨tl, i, none⟩ = some (.pointer (some ⟨ts i, 0, none⟩))
 T : ∀ i, i < n → i < k → TisR (onLa kb0 N) id (fun g => κ g = 5 + i) N (ts i) (ops i) (oas i) (ocs i) (x.th i) w
 Z : ∀ i, i < n → k ≤ i → ThX (fun g => κ g = 5 + i) (ts i) (ops i) (oas i) (ocs i) 0 0 (fun _ => 0) [] none 0 false w
 out : ∀ i, i < k → (x.out i).isSome = (x.th i).d.isNone
section
variable {N : Nat} {kb0 : Nat} {ops : Nat → List OpV} {n : Nat} {W : World} {a2 cb cc : Nat} {ts : Nat → Nat} {oas : Nat → Option Addr} {ocs : Nat → Nat} {la : Option Addr} {lc : Nat} {κ : Nat → Nat} {k : Nat} {x : OX (onLa kb0 N)} {w w' : World}
theorem RQ.next {k' i c : Nat} {x' : OX (onLa kb0 N)} (H : RQ N kb0 ops n W a2 cb cc ts oas ocs la lc κ k x w) (hc : c = 2 ∨ c = 5 + i) (hC : Chg (fun g => κ g = 1 ∨ κ g = c) w w')
  (hM : OmX (fun g => κ g = 1) a2 cb N cc (.slice la n lc) x'.s w') (hk : ∀ j, j < k' → j ≠ i → j < k) (hk2 : ∀ j, j < n → k' ≤ j → k ≤ j ∧ j ≠ i) (hth : ∀ j, j ≠ i → x'.th j = x.th j ∧ x'.out j = x.out j)
  (hT : i < n → i < k' → c = 5 + i ∧ TisR (onLa kb0 N) id (fun g => κ g = 5 + i ∨ w.heap.size ≤ g) N (ts i) (ops i) (oas i) (ocs i) (x'.th i) w') (ho : i < k' → (x'.out i).isSome = (x'.th i).d.isNone) (hi : i < n ∨ c = 2) :
  RQ N kb0 ops n W a2 cb cc ts oas ocs la lc (ext κ w.heap.size c) k' x' w' := by
 have hs := hC.size
 have hsz := H.size
 have same : ∀ g, g < w.heap.size → κ g ≠ 1 → κ g ≠ c → w'.heap[g]? = w.heap[g]? := fun g hg h1 h2 => hC.same g hg fun e => e.elim h1 h2
 have five : ∀ j, j ≠ i → 5 + j ≠ c := fun j hj => by omega
 obtain ⟨l1, l2⟩ := H.M.lt
 refine ⟨by omega, fun b hb => ?_, ⟨?_, ?_⟩, ?_, fun j hj => ?_, fun j hj hjk => ?_, fun j hj hjk => ?_, fun j hjk => ?_⟩
 ·obtain ⟨h1, h2⟩ := H.old b hb
  exact ⟨(ext_lt (by omega)).trans h1, (same b (by omega) (by omega) (by omega)).trans h2⟩
 ·exact (ext_lt (by omega)).trans H.res.1
 ·have := H.res.1
  exact (same _ (by omega) (by omega) (by omega)).trans H.res.2
 ·exact ⟨hM.blk, hM.row, (ext_lt l1).trans H.M.sm, (ext_lt l2).trans H.M.sc, hM.ne⟩
 ·obtain ⟨tl, e, h1, h2⟩ := H.L j hj
  have := cell_lt' h2
  exact ⟨tl, e, (ext_lt this).trans h1, (World.cell?_of_block (a := ⟨tl, j, none⟩) (same tl this (by omega) (by omega))).trans h2⟩
 ·by_cases e : j = i
  ·subst e
   obtain ⟨hc2, h⟩ := hT hj hjk
   subst hc2
   refine TIs.mono h fun g hg => ?_
   by_cases hg2 : w.heap.size ≤ g
   ·exact ext_ge hg2
   ·rw [ext_lt (by omega)]
    exact hg.resolve_right hg2
  ·have hT' := H.T j hj (hk j hjk e)
   rw [(hth j e).1]
   refine TIs.same (TIs.mono' hT' (S' := fun g => ext κ w.heap.size c g = 5 + j) fun g hg h => (ext_lt hg).trans h) fun g hg h => ?_
   rw [ext_lt hg] at h
   exact same g hg (by omega) (by rw [h]; exact five j e)
 ·obtain ⟨h1, h2⟩ := hk2 j hj hjk
  refine ((H.Z j hj h1).mono' (S' := fun g => ext κ w.heap.size c g = 5 + j) fun g hg h => (ext_lt hg).trans h).same fun g hg h => ?_
  rw [ext_lt hg] at h
  exact same g hg (by omega) (by rw [h]; exact five j h2)
 ·by_cases e : j = i
  ·subst e
   exact ho hjk
  ·rw [(hth j e).1, (hth j e).2]
   exact H.out j (hk j hjk e)
theorem TuX.ext {B : Nat} {lo : Option Addr} {lco : Nat} {sl : List Int} {most : Int} {p rd : Nat} {oa : Option Addr} {oc : Nat} {ord : List Nat} {st : Bool} {c : Nat} (X : TuX (fun g => κ g = 2) B lo lco sl most p rd oa oc ord st w) (hC : Chg (fun g => κ g = 1 ∨ κ g = c) w w') (hc : c ≠ 2) : TuX (fun g => ext κ w.heap.size c g = 2) B lo lco sl most p rd oa oc ord st w' := by
 refine (X.mono' (S' := fun g => Go.Proofs.Ytdcjgmlgmjjogaa.ext κ w.heap.size c g = 2) fun g hg h => (ext_lt hg).trans h).same fun g hg h => ?_
 have h : Go.Proofs.Ytdcjgmlgmjjogaa.ext κ w.heap.size c g = 2 := h
 rw [ext_lt hg] at h
 exact hC.same g hg fun e => by omega
theorem RQ.init (sz : Int) {pr : Nat → Option Nat} (hN : N = cellsN sz) (H : PlyIn sz ops n W a2 cb cc pr ts oas ocs la lc w) : ∃ κ, RQ N kb0 ops n W a2 cb cc ts oas ocs la lc κ 0 (x0O (onLa kb0 N) oz0) w := by
 subst hN
 obtain ⟨h1, h2⟩ := H.lo
 refine ⟨fun b => if b < W.heap.size then 0 else if b = W.heap.size then 3 else if a2 ≤ b then 1 else match pr b with | some i => 5 + i | none => 4, by omega, fun b hb => ⟨if_pos hb, H.old b hb⟩, ⟨?_, H.res⟩, H.M.mono fun g hg => ?_, fun i hi => ?_, fun i _ h => absurd h (Nat.not_lt_zero _), fun i hi _ => (H.th i hi).mono fun g hg => ?_, fun i h => absurd h (Nat.not_lt_zero _)⟩
 ·show (if W.heap.size < W.heap.size then 0 else _) = 3
  rw [if_neg (Nat.lt_irrefl _), if_pos rfl]
 ·show (if g < W.heap.size then 0 else _) = 1
  rw [if_neg (by omega), if_neg (by omega), if_pos hg]
 ·obtain ⟨g, e, hg, _, hc⟩ := row_at H.row (ptrRow_get (ts := ts) hi)
  obtain ⟨q1, q2⟩ := H.rowp g (by rw [e]; rfl)
  refine ⟨g, e, ?_, hc⟩
  show (if g < W.heap.size then 0 else _) = 4
  rw [if_neg (by omega), if_neg (by omega), if_neg (by omega), q1]
 ·have := H.prl g i hg
  show (if g < W.heap.size then 0 else _) = 5 + i
  rw [if_neg (by omega), if_neg (by omega), if_neg (by omega), hg]
end
end
end Go.Proofs.Ytdcjgmlgmjjogaa
