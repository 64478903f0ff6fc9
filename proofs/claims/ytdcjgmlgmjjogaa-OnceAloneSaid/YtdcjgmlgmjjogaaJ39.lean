/-
For all lists of operations: OnceAlone returns true on every schedule of the goroutines, without a data race, and what was there stands. Conditions: none beyond the statement's own.
-/
import Derived.Test.YtdcjgmlgmjjogaaJ15
import Derived.Test.YtdcjgmlgmjjogaaJ38
import Derived.Test.YtdcjgmlgmjjogaaRows
import Derived.Conc.LeavingOf
import Derived.Lib.SmallJoins
import Derived.Handy
import Derived.SizedLaws
import Derived.Carry
import Derived.Deep.Slices
import Derived.Deep.Fields
set_option linter.unusedSimpArgs false
set_option linter.unusedVariables false
set_option maxHeartbeats 8000000
set_option maxRecDepth 100000
namespace Go.Proofs.Ytdcjgmlgmjjogaa
open Go.Conc Go.RowKit Go.Relay
open Go.ConcN (upd upd_ne upd_same)
theorem whole_move {cb cb' c2 : Nat} {s2 : Oz} {az2 : List Ans} : ∀ (l : List OpV) (c : Nat) (s : Oz) (az : List Ans), (∀ o ∈ l, o.a = 0) → OkZ s → Whole (onLa cb 1) 7 c s l az c2 s2 az2 → Whole (onLa cb' 1) 7 c s l az c2 s2 az2 := by
 intro l
 induction l with
 | nil =>
  intro c s az _ _ H
  obtain ⟨rfl, e, rfl⟩ := Whole.stop (L := onLa cb 1) H
  have e : s2 = s := e
  subst e
  exact @Whole.nil (onLa cb' 1) 7 _ _ _
 | cons o l ih =>
  intro c s az hz hs H
  have ho := hz o (List.mem_cons_self ..)
  exact @Whole.cons (onLa cb' 1) 7 _ _ _ _ _ _ _ _ _ _ _ (oneZ_is cb' c s o hs ho) (ih _ _ _ (fun o h => hz o (List.mem_cons_of_mem _ h)) (oneZ_ok hs) (whole_cons H hs ho))
theorem ozState_one (s : Oz) : ozState s 1 = stZ s := by simp [ozState, stZ]
theorem oal_end (R p : Nat) (S : Oz) (u : Nat → Value) (h2 : u 2 = .bool true) (W w : World) (ho : ∀ b, b < W.heap.size → w.heap[b]? = W.heap[b]?) :
  Walk Try.prog true (DR (fun _ => none)) (fun g w' => Closing 4 2 (.bool true) g ∧ ∀ b, b < W.heap.size → w'.heap[b]? = W.heap[b]?) (G ((base 4).at ⟨tmW R p S u, []⟩ (.inRegion reg4_23 [] :: [.code .ret])) []) w := by
 simp only [tmW, h2]
 repeat (first | refine Walk.cx ?_ | (refine Walk.cReg ?_; simp only [z4]) | (refine Walk.oq ?_; try walk_nrm) | (refine Walk.un ?_; walk_nrm))
 exact .stop fun d => ⟨⟨_, rfl, rfl, rfl, rfl, rfl, rfl⟩, ho⟩
theorem oal_all (ta : Option Addr) (n0 tc tb toff : Nat) (ops : List OpV) (W : World) (hlen : ops.length = n0) (hn0 : n0 ≤ 4398046511104) (hta : 0 < n0 → ta = some ⟨tb, toff, none⟩)
  (hop : ∀ (j : Nat) (o : OpV), ops[j]? = some o → W.cell? ⟨tb, toff + j * 4, none⟩ = some (.int .i64 o.k) ∧ W.cell? ⟨tb, toff + j * 4 + 1, none⟩ = some (.int .i64 o.a) ∧ W.cell? ⟨tb, toff + j * 4 + 2, none⟩ = some (.int .i64 o.b) ∧ W.cell? ⟨tb, toff + j * 4 + 3, none⟩ = some (.int .i64 o.c)) :
  Runs (fun g w' => Closing 4 2 (.bool true) g ∧ ∀ b, b < W.heap.size → w'.heap[b]? = W.heap[b]?) (G (Frame.enter Try.prog 4 #[.slice ta n0 tc] .normal) []) W := by
 refine Runs.walk (oal_in ta n0 tc W) ?_
 rintro _ _ ⟨fr1, rfl, ⟨d1, rfl⟩, hB1⟩
 refine Runs.then (sets_run fr1 [] (W.at d1)) ?_
 rintro _ w1 ⟨rfl, O1, Z1⟩
 have Z1 : W.heap.size ≤ w1.heap.size := Z1
 have O1 : ∀ b, b < W.heap.size → w1.heap[b]? = W.heap[b]? := O1
 refine Runs.walk (hB1 w1) ?_
 rintro _ _ ⟨⟨u1, rfl⟩, d2, rfl⟩
 refine Runs.walk (own_loop ta tb toff n0 tc ops hlen hn0 hta [] (w1.at d2) (fun j o ho => ?_) n0 0 none 0 u1 (w1.at d2) (by omega) ⟨⟨rfl, .inl ⟨rfl, rfl⟩⟩, fun _ _ => rfl, Nat.le_refl _⟩) ?_
 ·obtain ⟨c0, c1, c2, c3⟩ := hop j o ho
  exact ⟨(World.cell?_of_block (w' := w1.at d2) (a := ⟨tb, _, none⟩) (O1 tb (cell_lt' c0))).trans c0, (World.cell?_of_block (w' := w1.at d2) (a := ⟨tb, _, none⟩) (O1 tb (cell_lt' c0))).trans c1, (World.cell?_of_block (w' := w1.at d2) (a := ⟨tb, _, none⟩) (O1 tb (cell_lt' c0))).trans c2, (World.cell?_of_block (w' := w1.at d2) (a := ⟨tb, _, none⟩) (O1 tb (cell_lt' c0))).trans c3⟩
 rintro _ w2 ⟨xa, xc, ⟨u2, rfl⟩, HO⟩
 have O2 : ∀ b, b < W.heap.size → w2.heap[b]? = W.heap[b]? := fun b hb => (HO.old b (by show b < w1.heap.size; omega)).trans (O1 b hb)
 have Z2 : W.heap.size ≤ w2.heap.size := Nat.le_trans Z1 HO.size
 have hrow := HO.row
 have hol : (ops.map ownO).length = n0 := by simp [hlen]
 have hoz : ∀ o ∈ ops.map ownO, o.a = 0 := fun o ho => by
  obtain ⟨o', _, rfl⟩ := List.mem_map.1 ho
  rfl
 clear hop hta HO hB1
 generalize ops.map ownO = own at *
 rw [hol] at hrow
 have hxad : (xa = none ∧ xc = 0) ∨ ∃ p, xa = some p := by
  rcases hrow.2 with ⟨h, _⟩ | ⟨g, cap, cur, h, _⟩
  ·injection h with h1 _ h3
   exact .inl ⟨h1, h3⟩
  ·injection h with h1 _ h3
   exact .inr ⟨_, h1⟩
 have hxcap : n0 ≤ xc := by
  rcases hrow.2 with ⟨h, h0⟩ | ⟨g, cap, cur, h, _, _, hle, _⟩
  ·omega
  ·injection h with h1 _ h3
   omega
 obtain ⟨xb, hxb⟩ : ∃ xb, ∀ (j : Nat) (o : OpV), own[j]? = some o → xa = some ⟨xb, 0, none⟩ ∧ w2.cell? ⟨xb, 0 + j * 4, none⟩ = some (.int .i64 o.k) ∧ w2.cell? ⟨xb, 0 + j * 4 + 1, none⟩ = some (.int .i64 o.a) ∧ w2.cell? ⟨xb, 0 + j * 4 + 2, none⟩ = some (.int .i64 o.b) ∧ w2.cell? ⟨xb, 0 + j * 4 + 3, none⟩ = some (.int .i64 o.c) := by
  have key : ∀ (j q : Nat) (o : OpV) (v : Value), own[j]? = some o → ([.int .i64 o.k, .int .i64 o.a, .int .i64 o.b, .int .i64 o.c] : List Value)[q]? = some v → ∃ g, xa = some ⟨g, 0, none⟩ ∧ w2.cell? ⟨g, j * 4 + q, none⟩ = some v := fun j q o v ho hv => by
   obtain ⟨g, e, _, _, hc⟩ := row_at hrow (opRow_get own j q o v ho hv)
   exact ⟨g, e, hc⟩
  cases hx : xa with
  | none => exact ⟨0, fun j o ho => by obtain ⟨g, e, _⟩ := key j 0 o _ ho rfl; rw [hx] at e; cases e⟩
  | some a =>
   refine ⟨a.block, fun j o ho => ?_⟩
   obtain ⟨g, e, c0⟩ := key j 0 o _ ho rfl
   obtain ⟨g1, e1, c1⟩ := key j 1 o _ ho rfl
   obtain ⟨g2, e2, c2⟩ := key j 2 o _ ho rfl
   obtain ⟨g3, e3, c3⟩ := key j 3 o _ ho rfl
   rw [e] at e1 e2 e3
   cases e1
   cases e2
   cases e3
   rw [hx] at e
   cases e
   refine ⟨rfl, ?_, ?_, ?_, ?_⟩
   ·rw [Nat.zero_add]; exact c0
   ·rw [Nat.zero_add]; exact c1
   ·rw [Nat.zero_add]; exact c2
   ·rw [Nat.zero_add]; exact c3
 have htz : ∀ o ∈ own.take 65536, o.a = 0 := fun o ho => hoz o (List.mem_of_mem_take ho)
 have htl : (own.take 65536).length = min n0 65536 := by rw [List.length_take, hol]; exact Nat.min_comm _ _
 have htg : ∀ (j : Nat) (o : OpV), (own.take 65536)[j]? = some o → own[j]? = some o := fun j o h => by
  rw [List.getElem?_take] at h
  split at h
  ·exact h
  ·cases h
 have hxa : 0 < n0 → xa = some ⟨xb, 0, none⟩ := fun h => (hxb 0 (own[0]'(by omega)) (List.getElem?_eq_getElem _)).1
 generalize htk : own.take 65536 = tk at *
 generalize hF : playO (onLa 0 1) oz0 (fun _ => tk) 1 1048576 [] = F
 have hbase := oal_go ta n0 tc xa xc u2 w2 (fun cells w' => TrA cells 1 (fun i => (F.1.th i).ans) F.2 (ozState F.1.s 1) (stuckO 1 F.1) w')
  (fun cells w' k aa ac => k = stuckO 1 F.1 ∧ TrA cells 1 (fun i => (F.1.th i).ans) F.2 (ozState F.1.s 1) (stuckO 1 F.1) w' ∧ AnsA aa (F.1.th 0).ans w') (F.1.th 0).ans.length ?_ ?_
 ·refine Runs.walk hbase ?_
  rintro g w' (⟨hC, hO⟩ | ⟨cells, w3, R, aa, ac, ⟨hk, hT, hA⟩, o2, o1, z1, z2, hR, I, J, hc, hsz, u, rfl⟩)
  ·exact .now ⟨hC, fun b hb => (hO b (by omega)).trans (O2 b hb)⟩
  ·obtain ⟨c2, S2, az2, H, e1, e2, e3, e4⟩ := alone_trace 0 (fun _ => tk) 1048576 htz (by rw [hF]; exact hk.symm)
   rw [hF] at e1 e2 e3
   have H := whole_move (cb' := R + 1) tk 0 oz0 [] htz okZ_zero H
   have hz0 : ∀ b, b < w2.heap.size → w'.heap[b]? = w2.heap[b]? := fun b hb => (o2 b (by omega)).trans (o1 b hb)
   have hm : (F.1.th 0).ans.length = tk.length := by rw [e2, e4]
   have haz : (F.1.th 0).ans = az2 := e2
   obtain ⟨ab, ao, hab⟩ : ∃ ab ao, ∀ (j : Nat) (x : Ans), az2[j]? = some x → aa = some ⟨ab, ao, none⟩ ∧ w3.cell? ⟨ab, ao + j * 3, none⟩ = some (.bool x.1) ∧ w3.cell? ⟨ab, ao + j * 3 + 1, none⟩ = some (.int .i64 x.2) ∧ w3.cell? ⟨ab, ao + j * 3 + 2, none⟩ = some (.slice none 0 0) := by
    rw [haz] at hA
    cases hl : az2 with
    | nil => exact ⟨0, 0, fun j x h => by simp at h⟩
    | cons y l =>
     obtain ⟨b, o, e, _⟩ := hA 0 y (by rw [hl]; rfl)
     refine ⟨b, o, fun j x h => ?_⟩
     obtain ⟨b', o', e', k1, k2, k3⟩ := hA j x (by rw [hl]; exact h)
     rw [e] at e'
     cases e'
     exact ⟨e, k1, k2, k3⟩
   have hpos : 0 < (F.1.th 0).ans.length → ∃ x, az2[0]? = some x := fun h => ⟨az2[0]'(by rw [← haz]; exact h), List.getElem?_eq_getElem _⟩
   have hposo : 0 < (F.1.th 0).ans.length → ∃ o, tk[0]? = some o := fun h => ⟨tk[0]'(by rw [← hm]; exact h), List.getElem?_eq_getElem _⟩
   have hk6 : ∀ x, x < R → x ≠ R + 1 ∧ x ≠ R + 2 ∧ x ≠ R + 3 := fun x hx => ⟨by omega, by omega, by omega⟩
   refine Runs.walk (alone_loop (main := true) xa xb 0 n0 xc R (R + 1) (R + 2) (R + 3) aa ab ao (F.1.th 0).ans.length ac tk az2 c2 S2 htz (by omega) hm (by rw [hm, htl]; omega) (by rw [hm, htl]; omega) (fun h => hxa (by rw [hm, htl] at h; omega)) (fun h => by obtain ⟨x, hx⟩ := hpos h; exact (hab 0 x hx).1) ⟨by omega, by omega, by omega⟩ w' (fun h => by obtain ⟨o, ho⟩ := hposo h; exact hk6 xb (by have := cell_lt' (hxb 0 o (htg 0 o ho)).2.1; omega)) (fun h => by obtain ⟨x, hx⟩ := hpos h; exact hk6 ab (by have := cell_lt' (hab 0 x hx).2.1; omega)) (fun j o ho => ?_) (fun j x hx => ?_) [] (F.1.th 0).ans.length 0 oz0 0 [] u w' (by omega) H rfl (by omega) okZ_zero ⟨I, hc, J, fun _ _ _ _ _ => rfl, Nat.le_refl _⟩) ?_
   ·obtain ⟨_, c0, c1, c2, c3⟩ := hxb j o (htg j o ho)
    exact ⟨(World.cell?_of_block (a := ⟨xb, _, none⟩) (hz0 xb (cell_lt' c0))).trans c0, (World.cell?_of_block (a := ⟨xb, _, none⟩) (hz0 xb (cell_lt' c0))).trans c1, (World.cell?_of_block (a := ⟨xb, _, none⟩) (hz0 xb (cell_lt' c0))).trans c2, (World.cell?_of_block (a := ⟨xb, _, none⟩) (hz0 xb (cell_lt' c0))).trans c3⟩
   ·obtain ⟨_, c0, c1, c2⟩ := hab j x hx
    exact ⟨(World.cell?_of_block (a := ⟨ab, _, none⟩) (o2 ab (cell_lt' c0))).trans c0, (World.cell?_of_block (a := ⟨ab, _, none⟩) (o2 ab (cell_lt' c0))).trans c1, (World.cell?_of_block (a := ⟨ab, _, none⟩) (o2 ab (cell_lt' c0))).trans c2⟩
   rintro _ w4 ⟨⟨u3, rfl⟩, hO⟩
   refine Runs.walk (oal_out xa n0 xc R (R + 1) (R + 2) (R + 3) aa _ ac S2 u3 w4 hO.ik hO.il) ?_
   rintro _ _ ⟨⟨u4, rfl⟩, d4, rfl⟩
   have hsz4 := hO.size
   have o43 : ∀ b, b < R + 1 → (w4.at d4).heap[b]? = w'.heap[b]? := fun b hb => hO.old b (by omega) (by omega) (by omega) (by omega)
   have hT4 : TrA cells 1 (fun i => (F.1.th i).ans) F.2 (ozState F.1.s 1) (stuckO 1 F.1) (w4.at d4) := hT.chg ⟨by show w3.heap.size ≤ w4.heap.size; omega, fun b hb _ => (o43 b (by omega)).trans (o2 b hb)⟩
   obtain ⟨ba, bc, oa, oc, sb, sd, rfl, h1, h2, h3⟩ := hT4.all
   have hRR := (o43 R (by omega)).trans hR
   have e1' : F.1.s = S2 := e1
   rw [e1'] at h2 hRR
   have hst : ozState S2 1 = stZ S2 := ozState_one S2
   rw [hst] at h2 hRR
   rw [e3] at hRR
   have hcn4 : (w4.at d4).heap[R + 3]? = some (.cells #[.int .i64 (c2 : Nat)] 48) := hO.cn
   refine Runs.walk (alone_last (Stop := fun g w' => Closing 4 2 (.bool true) g ∧ ∀ b, b < (w4.at d4).heap.size → w'.heap[b]? = (w4.at d4).heap[b]?) R (R + 3) S2 c2 (w4.at d4) hcn4 (.slice ba 1 bc) (stuckO 1 F.1) oa sb oc sd hRR h2 [.code .ret] [] u4 (fun u w h2 ho => oal_end R (R + 3) S2 u h2 (w4.at d4) w ho)) ?_
   rintro g w5 ⟨hC, ho⟩
   exact .now ⟨hC, fun b hb => (ho b (by show b < w4.heap.size; omega)).trans ((o43 b (by omega)).trans ((hz0 b (by omega)).trans (O2 b hb)))⟩
 ·intro wp ho hd hs
  have I : OpsIn w2.heap.size 0 1 (fun _ => xa) (fun _ => n0) (fun _ => xc) (fun _ => tk) wp := by
   refine ⟨fun i hi => ?_, fun _ _ => hxcap, fun _ _ => hxad, fun _ _ => htl, fun i hi j o hj => ?_⟩
   ·obtain rfl : i = 0 := by omega
    exact (cell_of hd 0).trans rfl
   ·obtain ⟨e, c0, c1, c2, c3⟩ := hxb j o (htg j o hj)
    exact ⟨xb, 0, e, (World.cell?_of_block (a := ⟨xb, _, none⟩) (ho xb (cell_lt' c0))).trans c0, (World.cell?_of_block (a := ⟨xb, _, none⟩) (ho xb (cell_lt' c0))).trans c1, (World.cell?_of_block (a := ⟨xb, _, none⟩) (ho xb (cell_lt' c0))).trans c2, (World.cell?_of_block (a := ⟨xb, _, none⟩) (ho xb (cell_lt' c0))).trans c3⟩
  have hr := rplay_w (main := true) 1 0 w2.heap.size 0 1 1 1 (some ⟨w2.heap.size, 0, none⟩) (fun _ => xa) (fun _ => n0) (fun _ => xc) (fun _ => tk) none 0 [] 1048576 wp I rfl (fun _ => rfl) (fun w h => I.old h) (by simp) (fun _ => ⟨rfl, rfl⟩) (fun j z h => by simp at h)
  rw [cellsN1, hF] at hr
  intro c' cs'
  refine (hr c' cs').mono ?_
  rintro g w' ⟨v, ⟨cells, rfl, h1, h2, _, _⟩, hg⟩
  exact ⟨_, ⟨cells, rfl, h1, h2⟩, hg⟩
 ·rintro cells w' hT
  obtain ⟨aa0, ac0, oa, oc, sa, sc, e, h1, h2, h3⟩ := hT.all
  obtain ⟨b, o, ta', tc', e2, k1, k2⟩ := h3 0 (by decide)
  exact ⟨ac0, oa, _, oc, sa, _, sc, _, b, o, ta', tc', by rw [e, e2], k1, rfl, hT, k2⟩
section
open Go.ChangeShapes Go.WideShapes Go.ChangeAt Go.Joins Go.Deep
theorem prog_own : ownKnob Try.prog.godebug = none := by kernel_rfl
def Left (W : World) (v : Value) (w' : World) : Prop := v = .bool true ∧ w'.os = W.os ∧ w'.output = W.output ∧ ∀ b, b < W.heap.size → w'.heap[b]? = W.heap[b]?
theorem Left.kept {W w' : World} {v : Value} (h : Left W v w') (may : MemPlace → Prop) : W.keptBut w' may := by
 refine ⟨h.2.1, h.2.2.1, fun i hi => ?_⟩
 rw [h.2.2.2 i hi]
 split <;> simp_all
theorem und4_is : Try.prog.underlying 4 = some .bool := by kernel_rfl
theorem stepG_done {P : Program} {fr : Frame} {w : World} {fn : Func} {v : Value} (hm : fr.mode = .returning) (hn : fr.kind = .normal) (hd : fr.defers = []) (hf : P.funcs[fr.fn]? = some fn) (hr : (results fn fr.tmps).run P w = .ok v w) (he : (results fn fr.tmps).events P w #[] = #[]) (hi : P.inits.idxOf? fr.fn = none) :
  stepG P true (G fr []) w = .ended (.done v) w #[] := by
 simp [G, stepG, unwind, doReturn, hm, hd, hn, hf, hr, he, hi, GStep.after, seen_none]
theorem run_claim {f : FuncId} {fn : Func} {args : Array Value} {W : World} {Post : Value → World → Prop} {v : Value} {t : Tmp} (hf : Try.prog.funcs[f]? = some fn) (hres : fn.results = #[.tmp t]) (hi : Try.prog.inits.idxOf? f = none)
  (h : Runs (fun g w' => Closing f t v g ∧ (OsSame W w' → ∀ d, Post v (w'.at d))) (G (Frame.enter Try.prog f args .normal) []) W) :
  ∃ M last o w' t', runNT Try.prog (M + 1) (solo (G (Frame.enter Try.prog f args .normal) []) W) #[] = (.ended o w', t') ∧ Go.runN Try.prog M (solo (G (Frame.enter Try.prog f args .normal) []) W) = .next last ∧ step Try.prog last = .ended o w' ∧ Go.Conc.Good Try.prog Post last o w' t' := by
 rw [solo_eq_crowd]
 have A0 := at_begin (P := Try.prog) (gs := #[G (Frame.enter Try.prog f args .normal) []]) (a := G (Frame.enter Try.prog f args .normal) []) (sl := none) (w := W) rfl (leavers_one Try.prog _) past_nil
 obtain ⟨N1, m1, T1, r1, ⟨nG, g1, w1, _, ⟨⟨fr, rfl, hm, hn, hd, hfn, hv⟩, hP⟩, A1⟩, ho⟩ := h 1 _ _ (Nat.le_refl _) A0
 obtain ⟨gs, sl, q, B, rfl, _, hg0, hL, hPast⟩ := A1.ends (fun _ => rfl)
 have hP := hP ho
 have hs : ∀ d, stepG Try.prog true (G fr []) (w1.at d) = .ended (.done v) (w1.at d) #[] := fun d =>
  stepG_done hm hn hd (by rw [hfn]; exact hf) (by rw [results_tmp hres, hv]) (events_results_tmp hres _ _) (by rw [hfn]; exact hi)
 have hG : Goes Try.prog true AtRel (fun _ _ es => ∀ e ∈ es, EvL (fun _ => False) B e) (AtEnd Try.prog (fun _ => False) B Post) 0 (G fr []) w1 := by
  rintro _ ⟨d, rfl⟩
  exact ⟨rfl, v, #[], hs d, by simp, hP d⟩
 obtain ⟨M8, last, o, w', t', e1, e2, e3, e4⟩ := beside_ends (P := Try.prog) (Post := Post) (sl := sl) (fun _ _ _ h => h) hg0 hL hPast hG
 refine ⟨N1 + M8, last, o, w', t', ?_, ?_, e3, e4⟩
 ·rw [Nat.add_assoc, runNT_add, r1]; exact e1
 ·rw [Go.runN_add, ← runNT_fst Try.prog _ _ #[], r1]; exact e2
end
section
open Go.Conc Go.RowKit Go.Relay Go.ChangeShapes Go.WideShapes Go.ChangeAt Go.Joins Go.Deep
theorem und3_is : Try.prog.underlying 3 = some (.int .i64) := by kernel_rfl
theorem und2_is : Try.prog.underlying 2 = some (.int .i64) := by kernel_rfl
theorem laid_out : laidOutB Try.prog = true := by kernel_rfl
section
variable {H : Type} {enc : TypeId × Value → H} {W w' : World}
theorem Left.stays {r : Value} {t : TypeId} {v : Value} {d : DataW H} {ps : List MemPlace} (K : Left W r w') (hr : Try.prog.readableRec t = true) (hrow : t < Try.prog.types.size) (h : DataW.Trod enc Try.prog W 0 (fun _ => true) true t v d ps) (hlt : ∀ x ∈ ps, x.block < W.heap.size) :
  DataW.Trod enc Try.prog w' 0 (fun b => decide (b < W.heap.size)) true t v d ps :=
 WideElems.Trod_stays laid_out hr hrow h (fun x hx => by
  have hb := K.2.2.2 x.block (hlt x hx)
  cases x with
  | cell b o => exact World.cell?_of_block (w := W) (a := ⟨b, o, none⟩) hb
  | map b => exact hb) (fun x hx => by simpa using hlt x hx)
theorem addr_form {w : World} {a : Addr} {v : Value} (h : w.cell? a = some v) : a = ⟨a.block, a.off, none⟩ := by
 obtain ⟨b, o, s⟩ := a
 cases s with
 | none => rfl
 | some s =>
  unfold World.cell? at h
  split at h
  ·simp at h
  ·cases h
end
noncomputable def fldsOp : Array Field := match Try.prog.underlying 34 with | some (.struct fs) => fs | _ => #[]
theorem undOp_is : Try.prog.underlying 34 = some (.struct fldsOp) := by kernel_rfl
theorem fldsOp_four : ∃ f0 f1 f2 f3, fldsOp = #[f0, f1, f2, f3] ∧ f0.type = 3 ∧ f1.type = 2 ∧ f2.type = 2 ∧ f3.type = 2 := by
 have hs : fldsOp.size = 4 := by kernel_rfl
 have h0 : (fldsOp[0]?).map (·.type) = some 3 := by kernel_rfl
 have h1 : (fldsOp[1]?).map (·.type) = some 2 := by kernel_rfl
 have h2 : (fldsOp[2]?).map (·.type) = some 2 := by kernel_rfl
 have h3 : (fldsOp[3]?).map (·.type) = some 2 := by kernel_rfl
 generalize fldsOp = F at *
 obtain ⟨l⟩ := F
 match l, hs with
 | [f0, f1, f2, f3], _ => exact ⟨f0, f1, f2, f3, rfl, by simpa using h0, by simpa using h1, by simpa using h2, by simpa using h3⟩
section
variable {H : Type} {enc : TypeId × Value → H} {W : World} {base : Nat} {spare : Nat → Bool} {held : Bool}
theorem trod_struct4 {P : Program} {t : TypeId} {f0 f1 f2 f3 : Field} {fuel : Nat} {cs : List Value} {x : DataW H × List MemPlace} (ht : P.underlying t = some (.struct #[f0, f1, f2, f3])) (h : DataW.trod enc P W base spare held fuel t cs = some x) :
  ∃ y0 y1 y2 y3 n, cs.length = P.cellsOf t ∧ DataW.trod enc P W base spare held n f0.type ((cs.drop f0.offset).take (P.cellsOf f0.type)) = some y0 ∧
   DataW.trod enc P W base spare held n f1.type ((cs.drop f1.offset).take (P.cellsOf f1.type)) = some y1 ∧ DataW.trod enc P W base spare held n f2.type ((cs.drop f2.offset).take (P.cellsOf f2.type)) = some y2 ∧
   DataW.trod enc P W base spare held n f3.type ((cs.drop f3.offset).take (P.cellsOf f3.type)) = some y3 := by
 obtain ⟨xs, n, _, rfl, hl, hlen, hf⟩ := DataW.trod_struct ht h
 match xs, hlen with
 | [y0, y1, y2, y3], _ => exact ⟨y0, y1, y2, y3, n, hl, by simpa using hf 0 f0 rfl, by simpa using hf 1 f1 rfl, by simpa using hf 2 f2 rfl, by simpa using hf 3 f3 rfl⟩
structure ThIn (W : World) (v : Value) (a : Option Addr) (ln oc : Nat) (l : List OpV) : Prop where
 is : v = .slice a ln oc
 len : l.length = ln
 cap : ln ≤ oc
 ad : (a = none ∧ oc = 0) ∨ ∃ p, a = some p
 ops : ∀ (k : Nat) (o : OpV), l[k]? = some o → ∃ b off, a = some ⟨b, off, none⟩ ∧ W.cell? ⟨b, off + k * 4, none⟩ = some (.int .i64 o.k) ∧ W.cell? ⟨b, off + k * 4 + 1, none⟩ = some (.int .i64 o.a) ∧ W.cell? ⟨b, off + k * 4 + 2, none⟩ = some (.int .i64 o.b) ∧ W.cell? ⟨b, off + k * 4 + 3, none⟩ = some (.int .i64 o.c)
theorem open_ops {n : Nat} {v : Value} {x : DataW H × List MemPlace} (hu : Try.prog.underlying 32 = some (.slice 34)) (h : DataW.trod enc Try.prog W base (fun _ => true) held n 32 [v] = some x) :
  ∃ (q : (Option Addr × Nat × Nat) × List OpV), ThIn W v q.1.1 q.1.2.1 q.1.2.2 q.2 := by
 have hC : Try.prog.cellsOf 34 = 4 := by kernel_rfl
 obtain ⟨f0, f1, f2, f3, ef, t0, t1, t2, t3⟩ := fldsOp_four
 have hst : Try.prog.underlying 34 = some (.struct #[f0, f1, f2, f3]) := by rw [undOp_is, ef]
 have hone : oneCellFields Try.prog #[f0, f1, f2, f3] = true := by rw [← ef]; kernel_rfl
 rcases open_slice hu h with ⟨e, _⟩ | ⟨a', len', cap', m, n', D, Pl, e, _, hl, _, hm, hx, hel⟩
 ·injection e with e _
  exact ⟨((none, 0, 0), []), e, rfl, Nat.le_refl _, .inl ⟨rfl, rfl⟩, fun k o h => by simp at h⟩
 ·injection e with e _
  have hm : m = cap' := by simpa using hm
  have key : ∀ i, i < len' → ∃ o : OpV, ∀ k v, ([.int .i64 o.k, .int .i64 o.a, .int .i64 o.b, .int .i64 o.c] : List Value)[k]? = some v → W.cell? ((a'.add (i * 4)).add k) = some v := fun i hi => by
   obtain ⟨cs', h1, h2⟩ := hel i (by omega)
   rw [hC] at h1
   obtain ⟨_, hlen, hcell⟩ := World.cells?_some h1
   obtain ⟨y0, y1, y2, y3, k, _, u0, u1, u2, u3⟩ := trod_struct4 hst h2
   obtain ⟨o0, k0⟩ := hone_of hone 0 f0 rfl
   obtain ⟨o1, k1⟩ := hone_of hone 1 f1 rfl
   obtain ⟨o2, k2⟩ := hone_of hone 2 f2 rfl
   obtain ⟨o3, k3⟩ := hone_of hone 3 f3 rfl
   match cs', hlen with
   | [c0, c1, c2, c3], _ =>
    rw [o0, k0, t0] at u0
    rw [o1, k1, t1] at u1
    rw [o2, k2, t2] at u2
    rw [o3, k3, t3] at u3
    obtain ⟨z0, e0, _, _⟩ := DataW.trod_int und3_is u0
    obtain ⟨z1, e1, _, _⟩ := DataW.trod_int und2_is u1
    obtain ⟨z2, e2, _, _⟩ := DataW.trod_int und2_is u2
    obtain ⟨z3, e3, _, _⟩ := DataW.trod_int und2_is u3
    simp at e0 e1 e2 e3
    subst e0 e1 e2 e3
    refine ⟨⟨z0, z1, z2, z3⟩, fun k v hv => ?_⟩
    have hk4 : k < 4 := (List.getElem?_eq_some_iff.1 hv).1
    have hc := hcell k (by simpa using hk4)
    rw [hc]
    exact hv
  have hI : Inhabited OpV := ⟨⟨0, 0, 0, 0⟩⟩
  obtain ⟨f, hf'⟩ := choose_lt (α := OpV) key
  refine ⟨((some a', len', cap'), (List.range len').map f), e, by simp, hl, .inr ⟨_, rfl⟩, fun k o hd => ?_⟩
  have hk : k < len' := by simpa using (List.getElem?_eq_some_iff.1 hd).1
  have hd : f k = o := by simpa [hk] using hd
  have hf := hf' k hk
  rw [hd] at hf
  have h0 := hf' 0 (by omega) 0 _ rfl
  have ha : (a'.add (0 * 4)).add 0 = a' := by simp [Addr.add]
  rw [ha] at h0
  have hform := addr_form h0
  have hc : ∀ (m : Nat) (v : Value), ([.int .i64 o.k, .int .i64 o.a, .int .i64 o.b, .int .i64 o.c] : List Value)[m]? = some v → W.cell? ⟨a'.block, a'.off + k * 4 + m, none⟩ = some v := fun m v hv => by
   have := hf m v hv
   rw [hform, add_none, add_none] at this
   exact this
  exact ⟨a'.block, a'.off, congrArg some hform, hc 0 _ rfl, hc 1 _ rfl, hc 2 _ rfl, hc 3 _ rfl⟩
end
end
section
open Go.ChangeShapes Go.WideShapes Go.ChangeAt Go.Joins Go.Deep
section
variable {H : Type} {enc : TypeId × Value → H} {W : World}
theorem open_oplist {base : Nat} {v : Value} {d : DataW H} {ps : List MemPlace} (hu : Try.prog.underlying 32 = some (.slice 34)) (hval : Value.okWide Try.prog W .any base 32 v) (h : DataW.Trod enc Try.prog W 0 (fun _ => true) true 32 v d ps)
  {ts : List TypeId} {ds : List (DataW H)} {j : Nat} (hsz : (DataW.weightsEach Try.prog ts ds).all (· ≤ reachBytes) = true) (ht : ts[j]? = some 32) (hd : ds[j]? = some d) :
  ∃ (a : Option Addr) (n0 tc tb toff : Nat) (ops : List OpV), v = .slice a n0 tc ∧ ops.length = n0 ∧ n0 ≤ 4398046511104 ∧ (0 < n0 → a = some ⟨tb, toff, none⟩) ∧
   ∀ (j : Nat) (o : OpV), ops[j]? = some o → W.cell? ⟨tb, toff + j * 4, none⟩ = some (.int .i64 o.k) ∧ W.cell? ⟨tb, toff + j * 4 + 1, none⟩ = some (.int .i64 o.a) ∧ W.cell? ⟨tb, toff + j * 4 + 2, none⟩ = some (.int .i64 o.b) ∧ W.cell? ⟨tb, toff + j * 4 + 3, none⟩ = some (.int .i64 o.c) := by
 obtain ⟨sa, sl, sc, rfl⟩ := okWide_slice hu hval
 obtain ⟨fuel, hf⟩ := h
 have hf : DataW.trod enc Try.prog W 0 (fun _ => true) true fuel 32 [.slice sa sl sc] = some (d, ps) := hf
 generalize hv : Value.slice sa sl sc = v at *
 obtain ⟨⟨⟨a, n0, tc⟩, l⟩, I⟩ := open_ops hu hf
 have hb : n0 ≤ 4398046511104 := by
  have hB : Try.prog.bytesOf 34 = 32 := by kernel_rfl
  have hr := reachBytes_lt
  rcases open_slice hu hf with ⟨e, _⟩ | ⟨a', len', cap', m, n', D, Pl, e, _, hl, _, hm, hx, _⟩
  ·have e : [v] = [.slice none 0 0] := e
   injection e with e _
   rw [I.is] at e
   injection e with _ e _
   have e : n0 = 0 := e
   omega
  ·have e : [v] = [.slice (some a') len' cap'] := e
   injection e with e _
   rw [I.is] at e
   injection e with _ e _
   have e : n0 = len' := e
   injection hx with hx _
   subst hx
   have hs := sized_slice hsz ht hd hu
   rw [hB] at hs
   simp only [List.length_map, List.length_range] at hs
   omega
 have hlt : l.length = n0 := I.len
 cases hl : l with
 | nil =>
  have hl0 := I.len
  rw [hl] at hl0
  have hl0 : n0 = 0 := hl0.symm
  exact ⟨a, n0, tc, 0, 0, l, I.is, hlt, hb, fun h => by omega, fun j o ho => by rw [hl] at ho; simp at ho⟩
 | cons o0 l0 =>
  obtain ⟨b, off, e, _⟩ := I.ops 0 o0 (by show l[0]? = _; rw [hl]; rfl)
  refine ⟨a, n0, tc, b, off, l, I.is, hlt, hb, fun _ => e, fun j o ho => ?_⟩
  obtain ⟨b', off', e', k⟩ := I.ops j o ho
  have e : a = some ⟨b, off, none⟩ := e
  have e' : a = some ⟨b', off', none⟩ := e'
  rw [e] at e'
  cases e'
  exact k
end
theorem onceAlone_lifted (os : Os) (started : os.Started) (H : Type) (enc : TypeId × Value → H) :
  ReturnsInLeavingWide {} Try.checked os 4 .any (Rows.onceAloneSpec.pre6 enc Try.prog Try.f4 Rows.onceAloneRow.domain false) (Rows.onceAloneSpec.post enc Try.prog Try.f4 false true false false) := by
 refine returnsInLeavingWide_of_change_sized (C := Try.checked) prog_own started Try.func4
  (ChangeSpec.witness6 (enc := enc) (C := Try.checked) false ⟨#[], #[.slice none 0 0], []⟩ 8 (by kernel_rfl) (by kernel_rfl) (by kernel_rfl) (by kernel_rfl)) ?_
 intro W base args ds gs before hval0 hW _ hsz0 _
 have hval : ∀ (j : Nat) t v, Try.f4.params[j]? = some t → args[j]? = some v → Value.okWide Try.prog W .any base t v := hval0
 have hW' := hW
 obtain ⟨p, q, hA0, hV, rfl, _, _⟩ := hW
 have hA : DataW.TrodAll enc Try.prog W 0 (fun _ => true) true Try.f4.params.toList args.toList ds p := hA0
 rw [Try.params4] at hA hval
 have hsz : (DataW.weightsEach Try.prog (Try.f4.params.toList ++ Rows.onceAloneSpec.plain.varTypes Try.prog) (ds ++ gs)).all (· ≤ reachBytes) = true := hsz0
 rw [Try.params4] at hsz
 obtain ⟨v0, d0, rfl, rfl, h0⟩ := trodAll_one hA
 obtain ⟨rfl, rfl⟩ := trodVars_none hV
 have hlt := hW'.lt
 obtain ⟨ta, n0, tc, tb, toff, ops, rfl, hlen, hn0, hta, hop⟩ := open_oplist (by kernel_rfl) (hval 0 32 v0 rfl rfl) h0 (j := 0) hsz rfl rfl
 clear hA0 hval0 hsz0 hsz
 simp only [List.append_nil, List.nil_append] at hW' hlt
 obtain ⟨M, last, o, w', t', r1, r2, r3, r4⟩ := run_claim (Post := Left W) (t := 2) Try.func4 rfl (by kernel_rfl) (Runs.then (oal_all ta n0 tc tb toff ops W hlen hn0 hta hop) fun g w' ⟨hC, hO⟩ => .now ⟨hC, fun ho d => ⟨rfl, ho.1, ho.2, hO⟩⟩)
 refine ⟨M, last, o, w', t', r1, r2, r3, r4.mono fun v hF => ?_⟩
 have hk : Left W (.bool true) w' := ⟨rfl, hF.2⟩
 obtain rfl : v = .bool true := hF.1
 exact ⟨_, _, _, [], _, [], hW', trodAll_mk1 (shut_bool und4_is true), trodAll_mk1 (hk.stays (by kernel_rfl) (of_decide_eq_true (by kernel_rfl)) h0 fun x hx => hlt x (by simp [hx])), rfl, hk.kept _, fun h => by cases h⟩
theorem onceAlone_holds : Rows.OnceAloneSaid :=
 OpenClaim.holds_of_wide_leaving 4 Try.f4 rfl rfl rfl rfl rfl rfl rfl ⟨rfl, rfl, rfl, rfl, rfl⟩ rfl rfl rfl rfl rfl (by kernel_rfl) Try.func4 (by kernel_rfl)
  (of_decide_eq_true (by kernel_rfl)) (by unfold Func.isWrapper; first | (rw [if_pos (by decide +kernel)]; kernel_rfl) | (rw [if_neg (by decide +kernel)]; exact ⟨rfl, rfl⟩))
  (fun os started H enc _ => onceAlone_lifted os started H enc)
end
end Go.Proofs.Ytdcjgmlgmjjogaa
