/-
For all words, programs (lists of codes) and schedules: TurnKeeps returns true on every schedule of the goroutines, without a data race, and what was there stands. Conditions: none beyond the statement's own.
-/
import Derived.Test.YtgiiicdpbdfemaaC12
import Derived.Deep.MidRow
import Derived.Test.YtgiiicdpbdfemaaRows
import Derived.Lib.SmallJoins
import Derived.SizedLaws
import Derived.Carry
import Derived.Deep.Slices
set_option linter.unusedSimpArgs false
set_option maxHeartbeats 8000000
set_option maxRecDepth 100000
namespace Go.Proofs.Ytgiiicdpbdfemaa
open Go.Conc Go.RowKit Go.Relay
open Go.ConcN (upd upd_ne upd_same)
theorem play17_w {main : Bool} (wa : Option Addr) (wc : Nat) (zs : List Int) (pa : Option Addr) (N pc n : Nat) (va : Option Addr) (vc : Nat) (sl : List Int) (most : Int) (progs : Nat → List Cd) (ca : Nat → Option Addr) (cc : Nat → Nat) (W : World)
    (hz : zs.length ≤ 17592186044416) (hnil : wa = none → zs = [] ∧ wc = 0) (hs : ∀ (j : Nat) (z : Int), zs[j]? = some z → ∃ s so, wa = some ⟨s, so, none⟩ ∧ W.cell? ⟨s, so + j, none⟩ = some (.int .i64 z))
    (hsl : sl.length ≤ 17592186044416) (hvn : va = none → sl = [] ∧ vc = 0) (hv : ∀ (j : Nat) (z : Int), sl[j]? = some z → ∃ s so, va = some ⟨s, so, none⟩ ∧ W.cell? ⟨s, so + j, none⟩ = some (.int .i64 z))
    (hm : min (N : Int) 64 = (n : Nat)) (hpr : ∀ i, i < n → ∃ pb po, pa = some ⟨pb, po, none⟩ ∧ W.cell? ⟨pb, po + i, none⟩ = some (.slice (ca i) (progs i).length (cc i))) (hC : ∀ i, i < n → CodesIn (ca i) (progs i) W) (hL : ∀ i, i < n → (progs i).length ≤ 4398046511104) :
    CallW Try.prog main (fun _ => none) 17 #[.slice wa zs.length wc, .slice pa N pc, .slice va sl.length vc, .int .i64 most] W (fun v w' => TraceNew W.heap.size n zs.length (stepsA n most zs.length progs zs sl) v w' ∧ Old W w') := by
  intro fr cs
  refine (play17_steps wa wc zs pa N pc n va vc sl most progs ca cc (fr :: cs) W hz hnil hs hsl hvn hv hm hpr hC hL).then ?_
  rintro g0 w1 ⟨g, L, ps, p, rd, oa, oc, κ, ats, tas, tcs, u1, rfl, hgW, hgn, hgnw, hgr, hcn, hln, H⟩
  generalize stepsA n most zs.length progs zs sl = F at *
  have hn64 : n ≤ 64 := by omega
  have T := H.T
  have hb := H.bools
  rw [hgn] at hb
  rw [← hgr]
  refine (play17_end (main := main) g.r g.sa zs.length g.sc (.slice L.la n L.lc) L.ea n L.ec L.tu oa F.2.length oc (fun i => (F.1.out i).isSome) u1 (fr :: cs) w1 ((cell_of H.tu.blk 4).trans rfl) (by omega) hb).then ?_
  rintro g0 w2 ⟨⟨u2, rfl⟩, d2, rfl⟩
  refine Walk.back ?_ d2
  generalize hk : (!(List.range n).all fun i => (F.1.out i).isSome) = k at *
  have hO2 := old_alloc w1 (.cells (trArr none 0 0 oa F.2.length oc g.sa zs.length g.sc k) 28)
  have ho2 := heap_alloc_new w1 (.cells (trArr none 0 0 oa F.2.length oc g.sa zs.length g.sc k) 28)
  generalize w1.alloc (.cells (trArr none 0 0 oa F.2.length oc g.sa zs.length g.sc k) 28) = w2 at *
  have htell : Walk Try.prog main (DR (fun _ => none)) (fun g' w' => ∃ aa ac, (∃ u', g' = G (hd17c g.r (.slice L.la n L.lc) w1.heap.size n u') (fr :: cs)) ∧ Old w1 w' ∧ w'.heap[w1.heap.size]? = some (.cells (Value.slice aa n ac :: [.slice oa F.2.length oc, .slice g.sa zs.length g.sc, .bool k]).toArray 28) ∧ w'.ownsRow (w1.heap.size + 1) 36 1 (.slice aa n ac) n (tells F.1 tas tcs n))
      (G (hd17c g.r (.slice L.la n L.lc) w1.heap.size 0 u2) (fr :: cs)) w2 := by
    rcases Nat.eq_zero_or_pos n with h0 | h0
    · subst h0
      exact .stop fun d => ⟨none, 0, ⟨u2, rfl⟩, ⟨hO2.size, hO2.same⟩, ho2, row_nil _ _ _ _⟩
    · obtain ⟨lb, arr, e1, e2, e3, e4⟩ := H.lr (by omega)
      rw [e1]
      exact play17_tells g.r w1.heap.size lb n L.lc F.1 tas tcs ps [.slice oa F.2.length oc, .slice g.sa zs.length g.sc, .bool k] (by omega) (fr :: cs) w1 rfl (fun i hi => ⟨(cell_of e3 i).trans (e4 i (by omega)), (cell_of (T.th i (by omega)).blk 6).trans rfl⟩) n 0 none 0 u2 w2 (by omega) hO2 ho2 (row_nil _ _ _ _)
  refine htell.then ?_
  rintro g0 w3 ⟨aa, ac, ⟨u3, rfl⟩, O3, ho3, hrow⟩
  have hrl := T.lt _ _ T.res.1
  have hr3 := (O3.same g.r hrl).trans T.res.2
  refine (play17_out (main := main) g.r w1.heap.size n L.lc L.la (.slice aa n ac) (.slice oa F.2.length oc) (.slice g.sa zs.length g.sc) (.bool k) (.slice none 0 0) (.slice none 0 0) (.slice none 0 0) (.bool false) u3 fr cs w3 ho3 hr3 (by simp [Value.oneCell'])).mono ?_
  rintro g0 w' ⟨rfl, d, rfl⟩
  refine ⟨_, ⟨?_, ?_⟩, rfl⟩
  · have hsame : ∀ b, b < w1.heap.size → b ≠ g.r → (w3.setRow g.r #[.slice aa n ac, .slice oa F.2.length oc, .slice g.sa zs.length g.sc, .bool k]).heap[b]? = w1.heap[b]? := fun b hb hne => (setRow_other _ _ _ _ hne).trans (O3.same b hb)
    have hnew : ∀ b r, κ b = some r → r ≠ .old → g.r ≤ b := fun b r h e => by
      rw [hgr]
      rcases Nat.lt_or_ge b W.heap.size with h1 | h1
      · have := (T.old b (by rw [hgW]; exact h1)).1
        rw [h] at this
        exact absurd (Option.some.inj this) e
      · exact h1
    have hWs := T.size
    rw [hgW] at hWs
    refine ⟨aa, ac, oa, oc, g.sa, g.sc, tas, tcs, by rw [hk]; rfl, ?_, fun i hi => ?_, fun i hi => ?_, hln, fun i hi => ?_⟩
    · exact row_raise (row_same H.tu.row fun b hb => hsame b (T.lt _ _ (H.od b hb)) (role_two (H.od b hb) T.res.1 (by simp))) fun b hb => hnew b _ (H.od b hb) (by simp)
    · obtain ⟨e1, e2, e3⟩ := T.ws (by omega)
      exact ⟨g.sw, e1, hnew _ _ e2 (by simp), (World.cell?_of_block (a := ⟨g.sw, i, none⟩) (hsame g.sw (T.lt _ _ e2) (role_two e2 T.res.1 (by simp)))).trans (e3.cell (by omega))⟩
    · have hin : i < g.n := by omega
      obtain ⟨c, cap, e, _, _, _, hc⟩ := row_cell hrow (j := i) (x := .slice (tas i) (F.1.th i).told.length (tcs i)) (by simp [tells, hi])
      injection e with e1 _ _
      have hcr : w1.heap.size + 1 ≤ c := (hrow.lt c (by rw [e1]; rfl)).1
      exact ⟨c, e1, by omega, (World.cell?_of_block (a := ⟨c, i, none⟩) (setRow_other _ _ _ _ (show c ≠ g.r by omega))).trans hc, row_raise (row_same (T.th i hin).row fun b hb => hsame b (T.lt _ _ (T.rT i hin b hb)) (role_two (T.rT i hin b hb) T.res.1 (by simp))) fun b hb => hnew b _ (T.rT i hin b hb) (by simp)⟩
    · have h1 := T.told i (by omega)
      rw [hcn] at h1
      have : 4096 * (F.2.length + 1) ≤ 4096 * 1048577 := Nat.mul_le_mul_left _ (by omega)
      omega
  · refine Old.at ⟨?_, fun b hb => ?_⟩ d
    · have h1 := T.size
      rw [hgW] at h1
      have := O3.size
      simp [World.setRow]
      omega
    · have h := T.old b (by rw [hgW]; exact hb)
      rw [hgW] at h
      exact (setRow_other _ _ _ _ (role_two h.1 T.res.1 (by simp))).trans ((O3.same b (T.lt _ _ h.1)).trans h.2)
theorem codes_nil {main : Bool} {V : Nat → Option Wait} (pa : Option Addr) (pc : Nat) (w : World) : CallV Try.prog main V 15 #[.slice pa 0 pc] w (.slice none 0 0) w := by
  intro fr cs
  refine (codes_in _ (fr :: cs) w).then ?_
  rintro g1 w1 ⟨⟨u1, rfl⟩, d1, rfl⟩
  refine Walk.back ?_ d1
  refine (codes_out pa 0 pc none 0 u1 fr cs w).mono ?_
  rintro g w' ⟨rfl, d, rfl⟩
  exact ⟨_, ⟨rfl, d, rfl⟩, rfl⟩
theorem codes_any {main : Bool} {V : Nat → Option Wait} (pa : Option Addr) (pc : Nat) (l : List Sl) (Ps : List (List Cd)) (w : World) (hS : Src pa l Ps w) (hn : Ps.length ≤ 5864062014805) (hm : ∀ c ∈ Ps, c.length ≤ 3518437208883) (hA : ∀ b, w.heap.size ≤ b → Apart V b) :
    CallW Try.prog main V 15 #[.slice pa Ps.length pc] w (fun v w' => ∃ fa fc ls, v = .slice fa Ps.length fc ∧ Coded w w' Ps fa fc Ps.length ls ∧ (Ps.length = 0 → fa = none ∧ fc = 0)) := by
  rcases Nat.eq_zero_or_pos Ps.length with h0 | h0
  · intro fr cs
    rw [h0]
    refine ((codes_nil (main := main) (V := V) pa pc w) fr cs).mono ?_
    rintro g w' ⟨v, ⟨rfl, d, rfl⟩, hg⟩
    refine ⟨_, ⟨none, 0, [], rfl, ⟨(Old.refl w).at d, rfl, row_nil _ _ _ _, fun j p c h => by simp at h⟩, fun _ => ⟨rfl, rfl⟩⟩, hg⟩
  · intro fr cs
    refine ((codes_w (main := main) (V := V) pa pc l Ps w hS hn hm hA) fr cs).mono ?_
    rintro g w' ⟨v, ⟨fa, fc, ls, hv, M⟩, hg⟩
    exact ⟨v, ⟨fa, fc, ls, hv, M, fun h => by omega⟩, hg⟩
theorem playA_nil (ws : List Int) (most : Int) (sl : List Int) : playA [] ws most sl = (px0 ws, []) := by
  have hov : ∀ st : PX × List Nat, overA (absP ([] : List (List Cd)).length (min (max most 0) 1048576) ws.length (fun i => ([] : List (List Cd)).getD i [])) st = true := fun st => by
    unfold overA goingA absP
    simp
  unfold playA runA followA
  show restA _ _ (List.foldl _ (px0 ws, []) sl) = _
  rw [over_folds (hov _)]
  generalize (absP ([] : List (List Cd)).length (min (max most 0) 1048576) ws.length (fun i => ([] : List (List Cd)).getD i [])).most.toNat = k
  cases k with
  | zero => rfl
  | succ k => exact rest_off _ (hov _)
theorem play_any {w0 wc : World} {Ps : List (List Cd)} {fa : Option Addr} {fc : Nat} {ls : List Sl} (M : Coded w0 wc Ps fa fc Ps.length ls) (h0 : Ps.length = 0 → fa = none ∧ fc = 0) (hm : ∀ c ∈ Ps, c.length ≤ 3518437208883) (wa : Option Addr) (cap : Nat) (sa : Option Addr) (sc : Nat) (most : Int) (ws sl : List Int) (w : World) (O : Old wc w) (hws : ws.length ≤ 17592186044416) (hsl : sl.length ≤ 17592186044416)
    (hw : IntsAt wa ws w) (hsc : IntsAt sa sl w) (c : Frame) (cs : List Frame) :
    Runs (fun g w' => ∃ cells, PlayOut w.heap.size (Ps.take 64) ws most sl cells w' ∧ Old w w' ∧ g = G (c.finish (.agg cells)) cs) (G (Frame.enter Try.prog 14 #[.slice wa ws.length cap, .slice fa Ps.length fc, .slice sa sl.length sc, .int .i64 most] .normal) (c :: cs)) w := by
  rcases Nat.eq_zero_or_pos Ps.length with hp | hp
  · obtain ⟨rfl, rfl⟩ := h0 hp
    have hPs : Ps = [] := List.eq_nil_of_length_eq_zero hp
    subst hPs
    refine Runs.walk (play_none wa cap ws sa sl.length sc most c cs w hws hw fun h => ?_) fun g w' h => Runs.now ?_
    · obtain ⟨s, so, e, hc⟩ := hsc 0 _ (List.getElem?_eq_getElem h)
      exact ⟨s, so, _, e, hc⟩
    · obtain ⟨a, s, ha, hs, hO, hc, hst, hg⟩ := h
      refine ⟨_, ⟨none, 0, a, s, fun _ => none, fun _ => 0, rfl, ?_, ?_, ?_, ha, hs, fun h => absurd h (Nat.not_lt_zero _), hst, fun i j b hi => absurd hi (Nat.not_lt_zero _)⟩, hO, ?_⟩
      · have e : playA (List.take 64 []) ws most sl = (px0 ws, []) := playA_nil ws most sl
        rw [e]
        exact row_nil _ _ _ _
      · intro j hj
        show w'.cell? _ = some (.int .i64 ((playA [] ws most sl).1.words j))
        rw [playA_nil]
        exact hc j hj
      · intro i hi
        exact absurd hi (Nat.not_lt_zero _)
      · rw [hg]
        have e : playA (List.take 64 []) ws most sl = (px0 ws, []) := playA_nil ws most sl
        rw [e]
        rfl
  · exact play_coded M hp (fun c hc => by have := hm c hc; omega) wa cap sa sc most ws sl w O hws hsl hw hsc c cs
theorem stuck_is (progs : List (List Cd)) (x : PX) : stuckA progs x = !(List.range progs.length).all fun i => (x.out i).isSome := by
  unfold stuckA
  rw [Bool.eq_iff_iff]
  simp only [decide_eq_true_eq, List.countP_pos_iff, Bool.not_eq_true', List.all_eq_false]
  constructor
  · rintro ⟨i, hi, h⟩
    refine ⟨i, hi, ?_⟩
    cases e : x.out i with
    | none => simp
    | some b => rw [e] at h; cases h
  · rintro ⟨i, hi, h⟩
    refine ⟨i, hi, ?_⟩
    cases e : x.out i with
    | none => rfl
    | some b => rw [e] at h; simp at h
theorem CallW.mono {P : Program} {main : Bool} {V : Nat → Option Wait} {f : FuncId} {args : Array Value} {w : World} {Q Q' : Value → World → Prop} (h : CallW P main V f args w Q) (hq : ∀ v w', Q v w' → Q' v w') : CallW P main V f args w Q' := fun fr cs => (h fr cs).mono fun _ w' ⟨v, h1, h2⟩ => ⟨v, hq v w' h1, h2⟩
section
theorem tape_set (w : World) (a : Addr) (x : Value) : (w.setCell a x).tape = w.tape := by
  unfold World.setCell
  rfl
theorem setCells_kept (b : Nat) : ∀ (vs : List Value) (o : Nat) (w : World), OsSame w (w.setCells b o vs) ∧ (w.setCells b o vs).tape = w.tape ∧ (w.setCells b o vs).heap.size = w.heap.size ∧ (∀ k, k ≠ b → (w.setCells b o vs).heap[k]? = w.heap[k]?) ∧ ∀ cur t, w.heap[b]? = some (.cells cur t (0, 0)) → ∃ cur' : Array Value, (w.setCells b o vs).heap[b]? = some (.cells cur' t (0, 0)) ∧ cur'.size = cur.size
  | [], o, w => ⟨OsSame.refl w, rfl, rfl, fun _ _ => rfl, fun cur t h => ⟨cur, h, rfl⟩⟩
  | v :: r, o, w => by
    obtain ⟨h1, h2, h3, h4, h5⟩ := setCells_kept b r (o + 1) (w.setCell ⟨b, o, none⟩ v)
    have e : w.setCells b o (v :: r) = (w.setCell ⟨b, o, none⟩ v).setCells b (o + 1) r := rfl
    have hs := osSame_set w ⟨b, o, none⟩ v
    rw [e]
    refine ⟨⟨h1.1.trans hs.1, h1.2.trans hs.2⟩, h2.trans (tape_set ..), h3.trans (size_set ..), fun k hk => (h4 k hk).trans (heap_set_other _ _ _ _ hk), fun cur t h => ?_⟩
    obtain ⟨cur', e1, e2⟩ := h5 _ t (heap_set_self _ _ h)
    exact ⟨cur', e1, by rw [e2]; simp⟩
theorem events_storeVar_off {P : Program} (w : World) (g off : Nat) (t ty : TypeId) (cur cells : Array Value) (hg : w.heap[g]? = some (.cells cur t (0, 0))) (hi : (P.info? ty).map (·.size) = some cells.size) (hl : off + cells.size ≤ cur.size) (h1 : cells.all (·.oneCell') = true) :
    ∀ e ∈ (storeVar ty ⟨g, off, none⟩ (.agg cells)).events P w #[], ∃ ad, e.loc = .cell ad ∧ ad.block = g := by
  cases hq : P.info? ty with
  | none => simp [hq] at hi
  | some i =>
    have hs : cells.size = i.size := by simp [hq] at hi; omega
    intro e he
    have : e ∈ (storeCells ⟨g, off, none⟩ cells.toList 0).events P w #[] := by
      simpa [storeVar, sizeOf, typeInfo, hq, Value.cells, hs, Sem.events_bind] using he
    rcases events_storeCells_at g off t cells.toList 0 cur w #[] hg (by simp; omega) (fun v hv => (Array.all_eq_true_iff_forall_mem.1 h1) v (by simpa using hv)) e this with h | h
    · simp at h
    · exact h
section
variable {P : Program} {main : Bool} {V : Nat → Option Wait} {Stop : Goroutine → World → Prop} {w : World} {b : Frame} {a : Act} {k : List Item} {cs : List Frame} {ops : Array Oper} {i : Nat} {rest : List Nat} {o : Oper}
theorem Walk.storeM (t : TypeId) (x y : Operand) (ho : ops[i]? = some o) (hw : Region.wanted o (yielded ops a.tmps) = true) (hk : b.kind ≠ .early) (hop : o.op = .store t x y) (g off : Nat) (cells cur : Array Value) (tt : TypeId) (hx : a.eval x = .pointer (some ⟨g, off, none⟩)) (hy : a.eval y = .agg cells)
    (hg : w.heap[g]? = some (.cells cur tt (0, 0))) (hi : (P.info? t).map (·.size) = some cells.size) (hl : off + cells.size ≤ cur.size) (h1 : cells.all (·.oneCell') = true) (hap : Apart V g)
    (h : Walk P main (DR V) Stop (G (b.at (a.put o.dst undef) (.inRegion ops rest :: k)) cs) (w.setCells g off cells.toList)) : Walk P main (DR V) Stop (G (b.at a (.inRegion ops (i :: rest) :: k)) cs) w := by
  obtain ⟨k1, k2, k3, k4, _⟩ := setCells_kept g cells.toList off w
  have hat : ∀ d, ((w.at d).setCells g off cells.toList) = (w.setCells g off cells.toList).at d := fun d => by
    have : ∀ (vs : List Value) (o : Nat) (w : World), (w.at d).setCells g o vs = (w.setCells g o vs).at d := by
      intro vs
      induction vs with
      | nil => intro o w; rfl
      | cons v r ih => intro o w; exact ih (o + 1) (w.setCell ⟨g, o, none⟩ v)
    exact this _ _ _
  have hgr : ∀ d, (w.at d).grownBy ((w.setCells g off cells.toList).at d) (some g) := fun d => ⟨k1.1, k2, k1.2, Nat.le_of_eq k3.symm, fun k hk hne => k4 k fun e => hne (by rw [e])⟩
  have hth : w.there g off cells.size := fun j hj => by
    refine ⟨?_, frozen_of hg _⟩
    rw [cell_of hg, Array.getElem?_eq_getElem (show off + j < cur.size by omega)]
    rfl
  have hr : ∀ d, (storeVar t ⟨g, off, none⟩ (.agg cells)).run P (w.at d) = .ok () ((w.setCells g off cells.toList).at d) := fun d => by
    rw [← hat]
    exact run_storeVar_mid (P := P) (w.at d) g off t cells hth hi h1
  refine Walk.opw (W := w.setCells g off cells.toList) ho hw hk (fun dd e he => ?_) (fun dd es hes => DR.grown (hgr dd) (fun g' e => by cases e; exact hap) hes) (fun dd K hK => ?_)
  · obtain ⟨ad, h1', h2'⟩ := events_storeVar_off (P := P) (w.at dd) g off tt t cur cells hg hi hl h1 e (by
      unfold execOp at he
      have hr' := hr dd
      simpa [hop, hx, hy, Instr.storeAt, Instr.sureAddr, Sem.events_bind, hr'] using he)
    exact evR_cell h1' (hap.1 ad h2')
  · unfold execOp
    simp only [hop, hx, hy, Instr.storeAt, Instr.sureAddr, Sem.run_bind, Sem.run_pure, Result.andThen_ok, hr dd]
    exact hK _ h
end
end
theorem PlayOut.trace {b0 : Nat} {PL : List (List Cd)} {ws : List Int} {most : Int} {sl : List Int} {cells : Array Value} {w : World} (H : PlayOut b0 PL ws most sl cells w) : ∃ aa ac oa oc sa sc, cells = trArr aa PL.length ac oa (playA PL ws most sl).2.length oc sa ws.length sc (!(List.range PL.length).all fun i => ((playA PL ws most sl).1.out i).isSome) ∧ NumsAt oa (playA PL ws most sl).2.length (fun i => ((playA PL ws most sl).2.getD i 0 : Nat)) w ∧ NumsAt sa ws.length (playA PL ws most sl).1.words w ∧ TellsAt aa PL.length (fun i => ((playA PL ws most sl).1.th i).told.length) (fun i j => ((playA PL ws most sl).1.th i).told.getD j 0) w := by
  obtain ⟨oa, oc, a, s, tas, tcs, h1, h2, h3, h4, _⟩ := H
  refine ⟨some ⟨a, 0, none⟩, PL.length, oa, oc, some ⟨s, 0, none⟩, ws.length, ?_, ?_, fun j hj => ⟨s, 0, rfl, by rw [Nat.zero_add]; exact h3 j hj⟩, fun i hi => ?_⟩
  · rw [h1, stuck_is]; rfl
  · refine nums_row (l := (playA PL ws most sl).2) h2 _ fun i hi => ⟨_, List.getElem?_eq_getElem hi, ?_⟩
    rw [List.getD_eq_getElem?_getD, List.getElem?_eq_getElem hi]
    rfl
  · obtain ⟨e1, e2⟩ := h4 i hi
    exact ⟨a, 0, tas i, tcs i, rfl, by rw [Nat.zero_add]; exact e1, told_row e2⟩
section
open Go.Conc Go.RowKit Go.ChangeShapes Go.WideShapes Go.ChangeAt Go.Joins Go.Deep
theorem prog_own : ownKnob Try.prog.godebug = none := by kernel_rfl
def Left (W : World) (v : Value) (w' : World) : Prop := v = .bool true ∧ w'.os = W.os ∧ w'.output = W.output ∧ ∀ b, b < W.heap.size → w'.heap[b]? = W.heap[b]?
theorem Left.kept {W w' : World} {v : Value} (h : Left W v w') (may : MemPlace → Prop) : W.keptBut w' may := by
  refine ⟨h.2.1, h.2.2.1, fun i hi => ?_⟩
  rw [h.2.2.2 i hi]
  split <;> simp_all
theorem und3_is : Try.prog.underlying 3 = some (.int .i64) := by kernel_rfl
theorem und4_is : Try.prog.underlying 4 = some .bool := by kernel_rfl
end
section
open Go.Conc Go.RowKit Go.Relay Go.ChangeShapes Go.WideShapes Go.ChangeAt Go.Joins Go.Deep
theorem laid_out : laidOutB Try.prog = true := by kernel_rfl
section
variable {H : Type} {enc : TypeId × Value → H} {W w' : World}
theorem Left.stays {r : Value} {t : TypeId} {v : Value} {d : DataW H} {ps : List MemPlace} (K : Left W r w') (hr : Try.prog.readableRec t = true) (hrow : t < Try.prog.types.size) (h : DataW.Trod enc Try.prog W 0 (fun _ => true) true t v d ps) (hlt : ∀ x ∈ ps, x.block < W.heap.size) :
    DataW.Trod enc Try.prog w' 0 (fun b => decide (b < W.heap.size)) true t v d ps :=
  WideElems.Trod_stays laid_out hr hrow h (fun x hx => by
    have hb := K.2.2.2 x.block (hlt x hx)
    cases x with
    | cell b o => exact World.cell?_of_block (w := W) (a := ⟨b, o, none⟩) hb
    | map b => exact hb) (fun x hx => by simpa using hlt x hx)
theorem addr_form {w : World} {a : Addr} {v : Value} (h : w.cell? a = some v) : a = ⟨a.block, a.off, none⟩ := by
  obtain ⟨b, o, s⟩ := a
  cases s with
  | none => rfl
  | some s =>
    unfold World.cell? at h
    split at h
    · simp at h
    · cases h
theorem open_nums {t : TypeId} {base : Nat} {v : Value} {d : DataW H} {ps : List MemPlace} (hu : Try.prog.underlying t = some (.slice 3)) (hval : Value.okWide Try.prog W .any base t v) (h : DataW.Trod enc Try.prog W 0 (fun _ => true) true t v d ps)
    {ts : List TypeId} {ds : List (DataW H)} {j : Nat} (hsz : (DataW.weightsEach Try.prog ts ds).all (· ≤ reachBytes) = true) (ht : ts[j]? = some t) (hd : ds[j]? = some d) :
    ∃ (a : Option Addr) (cap : Nat) (zs : List Int), v = .slice a zs.length cap ∧ zs.length ≤ 17592186044416 ∧ (∀ (i : Nat) (z : Int), zs[i]? = some z → ∃ s so, a = some ⟨s, so, none⟩ ∧ W.cell? ⟨s, so + i, none⟩ = some (.int .i64 z)) ∧ (a = none → zs = [] ∧ cap = 0) := by
  obtain ⟨a, len, cap, rfl⟩ := okWide_slice hu hval
  obtain ⟨fuel, hf⟩ := h
  have hc3 : Try.prog.cellsOf 3 = 1 := by kernel_rfl
  have hb3 : Try.prog.bytesOf 3 = 8 := by kernel_rfl
  rcases open_ints hu und3_is hc3 hf with ⟨e, _⟩ | ⟨a', len', cap', zs, e, _, hl, _, hzl, hx, hcell, _⟩
  · have e : [Value.slice a len cap] = [.slice none 0 0] := e
    injection e with e _
    injection e with e1 e2 e3
    subst e1 e2 e3
    exact ⟨none, 0, [], rfl, Nat.zero_le _, fun i z h => by simp at h, fun _ => ⟨rfl, rfl⟩⟩
  · have e : [Value.slice a len cap] = [.slice (some a') len' cap'] := e
    injection e with e _
    injection e with e1 e2 e3
    subst e1 e2 e3
    have hzl : zs.length = cap := by simpa using hzl
    injection hx with hx _
    subst hx
    have hs := sized_slice hsz ht hd hu
    rw [hb3] at hs
    have hs2 : ((lits .i64 (zs.take len) : List (DataW H)).length + (lits .i64 (zs.drop len) : List (DataW H)).length) = cap := by simp [lits]; omega
    rw [hs2] at hs
    have hr := reachBytes_lt
    have htl : (zs.take len).length = len := by rw [List.length_take]; omega
    refine ⟨some a', cap, zs.take len, by rw [htl], by omega, fun i z hz => ?_, fun e => by cases e⟩
    have hi : i < len := by have := (List.getElem?_eq_some_iff.1 hz).1; omega
    have h0 := hcell 0 (by omega)
    have ha : a'.add 0 = a' := by simp [Addr.add]
    rw [ha] at h0
    have hform := addr_form h0
    have hci := hcell i (by omega)
    rw [hform] at hci
    refine ⟨_, _, congrArg some hform, ?_⟩
    rw [add_none] at hci
    rw [hci]
    have : zs[i]? = some z := by
      rw [List.getElem?_take, if_pos hi] at hz
      exact hz
    rw [List.getD_eq_getElem?_getD, this]
    rfl
end
end
section
open Go.Conc Go.RowKit Go.Relay Go.ChangeShapes Go.WideShapes Go.ChangeAt Go.Joins Go.Deep
theorem und2_is : Try.prog.underlying 2 = some (.int .i64) := by kernel_rfl
noncomputable def flds96 : Array Field := match Try.prog.underlying 96 with | some (.struct fs) => fs | _ => #[]
theorem und96_is : Try.prog.underlying 96 = some (.struct flds96) := by kernel_rfl
theorem flds96_five : ∃ f0 f1 f2 f3 f4, flds96 = #[f0, f1, f2, f3, f4] ∧ f0.type = 3 ∧ f1.type = 3 ∧ f2.type = 3 ∧ f3.type = 3 ∧ f4.type = 2 := by
  have hs : flds96.size = 5 := by kernel_rfl
  have h0 : (flds96[0]?).map (·.type) = some 3 := by kernel_rfl
  have h1 : (flds96[1]?).map (·.type) = some 3 := by kernel_rfl
  have h2 : (flds96[2]?).map (·.type) = some 3 := by kernel_rfl
  have h3 : (flds96[3]?).map (·.type) = some 3 := by kernel_rfl
  have h4 : (flds96[4]?).map (·.type) = some 2 := by kernel_rfl
  generalize flds96 = F at *
  obtain ⟨l⟩ := F
  match l, hs with
  | [f0, f1, f2, f3, f4], _ => exact ⟨f0, f1, f2, f3, f4, rfl, by simpa using h0, by simpa using h1, by simpa using h2, by simpa using h3, by simpa using h4⟩
section
variable {H : Type} {enc : TypeId × Value → H} {W : World} {base : Nat} {spare : Nat → Bool} {held : Bool}
theorem trod_struct5 {P : Program} {t : TypeId} {f0 f1 f2 f3 f4 : Field} {fuel : Nat} {cs : List Value} {x : DataW H × List MemPlace} (ht : P.underlying t = some (.struct #[f0, f1, f2, f3, f4])) (h : DataW.trod enc P W base spare held fuel t cs = some x) :
    ∃ y0 y1 y2 y3 y4 n, cs.length = P.cellsOf t ∧ DataW.trod enc P W base spare held n f0.type ((cs.drop f0.offset).take (P.cellsOf f0.type)) = some y0 ∧
      DataW.trod enc P W base spare held n f1.type ((cs.drop f1.offset).take (P.cellsOf f1.type)) = some y1 ∧ DataW.trod enc P W base spare held n f2.type ((cs.drop f2.offset).take (P.cellsOf f2.type)) = some y2 ∧
      DataW.trod enc P W base spare held n f3.type ((cs.drop f3.offset).take (P.cellsOf f3.type)) = some y3 ∧ DataW.trod enc P W base spare held n f4.type ((cs.drop f4.offset).take (P.cellsOf f4.type)) = some y4 := by
  obtain ⟨xs, n, _, rfl, hl, hlen, hf⟩ := DataW.trod_struct ht h
  match xs, hlen with
  | [y0, y1, y2, y3, y4], _ => exact ⟨y0, y1, y2, y3, y4, n, hl, by simpa using hf 0 f0 rfl, by simpa using hf 1 f1 rfl, by simpa using hf 2 f2 rfl, by simpa using hf 3 f3 rfl, by simpa using hf 4 f4 rfl⟩
theorem weights_all {P : Program} {e : TypeId} : ∀ {elems : List (DataW H)} {d : DataW H}, d ∈ elems → ∀ n ∈ d.weights P e, n ∈ DataW.weightsAll P e elems
  | x :: l, d, hd, n, hn => by
    simp only [DataW.weightsAll, List.mem_append]
    rcases List.mem_cons.1 hd with rfl | h
    · exact .inl hn
    · exact .inr (weights_all h n hn)
theorem open_codes {n : Nat} {v : Value} {x : DataW H × List MemPlace} (hu : Try.prog.underlying 85 = some (.slice 96)) (h : DataW.trod enc Try.prog W base (fun _ => true) held n 85 [v] = some x) (hw : ∀ k ∈ x.1.weights Try.prog 85, k ≤ reachBytes) :
    ∃ (p : Sl) (c : List Cd), v = slc p ∧ p.2.1 = c.length ∧ c.length ≤ 3518437208883 ∧ ∀ (k : Nat) (d : Cd), c[k]? = some d → ∃ cb co, p.1 = some ⟨cb, co, none⟩ ∧ ∀ m v, (cdCells d)[m]? = some v → W.cell? ⟨cb, co + k * 5 + m, none⟩ = some v := by
  have hC : Try.prog.cellsOf 96 = 5 := by kernel_rfl
  have hB : Try.prog.bytesOf 96 = 40 := by kernel_rfl
  obtain ⟨f0, f1, f2, f3, f4, ef, t0, t1, t2, t3, t4⟩ := flds96_five
  have hst : Try.prog.underlying 96 = some (.struct #[f0, f1, f2, f3, f4]) := by rw [und96_is, ef]
  have hone : oneCellFields Try.prog #[f0, f1, f2, f3, f4] = true := by rw [← ef]; kernel_rfl
  rcases open_slice hu h with ⟨e, _⟩ | ⟨a', len', cap', m, n', D, Pl, e, _, hl, _, hm, hx, hel⟩
  · injection e with e _
    exact ⟨(none, 0, 0), [], e, rfl, Nat.zero_le _, fun k d h => by simp at h⟩
  · injection e with e _
    have hm : m = cap' := by simpa using hm
    rw [hx] at hw
    have hs := hw ((((List.range len').map D).length + ((List.range (m - len')).map fun j => D (len' + j)).length) * Try.prog.bytesOf 96) (by simp [DataW.weights, hu])
    rw [hB] at hs
    have hr := reachBytes_lt
    simp only [List.length_map, List.length_range] at hs
    have key : ∀ i, i < len' → ∃ d : Cd, ∀ k v, (cdCells d)[k]? = some v → W.cell? ((a'.add (i * 5)).add k) = some v := fun i hi => by
      obtain ⟨cs', h1, h2⟩ := hel i (by omega)
      rw [hC] at h1
      obtain ⟨_, hlen, hcell⟩ := World.cells?_some h1
      obtain ⟨y0, y1, y2, y3, y4, k, _, u0, u1, u2, u3, u4⟩ := trod_struct5 hst h2
      obtain ⟨o0, k0⟩ := hone_of hone 0 f0 rfl
      obtain ⟨o1, k1⟩ := hone_of hone 1 f1 rfl
      obtain ⟨o2, k2⟩ := hone_of hone 2 f2 rfl
      obtain ⟨o3, k3⟩ := hone_of hone 3 f3 rfl
      obtain ⟨o4, k4⟩ := hone_of hone 4 f4 rfl
      match cs', hlen with
      | [c0, c1, c2, c3, c4], _ =>
        rw [o0, k0, t0] at u0
        rw [o1, k1, t1] at u1
        rw [o2, k2, t2] at u2
        rw [o3, k3, t3] at u3
        rw [o4, k4, t4] at u4
        obtain ⟨z0, e0, _, _⟩ := DataW.trod_int und3_is u0
        obtain ⟨z1, e1, _, _⟩ := DataW.trod_int und3_is u1
        obtain ⟨z2, e2, _, _⟩ := DataW.trod_int und3_is u2
        obtain ⟨z3, e3, _, _⟩ := DataW.trod_int und3_is u3
        obtain ⟨z4, e4, _, _⟩ := DataW.trod_int und2_is u4
        simp at e0 e1 e2 e3 e4
        subst e0 e1 e2 e3 e4
        refine ⟨⟨z0, z1, z2, z3, z4⟩, fun k v hv => ?_⟩
        have hk5 : k < 5 := (List.getElem?_eq_some_iff.1 hv).1
        have hc := hcell k (by simpa using hk5)
        rw [hc]
        exact hv
    have hI : Inhabited Cd := ⟨⟨0, 0, 0, 0, 0⟩⟩
    obtain ⟨f, hf'⟩ := choose_lt (α := Cd) key
    refine ⟨(some a', len', cap'), (List.range len').map f, e, by simp, by simp; omega, fun k d hd => ?_⟩
    have hk : k < len' := by simpa using (List.getElem?_eq_some_iff.1 hd).1
    have hd : f k = d := by simpa [hk] using hd
    have hf := hf' k hk
    rw [hd] at hf
    have h0 := hf' 0 (by omega) 0 _ rfl
    have ha : (a'.add (0 * 5)).add 0 = a' := by simp [Addr.add]
    rw [ha] at h0
    have hform := addr_form h0
    refine ⟨a'.block, a'.off, congrArg some hform, fun m v hv => ?_⟩
    have := hf m v hv
    rw [hform, add_none, add_none] at this
    exact this
theorem open_nums64 {t : TypeId} {base : Nat} {v : Value} {d : DataW H} {ps : List MemPlace} (hu : Try.prog.underlying t = some (.slice 2)) (hval : Value.okWide Try.prog W .any base t v) (h : DataW.Trod enc Try.prog W 0 (fun _ => true) true t v d ps)
    {ts : List TypeId} {ds : List (DataW H)} {j : Nat} (hsz : (DataW.weightsEach Try.prog ts ds).all (· ≤ reachBytes) = true) (ht : ts[j]? = some t) (hd : ds[j]? = some d) :
    ∃ (a : Option Addr) (cap : Nat) (zs : List Int), v = .slice a zs.length cap ∧ zs.length ≤ 17592186044416 ∧ (∀ (i : Nat) (z : Int), zs[i]? = some z → ∃ s so, a = some ⟨s, so, none⟩ ∧ W.cell? ⟨s, so + i, none⟩ = some (.int .i64 z)) ∧ (a = none → zs = [] ∧ cap = 0) := by
  obtain ⟨a, len, cap, rfl⟩ := okWide_slice hu hval
  obtain ⟨fuel, hf⟩ := h
  have hc3 : Try.prog.cellsOf 2 = 1 := by kernel_rfl
  have hb3 : Try.prog.bytesOf 2 = 8 := by kernel_rfl
  rcases open_ints hu und2_is hc3 hf with ⟨e, _⟩ | ⟨a', len', cap', zs, e, _, hl, _, hzl, hx, hcell, _⟩
  · have e : [Value.slice a len cap] = [.slice none 0 0] := e
    injection e with e _
    injection e with e1 e2 e3
    subst e1 e2 e3
    exact ⟨none, 0, [], rfl, Nat.zero_le _, fun i z h => by simp at h, fun _ => ⟨rfl, rfl⟩⟩
  · have e : [Value.slice a len cap] = [.slice (some a') len' cap'] := e
    injection e with e _
    injection e with e1 e2 e3
    subst e1 e2 e3
    have hzl : zs.length = cap := by simpa using hzl
    injection hx with hx _
    subst hx
    have hs := sized_slice hsz ht hd hu
    rw [hb3] at hs
    have hs2 : ((lits .i64 (zs.take len) : List (DataW H)).length + (lits .i64 (zs.drop len) : List (DataW H)).length) = cap := by simp [lits]; omega
    rw [hs2] at hs
    have hr := reachBytes_lt
    have htl : (zs.take len).length = len := by rw [List.length_take]; omega
    refine ⟨some a', cap, zs.take len, by rw [htl], by omega, fun i z hz => ?_, fun e => by cases e⟩
    have hi : i < len := by have := (List.getElem?_eq_some_iff.1 hz).1; omega
    have h0 := hcell 0 (by omega)
    have ha : a'.add 0 = a' := by simp [Addr.add]
    rw [ha] at h0
    have hform := addr_form h0
    have hci := hcell i (by omega)
    rw [hform] at hci
    refine ⟨_, _, congrArg some hform, ?_⟩
    rw [add_none] at hci
    rw [hci]
    have : zs[i]? = some z := by
      rw [List.getElem?_take, if_pos hi] at hz
      exact hz
    rw [List.getD_eq_getElem?_getD, this]
    rfl
theorem open_progs {t : TypeId} {base : Nat} {v : Value} {d : DataW H} {ps : List MemPlace} (hu : Try.prog.underlying t = some (.slice 85)) (hu85 : Try.prog.underlying 85 = some (.slice 96)) (hval : Value.okWide Try.prog W .any base t v) (h : DataW.Trod enc Try.prog W 0 (fun _ => true) true t v d ps)
    {ts : List TypeId} {ds : List (DataW H)} {j : Nat} (hsz : (DataW.weightsEach Try.prog ts ds).all (· ≤ reachBytes) = true) (ht : ts[j]? = some t) (hd : ds[j]? = some d) :
    ∃ (a : Option Addr) (cap : Nat) (l : List Sl) (Ps : List (List Cd)), v = .slice a Ps.length cap ∧ Src a l Ps W ∧ Ps.length ≤ 5864062014805 ∧ ∀ c ∈ Ps, c.length ≤ 3518437208883 := by
  obtain ⟨a, len, cap, rfl⟩ := okWide_slice hu hval
  obtain ⟨fuel, hf⟩ := h
  have hC : Try.prog.cellsOf 85 = 1 := by kernel_rfl
  have hB : Try.prog.bytesOf 85 = 24 := by kernel_rfl
  rcases open_slice1 hu hC hf with ⟨e, _⟩ | ⟨a', len', cap', m, n, V, D, Pl, e, _, hl, _, hm, hx, hel⟩
  · injection e with e _
    injection e with e1 e2 e3
    subst e1 e2 e3
    exact ⟨none, 0, [], [], rfl, ⟨rfl, fun i p h => by simp at h, fun i p c h => by simp at h⟩, Nat.zero_le _, fun c h => by simp at h⟩
  · injection e with e _
    injection e with e1 e2 e3
    subst e1 e2 e3
    have hm : m = cap := by simpa using hm
    injection hx with hx _
    subst hx
    have hs := sized_slice hsz ht hd hu
    rw [hB] at hs
    have hr := reachBytes_lt
    simp only [List.length_map, List.length_range] at hs
    have key : ∀ i, i < len → ∃ q : Sl × List Cd, V i = slc q.1 ∧ q.1.2.1 = q.2.length ∧ q.2.length ≤ 3518437208883 ∧ ∀ (k : Nat) (d : Cd), q.2[k]? = some d → ∃ cb co, q.1.1 = some ⟨cb, co, none⟩ ∧ ∀ m v, (cdCells d)[m]? = some v → W.cell? ⟨cb, co + k * 5 + m, none⟩ = some v := fun i hi => by
      obtain ⟨_, h2⟩ := hel i (by omega)
      obtain ⟨p, c, q1, q2, q3, q4⟩ := open_codes hu85 h2 (fun k hk => by
        have h3 := weights_all (P := Try.prog) (e := 85) (elems := (List.range len).map D) (d := D i) (List.mem_map.2 ⟨i, List.mem_range.2 hi, rfl⟩) k hk
        have h4 := DataW.weights_mem_each (P := Try.prog) ht hd k (by simp [DataW.weights, hu, h3])
        simpa using List.all_eq_true.1 hsz k h4)
      exact ⟨(p, c), q1, q2, q3, q4⟩
    have hI : Inhabited (Sl × List Cd) := ⟨((none, 0, 0), [])⟩
    obtain ⟨f, hf'⟩ := choose_lt (α := Sl × List Cd) key
    have hget : ∀ {α : Type} (g : Nat → α) (i : Nat) (y : α), ((List.range len).map g)[i]? = some y → i < len ∧ g i = y := fun g i y h => by
      have hi : i < len := by simpa using (List.getElem?_eq_some_iff.1 h).1
      exact ⟨hi, by simpa [hi] using h⟩
    refine ⟨some a', cap, (List.range len).map fun i => (f i).1, (List.range len).map fun i => (f i).2, by simp, ⟨by simp, fun i p hp => ?_, fun i p c hp hc => ?_⟩, by simp; omega, fun c hc => ?_⟩
    · obtain ⟨hi, rfl⟩ := hget _ i p hp
      have h0 := (hel 0 (by omega)).1
      have ha : a'.add 0 = a' := by simp [Addr.add]
      rw [ha] at h0
      have hform := addr_form h0
      have hci := (hel i (by omega)).1
      rw [(hf' i hi).1] at hci
      refine ⟨_, _, congrArg some hform, ?_⟩
      rw [hform, add_none] at hci
      exact hci
    · obtain ⟨hi, rfl⟩ := hget _ i p hp
      obtain ⟨_, rfl⟩ := hget _ i c hc
      obtain ⟨_, q2, _, q4⟩ := hf' i hi
      exact ⟨q2, q4⟩
    · obtain ⟨i, hi, rfl⟩ := List.mem_map.1 hc
      exact (hf' i (List.mem_range.1 hi)).2.2.1
end
end
theorem Src.take {pa : Option Addr} {l : List Sl} {Ps : List (List Cd)} {w : World} (S : Src pa l Ps w) {i : Nat} (hi : i < (Ps.take 64).length) : ∃ pb po, pa = some ⟨pb, po, none⟩ ∧ w.cell? ⟨pb, po + i, none⟩ = some (.slice (l.getD i (none, 0, 0)).1 ((Ps.take 64).getD i []).length (l.getD i (none, 0, 0)).2.2) ∧ CodesIn (l.getD i (none, 0, 0)).1 ((Ps.take 64).getD i []) w ∧ (Ps.take 64).getD i [] ∈ Ps := by
  have hi2 : i < Ps.length := by rw [List.length_take] at hi; omega
  have hil : i < l.length := by rw [S.len]; exact hi2
  have hp := List.getElem?_eq_getElem hil
  have hc := List.getElem?_eq_getElem hi2
  have e1 : l.getD i (none, 0, 0) = l[i] := by rw [List.getD_eq_getElem?_getD, hp]; rfl
  have e2 : (Ps.take 64).getD i [] = Ps[i] := by
    have : i < 64 := by rw [List.length_take] at hi; omega
    rw [List.getD_eq_getElem?_getD, List.getElem?_take, if_pos this, hc]; rfl
  obtain ⟨pb, po, e, hcell⟩ := S.at_ i _ hp
  obtain ⟨h1, h2⟩ := S.codes i _ _ hp hc
  rw [e1, e2]
  refine ⟨pb, po, e, ?_, fun k d hd => h2 k d hd, List.getElem_mem hi2⟩
  rw [← h1]
  exact hcell
section
noncomputable def reg4_0 : Array Oper := match Try.f4.body with | some (.seq (.region _ ops _) _) => ops | _ => #[]
theorem size4_0 : reg4_0.size = 1 := by kernel_rfl
noncomputable def reg4_1 : Array Oper := match Try.f4.body with | some (.seq _ (.seq (.seq (.region _ ops _) _) _)) => ops | _ => #[]
theorem size4_1 : reg4_1.size = 2 := by kernel_rfl
noncomputable def reg4_2 : Array Oper := match Try.f4.body with | some (.seq _ (.seq (.seq _ (.cond _ (.seq (.region _ ops _) _) _)) _)) => ops | _ => #[]
theorem size4_2 : reg4_2.size = 1 := by kernel_rfl
noncomputable def reg4_3 : Array Oper := match Try.f4.body with | some (.seq _ (.seq _ (.seq (.region _ ops _) _))) => ops | _ => #[]
theorem size4_3 : reg4_3.size = 3 := by kernel_rfl
noncomputable def reg4_4 : Array Oper := match Try.f4.body with | some (.seq _ (.seq _ (.seq _ (.seq (.region _ ops _) _)))) => ops | _ => #[]
theorem size4_4 : reg4_4.size = 6 := by kernel_rfl
noncomputable def reg4_5 : Array Oper := match Try.f4.body with | some (.seq _ (.seq _ (.seq _ (.seq _ (.seq (.region _ ops _) _))))) => ops | _ => #[]
theorem size4_5 : reg4_5.size = 6 := by kernel_rfl
noncomputable def reg4_6 : Array Oper := match Try.f4.body with | some (.seq _ (.seq _ (.seq _ (.seq _ (.seq _ (.seq (.region _ ops _) _)))))) => ops | _ => #[]
theorem size4_6 : reg4_6.size = 6 := by kernel_rfl
noncomputable def reg4_7 : Array Oper := match Try.f4.body with | some (.seq _ (.seq _ (.seq _ (.seq _ (.seq _ (.seq _ (.seq (.seq (.region _ ops _) _) _))))))) => ops | _ => #[]
theorem size4_7 : reg4_7.size = 1 := by kernel_rfl
noncomputable def reg4_8 : Array Oper := match Try.f4.body with | some (.seq _ (.seq _ (.seq _ (.seq _ (.seq _ (.seq _ (.seq (.seq _ (.block _ (.loop (.seq (.seq (.region _ ops _) _) _)))) _))))))) => ops | _ => #[]
theorem size4_8 : reg4_8.size = 5 := by kernel_rfl
noncomputable def reg4_10 : Array Oper := match Try.f4.body with | some (.seq _ (.seq _ (.seq _ (.seq _ (.seq _ (.seq _ (.seq (.seq _ (.block _ (.loop (.seq _ (.seq (.block _ (.seq (.seq (.region _ ops _) _) _)) _))))) _))))))) => ops | _ => #[]
theorem size4_10 : reg4_10.size = 1 := by kernel_rfl
noncomputable def reg4_11 : Array Oper := match Try.f4.body with | some (.seq _ (.seq _ (.seq _ (.seq _ (.seq _ (.seq _ (.seq (.seq _ (.block _ (.loop (.seq _ (.seq (.block _ (.seq (.seq _ (.block _ (.loop (.seq (.seq (.region _ ops _) _) _)))) _)) _))))) _))))))) => ops | _ => #[]
theorem size4_11 : reg4_11.size = 8 := by kernel_rfl
noncomputable def reg4_13 : Array Oper := match Try.f4.body with | some (.seq _ (.seq _ (.seq _ (.seq _ (.seq _ (.seq _ (.seq (.seq _ (.block _ (.loop (.seq _ (.seq (.block _ (.seq (.seq _ (.block _ (.loop (.seq _ (.seq (.block _ (.region _ ops _)) _))))) _)) _))))) _))))))) => ops | _ => #[]
theorem size4_13 : reg4_13.size = 9 := by kernel_rfl
noncomputable def reg4_12 : Array Oper := match Try.f4.body with | some (.seq _ (.seq _ (.seq _ (.seq _ (.seq _ (.seq _ (.seq (.seq _ (.block _ (.loop (.seq _ (.seq (.block _ (.seq (.seq _ (.block _ (.loop (.seq _ (.seq _ (.region _ ops _)))))) _)) _))))) _))))))) => ops | _ => #[]
theorem size4_12 : reg4_12.size = 3 := by kernel_rfl
noncomputable def reg4_14 : Array Oper := match Try.f4.body with | some (.seq _ (.seq _ (.seq _ (.seq _ (.seq _ (.seq _ (.seq (.seq _ (.block _ (.loop (.seq _ (.seq (.block _ (.seq _ (.region _ ops _))) _))))) _))))))) => ops | _ => #[]
theorem size4_14 : reg4_14.size = 14 := by kernel_rfl
noncomputable def reg4_9 : Array Oper := match Try.f4.body with | some (.seq _ (.seq _ (.seq _ (.seq _ (.seq _ (.seq _ (.seq (.seq _ (.block _ (.loop (.seq _ (.seq _ (.region _ ops _)))))) _))))))) => ops | _ => #[]
theorem size4_9 : reg4_9.size = 3 := by kernel_rfl
noncomputable def reg4_15 : Array Oper := match Try.f4.body with | some (.seq _ (.seq _ (.seq _ (.seq _ (.seq _ (.seq _ (.seq _ (.seq (.seq (.region _ ops _) _) _)))))))) => ops | _ => #[]
theorem size4_15 : reg4_15.size = 1 := by kernel_rfl
noncomputable def reg4_16 : Array Oper := match Try.f4.body with | some (.seq _ (.seq _ (.seq _ (.seq _ (.seq _ (.seq _ (.seq _ (.seq (.seq _ (.block _ (.loop (.seq (.seq (.region _ ops _) _) _)))) _)))))))) => ops | _ => #[]
theorem size4_16 : reg4_16.size = 5 := by kernel_rfl
noncomputable def reg4_18 : Array Oper := match Try.f4.body with | some (.seq _ (.seq _ (.seq _ (.seq _ (.seq _ (.seq _ (.seq _ (.seq (.seq _ (.block _ (.loop (.seq _ (.seq (.block _ (.region _ ops _)) _))))) _)))))))) => ops | _ => #[]
theorem size4_18 : reg4_18.size = 5 := by kernel_rfl
noncomputable def reg4_17 : Array Oper := match Try.f4.body with | some (.seq _ (.seq _ (.seq _ (.seq _ (.seq _ (.seq _ (.seq _ (.seq (.seq _ (.block _ (.loop (.seq _ (.seq _ (.region _ ops _)))))) _)))))))) => ops | _ => #[]
theorem size4_17 : reg4_17.size = 3 := by kernel_rfl
noncomputable def reg4_19 : Array Oper := match Try.f4.body with | some (.seq _ (.seq _ (.seq _ (.seq _ (.seq _ (.seq _ (.seq _ (.seq _ (.seq (.seq (.region _ ops _) _) _))))))))) => ops | _ => #[]
theorem size4_19 : reg4_19.size = 1 := by kernel_rfl
noncomputable def reg4_20 : Array Oper := match Try.f4.body with | some (.seq _ (.seq _ (.seq _ (.seq _ (.seq _ (.seq _ (.seq _ (.seq _ (.seq (.seq _ (.block _ (.loop (.seq (.seq (.region _ ops _) _) _)))) _))))))))) => ops | _ => #[]
theorem size4_20 : reg4_20.size = 5 := by kernel_rfl
noncomputable def reg4_22 : Array Oper := match Try.f4.body with | some (.seq _ (.seq _ (.seq _ (.seq _ (.seq _ (.seq _ (.seq _ (.seq _ (.seq (.seq _ (.block _ (.loop (.seq _ (.seq (.block _ (.region _ ops _)) _))))) _))))))))) => ops | _ => #[]
theorem size4_22 : reg4_22.size = 5 := by kernel_rfl
noncomputable def reg4_21 : Array Oper := match Try.f4.body with | some (.seq _ (.seq _ (.seq _ (.seq _ (.seq _ (.seq _ (.seq _ (.seq _ (.seq (.seq _ (.block _ (.loop (.seq _ (.seq _ (.region _ ops _)))))) _))))))))) => ops | _ => #[]
theorem size4_21 : reg4_21.size = 3 := by kernel_rfl
noncomputable def reg4_23 : Array Oper := match Try.f4.body with | some (.seq _ (.seq _ (.seq _ (.seq _ (.seq _ (.seq _ (.seq _ (.seq _ (.seq _ (.seq (.region _ ops _) _)))))))))) => ops | _ => #[]
theorem size4_23 : reg4_23.size = 4 := by kernel_rfl
theorem code4_is : Try.f4.body = some (.seq (.region 0 reg4_0 false) (.seq (.seq (.region 1 reg4_1 false) (.cond (.tmp 16 ) (.seq (.region 2 reg4_2 false) (.ret)) (.skip))) (.seq (.region 3 reg4_3 false) (.seq (.region 4 reg4_4 false) (.seq (.region 5 reg4_5 false) (.seq (.region 6 reg4_6 false) (.seq (.seq (.region 7 reg4_7 false) (.block 0 (.loop (.seq (.seq (.region 8 reg4_8 false) (.cond (.tmp 35 ) (.skip) (.exit 0))) (.seq (.block 1 (.seq (.seq (.region 10 reg4_10 false) (.block 2 (.loop (.seq (.seq (.region 11 reg4_11 false) (.cond (.tmp 45 ) (.skip) (.exit 2))) (.seq (.block 3 (.region 13 reg4_13 false)) (.region 12 reg4_12 false)))))) (.region 14 reg4_14 true))) (.region 9 reg4_9 false)))))) (.seq (.seq (.region 15 reg4_15 false) (.block 4 (.loop (.seq (.seq (.region 16 reg4_16 false) (.cond (.tmp 73 ) (.skip) (.exit 4))) (.seq (.block 5 (.region 18 reg4_18 false)) (.region 17 reg4_17 false)))))) (.seq (.seq (.region 19 reg4_19 false) (.block 6 (.loop (.seq (.seq (.region 20 reg4_20 false) (.cond (.tmp 84 ) (.skip) (.exit 6))) (.seq (.block 7 (.region 22 reg4_22 false)) (.region 21 reg4_21 false)))))) (.seq (.region 23 reg4_23 false) (.ret))))))))))) := by kernel_rfl
noncomputable def hd4a (wv pv sv lv : Value) (A B C i : Nat) (u : Nat → Value) : Frame :=
  (base 4).at { tmps := #[wv, pv, sv, u 3, u 4, u 5, .bool false, lv, .pointer (some ⟨A, 0, none⟩), .pointer (some ⟨B, 0, none⟩), .pointer (some ⟨C, 0, none⟩), .int .i64 i, u 12, u 13, u 14, u 15, u 16, u 17, u 18, u 19, u 20, u 21, u 22, u 23, u 24, u 25, u 26, u 27, u 28, u 29, u 30, u 31, u 32, u 33, u 34, u 35, u 36, u 37, u 38, u 39, u 40, u 41, u 42, u 43, u 44, u 45, u 46, u 47, u 48, u 49, u 50, u 51, u 52, u 53, u 54, u 55, u 56, u 57, u 58, u 59, u 60, u 61, u 62, u 63, u 64, u 65, u 66, u 67, u 68, u 69, u 70, u 71, u 72, u 73, u 74, u 75, u 76, u 77, u 78, u 79, u 80, u 81, u 82, u 83, u 84, u 85, u 86, u 87, u 88, u 89, u 90, u 91, u 92, u 93], defers := [] } [.code (.seq (.seq (.region 8 reg4_8 false) (.cond (.tmp 35 ) (.skip) (.exit 0))) (.seq (.block 1 (.seq (.seq (.region 10 reg4_10 false) (.block 2 (.loop (.seq (.seq (.region 11 reg4_11 false) (.cond (.tmp 45 ) (.skip) (.exit 2))) (.seq (.block 3 (.region 13 reg4_13 false)) (.region 12 reg4_12 false)))))) (.region 14 reg4_14 true))) (.region 9 reg4_9 false))), .inLoop (.seq (.seq (.region 8 reg4_8 false) (.cond (.tmp 35 ) (.skip) (.exit 0))) (.seq (.block 1 (.seq (.seq (.region 10 reg4_10 false) (.block 2 (.loop (.seq (.seq (.region 11 reg4_11 false) (.cond (.tmp 45 ) (.skip) (.exit 2))) (.seq (.block 3 (.region 13 reg4_13 false)) (.region 12 reg4_12 false)))))) (.region 14 reg4_14 true))) (.region 9 reg4_9 false))), .inBlock 0, .code (.seq (.seq (.region 15 reg4_15 false) (.block 4 (.loop (.seq (.seq (.region 16 reg4_16 false) (.cond (.tmp 73 ) (.skip) (.exit 4))) (.seq (.block 5 (.region 18 reg4_18 false)) (.region 17 reg4_17 false)))))) (.seq (.seq (.region 19 reg4_19 false) (.block 6 (.loop (.seq (.seq (.region 20 reg4_20 false) (.cond (.tmp 84 ) (.skip) (.exit 6))) (.seq (.block 7 (.region 22 reg4_22 false)) (.region 21 reg4_21 false)))))) (.seq (.region 23 reg4_23 false) (.ret))))]
noncomputable def hd4k (wv pv sv lv : Value) (A B C i k : Nat) (u : Nat → Value) : Frame :=
  (base 4).at { tmps := #[wv, pv, sv, u 3, u 4, u 5, .bool false, lv, .pointer (some ⟨A, 0, none⟩), .pointer (some ⟨B, 0, none⟩), .pointer (some ⟨C, 0, none⟩), .int .i64 i, .int .i64 k, u 13, u 14, u 15, u 16, u 17, u 18, u 19, u 20, u 21, u 22, u 23, u 24, u 25, u 26, u 27, u 28, u 29, u 30, u 31, u 32, u 33, u 34, u 35, u 36, u 37, u 38, u 39, u 40, u 41, u 42, u 43, u 44, u 45, u 46, u 47, u 48, u 49, u 50, u 51, u 52, u 53, u 54, u 55, u 56, u 57, u 58, u 59, u 60, u 61, u 62, u 63, u 64, u 65, u 66, u 67, u 68, u 69, u 70, u 71, u 72, u 73, u 74, u 75, u 76, u 77, u 78, u 79, u 80, u 81, u 82, u 83, u 84, u 85, u 86, u 87, u 88, u 89, u 90, u 91, u 92, u 93], defers := [] } [.code (.seq (.seq (.region 11 reg4_11 false) (.cond (.tmp 45 ) (.skip) (.exit 2))) (.seq (.block 3 (.region 13 reg4_13 false)) (.region 12 reg4_12 false))), .inLoop (.seq (.seq (.region 11 reg4_11 false) (.cond (.tmp 45 ) (.skip) (.exit 2))) (.seq (.block 3 (.region 13 reg4_13 false)) (.region 12 reg4_12 false))), .inBlock 2, .code (.region 14 reg4_14 true), .inBlock 1, .code (.region 9 reg4_9 false), .inLoop (.seq (.seq (.region 8 reg4_8 false) (.cond (.tmp 35 ) (.skip) (.exit 0))) (.seq (.block 1 (.seq (.seq (.region 10 reg4_10 false) (.block 2 (.loop (.seq (.seq (.region 11 reg4_11 false) (.cond (.tmp 45 ) (.skip) (.exit 2))) (.seq (.block 3 (.region 13 reg4_13 false)) (.region 12 reg4_12 false)))))) (.region 14 reg4_14 true))) (.region 9 reg4_9 false))), .inBlock 0, .code (.seq (.seq (.region 15 reg4_15 false) (.block 4 (.loop (.seq (.seq (.region 16 reg4_16 false) (.cond (.tmp 73 ) (.skip) (.exit 4))) (.seq (.block 5 (.region 18 reg4_18 false)) (.region 17 reg4_17 false)))))) (.seq (.seq (.region 19 reg4_19 false) (.block 6 (.loop (.seq (.seq (.region 20 reg4_20 false) (.cond (.tmp 84 ) (.skip) (.exit 6))) (.seq (.block 7 (.region 22 reg4_22 false)) (.region 21 reg4_21 false)))))) (.seq (.region 23 reg4_23 false) (.ret))))]
noncomputable def hd4o (wv pv sv lv : Value) (A B C i : Nat) (u : Nat → Value) : Frame :=
  (base 4).at { tmps := #[wv, pv, sv, u 3, u 4, u 5, .bool false, lv, .pointer (some ⟨A, 0, none⟩), .pointer (some ⟨B, 0, none⟩), .pointer (some ⟨C, 0, none⟩), u 11, u 12, .int .i64 i, u 14, u 15, u 16, u 17, u 18, u 19, u 20, u 21, u 22, u 23, u 24, u 25, u 26, u 27, u 28, u 29, u 30, u 31, u 32, u 33, u 34, u 35, u 36, u 37, u 38, u 39, u 40, u 41, u 42, u 43, u 44, u 45, u 46, u 47, u 48, u 49, u 50, u 51, u 52, u 53, u 54, u 55, u 56, u 57, u 58, u 59, u 60, u 61, u 62, u 63, u 64, u 65, u 66, u 67, u 68, u 69, u 70, u 71, u 72, u 73, u 74, u 75, u 76, u 77, u 78, u 79, u 80, u 81, u 82, u 83, u 84, u 85, u 86, u 87, u 88, u 89, u 90, u 91, u 92, u 93], defers := [] } [.code (.seq (.seq (.region 16 reg4_16 false) (.cond (.tmp 73 ) (.skip) (.exit 4))) (.seq (.block 5 (.region 18 reg4_18 false)) (.region 17 reg4_17 false))), .inLoop (.seq (.seq (.region 16 reg4_16 false) (.cond (.tmp 73 ) (.skip) (.exit 4))) (.seq (.block 5 (.region 18 reg4_18 false)) (.region 17 reg4_17 false))), .inBlock 4, .code (.seq (.seq (.region 19 reg4_19 false) (.block 6 (.loop (.seq (.seq (.region 20 reg4_20 false) (.cond (.tmp 84 ) (.skip) (.exit 6))) (.seq (.block 7 (.region 22 reg4_22 false)) (.region 21 reg4_21 false)))))) (.seq (.region 23 reg4_23 false) (.ret)))]
noncomputable def hd4s (wv pv sv lv : Value) (A B C i : Nat) (u : Nat → Value) : Frame :=
  (base 4).at { tmps := #[wv, pv, sv, u 3, u 4, u 5, .bool false, lv, .pointer (some ⟨A, 0, none⟩), .pointer (some ⟨B, 0, none⟩), .pointer (some ⟨C, 0, none⟩), u 11, u 12, u 13, .int .i64 i, u 15, u 16, u 17, u 18, u 19, u 20, u 21, u 22, u 23, u 24, u 25, u 26, u 27, u 28, u 29, u 30, u 31, u 32, u 33, u 34, u 35, u 36, u 37, u 38, u 39, u 40, u 41, u 42, u 43, u 44, u 45, u 46, u 47, u 48, u 49, u 50, u 51, u 52, u 53, u 54, u 55, u 56, u 57, u 58, u 59, u 60, u 61, u 62, u 63, u 64, u 65, u 66, u 67, u 68, u 69, u 70, u 71, u 72, u 73, u 74, u 75, u 76, u 77, u 78, u 79, u 80, u 81, u 82, u 83, u 84, u 85, u 86, u 87, u 88, u 89, u 90, u 91, u 92, u 93], defers := [] } [.code (.seq (.seq (.region 20 reg4_20 false) (.cond (.tmp 84 ) (.skip) (.exit 6))) (.seq (.block 7 (.region 22 reg4_22 false)) (.region 21 reg4_21 false))), .inLoop (.seq (.seq (.region 20 reg4_20 false) (.cond (.tmp 84 ) (.skip) (.exit 6))) (.seq (.block 7 (.region 22 reg4_22 false)) (.region 21 reg4_21 false))), .inBlock 6, .code (.seq (.region 23 reg4_23 false) (.ret))]
variable {main : Bool}
def mark77 : Array Value := #[.bool false, .int .i64 (-77), .slice none 0 0]
def two78 : List Value := [.bool false, .int .i64 (-78), .slice none 0 0, .bool false, .int .i64 0, .slice none 0 0]
theorem keeps_in (wv pv sv lv : Value) (A B C i n ac : Nat) (aa : Option Addr) (u : Nat → Value) (cs : List Frame) (w : World) (hi : i < n) (h0 : w.cell? ⟨A, 0, none⟩ = some (.slice aa n ac)) :
    Walk Try.prog main (DR (fun _ => none)) (fun g w' => (∃ u', g = G (hd4k wv pv sv lv A B C i 0 u') cs) ∧ ∃ d, w' = w.at d) (G (hd4a wv pv sv lv A B C i u) cs) w := by
  conv => arg 5; unfold hd4a
  repeat (first | refine Walk.c rfl ?_ | refine Walk.cRet ?_ | refine Walk.cEnd ?_ | (refine Walk.cReg ?_; simp only [size4_0, size4_1, size4_2, size4_3, size4_4, size4_5, size4_6, size4_7, size4_8, size4_10, size4_11, size4_13, size4_12, size4_14, size4_9, size4_15, size4_16, size4_18, size4_17, size4_19, size4_20, size4_22, size4_21, size4_23, List.range, List.range.loop]) | (refine Walk.oq ?_; try walk_nrm) | (refine Walk.un ?_; walk_nrm))
  refine Walk.ctl rfl (fun w => stepG_loop) ?_
  refine .stop fun d => ⟨at_slots ?_, d, rfl⟩
  simp only [hd4k]
  rfl
theorem keeps_out (wv pv sv lv : Value) (A B C n ac : Nat) (aa : Option Addr) (u : Nat → Value) (cs : List Frame) (w : World) (h0 : w.cell? ⟨A, 0, none⟩ = some (.slice aa n ac)) :
    Walk Try.prog main (DR (fun _ => none)) (fun g w' => (∃ u', g = G (hd4o wv pv sv lv A B C 0 u') cs) ∧ ∃ d, w' = w.at d) (G (hd4a wv pv sv lv A B C n u) cs) w := by
  conv => arg 5; unfold hd4a
  repeat (first | refine Walk.c rfl ?_ | refine Walk.cRet ?_ | refine Walk.cEnd ?_ | (refine Walk.cReg ?_; simp only [size4_0, size4_1, size4_2, size4_3, size4_4, size4_5, size4_6, size4_7, size4_8, size4_10, size4_11, size4_13, size4_12, size4_14, size4_9, size4_15, size4_16, size4_18, size4_17, size4_19, size4_20, size4_22, size4_21, size4_23, List.range, List.range.loop]) | (refine Walk.oq ?_; try walk_nrm) | (refine Walk.un ?_; walk_nrm))
  refine Walk.ctl rfl (fun w => stepG_loop) ?_
  refine .stop fun d => ⟨at_slots ?_, d, rfl⟩
  simp only [hd4o]
  rfl
theorem keeps_k (wv pv sv lv : Value) (A B C i k n ac ab g tn tc : Nat) (cur : Array Value) (u : Nat → Value) (cs : List Frame) (w : World) (hi : i < n) (hk : k < tn) (htn : tn ≤ 1099511627776) (h0 : w.cell? ⟨A, 0, none⟩ = some (.slice (some ⟨ab, 0, none⟩) n ac)) (h1 : w.cell? ⟨ab, i, none⟩ = some (.slice (some ⟨g, 0, none⟩) tn tc)) (hg : w.heap[g]? = some (.cells cur 38 (0, 0))) (hl : k * 3 + 3 ≤ cur.size) :
    Walk Try.prog main (DR (fun _ => none)) (fun g' w' => (∃ u', g' = G (hd4k wv pv sv lv A B C i (k + 1) u') cs) ∧ ∃ d, w' = (w.setCells g (k * 3) mark77.toList).at d) (G (hd4k wv pv sv lv A B C i k u) cs) w := by
  have hw1 : IntKind.wrap .i64 ((k : Int) + 1) = (k : Int) + 1 := by rw [IntKind.wrap_i64]; omega
  conv => arg 5; unfold hd4k
  repeat (first | refine Walk.c rfl ?_ | refine Walk.cRet ?_ | refine Walk.cEnd ?_ | (refine Walk.cReg ?_; simp only [size4_0, size4_1, size4_2, size4_3, size4_4, size4_5, size4_6, size4_7, size4_8, size4_10, size4_11, size4_13, size4_12, size4_14, size4_9, size4_15, size4_16, size4_18, size4_17, size4_19, size4_20, size4_22, size4_21, size4_23, List.range, List.range.loop]) | (refine Walk.oq ?_; try walk_nrm) | (refine Walk.un ?_; walk_nrm))
  refine Walk.storeM 38 (.tmp 55) (.tmp 54) (ho_of (by conv => lhs; whnf) (by kernel_rfl)) (by rfl) (by decide) rfl g (k * 3) mark77 cur 38 rfl rfl hg (by kernel_rfl) hl (by simp [mark77, Value.oneCell']) (apart0 g) ?_
  generalize hw2 : w.setCells g (k * 3) mark77.toList = w2 at *
  walk_nrm
  clear h0 h1 hg hl
  repeat (first | refine Walk.c rfl ?_ | refine Walk.cRet ?_ | refine Walk.cEnd ?_ | (refine Walk.cReg ?_; simp only [size4_0, size4_1, size4_2, size4_3, size4_4, size4_5, size4_6, size4_7, size4_8, size4_10, size4_11, size4_13, size4_12, size4_14, size4_9, size4_15, size4_16, size4_18, size4_17, size4_19, size4_20, size4_22, size4_21, size4_23, List.range, List.range.loop]) | (refine Walk.oq ?_; try walk_nrm) | (refine Walk.un ?_; walk_nrm))
  refine Walk.ctl rfl (fun w => stepG_inLoop) ?_
  refine .stop fun d' => ⟨at_slots ?_, d', rfl⟩
  have hc : ((k + 1 : Nat) : Int) = (k : Int) + 1 := by simp
  simp only [hd4k, hc]
  rfl
theorem keeps_kout (wv pv sv lv : Value) (A B C i n ac ab tn tc base : Nat) (ta : Option Addr) (xs : List Value) (u : Nat → Value) (cs : List Frame) (w : World) (hi : i < n) (hn : n ≤ 64) (htn : tn ≤ 1099511627776) (h0 : w.cell? ⟨A, 0, none⟩ = some (.slice (some ⟨ab, 0, none⟩) n ac)) (h1 : w.cell? ⟨ab, i, none⟩ = some (.slice ta tn tc)) (hz1 : w.frozen? ⟨ab, i, none⟩ = false) (hrow : w.ownsRow base 38 3 (.slice ta tn tc) tn xs) (hbase : base ≤ w.heap.size) (hoA : (Value.slice ta tn tc).ownBlock ≠ some A) (hoB : (Value.slice ta tn tc).ownBlock ≠ some ab) :
    Walk Try.prog main (DR (fun _ => none)) (fun g' w' => ∃ g cap w3, (∃ u', g' = G (hd4a wv pv sv lv A B C (i + 1) u') cs) ∧ (∃ d, w' = (w3.setCell ⟨ab, i, none⟩ (.slice (some ⟨g, 0, none⟩) (tn + 2) cap)).at d) ∧ w3.ownsRow base 38 3 (.slice (some ⟨g, 0, none⟩) (tn + 2) cap) (tn + 2) (xs ++ two78) ∧ (w.alloc (.cells two78.toArray 38)).grownBy w3 (Value.slice ta tn tc).ownBlock ∧ ((Value.slice ta tn tc).ownBlock = some g ∨ g = (w.alloc (.cells two78.toArray 38)).heap.size))
      (G (hd4k wv pv sv lv A B C i tn u) cs) w := by
  have hw1 : IntKind.wrap .i64 ((i : Int) + 1) = (i : Int) + 1 := by rw [IntKind.wrap_i64]; omega
  have hO1 := old_alloc w (.cells two78.toArray 38)
  have hsz1 : (w.alloc (.cells two78.toArray 38)).heap.size = w.heap.size + 1 := by simp
  have hrow' : (w.alloc (.cells two78.toArray 38)).ownsRow base 38 3 (.slice ta tn tc) tn xs := row_same hrow fun g hg => hO1.same g (hrow.lt g hg).2
  have hnews : ∀ (j : Nat) (u : Value), two78[j]? = some u → (w.alloc (.cells two78.toArray 38)).cell? ((⟨w.heap.size, 0, none⟩ : Addr).add j) = some u := fun j u hu => by
    rw [add_none, Nat.zero_add]
    refine (cell_of (heap_alloc_new _ _) j).trans ?_
    simpa using hu
  have hfar : ∀ (b : Nat) (w2 : World), b < w.heap.size → (Value.slice ta tn tc).ownBlock ≠ some b → (w.alloc (.cells two78.toArray 38)).grownBy w2 (Value.slice ta tn tc).ownBlock → w2.heap[b]? = w.heap[b]? := fun b w2 hb hne hg => (hg.block b (by omega) (fun e => hne e.symm)).trans (hO1.same b hb)
  have lA := cell_lt w h0
  have lB := cell_lt w h1
  conv => arg 5; unfold hd4k
  repeat (first | refine Walk.c rfl ?_ | refine Walk.cRet ?_ | refine Walk.cEnd ?_ | (refine Walk.cReg ?_; simp only [size4_0, size4_1, size4_2, size4_3, size4_4, size4_5, size4_6, size4_7, size4_8, size4_10, size4_11, size4_13, size4_12, size4_14, size4_9, size4_15, size4_16, size4_18, size4_17, size4_19, size4_20, size4_22, size4_21, size4_23, List.range, List.range.loop]) | (refine Walk.oq ?_; try walk_nrm) | (refine Walk.un ?_; walk_nrm))
  refine Walk.drawnT (iA := 10) (iB := 11) (w1 := w.alloc (.cells two78.toArray 38)) (vA := .slice (some ⟨w.heap.size, 0, none⟩) 2 2) (Z := fun x => x.cell? ⟨A, 0, none⟩ = some (.slice (some ⟨ab, 0, none⟩) n ac) ∧ x.cell? ⟨ab, i, none⟩ = some (.slice ta tn tc))
    (fun v w2 => ∃ g cap, v = .slice (some ⟨g, 0, none⟩) (tn + 2) cap ∧ w2.ownsRow base 38 3 (.slice (some ⟨g, 0, none⟩) (tn + 2) cap) (tn + 2) (xs ++ two78) ∧ (w.alloc (.cells two78.toArray 38)).grownBy w2 (Value.slice ta tn tc).ownBlock ∧ ((Value.slice ta tn tc).ownBlock = some g ∨ g = (w.alloc (.cells two78.toArray 38)).heap.size)) (by kernel_rfl) size4_14 (by kernel_rfl) (by kernel_rfl) (by kernel_rfl) (by kernel_rfl) (by decide) (ho_of (by conv => lhs; whnf) (by kernel_rfl)) (ho_of (by conv => lhs; whnf) (by kernel_rfl)) ⟨h0, h1⟩ ⟨old_cell hO1 h0, old_cell hO1 h1⟩ ?_ ?_
  · rintro v w2 ⟨g, cap, _, _, hg, _⟩
    exact ⟨(World.cell?_of_block (a := ⟨A, 0, none⟩) (hfar A w2 lA hoA hg)).trans h0, (World.cell?_of_block (a := ⟨ab, i, none⟩) (hfar ab w2 lB hoB hg)).trans h1⟩
  rw [show List.filter (quietQ 10 11) (List.range 13) = [0, 1, 2, 3, 4, 5, 6, 7, 8, 9, 12] from by decide]
  repeat (first | (refine Cm.opqZ (ho_of (by conv => lhs; whnf) (by kernel_rfl)) (by rfl) (fun wz hz dd e he => ?_) ?_; (· (obtain ⟨z1, z2⟩ := hz; simp [go_sem, *] at he; try (subst he; exact evR_read _ _))); apply Exists.intro; apply And.intro; (· (intro wz hz dd K hK; obtain ⟨z1, z2⟩ := hz; go_simp; exact hK))) | (refine Cm.unw (ho_of (by conv => lhs; whnf) (by kernel_rfl)) (by rfl) ?_; walk_nrm))
  refine Cm.done ⟨?_, ?_, ?_⟩
  · intro x hev rest hr'
    have e64 : x.eval (.tmp 64) = .agg #[.bool false, .int .i64 (-78), .slice none 0 0] := (hev (.tmp 64) (by simp [Op.operands])).trans rfl
    have e65 : x.eval (.tmp 65) = .agg #[.bool false, .int .i64 0, .slice none 0 0] := (hev (.tmp 65) (by simp [Op.operands])).trans rfl
    have e64' : x.tmps[64]?.getD undef = .agg #[.bool false, .int .i64 (-78), .slice none 0 0] := by
      rw [← Array.getD_eq_getD_getElem?]
      exact e64
    have e65' : x.tmps[65]?.getD undef = .agg #[.bool false, .int .i64 0, .slice none 0 0] := by
      rw [← Array.getD_eq_getD_getElem?]
      exact e65
    clear e64 e65 hev
    unfold two78 at hr'
    (refine Walk.oa ?_; try walk_nrm)
    exact hr' _ _ ⟨rfl, _, rfl⟩
  · intro x hev rest hr'
    have e63 : x.eval (.tmp 63) = .slice ta tn tc := (hev (.tmp 63) (by simp [Op.operands, Call.operands])).trans rfl
    have e66 : x.eval (.tmp 66) = .slice (some ⟨w.heap.size, 0, none⟩) 2 2 := (hev (.tmp 66) (by simp [Op.operands, Call.operands])).trans rfl
    have hi38 := Option.some_get (show (Try.prog.info? 38).isSome = true by kernel_rfl)
    refine Walk.append (.tmp 63) (.tmp 66) 36 (ho_of (by conv => lhs; whnf) (by kernel_rfl)) (by rfl) (by decide) rfl base 38 _ (.agg #[.bool false, .int .i64 0, .slice none 0 0]) 3 40 (by kernel_rfl) hi38.symm (by rfl) (by rfl) (by rfl) (by rfl) (by decide) (.slice ta tn tc) tn xs e63 hrow' ⟨w.heap.size, 0, none⟩ 2 2 two78 e66 (by rfl) hnews (by simp [two78, Value.oneCell']) (by decide) (by simp [maxLen]; omega) (by omega) (by omega) (fun g _ => apart0 g) (fun g cap w3 hown hg hat hlt => ?_)
    exact hr' _ _ ⟨_, w3, ⟨g, cap, rfl, hown, hg, hat⟩, rfl, w3.drawn, rfl⟩
  rintro v w2 ⟨g, cap, rfl, hown, hg, hat⟩ rest hr'
  have hb := hfar ab w2 lB hoB hg
  have h1' : w2.cell? ⟨ab, i, none⟩ = some (.slice ta tn tc) := (World.cell?_of_block (a := ⟨ab, i, none⟩) hb).trans h1
  have hz0 : w2.frozen? ⟨ab, i, none⟩ = false := (World.frozen?_of_block (a := ⟨ab, i, none⟩) hb).trans hz1
  have hf0 : Free (fun _ => none) ⟨ab, i, none⟩ := (apart0 ab).1 _ rfl
  clear hfar hnews hrow' hO1 hrow h0 h1 hz1
  (refine Walk.os hf0 h1' ?_; try walk_nrm)
  refine hr' _ _ ?_
  generalize hw3 : w2.setCell ⟨ab, i, none⟩ (.slice (some ⟨g, 0, none⟩) (tn + 2) cap) = w3 at *
  try walk_nrm
  repeat (first | refine Walk.c rfl ?_ | refine Walk.cRet ?_ | refine Walk.cEnd ?_ | (refine Walk.cReg ?_; simp only [size4_0, size4_1, size4_2, size4_3, size4_4, size4_5, size4_6, size4_7, size4_8, size4_10, size4_11, size4_13, size4_12, size4_14, size4_9, size4_15, size4_16, size4_18, size4_17, size4_19, size4_20, size4_22, size4_21, size4_23, List.range, List.range.loop]) | (refine Walk.oq ?_; try walk_nrm) | (refine Walk.un ?_; walk_nrm))
  refine Walk.ctl rfl (fun w => stepG_inLoop) ?_
  refine .stop fun d => ⟨g, cap, w2, at_slots ?_, ⟨d, by rw [hw3]⟩, hown, hg, hat⟩
  have hc : ((i + 1 : Nat) : Int) = (i : Int) + 1 := by simp
  simp only [hd4a, hc]
  rfl
theorem keeps_o (wv pv sv lv : Value) (A B C i g on oc : Nat) (y : Value) (u : Nat → Value) (cs : List Frame) (w : World) (hi : i < on) (hon : on ≤ 17592186044416) (h0 : w.cell? ⟨A, 1, none⟩ = some (.slice (some ⟨g, 0, none⟩) on oc)) (h1 : w.cell? ⟨g, i, none⟩ = some y) (hz : w.frozen? ⟨g, i, none⟩ = false) :
    Walk Try.prog main (DR (fun _ => none)) (fun g' w' => (∃ u', g' = G (hd4o wv pv sv lv A B C (i + 1) u') cs) ∧ ∃ d, w' = (w.setCell ⟨g, i, none⟩ (.int .i64 (-1))).at d) (G (hd4o wv pv sv lv A B C i u) cs) w := by
  have hw1 : IntKind.wrap .i64 ((i : Int) + 1) = (i : Int) + 1 := by rw [IntKind.wrap_i64]; omega
  have hf : Free (fun _ => none) ⟨g, i, none⟩ := (apart0 g).1 _ rfl
  conv => arg 5; unfold hd4o
  repeat (first | refine Walk.c rfl ?_ | refine Walk.cRet ?_ | refine Walk.cEnd ?_ | (refine Walk.cReg ?_; simp only [size4_0, size4_1, size4_2, size4_3, size4_4, size4_5, size4_6, size4_7, size4_8, size4_10, size4_11, size4_13, size4_12, size4_14, size4_9, size4_15, size4_16, size4_18, size4_17, size4_19, size4_20, size4_22, size4_21, size4_23, List.range, List.range.loop]) | (refine Walk.oq ?_; try walk_nrm) | (refine Walk.un ?_; walk_nrm))
  (refine Walk.os hf h1 ?_; try walk_nrm)
  generalize hw2 : w.setCell ⟨g, i, none⟩ (.int .i64 (-1)) = w2 at *
  clear h0 h1 hz hf
  repeat (first | refine Walk.c rfl ?_ | refine Walk.cRet ?_ | refine Walk.cEnd ?_ | (refine Walk.cReg ?_; simp only [size4_0, size4_1, size4_2, size4_3, size4_4, size4_5, size4_6, size4_7, size4_8, size4_10, size4_11, size4_13, size4_12, size4_14, size4_9, size4_15, size4_16, size4_18, size4_17, size4_19, size4_20, size4_22, size4_21, size4_23, List.range, List.range.loop]) | (refine Walk.oq ?_; try walk_nrm) | (refine Walk.un ?_; walk_nrm))
  refine Walk.ctl rfl (fun w => stepG_inLoop) ?_
  refine .stop fun d' => ⟨at_slots ?_, d', rfl⟩
  have hc : ((i + 1 : Nat) : Int) = (i : Int) + 1 := by simp
  simp only [hd4o, hc]
  rfl
theorem keeps_oout (wv pv sv lv : Value) (A B C on oc : Nat) (oa : Option Addr) (u : Nat → Value) (cs : List Frame) (w : World) (h0 : w.cell? ⟨A, 1, none⟩ = some (.slice oa on oc)) :
    Walk Try.prog main (DR (fun _ => none)) (fun g w' => (∃ u', g = G (hd4s wv pv sv lv A B C 0 u') cs) ∧ ∃ d, w' = w.at d) (G (hd4o wv pv sv lv A B C on u) cs) w := by
  conv => arg 5; unfold hd4o
  repeat (first | refine Walk.c rfl ?_ | refine Walk.cRet ?_ | refine Walk.cEnd ?_ | (refine Walk.cReg ?_; simp only [size4_0, size4_1, size4_2, size4_3, size4_4, size4_5, size4_6, size4_7, size4_8, size4_10, size4_11, size4_13, size4_12, size4_14, size4_9, size4_15, size4_16, size4_18, size4_17, size4_19, size4_20, size4_22, size4_21, size4_23, List.range, List.range.loop]) | (refine Walk.oq ?_; try walk_nrm) | (refine Walk.un ?_; walk_nrm))
  refine Walk.ctl rfl (fun w => stepG_loop) ?_
  refine .stop fun d => ⟨at_slots ?_, d, rfl⟩
  simp only [hd4s]
  rfl
theorem keeps_s (wv pv sv lv : Value) (A B C i g on oc : Nat) (y : Value) (u : Nat → Value) (cs : List Frame) (w : World) (hi : i < on) (hon : on ≤ 17592186044416) (h0 : w.cell? ⟨A, 2, none⟩ = some (.slice (some ⟨g, 0, none⟩) on oc)) (h1 : w.cell? ⟨g, i, none⟩ = some y) (hz : w.frozen? ⟨g, i, none⟩ = false) :
    Walk Try.prog main (DR (fun _ => none)) (fun g' w' => (∃ u', g' = G (hd4s wv pv sv lv A B C (i + 1) u') cs) ∧ ∃ d, w' = (w.setCell ⟨g, i, none⟩ (.int .i64 (-1))).at d) (G (hd4s wv pv sv lv A B C i u) cs) w := by
  have hw1 : IntKind.wrap .i64 ((i : Int) + 1) = (i : Int) + 1 := by rw [IntKind.wrap_i64]; omega
  have hf : Free (fun _ => none) ⟨g, i, none⟩ := (apart0 g).1 _ rfl
  conv => arg 5; unfold hd4s
  repeat (first | refine Walk.c rfl ?_ | refine Walk.cRet ?_ | refine Walk.cEnd ?_ | (refine Walk.cReg ?_; simp only [size4_0, size4_1, size4_2, size4_3, size4_4, size4_5, size4_6, size4_7, size4_8, size4_10, size4_11, size4_13, size4_12, size4_14, size4_9, size4_15, size4_16, size4_18, size4_17, size4_19, size4_20, size4_22, size4_21, size4_23, List.range, List.range.loop]) | (refine Walk.oq ?_; try walk_nrm) | (refine Walk.un ?_; walk_nrm))
  (refine Walk.os hf h1 ?_; try walk_nrm)
  generalize hw2 : w.setCell ⟨g, i, none⟩ (.int .i64 (-1)) = w2 at *
  clear h0 h1 hz hf
  repeat (first | refine Walk.c rfl ?_ | refine Walk.cRet ?_ | refine Walk.cEnd ?_ | (refine Walk.cReg ?_; simp only [size4_0, size4_1, size4_2, size4_3, size4_4, size4_5, size4_6, size4_7, size4_8, size4_10, size4_11, size4_13, size4_12, size4_14, size4_9, size4_15, size4_16, size4_18, size4_17, size4_19, size4_20, size4_22, size4_21, size4_23, List.range, List.range.loop]) | (refine Walk.oq ?_; try walk_nrm) | (refine Walk.un ?_; walk_nrm))
  refine Walk.ctl rfl (fun w => stepG_inLoop) ?_
  refine .stop fun d' => ⟨at_slots ?_, d', rfl⟩
  have hc : ((i + 1 : Nat) : Int) = (i : Int) + 1 := by simp
  simp only [hd4s, hc]
  rfl
theorem keeps_last (wv pv sv lv : Value) (A B C on oc : Nat) (oa : Option Addr) (t1 t2 : Array Value) (u : Nat → Value) (w : World) (h0 : w.cell? ⟨A, 2, none⟩ = some (.slice oa on oc)) (hB : w.heap[B]? = some (.cells t1 28)) (hC : w.heap[C]? = some (.cells t2 28)) (s1 : t1.size = 4) (s2 : t2.size = 4)
    (h16 : CallW Try.prog main (fun _ => none) 16 #[.agg t1, .agg t2] w (fun v w' => v = .bool true ∧ Old w w')) :
    Walk Try.prog main (DR (fun _ => none)) (fun g w' => Closing 4 6 (.bool true) g ∧ Old w w') (G (hd4s wv pv sv lv A B C on u) []) w := by
  obtain ⟨fs, hu⟩ := und28
  have hb : ∀ (j : Nat) (v : Value), t1.toList[j]? = some v → w.cell? ⟨B, 0 + j, none⟩ = some v := fun j v hv => by
    rw [Nat.zero_add, cell_of hB]
    simpa using hv
  have hc : ∀ (j : Nat) (v : Value), t2.toList[j]? = some v → w.cell? ⟨C, 0 + j, none⟩ = some v := fun j v hv => by
    rw [Nat.zero_add, cell_of hC]
    simpa using hv
  conv => arg 5; unfold hd4s
  repeat (first | refine Walk.c rfl ?_ | refine Walk.cRet ?_ | refine Walk.cEnd ?_ | (refine Walk.cReg ?_; simp only [size4_0, size4_1, size4_2, size4_3, size4_4, size4_5, size4_6, size4_7, size4_8, size4_10, size4_11, size4_13, size4_12, size4_14, size4_9, size4_15, size4_16, size4_18, size4_17, size4_19, size4_20, size4_22, size4_21, size4_23, List.range, List.range.loop]) | (refine Walk.oq ?_; try walk_nrm) | (refine Walk.un ?_; walk_nrm))
  clear h0
  refine Walk.loadS 28 (.tmp 9) (ho_of (by conv => lhs; whnf) (by kernel_rfl)) (by rfl) (by decide) rfl B 0 t1.toList _ rfl hb hu rfl (by rw [Array.length_toList, s1]; kernel_rfl) ?_
  walk_nrm
  refine Walk.loadS 28 (.tmp 10) (ho_of (by conv => lhs; whnf) (by kernel_rfl)) (by rfl) (by decide) rfl C 0 t2.toList _ rfl hc hu rfl (by rw [Array.length_toList, s2]; kernel_rfl) ?_
  walk_nrm
  clear hb hc hB hC hu
  refine Walk.callW (Post := fun v w' => v = .bool true ∧ Old w w') ?_ (ho_of (by conv => lhs; whnf) (by kernel_rfl)) (by rfl) (by decide) rfl Try.func16 (by kernel_rfl) (by rfl) ?_
  · walk_nrm
    exact h16
  rintro v w1 ⟨rfl, hO⟩
  clear h16
  walk_nrm
  repeat (first | refine Walk.c rfl ?_ | refine Walk.cRet ?_ | refine Walk.cEnd ?_ | (refine Walk.cReg ?_; simp only [size4_0, size4_1, size4_2, size4_3, size4_4, size4_5, size4_6, size4_7, size4_8, size4_10, size4_11, size4_13, size4_12, size4_14, size4_9, size4_15, size4_16, size4_18, size4_17, size4_19, size4_20, size4_22, size4_21, size4_23, List.range, List.range.loop]) | (refine Walk.oq ?_; try walk_nrm) | (refine Walk.un ?_; walk_nrm))
  exact .stop fun d => ⟨⟨_, rfl, rfl, rfl, rfl, rfl, rfl⟩, hO.size, hO.same⟩
end
section
structure KI (A0 A1 : Nat) (wZ : World) (n ab s nw on : Nat) (oa : Option Addr) (oc i0 : Nat) (w : World) : Prop where
  size : wZ.heap.size ≤ w.heap.size
  keep : ∀ b, b < wZ.heap.size → (b < A0 ∨ A1 ≤ b) → w.heap[b]? = wZ.heap[b]?
  ans : 0 < n → ∃ (arr : Array Value) (ta : Nat → Option Addr) (tn tc : Nat → Nat), w.heap[ab]? = some (.cells arr 36 (0, 0)) ∧
    (∀ j, j < n → arr[j]? = some (.slice (ta j) (tn j) (tc j)) ∧ (∃ xs, w.ownsRow A0 38 3 (.slice (ta j) (tn j) (tc j)) (tn j) xs) ∧ (i0 ≤ j → tn j ≤ 1099511627776) ∧ ∀ g, (Value.slice (ta j) (tn j) (tc j)).ownBlock = some g → g < A1 ∨ wZ.heap.size ≤ g) ∧
    ∀ i j b, i < n → j < n → (Value.slice (ta i) (tn i) (tc i)).ownBlock = some b → (Value.slice (ta j) (tn j) (tc j)).ownBlock = some b → i = j
  ord : ∀ g, (Value.slice oa on oc).ownBlock = some g → A0 ≤ g ∧ g < A1 ∧ ∃ cur : Array Value, w.heap[g]? = some (.cells cur 3 (0, 0)) ∧ on ≤ cur.size
  st : 0 < nw → A0 ≤ s ∧ s < A1 ∧ ∃ cur : Array Value, w.heap[s]? = some (.cells cur 2 (0, 0)) ∧ nw ≤ cur.size
section
variable {A0 A1 : Nat} {wZ : World} {n ab s nw on : Nat} {oa : Option Addr} {oc i0 : Nat} {w w' : World}
theorem KI.at (H : KI A0 A1 wZ n ab s nw on oa oc i0 w) (d : Nat) : KI A0 A1 wZ n ab s nw on oa oc i0 (w.at d) := ⟨H.size, H.keep, H.ans, H.ord, H.st⟩
theorem KI.touch (H : KI A0 A1 wZ n ab s nw on oa oc i0 w) {g : Nat} (hg : A0 ≤ g ∧ (g < A1 ∨ wZ.heap.size ≤ g)) (hsz : w'.heap.size = w.heap.size) (hsame : ∀ k, k ≠ g → w'.heap[k]? = w.heap[k]?)
    (hcells : ∀ (cur : Array Value) t, w.heap[g]? = some (.cells cur t (0, 0)) → ∃ cur' : Array Value, w'.heap[g]? = some (.cells cur' t (0, 0)) ∧ cur'.size = cur.size) (hne : 0 < n → g ≠ ab) : KI A0 A1 wZ n ab s nw on oa oc i0 w' := by
  have hcell : ∀ (b : Nat) (cur : Array Value) t, w.heap[b]? = some (.cells cur t (0, 0)) → ∃ cur' : Array Value, w'.heap[b]? = some (.cells cur' t (0, 0)) ∧ cur'.size = cur.size := fun b cur t h => by
    by_cases e : b = g
    · subst e; exact hcells cur t h
    · exact ⟨cur, (hsame b e).trans h, rfl⟩
  refine ⟨by rw [hsz]; exact H.size, fun b hb h => (hsame b (by omega)).trans (H.keep b hb h), fun hn => ?_, fun g' h => ?_, fun hn => ?_⟩
  · obtain ⟨arr, ta, tn, tc, h1, h2, h3⟩ := H.ans hn
    refine ⟨arr, ta, tn, tc, (hsame ab (Ne.symm (hne hn))).trans h1, fun j hj => ?_, h3⟩
    obtain ⟨e1, ⟨xs, e2⟩, e3, e4⟩ := h2 j hj
    refine ⟨e1, ?_, e3, e4⟩
    rcases e2.2 with ⟨z, z0⟩ | ⟨b, cap, cur, r0, r1, r2, r3, r4, r5, r6⟩
    · exact ⟨xs, e2.1, .inl ⟨z, z0⟩⟩
    · obtain ⟨cur', c1, c2⟩ := hcell b cur 38 r2
      refine ⟨cur'.toList.take (tn j * 3), ?_, .inr ⟨b, cap, cur', r0, r1, c1, r3, r4, by rw [c2]; exact r5, rfl⟩⟩
      rw [List.length_take, Array.length_toList, c2, r5]
      have := Nat.mul_le_mul_right 3 r3
      omega
  · obtain ⟨a1, a2, cur, a3, a4⟩ := H.ord g' h
    obtain ⟨cur', c1, c2⟩ := hcell g' cur 3 a3
    exact ⟨a1, a2, cur', c1, by rw [c2]; exact a4⟩
  · obtain ⟨a1, a2, cur, a3, a4⟩ := H.st hn
    obtain ⟨cur', c1, c2⟩ := hcell s cur 2 a3
    exact ⟨a1, a2, cur', c1, by rw [c2]; exact a4⟩
theorem KI.set (H : KI A0 A1 wZ n ab s nw on oa oc i0 w) {g i : Nat} {v : Value} (hg : A0 ≤ g ∧ (g < A1 ∨ wZ.heap.size ≤ g)) (hne : 0 < n → g ≠ ab) : KI A0 A1 wZ n ab s nw on oa oc i0 (w.setCell ⟨g, i, none⟩ v) :=
  H.touch hg (size_set ..) (fun k hk => heap_set_other _ _ _ _ hk) (fun cur t h => ⟨_, heap_set_self _ _ h, by simp⟩) hne
theorem KI.sets (H : KI A0 A1 wZ n ab s nw on oa oc i0 w) {g o : Nat} {vs : List Value} (hg : A0 ≤ g ∧ (g < A1 ∨ wZ.heap.size ≤ g)) (hne : 0 < n → g ≠ ab) : KI A0 A1 wZ n ab s nw on oa oc i0 (w.setCells g o vs) := by
  obtain ⟨_, _, k3, k4, k5⟩ := setCells_kept g vs o w
  exact H.touch hg k3 k4 k5 hne
theorem type_ne {b c : Nat} {c1 c2 : Array Value} {t1 t2 : TypeId} (h : w.heap[b]? = some (.cells c1 t1 (0, 0))) (h' : w.heap[c]? = some (.cells c2 t2 (0, 0))) (ht : t1 ≠ t2) : b ≠ c := fun e => by
  subst e
  rw [h] at h'
  injection h' with h'
  injection h' with _ h' _
  exact ht h'
theorem KI.grown (H : KI A0 A1 wZ n ab s nw on oa oc i0 w) {g cap tn tc : Nat} {ta : Option Addr} {xs ys : List Value} {w3 : World} {ob : Obj} (hi : i0 < n) (hA1 : A1 ≤ wZ.heap.size) (hab : A0 ≤ ab ∧ ab < A1) (h1 : w.cell? ⟨ab, i0, none⟩ = some (.slice ta tn tc)) (hrow : w.ownsRow A0 38 3 (.slice ta tn tc) tn xs)
    (hown : w3.ownsRow A0 38 3 (.slice (some ⟨g, 0, none⟩) (tn + 2) cap) (tn + 2) ys) (hg : (w.alloc ob).grownBy w3 (Value.slice ta tn tc).ownBlock) (hat : (Value.slice ta tn tc).ownBlock = some g ∨ g = (w.alloc ob).heap.size) :
    KI A0 A1 wZ n ab s nw on oa oc (i0 + 1) (w3.setCell ⟨ab, i0, none⟩ (.slice (some ⟨g, 0, none⟩) (tn + 2) cap)) := by
  obtain ⟨arr, ta', tn', tc', a1, a2, a3⟩ := H.ans (by omega)
  obtain ⟨b1, _, _, b4⟩ := a2 i0 hi
  have hc := (cell_of a1 i0).trans b1
  rw [h1] at hc
  injection hc with hc
  injection hc with c1 c2 c3
  subst c1
  have hs1 : (w.alloc ob).heap.size = w.heap.size + 1 := by simp
  have hgs := hg.size
  have hsz := H.size
  have hfar : ∀ b, b < w.heap.size → (Value.slice (ta' i0) tn tc).ownBlock ≠ some b → w3.heap[b]? = w.heap[b]? := fun b hb hne => (hg.block b (by omega) (fun e => hne e.symm)).trans (heap_new_lt w _ hb)
  have hset : ∀ b, b ≠ ab → (w3.setCell ⟨ab, i0, none⟩ (.slice (some ⟨g, 0, none⟩) (tn + 2) cap)).heap[b]? = w3.heap[b]? := fun b hb => heap_set_other _ _ _ _ hb
  have htype : ∀ b, (Value.slice (ta' i0) tn tc).ownBlock = some b → ∃ cur, w.heap[b]? = some (.cells cur 38 (0, 0)) := fun b hb => (row_at hrow hb).2.2
  have habo : (Value.slice (ta' i0) tn tc).ownBlock ≠ some ab := fun e => by
    obtain ⟨cur, hc⟩ := htype ab e
    exact type_ne hc a1 (by decide) rfl
  have labl : ab < w.heap.size := (Array.getElem?_eq_some_iff.1 a1).1
  have hab3 := (hfar ab labl habo).trans a1
  have hold : ∀ b, (Value.slice (ta' i0) tn tc).ownBlock = some b → b < A1 ∨ wZ.heap.size ≤ b := fun b hb => b4 b (by rw [← c2, ← c3]; exact hb)
  have hgb : g < A1 ∨ wZ.heap.size ≤ g := by
    rcases hat with h | h
    · exact hold g h
    · right; omega
  have hgne : g ≠ ab := fun e => by
    rcases hat with h | h
    · exact habo (by rw [h, e])
    · omega
  refine ⟨by rw [size_set]; omega, fun b hb h => ?_, fun _ => ⟨arr.setIfInBounds i0 (.slice (some ⟨g, 0, none⟩) (tn + 2) cap), upd ta' i0 (some ⟨g, 0, none⟩), upd tn' i0 (tn + 2), upd tc' i0 cap, heap_set_self _ _ hab3, fun j hj => ?_, fun i j b hi' hj' e1 e2 => ?_⟩, fun g' h => ?_, fun hn => ?_⟩
  · rw [hset b (by omega)]
    refine (hfar b (by omega) fun e => ?_).trans (H.keep b hb h)
    have := hold b e
    have := (hrow.lt b e).1
    omega
  · by_cases e : j = i0
    · subst e
      simp only [upd_same]
      refine ⟨Array.getElem?_setIfInBounds_self_of_lt ?_, ⟨ys, row_same hown fun b hb => ?_⟩, fun h => by omega, fun b hb => by cases hb; exact hgb⟩
      · exact (Array.getElem?_eq_some_iff.1 b1).1
      · cases hb
        exact hset g hgne
    · simp only [upd_ne _ _ e]
      obtain ⟨d1, ⟨zs, d2⟩, d3, d4⟩ := a2 j hj
      refine ⟨by rw [Array.getElem?_setIfInBounds_ne (Ne.symm e)]; exact d1, ⟨zs, row_same d2 fun b hb => ?_⟩, fun h => d3 (by omega), d4⟩
      obtain ⟨_, hlt, cur, hcur⟩ := row_at d2 hb
      rw [hset b (type_ne hcur a1 (by decide))]
      exact hfar b hlt fun e' => e (a3 j i0 b hj hi hb (by rw [← c2, ← c3]; exact e'))
  · have hgi : ∀ j b, j < n → j ≠ i0 → (Value.slice (ta' j) (tn' j) (tc' j)).ownBlock = some b → b ≠ g := fun j b hj hji hb e => by
      obtain ⟨_, ⟨zs, d2⟩, _, _⟩ := a2 j hj
      rcases hat with h | h
      · exact hji (a3 j i0 b hj hi hb (by rw [← c2, ← c3, e]; exact h))
      · have := (d2.lt b hb).2; omega
    by_cases ei : i = i0
    · by_cases ej : j = i0
      · rw [ei, ej]
      · subst ei
        simp only [upd_same] at e1
        simp only [upd_ne _ _ ej] at e2
        cases e1
        exact absurd rfl (hgi j _ hj' ej e2)
    · by_cases ej : j = i0
      · subst ej
        simp only [upd_same] at e2
        simp only [upd_ne _ _ ei] at e1
        cases e2
        exact absurd rfl (hgi i _ hi' ei e1)
      · simp only [upd_ne _ _ ei] at e1
        simp only [upd_ne _ _ ej] at e2
        exact a3 i j b hi' hj' e1 e2
  · obtain ⟨q1, q2, cur, q3, q4⟩ := H.ord g' h
    refine ⟨q1, q2, cur, ?_, q4⟩
    rw [hset g' (type_ne q3 a1 (by decide))]
    refine (hfar g' (by omega) fun e => ?_).trans q3
    obtain ⟨c2, hc2⟩ := htype g' e
    exact type_ne hc2 q3 (by decide) rfl
  · obtain ⟨q1, q2, cur, q3, q4⟩ := H.st hn
    refine ⟨q1, q2, cur, ?_, q4⟩
    rw [hset s (type_ne q3 a1 (by decide))]
    refine (hfar s (by omega) fun e => ?_).trans q3
    obtain ⟨c2, hc2⟩ := htype s e
    exact type_ne hc2 q3 (by decide) rfl
end
section
variable {main : Bool} {A0 A1 : Nat} {wZ : World} {n ab s nw on : Nat} {oa : Option Addr} {oc : Nat} {A B C ac sc : Nat} {wv pv sv lv : Value} {cs : List Frame}
theorem keeps_inner (hA : A1 ≤ A ∧ A < wZ.heap.size) (h0 : wZ.cell? ⟨A, 0, none⟩ = some (.slice (some ⟨ab, 0, none⟩) n ac)) {i tn tc : Nat} {ta : Option Addr} (hi : i < n) (htn : tn ≤ 1099511627776) :
    ∀ (r k : Nat) (u : Nat → Value) (w : World), k + r = tn → KI A0 A1 wZ n ab s nw on oa oc i w → w.cell? ⟨ab, i, none⟩ = some (.slice ta tn tc) →
    Walk Try.prog main (DR (fun _ => none)) (fun g' w' => (∃ u', g' = G (hd4k wv pv sv lv A B C i tn u') cs) ∧ KI A0 A1 wZ n ab s nw on oa oc i w' ∧ w'.cell? ⟨ab, i, none⟩ = some (.slice ta tn tc)) (G (hd4k wv pv sv lv A B C i k u) cs) w := by
  intro r
  induction r with
  | zero =>
    intro k u w hk H hc
    have hk : k = tn := hk
    subst hk
    exact .stop fun d => ⟨⟨u, rfl⟩, H.at d, hc⟩
  | succ r ih =>
    intro k u w hk H hc
    obtain ⟨arr, ta', tn', tc', a1, a2, a3⟩ := H.ans (by omega)
    obtain ⟨b1, ⟨xs, b2⟩, _, b4⟩ := a2 i hi
    have hcc := (cell_of a1 i).trans b1
    rw [hc] at hcc
    injection hcc with hcc
    injection hcc with c1 c2 c3
    rw [← c1, ← c2, ← c3] at b2 b4
    rcases b2.2 with ⟨_, z0⟩ | ⟨g, cap, cur, r0, r1, r2, r3, r4, r5, r6⟩
    · omega
    · injection r0 with q1 _ q3
      subst q1 q3
      have hA0 := (World.cell?_of_block (a := ⟨A, 0, none⟩) (H.keep A hA.2 (.inr hA.1))).trans h0
      have hgab := type_ne r2 a1 (by decide)
      refine (keeps_k (main := main) wv pv sv lv A B C i k n ac ab g tn tc cur u cs w hi (by omega) htn hA0 hc r2 (by rw [r5]; omega)).then ?_
      rintro g' w' ⟨⟨u', rfl⟩, d, rfl⟩
      refine Walk.back ?_ d
      refine ih (k + 1) u' _ (by omega) (H.sets ⟨r1, b4 g rfl⟩ fun _ => hgab) ?_
      rw [← hc]
      exact World.cell?_of_block (a := ⟨ab, i, none⟩) ((setCells_kept g mark77.toList (k * 3) w).2.2.2.1 ab (Ne.symm hgab))
theorem keeps_answers (hA : A1 ≤ A ∧ A < wZ.heap.size) (hab : A0 ≤ ab ∧ ab < A1) (hn : n ≤ 64) (h0 : wZ.cell? ⟨A, 0, none⟩ = some (.slice (some ⟨ab, 0, none⟩) n ac)) (hA1 : A1 ≤ wZ.heap.size) :
    ∀ (r i : Nat) (u : Nat → Value) (w : World), i + r = n → KI A0 A1 wZ n ab s nw on oa oc i w →
    Walk Try.prog main (DR (fun _ => none)) (fun g' w' => (∃ u', g' = G (hd4o wv pv sv lv A B C 0 u') cs) ∧ KI A0 A1 wZ n ab s nw on oa oc n w') (G (hd4a wv pv sv lv A B C i u) cs) w := by
  intro r
  induction r with
  | zero =>
    intro i u w hi H
    have hi : i = n := hi
    subst hi
    have hA0 := (World.cell?_of_block (a := ⟨A, 0, none⟩) (H.keep A hA.2 (.inr hA.1))).trans h0
    refine (keeps_out wv pv sv lv A B C i ac _ u cs w hA0).mono ?_
    rintro g w' ⟨hu, d, rfl⟩
    exact ⟨hu, H.at d⟩
  | succ r ih =>
    intro i u w hi H
    have hin : i < n := by omega
    have hA0 := (World.cell?_of_block (a := ⟨A, 0, none⟩) (H.keep A hA.2 (.inr hA.1))).trans h0
    refine (keeps_in wv pv sv lv A B C i n ac _ u cs w hin hA0).then ?_
    rintro g w' ⟨⟨u1, rfl⟩, d, rfl⟩
    refine Walk.back ?_ d
    obtain ⟨arr, ta', tn', tc', a1, a2, a3⟩ := H.ans (by omega)
    obtain ⟨b1, _, b3, _⟩ := a2 i hin
    refine (keeps_inner (main := main) hA h0 hin (b3 (Nat.le_refl _)) (tn' i) 0 u1 w (by omega) H ((cell_of a1 i).trans b1)).then ?_
    rintro g w2 ⟨⟨u2, rfl⟩, H2, hc2⟩
    have hA2 := (World.cell?_of_block (a := ⟨A, 0, none⟩) (H2.keep A hA.2 (.inr hA.1))).trans h0
    obtain ⟨arr2, ta2, tn2, tc2, d1, d2, _⟩ := H2.ans (by omega)
    obtain ⟨e1, ⟨xs, e2⟩, _, e4⟩ := d2 i hin
    have hcc := (cell_of d1 i).trans e1
    rw [hc2] at hcc
    injection hcc with hcc
    injection hcc with c1 c2 c3
    rw [← c1, ← c2, ← c3] at e2 e4
    have hs2 := H2.size
    refine (keeps_kout (main := main) wv pv sv lv A B C i n ac ab (tn' i) (tc' i) A0 (ta' i) xs u2 cs w2 hin hn (b3 (Nat.le_refl _)) hA2 hc2 (frozen_of d1 i) e2 (by omega) (fun e => by have := e4 A e; omega) (fun e => ?_)).then ?_
    · obtain ⟨_, _, cur, hcur⟩ := row_at e2 e
      exact type_ne hcur d1 (by decide) rfl
    rintro g w' ⟨g1, cap, w3, ⟨u3, rfl⟩, ⟨d', rfl⟩, hown, hg, hat⟩
    refine Walk.back ?_ d'
    exact ih (i + 1) u3 _ (by omega) (H2.grown hin hA1 hab hc2 e2 hown hg hat)
theorem keeps_orders (hA : A1 ≤ A ∧ A < wZ.heap.size) (hon : on ≤ 17592186044416) (hoo : ∀ i, i < on → ∃ g, oa = some ⟨g, 0, none⟩) (h1 : wZ.cell? ⟨A, 1, none⟩ = some (.slice oa on oc)) {i0 : Nat} (hordab : 0 < n → ∀ g, (Value.slice oa on oc).ownBlock = some g → g ≠ ab) :
    ∀ (r i : Nat) (u : Nat → Value) (w : World), i + r = on → KI A0 A1 wZ n ab s nw on oa oc i0 w →
    Walk Try.prog main (DR (fun _ => none)) (fun g' w' => (∃ u', g' = G (hd4s wv pv sv lv A B C 0 u') cs) ∧ KI A0 A1 wZ n ab s nw on oa oc i0 w') (G (hd4o wv pv sv lv A B C i u) cs) w := by
  intro r
  induction r with
  | zero =>
    intro i u w hi H
    have hi : i = on := hi
    subst hi
    have hA0 := (World.cell?_of_block (a := ⟨A, 1, none⟩) (H.keep A hA.2 (.inr hA.1))).trans h1
    refine (keeps_oout wv pv sv lv A B C i oc _ u cs w hA0).mono ?_
    rintro g w' ⟨hu, d, rfl⟩
    exact ⟨hu, H.at d⟩
  | succ r ih =>
    intro i u w hi H
    have hin : i < on := by omega
    have hA0 := (World.cell?_of_block (a := ⟨A, 1, none⟩) (H.keep A hA.2 (.inr hA.1))).trans h1
    obtain ⟨g, rfl⟩ := hoo i hin
    obtain ⟨q1, q2, cur, q3, q4⟩ := H.ord g rfl
    refine (keeps_o (main := main) wv pv sv lv A B C i g on oc cur[i] u cs w hin hon hA0 ((cell_of q3 i).trans (Array.getElem?_eq_getElem (by omega))) (frozen_of q3 i)).then ?_
    rintro g' w' ⟨⟨u', rfl⟩, d, rfl⟩
    refine Walk.back ?_ d
    exact ih (i + 1) u' _ (by omega) (H.set ⟨q1, .inl q2⟩ fun h => hordab h g rfl)
theorem keeps_states (hA : A1 ≤ A ∧ A < wZ.heap.size) (hnw : nw ≤ 17592186044416) (h2 : wZ.cell? ⟨A, 2, none⟩ = some (.slice (some ⟨s, 0, none⟩) nw sc)) {i0 : Nat} (hsab : 0 < n → s ≠ ab) :
    ∀ (r i : Nat) (u : Nat → Value) (w : World), i + r = nw → KI A0 A1 wZ n ab s nw on oa oc i0 w →
    Walk Try.prog main (DR (fun _ => none)) (fun g' w' => (∃ u', g' = G (hd4s wv pv sv lv A B C nw u') cs) ∧ KI A0 A1 wZ n ab s nw on oa oc i0 w') (G (hd4s wv pv sv lv A B C i u) cs) w := by
  intro r
  induction r with
  | zero =>
    intro i u w hi H
    have hi : i = nw := hi
    subst hi
    exact .stop fun d => ⟨⟨u, rfl⟩, H.at d⟩
  | succ r ih =>
    intro i u w hi H
    have hin : i < nw := by omega
    have hA0 := (World.cell?_of_block (a := ⟨A, 2, none⟩) (H.keep A hA.2 (.inr hA.1))).trans h2
    obtain ⟨q1, q2, cur, q3, q4⟩ := H.st (by omega)
    refine (keeps_s (main := main) wv pv sv lv A B C i s nw sc cur[i] u cs w hin hnw hA0 ((cell_of q3 i).trans (Array.getElem?_eq_getElem (by omega))) (frozen_of q3 i)).then ?_
    rintro g' w' ⟨⟨u', rfl⟩, d, rfl⟩
    refine Walk.back ?_ d
    exact ih (i + 1) u' _ (by omega) (H.set ⟨q1, .inl q2⟩ hsab)
end
end
theorem PlayOut.same {base : Nat} {PL : List (List Cd)} {ws : List Int} {most : Int} {sl : List Int} {cells : Array Value} {w w' : World} (H : PlayOut base PL ws most sl cells w) (hs : ∀ b, base ≤ b → b < w.heap.size → w'.heap[b]? = w.heap[b]?) : PlayOut base PL ws most sl cells w' := by
  obtain ⟨oa, oc, a, s, tas, tcs, h1, h2, h3, h4, h5, h6, h7, ⟨arr, h8, h9⟩, h10⟩ := H
  refine ⟨oa, oc, a, s, tas, tcs, h1, row_same h2 fun g hg => hs g (h2.lt g hg).1 (h2.lt g hg).2, fun j hj => ?_, fun i hi => ?_, h5, h6, fun h0 => ?_, ⟨arr, (hs s h6 (Array.getElem?_eq_some_iff.1 h8).1).trans h8, h9⟩, h10⟩
  · exact (World.cell?_of_block (a := ⟨s, j, none⟩) (hs s h6 (cell_lt w (h3 j hj)))).trans (h3 j hj)
  · obtain ⟨e1, e2⟩ := h4 i hi
    exact ⟨(World.cell?_of_block (a := ⟨a, i, none⟩) (hs a h5 (cell_lt w e1))).trans e1, row_same e2 fun g hg => hs g (e2.lt g hg).1 (e2.lt g hg).2⟩
  · obtain ⟨ar, ha⟩ := h7 h0
    exact ⟨ar, (hs a h5 (Array.getElem?_eq_some_iff.1 ha).1).trans ha⟩
theorem PlayOut.ready {A0 A1 : Nat} {PL : List (List Cd)} {ws : List Int} {most : Int} {sl : List Int} {cells : Array Value} {w wZ : World} (H : PlayOut A0 PL ws most sl cells w) (hA1 : w.heap.size = A1) (hO : Old w wZ) (htold : ∀ i, i < PL.length → ((playA PL ws most sl).1.th i).told.length ≤ 1099511627776) :
    ∃ ab ac s sc oa oc k, cells = trArr (some ⟨ab, 0, none⟩) PL.length ac oa (playA PL ws most sl).2.length oc (some ⟨s, 0, none⟩) ws.length sc k ∧ KI A0 A1 wZ PL.length ab s ws.length (playA PL ws most sl).2.length oa oc 0 wZ ∧ (0 < PL.length → A0 ≤ ab ∧ ab < A1) ∧ (∀ i, i < (playA PL ws most sl).2.length → ∃ g, oa = some ⟨g, 0, none⟩) ∧ (0 < PL.length → ∀ g, (Value.slice oa (playA PL ws most sl).2.length oc).ownBlock = some g → g ≠ ab) ∧ (0 < PL.length → s ≠ ab) := by
  obtain ⟨oa, oc, a, s, tas, tcs, h1, h2, h3, h4, h5, h6, h7, ⟨arr, h8, h9⟩, h10⟩ := H
  have hsl := (Array.getElem?_eq_some_iff.1 h8).1
  refine ⟨a, PL.length, s, ws.length, oa, oc, _, h1, ⟨Nat.le_refl _, fun _ _ _ => rfl, fun hn => ?_, fun g hg => ?_, fun _ => ⟨h6, by omega, arr, (hO.same s hsl).trans h8, h9⟩⟩, fun hn => ?_, fun i hi => ?_, fun hn g hg => ?_, fun hn => ?_⟩
  · obtain ⟨ar, ha⟩ := h7 hn
    have hal := (Array.getElem?_eq_some_iff.1 ha).1
    refine ⟨ar, tas, fun i => ((playA PL ws most sl).1.th i).told.length, tcs, (hO.same a hal).trans ha, fun j hj => ?_, h10⟩
    obtain ⟨e1, e2⟩ := h4 j hj
    rw [cell_of ha] at e1
    exact ⟨e1, ⟨_, row_old e2 hO⟩, fun _ => htold j hj, fun g hg => .inl (by have := (e2.lt g hg).2; omega)⟩
  · obtain ⟨hl, hx⟩ := row_at h2 hg
    obtain ⟨hlt, cur, hcur⟩ := hx
    rcases h2.2 with ⟨z, _⟩ | ⟨b, cap, cur', r0, r1, r2, r3, r4, r5, r6⟩
    · rw [z] at hg; cases hg
    · rw [r0] at hg
      cases hg
      have hlt : b < w.heap.size := hlt
      exact ⟨r1, by show b < A1; omega, cur', (hO.same b hlt).trans r2, by rw [r5]; omega⟩
  · obtain ⟨ar, ha⟩ := h7 hn
    have := (Array.getElem?_eq_some_iff.1 ha).1
    exact ⟨h5, by omega⟩
  · obtain ⟨g, c, e, _⟩ := row_cell h2 (j := i) (x := .int .i64 ((playA PL ws most sl).2[i] : Nat)) (by simp [hi])
    injection e with e _ _
    exact ⟨g, e⟩
  · obtain ⟨ar, ha⟩ := h7 hn
    obtain ⟨_, _, cur, hcur⟩ := row_at h2 hg
    exact type_ne hcur ha (by decide)
  · obtain ⟨ar, ha⟩ := h7 hn
    exact type_ne h8 ha (by decide)
theorem told_bound {n : Nat} {most : Int} {nw : Nat} {progs : Nat → List Cd} {zs sl : List Int} {base : Nat} {v : Value} {w : World} (H : TraceNew base n nw (stepsA n most nw progs zs sl) v w) : ∀ i, i < n → ((stepsA n most nw progs zs sl).1.th i).told.length ≤ 1099511627776 := by
  obtain ⟨_, _, _, _, _, _, _, _, _, _, _, _, _, h⟩ := H
  exact h
theorem keeps_rest {A0 A1 A B C : Nat} {wv pv sv lv : Value} {W wZ : World} {PL : List (List Cd)} {zs sl : List Int} {ca cb : Array Value} {vc : Value} {wa wb wc : World} {b1 c1 : Nat} (hz : zs.length ≤ 17592186044416) (hn : PL.length ≤ 64)
    (hPa : PlayOut A0 PL zs 2000 sl ca wa) (hA1 : wa.heap.size = A1) (hOa : Old wa wZ) (hPb : PlayOut b1 PL zs 2000 sl cb wb) (hb1 : A1 ≤ b1) (hOb : Old wb wZ) (hT : TraceNew c1 PL.length zs.length (playA PL zs 2000 sl) vc wc) (hc1 : A1 ≤ c1) (hOc : Old wc wZ) (hWA : W.heap.size ≤ A0) (hOW : Old W wZ)
    (hA : A1 ≤ A) (hB : A1 ≤ B) (hC : A1 ≤ C) (hcA : wZ.heap[A]? = some (.cells ca 28)) (hcB : wZ.heap[B]? = some (.cells cb 28)) {t2 : Array Value} (hv : vc = .agg t2) (hcC : wZ.heap[C]? = some (.cells t2 28)) (u : Nat → Value) :
    Walk Try.prog true (DR (fun _ => none)) (fun g w' => Closing 4 6 (.bool true) g ∧ Old W w') (G (hd4a wv pv sv lv A B C 0 u) []) wZ := by
  obtain ⟨ab, ac, s, sc, oa, oc, k, hca, hK, hab, hoo, hoab, hsab⟩ := hPa.ready hA1 hOa (told_bound (progs := fun i => PL.getD i []) hT)
  have lA := (Array.getElem?_eq_some_iff.1 hcA).1
  have lB := (Array.getElem?_eq_some_iff.1 hcB).1
  have lC := (Array.getElem?_eq_some_iff.1 hcC).1
  have x0 : wZ.cell? ⟨A, 0, none⟩ = some (.slice (some ⟨ab, 0, none⟩) PL.length ac) := (cell_of hcA 0).trans (by rw [hca]; first | done | rfl)
  have x1 : wZ.cell? ⟨A, 1, none⟩ = some (.slice oa (playA PL zs 2000 sl).2.length oc) := (cell_of hcA 1).trans (by rw [hca]; first | done | rfl)
  have x2 : wZ.cell? ⟨A, 2, none⟩ = some (.slice (some ⟨s, 0, none⟩) zs.length sc) := (cell_of hcA 2).trans (by rw [hca]; first | done | rfl)
  have hfar : ∀ w', KI A0 A1 wZ PL.length ab s zs.length (playA PL zs 2000 sl).2.length oa oc PL.length w' → ∀ b, A1 ≤ b → b < wZ.heap.size → w'.heap[b]? = wZ.heap[b]? := fun w' H b h1 h2 => H.keep b h2 (.inr h1)
  have hTo := hT.out
  have hon : (playA PL zs 2000 sl).2.length ≤ 1048576 := by
    obtain ⟨_, _, _, _, _, _, _, _, _, _, h, _⟩ := hTo
    exact h
  have hans : Walk Try.prog true (DR (fun _ => none)) (fun g' w' => (∃ u', g' = G (hd4o wv pv sv lv A B C 0 u') []) ∧ KI A0 A1 wZ PL.length ab s zs.length (playA PL zs 2000 sl).2.length oa oc PL.length w') (G (hd4a wv pv sv lv A B C 0 u) []) wZ := by
    rcases Nat.eq_zero_or_pos PL.length with h0 | h0
    · rw [h0] at hK x0 ⊢
      refine (keeps_out wv pv sv lv A B C 0 ac _ u [] wZ x0).mono ?_
      rintro g w' ⟨hu, d, rfl⟩
      exact ⟨hu, hK.at d⟩
    · exact keeps_answers (main := true) ⟨hA, lA⟩ (hab h0) hn x0 (by have := hOa.size; omega) PL.length 0 u wZ (by omega) hK
  refine hans.then ?_
  rintro g w2 ⟨⟨u2, rfl⟩, H2⟩
  have hord : Walk Try.prog true (DR (fun _ => none)) (fun g' w' => (∃ u', g' = G (hd4s wv pv sv lv A B C 0 u') []) ∧ KI A0 A1 wZ PL.length ab s zs.length (playA PL zs 2000 sl).2.length oa oc PL.length w') (G (hd4o wv pv sv lv A B C 0 u2) []) w2 :=
    keeps_orders (main := true) ⟨hA, lA⟩ (by omega) hoo x1 (fun hn0 => hoab hn0) (playA PL zs 2000 sl).2.length 0 u2 w2 (by omega) H2
  refine hord.then ?_
  rintro g w3 ⟨⟨u3, rfl⟩, H3⟩
  refine (keeps_states (main := true) ⟨hA, lA⟩ hz x2 (fun hn0 => hsab hn0) zs.length 0 u3 w3 (by omega) H3).then ?_
  rintro g w4 ⟨⟨u4, rfl⟩, H4⟩
  have hf := hfar w4 H4
  have hPb4 := hPb.same (w' := w4) fun b h1 h2 => (hf b (by omega) (Nat.lt_of_lt_of_le h2 hOb.size)).trans (hOb.same b h2)
  have hT4 := (hT.same (w' := w4) fun b h1 h2 => (hf b (by omega) (Nat.lt_of_lt_of_le h2 hOc.size)).trans (hOc.same b h2)).out
  obtain ⟨ba, bc, pa, pc, ra, rc, hcb, o1, s1, a1⟩ := hPb4.trace
  obtain ⟨da, dc, ea, ec, fa, fc, hvc, o2, s2, a2, _, hb⟩ := hT4
  have ht2 : t2 = trArr da PL.length dc ea (playA PL zs 2000 sl).2.length ec fa zs.length fc (!(List.range PL.length).all fun i => ((playA PL zs 2000 sl).1.out i).isSome) := by
    rw [hv] at hvc
    injection hvc
  have h16 := same16_w (main := true) ba PL.length bc pa (playA PL zs 2000 sl).2.length pc ra zs.length rc (!(List.range PL.length).all fun i => ((playA PL zs 2000 sl).1.out i).isSome) da dc ea ec fa fc _ _ _ _ w4 (by omega) (by omega) hz (fun i hi => by have := hb i hi; omega) o1 o2 s1 s2 a1 a2
  rw [← hcb, ← ht2] at h16
  refine (keeps_last (main := true) wv pv sv lv A B C zs.length sc (some ⟨s, 0, none⟩) cb t2 u4 w4 ((World.cell?_of_block (a := ⟨A, 2, none⟩) (hf A hA lA)).trans x2) ((hf B hB lB).trans hcB) ((hf C hC lC).trans hcC) (by rw [hcb]; rfl) (by rw [ht2]; rfl) h16).mono ?_
  rintro g w5 ⟨hcl, hO⟩
  refine ⟨hcl, ⟨?_, fun b hb => ?_⟩⟩
  · have := hO.size; have := H4.size; have := hOW.size; omega
  · have h1 := hOW.size
    have h2 := H4.size
    exact (hO.same b (by omega)).trans ((H4.keep b (by omega) (.inl (by omega))).trans (hOW.same b hb))
section
theorem keeps_all (wa : Option Addr) (wc : Nat) (zs : List Int) (pa : Option Addr) (pc : Nat) (l : List Sl) (Ps : List (List Cd)) (va : Option Addr) (vc : Nat) (sl : List Int) (W : World)
    (hz : zs.length ≤ 17592186044416) (hnil : wa = none → zs = [] ∧ wc = 0) (hs : ∀ (j : Nat) (z : Int), zs[j]? = some z → ∃ s so, wa = some ⟨s, so, none⟩ ∧ W.cell? ⟨s, so + j, none⟩ = some (.int .i64 z))
    (S : Src pa l Ps W) (hP : Ps.length ≤ 5864062014805) (hc : ∀ c ∈ Ps, c.length ≤ 3518437208883)
    (hsl : sl.length ≤ 17592186044416) (hvn : va = none → sl = [] ∧ vc = 0) (hv : ∀ (j : Nat) (z : Int), sl[j]? = some z → ∃ s so, va = some ⟨s, so, none⟩ ∧ W.cell? ⟨s, so + j, none⟩ = some (.int .i64 z)) :
    Runs (fun g w' => Closing 4 6 (.bool true) g ∧ (OsSame W w' → ∀ d, Left W (.bool true) (w'.at d))) (G (Frame.enter Try.prog 4 #[.slice wa zs.length wc, .slice pa Ps.length pc, .slice va sl.length vc] .normal) []) W := by
  have hn64 : (Ps.take 64).length ≤ 64 := by rw [List.length_take]; omega
  refine Runs.go ?_
  rw [enter_at _ Try.func4 code4_is]
  simp only [Try.ntmps4, List.size_toArray, List.length_cons, List.length_nil, Nat.reduceAdd, Nat.reduceSub, Array.replicate_succ, Array.replicate_zero, List.push_toArray, List.append_toArray, List.nil_append, List.cons_append]
  repeat (first | refine Walk.c rfl ?_ | refine Walk.cRet ?_ | refine Walk.cEnd ?_ | (refine Walk.cReg ?_; simp only [size4_0, size4_1, size4_2, size4_3, size4_4, size4_5, size4_6, size4_7, size4_8, size4_10, size4_11, size4_13, size4_12, size4_14, size4_9, size4_15, size4_16, size4_18, size4_17, size4_19, size4_20, size4_22, size4_21, size4_23, List.range, List.range.loop]) | (refine Walk.oq ?_; try walk_nrm) | (refine Walk.un ?_; walk_nrm))
  refine Walk.callE (ho_of (by conv => lhs; whnf) (by kernel_rfl)) (by rfl) (by decide) rfl Try.func13 (by kernel_rfl) (by rfl) ?_
  refine .stop fun d => ?_
  walk_nrm
  refine Runs.then (awake_run _ _ (W.at d)) ?_
  rintro _ w1 ⟨O1, rfl⟩
  have O1 := Old.un d O1
  refine Runs.go ?_
  refine Walk.finish (ho_of (by conv => lhs; whnf) (by kernel_rfl)) ?_
  walk_nrm
  repeat (first | refine Walk.c rfl ?_ | refine Walk.cRet ?_ | refine Walk.cEnd ?_ | (refine Walk.cReg ?_; simp only [size4_0, size4_1, size4_2, size4_3, size4_4, size4_5, size4_6, size4_7, size4_8, size4_10, size4_11, size4_13, size4_12, size4_14, size4_9, size4_15, size4_16, size4_18, size4_17, size4_19, size4_20, size4_22, size4_21, size4_23, List.range, List.range.loop]) | (refine Walk.oq ?_; try walk_nrm) | (refine Walk.un ?_; walk_nrm))
  refine Walk.callW (Post := fun v w' => ∃ fa fc ls, v = .slice fa Ps.length fc ∧ Coded w1 w' Ps fa fc Ps.length ls ∧ (Ps.length = 0 → fa = none ∧ fc = 0)) ?_ (ho_of (by conv => lhs; whnf) (by kernel_rfl)) (by rfl) (by decide) rfl Try.func15 (by kernel_rfl) (by rfl) ?_
  · walk_nrm
    exact codes_any pa pc l Ps w1 (S.old O1) hP hc fun b _ => apart0 b
  rintro v w2 ⟨fa, fc, ls, rfl, M, h0⟩
  have O2 := O1.trans M.old
  have hI : ∀ w', Old W w' → IntsAt wa zs w' ∧ IntsAt va sl w' := fun w' hO => ⟨fun j z h => by
    obtain ⟨s, so, e, hcell⟩ := hs j z h
    exact ⟨s, so, e, old_cell hO hcell⟩, fun j z h => by
    obtain ⟨s, so, e, hcell⟩ := hv j z h
    exact ⟨s, so, e, old_cell hO hcell⟩⟩
  clear O1
  walk_nrm
  repeat (first | refine Walk.c rfl ?_ | refine Walk.cRet ?_ | refine Walk.cEnd ?_ | (refine Walk.cReg ?_; simp only [size4_0, size4_1, size4_2, size4_3, size4_4, size4_5, size4_6, size4_7, size4_8, size4_10, size4_11, size4_13, size4_12, size4_14, size4_9, size4_15, size4_16, size4_18, size4_17, size4_19, size4_20, size4_22, size4_21, size4_23, List.range, List.range.loop]) | (refine Walk.oq ?_; try walk_nrm) | (refine Walk.un ?_; walk_nrm))
  refine Walk.callE (ho_of (by conv => lhs; whnf) (by kernel_rfl)) (by rfl) (by decide) rfl Try.func14 (by kernel_rfl) (by rfl) ?_
  refine .stop fun d2 => ?_
  walk_nrm
  refine Runs.then (play_any M h0 hc wa wc va vc 2000 zs sl (w2.at d2) ((Old.refl w2).at d2) hz hsl (hI _ (O2.at d2)).1 (hI _ (O2.at d2)).2 _ _) ?_
  rintro _ w3 ⟨ca, hPa, O3, rfl⟩
  have hPa : PlayOut w2.heap.size (Ps.take 64) zs 2000 sl ca w3 := hPa
  have O3 := Old.un d2 O3
  obtain ⟨hone, hsz⟩ : ca.all (·.oneCell') = true ∧ ca.size = 4 := by
    obtain ⟨_, _, _, _, _, _, e, _⟩ := hPa.trace
    exact ⟨by rw [e]; simp [trArr, Value.oneCell'], by rw [e]; rfl⟩
  refine Runs.go ?_
  refine Walk.finish (ho_of (by conv => lhs; whnf) (by kernel_rfl)) ?_
  walk_nrm
  (refine Walk.oa ?_; try walk_nrm)
  refine Walk.storeS 28 (.tmp 8) (.tmp 22) (ho_of (by conv => lhs; whnf) (by kernel_rfl)) (by rfl) (by decide) rfl w3.heap.size ca #[.slice none 0 0, .slice none 0 0, .slice none 0 0, .bool false] 28 rfl rfl (heap_alloc_new w3 _) (by rw [hsz]; kernel_rfl) (by rw [hsz]; rfl) hone (apart0 _) ?_
  rw [setRow_alloc]
  have hX := heap_alloc_new w3 (.cells ca 28)
  have O4 := old_alloc w3 (.cells ca 28)
  have hs4 : (w3.alloc (.cells ca 28)).heap.size = w3.heap.size + 1 := by simp
  clear hone hsz
  generalize w3.alloc (.cells ca 28) = w4 at *
  generalize hA : w3.heap.size = A at *
  have O24 := O3.trans O4
  have O4W := O2.trans O24
  walk_nrm
  repeat (first | refine Walk.c rfl ?_ | refine Walk.cRet ?_ | refine Walk.cEnd ?_ | (refine Walk.cReg ?_; simp only [size4_0, size4_1, size4_2, size4_3, size4_4, size4_5, size4_6, size4_7, size4_8, size4_10, size4_11, size4_13, size4_12, size4_14, size4_9, size4_15, size4_16, size4_18, size4_17, size4_19, size4_20, size4_22, size4_21, size4_23, List.range, List.range.loop]) | (refine Walk.oq ?_; try walk_nrm) | (refine Walk.un ?_; walk_nrm))
  refine Walk.callE (ho_of (by conv => lhs; whnf) (by kernel_rfl)) (by rfl) (by decide) rfl Try.func14 (by kernel_rfl) (by rfl) ?_
  refine .stop fun d4 => ?_
  walk_nrm
  refine Runs.then (play_any M h0 hc wa wc va vc 2000 zs sl (w4.at d4) (O24.at d4) hz hsl (hI _ (O4W.at d4)).1 (hI _ (O4W.at d4)).2 _ _) ?_
  rintro _ w5 ⟨cb, hPb, O5, rfl⟩
  have hPb : PlayOut w4.heap.size (Ps.take 64) zs 2000 sl cb w5 := hPb
  have O5 := Old.un d4 O5
  obtain ⟨hone, hsz⟩ : cb.all (·.oneCell') = true ∧ cb.size = 4 := by
    obtain ⟨_, _, _, _, _, _, e, _⟩ := hPb.trace
    exact ⟨by rw [e]; simp [trArr, Value.oneCell'], by rw [e]; rfl⟩
  refine Runs.go ?_
  refine Walk.finish (ho_of (by conv => lhs; whnf) (by kernel_rfl)) ?_
  walk_nrm
  (refine Walk.oa ?_; try walk_nrm)
  refine Walk.storeS 28 (.tmp 9) (.tmp 26) (ho_of (by conv => lhs; whnf) (by kernel_rfl)) (by rfl) (by decide) rfl w5.heap.size cb #[.slice none 0 0, .slice none 0 0, .slice none 0 0, .bool false] 28 rfl rfl (heap_alloc_new w5 _) (by rw [hsz]; kernel_rfl) (by rw [hsz]; rfl) hone (apart0 _) ?_
  rw [setRow_alloc]
  have hY := heap_alloc_new w5 (.cells cb 28)
  have O6 := old_alloc w5 (.cells cb 28)
  have hs6 : (w5.alloc (.cells cb 28)).heap.size = w5.heap.size + 1 := by simp
  clear hone hsz
  generalize w5.alloc (.cells cb 28) = w6 at *
  generalize hB : w5.heap.size = B at *
  have O46 := O5.trans O6
  have O6W := O4W.trans O46
  walk_nrm
  repeat (first | refine Walk.c rfl ?_ | refine Walk.cRet ?_ | refine Walk.cEnd ?_ | (refine Walk.cReg ?_; simp only [size4_0, size4_1, size4_2, size4_3, size4_4, size4_5, size4_6, size4_7, size4_8, size4_10, size4_11, size4_13, size4_12, size4_14, size4_9, size4_15, size4_16, size4_18, size4_17, size4_19, size4_20, size4_22, size4_21, size4_23, List.range, List.range.loop]) | (refine Walk.oq ?_; try walk_nrm) | (refine Walk.un ?_; walk_nrm))
  refine Walk.callW (Post := fun v w' => TraceNew w6.heap.size (Ps.take 64).length zs.length (playA (Ps.take 64) zs 2000 sl) v w' ∧ Old w6 w') ?_ (ho_of (by conv => lhs; whnf) (by kernel_rfl)) (by rfl) (by decide) rfl Try.func17 (by kernel_rfl) (by rfl) ?_
  · walk_nrm
    refine play17_w wa wc zs pa Ps.length pc (Ps.take 64).length va vc sl 2000 (fun i => (Ps.take 64).getD i []) (fun i => (l.getD i (none, 0, 0)).1) (fun i => (l.getD i (none, 0, 0)).2.2) w6 hz hnil (hI _ O6W).1 hsl hvn (hI _ O6W).2 (by rw [List.length_take]; omega) (fun i hi => ?_) (fun i hi => ?_) (fun i hi => ?_)
    · obtain ⟨pb, po, e, hcell, _⟩ := S.take hi
      exact ⟨pb, po, e, old_cell O6W hcell⟩
    · obtain ⟨_, _, _, _, hcd, _⟩ := S.take hi
      exact hcd.old O6W
    · obtain ⟨_, _, _, _, _, hm⟩ := S.take hi
      have := hc _ hm
      show ((Ps.take 64).getD i []).length ≤ 4398046511104
      omega
  rintro v w7 ⟨hT, O7⟩
  obtain ⟨t2, hv2, hone, hsz⟩ : ∃ t2 : Array Value, v = .agg t2 ∧ t2.all (·.oneCell') = true ∧ t2.size = 4 := by
    obtain ⟨_, _, _, _, _, _, _, _, e, _⟩ := hT
    exact ⟨_, e, by simp [trArr, Value.oneCell'], rfl⟩
  subst hv2
  walk_nrm
  (refine Walk.oa ?_; try walk_nrm)
  refine Walk.storeS 28 (.tmp 10) (.tmp 30) (ho_of (by conv => lhs; whnf) (by kernel_rfl)) (by rfl) (by decide) rfl w7.heap.size t2 #[.slice none 0 0, .slice none 0 0, .slice none 0 0, .bool false] 28 rfl rfl (heap_alloc_new w7 _) (by rw [hsz]; kernel_rfl) (by rw [hsz]; rfl) hone (apart0 _) ?_
  rw [setRow_alloc]
  have hZ := heap_alloc_new w7 (.cells t2 28)
  have O8 := old_alloc w7 (.cells t2 28)
  clear hone hsz
  generalize w7.alloc (.cells t2 28) = w8 at *
  generalize hC : w7.heap.size = C at *
  walk_nrm
  have hX8 := (((O46.trans O7).trans O8).same A (by omega)).trans hX
  have hY8 := ((O7.trans O8).same B (by omega)).trans hY
  have s3 := O3.size
  have s5 := O5.size
  have s7 := O7.size
  have sW := O2.size
  have rest := fun u => keeps_rest (W := W) (A0 := w2.heap.size) (A1 := A) (A := A) (B := B) (C := C) (wv := .slice wa zs.length wc) (pv := .slice pa Ps.length pc) (sv := .slice va sl.length vc) (lv := .slice fa Ps.length fc) hz hn64 hPa hA (O4.trans ((O46.trans O7).trans O8)) hPb (by omega) (O6.trans (O7.trans O8)) hT (by omega) O8 sW (O6W.trans (O7.trans O8)) (Nat.le_refl _) (by omega) (by omega) hX8 hY8 rfl hZ u
  clear hX hY hX8 hY8 hZ hPa hPb hT M S hI hs hv hc hnil hvn h0
  repeat (first | refine Walk.c rfl ?_ | refine Walk.cRet ?_ | refine Walk.cEnd ?_ | (refine Walk.cReg ?_; simp only [size4_0, size4_1, size4_2, size4_3, size4_4, size4_5, size4_6, size4_7, size4_8, size4_10, size4_11, size4_13, size4_12, size4_14, size4_9, size4_15, size4_16, size4_18, size4_17, size4_19, size4_20, size4_22, size4_21, size4_23, List.range, List.range.loop]) | (refine Walk.oq ?_; try walk_nrm) | (refine Walk.un ?_; walk_nrm))
  refine Walk.ctl rfl (fun w => stepG_loop) ?_
  refine slots_walk (F := fun u => G (hd4a (.slice wa zs.length wc) (.slice pa Ps.length pc) (.slice va sl.length vc) (.slice fa Ps.length fc) A B C 0 u) []) (fun u => (rest u).mono ?_) ?_
  · rintro g w' ⟨hcl, hO⟩
    exact Runs.now ⟨hcl, fun ho d' => ⟨rfl, ho.1, ho.2, fun b hb => hO.same b hb⟩⟩
  · simp only [hd4a]
    rfl
open Go.ChangeShapes Go.WideShapes Go.ChangeAt Go.Joins Go.Deep
theorem turnKeeps_lifted (os : Os) (started : os.Started) (H : Type) (enc : TypeId × Value → H) :
    ReturnsInLeavingWide {} Try.checked os 4 .any (Rows.turnKeepsSpec.pre6 enc Try.prog Try.f4 Rows.turnKeepsRow.domain false) (Rows.turnKeepsSpec.post enc Try.prog Try.f4 false true false false) := by
  refine returnsInLeavingWide_of_change_sized (C := Try.checked) prog_own started Try.func4
    (ChangeSpec.witness6 (enc := enc) (C := Try.checked) false ⟨#[], #[.slice none 0 0, .slice none 0 0, .slice none 0 0], []⟩ 8 (by kernel_rfl) (by kernel_rfl) (by kernel_rfl) (by kernel_rfl)) ?_
  intro W base args ds gs before hval0 hW _ hsz0 _
  have hval : ∀ (j : Nat) t v, Try.f4.params[j]? = some t → args[j]? = some v → Value.okWide Try.prog W .any base t v := hval0
  have hW' := hW
  obtain ⟨p, q, hA0, hV, rfl, _, _⟩ := hW
  have hA : DataW.TrodAll enc Try.prog W 0 (fun _ => true) true Try.f4.params.toList args.toList ds p := hA0
  rw [Try.params4] at hA hval
  have hsz : (DataW.weightsEach Try.prog (Try.f4.params.toList ++ Rows.turnKeepsSpec.plain.varTypes Try.prog) (ds ++ gs)).all (· ≤ reachBytes) = true := hsz0
  rw [Try.params4] at hsz
  obtain ⟨v0, v1, v2, d0, d1, d2, p0, p1, p2, rfl, rfl, rfl, h0, h1, h2⟩ := trodAll_three hA
  obtain ⟨rfl, rfl⟩ := trodVars_none hV
  have hlt := hW'.lt
  obtain ⟨wa, wc, zs, rfl, hzs, hs, hnil⟩ := open_nums64 (t := 22) (by kernel_rfl) (hval 0 22 v0 rfl rfl) h0 (j := 0) hsz rfl rfl
  obtain ⟨pa, pc, l, Ps, rfl, S, hP, hc⟩ := open_progs (t := 23) (by kernel_rfl) (by kernel_rfl) (hval 1 23 v1 rfl rfl) h1 (j := 1) hsz rfl rfl
  obtain ⟨va, vc, sl, rfl, hsl, hv, hvn⟩ := open_nums (t := 24) (by kernel_rfl) (hval 2 24 v2 rfl rfl) h2 (j := 2) hsz rfl rfl
  clear hA0 hval0 hsz0 hsz
  simp only [List.append_nil] at hW' hlt
  obtain ⟨M, last, o, w', t', r1, r2, r3, r4⟩ := run_claim (t := 6) Try.func4 rfl (by kernel_rfl) (keeps_all wa wc zs pa pc l Ps va vc sl W hzs hnil hs S hP hc hsl hvn hv)
  refine ⟨M, last, o, w', t', r1, r2, r3, r4.mono fun v hF => ?_⟩
  have hk : Left W (.bool true) w' := ⟨rfl, hF.2⟩
  obtain rfl : v = .bool true := hF.1
  exact ⟨_, _, _, [], _, [], hW', trodAll_mk1 (shut_bool und4_is true), trodAll_mk3 (hk.stays (by kernel_rfl) (of_decide_eq_true (by kernel_rfl)) h0 fun x hx => hlt x (by simp [hx])) (hk.stays (by kernel_rfl) (of_decide_eq_true (by kernel_rfl)) h1 fun x hx => hlt x (by simp [hx])) (hk.stays (by kernel_rfl) (of_decide_eq_true (by kernel_rfl)) h2 fun x hx => hlt x (by simp [hx])), rfl, hk.kept _, fun h => by cases h⟩
theorem turnKeeps_holds : Rows.TurnKeepsSaid :=
  OpenClaim.holds_of_wide_leaving 4 Try.f4 rfl rfl rfl rfl rfl rfl rfl ⟨rfl, rfl, rfl, rfl, rfl⟩ rfl rfl rfl rfl rfl (by kernel_rfl) Try.func4 (by kernel_rfl)
    (of_decide_eq_true (by kernel_rfl)) (by unfold Func.isWrapper; first | (rw [if_pos (by decide +kernel)]; kernel_rfl) | (rw [if_neg (by decide +kernel)]; exact ⟨rfl, rfl⟩))
    (fun os started H enc _ => turnKeeps_lifted os started H enc)
end
end Go.Proofs.Ytgiiicdpbdfemaa
