/- Part 24. -/
import Derived.Test.YtdmpmoggacjgcaaJ3
import Derived.Test.YtdmpmoggacjgcaaJ16
import Derived.Test.YtdmpmoggacjgcaaJ20
import Derived.Test.YtdmpmoggacjgcaaJ23
set_option linter.unusedSimpArgs false
set_option linter.unusedVariables false
set_option maxHeartbeats 8000000
set_option maxRecDepth 100000
namespace Go.Proofs.Ytdmpmoggacjgcaa
open Go.Conc Go.RowKit Go.Relay
open Go.ConcN (upd upd_ne upd_same)
section
section
variable {P : Program} {main : Bool} {V : Nat → Option Wait} {Stop : Goroutine → World → Prop} {b : Frame} {a : Act} {cs : List Frame} {w : World} {fn : Func} {todo : List Item} {c : Frame} {t s r q : Tmp}
theorem Walk.on4 (hn : b.kind = .normal) (hd : a.defers = []) (hf : P.funcs[b.fn]? = some fn) (hr : fn.results = #[.tmp t, .tmp s, .tmp r, .tmp q]) (h : Walk P main (DR V) Stop (G (c.finish (.tuple #[a.tmps.getD t undef, a.tmps.getD s undef, a.tmps.getD r undef, a.tmps.getD q undef])) cs) w) : Walk P main (DR V) Stop (G { b.at a todo with mode := .returning } (c :: cs)) w :=
 Walk.ctl rfl (fun w => stepG_leave (v := .tuple #[a.tmps.getD t undef, a.tmps.getD s undef, a.tmps.getD r undef, a.tmps.getD q undef]) hn hd hf (by simp [results, hr]) (by simp [results, hr])) h
end
def headsV (s : Sk) : Value := .tuple #[.int .i64 (nodeX s.hd), .int .i64 (tagX s.hd), .int .i64 (nodeX s.fr), .int .i64 (tagX s.fr)]
def valsX (s : Sk) : Nat → Int → List Int
 | 0, _ => []
 | f + 1, i => if i = -1 then [] else s.vl i.toNat :: valsX s f (s.nx i.toNat)
def intRow (l : List Int) : List Value := l.map (.int .i64)
noncomputable def reg19_0 := rg Try.f19.body [0]
noncomputable def reg19_1 := rg Try.f19.body [1, 0, 0]
noncomputable def reg19_2 := rg Try.f19.body [1, 0, 1, 0, 0]
noncomputable def reg19_3 := rg Try.f19.body [1, 1, 0]
theorem size19_3 : reg19_3.size = 10 := by kernel_rfl
noncomputable def reg19_4 := rg Try.f19.body [1, 1, 1, 0]
theorem z19 : List.range reg19_0.size = [0, 1, 2, 3] ∧ List.range reg19_1.size = [0, 1] ∧ List.range reg19_2.size = [0, 1, 2, 3] ∧ List.range reg19_3.size = [0, 1, 2, 3, 4, 5, 6, 7, 8, 9] ∧ List.range reg19_4.size = [0, 1, 2, 3, 4, 5, 6, 7, 8, 9, 10, 11] := by refine ⟨?_, ?_, ?_, ?_, ?_⟩ <;> kernel_rfl
theorem code19_is : Try.f19.body = some (.seq (.region 0 reg19_0 false) (.seq (.seq (.region 1 reg19_1 false) (.cond (.tmp 9 ) (.seq (.region 2 reg19_2 false) (.ret)) (.skip))) (.seq (.region 3 reg19_3 true) (.seq (.region 4 reg19_4 false) (.ret))))) := by kernel_rfl
noncomputable def reg20_0 := rg Try.f20.body [0]
noncomputable def reg20_1 := rg Try.f20.body [1, 0, 0]
noncomputable def reg20_2 := rg Try.f20.body [1, 0, 1, 0, 0]
noncomputable def reg20_3 := rg Try.f20.body [1, 1, 0]
noncomputable def reg20_4 := rg Try.f20.body [1, 1, 1, 0, 0]
noncomputable def reg20_5 := rg Try.f20.body [1, 1, 1, 0, 1, 0, 0, 0, 0]
noncomputable def reg20_7 := rg Try.f20.body [1, 1, 1, 0, 1, 0, 0, 1, 0, 0]
noncomputable def reg20_6 := rg Try.f20.body [1, 1, 1, 0, 1, 0, 0, 1, 1]
noncomputable def reg20_8 := rg Try.f20.body [1, 1, 1, 1, 0]
theorem z20 : List.range reg20_0.size = [0] ∧ List.range reg20_1.size = [0, 1] ∧ List.range reg20_2.size = [0] ∧ List.range reg20_3.size = [0] ∧ List.range reg20_4.size = [0, 1, 2, 3, 4, 5] ∧ List.range reg20_5.size = [0, 1, 2, 3, 4, 5, 6, 7, 8, 9, 10, 11] ∧ List.range reg20_6.size = [0, 1, 2, 3, 4, 5, 6, 7, 8] ∧ List.range reg20_7.size = [0, 1, 2, 3, 4, 5, 6, 7, 8, 9, 10, 11] ∧ List.range reg20_8.size = [0, 1] := by refine ⟨?_, ?_, ?_, ?_, ?_, ?_, ?_, ?_, ?_⟩ <;> kernel_rfl
theorem code20_is : Try.f20.body = some (.seq (.region 0 reg20_0 false) (.seq (.seq (.region 1 reg20_1 false) (.cond (.tmp 6 ) (.seq (.region 2 reg20_2 false) (.ret)) (.skip))) (.seq (.region 3 reg20_3 false) (.seq (.seq (.region 4 reg20_4 false) (.block 0 (.loop (.seq (.seq (.region 5 reg20_5 false) (.cond (.tmp 23 ) (.skip) (.exit 0))) (.seq (.block 1 (.region 7 reg20_7 false)) (.region 6 reg20_6 false)))))) (.seq (.region 8 reg20_8 false) (.ret)))))) := by kernel_rfl
section
variable {main : Bool} {V : Nat → Option Wait} {kb nb n : Nat} {tg : Bool}
theorem heads_w (s : Sk) (w : World) (I : SkI kb nb n tg s w) : CallV Try.prog main V 19 #[.pointer (some ⟨kb, 0, none⟩)] w (headsV s) w := by
 have hp1 := fun w => run_eql_ptr (P := Try.prog) 38 (by kernel_rfl : Try.prog.underlying 38 = some (.pointer 70)) (some ⟨kb, 0, none⟩) w
 have hp2 := fun w es => ev_eql_ptr (P := Try.prog) 38 (by kernel_rfl : Try.prog.underlying 38 = some (.pointer 70)) (some ⟨kb, 0, none⟩) w es
 simp only [Option.isNone_some] at hp1
 have c1 : w.cell? ⟨kb, 0 + 1, none⟩ = some (.int .i64 s.hd) := (cell_of I.k 1).trans rfl
 have c3 : w.cell? ⟨kb, 2 + 1, none⟩ = some (.int .i64 s.fr) := (cell_of I.k 3).trans rfl
 refine callW_in Try.func19 code19_is fun fr cs => ?_
 simp only [Try.ntmps19, ez, Nat.reduceAdd, Nat.reduceSub]
 refine Walk.gz z19 ?_
 (refine Walk.drawnCW (by kernel_rfl) size19_3 (by kernel_rfl) (by kernel_rfl) (by decide) ?_; simp only [List.range, List.range.loop]; repeat (first | (refine Cm.oq ?_) | (refine Cm.unw hoA (by rfl) ?_; walk_nrm)))
 refine Cm.callV (x := .int .i64 s.hd) ?_ hoA (by rfl) rfl Try.func45 (by kernel_rfl) (by rfl) ?_
 ·intro w' he
  subst he
  walk_nrm
  exact hload_nil kb 0 s.hd _ c1
 walk_nrm
 repeat (first | (refine Cm.oq ?_) | (refine Cm.unw hoA (by rfl) ?_; walk_nrm))
 refine Cm.callV (x := .int .i64 s.fr) ?_ hoA (by rfl) rfl Try.func45 (by kernel_rfl) (by rfl) ?_
 ·intro w' he
  subst he
  walk_nrm
  exact hload_nil kb 2 s.fr _ c3
 walk_nrm
 repeat (first | (refine Cm.oq ?_) | (refine Cm.unw hoA (by rfl) ?_; walk_nrm))
 refine Cm.done ?_
 refine Walk.gz z19 ?_
 refine Walk.callV (x := .int .i64 (nodeX s.hd)) (W := w) ?_ hoA (by rfl) (by decide) rfl Try.func46 (by kernel_rfl) (by rfl) ?_
 ·walk_nrm
  exact node_w _ w
 walk_nrm
 repeat (first | (refine Walk.oq ?_; try walk_nrm) | (refine Walk.un ?_; walk_nrm))
 refine Walk.callV (x := .int .i64 (tagX s.hd)) (W := w) ?_ hoA (by rfl) (by decide) rfl Try.func47 (by kernel_rfl) (by rfl) ?_
 ·walk_nrm
  exact tag_w _ w
 walk_nrm
 repeat (first | (refine Walk.oq ?_; try walk_nrm) | (refine Walk.un ?_; walk_nrm))
 refine Walk.callV (x := .int .i64 (nodeX s.fr)) (W := w) ?_ hoA (by rfl) (by decide) rfl Try.func46 (by kernel_rfl) (by rfl) ?_
 ·walk_nrm
  exact node_w _ w
 walk_nrm
 repeat (first | (refine Walk.oq ?_; try walk_nrm) | (refine Walk.un ?_; walk_nrm))
 refine Walk.callV (x := .int .i64 (tagX s.fr)) (W := w) ?_ hoA (by rfl) (by decide) rfl Try.func47 (by kernel_rfl) (by rfl) ?_
 ·walk_nrm
  exact tag_w _ w
 walk_nrm
 refine Walk.gz z19 ?_
 exact Walk.on4 rfl rfl Try.func19 rfl (.stop fun d => ⟨_, ⟨rfl, d, rfl⟩, rfl⟩)
structure VI (w0 w : World) (pre : List Int) (ta : Option Addr) (tc : Nat) : Prop where
 row : w.ownsRow w0.heap.size 2 1 (.slice ta pre.length tc) pre.length (intRow pre)
 old : ∀ b, b < w0.heap.size → w.heap[b]? = w0.heap[b]?
 size : w0.heap.size ≤ w.heap.size
noncomputable def hdVal (kb : Nat) (av : Value) (i : Int) (u : Nat → Value) : Frame :=
 (base 20).at { tmps := #[.pointer (some ⟨kb, 0, none⟩), u 1, u 2, av, .int .i64 i, u 5, u 6, u 7, u 8, u 9, u 10, u 11, u 12, u 13, u 14, u 15, u 16, u 17, u 18, u 19, u 20, u 21, u 22, u 23, u 24, u 25, u 26, u 27, u 28, u 29, u 30, u 31, u 32, u 33, u 34, u 35, u 36, u 37, u 38, u 39, u 40, u 41, u 42, u 43], defers := [] } [.code (.seq (.seq (.region 5 reg20_5 false) (.cond (.tmp 23 ) (.skip) (.exit 0))) (.seq (.block 1 (.region 7 reg20_7 false)) (.region 6 reg20_6 false))), .inLoop (.seq (.seq (.region 5 reg20_5 false) (.cond (.tmp 23 ) (.skip) (.exit 0))) (.seq (.block 1 (.region 7 reg20_7 false)) (.region 6 reg20_6 false))), .inBlock 0, .code (.seq (.region 8 reg20_8 false) (.ret))]
theorem val_end (s : Sk) (i : Int) (pre : List Int) (ta : Option Addr) (tc : Nat) (w0 w : World) (I : SkI kb nb n tg s w) (hp : pre.length ≤ n) (hn : n ≤ 65536) (he : i = -1 ∨ (pre.length = n ∧ (i == -1) = false)) (u : Nat → Value) (c : Frame) (cs : List Frame) :
  Walk Try.prog main (DR V) (fun g w' => g = G (c.finish (.slice ta pre.length tc)) cs ∧ ∃ d, w' = w.at d) (G (hdVal kb (.slice ta pre.length tc) i u) (c :: cs)) w := by
 have hsl := sk_nodes I
 unfold hdVal
 rcases he with rfl | ⟨he, hi⟩
 ·refine Walk.gz z20 ?_
  exact Walk.on1 rfl rfl Try.func20 rfl (.stop fun d => ⟨rfl, d, rfl⟩)
 ·have hb1 : (i != -1) = true := by unfold bne; rw [hi]; rfl
  have hl1 : decide ((pre.length : Int) < n) = false := by simp; omega
  have hl2 : decide (pre.length < n) = false := by simp; omega
  have hl3 : ¬ pre.length < n := by omega
  refine Walk.gz z20 ?_
  exact Walk.on1 rfl rfl Try.func20 rfl (.stop fun d => ⟨by rw [he]; rfl, d, rfl⟩)
end
end
section
section
variable {main : Bool} {V : Nat → Option Wait} {kb nb n : Nat} {tg : Bool}
theorem SkI.old {s : Sk} {w0 w : World} (I : SkI kb nb n tg s w0) (h : ∀ b, b < w0.heap.size → w.heap[b]? = w0.heap[b]?) : SkI kb nb n tg s w :=
 (skLa kb nb n tg).stable I fun b hb => h b ((skLa kb nb n tg).lt I hb)
theorem val_round (hne : kb ≠ nb) (s : Sk) (j : Nat) (pre : List Int) (ta : Option Addr) (tc : Nat) (w0 w : World) (I0 : SkI kb nb n tg s w0) (hp : pre.length < n) (hn : n ≤ 65536) (hj : j < n) (H : VI w0 w pre ta tc) (hA : ∀ b, Apart V b) (u : Nat → Value) (cs : List Frame) :
  Walk Try.prog main (DR V) (fun g w' => ∃ ta' tc', (∃ u, g = G (hdVal kb (.slice ta' (pre ++ [s.vl j]).length tc') (s.nx j) u) cs) ∧ VI w0 w' (pre ++ [s.vl j]) ta' tc') (G (hdVal kb (.slice ta pre.length tc) (j : Nat) u) cs) w := by
 have hi2 := Option.some_get (show (Try.prog.info? 2).isSome = true by kernel_rfl)
 have I : SkI kb nb n tg s w := I0.old H.old
 have hsl := sk_nodes I
 obtain ⟨arr, h1, h2⟩ := I.nd
 have cn := (cell_of h1 _).trans (h2 j hj).1
 have cv := (cell_of h1 _).trans (h2 j hj).2
 have hb0 : ((j : Int) == -1) = false := by simp
 have hb1 : ((j : Int) != -1) = true := by unfold bne; rw [hb0]; rfl
 have hl1 : decide ((pre.length : Int) < n) = true := by simp; omega
 have hl2 : decide (pre.length < n) = true := by simp; omega
 have hi0 : (0 : Int) ≤ j := by omega
 have hi1 : decide ((j : Int) < n) = true := by simp; omega
 have hi3 : decide (j < n) = true := by simp; omega
 unfold hdVal
 refine Walk.gz z20 ?_
 refine Walk.callV (x := .int .i64 (s.vl j)) (W := w) ?_ hoA (by rfl) (by decide) rfl Try.func48 (by kernel_rfl) (by rfl) ?_
 ·walk_nrm
  exact value_nil nb _ _ w cv
 walk_nrm
 repeat (first | (refine Walk.oq ?_; try walk_nrm) | (refine Walk.un ?_; walk_nrm))
 (refine Walk.oa ?_; try walk_nrm)
 have hs1 : (w.alloc (.cells #[.int .i64 (s.vl j)] 2)).heap.size = w.heap.size + 1 := by simp
 have o1 : ∀ b, b < w.heap.size → (w.alloc (.cells #[.int .i64 (s.vl j)] 2)).heap[b]? = w.heap[b]? := fun b hb => heap_new_lt _ _ hb
 have d1 := heap_alloc_new w (.cells #[.int .i64 (s.vl j)] 2)
 have hrow : (w.alloc (.cells #[.int .i64 (s.vl j)] 2)).ownsRow w0.heap.size 2 1 (.slice ta pre.length tc) pre.length (intRow pre) := row_same H.row fun b hb => o1 b (H.row.lt b hb).2
 have hnews : ∀ (q : Nat) (x : Value), ([.int .i64 (s.vl j)] : List Value)[q]? = some x → (w.alloc (.cells #[.int .i64 (s.vl j)] 2)).cell? ((⟨w.heap.size, 0, none⟩ : Addr).add q) = some x := fun q x hx => by
  rw [add_none, Nat.zero_add]
  refine (cell_of d1 q).trans ?_
  simpa using hx
 have hHs := H.size
 refine Walk.append (.tmp 32) (.tmp 41) 25 hoA (by rfl) (by decide) rfl w0.heap.size 2 _ (.int .i64 0) 1 8 (by kernel_rfl) hi2.symm (by rfl) (by rfl) (by rfl) (by rfl) (by decide) (.slice ta pre.length tc) pre.length (intRow pre) rfl hrow ⟨w.heap.size, 0, none⟩ 1 1 [.int .i64 (s.vl j)] rfl (by rfl) hnews (by simp [Value.oneCell']) (by decide) (by simp [maxLen]; omega) (by omega) (by omega) (fun b _ => hA b) (fun g gcap w3 hown3 hgr hat hlt => ?_)
 have hold : ∀ b, b < w0.heap.size → w3.heap[b]? = w0.heap[b]? := fun b hb => (hgr.block b (by omega) (fun he => by have := (H.row.lt b he.symm).1; omega)).trans ((o1 b (by omega)).trans (H.old b hb))
 have hs3 := hgr.size
 have hsz : w0.heap.size ≤ w3.heap.size := by omega
 clear hrow hnews o1 d1
 have I3 : SkI kb nb n tg s w3 := I0.old hold
 have hsl3 := sk_nodes I3
 obtain ⟨arr3, g1, g2⟩ := I3.nd
 have cn3 := (cell_of g1 _).trans (g2 j hj).1
 clear hsl cn cv h1 h2 I
 generalize w.alloc (.cells #[.int .i64 (s.vl j)] 2) = w1 at *
 walk_nrm
 refine Walk.gz z20 ?_
 refine Walk.callV (x := .int .i64 (s.nx j)) (W := w3) ?_ hoA (by rfl) (by decide) rfl Try.func48 (by kernel_rfl) (by rfl) ?_
 ·walk_nrm
  exact value_nil nb _ _ w3 cn3
 walk_nrm
 refine Walk.gz z20 ?_
 refine Walk.ctl rfl (fun w => stepG_inLoop) ?_
 refine .stop fun d => ⟨some ⟨g, 0, none⟩, gcap, at_slots ?_, ?_, hold, hsz⟩
 ·rw [List.length_append, List.length_singleton]
  simp only [hdVal]
  rfl
 ·have : intRow (pre ++ [s.vl j]) = intRow pre ++ [.int .i64 (s.vl j)] := by simp [intRow]
  rw [this, List.length_append, List.length_singleton]
  exact hown3
def ValOut (w0 : World) (l : List Int) (v : Value) (w' : World) : Prop := ∃ ta tc, v = .slice ta l.length tc ∧ VI w0 w' l ta tc
theorem val_loop (hne : kb ≠ nb) (s : Sk) (w0 : World) (I0 : SkI kb nb n tg s w0) (hn : n ≤ 65536) (hA : ∀ b, Apart V b) (c : Frame) (cs : List Frame) :
  ∀ (r : Nat) (i : Int) (pre : List Int) (ta : Option Addr) (tc : Nat) (u : Nat → Value) (w : World), pre.length + r = n → -1 ≤ i → i < n → VI w0 w pre ta tc →
   Walk Try.prog main (DR V) (fun g w' => ∃ v, ValOut w0 (pre ++ valsX s r i) v w' ∧ g = G (c.finish v) cs) (G (hdVal kb (.slice ta pre.length tc) i u) (c :: cs)) w := by
 intro r
 induction r with
 | zero =>
  intro i pre ta tc u w hr h1 h2 H
  refine (val_end s i pre ta tc w0 w (I0.old H.old) (by omega) hn ?_ u c cs).mono ?_
  ·by_cases e : i = -1
   ·exact .inl e
   ·exact .inr ⟨by omega, by simp [e]⟩
  ·rintro g w' ⟨rfl, d, rfl⟩
   refine ⟨_, ⟨ta, tc, ?_, ?_⟩, rfl⟩
   ·simp [valsX]
   ·simp only [valsX, List.append_nil]
    exact ⟨H.row, H.old, H.size⟩
 | succ r ih =>
  intro i pre ta tc u w hr h1 h2 H
  by_cases e : i = -1
  ·refine (val_end s i pre ta tc w0 w (I0.old H.old) (by omega) hn (.inl e) u c cs).mono ?_
   rintro g w' ⟨rfl, d, rfl⟩
   refine ⟨_, ⟨ta, tc, ?_, ?_⟩, rfl⟩
   ·simp [valsX, e]
   ·simp only [valsX, e, if_true, List.append_nil]
    exact ⟨H.row, H.old, H.size⟩
  ·obtain ⟨j, rfl⟩ : ∃ j : Nat, i = j := ⟨i.toNat, by omega⟩
   have hj : j < n := by omega
   refine (val_round hne s j pre ta tc w0 w I0 (by omega) hn hj H hA u (c :: cs)).then ?_
   rintro g w' ⟨ta', tc', ⟨u', rfl⟩, H'⟩
   obtain ⟨x1, x2⟩ := I0.nx j hj
   refine (ih (s.nx j) (pre ++ [s.vl j]) ta' tc' u' w' (by simp; omega) x1 x2 H').mono ?_
   rintro g w' ⟨v, hv, rfl⟩
   refine ⟨v, ?_, rfl⟩
   have : pre ++ valsX s (r + 1) (j : Int) = pre ++ [s.vl j] ++ valsX s r (s.nx j) := by
    simp [valsX, e]
   rw [this]
   exact hv
theorem values_w (hne : kb ≠ nb) (s : Sk) (w : World) (I : SkI kb nb n tg s w) (hn : n ≤ 65536) (hA : ∀ b, Apart V b) : CallW Try.prog main V 20 #[.pointer (some ⟨kb, 0, none⟩)] w (ValOut w (valsX s n (nodeX s.hd))) := by
 intro c cs
 have hp1 := fun w => run_eql_ptr (P := Try.prog) 38 (by kernel_rfl : Try.prog.underlying 38 = some (.pointer 70)) (some ⟨kb, 0, none⟩) w
 have hp2 := fun w es => ev_eql_ptr (P := Try.prog) 38 (by kernel_rfl : Try.prog.underlying 38 = some (.pointer 70)) (some ⟨kb, 0, none⟩) w es
 simp only [Option.isNone_some] at hp1
 have c1 : w.cell? ⟨kb, 0 + 1, none⟩ = some (.int .i64 s.hd) := (cell_of I.k 1).trans rfl
 have key := fun u => val_loop (main := main) hne s w I hn hA c cs n (nodeX s.hd) [] none 0 u w (by simp) I.hd.nlo I.hd.nhi ⟨⟨rfl, .inl ⟨rfl, rfl⟩⟩, fun _ _ => rfl, Nat.le_refl _⟩
 simp only [List.nil_append, List.length_nil] at key
 rw [enter_at _ Try.func20 code20_is]
 simp only [Try.ntmps20, ez, Nat.reduceAdd, Nat.reduceSub]
 refine Walk.gz z20 ?_
 refine Walk.callV (x := .int .i64 s.hd) (W := w) ?_ hoA (by rfl) (by decide) rfl Try.func45 (by kernel_rfl) (by rfl) ?_
 ·walk_nrm
  exact hload_nil kb 0 s.hd w c1
 walk_nrm
 repeat (first | (refine Walk.oq ?_; try walk_nrm) | (refine Walk.un ?_; walk_nrm))
 refine Walk.callV (x := .int .i64 (nodeX s.hd)) (W := w) ?_ hoA (by rfl) (by decide) rfl Try.func46 (by kernel_rfl) (by rfl) ?_
 ·walk_nrm
  exact node_w _ w
 walk_nrm
 refine Walk.gz z20 ?_
 refine Walk.ctl rfl (fun w => stepG_loop) ?_
 refine slots_walk (F := fun u => G (hdVal kb (.slice none 0 0) (nodeX s.hd) u) (c :: cs)) key ?_
 simp only [hdVal]
 rfl
end
end
section
noncomputable def reg40_0 := rg Try.f40.body [0]
noncomputable def reg40_1 := rg Try.f40.body [1, 0]
noncomputable def reg40_2 := rg Try.f40.body [1, 1, 0]
noncomputable def reg40_3 := rg Try.f40.body [1, 1, 1, 0, 0]
noncomputable def reg40_4 := rg Try.f40.body [1, 1, 1, 0, 1, 0, 0, 0, 0]
noncomputable def reg40_6 := rg Try.f40.body [1, 1, 1, 0, 1, 0, 0, 1, 0, 0, 0]
noncomputable def reg40_7 := rg Try.f40.body [1, 1, 1, 0, 1, 0, 0, 1, 0, 0, 1]
noncomputable def reg40_5 := rg Try.f40.body [1, 1, 1, 0, 1, 0, 0, 1, 1]
noncomputable def reg40_8 := rg Try.f40.body [1, 1, 1, 1, 0]
theorem z40 : List.range reg40_0.size = [0] ∧ List.range reg40_1.size = [0] ∧ List.range reg40_2.size = [0, 1, 2, 3, 4, 5] ∧ List.range reg40_3.size = [0] ∧ List.range reg40_4.size = [0, 1, 2, 3, 4, 5, 6, 7, 8, 9, 10] ∧ List.range reg40_5.size = [0, 1, 2] ∧ List.range reg40_6.size = [0, 1, 2, 3, 4, 5, 6, 7, 8, 9, 10] ∧ List.range reg40_7.size = [0, 1, 2, 3, 4, 5, 6, 7] ∧ List.range reg40_8.size = [0, 1] := by refine ⟨?_, ?_, ?_, ?_, ?_, ?_, ?_, ?_, ?_⟩ <;> kernel_rfl
theorem code40_is : Try.f40.body = some (.seq (.region 0 reg40_0 false) (.seq (.region 1 reg40_1 false) (.seq (.region 2 reg40_2 false) (.seq (.seq (.region 3 reg40_3 false) (.block 0 (.loop (.seq (.seq (.region 4 reg40_4 false) (.cond (.tmp 21 ) (.skip) (.exit 0))) (.seq (.block 1 (.seq (.region 6 reg40_6 false) (.region 7 reg40_7 false))) (.region 5 reg40_5 false)))))) (.seq (.region 8 reg40_8 false) (.ret)))))) := by kernel_rfl
noncomputable def hdRV (m : Nat) (ov : Value) (at' : Int) (i : Nat) (u : Nat → Value) : Frame :=
 (base 40).at { tmps := #[.pointer (some ⟨m, 0, none⟩), u 1, u 2, ov, .int .i64 at', .int .i64 i, u 6, u 7, u 8, u 9, u 10, u 11, u 12, u 13, u 14, u 15, u 16, u 17, u 18, u 19, u 20, u 21, u 22, u 23, u 24, u 25, u 26, u 27, u 28, u 29, u 30, u 31, u 32, u 33, u 34, u 35, u 36, u 37, u 38, u 39, u 40, u 41], defers := [] } [.code (.seq (.seq (.region 4 reg40_4 false) (.cond (.tmp 21 ) (.skip) (.exit 0))) (.seq (.block 1 (.seq (.region 6 reg40_6 false) (.region 7 reg40_7 false))) (.region 5 reg40_5 false))), .inLoop (.seq (.seq (.region 4 reg40_4 false) (.cond (.tmp 21 ) (.skip) (.exit 0))) (.seq (.block 1 (.seq (.region 6 reg40_6 false) (.region 7 reg40_7 false))) (.region 5 reg40_5 false))), .inBlock 0, .code (.seq (.region 8 reg40_8 false) (.ret))]
section
variable {main : Bool} {S : Nat → Prop} {m nb vb n cn cv : Nat} {tg : Bool} {tl : Value} {s : Sk}
theorem rval_in (w : World) (M : MaX S m nb vb n cn cv tg tl s w) (cs : List Frame) :
  Walk Try.prog main (DR (fun _ => none)) (fun g w' => (∃ u, g = G (hdRV m (.slice none 0 0) (nodeX s.hd) 0 u) cs) ∧ ∃ d, w' = w.at d) (G (Frame.enter Try.prog 40 #[.pointer (some ⟨m, 0, none⟩)] .normal) cs) w := by
 have c2 := mc2 M.blk
 rw [enter_at _ Try.func40 code40_is]
 simp only [Try.ntmps40, ez, Nat.reduceAdd, Nat.reduceSub]
 refine Walk.gz z40 ?_
 refine Walk.ctl rfl (fun w => stepG_loop) ?_
 refine .stop fun d => ⟨at_slots ?_, d, rfl⟩
 simp only [hdRV]
 rfl
theorem rval_end (i : Nat) (a : Int) (ov : Value) (w : World) (M : MaX S m nb vb n cn cv tg tl s w) (h : i = n ∨ (i < n ∧ a = -1)) (u : Nat → Value) (c : Frame) (cs : List Frame) :
  Walk Try.prog main (DR (fun _ => none)) (fun g w' => g = G (c.finish ov) cs ∧ ∃ d, w' = w.at d) (G (hdRV m ov a i u) (c :: cs)) w := by
 have c0 := mc0 M.blk
 clear M
 unfold hdRV
 by_cases hin : i < n
 ·obtain ⟨_, rfl⟩ := h.resolve_left (by omega)
  clear h
  refine Walk.gz z40 ?_
  exact Walk.on1 rfl rfl Try.func40 rfl (.stop fun d => ⟨rfl, d, rfl⟩)
 ·have hd1 : decide (i < n) = false := by simpa using hin
  have hd2 : decide ((i : Int) < n) = false := by simp; omega
  clear h
  refine Walk.gz z40 ?_
  exact Walk.on1 rfl rfl Try.func40 rfl (.stop fun d => ⟨rfl, d, rfl⟩)
theorem rval_round (i j : Nat) (pre : List Int) (ta : Option Addr) (tc : Nat) (w0 w : World) (hi : i < n) (hj : j < n) (hn : n ≤ 65536) (hp : pre.length ≤ 65536) (M : MaX S m nb vb n cn cv tg tl s w) (hS : ∀ g, S g → g < w0.heap.size) (H : VI w0 w pre ta tc) (u : Nat → Value) (cs : List Frame) :
  Walk Try.prog main (DR (fun _ => none)) (fun g w' => ∃ ta' tc', (∃ u, g = G (hdRV m (.slice ta' (pre ++ [s.vl j]).length tc') (s.nx j) (i + 1) u) cs) ∧ VI w0 w' (pre ++ [s.vl j]) ta' tc') (G (hdRV m (.slice ta pre.length tc) (j : Nat) i u) cs) w := by
 have hi2 := Option.some_get (show (Try.prog.info? 2).isSome = true by kernel_rfl)
 have hw1 : IntKind.wrap .i64 ((i : Int) + 1) = (i : Int) + 1 := by rw [IntKind.wrap_i64]; omega
 have hi1 : (i : Int) < n := by omega
 have hj0 : (0 : Int) ≤ j := by omega
 have c0 := mc0 M.blk
 have c1 := mc1 M.blk
 have x0 := M.nxc hj
 have y0 := M.vlc hj
 conv => arg 5; unfold hdRV
 refine Walk.gz z40 ?_
 (refine Walk.oa ?_; try walk_nrm)
 have hs1 : (w.alloc (.cells #[.int .i64 (s.vl j)] 2)).heap.size = w.heap.size + 1 := by simp
 have o1 : ∀ b, b < w.heap.size → (w.alloc (.cells #[.int .i64 (s.vl j)] 2)).heap[b]? = w.heap[b]? := fun b hb => heap_new_lt _ _ hb
 have d1 := heap_alloc_new w (.cells #[.int .i64 (s.vl j)] 2)
 have hrow : (w.alloc (.cells #[.int .i64 (s.vl j)] 2)).ownsRow w0.heap.size 2 1 (.slice ta pre.length tc) pre.length (intRow pre) := row_same H.row fun b hb => o1 b (H.row.lt b hb).2
 have hnews : ∀ (q : Nat) (x : Value), ([.int .i64 (s.vl j)] : List Value)[q]? = some x → (w.alloc (.cells #[.int .i64 (s.vl j)] 2)).cell? ((⟨w.heap.size, 0, none⟩ : Addr).add q) = some x := fun q x hx => by
  rw [add_none, Nat.zero_add]
  refine (cell_of d1 q).trans ?_
  simpa using hx
 have hHs := H.size
 refine Walk.append (.tmp 24) (.tmp 32) 25 hoA (by rfl) (by decide) rfl w0.heap.size 2 _ (.int .i64 0) 1 8 (by kernel_rfl) hi2.symm (by rfl) (by rfl) (by rfl) (by rfl) (by decide) (.slice ta pre.length tc) pre.length (intRow pre) rfl hrow ⟨w.heap.size, 0, none⟩ 1 1 [.int .i64 (s.vl j)] rfl (by rfl) hnews (by simp [Value.oneCell']) (by decide) (by simp [maxLen]; omega) (by omega) (by omega) (fun b _ => ap0 b) (fun g gcap w3 hown3 hgr hat hlt => ?_)
 have hold : ∀ b, b < w0.heap.size → w3.heap[b]? = w0.heap[b]? := fun b hb => (hgr.block b (by omega) (fun he => by have := (H.row.lt b he.symm).1; omega)).trans ((o1 b (by omega)).trans (H.old b hb))
 have hs3 := hgr.size
 have hsz : w0.heap.size ≤ w3.heap.size := by omega
 have M3 : MaX S m nb vb n cn cv tg tl s w3 := M.same fun g hg h => (hold g (hS g h)).trans (H.old g (hS g h)).symm
 clear hrow hnews o1 d1 c0 c1 x0 y0
 have c0 := mc0 M3.blk
 have x0 := M3.nxc hj
 walk_nrm
 refine Walk.gz z40 ?_
 refine Walk.ctl rfl (fun w => stepG_inLoop) ?_
 refine .stop fun d => ⟨some ⟨g, 0, none⟩, gcap, at_slots ?_, ?_, hold, hsz⟩
 ·rw [List.length_append, List.length_singleton]
  have hc : ((i + 1 : Nat) : Int) = (i : Int) + 1 := by simp
  simp only [hdRV, hc]
  rfl
 ·have : intRow (pre ++ [s.vl j]) = intRow pre ++ [.int .i64 (s.vl j)] := by simp [intRow]
  rw [this, List.length_append, List.length_singleton]
  exact hown3
theorem rval_loop (w0 : World) (hn : n ≤ 65536) (hS : ∀ g, S g → g < w0.heap.size) (M0 : MaX S m nb vb n cn cv tg tl s w0) (c : Frame) (cs : List Frame) :
  ∀ (r i : Nat) (a : Int) (pre : List Int) (ta : Option Addr) (tc : Nat) (u : Nat → Value) (w : World), i + r = n → pre.length = i → -1 ≤ a → a < n → VI w0 w pre ta tc →
   Walk Try.prog main (DR (fun _ => none)) (fun g w' => ∃ v, ValOut w0 (pre ++ valsX s r a) v w' ∧ g = G (c.finish v) cs) (G (hdRV m (.slice ta pre.length tc) a i u) (c :: cs)) w := by
 intro r
 induction r with
 | zero =>
  intro i a pre ta tc u w hr hp h1 h2 H
  have M : MaX S m nb vb n cn cv tg tl s w := M0.same fun g hg h => H.old g (hS g h)
  refine (rval_end i a _ w M (.inl hr) u c cs).mono ?_
  rintro g w' ⟨rfl, d, rfl⟩
  refine ⟨_, ⟨ta, tc, ?_, ?_⟩, rfl⟩
  ·simp [valsX]
  ·simp only [valsX, List.append_nil]
   exact ⟨H.row, H.old, H.size⟩
 | succ r ih =>
  intro i a pre ta tc u w hr hp h1 h2 H
  have M : MaX S m nb vb n cn cv tg tl s w := M0.same fun g hg h => H.old g (hS g h)
  by_cases e : a = -1
  ·refine (rval_end i a _ w M (.inr ⟨by omega, e⟩) u c cs).mono ?_
   rintro g w' ⟨rfl, d, rfl⟩
   refine ⟨_, ⟨ta, tc, ?_, ?_⟩, rfl⟩
   ·simp [valsX, e]
   ·simp only [valsX, e, if_true, List.append_nil]
    exact ⟨H.row, H.old, H.size⟩
  ·obtain ⟨j, rfl⟩ : ∃ j : Nat, a = j := ⟨a.toNat, by omega⟩
   have hj : j < n := by omega
   refine (rval_round i j pre ta tc w0 w (by omega) hj hn (by omega) M hS H u (c :: cs)).then ?_
   rintro g w' ⟨ta', tc', ⟨u', rfl⟩, H'⟩
   obtain ⟨x1, x2⟩ := M.nxb j hj
   refine (ih (i + 1) (s.nx j) (pre ++ [s.vl j]) ta' tc' u' w' (by omega) (by simp; omega) x1 x2 H').mono ?_
   rintro g w' ⟨v, hv, rfl⟩
   refine ⟨v, ?_, rfl⟩
   have : pre ++ valsX s (r + 1) (j : Int) = pre ++ [s.vl j] ++ valsX s r (s.nx j) := by
    simp [valsX, e]
   rw [this]
   exact hv
theorem rval_w (w : World) (hn : n ≤ 65536) (M : MaX S m nb vb n cn cv tg tl s w) :
  CallW Try.prog main (fun _ => none) 40 #[.pointer (some ⟨m, 0, none⟩)] w (ValOut w (valsX s n (nodeX s.hd))) := by
 intro c cs
 obtain ⟨l1, l2, l3⟩ := M.lt
 have M2 : MaX (fun g => S g ∧ g < w.heap.size) m nb vb n cn cv tg tl s w := ⟨M.blk, M.nx, M.vl, M.hd, M.fr, M.nxb, M.tag, ⟨M.sm, l1⟩, ⟨M.sn, l2⟩, ⟨M.sv, l3⟩, M.ne⟩
 refine (rval_in w M2 (c :: cs)).then ?_
 rintro g w1 ⟨⟨u, rfl⟩, d, rfl⟩
 refine Walk.back ?_ d
 have := rval_loop (main := main) w hn (fun g h => h.2) M2 c cs n 0 (nodeX s.hd) [] none 0 u w (by omega) rfl M.hd.nlo M.hd.nhi ⟨⟨rfl, .inl ⟨rfl, rfl⟩⟩, fun _ _ => rfl, Nat.le_refl _⟩
 simpa only [List.nil_append, List.length_nil] using this
end
end
section
noncomputable def reg39_0 := rg Try.f39.body [0]
noncomputable def reg39_1 := rg Try.f39.body [1, 0]
noncomputable def reg39_2 := rg Try.f39.body [1, 1, 0, 0]
noncomputable def reg39_3 := rg Try.f39.body [1, 1, 0, 1, 0, 0, 0, 0]
noncomputable def reg39_5 := rg Try.f39.body [1, 1, 0, 1, 0, 0, 1, 0, 0, 0]
noncomputable def reg39_6 := rg Try.f39.body [1, 1, 0, 1, 0, 0, 1, 0, 0, 1, 0]
noncomputable def reg39_4 := rg Try.f39.body [1, 1, 0, 1, 0, 0, 1, 1]
noncomputable def reg39_7 := rg Try.f39.body [1, 1, 1, 0, 0]
noncomputable def reg39_8 := rg Try.f39.body [1, 1, 1, 0, 1, 0, 0]
noncomputable def reg39_9 := rg Try.f39.body [1, 1, 1, 1, 0, 0]
theorem size39_9 : reg39_9.size = 10 := by kernel_rfl
noncomputable def reg39_10 := rg Try.f39.body [1, 1, 1, 1, 0, 1, 0, 0]
noncomputable def reg39_11 := rg Try.f39.body [1, 1, 1, 1, 0, 1, 0, 1, 0]
noncomputable def reg39_12 := rg Try.f39.body [1, 1, 1, 1, 1, 0, 0, 0, 0, 0]
theorem size39_12 : reg39_12.size = 10 := by kernel_rfl
noncomputable def reg39_13 := rg Try.f39.body [1, 1, 1, 1, 1, 0, 0, 0, 1, 0, 0]
theorem size39_13 : reg39_13.size = 11 := by kernel_rfl
noncomputable def reg39_14 := rg Try.f39.body [1, 1, 1, 1, 1, 0, 0, 0, 1, 0, 1, 0]
noncomputable def reg39_15 := rg Try.f39.body [1, 1, 1, 1, 1, 0, 0, 0, 1, 0, 1, 1, 0]
noncomputable def reg39_16 := rg Try.f39.body [1, 1, 1, 1, 1, 0, 0, 0, 1, 0, 1, 1, 1, 0, 0]
noncomputable def reg39_17 := rg Try.f39.body [1, 1, 1, 1, 1, 0, 0, 0, 1, 0, 1, 1, 1, 0, 1, 0]
noncomputable def reg39_18 := rg Try.f39.body [1, 1, 1, 1, 1, 1, 0, 0, 0, 0, 0]
noncomputable def reg39_19 := rg Try.f39.body [1, 1, 1, 1, 1, 1, 0, 0, 0, 1, 0]
noncomputable def reg39_20 := rg Try.f39.body [1, 1, 1, 1, 1, 1, 1, 0]
noncomputable def reg39_21 := rg Try.f39.body [1, 1, 1, 1, 1, 1, 1, 1, 0]
noncomputable def reg39_22 := rg Try.f39.body [1, 1, 1, 1, 1, 1, 1, 1, 1, 0]
noncomputable def reg39_23 := rg Try.f39.body [1, 1, 1, 1, 1, 1, 1, 1, 1, 1, 0]
theorem z39 : List.range reg39_0.size = [0] ∧ List.range reg39_1.size = [0] ∧ List.range reg39_2.size = [0] ∧ List.range reg39_3.size = [0, 1, 2, 3] ∧ List.range reg39_4.size = [0, 1, 2] ∧ List.range reg39_5.size = [0, 1, 2, 3, 4, 5, 6, 7] ∧ List.range reg39_6.size = [0, 1, 2] ∧ List.range reg39_7.size = [0, 1] ∧ List.range reg39_8.size = [0] ∧ List.range reg39_9.size = [0, 1, 2, 3, 4, 5, 6, 7, 8, 9] ∧ List.range reg39_10.size = [0, 1, 2, 3] ∧ List.range reg39_11.size = [0] ∧ List.range reg39_12.size = [0, 1, 2, 3, 4, 5, 6, 7, 8, 9] ∧ List.range reg39_13.size = [0, 1, 2, 3, 4, 5, 6, 7, 8, 9, 10] ∧ List.range reg39_14.size = [0, 1, 2, 3, 4, 5, 6, 7, 8] ∧ List.range reg39_15.size = [0, 1, 2, 3, 4, 5, 6, 7, 8, 9, 10, 11, 12, 13, 14, 15, 16, 17] ∧ List.range reg39_16.size = [0, 1, 2, 3, 4, 5, 6, 7, 8, 9, 10] ∧ List.range reg39_17.size = [0, 1] ∧ List.range reg39_18.size = [0, 1, 2, 3, 4, 5, 6, 7, 8, 9] ∧ List.range reg39_19.size = [0, 1, 2, 3, 4, 5, 6, 7, 8, 9, 10, 11] ∧ List.range reg39_20.size = [0, 1, 2, 3, 4] ∧ List.range reg39_21.size = [0, 1, 2, 3, 4, 5, 6, 7, 8, 9, 10, 11] ∧ List.range reg39_22.size = [0, 1, 2, 3, 4, 5, 6, 7, 8, 9, 10] ∧ List.range reg39_23.size = [0, 1] := by refine ⟨?_, ?_, ?_, ?_, ?_, ?_, ?_, ?_, ?_, ?_, ?_, ?_, ?_, ?_, ?_, ?_, ?_, ?_, ?_, ?_, ?_, ?_, ?_, ?_⟩ <;> kernel_rfl
theorem code39_is : Try.f39.body = some (.seq (.region 0 reg39_0 false) (.seq (.region 1 reg39_1 false) (.seq (.seq (.region 2 reg39_2 false) (.block 0 (.loop (.seq (.seq (.region 3 reg39_3 false) (.cond (.tmp 12 ) (.skip) (.exit 0))) (.seq (.block 1 (.seq (.region 5 reg39_5 false) (.cond (.tmp 22 ) (.region 6 reg39_6 false) (.skip)))) (.region 4 reg39_4 false)))))) (.seq (.seq (.region 7 reg39_7 false) (.cond (.tmp 26 ) (.seq (.region 8 reg39_8 false) (.ret)) (.skip))) (.seq (.seq (.region 9 reg39_9 true) (.cond (.tmp 36 ) (.seq (.region 10 reg39_10 false) (.seq (.region 11 reg39_11 false) (.ret))) (.skip))) (.seq (.block 2 (.loop (.seq (.seq (.region 12 reg39_12 true) (.cond (.tmp 49 ) (.skip) (.exit 2))) (.block 3 (.seq (.region 13 reg39_13 true) (.seq (.region 14 reg39_14 false) (.seq (.region 15 reg39_15 false) (.cond (.tmp 85 ) (.seq (.region 16 reg39_16 false) (.seq (.region 17 reg39_17 false) (.ret))) (.skip))))))))) (.seq (.block 4 (.loop (.seq (.seq (.region 18 reg39_18 false) (.cond (.tmp 106 ) (.skip) (.exit 4))) (.block 5 (.region 19 reg39_19 false))))) (.seq (.region 20 reg39_20 false) (.seq (.region 21 reg39_21 false) (.seq (.region 22 reg39_22 false) (.seq (.region 23 reg39_23 false) (.ret)))))))))))) := by kernel_rfl
noncomputable def hdP0 (B : Nat) (tv : Value) (left i : Nat) (u : Nat → Value) : Frame :=
 (base 39).at { tmps := #[.pointer (some ⟨B, 0, none⟩), tv, u 2, u 3, u 4, .int .i64 left, .int .i64 i, u 7, u 8, u 9, u 10, u 11, u 12, u 13, u 14, u 15, u 16, u 17, u 18, u 19, u 20, u 21, u 22, u 23, u 24, u 25, u 26, u 27, u 28, u 29, u 30, u 31, u 32, u 33, u 34, u 35, u 36, u 37, u 38, u 39, u 40, u 41, u 42, u 43, u 44, u 45, u 46, u 47, u 48, u 49, u 50, u 51, u 52, u 53, u 54, u 55, u 56, u 57, u 58, u 59, u 60, u 61, u 62, u 63, u 64, u 65, u 66, u 67, u 68, u 69, u 70, u 71, u 72, u 73, u 74, u 75, u 76, u 77, u 78, u 79, u 80, u 81, u 82, u 83, u 84, u 85, u 86, u 87, u 88, u 89, u 90, u 91, u 92, u 93, u 94, u 95, u 96, u 97, u 98, u 99, u 100, u 101, u 102, u 103, u 104, u 105, u 106, u 107, u 108, u 109, u 110, u 111, u 112, u 113, u 114, u 115, u 116, u 117, u 118, u 119, u 120, u 121, u 122, u 123, u 124, u 125, u 126, u 127, u 128, u 129, u 130, u 131, u 132, u 133, u 134, u 135, u 136, u 137, u 138, u 139, u 140, u 141, u 142, u 143], defers := [] } [.code (.seq (.seq (.region 3 reg39_3 false) (.cond (.tmp 12 ) (.skip) (.exit 0))) (.seq (.block 1 (.seq (.region 5 reg39_5 false) (.cond (.tmp 22 ) (.region 6 reg39_6 false) (.skip)))) (.region 4 reg39_4 false))), .inLoop (.seq (.seq (.region 3 reg39_3 false) (.cond (.tmp 12 ) (.skip) (.exit 0))) (.seq (.block 1 (.seq (.region 5 reg39_5 false) (.cond (.tmp 22 ) (.region 6 reg39_6 false) (.skip)))) (.region 4 reg39_4 false))), .inBlock 0, .code (.seq (.seq (.region 7 reg39_7 false) (.cond (.tmp 26 ) (.seq (.region 8 reg39_8 false) (.ret)) (.skip))) (.seq (.seq (.region 9 reg39_9 true) (.cond (.tmp 36 ) (.seq (.region 10 reg39_10 false) (.seq (.region 11 reg39_11 false) (.ret))) (.skip))) (.seq (.block 2 (.loop (.seq (.seq (.region 12 reg39_12 true) (.cond (.tmp 49 ) (.skip) (.exit 2))) (.block 3 (.seq (.region 13 reg39_13 true) (.seq (.region 14 reg39_14 false) (.seq (.region 15 reg39_15 false) (.cond (.tmp 85 ) (.seq (.region 16 reg39_16 false) (.seq (.region 17 reg39_17 false) (.ret))) (.skip))))))))) (.seq (.block 4 (.loop (.seq (.seq (.region 18 reg39_18 false) (.cond (.tmp 106 ) (.skip) (.exit 4))) (.block 5 (.region 19 reg39_19 false))))) (.seq (.region 20 reg39_20 false) (.seq (.region 21 reg39_21 false) (.seq (.region 22 reg39_22 false) (.seq (.region 23 reg39_23 false) (.ret)))))))))]
noncomputable def hdP1 (B : Nat) (tv : Value) (u : Nat → Value) : Frame :=
 (base 39).at { tmps := #[.pointer (some ⟨B, 0, none⟩), tv, u 2, u 3, u 4, u 5, u 6, u 7, u 8, u 9, u 10, u 11, u 12, u 13, u 14, u 15, u 16, u 17, u 18, u 19, u 20, u 21, u 22, u 23, u 24, u 25, u 26, u 27, u 28, u 29, u 30, u 31, u 32, u 33, u 34, u 35, u 36, u 37, u 38, u 39, u 40, u 41, u 42, u 43, u 44, u 45, u 46, u 47, u 48, u 49, u 50, u 51, u 52, u 53, u 54, u 55, u 56, u 57, u 58, u 59, u 60, u 61, u 62, u 63, u 64, u 65, u 66, u 67, u 68, u 69, u 70, u 71, u 72, u 73, u 74, u 75, u 76, u 77, u 78, u 79, u 80, u 81, u 82, u 83, u 84, u 85, u 86, u 87, u 88, u 89, u 90, u 91, u 92, u 93, u 94, u 95, u 96, u 97, u 98, u 99, u 100, u 101, u 102, u 103, u 104, u 105, u 106, u 107, u 108, u 109, u 110, u 111, u 112, u 113, u 114, u 115, u 116, u 117, u 118, u 119, u 120, u 121, u 122, u 123, u 124, u 125, u 126, u 127, u 128, u 129, u 130, u 131, u 132, u 133, u 134, u 135, u 136, u 137, u 138, u 139, u 140, u 141, u 142, u 143], defers := [] } [.code (.seq (.seq (.region 12 reg39_12 true) (.cond (.tmp 49 ) (.skip) (.exit 2))) (.block 3 (.seq (.region 13 reg39_13 true) (.seq (.region 14 reg39_14 false) (.seq (.region 15 reg39_15 false) (.cond (.tmp 85 ) (.seq (.region 16 reg39_16 false) (.seq (.region 17 reg39_17 false) (.ret))) (.skip))))))), .inLoop (.seq (.seq (.region 12 reg39_12 true) (.cond (.tmp 49 ) (.skip) (.exit 2))) (.block 3 (.seq (.region 13 reg39_13 true) (.seq (.region 14 reg39_14 false) (.seq (.region 15 reg39_15 false) (.cond (.tmp 85 ) (.seq (.region 16 reg39_16 false) (.seq (.region 17 reg39_17 false) (.ret))) (.skip))))))), .inBlock 2, .code (.seq (.block 4 (.loop (.seq (.seq (.region 18 reg39_18 false) (.cond (.tmp 106 ) (.skip) (.exit 4))) (.block 5 (.region 19 reg39_19 false))))) (.seq (.region 20 reg39_20 false) (.seq (.region 21 reg39_21 false) (.seq (.region 22 reg39_22 false) (.seq (.region 23 reg39_23 false) (.ret))))))]
noncomputable def hdP2 (B : Nat) (tv : Value) (u : Nat → Value) : Frame :=
 (base 39).at { tmps := #[.pointer (some ⟨B, 0, none⟩), tv, u 2, u 3, u 4, u 5, u 6, u 7, u 8, u 9, u 10, u 11, u 12, u 13, u 14, u 15, u 16, u 17, u 18, u 19, u 20, u 21, u 22, u 23, u 24, u 25, u 26, u 27, u 28, u 29, u 30, u 31, u 32, u 33, u 34, u 35, u 36, u 37, u 38, u 39, u 40, u 41, u 42, u 43, u 44, u 45, u 46, u 47, u 48, u 49, u 50, u 51, u 52, u 53, u 54, u 55, u 56, u 57, u 58, u 59, u 60, u 61, u 62, u 63, u 64, u 65, u 66, u 67, u 68, u 69, u 70, u 71, u 72, u 73, u 74, u 75, u 76, u 77, u 78, u 79, u 80, u 81, u 82, u 83, u 84, u 85, u 86, u 87, u 88, u 89, u 90, u 91, u 92, u 93, u 94, u 95, u 96, u 97, u 98, u 99, u 100, u 101, u 102, u 103, u 104, u 105, u 106, u 107, u 108, u 109, u 110, u 111, u 112, u 113, u 114, u 115, u 116, u 117, u 118, u 119, u 120, u 121, u 122, u 123, u 124, u 125, u 126, u 127, u 128, u 129, u 130, u 131, u 132, u 133, u 134, u 135, u 136, u 137, u 138, u 139, u 140, u 141, u 142, u 143], defers := [] } [.code (.seq (.seq (.region 18 reg39_18 false) (.cond (.tmp 106 ) (.skip) (.exit 4))) (.block 5 (.region 19 reg39_19 false))), .inLoop (.seq (.seq (.region 18 reg39_18 false) (.cond (.tmp 106 ) (.skip) (.exit 4))) (.block 5 (.region 19 reg39_19 false))), .inBlock 4, .code (.seq (.region 20 reg39_20 false) (.seq (.region 21 reg39_21 false) (.seq (.region 22 reg39_22 false) (.seq (.region 23 reg39_23 false) (.ret)))))]
section
variable {main : Bool}
theorem pick_in (B : Nat) (tv : Value) (cs : List Frame) (w : World) :
  Walk Try.prog main (DR (fun _ => none)) (fun g w' => (∃ u, g = G (hdP0 B tv 0 0 u) cs) ∧ ∃ d, w' = w.at d) (G (Frame.enter Try.prog 39 #[.pointer (some ⟨B, 0, none⟩), tv] .normal) cs) w := by
 rw [enter_at _ Try.func39 code39_is]
 simp only [Try.ntmps39, ez, Nat.reduceAdd, Nat.reduceSub]
 refine Walk.gz z39 ?_
 refine Walk.ctl rfl (fun w => stepG_loop) ?_
 refine .stop fun d => ⟨at_slots ?_, d, rfl⟩
 simp only [hdP0]
 rfl
theorem pick_cnt (B tl o n tc q i left : Nat) (e : Bool) (u : Nat → Value) (cs : List Frame) (w : World) (hi : i < n) (hn : n ≤ 64) (hl : left ≤ i) (h1 : w.cell? ⟨tl, o + i, none⟩ = some (.pointer (some ⟨q, 0, none⟩))) (h2 : w.cell? ⟨q, 13, none⟩ = some (.bool e)) :
  Walk Try.prog main (DR (fun _ => none)) (fun g w' => (∃ u', g = G (hdP0 B (.slice (some ⟨tl, o, none⟩) n tc) (if e then left else left + 1) (i + 1) u') cs) ∧ ∃ d, w' = w.at d) (G (hdP0 B (.slice (some ⟨tl, o, none⟩) n tc) left i u) cs) w := by
 have hw1 : IntKind.wrap .i64 ((i : Int) + 1) = (i : Int) + 1 := by rw [IntKind.wrap_i64]; omega
 have hw2 : IntKind.wrap .i64 ((left : Int) + 1) = (left : Int) + 1 := by rw [IntKind.wrap_i64]; omega
 conv => arg 5; unfold hdP0
 cases e with
 | false =>
  refine Walk.gz z39 ?_
  refine Walk.ctl rfl (fun w => stepG_inLoop) ?_
  refine .stop fun d => ⟨at_slots ?_, d, rfl⟩
  have hc : ((i + 1 : Nat) : Int) = (i : Int) + 1 := by simp
  have hc2 : ((left + 1 : Nat) : Int) = (left : Int) + 1 := by simp
  simp only [hdP0, hc, hc2, Bool.false_eq_true, if_false]
  rfl
 | true =>
  refine Walk.gz z39 ?_
  refine Walk.ctl rfl (fun w => stepG_inLoop) ?_
  refine .stop fun d => ⟨at_slots ?_, d, rfl⟩
  have hc : ((i + 1 : Nat) : Int) = (i : Int) + 1 := by simp
  simp only [hdP0, hc, if_true]
  rfl
theorem pick_count (S : Nat → Prop) (B : Nat) (ta : Option Addr) (n tc : Nat) (f : Nat → Bool) (cs : List Frame) (w : World) (hn : n ≤ 64) (he : EndAt S ta n f w) : ∀ (r i left : Nat) (u : Nat → Value), i + r = n → left ≤ i →
  Walk Try.prog main (DR (fun _ => none)) (fun g w' => (∃ u', g = G (hdP0 B (.slice ta n tc) (left + (List.range' i r).countP (fun j => !f j)) n u') cs) ∧ ∃ d, w' = w.at d) (G (hdP0 B (.slice ta n tc) left i u) cs) w := by
 intro r
 induction r with
 | zero =>
  intro i left u hi hl
  obtain rfl : i = n := hi
  exact .stop fun d => ⟨⟨u, rfl⟩, d, rfl⟩
 | succ r ih =>
  intro i left u hi hl
  obtain ⟨tl, o, q, rfl, h1, h2, _, _⟩ := he i (by omega)
  refine (pick_cnt B tl o n tc q i left (f i) u cs w (by omega) hn hl h1 h2).then ?_
  rintro g w' ⟨⟨u', rfl⟩, d, rfl⟩
  refine Walk.back ?_ d
  have := ih (i + 1) (if f i then left else left + 1) u' (by omega) (by split <;> omega)
  have e : (if f i then left else left + 1) + (List.range' (i + 1) r).countP (fun j => !f j) = left + (List.range' i (r + 1)).countP (fun j => !f j) := by
   rw [List.range'_succ, List.countP_cons]
   cases f i <;> simp <;> omega
  rw [e] at this
  exact this
section
variable {S : Nat → Prop} {B : Nat} {la : Option Addr} {lc : Nat} {sl : List Int} {most : Int} {p rd : Nat} {oa : Option Addr} {oc : Nat} {ord : List Nat}
theorem pick_none (B : Nat) (ta : Option Addr) (n tc : Nat) (u : Nat → Value) (c : Frame) (cs : List Frame) (w : World) :
  Walk Try.prog main (DR (fun _ => none)) (fun g w' => g = G (c.finish (.int .i64 (-1))) cs ∧ ∃ d, w' = w.at d) (G (hdP0 B (.slice ta n tc) 0 n u) (c :: cs)) w := by
 unfold hdP0
 refine Walk.gz z39 ?_
 exact Walk.on1 rfl rfl Try.func39 rfl (.stop fun d => ⟨rfl, d, rfl⟩)
theorem pick_most (B : Nat) (ta : Option Addr) (n tc left : Nat) (u : Nat → Value) (c : Frame) (cs : List Frame) (w : World) (hl : left ≠ 0) (X : TuX S B la lc sl most p rd oa oc ord false w) (hm : most ≤ ord.length) :
  Walk Try.prog main (DR (fun _ => none)) (fun g w' => g = G (c.finish (.int .i64 (-1))) cs ∧ TuX S B la lc sl most p rd oa oc ord true w' ∧ Chg S w w') (G (hdP0 B (.slice ta n tc) left n u) (c :: cs)) w := by
 have c4 : w.cell? ⟨B, 4, none⟩ = some (.slice oa ord.length oc) := (cell_of X.blk 4).trans rfl
 have c3 : w.cell? ⟨B, 3, none⟩ = some (.int .i64 most) := (cell_of X.blk 3).trans rfl
 have c5 : w.cell? ⟨B, 5, none⟩ = some (.bool false) := (cell_of X.blk 5).trans rfl
 have z5 := frozen_of X.blk 5
 have hl0 : ((left : Int) == 0) = false := by simpa using hl
 have hl1 : decide (left = 0) = false := by simpa using hl
 have hl2 : (left == 0) = false := by simpa using hl
 have hm' : decide (most ≤ (ord.length : Int)) = true := by simpa using hm
 unfold hdP0
 refine Walk.gz z39 ?_
 (refine Walk.drawnC (by kernel_rfl) size39_9 (by kernel_rfl) (by kernel_rfl) (by decide) ?_; simp only [List.range, List.range.loop]; repeat (first | (refine Cm.oq ?_) | (refine Cm.unw hoA (by rfl) ?_; walk_nrm)))
 refine Cm.done ?_
 refine Walk.gz z39 ?_
 (have hfr := fr0 B 5; refine Walk.os hfr c5 ?_; clear hfr; try walk_nrm)
 have hX : TuX S B la lc sl most p rd oa oc ord true (w.setCell ⟨B, 5, none⟩ (.bool true)) := X.put (by rw [heap_set_self _ _ X.blk]; simp [tuA]) fun g hg _ _ => heap_set_other _ _ _ _ hg
 have hC : Chg S w (w.setCell ⟨B, 5, none⟩ (.bool true)) := Chg.set X.sb
 generalize w.setCell ⟨B, 5, none⟩ (.bool true) = w1 at *
 refine Walk.gz z39 ?_
 exact Walk.on1 rfl rfl Try.func39 rfl (.stop fun d => ⟨rfl, hX.at d, hC.at d⟩)
theorem pick_go (B : Nat) (ta : Option Addr) (n tc left : Nat) (u : Nat → Value) (cs : List Frame) (w : World) (hl : left ≠ 0) (X : TuX S B la lc sl most p rd oa oc ord false w) (hm : (ord.length : Int) < most) :
  Walk Try.prog main (DR (fun _ => none)) (fun g w' => (∃ u', g = G (hdP1 B (.slice ta n tc) u') cs) ∧ ∃ d, w' = w.at d) (G (hdP0 B (.slice ta n tc) left n u) cs) w := by
 have c4 : w.cell? ⟨B, 4, none⟩ = some (.slice oa ord.length oc) := (cell_of X.blk 4).trans rfl
 have c3 : w.cell? ⟨B, 3, none⟩ = some (.int .i64 most) := (cell_of X.blk 3).trans rfl
 have hl0 : ((left : Int) == 0) = false := by simpa using hl
 have hl1 : decide (left = 0) = false := by simpa using hl
 have hl2 : (left == 0) = false := by simpa using hl
 have hm' : decide (most ≤ (ord.length : Int)) = false := by simpa using hm
 conv => arg 5; unfold hdP0
 refine Walk.gz z39 ?_
 (refine Walk.drawnC (by kernel_rfl) size39_9 (by kernel_rfl) (by kernel_rfl) (by decide) ?_; simp only [List.range, List.range.loop]; repeat (first | (refine Cm.oq ?_) | (refine Cm.unw hoA (by rfl) ?_; walk_nrm)))
 refine Cm.done ?_
 refine Walk.gz z39 ?_
 refine Walk.ctl rfl (fun w => stepG_loop) ?_
 refine .stop fun d => ⟨at_slots ?_, d, rfl⟩
 simp only [hdP1]
 rfl
theorem pick_skip (tl o n tc : Nat) (f : Nat → Bool) (z : Int) (u : Nat → Value) (cs : List Frame) (w : World) (hn : n ≤ 64) (X : TuX S B la lc sl most p rd oa oc ord false w) (hp : p < sl.length) (hL : sl.length ≤ 17592186044416) (hz : sl[p]? = some z) (he : EndAt S (some ⟨tl, o, none⟩) n f w) (hno : ¬ (0 ≤ z ∧ z < n ∧ f z.toNat = false)) :
  Walk Try.prog main (DR (fun _ => none)) (fun g w' => (∃ u', g = G (hdP1 B (.slice (some ⟨tl, o, none⟩) n tc) u') cs) ∧ ∃ d, w' = (w.setCell ⟨B, 1, none⟩ (.int .i64 ((p + 1 : Nat) : Int))).at d) (G (hdP1 B (.slice (some ⟨tl, o, none⟩) n tc) u) cs) w := by
 obtain ⟨lb, rfl, hzc, hzB, hzS⟩ := X.num hz
 have c0 : w.cell? ⟨B, 0, none⟩ = some (.slice (some ⟨lb, 0, none⟩) sl.length lc) := (cell_of X.blk 0).trans rfl
 have c1 : w.cell? ⟨B, 1, none⟩ = some (.int .i64 (p : Nat)) := (cell_of X.blk 1).trans rfl
 have z1 := frozen_of X.blk 1
 have hk : ∀ i, i < n → 0 ≤ z → z = (i : Int) → ∃ q, (w.setCell ⟨B, 1, none⟩ (.int .i64 ((p : Int) + 1))).cell? ⟨tl, o + i, none⟩ = some (.pointer (some ⟨q, 0, none⟩)) ∧ (w.setCell ⟨B, 1, none⟩ (.int .i64 ((p : Int) + 1))).cell? ⟨q, 13, none⟩ = some (.bool (f i)) := fun i hi _ _ => by
  obtain ⟨tl', o', q, e, h1, h2, h3, h4⟩ := he i hi
  cases e
  exact ⟨q, (World.cell?_of_block (a := ⟨tl, o + i, none⟩) (heap_set_other _ _ _ _ (fun e => h3 (by have e : tl = B := e; rw [e]; exact X.sb)))).trans h1, (World.cell?_of_block (a := ⟨q, 13, none⟩) (heap_set_other _ _ _ _ (fun e => h4 (by have e : q = B := e; rw [e]; exact X.sb)))).trans h2⟩
 have hw1 : IntKind.wrap .i64 ((p : Int) + 1) = (p : Int) + 1 := by rw [IntKind.wrap_i64]; omega
 have hc : ((p + 1 : Nat) : Int) = (p : Int) + 1 := by simp
 rw [hc]
 clear X he hz
 generalize hsl : sl.length = L at *
 conv => arg 5; unfold hdP1
 refine Walk.gz z39 ?_
 (refine Walk.drawnC (by kernel_rfl) size39_12 (by kernel_rfl) (by kernel_rfl) (by decide) ?_; simp only [List.range, List.range.loop]; repeat (first | (refine Cm.oq ?_) | (refine Cm.unw hoA (by rfl) ?_; walk_nrm)))
 refine Cm.done ?_
 refine Walk.gz z39 ?_
 (refine Walk.drawnC (by kernel_rfl) size39_13 (by kernel_rfl) (by kernel_rfl) (by decide) ?_; simp only [List.range, List.range.loop]; repeat (first | (refine Cm.oq ?_) | (refine Cm.unw hoA (by rfl) ?_; walk_nrm)))
 refine Cm.done ?_
 refine Walk.gz z39 ?_
 (have hfr := fr0 B 1; refine Walk.os hfr c1 ?_; clear hfr; try walk_nrm)
 clear c0 c1 z1 hzc hw1
 generalize w.setCell ⟨B, 1, none⟩ (.int .i64 ((p : Int) + 1)) = w1 at *
 by_cases hz0 : 0 ≤ z
 ·by_cases hzn : z < n
  ·obtain ⟨m, rfl⟩ : ∃ m : Nat, z = m := ⟨z.toNat, by omega⟩
   have hm : m < n := by omega
   have hfm : f m = true := by
    cases e : f m with
    | true => rfl
    | false => exact absurd ⟨hz0, hzn, by simpa using e⟩ hno
   obtain ⟨q, hx, hy⟩ := hk m hm hz0 rfl
   rw [hfm] at hy
   clear hk hno
   refine Walk.gz z39 ?_
   refine Walk.ctl rfl (fun w => stepG_inLoop) ?_
   refine .stop fun d' => ⟨at_slots ?_, d', rfl⟩
   simp only [hdP1]
   rfl
  ·clear hk hno
   have hzd : decide (z < (n : Int)) = false := by simpa using hzn
   refine Walk.gz z39 ?_
   refine Walk.ctl rfl (fun w => stepG_inLoop) ?_
   refine .stop fun d' => ⟨at_slots ?_, d', rfl⟩
   simp only [hdP1]
   rfl
 ·clear hk hno
  have hzd : decide (0 ≤ z) = false := by simpa using hz0
  refine Walk.gz z39 ?_
  refine Walk.ctl rfl (fun w => stepG_inLoop) ?_
  refine .stop fun d' => ⟨at_slots ?_, d', rfl⟩
  simp only [hdP1]
  rfl
theorem pick_next (ta : Option Addr) (n tc : Nat) (u : Nat → Value) (cs : List Frame) (w : World) (X : TuX S B la lc sl most sl.length rd oa oc ord false w) :
  Walk Try.prog main (DR (fun _ => none)) (fun g w' => (∃ u', g = G (hdP2 B (.slice ta n tc) u') cs) ∧ ∃ d, w' = w.at d) (G (hdP1 B (.slice ta n tc) u) cs) w := by
 have c0 : w.cell? ⟨B, 0, none⟩ = some (.slice la sl.length lc) := (cell_of X.blk 0).trans rfl
 have c1 : w.cell? ⟨B, 1, none⟩ = some (.int .i64 (sl.length : Nat)) := (cell_of X.blk 1).trans rfl
 conv => arg 5; unfold hdP1
 refine Walk.gz z39 ?_
 (refine Walk.drawnC (by kernel_rfl) size39_12 (by kernel_rfl) (by kernel_rfl) (by decide) ?_; simp only [List.range, List.range.loop]; repeat (first | (refine Cm.oq ?_) | (refine Cm.unw hoA (by rfl) ?_; walk_nrm)))
 refine Cm.done ?_
 refine Walk.gz z39 ?_
 refine Walk.ctl rfl (fun w => stepG_loop) ?_
 refine .stop fun d' => ⟨at_slots ?_, d', rfl⟩
 simp only [hdP2]
 rfl
theorem pick_pass (tl o n tc q : Nat) (u : Nat → Value) (cs : List Frame) (w : World) (hn : n ≤ 64) (X : TuX S B la lc sl most p rd oa oc ord false w) (hrd : rd < n) (h1 : w.cell? ⟨tl, o + rd, none⟩ = some (.pointer (some ⟨q, 0, none⟩))) (h2 : w.cell? ⟨q, 13, none⟩ = some (.bool true)) :
  Walk Try.prog main (DR (fun _ => none)) (fun g w' => (∃ u', g = G (hdP2 B (.slice (some ⟨tl, o, none⟩) n tc) u') cs) ∧ ∃ d, w' = (w.setCell ⟨B, 2, none⟩ (.int .i64 (((rd + 1) % n : Nat) : Int))).at d) (G (hdP2 B (.slice (some ⟨tl, o, none⟩) n tc) u) cs) w := by
 have c2 : w.cell? ⟨B, 2, none⟩ = some (.int .i64 (rd : Nat)) := (cell_of X.blk 2).trans rfl
 have z2 := frozen_of X.blk 2
 have hw1 : IntKind.wrap .i64 ((rd : Int) + 1) = (rd : Int) + 1 := by rw [IntKind.wrap_i64]; omega
 have ht : Int.tmod ((rd : Int) + 1) (n : Int) = (((rd + 1) % n : Nat) : Int) := by
  rw [Int.tmod_eq_emod_of_nonneg (by omega)]
  simp
 have hn0 : ¬ n = 0 := by omega
 generalize (rd + 1) % n = x at *
 conv => arg 5; unfold hdP2
 refine Walk.gz z39 ?_
 (have hfr := fr0 B 2; refine Walk.os hfr c2 ?_; clear hfr; try walk_nrm)
 refine Walk.gz z39 ?_
 refine Walk.ctl rfl (fun w => stepG_inLoop) ?_
 refine .stop fun d' => ⟨at_slots ?_, d', rfl⟩
 simp only [hdP2]
 rfl
end
end
end
end Go.Proofs.Ytdmpmoggacjgcaa
