/- Part 28. -/
import Derived.Test.YtdcjgmlgmjjogaaJ20
import Derived.Test.YtdcjgmlgmjjogaaJ21
set_option linter.unusedSimpArgs false
set_option linter.unusedVariables false
set_option maxHeartbeats 8000000
set_option maxRecDepth 100000
namespace Go.Proofs.Ytdcjgmlgmjjogaa
open Go.Conc Go.RowKit Go.Relay
open Go.ConcN (upd upd_ne upd_same)
section
noncomputable def reg32_0 := rg Try.f32.body [0]
noncomputable def reg32_1 := rg Try.f32.body [1, 0]
noncomputable def reg32_2 := rg Try.f32.body [1, 1, 0, 0]
noncomputable def reg32_3 := rg Try.f32.body [1, 1, 0, 1, 0, 0, 0, 0]
noncomputable def reg32_5 := rg Try.f32.body [1, 1, 0, 1, 0, 0, 1, 0, 0, 0]
noncomputable def reg32_6 := rg Try.f32.body [1, 1, 0, 1, 0, 0, 1, 0, 0, 1, 0, 0]
noncomputable def reg32_7 := rg Try.f32.body [1, 1, 0, 1, 0, 0, 1, 0, 0, 1, 0, 1, 0, 0, 0, 0]
noncomputable def reg32_9 := rg Try.f32.body [1, 1, 0, 1, 0, 0, 1, 0, 0, 1, 0, 1, 0, 0, 1, 0, 0]
theorem size32_9 : reg32_9.size = 17 := by kernel_rfl
noncomputable def reg32_8 := rg Try.f32.body [1, 1, 0, 1, 0, 0, 1, 0, 0, 1, 0, 1, 0, 0, 1, 1]
noncomputable def reg32_10 := rg Try.f32.body [1, 1, 0, 1, 0, 0, 1, 0, 0, 1, 1]
noncomputable def reg32_4 := rg Try.f32.body [1, 1, 0, 1, 0, 0, 1, 1]
noncomputable def reg32_11 := rg Try.f32.body [1, 1, 1, 0]
theorem z32 : List.range reg32_0.size = [0] ∧ List.range reg32_1.size = [0] ∧ List.range reg32_2.size = [0] ∧ List.range reg32_3.size = [0, 1, 2, 3, 4, 5, 6, 7] ∧ List.range reg32_4.size = [0, 1, 2] ∧ List.range reg32_5.size = [0, 1, 2] ∧ List.range reg32_6.size = [0] ∧ List.range reg32_7.size = [0, 1, 2, 3, 4, 5, 6, 7, 8, 9, 10] ∧ List.range reg32_8.size = [0, 1, 2] ∧ List.range reg32_9.size = [0, 1, 2, 3, 4, 5, 6, 7, 8, 9, 10, 11, 12, 13, 14, 15, 16] ∧ List.range reg32_10.size = [0, 1, 2, 3, 4] ∧ List.range reg32_11.size = [0, 1] := by refine ⟨?_, ?_, ?_, ?_, ?_, ?_, ?_, ?_, ?_, ?_, ?_, ?_⟩ <;> kernel_rfl
theorem code32_is : Try.f32.body = some (.seq (.region 0 reg32_0 false) (.seq (.region 1 reg32_1 false) (.seq (.seq (.region 2 reg32_2 false) (.block 0 (.loop (.seq (.seq (.region 3 reg32_3 false) (.cond (.tmp 14 ) (.skip) (.exit 0))) (.seq (.block 1 (.seq (.region 5 reg32_5 false) (.seq (.seq (.region 6 reg32_6 false) (.block 2 (.loop (.seq (.seq (.region 7 reg32_7 false) (.cond (.tmp 29 ) (.skip) (.exit 2))) (.seq (.block 3 (.region 9 reg32_9 true)) (.region 8 reg32_8 false)))))) (.region 10 reg32_10 false)))) (.region 4 reg32_4 false)))))) (.seq (.region 11 reg32_11 false) (.ret))))) := by kernel_rfl
noncomputable def hdT0 (tv ov : Value) (i : Nat) (u : Nat → Value) : Frame :=
  (base 32).at { tmps := #[tv, u 1, u 2, ov, .int .i64 i, u 5, u 6, u 7, u 8, u 9, u 10, u 11, u 12, u 13, u 14, u 15, u 16, u 17, u 18, u 19, u 20, u 21, u 22, u 23, u 24, u 25, u 26, u 27, u 28, u 29, u 30, u 31, u 32, u 33, u 34, u 35, u 36, u 37, u 38, u 39, u 40, u 41, u 42, u 43, u 44, u 45, u 46, u 47, u 48, u 49, u 50, u 51, u 52], defers := [] } [.code (.seq (.seq (.region 3 reg32_3 false) (.cond (.tmp 14 ) (.skip) (.exit 0))) (.seq (.block 1 (.seq (.region 5 reg32_5 false) (.seq (.seq (.region 6 reg32_6 false) (.block 2 (.loop (.seq (.seq (.region 7 reg32_7 false) (.cond (.tmp 29 ) (.skip) (.exit 2))) (.seq (.block 3 (.region 9 reg32_9 true)) (.region 8 reg32_8 false)))))) (.region 10 reg32_10 false)))) (.region 4 reg32_4 false))), .inLoop (.seq (.seq (.region 3 reg32_3 false) (.cond (.tmp 14 ) (.skip) (.exit 0))) (.seq (.block 1 (.seq (.region 5 reg32_5 false) (.seq (.seq (.region 6 reg32_6 false) (.block 2 (.loop (.seq (.seq (.region 7 reg32_7 false) (.cond (.tmp 29 ) (.skip) (.exit 2))) (.seq (.block 3 (.region 9 reg32_9 true)) (.region 8 reg32_8 false)))))) (.region 10 reg32_10 false)))) (.region 4 reg32_4 false))), .inBlock 0, .code (.seq (.region 11 reg32_11 false) (.ret))]
noncomputable def hdT1 (tv ov : Value) (i b k : Nat) (u : Nat → Value) : Frame :=
  (base 32).at { tmps := #[tv, u 1, u 2, ov, .int .i64 i, .pointer (some ⟨b, 0, none⟩), .int .i64 k, u 7, u 8, u 9, u 10, u 11, u 12, u 13, u 14, u 15, u 16, u 17, u 18, u 19, u 20, u 21, u 22, u 23, u 24, u 25, u 26, u 27, u 28, u 29, u 30, u 31, u 32, u 33, u 34, u 35, u 36, u 37, u 38, u 39, u 40, u 41, u 42, u 43, u 44, u 45, u 46, u 47, u 48, u 49, u 50, u 51, u 52], defers := [] } [.code (.seq (.seq (.region 7 reg32_7 false) (.cond (.tmp 29 ) (.skip) (.exit 2))) (.seq (.block 3 (.region 9 reg32_9 true)) (.region 8 reg32_8 false))), .inLoop (.seq (.seq (.region 7 reg32_7 false) (.cond (.tmp 29 ) (.skip) (.exit 2))) (.seq (.block 3 (.region 9 reg32_9 true)) (.region 8 reg32_8 false))), .inBlock 2, .code (.region 10 reg32_10 false), .inBlock 1, .code (.region 4 reg32_4 false), .inLoop (.seq (.seq (.region 3 reg32_3 false) (.cond (.tmp 14 ) (.skip) (.exit 0))) (.seq (.block 1 (.seq (.region 5 reg32_5 false) (.seq (.seq (.region 6 reg32_6 false) (.block 2 (.loop (.seq (.seq (.region 7 reg32_7 false) (.cond (.tmp 29 ) (.skip) (.exit 2))) (.seq (.block 3 (.region 9 reg32_9 true)) (.region 8 reg32_8 false)))))) (.region 10 reg32_10 false)))) (.region 4 reg32_4 false))), .inBlock 0, .code (.seq (.region 11 reg32_11 false) (.ret))]
def ptrRow (ts : Nat → Nat) (n : Nat) : List Value := (List.range n).map fun j => .pointer (some ⟨ts j, 0, none⟩)
theorem ptrRow_snoc (ts : Nat → Nat) (n : Nat) : ptrRow ts (n + 1) = ptrRow ts n ++ [.pointer (some ⟨ts n, 0, none⟩)] := by simp [ptrRow, List.range_succ]
theorem ptrRow_congr {ts ts' : Nat → Nat} {n : Nat} (h : ∀ j, j < n → ts' j = ts j) : ptrRow ts' n = ptrRow ts n := List.map_congr_left fun j hj => by rw [h j (List.mem_range.1 hj)]
theorem ptrRow_get {ts : Nat → Nat} {n j : Nat} (hj : j < n) : (ptrRow ts n)[j]? = some (.pointer (some ⟨ts j, 0, none⟩)) := by simp [ptrRow, hj]
def thZ : Array Value := thA (.slice none 0 0) 0 0 (fun _ => 0) (.slice none 0 0) (.slice none 0 0) false
section
variable {main : Bool}
theorem thr_in (tv : Value) (cs : List Frame) (w : World) :
    Walk Try.prog main (DR (fun _ => none)) (fun g w' => (∃ u, g = G (hdT0 tv (.slice none 0 0) 0 u) cs) ∧ ∃ d, w' = w.at d) (G (Frame.enter Try.prog 32 #[tv] .normal) cs) w := by
  rw [enter_at _ Try.func32 code32_is]
  simp only [Try.ntmps32, ez, Nat.reduceAdd, Nat.reduceSub]
  repeat (first | refine Walk.cx ?_ | (refine Walk.cReg ?_; simp only [z32]) | (refine Walk.oq ?_; try walk_nrm) | (refine Walk.un ?_; walk_nrm))
  refine Walk.ctl rfl (fun w => stepG_loop) ?_
  refine .stop fun d => ⟨at_slots ?_, d, rfl⟩
  simp only [hdT0]
  rfl
theorem thr_make (ta : Option Addr) (n0 tc i : Nat) (ov : Value) (u : Nat → Value) (cs : List Frame) (w : World) (h0 : i < n0) (h64 : i < 64) :
    Walk Try.prog main (DR (fun _ => none)) (fun g w' => (∃ u, g = G (hdT1 (.slice ta n0 tc) ov i w.heap.size 0 u) cs) ∧ ∃ d, w' = (w.alloc (.cells thZ 158)).at d) (G (hdT0 (.slice ta n0 tc) ov i u) cs) w := by
  have h1 : ((i : Int) < 64) := by omega
  conv => arg 5; unfold hdT0
  repeat (first | refine Walk.cx ?_ | (refine Walk.cReg ?_; simp only [z32]) | (refine Walk.oq ?_; try walk_nrm) | (refine Walk.un ?_; walk_nrm))
  (refine Walk.oa ?_; try walk_nrm)
  repeat (first | refine Walk.cx ?_ | (refine Walk.cReg ?_; simp only [z32]) | (refine Walk.oq ?_; try walk_nrm) | (refine Walk.un ?_; walk_nrm))
  refine Walk.ctl rfl (fun w => stepG_loop) ?_
  refine .stop fun d => ⟨at_slots ?_, d, rfl⟩
  simp only [hdT1]
  rfl
theorem thr_end (ta : Option Addr) (n0 tc i : Nat) (ov : Value) (u : Nat → Value) (c : Frame) (cs : List Frame) (w : World) (h : i = min n0 64) :
    Walk Try.prog main (DR (fun _ => none)) (fun g w' => g = G (c.finish ov) cs ∧ ∃ d, w' = w.at d) (G (hdT0 (.slice ta n0 tc) ov i u) (c :: cs)) w := by
  have hh : (i = n0 ∨ i = 64) ∧ i ≤ n0 ∧ i ≤ 64 := by omega
  clear h
  unfold hdT0
  by_cases h0 : i < n0
  · have h1 : decide ((i : Int) < 64) = false := by simp; omega
    have h1' : decide (i < 64) = false := by simp; omega
    repeat (first | refine Walk.cx ?_ | (refine Walk.cReg ?_; simp only [z32]) | (refine Walk.oq ?_; try walk_nrm) | (refine Walk.un ?_; walk_nrm))
    exact Walk.on1 rfl rfl Try.func32 rfl (.stop fun d => ⟨rfl, d, rfl⟩)
  · have h2 : decide (i < n0) = false := by simp; omega
    have h3 : decide ((i : Int) < n0) = false := by simp; omega
    repeat (first | refine Walk.cx ?_ | (refine Walk.cReg ?_; simp only [z32]) | (refine Walk.oq ?_; try walk_nrm) | (refine Walk.un ?_; walk_nrm))
    exact Walk.on1 rfl rfl Try.func32 rfl (.stop fun d => ⟨rfl, d, rfl⟩)
structure AppT (w : World) (ok o1 o2 o3 : Int) (oa : Option Addr) (l : List OpV) (oc : Nat) (g cap : Nat) (w3 : World) : Prop where
  own : w3.ownsRow 0 34 4 (.slice (some ⟨g, 0, none⟩) (l.length + 1) cap) (l.length + 1) (opRow l ++ [.int .i64 ok, .int .i64 o1, .int .i64 o2, .int .i64 o3])
  grown : (w.alloc (.cells #[.int .i64 ok, .int .i64 o1, .int .i64 o2, .int .i64 o3] 34)).grownBy w3 (Value.slice oa l.length oc).ownBlock
  hat : (Value.slice oa l.length oc).ownBlock = some g ∨ g = (w.alloc (.cells #[.int .i64 ok, .int .i64 o1, .int .i64 o2, .int .i64 o3] 34)).heap.size
  hlt : g < w3.heap.size
theorem thr_op (tb toff n0 tc i b k ln lc : Nat) (ia : Option Addr) (ov : Value) (o : OpV) (l : List OpV) (oa : Option Addr) (oc : Nat) (u : Nat → Value) (cs : List Frame) (a : Nat) (w : World) (h0 : i < n0) (hk : k < ln) (hk6 : k < 65536) (hl : l.length = k) (X : ThX (fun g => a ≤ g) b l oa oc 0 0 (fun _ => 0) [] none 0 false w) (ha : a ≤ w.heap.size)
    (h1 : w.cell? ⟨tb, toff + i, none⟩ = some (.slice ia ln lc)) (htb : tb < a) (h2 : ∃ ob off, ia = some ⟨ob, off, none⟩ ∧ ob < a ∧ ∀ (j : Nat) (v : Value), ([.int .i64 o.k, .int .i64 o.a, .int .i64 o.b, .int .i64 o.c] : List Value)[j]? = some v → w.cell? ⟨ob, off + k * 4 + j, none⟩ = some v) :
    Walk Try.prog main (DR (fun _ => none)) (fun g w' => (∃ u, g = G (hdT1 (.slice (some ⟨tb, toff, none⟩) n0 tc) ov i b (k + 1) u) cs) ∧ ∃ oa' oc', ThX (fun g => a ≤ g) b (l ++ [o]) oa' oc' 0 0 (fun _ => 0) [] none 0 false w' ∧ Chg (fun g => a ≤ g) w w') (G (hdT1 (.slice (some ⟨tb, toff, none⟩) n0 tc) ov i b k u) cs) w := by
  obtain ⟨fsO, huO⟩ := structT 34 (by kernel_rfl)
  obtain ⟨ob, off, rfl, hob, h2⟩ := h2
  have hbl := X.lt
  have hbS : a ≤ b := X.sb
  have hw1 : IntKind.wrap .i64 ((k : Int) + 1) = (k : Int) + 1 := by rw [IntKind.wrap_i64]; omega
  have hk7 : ((k : Int) < 65536) := by omega
  have hb0 := X.blk
  have c0 : w.cell? ⟨b, 0, none⟩ = some (.slice oa l.length oc) := tcO hb0
  obtain ⟨ok, o1, o2, o3⟩ := o
  dsimp only at h2
  have hown' : (w.alloc (.cells #[.int .i64 ok, .int .i64 o1, .int .i64 o2, .int .i64 o3] 34)).ownsRow 0 34 4 (.slice oa l.length oc) l.length (opRow l) := row_same X.rO fun g hg => heap_new_lt _ _ (X.rO.lt g hg).2
  have hnews : ∀ (j : Nat) (v : Value), ([.int .i64 ok, .int .i64 o1, .int .i64 o2, .int .i64 o3] : List Value)[j]? = some v → (w.alloc (.cells #[.int .i64 ok, .int .i64 o1, .int .i64 o2, .int .i64 o3] 34)).cell? ((⟨w.heap.size, 0, none⟩ : Addr).add j) = some v := fun j v hv => by
    rw [add_none, Nat.zero_add]
    refine (cell_of (heap_alloc_new _ _) j).trans ?_
    simpa using hv
  have hsz1 : w.heap.size + 1 ≤ (w.alloc (.cells #[.int .i64 ok, .int .i64 o1, .int .i64 o2, .int .i64 o3] 34)).heap.size ∧ (w.alloc (.cells #[.int .i64 ok, .int .i64 o1, .int .i64 o2, .int .i64 o3] 34)).heap.size ≤ w.heap.size + 1 := by simp
  have hnb : ∀ g, (Value.slice oa l.length oc).ownBlock = some g → g ≠ b := fun g hg => (X.so g hg).2
  have hfar : ∀ (x : Nat) (w2 : World), x < w.heap.size → (∀ g, (Value.slice oa l.length oc).ownBlock = some g → g ≠ x) → (w.alloc (.cells #[.int .i64 ok, .int .i64 o1, .int .i64 o2, .int .i64 o3] 34)).grownBy w2 (Value.slice oa l.length oc).ownBlock → w2.heap[x]? = w.heap[x]? := fun x w2 hx hne hg => (hg.block x (by omega) (fun e => hne x e.symm rfl)).trans (heap_new_lt _ _ hx)
  have hna : ∀ x, x < a → ∀ g, (Value.slice oa l.length oc).ownBlock = some g → g ≠ x := fun x hx g hg => by have : a ≤ g := (X.so g hg).1; omega
  have htbw : tb < w.heap.size := by omega
  have hobw : ob < w.heap.size := by omega
  conv => arg 5; unfold hdT1
  subst hl
  repeat (first | refine Walk.cx ?_ | (refine Walk.cReg ?_; simp only [z32]) | (refine Walk.oq ?_; try walk_nrm) | (refine Walk.un ?_; walk_nrm))
  refine Walk.drawnT (iA := 12) (iB := 13) (w1 := w.alloc (.cells #[.int .i64 ok, .int .i64 o1, .int .i64 o2, .int .i64 o3] 34)) (vA := .slice (some ⟨w.heap.size, 0, none⟩) 1 1) (Z := fun x => x.cell? ⟨b, 0, none⟩ = some (.slice oa l.length oc) ∧ x.cell? ⟨tb, toff + i, none⟩ = some (.slice (some ⟨ob, off, none⟩) ln lc) ∧ x.heap[ob]? = w.heap[ob]?)
    (fun v w2 => ∃ g cap, v = .slice (some ⟨g, 0, none⟩) (l.length + 1) cap ∧ AppT w ok o1 o2 o3 oa l oc g cap w2) (by kernel_rfl) size32_9 (by kernel_rfl) (by kernel_rfl) (by kernel_rfl) (by kernel_rfl) (by decide) (ho_of (by conv => lhs; whnf) (by kernel_rfl)) (ho_of (by conv => lhs; whnf) (by kernel_rfl)) ⟨c0, h1, rfl⟩ ⟨cell_alloc _ _ c0, cell_alloc _ _ h1, heap_new_lt _ _ hobw⟩ ?_ ?_
  · rintro v w2 ⟨g, cap, _, hA⟩
    exact ⟨(World.cell?_of_block (a := ⟨b, 0, none⟩) (hfar b w2 hbl hnb hA.grown)).trans c0, (World.cell?_of_block (a := ⟨tb, toff + i, none⟩) (hfar tb w2 htbw (hna tb htb) hA.grown)).trans h1, hfar ob w2 hobw (hna ob hob) hA.grown⟩
  rw [show List.filter (quietQ 12 13) (List.range 16) = [0, 1, 2, 3, 4, 5, 6, 7, 8, 9, 10, 11, 14, 15] from by decide]
  repeat (first | (refine Cm.opqZ (ho_of (by conv => lhs; whnf) (by kernel_rfl)) (by rfl) (fun wz hz dd e he => ?_) ?_; (· (obtain ⟨z1, z2, z3⟩ := hz; simp [go_sem, *] at he; try (subst he; exact evR_read _ _))); apply Exists.intro; apply And.intro; (· (intro wz hz dd K hK; obtain ⟨z1, z2, z3⟩ := hz; go_simp; exact hK))) | (refine Cm.unw (ho_of (by conv => lhs; whnf) (by kernel_rfl)) (by rfl) ?_; walk_nrm))
  refine Cm.loadS 34 (.tmp 42) (ho_of (by conv => lhs; whnf) (by kernel_rfl)) (by rfl) rfl ob (off + l.length * 4) [.int .i64 ok, .int .i64 o1, .int .i64 o2, .int .i64 o3] (.struct fsO) rfl (fun x hx j v hv => (World.cell?_of_block (a := ⟨ob, off + l.length * 4 + j, none⟩) hx.2.2).trans (h2 j v hv)) huO rfl (by kernel_rfl) ?_
  walk_nrm
  repeat (first | (refine Cm.opqZ (ho_of (by conv => lhs; whnf) (by kernel_rfl)) (by rfl) (fun wz hz dd e he => ?_) ?_; (· (obtain ⟨z1, z2, z3⟩ := hz; simp [go_sem, *] at he; try (subst he; exact evR_read _ _))); apply Exists.intro; apply And.intro; (· (intro wz hz dd K hK; obtain ⟨z1, z2, z3⟩ := hz; go_simp; exact hK))) | (refine Cm.unw (ho_of (by conv => lhs; whnf) (by kernel_rfl)) (by rfl) ?_; walk_nrm))
  refine Cm.done ⟨?_, ?_, ?_⟩
  · intro x hev rest hr'
    have e1 : x.tmps[43]?.getD undef = .agg #[.int .i64 ok, .int .i64 o1, .int .i64 o2, .int .i64 o3] := by simpa [Act.eval] using hev (.tmp 43) (by simp [Op.operands])
    clear hev
    (refine Walk.oa ?_; try walk_nrm)
    exact hr' _ _ ⟨rfl, _, rfl⟩
  · intro x hev rest hr'
    have e1 : x.eval (.tmp 36) = .slice oa l.length oc := by simpa [Act.eval] using hev (.tmp 36) (by simp [Op.operands, Call.operands])
    have e2 : x.eval (.tmp 44) = .slice (some ⟨w.heap.size, 0, none⟩) 1 1 := by simpa [Act.eval] using hev (.tmp 44) (by simp [Op.operands, Call.operands])
    have hiA := Option.some_get (show (Try.prog.info? 34).isSome = true by kernel_rfl)
    refine Walk.append (.tmp 36) (.tmp 44) 32 (ho_of (by conv => lhs; whnf) (by kernel_rfl)) (by rfl) (by decide) rfl 0 34 _ (.agg #[.int .i64 0, .int .i64 0, .int .i64 0, .int .i64 0]) 4 32 (by kernel_rfl) hiA.symm (by rfl) (by rfl) (by rfl) (by rfl) (by decide) (.slice oa l.length oc) l.length (opRow l) e1 hown' ⟨w.heap.size, 0, none⟩ 1 1 [.int .i64 ok, .int .i64 o1, .int .i64 o2, .int .i64 o3] e2 (by rfl) hnews (by simp [Value.oneCell']) (by decide) (by simp [maxLen]; omega) (by omega) (Nat.zero_le _) (fun g _ => ap0 g) (fun g cap w3 hown hg hat hlt => ?_)
    exact hr' _ _ ⟨_, w3, ⟨g, cap, rfl, hown, hg, hat, hlt⟩, rfl, w3.drawn, rfl⟩
  rintro v w2 ⟨g, cap, rfl, hA⟩ rest hr'
  have hb2 : w2.heap[b]? = w.heap[b]? := hfar b w2 hbl hnb hA.grown
  have k0 : w2.cell? ⟨b, 0, none⟩ = some (.slice oa l.length oc) := (World.cell?_of_block (a := ⟨b, 0, none⟩) hb2).trans c0
  have z0 : w2.frozen? ⟨b, 0, none⟩ = false := frozen_of (hb2.trans hb0) 0
  (have hfr := fr0 b 0; refine Walk.os hfr k0 ?_; clear hfr; try walk_nrm)
  refine hr' _ _ ?_
  have hgs := hA.grown.size
  have hgb : g ≠ b := fun e => by
    rcases hA.hat with h | h
    · exact hnb g h e
    · omega
  have hfin : ThX (fun g => a ≤ g) b (l ++ [⟨ok, o1, o2, o3⟩]) (some ⟨g, 0, none⟩) cap 0 0 (fun _ => 0) [] none 0 false (w2.setCell ⟨b, 0, none⟩ (.slice (some ⟨g, 0, none⟩) (l.length + 1) cap)) := by
    have hlen : (l ++ [(⟨ok, o1, o2, o3⟩ : OpV)]).length = l.length + 1 := by simp
    refine ⟨?_, ?_, rowNil _ _ _ _, hbS, fun x hx => ?_, fun x hx => by simp [Value.ownBlock] at hx⟩
    · rw [hlen, heap_set_self _ _ (hb2.trans hb0), thA_O]
    · rw [hlen, opRow_snoc]
      exact row_same hA.own fun x hx => heap_set_other _ _ _ _ (by
        simp only [Value.ownBlock, Option.some.injEq] at hx
        show x ≠ b
        omega)
    · simp only [Value.ownBlock, Option.some.injEq] at hx
      subst hx
      refine ⟨?_, hgb⟩
      rcases hA.hat with h | h
      · exact (X.so g h).1
      · show a ≤ g
        omega
  have hC : Chg (fun g => a ≤ g) w (w2.setCell ⟨b, 0, none⟩ (.slice (some ⟨g, 0, none⟩) (l.length + 1) cap)) := by
    refine ⟨by rw [size_set]; omega, fun x hx hn => ?_⟩
    have hn : ¬ a ≤ x := hn
    rw [heap_set_other _ _ _ _ (show x ≠ b by omega)]
    exact hfar x w2 hx (hna x (by omega)) hA.grown
  generalize w2.setCell ⟨b, 0, none⟩ (.slice (some ⟨g, 0, none⟩) (l.length + 1) cap) = w3 at *
  walk_nrm
  repeat (first | refine Walk.cx ?_ | (refine Walk.cReg ?_; simp only [z32]) | (refine Walk.oq ?_; try walk_nrm) | (refine Walk.un ?_; walk_nrm))
  refine Walk.ctl rfl (fun w => stepG_inLoop) ?_
  refine .stop fun d => ⟨at_slots ?_, _, _, hfin.at d, hC.at d⟩
  have hc : ((l.length + 1 : Nat) : Int) = (l.length : Int) + 1 := by simp
  simp only [hdT1, hc]
  rfl
theorem thr_next (tb toff n0 tc i b k ln lc : Nat) (ia la : Option Addr) (pc : Nat) (ts : Nat → Nat) (u : Nat → Value) (cs : List Frame) (a : Nat) (w : World) (h0 : i < n0) (h64 : i < 64) (hk : k = min ln 65536)
    (h1 : w.cell? ⟨tb, toff + i, none⟩ = some (.slice ia ln lc)) (hrow : w.ownsRow a 106 1 (.slice la i pc) i (ptrRow ts i)) (ha : a ≤ w.heap.size) :
    Walk Try.prog main (DR (fun _ => none)) (fun g' w' => ∃ g cap, (∃ u, g' = G (hdT0 (.slice (some ⟨tb, toff, none⟩) n0 tc) (.slice (some ⟨g, 0, none⟩) (i + 1) cap) (i + 1) u) cs) ∧ w'.ownsRow a 106 1 (.slice (some ⟨g, 0, none⟩) (i + 1) cap) (i + 1) (ptrRow ts i ++ [.pointer (some ⟨b, 0, none⟩)]) ∧ Chg (fun x => (Value.slice la i pc).ownBlock = some x) w w' ∧ ((Value.slice la i pc).ownBlock = some g ∨ w.heap.size ≤ g))
      (G (hdT1 (.slice (some ⟨tb, toff, none⟩) n0 tc) (.slice la i pc) i b k u) cs) w := by
  have hw1 : IntKind.wrap .i64 ((i : Int) + 1) = (i : Int) + 1 := by rw [IntKind.wrap_i64]; omega
  have hiP := Option.some_get (show (Try.prog.info? 106).isSome = true by kernel_rfl)
  have hsz1 : (w.alloc (.cells #[.pointer (some ⟨b, 0, none⟩)] 106)).heap.size = w.heap.size + 1 := by simp
  have hown' : (w.alloc (.cells #[.pointer (some ⟨b, 0, none⟩)] 106)).ownsRow a 106 1 (.slice la i pc) i (ptrRow ts i) := row_same hrow fun g hg => heap_new_lt _ _ (hrow.lt g hg).2
  have hnews : ∀ (j : Nat) (v : Value), ([.pointer (some ⟨b, 0, none⟩)] : List Value)[j]? = some v → (w.alloc (.cells #[.pointer (some ⟨b, 0, none⟩)] 106)).cell? ((⟨w.heap.size, 0, none⟩ : Addr).add j) = some v := fun j v hv => by
    rw [add_none, Nat.zero_add]
    refine (cell_of (heap_alloc_new _ _) j).trans ?_
    simpa using hv
  have hh : (k = ln ∨ k = 65536) ∧ k ≤ ln ∧ k ≤ 65536 := by omega
  clear hk
  conv => arg 5; unfold hdT1
  by_cases hkl : k < ln
  · have h6 : decide ((k : Int) < 65536) = false := by simp; omega
    have h6' : decide (k < 65536) = false := by simp; omega
    repeat (first | refine Walk.cx ?_ | (refine Walk.cReg ?_; simp only [z32]) | (refine Walk.oq ?_; try walk_nrm) | (refine Walk.un ?_; walk_nrm))
    (refine Walk.oa ?_; try walk_nrm)
    refine Walk.append (.tmp 48) (.tmp 50) 97 (ho_of (by conv => lhs; whnf) (by kernel_rfl)) (by rfl) (by decide) rfl a 106 _ (.pointer none) 1 8 (by kernel_rfl) hiP.symm (by rfl) (by rfl) (by rfl) (by rfl) (by decide) (.slice la i pc) i (ptrRow ts i) rfl hown' ⟨w.heap.size, 0, none⟩ 1 1 [.pointer (some ⟨b, 0, none⟩)] rfl (by rfl) hnews (by simp [Value.oneCell']) (by decide) (by simp [maxLen]; omega) (by omega) (by omega) (fun g _ => ap0 g) (fun g cap w3 hown hg hat hlt => ?_)
    walk_nrm
    repeat (first | refine Walk.cx ?_ | (refine Walk.cReg ?_; simp only [z32]) | (refine Walk.oq ?_; try walk_nrm) | (refine Walk.un ?_; walk_nrm))
    refine Walk.ctl rfl (fun w => stepG_inLoop) ?_
    have hgs := hg.size
    refine .stop fun d => ⟨g, cap, at_slots ?_, hown, ⟨by show w.heap.size ≤ w3.heap.size; omega, fun x hx hn => (hg.block x (by omega) (fun e => hn e.symm)).trans (heap_new_lt _ _ hx)⟩, hat.imp id (fun h => by omega)⟩
    have hc : ((i + 1 : Nat) : Int) = (i : Int) + 1 := by simp
    simp only [hdT0, hc]
    rfl
  · have h2 : decide (k < ln) = false := by simp; omega
    have h3 : decide ((k : Int) < ln) = false := by simp; omega
    repeat (first | refine Walk.cx ?_ | (refine Walk.cReg ?_; simp only [z32]) | (refine Walk.oq ?_; try walk_nrm) | (refine Walk.un ?_; walk_nrm))
    (refine Walk.oa ?_; try walk_nrm)
    refine Walk.append (.tmp 48) (.tmp 50) 97 (ho_of (by conv => lhs; whnf) (by kernel_rfl)) (by rfl) (by decide) rfl a 106 _ (.pointer none) 1 8 (by kernel_rfl) hiP.symm (by rfl) (by rfl) (by rfl) (by rfl) (by decide) (.slice la i pc) i (ptrRow ts i) rfl hown' ⟨w.heap.size, 0, none⟩ 1 1 [.pointer (some ⟨b, 0, none⟩)] rfl (by rfl) hnews (by simp [Value.oneCell']) (by decide) (by simp [maxLen]; omega) (by omega) (by omega) (fun g _ => ap0 g) (fun g cap w3 hown hg hat hlt => ?_)
    walk_nrm
    repeat (first | refine Walk.cx ?_ | (refine Walk.cReg ?_; simp only [z32]) | (refine Walk.oq ?_; try walk_nrm) | (refine Walk.un ?_; walk_nrm))
    refine Walk.ctl rfl (fun w => stepG_inLoop) ?_
    have hgs := hg.size
    refine .stop fun d => ⟨g, cap, at_slots ?_, hown, ⟨by show w.heap.size ≤ w3.heap.size; omega, fun x hx hn => (hg.block x (by omega) (fun e => hn e.symm)).trans (heap_new_lt _ _ hx)⟩, hat.imp id (fun h => by omega)⟩
    have hc : ((i + 1 : Nat) : Int) = (i : Int) + 1 := by simp
    simp only [hdT0, hc]
    rfl
end
end
section
theorem ThX.mono' {S S' : Nat → Prop} {b : Nat} {ops : List OpV} {oa : Option Addr} {oc : Nat} {I PC : Int} {N : Nat → Int} {ans : List Ans} {aa : Option Addr} {ac : Nat} {e : Bool} {w : World} (X : ThX S b ops oa oc I PC N ans aa ac e w) (h : ∀ g, g < w.heap.size → S g → S' g) : ThX S' b ops oa oc I PC N ans aa ac e w :=
  ⟨X.blk, X.rO, X.rA, h _ X.lt X.sb, fun g hg => ⟨h _ (X.rO.lt g hg).2 (X.so g hg).1, (X.so g hg).2⟩, fun g hg => ⟨h _ (X.rA.lt g hg).2 (X.sa g hg).1, (X.sa g hg).2⟩⟩
structure ThMk (ops : Nat → List OpV) (w0 : World) (i : Nat) (pr : Nat → Option Nat) (ts : Nat → Nat) (oas : Nat → Option Addr) (ocs : Nat → Nat) (la : Option Addr) (pc : Nat) (w : World) : Prop where
  size : w0.heap.size ≤ w.heap.size
  old : ∀ b, b < w0.heap.size → w.heap[b]? = w0.heap[b]?
  row : w.ownsRow w0.heap.size 106 1 (.slice la i pc) i (ptrRow ts i)
  rowp : ∀ g, (Value.slice la i pc).ownBlock = some g → pr g = none
  prl : ∀ b j, pr b = some j → w0.heap.size ≤ b ∧ b < w.heap.size ∧ j < i
  th : ∀ j, j < i → ThX (fun b => pr b = some j) (ts j) (ops j) (oas j) (ocs j) 0 0 (fun _ => 0) [] none 0 false w
section
variable {main : Bool}
theorem thr_ops (tb toff n0 tc i b ln lc : Nat) (ia : Option Addr) (ov : Value) (opl : List OpV) (cs : List Frame) (a : Nat) (h0 : i < n0) (hlen : opl.length = min ln 65536) (htb : tb < a) :
    ∀ (r k : Nat) (oa : Option Addr) (oc : Nat) (u : Nat → Value) (w : World), k + r = opl.length → ThX (fun g => a ≤ g) b (opl.take k) oa oc 0 0 (fun _ => 0) [] none 0 false w → a ≤ w.heap.size → w.cell? ⟨tb, toff + i, none⟩ = some (.slice ia ln lc) →
      (∀ (j : Nat) (o : OpV), opl[j]? = some o → ∃ ob off, ia = some ⟨ob, off, none⟩ ∧ ob < a ∧ ∀ (q : Nat) (v : Value), ([.int .i64 o.k, .int .i64 o.a, .int .i64 o.b, .int .i64 o.c] : List Value)[q]? = some v → w.cell? ⟨ob, off + j * 4 + q, none⟩ = some v) →
      Walk Try.prog main (DR (fun _ => none)) (fun g w' => (∃ u, g = G (hdT1 (.slice (some ⟨tb, toff, none⟩) n0 tc) ov i b opl.length u) cs) ∧ ∃ oa' oc', ThX (fun g => a ≤ g) b opl oa' oc' 0 0 (fun _ => 0) [] none 0 false w' ∧ Chg (fun g => a ≤ g) w w') (G (hdT1 (.slice (some ⟨tb, toff, none⟩) n0 tc) ov i b k u) cs) w := by
  intro r
  induction r with
  | zero =>
    intro k oa oc u w hk X ha h1 h2
    obtain rfl : k = opl.length := hk
    rw [List.take_length] at X
    exact .stop fun d => ⟨⟨u, rfl⟩, oa, oc, X.at d, Chg.refl.at d⟩
  | succ r ih =>
    intro k oa oc u w hk X ha h1 h2
    have hkl : k < opl.length := by omega
    have ho : opl[k]? = some opl[k] := List.getElem?_eq_getElem hkl
    generalize opl[k] = o at ho
    refine (thr_op tb toff n0 tc i b k ln lc ia ov o (opl.take k) oa oc u cs a w h0 (by omega) (by omega) (by simp; omega) X ha h1 htb (h2 k o ho)).then ?_
    rintro g w' ⟨⟨u', rfl⟩, oa', oc', X', hC⟩
    have et : opl.take k ++ [o] = opl.take (k + 1) := by rw [List.take_add_one, ho]; rfl
    rw [et] at X'
    have hc : ∀ {x j : Nat} {v : Value}, x < a → w.cell? ⟨x, j, none⟩ = some v → w'.cell? ⟨x, j, none⟩ = some v := fun {x j v} hx h => (World.cell?_of_block (a := ⟨x, j, none⟩) (hC.same x (cell_lt' h) (by omega))).trans h
    refine (ih (k + 1) oa' oc' u' w' (by omega) X' (Nat.le_trans ha hC.size) (hc htb h1) (fun j o hj => ?_)).mono ?_
    · obtain ⟨ob, off, e, hob, hq⟩ := h2 j o hj
      exact ⟨ob, off, e, hob, fun q v hv => hc hob (hq q v hv)⟩
    · rintro g w2 ⟨hg, oa2, oc2, X2, hC2⟩
      exact ⟨hg, oa2, oc2, X2, hC.trans hC2 fun _ _ h => h⟩
def ThrOut (ops : Nat → List OpV) (n : Nat) (w0 : World) (v : Value) (w' : World) : Prop := ∃ pr ts oas ocs la pc, v = .slice la n pc ∧ ThMk ops w0 n pr ts oas ocs la pc w'
theorem thr_one (tb toff n0 tc n i : Nat) (oa : Nat → Option Addr) (ln oc : Nat → Nat) (ops : Nat → List OpV) (W : World) (I : OpsIn tb toff n oa ln oc ops W) (hn : n = min n0 64) (hi : i < n) (pr : Nat → Option Nat) (ts : Nat → Nat) (oas : Nat → Option Addr) (ocs : Nat → Nat) (la : Option Addr) (pc : Nat) (u : Nat → Value) (cs : List Frame) (w : World) (M : ThMk ops W i pr ts oas ocs la pc w) :
    Walk Try.prog main (DR (fun _ => none)) (fun g w' => ∃ pr ts oas ocs la pc, (∃ u, g = G (hdT0 (.slice (some ⟨tb, toff, none⟩) n0 tc) (.slice la (i + 1) pc) (i + 1) u) cs) ∧ ThMk ops W (i + 1) pr ts oas ocs la pc w') (G (hdT0 (.slice (some ⟨tb, toff, none⟩) n0 tc) (.slice la i pc) i u) cs) w := by
  have hWs := M.size
  have hcW : ∀ {x j : Nat} {v : Value} {w' : World}, (∀ b, b < W.heap.size → w'.heap[b]? = W.heap[b]?) → W.cell? ⟨x, j, none⟩ = some v → w'.cell? ⟨x, j, none⟩ = some v := fun {x j v w'} h hc => (World.cell?_of_block (a := ⟨x, j, none⟩) (h x (cell_lt' hc))).trans hc
  refine (thr_make (some ⟨tb, toff, none⟩) n0 tc i (.slice la i pc) u cs w (by omega) (by omega)).then ?_
  rintro g w1' ⟨⟨u1, rfl⟩, d1, rfl⟩
  refine Walk.back ?_ d1
  have d0 := heap_alloc_new w (.cells thZ 158)
  have s0 : (w.alloc (.cells thZ 158)).heap.size = w.heap.size + 1 := by simp
  have o0 : ∀ b, b < w.heap.size → (w.alloc (.cells thZ 158)).heap[b]? = w.heap[b]? := fun b hb => heap_new_lt _ _ hb
  generalize w.alloc (.cells thZ 158) = w1 at *
  have X1 : ThX (fun g => w.heap.size ≤ g) w.heap.size ((ops i).take 0) none 0 0 0 (fun _ => 0) [] none 0 false w1 := ⟨d0, rowNil _ _ _ _, rowNil _ _ _ _, Nat.le_refl _, fun g hg => by simp [Value.ownBlock] at hg, fun g hg => by simp [Value.ownBlock] at hg⟩
  have old1 : ∀ b, b < W.heap.size → w1.heap[b]? = W.heap[b]? := fun b hb => (o0 b (by omega)).trans (M.old b hb)
  have htbW := cell_lt' (I.hd i hi)
  refine (thr_ops tb toff n0 tc i w.heap.size (ln i) (oc i) (oa i) (.slice la i pc) (ops i) cs w.heap.size (by omega) (I.len i hi) (by omega) (ops i).length 0 none 0 u1 w1 (by omega) X1 (by omega) (hcW old1 (I.hd i hi)) (fun j o hj => ?_)).then ?_
  · obtain ⟨ob, off, e, c0, c1, c2, c3⟩ := I.ops i hi j o hj
    refine ⟨ob, off, e, by have := cell_lt' c0; omega, fun q v hv => ?_⟩
    match q, hv with
    | 0, hv => cases hv; exact hcW old1 c0
    | 1, hv => cases hv; exact hcW old1 c1
    | 2, hv => cases hv; exact hcW old1 c2
    | 3, hv => cases hv; exact hcW old1 c3
  rintro g w2 ⟨⟨u2, rfl⟩, oa2, oc2, X2, hC2⟩
  have s2 := hC2.size
  have old2 : ∀ b, b < w.heap.size → w2.heap[b]? = w.heap[b]? := fun b hb => (hC2.same b (by omega) (by omega)).trans (o0 b hb)
  have hrow2 : w2.ownsRow W.heap.size 106 1 (.slice la i pc) i (ptrRow ts i) := row_same M.row fun g hg => old2 g (M.row.lt g hg).2
  refine (thr_next tb toff n0 tc i w.heap.size (ops i).length (ln i) (oc i) (oa i) la pc ts u2 cs W.heap.size w2 (by omega) (by omega) (I.len i hi) (hcW (fun b hb => (old2 b (by omega)).trans (M.old b hb)) (I.hd i hi)) hrow2 (by omega)).mono ?_
  rintro g' w3 ⟨g, cap, ⟨u3, rfl⟩, hown, hC3, hat⟩
  have s3 := hC3.size
  have hlap : ∀ x, (Value.slice la i pc).ownBlock = some x → W.heap.size ≤ x ∧ x < w.heap.size := fun x hx => M.row.lt x hx
  refine ⟨fun x => if w.heap.size ≤ x ∧ x < w2.heap.size then some i else pr x, upd ts i w.heap.size, upd oas i oa2, upd ocs i oc2, some ⟨g, 0, none⟩, cap, ⟨u3, rfl⟩, ⟨by omega, fun b hb => ?_, ?_, fun x hx => ?_, fun x j hx => ?_, fun j hj => ?_⟩⟩
  · rw [hC3.same b (by omega) (fun e => by have := (hlap b e).1; omega), old2 b (by omega)]
    exact M.old b hb
  · rw [ptrRow_snoc, upd_same, ptrRow_congr (ts := ts) (fun j hj => upd_ne _ _ (by omega))]
    exact hown
  · simp only [Value.ownBlock, Option.some.injEq] at hx
    subst hx
    rcases hat with h | h
    · rw [if_neg (by have := hlap g h; omega)]
      exact M.rowp g h
    · rw [if_neg (by omega)]
      cases e : pr g with
      | none => rfl
      | some j => have := (M.prl g j e).2.1; omega
  · by_cases h : w.heap.size ≤ x ∧ x < w2.heap.size
    · rw [if_pos h] at hx
      cases hx
      exact ⟨by omega, by omega, by omega⟩
    · rw [if_neg h] at hx
      have := M.prl x j hx
      exact ⟨this.1, by omega, by omega⟩
  · by_cases e : j = i
    · subst e
      simp only [upd_same]
      refine (X2.mono' (S' := fun x => (if w.heap.size ≤ x ∧ x < w2.heap.size then some j else pr x) = some j) fun x hx hS => if_pos ⟨hS, hx⟩).same fun x hx hS => hC3.same x hx fun e => ?_
      have h1 := hlap x e
      have hS : (if w.heap.size ≤ x ∧ x < w2.heap.size then some j else pr x) = some j := hS
      rw [if_neg (by omega), M.rowp x e] at hS
      cases hS
    · simp only [upd_ne _ _ e]
      have hX := M.th j (by omega)
      refine (hX.same fun x hx hS => ?_).mono' fun x hx hS => ?_
      · have hS : pr x = some j := hS
        have hx := (M.prl x j hS).2.1
        refine (hC3.same x (by omega) fun e => ?_).trans (old2 x hx)
        rw [M.rowp x e] at hS
        cases hS
      · have hS : pr x = some j := hS
        have hx := (M.prl x j hS).2.1
        show (if w.heap.size ≤ x ∧ x < w2.heap.size then some i else pr x) = some j
        rw [if_neg (by omega)]
        exact hS
theorem thr_w (tb toff n0 tc n : Nat) (ta : Option Addr) (oa : Nat → Option Addr) (ln oc : Nat → Nat) (ops : Nat → List OpV) (W : World) (I : OpsIn tb toff n oa ln oc ops W) (hn : n = min n0 64) (ht : 0 < n → ta = some ⟨tb, toff, none⟩) :
    CallW Try.prog main (fun _ => none) 32 #[.slice ta n0 tc] W (ThrOut ops n W) := by
  intro c cs
  refine (thr_in (.slice ta n0 tc) (c :: cs) W).then ?_
  rintro g w1 ⟨⟨u, rfl⟩, d, rfl⟩
  have M0 : ThMk ops W 0 (fun _ => none) (fun _ => 0) (fun _ => none) (fun _ => 0) none 0 (W.at d) := ⟨Nat.le_refl _, (fun _ _ => rfl), rowNil _ _ _ _, (fun _ _ => rfl), (fun _ _ h => by cases h), fun j hj => absurd hj (Nat.not_lt_zero _)⟩
  have fin : ∀ (i : Nat) (pr : Nat → Option Nat) (ts : Nat → Nat) (oas : Nat → Option Addr) (ocs : Nat → Nat) (la : Option Addr) (pc : Nat) (u : Nat → Value) (w : World), i = n → ThMk ops W i pr ts oas ocs la pc w →
      Walk Try.prog main (DR (fun _ => none)) (fun g w' => ∃ v, ThrOut ops n W v w' ∧ g = G (c.finish v) cs) (G (hdT0 (.slice ta n0 tc) (.slice la i pc) i u) (c :: cs)) w := by
    intro i pr ts oas ocs la pc u w hi M
    subst hi
    refine (thr_end ta n0 tc i (.slice la i pc) u c cs w hn).mono ?_
    rintro g w' ⟨rfl, d, rfl⟩
    exact ⟨_, ⟨pr, ts, oas, ocs, la, pc, rfl, ⟨M.size, M.old, M.row, M.rowp, M.prl, fun j hj => (M.th j hj).at d⟩⟩, rfl⟩
  rcases Nat.eq_zero_or_pos n with h0 | h0
  · exact fin 0 _ _ _ _ none 0 u _ h0.symm M0
  obtain rfl := ht h0
  have loop : ∀ (r i : Nat) (pr : Nat → Option Nat) (ts : Nat → Nat) (oas : Nat → Option Addr) (ocs : Nat → Nat) (la : Option Addr) (pc : Nat) (u : Nat → Value) (w : World), i + r = n → ThMk ops W i pr ts oas ocs la pc w →
      Walk Try.prog main (DR (fun _ => none)) (fun g w' => ∃ v, ThrOut ops n W v w' ∧ g = G (c.finish v) cs) (G (hdT0 (.slice (some ⟨tb, toff, none⟩) n0 tc) (.slice la i pc) i u) (c :: cs)) w := by
    intro r
    induction r with
    | zero => intro i pr ts oas ocs la pc u w hi M; exact fin i pr ts oas ocs la pc u w hi M
    | succ r ih =>
      intro i pr ts oas ocs la pc u w hi M
      refine (thr_one tb toff n0 tc n i oa ln oc ops W I hn (by omega) pr ts oas ocs la pc u (c :: cs) w M).then ?_
      rintro g w' ⟨pr', ts', oas', ocs', la', pc', ⟨u', rfl⟩, M'⟩
      exact ih (i + 1) pr' ts' oas' ocs' la' pc' u' w' (by omega) M'
  exact loop n 0 _ _ _ _ none 0 u _ (by omega) M0
end
end
end Go.Proofs.Ytdcjgmlgmjjogaa
