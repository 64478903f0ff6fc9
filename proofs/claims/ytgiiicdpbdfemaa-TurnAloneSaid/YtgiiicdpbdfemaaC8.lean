/- Part 8. -/
import Derived.Test.YtgiiicdpbdfemaaC7
set_option linter.unusedSimpArgs false
/- Package turn's Play: share. -/
section
namespace Go.Proofs.Ytgiiicdpbdfemaa
open Go.Conc Go.RowKit Go.Relay
open Go.ConcN (upd upd_ne upd_same)

variable {main : Bool} {V : Nat → Option Wait}

noncomputable def body39 : Code := match Try.f39.body with | some (.seq _ (.seq _ (.seq (.seq _ (.block _ (.loop c))) _))) => c | _ => .skip
noncomputable def rest39 : Code := match Try.f39.body with | some (.seq _ (.seq _ (.seq _ c))) => c | _ => .skip
noncomputable def hd39 (sl : Value) (sw n j : Nat) (u : Nat → Value) : Frame :=
  (base 39).at { tmps := #[sl, undef, .slice none 0 0, .slice (some ⟨sw, 0, none⟩) n n, u 4, u 5, sl, .int .i64 n, .slice (some ⟨sw, 0, none⟩) n n, sl, .int .i64 n, .int .i64 j, u 12, u 13, u 14, u 15, u 16, u 17, u 18, u 19, u 20, u 21, u 22], defers := [] } [.code body39, .inLoop body39, .inBlock 0, .code rest39]

set_option maxHeartbeats 8000000 in
set_option maxRecDepth 100000 in
theorem share_in (wa : Option Addr) (n cap : Nat) (cs : List Frame) (w : World) (hn : n ≤ 1048576) :
    Walk Try.prog main (DR V) (fun g w' => g = G (hd39 (.slice wa n cap) w.heap.size n 0 (fun _ => undef)) cs ∧ ∃ d, w' = (w.alloc (.cells (madeCells #[.int .i64 0] n) 143)).at d) (G (Frame.enter Try.prog 39 #[.slice wa n cap] .normal) cs) w := by
  rw [enter_at _ Try.func39 rfl]
  simp only [Try.f39, List.size_toArray, List.length_cons, List.length_nil, Nat.reduceAdd, Nat.reduceSub, Array.replicate_succ, Array.replicate_zero, List.push_toArray, List.append_toArray, List.nil_append, List.cons_append]
  repeat (first | (refine Walk.c rfl ?_) | (refine Walk.cReg ?_; simp only [List.size_toArray, List.length_cons, List.length_nil, Nat.reduceAdd, Nat.zero_add, List.range, List.range.loop]) | (refine Walk.cRet ?_) | (refine Walk.cEnd ?_) | (refine Walk.opq (ho_of (by conv => lhs; whnf) (by kernel_rfl)) (by rfl) (by decide) (fun dd e he => ?_) (fun dd K hK => ?_); (· (simp [go_sem, *] at he; try (subst he; exact evR_read _ _))); go_simp; refine hK _ ?_; clear hK K; try walk_nrm) | (refine Walk.ctl rfl (fun w => stepG_unwanted (ho_of (by conv => lhs; whnf) (by kernel_rfl)) (by rfl)) ?_; walk_nrm))
  have hi143 := Option.some_get (show (Try.prog.info? 143).isSome = true by kernel_rfl)
  refine Walk.make 87 (.tmp 7) (.tmp 7) rfl (by rfl) (by decide) rfl 143 _ (.agg #[.int .i64 0]) 1 8 (by kernel_rfl) hi143.symm (by kernel_rfl) (by kernel_rfl) (by kernel_rfl) n rfl rfl (by omega) hn ?_
  clear hi143
  walk_nrm
  simp only [Value.cells, Nat.mul_one]
  repeat (first | (refine Walk.c rfl ?_) | (refine Walk.cReg ?_; simp only [List.size_toArray, List.length_cons, List.length_nil, Nat.reduceAdd, Nat.zero_add, List.range, List.range.loop]) | (refine Walk.cRet ?_) | (refine Walk.cEnd ?_) | (refine Walk.opq (ho_of (by conv => lhs; whnf) (by kernel_rfl)) (by rfl) (by decide) (fun dd e he => ?_) (fun dd K hK => ?_); (· (simp [go_sem, *] at he; try (subst he; exact evR_read _ _))); go_simp; refine hK _ ?_; clear hK K; try walk_nrm) | (refine Walk.ctl rfl (fun w => stepG_unwanted (ho_of (by conv => lhs; whnf) (by kernel_rfl)) (by rfl)) ?_; walk_nrm))
  refine Walk.ctl rfl (fun w => stepG_loop) ?_
  refine .stop fun d => ⟨?_, d, rfl⟩
  simp only [hd39, body39, rest39, Try.f39]
  rfl

set_option maxHeartbeats 8000000 in
set_option maxRecDepth 100000 in
theorem share_go (wb n cap sw j : Nat) (x : Int) (y : Value) (u : Nat → Value) (cs : List Frame) (w : World) (hj : j < n) (hn : n ≤ 1048576) (hx : w.cell? ⟨wb, j, none⟩ = some (.int .i64 x)) (hy : w.cell? ⟨sw, j, none⟩ = some y) (hz : w.frozen? ⟨sw, j, none⟩ = false) (hf : Free V ⟨sw, j, none⟩) :
    Walk Try.prog main (DR V) (fun g w' => (∃ u', g = G (hd39 (.slice (some ⟨wb, 0, none⟩) n cap) sw n (j + 1) u') cs) ∧ ∃ d, w' = (w.setCell ⟨sw, j, none⟩ (.int .i64 x)).at d) (G (hd39 (.slice (some ⟨wb, 0, none⟩) n cap) sw n j u) cs) w := by
  have hw1 : IntKind.wrap .i64 ((j : Int) + 1) = (j : Int) + 1 := by rw [IntKind.wrap_i64]; omega
  conv => arg 5; unfold hd39; simp only [body39, Try.f39]
  repeat (first | (refine Walk.c rfl ?_) | (refine Walk.cReg ?_; simp only [List.size_toArray, List.length_cons, List.length_nil, Nat.reduceAdd, Nat.zero_add, List.range, List.range.loop]) | (refine Walk.cRet ?_) | (refine Walk.cEnd ?_) | (refine Walk.opq (ho_of (by conv => lhs; whnf) (by kernel_rfl)) (by rfl) (by decide) (fun dd e he => ?_) (fun dd K hK => ?_); (· (simp [go_sem, *] at he; try (subst he; exact evR_read _ _))); go_simp; refine hK _ ?_; clear hK K; try walk_nrm) | (refine Walk.ctl rfl (fun w => stepG_unwanted (ho_of (by conv => lhs; whnf) (by kernel_rfl)) (by rfl)) ?_; walk_nrm))
  refine Walk.callV (x := .tuple #[]) (W := w.setCell ⟨sw, j, none⟩ (.int .i64 x)) ?_ rfl (by rfl) (by decide) rfl Try.func69 (by kernel_rfl) (by rfl) ?_
  · walk_nrm
    exact store69 _ y x w hy hz hf
  walk_nrm
  repeat (first | (refine Walk.c rfl ?_) | (refine Walk.cReg ?_; simp only [List.size_toArray, List.length_cons, List.length_nil, Nat.reduceAdd, Nat.zero_add, List.range, List.range.loop]) | (refine Walk.cRet ?_) | (refine Walk.cEnd ?_) | (refine Walk.opq (ho_of (by conv => lhs; whnf) (by kernel_rfl)) (by rfl) (by decide) (fun dd e he => ?_) (fun dd K hK => ?_); (· (simp [go_sem, *] at he; try (subst he; exact evR_read _ _))); go_simp; refine hK _ ?_; clear hK K; try walk_nrm) | (refine Walk.ctl rfl (fun w => stepG_unwanted (ho_of (by conv => lhs; whnf) (by kernel_rfl)) (by rfl)) ?_; walk_nrm))
  refine Walk.ctl rfl (fun w => stepG_inLoop) ?_
  refine .stop fun d' => ⟨⟨fun k => ([undef, undef, undef, undef, .int .i64 j, .int .i64 x, undef, undef, undef, undef, undef, undef, .bool true, .int .i64 j, .pointer (some ⟨wb, j, none⟩), .int .i64 x, .slice (some ⟨sw, 0, none⟩) n n, .int .i64 j, .pointer (some ⟨sw, j, none⟩), .int .i64 x, .tuple #[], .int .i64 ((j : Int) + 1), u 22] : List Value).getD k undef, ?_⟩, d', rfl⟩
  have hc : ((j + 1 : Nat) : Int) = (j : Int) + 1 := by simp
  simp only [hd39, body39, Try.f39, hc]
  rfl

set_option maxHeartbeats 8000000 in
set_option maxRecDepth 100000 in
theorem share_out (sl : Value) (n sw : Nat) (u : Nat → Value) (c : Frame) (cs : List Frame) (w : World) :
    Walk Try.prog main (DR V) (fun g w' => g = G (c.finish (.slice (some ⟨sw, 0, none⟩) n n)) cs ∧ ∃ d, w' = w.at d) (G (hd39 sl sw n n u) (c :: cs)) w := by
  unfold hd39
  simp only [body39, rest39, Try.f39]
  repeat (first | (refine Walk.c rfl ?_) | (refine Walk.cReg ?_; simp only [List.size_toArray, List.length_cons, List.length_nil, Nat.reduceAdd, Nat.zero_add, List.range, List.range.loop]) | (refine Walk.cRet ?_) | (refine Walk.cEnd ?_) | (refine Walk.opq (ho_of (by conv => lhs; whnf) (by kernel_rfl)) (by rfl) (by decide) (fun dd e he => ?_) (fun dd K hK => ?_); (· (simp [go_sem, *] at he; try (subst he; exact evR_read _ _))); go_simp; refine hK _ ?_; clear hK K; try walk_nrm) | (refine Walk.ctl rfl (fun w => stepG_unwanted (ho_of (by conv => lhs; whnf) (by kernel_rfl)) (by rfl)) ?_; walk_nrm))
  exact (Walk.ret1 (Post := fun v w' => v = .slice (some ⟨sw, 0, none⟩) n n ∧ ∃ d, w' = w.at d) rfl rfl Try.func39 rfl fun d => ⟨rfl, d, rfl⟩).mono fun g w' ⟨v, ⟨hv, hd⟩, hg⟩ => ⟨by rw [hg, hv], hd⟩
end Go.Proofs.Ytgiiicdpbdfemaa
end

/- Package turn's Play: share's contract. -/
section
namespace Go.Proofs.Ytgiiicdpbdfemaa
open Go.Conc Go.RowKit Go.Relay
open Go.ConcN (upd upd_ne upd_same)

variable {main : Bool} {V : Nat → Option Wait}

/-- Numbers in a slice. -/
def IntsAt (wa : Option Addr) (l : List Int) (w : World) : Prop := ∀ (j : Nat) (x : Int), l[j]? = some x → ∃ wb, wa = some ⟨wb, 0, none⟩ ∧ w.cell? ⟨wb, j, none⟩ = some (.int .i64 x)
/-- The old blocks stand. -/
structure Old (w w' : World) : Prop where
  size : w.heap.size ≤ w'.heap.size
  same : ∀ b, b < w.heap.size → w'.heap[b]? = w.heap[b]?
theorem Old.refl (w : World) : Old w w := ⟨Nat.le_refl _, fun _ _ => rfl⟩
theorem Old.trans {a b c : World} (h : Old a b) (k : Old b c) : Old a c := ⟨Nat.le_trans h.size k.size, fun x hx => (k.same x (Nat.lt_of_lt_of_le hx h.size)).trans (h.same x hx)⟩
theorem IntsAt.old {wa : Option Addr} {l : List Int} {w w' : World} (h : IntsAt wa l w) (hs : ∀ b, b < w.heap.size → w'.heap[b]? = w.heap[b]?) : IntsAt wa l w' := by
  intro j x hj
  obtain ⟨wb, e, hc⟩ := h j x hj
  exact ⟨wb, e, (World.cell?_of_block (a := ⟨wb, j, none⟩) (hs wb (cell_lt w hc))).trans hc⟩

theorem share_loop (wa : Option Addr) (cap : Nat) (l : List Int) (hn : l.length ≤ 1048576) (w0 : World) (hl : IntsAt wa l w0) (hA : Apart V w0.heap.size) (c : Frame) (cs : List Frame) : ∀ (r j : Nat) (u : Nat → Value) (w : World), j + r = l.length → Old w0 w → w0.heap.size < w.heap.size →
    (∃ arr, w.heap[w0.heap.size]? = some (.cells arr 143 (0, 0)) ∧ arr.size = l.length ∧ ∀ i x, i < j → l[i]? = some x → arr[i]? = some (.int .i64 x)) →
    Walk Try.prog main (DR V) (fun g w' => g = G (c.finish (.slice (some ⟨w0.heap.size, 0, none⟩) l.length l.length)) cs ∧ Old w0 w' ∧ w0.heap.size < w'.heap.size ∧ ∃ arr, w'.heap[w0.heap.size]? = some (.cells arr 143 (0, 0)) ∧ arr.size = l.length ∧ ∀ (i : Nat) (x : Int), l[i]? = some x → arr[i]? = some (.int .i64 x))
      (G (hd39 (.slice wa l.length cap) w0.heap.size l.length j u) (c :: cs)) w := by
  intro r
  induction r with
  | zero =>
    intro j u w hj ho hlt ⟨arr, h1, h2, h3⟩
    have hj : j = l.length := hj
    subst hj
    refine (share_out _ l.length w0.heap.size u c cs w).mono ?_
    rintro g w' ⟨rfl, d, rfl⟩
    exact ⟨rfl, ⟨ho.size, ho.same⟩, hlt, arr, h1, h2, fun i x hx => h3 i x (List.getElem?_eq_some_iff.1 hx).1 hx⟩
  | succ r ih =>
    intro j u w hj ho hlt ⟨arr, h1, h2, h3⟩
    have hjl : j < l.length := by omega
    have hx := List.getElem?_eq_getElem hjl
    generalize l[j] = x at hx
    obtain ⟨wb, rfl, hc⟩ := hl j x hx
    have hwb : w.cell? ⟨wb, j, none⟩ = some (.int .i64 x) := (World.cell?_of_block (a := ⟨wb, j, none⟩) (ho.same wb (cell_lt w0 hc))).trans hc
    have hlj : j < arr.size := by omega
    refine (share_go wb l.length cap w0.heap.size j x arr[j] u (c :: cs) w hjl hn hwb ((cell_of h1 j).trans (Array.getElem?_eq_getElem hlj)) (frozen_of h1 j) (hA.1 _ rfl)).then ?_
    rintro g w' ⟨⟨u', rfl⟩, d, rfl⟩
    refine Walk.back ?_ d
    refine ih (j + 1) u' _ (by omega) ⟨by rw [size_set]; exact ho.size, fun b hb => (heap_set_other _ _ _ _ (by show b ≠ w0.heap.size; omega)).trans (ho.same b hb)⟩ (by rw [size_set]; exact hlt) ⟨_, heap_set_self _ _ h1, by simpa using h2, fun i y hi hy => ?_⟩
    by_cases e : i = j
    · subst e
      rw [Array.getElem?_setIfInBounds_self_of_lt hlj]
      rw [hx] at hy; cases hy; rfl
    · rw [Array.getElem?_setIfInBounds_ne (Ne.symm e)]
      exact h3 i y (by omega) hy

/-- share: the words as atomics. -/
theorem share_w (wa : Option Addr) (cap : Nat) (l : List Int) (hn : l.length ≤ 1048576) (w : World) (hl : IntsAt wa l w) (hA : Apart V w.heap.size) :
    CallW Try.prog main V 39 #[.slice wa l.length cap] w (fun v w' => v = .slice (some ⟨w.heap.size, 0, none⟩) l.length l.length ∧ Old w w' ∧ w.heap.size < w'.heap.size ∧ WsIs w.heap.size l.length (fun j => l.getD j 0) w') := by
  intro fr cs
  refine (share_in wa l.length cap (fr :: cs) w hn).then ?_
  rintro g w1 ⟨rfl, d, rfl⟩
  refine Walk.back ?_ d
  refine (share_loop wa cap l hn w hl hA fr cs l.length 0 (fun _ => undef) _ (by omega) ⟨by simp, fun b hb => heap_new_lt w _ hb⟩ (by simp) ⟨_, heap_alloc_new w _, by simp [size_madeCells], fun i x hi => absurd hi (Nat.not_lt_zero _)⟩).mono ?_
  rintro g w2 ⟨rfl, ho, hlt, arr, h1, h2, h3⟩
  refine ⟨_, ⟨rfl, ho, hlt, arr, h1, fun j hj => ?_⟩, rfl⟩
  have hx := List.getElem?_eq_getElem hj
  rw [h3 j _ hx]
  show _ = some (Value.int .i64 (l.getD j 0))
  rw [List.getD_eq_getElem?_getD, hx, Option.getD_some]
end Go.Proofs.Ytgiiicdpbdfemaa
end

/- The statement's side: codes: its contract. -/
section
namespace Go.Proofs.Ytgiiicdpbdfemaa
open Go.Conc Go.RowKit Go.Relay
open Go.ConcN (upd upd_ne upd_same)

variable {main : Bool} {V : Nat → Option Wait}

abbrev Sl := Option Addr × Nat × Nat
def slc (p : Sl) : Value := .slice p.1 p.2.1 p.2.2
def cdCells (d : Cd) : List Value := codeCells d.d d.r d.a d.b d.v
def flatC (c : List Cd) : List Value := c.flatMap cdCells
theorem cd_len (d : Cd) : (cdCells d).length = 5 := rfl
theorem flat_len : ∀ c : List Cd, (flatC c).length = c.length * 5
  | [] => rfl
  | d :: c => by
    have := flat_len c
    simp only [flatC, List.flatMap_cons, List.length_append, List.length_cons, cd_len] at this ⊢
    omega
theorem flat_get : ∀ (c : List Cd) (j m : Nat) (d : Cd), c[j]? = some d → m < 5 → (flatC c)[j * 5 + m]? = (cdCells d)[m]?
  | [], j, m, d, h, _ => by simp at h
  | x :: c, 0, m, d, h, hm => by
    have h : x = d := by simpa using h
    subst h
    simp only [flatC, List.flatMap_cons, Nat.zero_mul, Nat.zero_add]
    rw [List.getElem?_append_left (by rw [cd_len]; exact hm)]
  | x :: c, j + 1, m, d, h, hm => by
    have h : c[j]? = some d := by simpa using h
    have := flat_get c j m d h hm
    simp only [flatC, List.flatMap_cons]
    rw [List.getElem?_append_right (by rw [cd_len]; omega), cd_len]
    have e : (j + 1) * 5 + m - 5 = j * 5 + m := by omega
    rw [e]
    exact this

/-- Programs as the statement has them: a slice of slices of codes. -/
structure Src (pa : Option Addr) (l : List Sl) (Ps : List (List Cd)) (w : World) : Prop where
  len : l.length = Ps.length
  at_ : ∀ (i : Nat) (p : Sl), l[i]? = some p → ∃ pb po, pa = some ⟨pb, po, none⟩ ∧ w.cell? ⟨pb, po + i, none⟩ = some (slc p)
  codes : ∀ (i : Nat) (p : Sl) (c : List Cd), l[i]? = some p → Ps[i]? = some c → p.2.1 = c.length ∧ ∀ (k : Nat) (d : Cd), c[k]? = some d → ∃ cb co, p.1 = some ⟨cb, co, none⟩ ∧ ∀ m v, (cdCells d)[m]? = some v → w.cell? ⟨cb, co + k * 5 + m, none⟩ = some v
theorem old_cell {w w' : World} (h : Old w w') {a : Addr} {v : Value} (hc : w.cell? a = some v) : w'.cell? a = some v := (World.cell?_of_block (h.same a.block (cell_lt w hc))).trans hc
theorem Src.old {pa : Option Addr} {l : List Sl} {Ps : List (List Cd)} {w w' : World} (H : Src pa l Ps w) (h : Old w w') : Src pa l Ps w' :=
  ⟨H.len, fun i p e => by obtain ⟨pb, po, e1, e2⟩ := H.at_ i p e; exact ⟨pb, po, e1, old_cell h e2⟩,
   fun i p c e e' => by
    obtain ⟨h1, h2⟩ := H.codes i p c e e'
    exact ⟨h1, fun k d hd => by obtain ⟨cb, co, e1, e2⟩ := h2 k d hd; exact ⟨cb, co, e1, fun m v hv => old_cell h (e2 m v hv)⟩⟩⟩

theorem row_at {w : World} {base : Nat} {e : TypeId} {size : Nat} {v : Value} {n : Nat} {xs : List Value} (h : w.ownsRow base e size v n xs) {g : Nat} (hv : v.ownBlock = some g) : base ≤ g ∧ g < w.heap.size ∧ ∃ cur, w.heap[g]? = some (.cells cur e (0, 0)) := by
  rcases h.2 with ⟨rfl, _⟩ | ⟨g', cap, cur, rfl, h1, h2, _⟩
  · cases hv
  · cases hv
    exact ⟨h1, (Array.getElem?_eq_some_iff.1 h2).1, cur, h2⟩
theorem row_ne {w : World} {base base' : Nat} {e e' : TypeId} {size size' : Nat} {v v' : Value} {n n' : Nat} {xs xs' : List Value} (he : e ≠ e') (h : w.ownsRow base e size v n xs) (h' : w.ownsRow base' e' size' v' n' xs') {g g' : Nat} (hv : v.ownBlock = some g) (hv' : v'.ownBlock = some g') : g ≠ g' := by
  rintro rfl
  obtain ⟨_, _, c1, e1⟩ := row_at h hv
  obtain ⟨_, _, c2, e2⟩ := row_at h' hv'
  rw [e1] at e2
  injection e2 with e2
  injection e2 with _ e2 _
  exact he e2
theorem row_mono {w : World} {base base' : Nat} {e : TypeId} {size : Nat} {v : Value} {n : Nat} {xs : List Value} (h : w.ownsRow base e size v n xs) (hb : base' ≤ base) : w.ownsRow base' e size v n xs := by
  refine ⟨h.1, ?_⟩
  rcases h.2 with z | ⟨g, cap, cur, h0, h1, h2⟩
  · exact .inl z
  · exact .inr ⟨g, cap, cur, h0, Nat.le_trans hb h1, h2⟩
theorem row_nil (w : World) (base : Nat) (e : TypeId) (size : Nat) : w.ownsRow base e size (.slice none 0 0) 0 [] := ⟨by simp, .inl ⟨rfl, rfl⟩⟩

/-- A program's codes are copied. -/
theorem codes_inner (pb po n pc : Nat) (oa : Option Addr) (oc i : Nat) (p : Sl) (c : List Cd) (wI : World) (hi : i < n) (hm : c.length ≤ 1099511627776) (hp : wI.cell? ⟨pb, po + i, none⟩ = some (slc p)) (hpc : p.2.1 = c.length)
    (hc : ∀ (k : Nat) (d : Cd), c[k]? = some d → ∃ cb co, p.1 = some ⟨cb, co, none⟩ ∧ ∀ m v, (cdCells d)[m]? = some v → wI.cell? ⟨cb, co + k * 5 + m, none⟩ = some v) (hA : ∀ b, wI.heap.size ≤ b → Apart V b) (cs : List Frame) :
    ∀ (r k : Nat) (la : Option Addr) (lc : Nat) (u : Nat → Value) (w : World), k + r = c.length → Old wI w → w.ownsRow wI.heap.size 99 5 (.slice la k lc) k (flatC (c.take k)) →
      Walk Try.prog main (DR V) (fun g' w' => ∃ la' lc' u', g' = G (hd15i (.slice (some ⟨pb, po, none⟩) n pc) oa oc i la' lc' c.length u') cs ∧ Old wI w' ∧ w'.ownsRow wI.heap.size 99 5 (.slice la' c.length lc') c.length (flatC c))
        (G (hd15i (.slice (some ⟨pb, po, none⟩) n pc) oa oc i la lc k u) cs) w := by
  intro r
  induction r with
  | zero =>
    intro k la lc u w hk ho hr
    have hk : k = c.length := hk
    subst hk
    rw [List.take_length] at hr
    exact .stop fun d => ⟨la, lc, u, rfl, ⟨ho.size, ho.same⟩, hr⟩
  | succ r ih =>
    intro k la lc u w hk ho hr
    have hkc : k < c.length := by omega
    have hd := List.getElem?_eq_getElem hkc
    have htake : c.take (k + 1) = c.take k ++ [c[k]] := by rw [List.take_add_one, hd]; rfl
    generalize c[k] = d at hd htake
    obtain ⟨cb, co, e1, e2⟩ := hc k d hd
    obtain ⟨pa', pl, pcap⟩ := p
    simp only at e1 hpc
    subst e1 hpc
    refine (codes_go pb po n pc oa oc i cb co c.length pcap la lc k wI.heap.size _ d.d d.r d.a d.b d.v u cs w hi hkc hm (old_cell ho hp) (fun j v hv => old_cell ho (e2 j v hv)) hr ho.size (fun g hg => hA g (row_at hr hg).1) (hA _ ho.size)).then ?_
    rintro g' w1 ⟨g, cap, w3, ⟨u', rfl⟩, ⟨dd, rfl⟩, hown, hg, hat, hlt⟩
    refine Walk.back ?_ dd
    have hs2 : (cdW w d.d d.r d.a d.b d.v).heap.size = w.heap.size + 2 := by simp [cdW]
    refine ih (k + 1) _ cap u' w3 (by omega) ⟨by have := hg.size; have := ho.size; omega, fun b hb => ?_⟩ ?_
    · have := ho.size
      exact (hg.block b (by omega) (fun e => by have := (row_at hr e.symm).1; omega)).trans (((heap_new_lt _ _ (by simp; omega)).trans (heap_new_lt w _ (by omega))).trans (ho.same b hb))
    · rw [htake]
      simp only [flatC, List.flatMap_append, List.flatMap_cons, List.flatMap_nil, List.append_nil]
      exact hown

/-- What codes has made. -/
structure Coded (w0 w : World) (Ps : List (List Cd)) (fa : Option Addr) (fc i : Nat) (ls : List Sl) : Prop where
  old : Old w0 w
  len : ls.length = i
  row : w.ownsRow w0.heap.size 94 1 (.slice fa i fc) i (ls.map slc)
  rows : ∀ (j : Nat) (p : Sl) (c : List Cd), ls[j]? = some p → Ps[j]? = some c → p.2.1 = c.length ∧ w.ownsRow w0.heap.size 99 5 (slc p) c.length (flatC c)

theorem codes_loop (pa : Option Addr) (pc : Nat) (l : List Sl) (Ps : List (List Cd)) (w0 : World) (hS : Src pa l Ps w0) (hn : Ps.length ≤ 1099511627776) (hm : ∀ c ∈ Ps, c.length ≤ 1099511627776) (hA : ∀ b, w0.heap.size ≤ b → Apart V b) (fr : Frame) (cs : List Frame) :
    ∀ (r i : Nat) (oa : Option Addr) (oc : Nat) (ls : List Sl) (u : Nat → Value) (w : World), i + r = Ps.length → Coded w0 w Ps oa oc i ls →
      Walk Try.prog main (DR V) (fun g' w' => ∃ oa' oc' ls', g' = G (fr.finish (.slice oa' Ps.length oc')) cs ∧ Coded w0 w' Ps oa' oc' Ps.length ls') (G (hd15 (.slice pa Ps.length pc) oa oc i u) (fr :: cs)) w := by
  intro r
  induction r with
  | zero =>
    intro i oa oc ls u w hi M
    have hi : i = Ps.length := hi
    subst hi
    refine (codes_out pa _ pc oa oc u fr cs w).mono ?_
    rintro g w' ⟨rfl, d, rfl⟩
    exact ⟨oa, oc, ls, rfl, ⟨⟨M.old.size, M.old.same⟩, M.len, M.row, M.rows⟩⟩
  | succ r ih =>
    intro i oa oc ls u w hi M
    have hin : i < Ps.length := by omega
    have hil : i < l.length := by rw [hS.len]; exact hin
    have hc := List.getElem?_eq_getElem hin
    have hmc : Ps[i].length ≤ 1099511627776 := hm _ (List.getElem_mem hin)
    generalize Ps[i] = c at hc hmc
    have hp := List.getElem?_eq_getElem hil
    generalize l[i] = p at hp
    obtain ⟨pb, po, rfl, hcell⟩ := hS.at_ i p hp
    obtain ⟨hpc, hcs⟩ := hS.codes i p c hp hc
    refine (codes_first _ _ pc oa oc i u (fr :: cs) w hin).then ?_
    rintro g1 w1 ⟨⟨u1, rfl⟩, d1, rfl⟩
    refine Walk.back ?_ d1
    refine (codes_inner pb po Ps.length pc oa oc i p c w hin hmc (old_cell M.old hcell) hpc (fun k d hd => by
      obtain ⟨cb, co, e1, e2⟩ := hcs k d hd
      exact ⟨cb, co, e1, fun m v hv => old_cell M.old (e2 m v hv)⟩) (fun b hb => hA b (Nat.le_trans M.old.size hb)) (fr :: cs) c.length 0 none 0 u1 w (by omega) (Old.refl w) (row_nil w _ _ _)).then ?_
    rintro g2 w2 ⟨la, lc, u2, rfl, O2, hr2⟩
    have hrow2 : w2.ownsRow w0.heap.size 94 1 (.slice oa i oc) i (ls.map slc) := row_same M.row fun g hg => O2.same g (row_at M.row hg).2.1
    have hcell2 : w2.cell? ⟨pb, po + i, none⟩ = some (.slice p.1 c.length p.2.2) := by
      rw [← hpc]; exact old_cell (M.old.trans O2) hcell
    refine (codes_row (main := main) (V := V) pb po Ps.length pc oa oc i p.1 c.length p.2.2 la lc w0.heap.size (ls.map slc) u2 (fr :: cs) w2 hin hn hcell2 hrow2 (Nat.le_trans M.old.size O2.size) (fun g hg => hA g (row_at hrow2 hg).1)).then ?_
    rintro g3 w3' ⟨g, cap, w3, ⟨u3, rfl⟩, ⟨d3, rfl⟩, hown, hg, hat, hlt⟩
    refine Walk.back ?_ d3
    have hs1 : (w2.alloc (.cells #[.slice la c.length lc] 94)).heap.size = w2.heap.size + 1 := by simp
    have hsz := hg.size
    have h1 := M.old.size
    have h2 := O2.size
    have hkeep : ∀ b, b < w2.heap.size → (Value.slice oa i oc).ownBlock ≠ some b → w3.heap[b]? = w2.heap[b]? := fun b hb hne => (hg.block b (by omega) (fun e => hne e.symm)).trans (heap_new_lt w2 _ hb)
    refine ih (i + 1) _ cap (ls ++ [(la, c.length, lc)]) u3 w3 (by omega) ⟨⟨by omega, fun b hb => ?_⟩, by simp [M.len], ?_, fun j q cj hq hcj => ?_⟩
    · exact (hkeep b (by omega) (fun e => by have := (row_at M.row e).1; omega)).trans ((O2.same b (by omega)).trans (M.old.same b hb))
    · rw [List.map_append]; exact hown
    · rcases Nat.lt_or_ge j ls.length with hj | hj
      · rw [List.getElem?_append_left hj] at hq
        obtain ⟨e1, e2⟩ := M.rows j q cj hq hcj
        refine ⟨e1, row_same e2 fun b hb => ?_⟩
        have hb2 := (row_at e2 hb).2.1
        exact (hkeep b (by omega) (fun e => row_ne (by decide) e2 M.row hb e rfl)).trans (O2.same b hb2)
      · have hj : j = i := by
          have h4 := (List.getElem?_eq_some_iff.1 hq).1
          have h5 := M.len
          rw [List.length_append, List.length_singleton] at h4
          omega
        subst hj
        rw [hc] at hcj; cases hcj
        rw [List.getElem?_append_right hj, M.len, Nat.sub_self] at hq
        have hq : (la, c.length, lc) = q := by simpa using hq
        subst hq
        refine ⟨rfl, row_same (row_mono hr2 h1) fun b hb => hkeep b (row_at hr2 hb).2.1 fun e => row_ne (by decide) hr2 hrow2 hb e rfl⟩

/-- codes: the programs, copied. -/
theorem codes_w (pa : Option Addr) (pc : Nat) (l : List Sl) (Ps : List (List Cd)) (w : World) (hS : Src pa l Ps w) (hn : Ps.length ≤ 1099511627776) (hm : ∀ c ∈ Ps, c.length ≤ 1099511627776) (hA : ∀ b, w.heap.size ≤ b → Apart V b) :
    CallW Try.prog main V 15 #[.slice pa Ps.length pc] w (fun v w' => ∃ fa fc ls, v = .slice fa Ps.length fc ∧ Coded w w' Ps fa fc Ps.length ls) := by
  intro fr cs
  refine (codes_in _ (fr :: cs) w).then ?_
  rintro g1 w1 ⟨⟨u1, rfl⟩, d1, rfl⟩
  refine Walk.back ?_ d1
  refine (codes_loop pa pc l Ps w hS hn hm hA fr cs Ps.length 0 none 0 [] u1 w (by omega) ⟨Old.refl w, rfl, row_nil w _ _ _, fun j p c h => by simp at h⟩).mono ?_
  rintro g w' ⟨fa, fc, ls, rfl, M⟩
  exact ⟨_, ⟨fa, fc, ls, rfl, M⟩, rfl⟩
end Go.Proofs.Ytgiiicdpbdfemaa
end

/- The statement's side: a walker notes its number upon the board. -/
section
namespace Go.Proofs.Ytgiiicdpbdfemaa
open Go.Conc Go.RowKit Go.Relay
open Go.ConcN (upd upd_ne upd_same)

variable {main : Bool} {V : Nat → Option Wait}

noncomputable def reg57_0 : Array Oper := match Try.f57.body with | some (.seq (.seq (.region _ ops _) _) _) => ops | _ => #[]
theorem size57_0 : reg57_0.size = 1 := by kernel_rfl
noncomputable def reg57_1 : Array Oper := match Try.f57.body with | some (.seq (.seq _ (.block _ (.loop (.seq (.seq (.region _ ops _) _) _)))) _) => ops | _ => #[]
theorem size57_1 : reg57_1.size = 6 := by kernel_rfl
noncomputable def reg57_3 : Array Oper := match Try.f57.body with | some (.seq (.seq _ (.block _ (.loop (.seq _ (.seq (.block _ (.seq (.seq (.region _ ops _) _) _)) _))))) _) => ops | _ => #[]
theorem size57_3 : reg57_3.size = 6 := by kernel_rfl
noncomputable def reg57_4 : Array Oper := match Try.f57.body with | some (.seq (.seq _ (.block _ (.loop (.seq _ (.seq (.block _ (.seq (.seq _ (.cond _ (.region _ ops _) _)) _)) _))))) _) => ops | _ => #[]
theorem size57_4 : reg57_4.size = 9 := by kernel_rfl
noncomputable def reg57_5 : Array Oper := match Try.f57.body with | some (.seq (.seq _ (.block _ (.loop (.seq _ (.seq (.block _ (.seq _ (.seq (.region _ ops _) _))) _))))) _) => ops | _ => #[]
theorem size57_5 : reg57_5.size = 2 := by kernel_rfl
noncomputable def reg57_6 : Array Oper := match Try.f57.body with | some (.seq (.seq _ (.block _ (.loop (.seq _ (.seq (.block _ (.seq _ (.seq _ (.cond _ (.seq (.region _ ops _) _) _)))) _))))) _) => ops | _ => #[]
theorem size57_6 : reg57_6.size = 2 := by kernel_rfl
noncomputable def reg57_7 : Array Oper := match Try.f57.body with | some (.seq (.seq _ (.block _ (.loop (.seq _ (.seq (.block _ (.seq _ (.seq _ (.cond _ (.seq _ (.region _ ops _)) _)))) _))))) _) => ops | _ => #[]
theorem size57_7 : reg57_7.size = 20 := by kernel_rfl
noncomputable def reg57_2 : Array Oper := match Try.f57.body with | some (.seq (.seq _ (.block _ (.loop (.seq _ (.seq _ (.region _ ops _)))))) _) => ops | _ => #[]
theorem size57_2 : reg57_2.size = 3 := by kernel_rfl
noncomputable def reg57_8 : Array Oper := match Try.f57.body with | some (.seq _ (.seq (.region _ ops _) _)) => ops | _ => #[]
theorem size57_8 : reg57_8.size = 9 := by kernel_rfl
noncomputable def reg57_9 : Array Oper := match Try.f57.body with | some (.seq _ (.seq _ (.cond _ (.region _ ops _) _))) => ops | _ => #[]
theorem size57_9 : reg57_9.size = 9 := by kernel_rfl
theorem code57_is : Try.f57.body = some (.seq (.seq (.region 0 reg57_0 false) (.block 0 (.loop (.seq (.seq (.region 1 reg57_1 false) (.cond (.tmp 10 ) (.skip) (.exit 0))) (.seq (.block 1 (.seq (.seq (.region 3 reg57_3 false) (.cond (.tmp 18 ) (.region 4 reg57_4 false) (.skip))) (.seq (.region 5 reg57_5 false) (.cond (.tmp 28 ) (.seq (.region 6 reg57_6 false) (.region 7 reg57_7 true)) (.skip))))) (.region 2 reg57_2 false)))))) (.seq (.region 8 reg57_8 true) (.cond (.tmp 58 ) (.region 9 reg57_9 false) (.skip)))) := by kernel_rfl

/-- What is asked where a walker notes its number: its block, the board's, the board's list. -/
structure Note (V : Nat → Option Wait) (W B n0 : Nat) (n : Int) (la : Option Addr) (len cap : Nat) (xs : List Value) (w : World) : Prop where
  w0 : w.cell? ⟨W, 0, none⟩ = some (.pointer (some ⟨B, 0, none⟩))
  w1 : w.cell? ⟨W, 1, none⟩ = some (.int .i64 n)
  b0 : w.cell? ⟨B, 0, none⟩ = some (.slice la len cap)
  bz : w.frozen? ⟨B, 0, none⟩ = false
  row : w.ownsRow n0 3 1 (.slice la len cap) len xs
  free : Free V ⟨B, 0, none⟩
  ap : ∀ g, (Value.slice la len cap).ownBlock = some g → Apart V g
  rW : (Value.slice la len cap).ownBlock ≠ some W
  rB : (Value.slice la len cap).ownBlock ≠ some B
  len : len ≤ 1099511627776
  base : n0 ≤ w.heap.size

/-- The list, with the number behind it. -/
structure Noted (n0 : Nat) (n : Int) (la : Option Addr) (len cap : Nat) (xs : List Value) (w : World) (g cap' : Nat) (w3 : World) : Prop where
  row : w3.ownsRow n0 3 1 (.slice (some ⟨g, 0, none⟩) (len + 1) cap') (len + 1) (xs ++ [.int .i64 n])
  grown : (w.alloc (.cells #[.int .i64 n] 3)).grownBy w3 (Value.slice la len cap).ownBlock
  at_ : (Value.slice la len cap).ownBlock = some g ∨ g = (w.alloc (.cells #[.int .i64 n] 3)).heap.size
  lt : g < w3.heap.size

/-- How far the region is. -/
def Ph57 (B n0 : Nat) (n : Int) (la : Option Addr) (len cap : Nat) (xs : List Value) (w : World) (f15 f16 f19 : Bool) (v : Value) (w' : World) : Prop :=
  (f15 = false ∧ f16 = false ∧ f19 = false ∧ ∃ d, w' = w.at d) ∨
  (f15 = true ∧ f16 = false ∧ f19 = false ∧ ∃ d, w' = (w.alloc (.cells #[.int .i64 n] 3)).at d) ∨
  (f16 = true ∧ f15 = true ∧ f19 = false ∧ ∃ g cap' w3 d, Noted n0 n la len cap xs w g cap' w3 ∧ v = .slice (some ⟨g, 0, none⟩) (len + 1) cap' ∧ w' = w3.at d) ∨
  (f19 = true ∧ f15 = true ∧ f16 = true ∧ ∃ g cap' w3 d, Noted n0 n la len cap xs w g cap' w3 ∧ w' = (w3.setCell ⟨B, 0, none⟩ (.slice (some ⟨g, 0, none⟩) (len + 1) cap')).at d)

section
variable {W B n0 : Nat} {n : Int} {la : Option Addr} {len cap : Nat} {xs : List Value} {w : World}
theorem Note.row1 (H : Note V W B n0 n la len cap xs w) : (w.alloc (.cells #[.int .i64 n] 3)).ownsRow n0 3 1 (.slice la len cap) len xs := H.row.kept (World.grownBy_alloc w _ none) (by cases (Value.slice la len cap).ownBlock <;> simp)
theorem note_new (w : World) (n : Int) : ∀ y v, ([.int .i64 n] : List Value)[y]? = some v → (w.alloc (.cells #[.int .i64 n] 3)).cell? ((⟨w.heap.size, 0, none⟩ : Addr).add y) = some v := fun y v hv => by
  rw [add_none, Nat.zero_add]
  refine (cell_of (heap_alloc_new _ _) y).trans ?_
  simpa using hv
theorem Note.keep (H : Note V W B n0 n la len cap xs w) {g cap' : Nat} {w3 : World} (A : Noted n0 n la len cap xs w g cap' w3) {b : Nat} (hb : b < w.heap.size) (hne : (Value.slice la len cap).ownBlock ≠ some b) : w3.heap[b]? = w.heap[b]? := by
  have hs1 : (w.alloc (.cells #[.int .i64 n] 3)).heap.size = w.heap.size + 1 := by simp
  have := H.base
  exact (A.grown.block b (by omega) (fun e => hne e.symm)).trans (heap_new_lt w _ hb)
theorem Note.grown (H : Note V W B n0 n la len cap xs w) {g cap' : Nat} {w3 : World} (A : Noted n0 n la len cap xs w g cap' w3) : w3.cell? ⟨W, 0, none⟩ = some (.pointer (some ⟨B, 0, none⟩)) ∧ w3.cell? ⟨W, 1, none⟩ = some (.int .i64 n) ∧ w3.cell? ⟨B, 0, none⟩ = some (.slice la len cap) ∧ w3.frozen? ⟨B, 0, none⟩ = false := by
  have hW := H.keep A (cell_lt w H.w0) H.rW
  have hB := H.keep A (cell_lt w H.b0) H.rB
  refine ⟨(World.cell?_of_block (a := ⟨W, 0, none⟩) hW).trans H.w0, (World.cell?_of_block (a := ⟨W, 1, none⟩) hW).trans H.w1, (World.cell?_of_block (a := ⟨B, 0, none⟩) hB).trans H.b0, ?_⟩
  have := H.bz
  unfold World.frozen? at this ⊢
  rw [hB]; exact this
theorem Note.reads (H : Note V W B n0 n la len cap xs w) {f15 f16 f19 : Bool} {v : Value} {w' : World} (hp : Ph57 B n0 n la len cap xs w f15 f16 f19 v w') (h19 : f19 ≠ true) : w'.cell? ⟨W, 0, none⟩ = some (.pointer (some ⟨B, 0, none⟩)) ∧ w'.cell? ⟨W, 1, none⟩ = some (.int .i64 n) ∧ w'.cell? ⟨B, 0, none⟩ = some (.slice la len cap) := by
  rcases hp with ⟨_, _, _, d, rfl⟩ | ⟨_, _, _, d, rfl⟩ | ⟨_, _, _, g, cap', w3, d, A, _, rfl⟩ | ⟨h, _⟩
  · exact ⟨H.w0, H.w1, H.b0⟩
  · exact ⟨old_cell (⟨by simp, fun _ hb => heap_new_lt w _ hb⟩) H.w0, old_cell (⟨by simp, fun _ hb => heap_new_lt w _ hb⟩) H.w1, old_cell (⟨by simp, fun _ hb => heap_new_lt w _ hb⟩) H.b0⟩
  · exact ⟨(H.grown A).1, (H.grown A).2.1, (H.grown A).2.2.1⟩
  · exact absurd h h19
end

def tm57 (W : Nat) (S : Value) (i : Int) (u : Nat → Value) : Array Value := #[.pointer (some ⟨W, 0, none⟩), S, u 2, u 3, .int .i64 i, u 5, u 6, u 7, u 8, u 9, u 10, u 11, u 12, u 13, u 14, u 15, u 16, u 17, u 18, u 19, u 20, u 21, u 22, u 23, u 24, u 25, u 26, u 27, u 28, u 29, u 30, u 31, u 32, u 33, u 34, u 35, u 36, u 37, u 38, u 39, u 40, u 41, u 42, u 43, u 44, u 45, u 46, u 47, u 48, u 49, u 50, u 51, u 52, u 53, u 54, u 55, u 56, u 57, u 58, u 59, u 60, u 61, u 62, u 63, u 64, u 65, u 66]

set_option maxHeartbeats 8000000 in
set_option maxRecDepth 100000 in
theorem note57 {Stop : Goroutine → World → Prop} (W B n0 : Nat) (n : Int) (la : Option Addr) (len cap : Nat) (xs : List Value) (S : Value) (i0 : Int) (u0 : Nat → Value) (k : List Item) (cs : List Frame) (w : World) (H : Note V W B n0 n la len cap xs w)
    (hk : ∀ g cap' w3 u, Noted n0 n la len cap xs w g cap' w3 → Walk Try.prog main (DR V) Stop (G ((base 57).at ⟨tm57 W S i0 u, []⟩ (.inRegion reg57_7 [] :: k)) cs) (w3.setCell ⟨B, 0, none⟩ (.slice (some ⟨g, 0, none⟩) (len + 1) cap'))) :
    Walk Try.prog main (DR V) Stop (G ((base 57).at ⟨tm57 W S i0 u0, []⟩ (.code (.region 7 reg57_7 true) :: k)) cs) w := by
  refine Walk.drawnJ (Inv := fun f a w' => ∃ u, a = ⟨tm57 W S i0 u, []⟩ ∧ Facts [31, 32, 33, 34, 35, 36, 37, 38, 39, 40, 41, 42, 43, 44, 45, 46, 2016, 48, 49, 2019] [.pointer (some ⟨W, 0, none⟩), .pointer (some ⟨W, 0, none⟩), .pointer (some ⟨W, 0, none⟩), .pointer (some ⟨B, 0, none⟩), .pointer (some ⟨W, 0, none⟩), .pointer (some ⟨W, 0, none⟩), .pointer (some ⟨W, 0, none⟩), .pointer (some ⟨B, 0, none⟩), .pointer (some ⟨B, 0, none⟩), .pointer (some ⟨B, 0, none⟩), .slice la len cap, .pointer (some ⟨W, 0, none⟩), .pointer (some ⟨W, 0, none⟩), .pointer (some ⟨W, 1, none⟩), .int .i64 n, .slice (some ⟨w.heap.size, 0, none⟩) 1 1, undef, .pointer (some ⟨B, 0, none⟩), .pointer (some ⟨B, 0, none⟩), undef] f u ∧ Ph57 B n0 n la len cap xs w (f 15) (f 16) (f 19) (u 47) w') (by kernel_rfl) (by kernel_rfl) (fun d => ⟨u0, rfl, Facts.none _ _ _, .inl ⟨rfl, rfl, rfl, d, rfl⟩⟩) ?_ ?_
  · rintro f i o a w' ⟨u, rfl, F, hp⟩ hC hfi ho hdeps rest hr
    have hi : i < 20 := by have := (Array.getElem?_eq_some_iff.1 ho).1; rw [size57_7] at this; exact this
    have hall : f 19 = true → ∀ j, j < 19 → f j = true := fun h19 j hj => by
      have d19 := hC.deps h19 (show depB reg57_7 19 [16, 18] = true by kernel_rfl)
      have h16 := d19 16 (by simp)
      have h18 := d19 18 (by simp)
      have d18 := hC.deps h18 (show depB reg57_7 18 [17] = true by kernel_rfl)
      have h17 := d18 17 (by simp)
      have d17 := hC.deps h17 (show depB reg57_7 17 [3] = true by kernel_rfl)
      have h3 := d17 3 (by simp)
      have d16 := hC.deps h16 (show depB reg57_7 16 [10, 15] = true by kernel_rfl)
      have h10 := d16 10 (by simp)
      have h15 := d16 15 (by simp)
      have d15 := hC.deps h15 (show depB reg57_7 15 [14] = true by kernel_rfl)
      have h14 := d15 14 (by simp)
      have d14 := hC.deps h14 (show depB reg57_7 14 [13] = true by kernel_rfl)
      have h13 := d14 13 (by simp)
      have d13 := hC.deps h13 (show depB reg57_7 13 [12] = true by kernel_rfl)
      have h12 := d13 12 (by simp)
      have d12 := hC.deps h12 (show depB reg57_7 12 [11] = true by kernel_rfl)
      have h11 := d12 11 (by simp)
      have d10 := hC.deps h10 (show depB reg57_7 10 [9] = true by kernel_rfl)
      have h9 := d10 9 (by simp)
      have d9 := hC.deps h9 (show depB reg57_7 9 [8] = true by kernel_rfl)
      have h8 := d9 8 (by simp)
      have d8 := hC.deps h8 (show depB reg57_7 8 [7] = true by kernel_rfl)
      have h7 := d8 7 (by simp)
      have d7 := hC.deps h7 (show depB reg57_7 7 [6] = true by kernel_rfl)
      have h6 := d7 6 (by simp)
      have d6 := hC.deps h6 (show depB reg57_7 6 [5] = true by kernel_rfl)
      have h5 := d6 5 (by simp)
      have d5 := hC.deps h5 (show depB reg57_7 5 [4] = true by kernel_rfl)
      have h4 := d5 4 (by simp)
      have d3 := hC.deps h3 (show depB reg57_7 3 [2] = true by kernel_rfl)
      have h2 := d3 2 (by simp)
      have d2 := hC.deps h2 (show depB reg57_7 2 [1] = true by kernel_rfl)
      have h1 := d2 1 (by simp)
      have d1 := hC.deps h1 (show depB reg57_7 1 [0] = true by kernel_rfl)
      have h0 := d1 0 (by simp)
      match j, hj with
      | 0, _ => exact h0
      | 1, _ => exact h1
      | 2, _ => exact h2
      | 3, _ => exact h3
      | 4, _ => exact h4
      | 5, _ => exact h5
      | 6, _ => exact h6
      | 7, _ => exact h7
      | 8, _ => exact h8
      | 9, _ => exact h9
      | 10, _ => exact h10
      | 11, _ => exact h11
      | 12, _ => exact h12
      | 13, _ => exact h13
      | 14, _ => exact h14
      | 15, _ => exact h15
      | 16, _ => exact h16
      | 17, _ => exact h17
      | 18, _ => exact h18
      | j + 19, hj => exact absurd hj (by omega)
    match i, hi with
    | 0, _ =>
      have hrd := H.reads hp (fun h => by have := hall h 0 (by decide); rw [this] at hfi; cases hfi)
      obtain ⟨hW0, hW1, hB0⟩ := hrd
      clear hdeps ho hC
      simp only [tm57] at hr ⊢
      (refine Walk.opq (ho_of (by conv => lhs; whnf) (by kernel_rfl)) (by rfl) (by decide) (fun dd e he => ?_) (fun dd K hK => ?_); (· (simp [go_sem, *] at he; try (subst he; exact evR_read _ _))); go_simp; refine hK _ ?_; clear hK K; try walk_nrm)
      refine hr _ _ ⟨upd u 31 (.pointer (some ⟨W, 0, none⟩)), ?_, F.set (by decide) rfl rfl, by simpa [upd] using hp⟩
      simp [upd]
    | 1, _ =>
      have hd := deps_of (l := [0]) (by kernel_rfl) ho hdeps
      have e31 := F 0 31 _ (hd 0 (by simp)) rfl rfl
      have hrd := H.reads hp (fun h => by have := hall h 1 (by decide); rw [this] at hfi; cases hfi)
      obtain ⟨hW0, hW1, hB0⟩ := hrd
      clear hdeps ho hC
      simp only [tm57] at hr ⊢
      (refine Walk.opq (ho_of (by conv => lhs; whnf) (by kernel_rfl)) (by rfl) (by decide) (fun dd e he => ?_) (fun dd K hK => ?_); (· (simp [go_sem, *] at he; try (subst he; exact evR_read _ _))); go_simp; refine hK _ ?_; clear hK K; try walk_nrm)
      refine hr _ _ ⟨upd u 32 (.pointer (some ⟨W, 0, none⟩)), ?_, F.set (by decide) rfl rfl, by simpa [upd] using hp⟩
      simp [upd, e31]
    | 2, _ =>
      have hd := deps_of (l := [1]) (by kernel_rfl) ho hdeps
      have e32 := F 1 32 _ (hd 1 (by simp)) rfl rfl
      have hrd := H.reads hp (fun h => by have := hall h 2 (by decide); rw [this] at hfi; cases hfi)
      obtain ⟨hW0, hW1, hB0⟩ := hrd
      clear hdeps ho hC
      simp only [tm57] at hr ⊢
      (refine Walk.opq (ho_of (by conv => lhs; whnf) (by kernel_rfl)) (by rfl) (by decide) (fun dd e he => ?_) (fun dd K hK => ?_); (· (simp [go_sem, *] at he; try (subst he; exact evR_read _ _))); go_simp; refine hK _ ?_; clear hK K; try walk_nrm)
      refine hr _ _ ⟨upd u 33 (.pointer (some ⟨W, 0, none⟩)), ?_, F.set (by decide) rfl rfl, by simpa [upd] using hp⟩
      simp [upd, e32]
    | 3, _ =>
      have hd := deps_of (l := [2]) (by kernel_rfl) ho hdeps
      have e33 := F 2 33 _ (hd 2 (by simp)) rfl rfl
      have hrd := H.reads hp (fun h => by have := hall h 3 (by decide); rw [this] at hfi; cases hfi)
      obtain ⟨hW0, hW1, hB0⟩ := hrd
      clear hdeps ho hC
      simp only [tm57] at hr ⊢
      (refine Walk.opq (ho_of (by conv => lhs; whnf) (by kernel_rfl)) (by rfl) (by decide) (fun dd e he => ?_) (fun dd K hK => ?_); (· (simp [go_sem, *] at he; try (subst he; exact evR_read _ _))); go_simp; refine hK _ ?_; clear hK K; try walk_nrm)
      refine hr _ _ ⟨upd u 34 (.pointer (some ⟨B, 0, none⟩)), ?_, F.set (by decide) rfl rfl, by simpa [upd] using hp⟩
      simp [upd, e33]
    | 4, _ =>
      have hrd := H.reads hp (fun h => by have := hall h 4 (by decide); rw [this] at hfi; cases hfi)
      obtain ⟨hW0, hW1, hB0⟩ := hrd
      clear hdeps ho hC
      simp only [tm57] at hr ⊢
      (refine Walk.opq (ho_of (by conv => lhs; whnf) (by kernel_rfl)) (by rfl) (by decide) (fun dd e he => ?_) (fun dd K hK => ?_); (· (simp [go_sem, *] at he; try (subst he; exact evR_read _ _))); go_simp; refine hK _ ?_; clear hK K; try walk_nrm)
      refine hr _ _ ⟨upd u 35 (.pointer (some ⟨W, 0, none⟩)), ?_, F.set (by decide) rfl rfl, by simpa [upd] using hp⟩
      simp [upd]
    | 5, _ =>
      have hd := deps_of (l := [4]) (by kernel_rfl) ho hdeps
      have e35 := F 4 35 _ (hd 4 (by simp)) rfl rfl
      have hrd := H.reads hp (fun h => by have := hall h 5 (by decide); rw [this] at hfi; cases hfi)
      obtain ⟨hW0, hW1, hB0⟩ := hrd
      clear hdeps ho hC
      simp only [tm57] at hr ⊢
      (refine Walk.opq (ho_of (by conv => lhs; whnf) (by kernel_rfl)) (by rfl) (by decide) (fun dd e he => ?_) (fun dd K hK => ?_); (· (simp [go_sem, *] at he; try (subst he; exact evR_read _ _))); go_simp; refine hK _ ?_; clear hK K; try walk_nrm)
      refine hr _ _ ⟨upd u 36 (.pointer (some ⟨W, 0, none⟩)), ?_, F.set (by decide) rfl rfl, by simpa [upd] using hp⟩
      simp [upd, e35]
    | 6, _ =>
      have hd := deps_of (l := [5]) (by kernel_rfl) ho hdeps
      have e36 := F 5 36 _ (hd 5 (by simp)) rfl rfl
      have hrd := H.reads hp (fun h => by have := hall h 6 (by decide); rw [this] at hfi; cases hfi)
      obtain ⟨hW0, hW1, hB0⟩ := hrd
      clear hdeps ho hC
      simp only [tm57] at hr ⊢
      (refine Walk.opq (ho_of (by conv => lhs; whnf) (by kernel_rfl)) (by rfl) (by decide) (fun dd e he => ?_) (fun dd K hK => ?_); (· (simp [go_sem, *] at he; try (subst he; exact evR_read _ _))); go_simp; refine hK _ ?_; clear hK K; try walk_nrm)
      refine hr _ _ ⟨upd u 37 (.pointer (some ⟨W, 0, none⟩)), ?_, F.set (by decide) rfl rfl, by simpa [upd] using hp⟩
      simp [upd, e36]
    | 7, _ =>
      have hd := deps_of (l := [6]) (by kernel_rfl) ho hdeps
      have e37 := F 6 37 _ (hd 6 (by simp)) rfl rfl
      have hrd := H.reads hp (fun h => by have := hall h 7 (by decide); rw [this] at hfi; cases hfi)
      obtain ⟨hW0, hW1, hB0⟩ := hrd
      clear hdeps ho hC
      simp only [tm57] at hr ⊢
      (refine Walk.opq (ho_of (by conv => lhs; whnf) (by kernel_rfl)) (by rfl) (by decide) (fun dd e he => ?_) (fun dd K hK => ?_); (· (simp [go_sem, *] at he; try (subst he; exact evR_read _ _))); go_simp; refine hK _ ?_; clear hK K; try walk_nrm)
      refine hr _ _ ⟨upd u 38 (.pointer (some ⟨B, 0, none⟩)), ?_, F.set (by decide) rfl rfl, by simpa [upd] using hp⟩
      simp [upd, e37]
    | 8, _ =>
      have hd := deps_of (l := [7]) (by kernel_rfl) ho hdeps
      have e38 := F 7 38 _ (hd 7 (by simp)) rfl rfl
      have hrd := H.reads hp (fun h => by have := hall h 8 (by decide); rw [this] at hfi; cases hfi)
      obtain ⟨hW0, hW1, hB0⟩ := hrd
      clear hdeps ho hC
      simp only [tm57] at hr ⊢
      (refine Walk.opq (ho_of (by conv => lhs; whnf) (by kernel_rfl)) (by rfl) (by decide) (fun dd e he => ?_) (fun dd K hK => ?_); (· (simp [go_sem, *] at he; try (subst he; exact evR_read _ _))); go_simp; refine hK _ ?_; clear hK K; try walk_nrm)
      refine hr _ _ ⟨upd u 39 (.pointer (some ⟨B, 0, none⟩)), ?_, F.set (by decide) rfl rfl, by simpa [upd] using hp⟩
      simp [upd, e38]
    | 9, _ =>
      have hd := deps_of (l := [8]) (by kernel_rfl) ho hdeps
      have e39 := F 8 39 _ (hd 8 (by simp)) rfl rfl
      have hrd := H.reads hp (fun h => by have := hall h 9 (by decide); rw [this] at hfi; cases hfi)
      obtain ⟨hW0, hW1, hB0⟩ := hrd
      clear hdeps ho hC
      simp only [tm57] at hr ⊢
      (refine Walk.opq (ho_of (by conv => lhs; whnf) (by kernel_rfl)) (by rfl) (by decide) (fun dd e he => ?_) (fun dd K hK => ?_); (· (simp [go_sem, *] at he; try (subst he; exact evR_read _ _))); go_simp; refine hK _ ?_; clear hK K; try walk_nrm)
      refine hr _ _ ⟨upd u 40 (.pointer (some ⟨B, 0, none⟩)), ?_, F.set (by decide) rfl rfl, by simpa [upd] using hp⟩
      simp [upd, e39]
    | 10, _ =>
      have hd := deps_of (l := [9]) (by kernel_rfl) ho hdeps
      have e40 := F 9 40 _ (hd 9 (by simp)) rfl rfl
      have hrd := H.reads hp (fun h => by have := hall h 10 (by decide); rw [this] at hfi; cases hfi)
      obtain ⟨hW0, hW1, hB0⟩ := hrd
      clear hdeps ho hC
      simp only [tm57] at hr ⊢
      (refine Walk.opq (ho_of (by conv => lhs; whnf) (by kernel_rfl)) (by rfl) (by decide) (fun dd e he => ?_) (fun dd K hK => ?_); (· (simp [go_sem, *] at he; try (subst he; exact evR_read _ _))); go_simp; refine hK _ ?_; clear hK K; try walk_nrm)
      refine hr _ _ ⟨upd u 41 (.slice la len cap), ?_, F.set (by decide) rfl rfl, by simpa [upd] using hp⟩
      simp [upd, e40]
    | 11, _ =>
      have hrd := H.reads hp (fun h => by have := hall h 11 (by decide); rw [this] at hfi; cases hfi)
      obtain ⟨hW0, hW1, hB0⟩ := hrd
      clear hdeps ho hC
      simp only [tm57] at hr ⊢
      (refine Walk.opq (ho_of (by conv => lhs; whnf) (by kernel_rfl)) (by rfl) (by decide) (fun dd e he => ?_) (fun dd K hK => ?_); (· (simp [go_sem, *] at he; try (subst he; exact evR_read _ _))); go_simp; refine hK _ ?_; clear hK K; try walk_nrm)
      refine hr _ _ ⟨upd u 42 (.pointer (some ⟨W, 0, none⟩)), ?_, F.set (by decide) rfl rfl, by simpa [upd] using hp⟩
      simp [upd]
    | 12, _ =>
      have hd := deps_of (l := [11]) (by kernel_rfl) ho hdeps
      have e42 := F 11 42 _ (hd 11 (by simp)) rfl rfl
      have hrd := H.reads hp (fun h => by have := hall h 12 (by decide); rw [this] at hfi; cases hfi)
      obtain ⟨hW0, hW1, hB0⟩ := hrd
      clear hdeps ho hC
      simp only [tm57] at hr ⊢
      (refine Walk.opq (ho_of (by conv => lhs; whnf) (by kernel_rfl)) (by rfl) (by decide) (fun dd e he => ?_) (fun dd K hK => ?_); (· (simp [go_sem, *] at he; try (subst he; exact evR_read _ _))); go_simp; refine hK _ ?_; clear hK K; try walk_nrm)
      refine hr _ _ ⟨upd u 43 (.pointer (some ⟨W, 0, none⟩)), ?_, F.set (by decide) rfl rfl, by simpa [upd] using hp⟩
      simp [upd, e42]
    | 13, _ =>
      have hd := deps_of (l := [12]) (by kernel_rfl) ho hdeps
      have e43 := F 12 43 _ (hd 12 (by simp)) rfl rfl
      have hrd := H.reads hp (fun h => by have := hall h 13 (by decide); rw [this] at hfi; cases hfi)
      obtain ⟨hW0, hW1, hB0⟩ := hrd
      clear hdeps ho hC
      simp only [tm57] at hr ⊢
      (refine Walk.opq (ho_of (by conv => lhs; whnf) (by kernel_rfl)) (by rfl) (by decide) (fun dd e he => ?_) (fun dd K hK => ?_); (· (simp [go_sem, *] at he; try (subst he; exact evR_read _ _))); go_simp; refine hK _ ?_; clear hK K; try walk_nrm)
      refine hr _ _ ⟨upd u 44 (.pointer (some ⟨W, 1, none⟩)), ?_, F.set (by decide) rfl rfl, by simpa [upd] using hp⟩
      simp [upd, e43]
    | 14, _ =>
      have hd := deps_of (l := [13]) (by kernel_rfl) ho hdeps
      have e44 := F 13 44 _ (hd 13 (by simp)) rfl rfl
      have hrd := H.reads hp (fun h => by have := hall h 14 (by decide); rw [this] at hfi; cases hfi)
      obtain ⟨hW0, hW1, hB0⟩ := hrd
      clear hdeps ho hC
      simp only [tm57] at hr ⊢
      (refine Walk.opq (ho_of (by conv => lhs; whnf) (by kernel_rfl)) (by rfl) (by decide) (fun dd e he => ?_) (fun dd K hK => ?_); (· (simp [go_sem, *] at he; try (subst he; exact evR_read _ _))); go_simp; refine hK _ ?_; clear hK K; try walk_nrm)
      refine hr _ _ ⟨upd u 45 (.int .i64 n), ?_, F.set (by decide) rfl rfl, by simpa [upd] using hp⟩
      simp [upd, e44]
    | 15, _ =>
      have hd := deps_of (l := [14]) (by kernel_rfl) ho hdeps
      have e45 := F 14 45 _ (hd 14 (by simp)) rfl rfl
      rcases hp with ⟨h15, h16, h19, d, rfl⟩ | ⟨h15, _⟩ | ⟨_, h15, _⟩ | ⟨_, h15, _⟩
      · refine Walk.back ?_ d
        clear hdeps ho hC
        simp only [tm57] at hr ⊢
        simp only [e45]
        (co_applyP Walk.opw (ho_of (by conv => lhs; whnf) (by kernel_rfl)) (by rfl) (by decide) ?wev1 ?wdr1 ?wrun1; (case' wrun1 => (intro dd K hK; go_simp; simp only [alloc_at', setCell_at']; refine hK _ ?wmore1; clear hK K)); (case wdr1 => exact fun dd es hes => DR.alloc' dd es hes); (case wev1 => (intro dd e he; simp [go_sem, *] at he)); try walk_nrm)
        refine hr _ _ ⟨upd u 46 (.slice (some ⟨w.heap.size, 0, none⟩) 1 1), ?_, F.set (by decide) rfl rfl, .inr (.inl ⟨by simp [upd], by simpa [upd] using h16, by simpa [upd] using h19, _, rfl⟩)⟩
        simp [upd, e45]
      · rw [h15] at hfi; cases hfi
      · rw [h15] at hfi; cases hfi
      · rw [h15] at hfi; cases hfi
    | 16, _ =>
      have hd := deps_of (l := [10, 15]) (by kernel_rfl) ho hdeps
      have e41 := F 10 41 _ (hd 10 (by simp)) rfl rfl
      have e46 := F 15 46 _ (hd 15 (by simp)) rfl rfl
      have h15 := hd 15 (by simp)
      rcases hp with ⟨h15', _⟩ | ⟨_, h16, h19, d, rfl⟩ | ⟨h16, _⟩ | ⟨_, _, h16, _⟩
      · rw [h15'] at h15; cases h15
      · refine Walk.back ?_ d
        clear hdeps ho hC
        simp only [tm57] at hr ⊢
        simp only [e41, e46]
        have hi3 := Option.some_get (show (Try.prog.info? 3).isSome = true by kernel_rfl)
        refine Walk.append (.tmp 41) (.tmp 46) 24 (ho_of (by conv => lhs; whnf) (by kernel_rfl)) (by rfl) (by decide) rfl n0 3 _ (.int .i64 0) 1 8 (by kernel_rfl) hi3.symm (by rfl) (by rfl) (by rfl) (by rfl) (by decide) (.slice la len cap) len xs rfl H.row1 ⟨w.heap.size, 0, none⟩ 1 1 [.int .i64 n] ?_ (by rfl) (note_new w n) (by simp [Value.oneCell']) (by decide) (by have := H.len; simp [maxLen]; omega) (by have := H.len; omega) (by have := H.base; simp; omega) H.ap (fun g cap' w3 hown hg hat hlt => ?_)
        · simp [Act.eval]
        clear hi3
        walk_nrm
        refine hr _ _ ⟨upd (upd u 2016 undef) 47 (.slice (some ⟨g, 0, none⟩) (len + 1) cap'), ?_, Facts.other (F.set (i := 16) (d := 2016) (v := undef) (by decide) rfl rfl) (by decide), .inr (.inr (.inl ⟨by simp [upd], by simpa [upd] using h15, by simpa [upd] using h19, g, cap', w3, w3.drawn, ⟨hown, hg, hat, hlt⟩, by simp [upd], rfl⟩))⟩
        simp [upd, e41, e46]
      · rw [h16] at hfi; cases hfi
      · rw [h16] at hfi; cases hfi
    | 17, _ =>
      have hd := deps_of (l := [0, 1, 2, 3, 4, 5, 6, 7, 8, 9, 10, 11, 12, 13, 14, 15, 16]) (by kernel_rfl) ho hdeps
      have e34 := F 3 34 _ (hd 3 (by simp)) rfl rfl
      have hrd := H.reads hp (fun h => by have := hall h 17 (by decide); rw [this] at hfi; cases hfi)
      obtain ⟨hW0, hW1, hB0⟩ := hrd
      clear hdeps ho hC
      simp only [tm57] at hr ⊢
      (refine Walk.opq (ho_of (by conv => lhs; whnf) (by kernel_rfl)) (by rfl) (by decide) (fun dd e he => ?_) (fun dd K hK => ?_); (· (simp [go_sem, *] at he; try (subst he; exact evR_read _ _))); go_simp; refine hK _ ?_; clear hK K; try walk_nrm)
      refine hr _ _ ⟨upd u 48 (.pointer (some ⟨B, 0, none⟩)), ?_, F.set (by decide) rfl rfl, by simpa [upd] using hp⟩
      simp [upd, e34]
    | 18, _ =>
      have hd := deps_of (l := [0, 1, 2, 3, 4, 5, 6, 7, 8, 9, 10, 11, 12, 13, 14, 15, 16, 17]) (by kernel_rfl) ho hdeps
      have e48 := F 17 48 _ (hd 17 (by simp)) rfl rfl
      have hrd := H.reads hp (fun h => by have := hall h 18 (by decide); rw [this] at hfi; cases hfi)
      obtain ⟨hW0, hW1, hB0⟩ := hrd
      clear hdeps ho hC
      simp only [tm57] at hr ⊢
      (refine Walk.opq (ho_of (by conv => lhs; whnf) (by kernel_rfl)) (by rfl) (by decide) (fun dd e he => ?_) (fun dd K hK => ?_); (· (simp [go_sem, *] at he; try (subst he; exact evR_read _ _))); go_simp; refine hK _ ?_; clear hK K; try walk_nrm)
      refine hr _ _ ⟨upd u 49 (.pointer (some ⟨B, 0, none⟩)), ?_, F.set (by decide) rfl rfl, by simpa [upd] using hp⟩
      simp [upd, e48]
    | 19, _ =>
      have hd := deps_of (l := [0, 1, 2, 3, 4, 5, 6, 7, 8, 9, 10, 11, 12, 13, 14, 15, 16, 18]) (by kernel_rfl) ho hdeps
      have e49 := F 18 49 _ (hd 18 (by simp)) rfl rfl
      have h16 := hd 16 (by simp)
      rcases hp with ⟨_, h16', _⟩ | ⟨_, h16', _⟩ | ⟨_, h15, h19, g, cap', w3, d, A, e47, rfl⟩ | ⟨h19, _⟩
      · rw [h16'] at h16; cases h16
      · rw [h16'] at h16; cases h16
      · refine Walk.back ?_ d
        clear hdeps ho hC
        obtain ⟨_, _, hB3, hBz3⟩ := H.grown A
        simp only [tm57] at hr ⊢
        simp only [e47, e49]
        (co_applyP Walk.opw (ho_of (by conv => lhs; whnf) (by kernel_rfl)) (by rfl) (by decide) ?wev2 ?wdr2 ?wrun2; (case' wrun2 => (intro dd K hK; go_simp; simp only [alloc_at', setCell_at']; refine hK _ ?wmore2; clear hK K)); (case wdr2 => exact fun dd es hes => DR.set' H.free hB3 dd es hes); (case wev2 => (intro dd e he; simp [go_sem, storedEv, ev_store_bool, ev_store_int, ev_store_slice, ev_store_pointer, *] at he; subst he; exact evR_write _ _ H.free)); try walk_nrm)
        refine hr _ _ ⟨upd u 2019 undef, ?_, F.set (by decide) rfl rfl, .inr (.inr (.inr ⟨by simp [upd], by simpa [upd] using h15, by simpa [upd] using h16, g, cap', w3, _, A, rfl⟩))⟩
        simp [upd, e47, e49]
      · rw [h19] at hfi; cases hfi
  · rintro f a w' ⟨u, rfl, F, hp⟩ hall
    have h19 := hall 19 (by rw [size57_7]; decide)
    rcases hp with ⟨_, _, h, _⟩ | ⟨_, _, h, _⟩ | ⟨_, _, h, _⟩ | ⟨_, _, _, g, cap', w3, d, A, rfl⟩
    · rw [h19] at h; cases h
    · rw [h19] at h; cases h
    · rw [h19] at h; cases h
    · exact (hk g cap' w3 u A).back d
end Go.Proofs.Ytgiiicdpbdfemaa
end

/- The statement's side: a walker's loop. -/
section
namespace Go.Proofs.Ytgiiicdpbdfemaa
open Go.Conc Go.RowKit Go.Relay
open Go.ConcN (upd upd_ne upd_same)

variable {main : Bool} {V : Nat → Option Wait}

set_option maxHeartbeats 8000000 in
set_option maxRecDepth 100000 in
theorem rd57_8 {Stop : Goroutine → World → Prop} (W : Nat) (S : Value) (i0 steps after : Int) (k : List Item) (cs : List Frame) (u0 : Nat → Value) (w : World) (h2 : w.cell? ⟨W, 2, none⟩ = some (.int .i64 steps)) (h3 : w.cell? ⟨W, 3, none⟩ = some (.int .i64 after))
    (hk : ∀ u : Nat → Value, u 58 = .bool (after == steps) → Walk Try.prog main (DR V) Stop (G ((base 57).at ⟨tm57 W S i0 u, []⟩ (.inRegion reg57_8 [] :: k)) cs) w) :
    Walk Try.prog main (DR V) Stop (G ((base 57).at ⟨tm57 W S i0 u0, []⟩ (.code (.region 8 reg57_8 true) :: k)) cs) w := by
  refine Walk.drawnI (Inv := fun f a w' => ∃ u, a = ⟨tm57 W S i0 u, []⟩ ∧ Facts [50, 51, 52, 53, 54, 55, 56, 57, 58] [.pointer (some ⟨W, 0, none⟩), .pointer (some ⟨W, 0, none⟩), .pointer (some ⟨W, 3, none⟩), .int .i64 after, .pointer (some ⟨W, 0, none⟩), .pointer (some ⟨W, 0, none⟩), .pointer (some ⟨W, 2, none⟩), .int .i64 steps, .bool (after == steps)] f u ∧ ∃ d, w' = w.at d) (by kernel_rfl) (by kernel_rfl) (fun d => ⟨u0, rfl, Facts.none _ _ _, d, rfl⟩) ?_ ?_
  · rintro f i o a w' ⟨u, rfl, F, d, rfl⟩ hfi ho hdeps rest hr
    refine Walk.back ?_ d
    have hi : i < 9 := by have := (Array.getElem?_eq_some_iff.1 ho).1; rw [size57_8] at this; exact this
    match i, hi with
    | 0, _ =>
      clear hdeps ho hfi
      simp only [tm57] at hr ⊢
      first | ((refine Walk.opq (ho_of (by conv => lhs; whnf) (by kernel_rfl)) (by rfl) (by decide) (fun dd e he => ?_) (fun dd K hK => ?_); (· (simp [go_sem, *] at he; try (subst he; exact evR_read _ _))); go_simp; refine hK _ ?_; clear hK K; try walk_nrm); refine hr _ _ ⟨upd u 50 (.pointer (some ⟨W, 0, none⟩)), ?_, F.set (by decide) rfl rfl, w.drawn, rfl⟩) | ((refine Walk.ctl rfl (fun w => stepG_unwanted (ho_of (by conv => lhs; whnf) (by kernel_rfl)) (by rfl)) ?_; walk_nrm); refine hr _ _ ⟨upd u 50 undef, ?_, F.set (by decide) rfl rfl, w.drawn, rfl⟩)
      simp [upd]
    | 1, _ =>
      have hd := deps_of (l := [0]) (by kernel_rfl) ho hdeps
      have e50 := F 0 50 _ (hd 0 (by simp)) rfl rfl
      clear hdeps ho hfi
      simp only [tm57] at hr ⊢
      simp only [e50]
      first | ((refine Walk.opq (ho_of (by conv => lhs; whnf) (by kernel_rfl)) (by rfl) (by decide) (fun dd e he => ?_) (fun dd K hK => ?_); (· (simp [go_sem, *] at he; try (subst he; exact evR_read _ _))); go_simp; refine hK _ ?_; clear hK K; try walk_nrm); refine hr _ _ ⟨upd u 51 (.pointer (some ⟨W, 0, none⟩)), ?_, F.set (by decide) rfl rfl, w.drawn, rfl⟩) | ((refine Walk.ctl rfl (fun w => stepG_unwanted (ho_of (by conv => lhs; whnf) (by kernel_rfl)) (by rfl)) ?_; walk_nrm); refine hr _ _ ⟨upd u 51 undef, ?_, F.set (by decide) rfl rfl, w.drawn, rfl⟩)
      simp [upd, e50]
    | 2, _ =>
      have hd := deps_of (l := [1]) (by kernel_rfl) ho hdeps
      have e51 := F 1 51 _ (hd 1 (by simp)) rfl rfl
      clear hdeps ho hfi
      simp only [tm57] at hr ⊢
      simp only [e51]
      first | ((refine Walk.opq (ho_of (by conv => lhs; whnf) (by kernel_rfl)) (by rfl) (by decide) (fun dd e he => ?_) (fun dd K hK => ?_); (· (simp [go_sem, *] at he; try (subst he; exact evR_read _ _))); go_simp; refine hK _ ?_; clear hK K; try walk_nrm); refine hr _ _ ⟨upd u 52 (.pointer (some ⟨W, 3, none⟩)), ?_, F.set (by decide) rfl rfl, w.drawn, rfl⟩) | ((refine Walk.ctl rfl (fun w => stepG_unwanted (ho_of (by conv => lhs; whnf) (by kernel_rfl)) (by rfl)) ?_; walk_nrm); refine hr _ _ ⟨upd u 52 undef, ?_, F.set (by decide) rfl rfl, w.drawn, rfl⟩)
      simp [upd, e51]
    | 3, _ =>
      have hd := deps_of (l := [2]) (by kernel_rfl) ho hdeps
      have e52 := F 2 52 _ (hd 2 (by simp)) rfl rfl
      clear hdeps ho hfi
      simp only [tm57] at hr ⊢
      simp only [e52]
      first | ((refine Walk.opq (ho_of (by conv => lhs; whnf) (by kernel_rfl)) (by rfl) (by decide) (fun dd e he => ?_) (fun dd K hK => ?_); (· (simp [go_sem, *] at he; try (subst he; exact evR_read _ _))); go_simp; refine hK _ ?_; clear hK K; try walk_nrm); refine hr _ _ ⟨upd u 53 (.int .i64 after), ?_, F.set (by decide) rfl rfl, w.drawn, rfl⟩) | ((refine Walk.ctl rfl (fun w => stepG_unwanted (ho_of (by conv => lhs; whnf) (by kernel_rfl)) (by rfl)) ?_; walk_nrm); refine hr _ _ ⟨upd u 53 undef, ?_, F.set (by decide) rfl rfl, w.drawn, rfl⟩)
      simp [upd, e52]
    | 4, _ =>
      clear hdeps ho hfi
      simp only [tm57] at hr ⊢
      first | ((refine Walk.opq (ho_of (by conv => lhs; whnf) (by kernel_rfl)) (by rfl) (by decide) (fun dd e he => ?_) (fun dd K hK => ?_); (· (simp [go_sem, *] at he; try (subst he; exact evR_read _ _))); go_simp; refine hK _ ?_; clear hK K; try walk_nrm); refine hr _ _ ⟨upd u 54 (.pointer (some ⟨W, 0, none⟩)), ?_, F.set (by decide) rfl rfl, w.drawn, rfl⟩) | ((refine Walk.ctl rfl (fun w => stepG_unwanted (ho_of (by conv => lhs; whnf) (by kernel_rfl)) (by rfl)) ?_; walk_nrm); refine hr _ _ ⟨upd u 54 undef, ?_, F.set (by decide) rfl rfl, w.drawn, rfl⟩)
      simp [upd]
    | 5, _ =>
      have hd := deps_of (l := [4]) (by kernel_rfl) ho hdeps
      have e54 := F 4 54 _ (hd 4 (by simp)) rfl rfl
      clear hdeps ho hfi
      simp only [tm57] at hr ⊢
      simp only [e54]
      first | ((refine Walk.opq (ho_of (by conv => lhs; whnf) (by kernel_rfl)) (by rfl) (by decide) (fun dd e he => ?_) (fun dd K hK => ?_); (· (simp [go_sem, *] at he; try (subst he; exact evR_read _ _))); go_simp; refine hK _ ?_; clear hK K; try walk_nrm); refine hr _ _ ⟨upd u 55 (.pointer (some ⟨W, 0, none⟩)), ?_, F.set (by decide) rfl rfl, w.drawn, rfl⟩) | ((refine Walk.ctl rfl (fun w => stepG_unwanted (ho_of (by conv => lhs; whnf) (by kernel_rfl)) (by rfl)) ?_; walk_nrm); refine hr _ _ ⟨upd u 55 undef, ?_, F.set (by decide) rfl rfl, w.drawn, rfl⟩)
      simp [upd, e54]
    | 6, _ =>
      have hd := deps_of (l := [5]) (by kernel_rfl) ho hdeps
      have e55 := F 5 55 _ (hd 5 (by simp)) rfl rfl
      clear hdeps ho hfi
      simp only [tm57] at hr ⊢
      simp only [e55]
      first | ((refine Walk.opq (ho_of (by conv => lhs; whnf) (by kernel_rfl)) (by rfl) (by decide) (fun dd e he => ?_) (fun dd K hK => ?_); (· (simp [go_sem, *] at he; try (subst he; exact evR_read _ _))); go_simp; refine hK _ ?_; clear hK K; try walk_nrm); refine hr _ _ ⟨upd u 56 (.pointer (some ⟨W, 2, none⟩)), ?_, F.set (by decide) rfl rfl, w.drawn, rfl⟩) | ((refine Walk.ctl rfl (fun w => stepG_unwanted (ho_of (by conv => lhs; whnf) (by kernel_rfl)) (by rfl)) ?_; walk_nrm); refine hr _ _ ⟨upd u 56 undef, ?_, F.set (by decide) rfl rfl, w.drawn, rfl⟩)
      simp [upd, e55]
    | 7, _ =>
      have hd := deps_of (l := [6]) (by kernel_rfl) ho hdeps
      have e56 := F 6 56 _ (hd 6 (by simp)) rfl rfl
      clear hdeps ho hfi
      simp only [tm57] at hr ⊢
      simp only [e56]
      first | ((refine Walk.opq (ho_of (by conv => lhs; whnf) (by kernel_rfl)) (by rfl) (by decide) (fun dd e he => ?_) (fun dd K hK => ?_); (· (simp [go_sem, *] at he; try (subst he; exact evR_read _ _))); go_simp; refine hK _ ?_; clear hK K; try walk_nrm); refine hr _ _ ⟨upd u 57 (.int .i64 steps), ?_, F.set (by decide) rfl rfl, w.drawn, rfl⟩) | ((refine Walk.ctl rfl (fun w => stepG_unwanted (ho_of (by conv => lhs; whnf) (by kernel_rfl)) (by rfl)) ?_; walk_nrm); refine hr _ _ ⟨upd u 57 undef, ?_, F.set (by decide) rfl rfl, w.drawn, rfl⟩)
      simp [upd, e56]
    | 8, _ =>
      have hd := deps_of (l := [3, 7]) (by kernel_rfl) ho hdeps
      have e53 := F 3 53 _ (hd 3 (by simp)) rfl rfl
      have e57 := F 7 57 _ (hd 7 (by simp)) rfl rfl
      clear hdeps ho hfi
      simp only [tm57] at hr ⊢
      simp only [e53, e57]
      first | ((refine Walk.opq (ho_of (by conv => lhs; whnf) (by kernel_rfl)) (by rfl) (by decide) (fun dd e he => ?_) (fun dd K hK => ?_); (· (simp [go_sem, *] at he; try (subst he; exact evR_read _ _))); go_simp; refine hK _ ?_; clear hK K; try walk_nrm); refine hr _ _ ⟨upd u 58 (.bool (after == steps)), ?_, F.set (by decide) rfl rfl, w.drawn, rfl⟩) | ((refine Walk.ctl rfl (fun w => stepG_unwanted (ho_of (by conv => lhs; whnf) (by kernel_rfl)) (by rfl)) ?_; walk_nrm); refine hr _ _ ⟨upd u 58 undef, ?_, F.set (by decide) rfl rfl, w.drawn, rfl⟩)
      simp [upd, e53, e57]
  · rintro f a w' ⟨u, rfl, F, d, rfl⟩ hall
    exact (hk u (F 8 58 _ (hall 8 (by rw [size57_8]; decide)) rfl rfl)).back d


noncomputable def hd57 (W : Nat) (S : Value) (i : Int) (u : Nat → Value) : Frame :=
  (base 57).at { tmps := #[.pointer (some ⟨W, 0, none⟩), S, u 2, u 3, .int .i64 i, u 5, u 6, u 7, u 8, u 9, u 10, u 11, u 12, u 13, u 14, u 15, u 16, u 17, u 18, u 19, u 20, u 21, u 22, u 23, u 24, u 25, u 26, u 27, u 28, u 29, u 30, u 31, u 32, u 33, u 34, u 35, u 36, u 37, u 38, u 39, u 40, u 41, u 42, u 43, u 44, u 45, u 46, u 47, u 48, u 49, u 50, u 51, u 52, u 53, u 54, u 55, u 56, u 57, u 58, u 59, u 60, u 61, u 62, u 63, u 64, u 65, u 66], defers := [] } [.code (.seq (.seq (.region 1 reg57_1 false) (.cond (.tmp 10 ) (.skip) (.exit 0))) (.seq (.block 1 (.seq (.seq (.region 3 reg57_3 false) (.cond (.tmp 18 ) (.region 4 reg57_4 false) (.skip))) (.seq (.region 5 reg57_5 false) (.cond (.tmp 28 ) (.seq (.region 6 reg57_6 false) (.region 7 reg57_7 true)) (.skip))))) (.region 2 reg57_2 false))), .inLoop (.seq (.seq (.region 1 reg57_1 false) (.cond (.tmp 10 ) (.skip) (.exit 0))) (.seq (.block 1 (.seq (.seq (.region 3 reg57_3 false) (.cond (.tmp 18 ) (.region 4 reg57_4 false) (.skip))) (.seq (.region 5 reg57_5 false) (.cond (.tmp 28 ) (.seq (.region 6 reg57_6 false) (.region 7 reg57_7 true)) (.skip))))) (.region 2 reg57_2 false))), .inBlock 0, .code (.seq (.region 8 reg57_8 true) (.cond (.tmp 58 ) (.region 9 reg57_9 false) (.skip)))]

theorem und115 : ∃ ms, Try.prog.underlying 115 = some (.interface ms) := by
  have h : (Try.prog.underlying 115).any (fun | .interface _ => true | _ => false) = true := by kernel_rfl
  cases e : Try.prog.underlying 115 with
  | none => rw [e] at h; cases h
  | some x => rw [e] at h; cases x <;> first | exact ⟨_, rfl⟩ | cases h

set_option maxHeartbeats 8000000 in
set_option maxRecDepth 100000 in
theorem walk57_in (W : Nat) (S : Value) (cs : List Frame) (w : World) :
    Walk Try.prog main (DR V) (fun g w' => (∃ u, g = G (hd57 W S 0 u) cs) ∧ ∃ d, w' = w.at d) (G (Frame.enter Try.prog 57 #[.pointer (some ⟨W, 0, none⟩), S] .normal) cs) w := by
  rw [enter_at _ Try.func57 code57_is]
  simp only [Try.ntmps57, List.size_toArray, List.length_cons, List.length_nil, Nat.reduceAdd, Nat.reduceSub, Array.replicate_succ, Array.replicate_zero, List.push_toArray, List.append_toArray, List.nil_append, List.cons_append]
  repeat (first | (refine Walk.c rfl ?_) | (refine Walk.cRet ?_) | (refine Walk.cEnd ?_) | (refine Walk.cReg ?_; simp only [size57_0, size57_1, size57_3, size57_4, size57_5, size57_6, size57_7, size57_2, size57_8, size57_9, List.range, List.range.loop]) | (refine Walk.opq (ho_of (by conv => lhs; whnf) (by kernel_rfl)) (by rfl) (by decide) (fun dd e he => ?_) (fun dd K hK => ?_); (· (simp [go_sem, *] at he; try (subst he; exact evR_read _ _))); go_simp; refine hK _ ?_; clear hK K; try walk_nrm) | (refine Walk.ctl rfl (fun w => stepG_unwanted (ho_of (by conv => lhs; whnf) (by kernel_rfl)) (by rfl)) ?_; walk_nrm))
  refine Walk.ctl rfl (fun w => stepG_loop) ?_
  refine .stop fun d => ⟨at_slots ?_, d, rfl⟩
  simp only [hd57]
  rfl

/-- Where a walker is about to call Step. -/
noncomputable def at57 (W : Nat) (S : Value) (i : Int) (u : Nat → Value) : Act := ⟨#[.pointer (some ⟨W, 0, none⟩), S, u 2, u 3, .int .i64 i, u 5, u 6, u 7, u 8, u 9, u 10, u 11, u 12, u 13, u 14, u 15, u 16, u 17, u 18, u 19, u 20, u 21, u 22, u 23, u 24, u 25, u 26, u 27, u 28, S, u 30, u 31, u 32, u 33, u 34, u 35, u 36, u 37, u 38, u 39, u 40, u 41, u 42, u 43, u 44, u 45, u 46, u 47, u 48, u 49, u 50, u 51, u 52, u 53, u 54, u 55, u 56, u 57, u 58, u 59, u 60, u 61, u 62, u 63, u 64, u 65, u 66], []⟩
noncomputable def todo57 : List Item := [.code (.seq (.seq (.region 1 reg57_1 false) (.cond (.tmp 10 ) (.skip) (.exit 0))) (.seq (.block 1 (.seq (.seq (.region 3 reg57_3 false) (.cond (.tmp 18 ) (.region 4 reg57_4 false) (.skip))) (.seq (.region 5 reg57_5 false) (.cond (.tmp 28 ) (.seq (.region 6 reg57_6 false) (.region 7 reg57_7 true)) (.skip))))) (.region 2 reg57_2 false))), .inLoop (.seq (.seq (.region 1 reg57_1 false) (.cond (.tmp 10 ) (.skip) (.exit 0))) (.seq (.block 1 (.seq (.seq (.region 3 reg57_3 false) (.cond (.tmp 18 ) (.region 4 reg57_4 false) (.skip))) (.seq (.region 5 reg57_5 false) (.cond (.tmp 28 ) (.seq (.region 6 reg57_6 false) (.region 7 reg57_7 true)) (.skip))))) (.region 2 reg57_2 false))), .inBlock 0, .code (.seq (.region 8 reg57_8 true) (.cond (.tmp 58 ) (.region 9 reg57_9 false) (.skip)))]
noncomputable def k57 : List Item := [.code (.region 7 reg57_7 true), .inBlock 1, .code (.region 2 reg57_2 false)] ++ todo57.drop 1

set_option maxHeartbeats 8000000 in
set_option maxRecDepth 100000 in
theorem walk57_more (W : Nat) (t : TypeId) (v : Value) (i steps after : Int) (u : Nat → Value) (cs : List Frame) (w : World) (h2 : w.cell? ⟨W, 2, none⟩ = some (.int .i64 steps)) (h3 : w.cell? ⟨W, 3, none⟩ = some (.int .i64 after)) (hi : i < steps) (ha : i ≠ after) :
    Walk Try.prog main (DR V) (fun g w' => (∃ u', g = G ((base 57).at (at57 W (.iface t v) i u') (.inRegion reg57_6 [1] :: k57)) cs) ∧ ∃ d, w' = w.at d) (G (hd57 W (.iface t v) i u) cs) w := by
  obtain ⟨ms, h115⟩ := und115
  have q1 := fun w => run_neq_iface (P := Try.prog) (w := w) 115 t v h115
  have q2 := fun w es => ev_neq_iface (P := Try.prog) (w := w) 115 t v es h115
  have d1 : decide (i < steps) = true := decide_eq_true hi
  have d2 : (i == after) = false := by simpa using ha
  have d3 : decide (i = after) = false := decide_eq_false ha
  conv => arg 5; unfold hd57
  repeat (first | (refine Walk.c rfl ?_) | (refine Walk.cRet ?_) | (refine Walk.cEnd ?_) | (refine Walk.cReg ?_; simp only [size57_0, size57_1, size57_3, size57_4, size57_5, size57_6, size57_7, size57_2, size57_8, size57_9, List.range, List.range.loop]) | (refine Walk.opq (ho_of (by conv => lhs; whnf) (by kernel_rfl)) (by rfl) (by decide) (fun dd e he => ?_) (fun dd K hK => ?_); (· (simp [go_sem, *] at he; try (subst he; exact evR_read _ _))); go_simp; refine hK _ ?_; clear hK K; try walk_nrm) | (refine Walk.ctl rfl (fun w => stepG_unwanted (ho_of (by conv => lhs; whnf) (by kernel_rfl)) (by rfl)) ?_; walk_nrm))
  refine .stop fun d => ⟨at_slots (F := fun u => G ((base 57).at (at57 W (.iface t v) i u) (.inRegion reg57_6 [1] :: k57)) cs) ?_, d, rfl⟩
  simp only [at57, k57, todo57, hd57]
  rfl

set_option maxHeartbeats 8000000 in
set_option maxRecDepth 100000 in
theorem walk57_break (W : Nat) (S : Value) (i steps n : Int) (u : Nat → Value) (c : Frame) (cs : List Frame) (w : World) (h1 : w.cell? ⟨W, 1, none⟩ = some (.int .i64 n)) (h2 : w.cell? ⟨W, 2, none⟩ = some (.int .i64 steps)) (h3 : w.cell? ⟨W, 3, none⟩ = some (.int .i64 i)) (hi : i < steps) :
    Walk Try.prog main (DR V) (fun g w' => (∃ t v, t ≠ 147 ∧ g = G (c.raise [{ v := .iface t v, recovered := false }]) cs) ∧ ∃ d, w' = w.at d) (G (hd57 W S i u) (c :: cs)) w := by
  have d1 : decide (i < steps) = true := decide_eq_true hi
  conv => arg 5; unfold hd57
  repeat (first | (refine Walk.c rfl ?_) | (refine Walk.cRet ?_) | (refine Walk.cEnd ?_) | (refine Walk.cReg ?_; simp only [size57_0, size57_1, size57_3, size57_4, size57_5, size57_6, size57_7, size57_2, size57_8, size57_9, List.range, List.range.loop]) | (refine Walk.opq (ho_of (by conv => lhs; whnf) (by kernel_rfl)) (by rfl) (by decide) (fun dd e he => ?_) (fun dd K hK => ?_); (· (simp [go_sem, *] at he; try (subst he; exact evR_read _ _))); go_simp; refine hK _ ?_; clear hK K; try walk_nrm) | (refine Walk.ctl rfl (fun w => stepG_unwanted (ho_of (by conv => lhs; whnf) (by kernel_rfl)) (by rfl)) ?_; walk_nrm))
  refine Walk.callE (ho_of (by conv => lhs; whnf) (by kernel_rfl)) (by rfl) (by decide) rfl Try.func66 (by kernel_rfl) (by rfl) ?_
  walk_nrm
  refine (beyond_panics _ w _ _).then ?_
  rintro g w' ⟨⟨t, v, ht, rfl⟩, d, rfl⟩
  refine Walk.back ?_ d
  rw [Frame.raise_at]
  refine Walk.ctl rfl (fun w => stepG_pop rfl rfl (by kernel_rfl)) ?_
  exact .stop fun d => ⟨⟨t, v, ht, rfl⟩, d, rfl⟩

set_option maxHeartbeats 8000000 in
set_option maxRecDepth 100000 in
theorem walk57_end (W : Nat) (S : Value) (i steps after n : Int) (u : Nat → Value) (c : Frame) (cs : List Frame) (w : World) (h1 : w.cell? ⟨W, 1, none⟩ = some (.int .i64 n)) (h2 : w.cell? ⟨W, 2, none⟩ = some (.int .i64 steps)) (h3 : w.cell? ⟨W, 3, none⟩ = some (.int .i64 after)) (hi : steps ≤ i) :
    Walk Try.prog main (DR V) (fun g w' => ((after = steps ∧ ∃ t v, t ≠ 147 ∧ g = G (c.raise [{ v := .iface t v, recovered := false }]) cs) ∨ (after ≠ steps ∧ g = G (c.finish (.tuple #[])) cs)) ∧ ∃ d, w' = w.at d) (G (hd57 W S i u) (c :: cs)) w := by
  have d1 : decide (i < steps) = false := decide_eq_false (by omega)
  conv => arg 5; unfold hd57
  repeat (first | (refine Walk.c rfl ?_) | (refine Walk.cRet ?_) | (refine Walk.cEnd ?_) | (refine Walk.cReg ?_; simp only [size57_0, size57_1, size57_3, size57_4, size57_5, size57_6, size57_7, size57_2, size57_8, size57_9, List.range, List.range.loop]) | (refine Walk.opq (ho_of (by conv => lhs; whnf) (by kernel_rfl)) (by rfl) (by decide) (fun dd e he => ?_) (fun dd K hK => ?_); (· (simp [go_sem, *] at he; try (subst he; exact evR_read _ _))); go_simp; refine hK _ ?_; clear hK K; try walk_nrm) | (refine Walk.ctl rfl (fun w => stepG_unwanted (ho_of (by conv => lhs; whnf) (by kernel_rfl)) (by rfl)) ?_; walk_nrm))
  refine slots_walk (F := fun u => G ((base 57).at ⟨tm57 W S i u, []⟩ (.code (.region 8 reg57_8 true) :: [.code (.cond (.tmp 58) (.region 9 reg57_9 false) .skip)])) (c :: cs)) (fun u => rd57_8 W S i steps after _ (c :: cs) u w h2 h3 fun u e => ?_) (by simp only [tm57]; rfl)
  by_cases ha : after = steps
  · have e : u 58 = .bool true := by rw [e]; simp [ha]
    simp only [tm57]
    rw [e]
    clear e
    repeat (first | (refine Walk.c rfl ?_) | (refine Walk.cRet ?_) | (refine Walk.cEnd ?_) | (refine Walk.cReg ?_; simp only [size57_0, size57_1, size57_3, size57_4, size57_5, size57_6, size57_7, size57_2, size57_8, size57_9, List.range, List.range.loop]) | (refine Walk.opq (ho_of (by conv => lhs; whnf) (by kernel_rfl)) (by rfl) (by decide) (fun dd e he => ?_) (fun dd K hK => ?_); (· (simp [go_sem, *] at he; try (subst he; exact evR_read _ _))); go_simp; refine hK _ ?_; clear hK K; try walk_nrm) | (refine Walk.ctl rfl (fun w => stepG_unwanted (ho_of (by conv => lhs; whnf) (by kernel_rfl)) (by rfl)) ?_; walk_nrm))
    refine Walk.callE (ho_of (by conv => lhs; whnf) (by kernel_rfl)) (by rfl) (by decide) rfl Try.func66 (by kernel_rfl) (by rfl) ?_
    walk_nrm
    refine (beyond_panics _ w _ _).then ?_
    rintro g w' ⟨⟨t, v, ht, rfl⟩, d, rfl⟩
    refine Walk.back ?_ d
    rw [Frame.raise_at]
    refine Walk.ctl rfl (fun w => stepG_pop rfl rfl (by kernel_rfl)) ?_
    exact .stop fun d => ⟨.inl ⟨ha, t, v, ht, rfl⟩, d, rfl⟩
  · have e : u 58 = .bool false := by rw [e]; simp [ha]
    simp only [tm57]
    rw [e]
    clear e
    repeat (first | (refine Walk.c rfl ?_) | (refine Walk.cRet ?_) | (refine Walk.cEnd ?_) | (refine Walk.cReg ?_; simp only [size57_0, size57_1, size57_3, size57_4, size57_5, size57_6, size57_7, size57_2, size57_8, size57_9, List.range, List.range.loop]) | (refine Walk.opq (ho_of (by conv => lhs; whnf) (by kernel_rfl)) (by rfl) (by decide) (fun dd e he => ?_) (fun dd K hK => ?_); (· (simp [go_sem, *] at he; try (subst he; exact evR_read _ _))); go_simp; refine hK _ ?_; clear hK K; try walk_nrm) | (refine Walk.ctl rfl (fun w => stepG_unwanted (ho_of (by conv => lhs; whnf) (by kernel_rfl)) (by rfl)) ?_; walk_nrm))
    exact Walk.ctl rfl (fun w => stepG_leave rfl rfl Try.func57 (results_none rfl _ _ w) (events_results_none rfl _ _)) (.stop fun d => ⟨.inr ⟨ha, rfl⟩, d, rfl⟩)
end Go.Proofs.Ytgiiicdpbdfemaa
end

/- The statement's side: a walker behind its Step. -/
section
namespace Go.Proofs.Ytgiiicdpbdfemaa
open Go.Conc Go.RowKit Go.Relay
open Go.ConcN (upd upd_ne upd_same)

variable {main : Bool} {V : Nat → Option Wait}

set_option maxHeartbeats 8000000 in
set_option maxRecDepth 100000 in
theorem walk57_back (W B n0 : Nat) (n : Int) (la : Option Addr) (len cap : Nat) (xs : List Value) (S : Value) (i : Int) (u : Nat → Value) (cs : List Frame) (w : World) (H : Note V W B n0 n la len cap xs w) (hi0 : 0 ≤ i) (hi1 : i < 32) :
    Walk Try.prog main (DR V) (fun g' w' => ∃ g cap' w3, Noted n0 n la len cap xs w g cap' w3 ∧ (∃ u', g' = G (hd57 W S (i + 1) u') cs) ∧ ∃ d, w' = (w3.setCell ⟨B, 0, none⟩ (.slice (some ⟨g, 0, none⟩) (len + 1) cap')).at d)
      (G (((base 57).at (at57 W S i u) (.inRegion reg57_6 [1] :: k57)).finish (.tuple #[])) cs) w := by
  have hw1 : IntKind.wrap .i64 (i + 1) = i + 1 := by rw [IntKind.wrap_i64]; omega
  rw [Frame.finish_at]
  simp only [at57, k57, todo57, hd57]
  walk_nrm
  refine Walk.ctl rfl (fun w => stepG_region_end) ?_
  refine slots_walk (F := fun u => G ((base 57).at ⟨tm57 W S i u, []⟩ (.code (.region 7 reg57_7 true) :: ([.inBlock 1, .code (.region 2 reg57_2 false)] ++ todo57.drop 1))) cs) (fun u => note57 W B n0 n la len cap xs S i u _ cs w H fun g cap' w3 u A => ?_) (by simp only [tm57, todo57, hd57]; rfl)
  simp only [tm57, todo57, hd57]
  clear H
  refine Walk.ctl rfl (fun w => stepG_region_end) ?_
  simp only [List.cons_append, List.nil_append, List.drop_succ_cons, List.drop_zero]
  repeat (first | (refine Walk.c rfl ?_) | (refine Walk.cRet ?_) | (refine Walk.cEnd ?_) | (refine Walk.cReg ?_; simp only [size57_0, size57_1, size57_3, size57_4, size57_5, size57_6, size57_7, size57_2, size57_8, size57_9, List.range, List.range.loop]) | (refine Walk.opq (ho_of (by conv => lhs; whnf) (by kernel_rfl)) (by rfl) (by decide) (fun dd e he => ?_) (fun dd K hK => ?_); (· (simp [go_sem, *] at he; try (subst he; exact evR_read _ _))); go_simp; refine hK _ ?_; clear hK K; try walk_nrm) | (refine Walk.ctl rfl (fun w => stepG_unwanted (ho_of (by conv => lhs; whnf) (by kernel_rfl)) (by rfl)) ?_; walk_nrm))
  refine Walk.ctl rfl (fun w => stepG_inLoop) ?_
  refine .stop fun d => ⟨g, cap', w3, A, at_slots ?_, d, rfl⟩
  simp only [hd57]
  rfl

end Go.Proofs.Ytgiiicdpbdfemaa
end

/- Package turn's Play: its body, up to Over. -/
section
namespace Go.Proofs.Ytgiiicdpbdfemaa
open Go.Conc Go.RowKit Go.Relay
open Go.ConcN (upd upd_ne upd_same)

variable {main : Bool} {V : Nat → Option Wait}

noncomputable def body14 : Code := match Try.f14.body with | some (.seq _ (.seq _ (.seq _ (.seq _ (.seq (.seq _ (.block _ (.loop c))) _))))) => c | _ => .skip
noncomputable def rest14 : Code := match Try.f14.body with | some (.seq _ (.seq _ (.seq _ (.seq _ (.seq _ c))))) => c | _ => .skip
noncomputable def hd14 (wv pv sv : Value) (most : Int) (T sw nw wb wc tb n j : Nat) (u : Nat → Value) : Frame :=
  (base 14).at { tmps := #[wv, pv, sv, .int .i64 most, undef, undef, undef, undef, .pointer (some ⟨T, 0, none⟩), .slice (some ⟨sw, 0, none⟩) nw nw, .slice (some ⟨wb, 0, none⟩) n wc, .slice (some ⟨tb, 0, none⟩) n n, u 12, u 13, undef, undef, undef, wv, .slice (some ⟨sw, 0, none⟩) nw nw, .slice (some ⟨sw, 0, none⟩) nw nw, pv, .slice (some ⟨wb, 0, none⟩) n wc, .slice (some ⟨wb, 0, none⟩) n wc, .int .i64 n, .slice (some ⟨tb, 0, none⟩) n n, .slice (some ⟨wb, 0, none⟩) n wc, .int .i64 n, .int .i64 j, u 28, u 29, u 30, u 31, u 32, u 33, u 34, u 35, u 36, u 37, u 38, u 39, u 40, u 41, u 42, u 43, u 44, u 45, u 46, u 47, u 48, u 49, u 50, u 51, u 52], defers := [] } [.code body14, .inLoop body14, .inBlock 0, .code rest14]


set_option maxHeartbeats 8000000 in
set_option maxRecDepth 100000 in
theorem play_in {Stop : Goroutine → World → Prop} (wv pv sv : Value) (most : Int) (sw nw : Nat) (P1 : World → Prop) (P2 : Nat → Nat → Nat → World → Prop) (cs : List Frame) (w : World)
    (h1 : CallW Try.prog main V 39 #[wv] (w.alloc (.cells #[.slice none 0 0, .slice none 0 0, .slice none 0 0, .bool false] 28)) (fun v w' => v = .slice (some ⟨sw, 0, none⟩) nw nw ∧ P1 w'))
    (h2 : ∀ w1, P1 w1 → CallW Try.prog main V 40 #[.slice (some ⟨sw, 0, none⟩) nw nw, pv] w1 (fun v w' => ∃ wb n wc, v = .slice (some ⟨wb, 0, none⟩) n wc ∧ P2 wb n wc w' ∧ n ≤ 64))
    (hk : ∀ wb n wc w2, P2 wb n wc w2 → n ≤ 64 → Walk Try.prog main (DR V) Stop (G (hd14 wv pv sv most w.heap.size sw nw wb wc w2.heap.size n 0 (fun _ => undef)) cs) (w2.alloc (.cells (madeCells #[.nilFunc] n) 67))) :
    Walk Try.prog main (DR V) Stop (G (Frame.enter Try.prog 14 #[wv, pv, sv, .int .i64 most] .normal) cs) w := by
  rw [enter_at _ Try.func14 rfl]
  simp only [Try.f14, List.size_toArray, List.length_cons, List.length_nil, Nat.reduceAdd, Nat.reduceSub, Array.replicate_succ, Array.replicate_zero, List.push_toArray, List.append_toArray, List.nil_append, List.cons_append]
  repeat (first | (refine Walk.c rfl ?_) | (refine Walk.cReg ?_; simp only [List.size_toArray, List.length_cons, List.length_nil, Nat.reduceAdd, Nat.zero_add, List.range, List.range.loop]) | (refine Walk.cRet ?_) | (refine Walk.cEnd ?_) | (refine Walk.opq (ho_of (by conv => lhs; whnf) (by kernel_rfl)) (by rfl) (by decide) (fun dd e he => ?_) (fun dd K hK => ?_); (· (simp [go_sem, *] at he; try (subst he; exact evR_read _ _))); go_simp; refine hK _ ?_; clear hK K; try walk_nrm) | (refine Walk.ctl rfl (fun w => stepG_unwanted (ho_of (by conv => lhs; whnf) (by kernel_rfl)) (by rfl)) ?_; walk_nrm))
  (co_applyP Walk.opw (ho_of (by conv => lhs; whnf) (by kernel_rfl)) (by rfl) (by decide) ?wev1 ?wdr1 ?wrun1; (case' wrun1 => (intro dd K hK; go_simp; simp only [alloc_at', setCell_at']; refine hK _ ?wmore1; clear hK K)); (case wdr1 => exact fun dd es hes => DR.alloc' dd es hes); (case wev1 => (intro dd e he; simp [go_sem, *] at he)); try walk_nrm)
  repeat (first | (refine Walk.c rfl ?_) | (refine Walk.cReg ?_; simp only [List.size_toArray, List.length_cons, List.length_nil, Nat.reduceAdd, Nat.zero_add, List.range, List.range.loop]) | (refine Walk.cRet ?_) | (refine Walk.cEnd ?_) | (refine Walk.opq (ho_of (by conv => lhs; whnf) (by kernel_rfl)) (by rfl) (by decide) (fun dd e he => ?_) (fun dd K hK => ?_); (· (simp [go_sem, *] at he; try (subst he; exact evR_read _ _))); go_simp; refine hK _ ?_; clear hK K; try walk_nrm) | (refine Walk.ctl rfl (fun w => stepG_unwanted (ho_of (by conv => lhs; whnf) (by kernel_rfl)) (by rfl)) ?_; walk_nrm))
  refine Walk.callW (Post := fun v w' => v = .slice (some ⟨sw, 0, none⟩) nw nw ∧ P1 w') ?_ rfl (by rfl) (by decide) rfl Try.func39 (by kernel_rfl) (by rfl) ?_
  · walk_nrm
    exact h1
  rintro v w1 ⟨rfl, hp1⟩
  walk_nrm
  repeat (first | (refine Walk.c rfl ?_) | (refine Walk.cReg ?_; simp only [List.size_toArray, List.length_cons, List.length_nil, Nat.reduceAdd, Nat.zero_add, List.range, List.range.loop]) | (refine Walk.cRet ?_) | (refine Walk.cEnd ?_) | (refine Walk.opq (ho_of (by conv => lhs; whnf) (by kernel_rfl)) (by rfl) (by decide) (fun dd e he => ?_) (fun dd K hK => ?_); (· (simp [go_sem, *] at he; try (subst he; exact evR_read _ _))); go_simp; refine hK _ ?_; clear hK K; try walk_nrm) | (refine Walk.ctl rfl (fun w => stepG_unwanted (ho_of (by conv => lhs; whnf) (by kernel_rfl)) (by rfl)) ?_; walk_nrm))
  refine Walk.callW (Post := fun v w' => ∃ wb n wc, v = .slice (some ⟨wb, 0, none⟩) n wc ∧ P2 wb n wc w' ∧ n ≤ 64) ?_ rfl (by rfl) (by decide) rfl Try.func40 (by kernel_rfl) (by rfl) ?_
  · walk_nrm
    exact h2 w1 hp1
  rintro v w2 ⟨wb, n, wc, rfl, hp2, hn⟩
  have hk2 := hk wb n wc w2 hp2 hn
  clear h1 h2 hk
  walk_nrm
  repeat (first | (refine Walk.c rfl ?_) | (refine Walk.cReg ?_; simp only [List.size_toArray, List.length_cons, List.length_nil, Nat.reduceAdd, Nat.zero_add, List.range, List.range.loop]) | (refine Walk.cRet ?_) | (refine Walk.cEnd ?_) | (refine Walk.opq (ho_of (by conv => lhs; whnf) (by kernel_rfl)) (by rfl) (by decide) (fun dd e he => ?_) (fun dd K hK => ?_); (· (simp [go_sem, *] at he; try (subst he; exact evR_read _ _))); go_simp; refine hK _ ?_; clear hK K; try walk_nrm) | (refine Walk.ctl rfl (fun w => stepG_unwanted (ho_of (by conv => lhs; whnf) (by kernel_rfl)) (by rfl)) ?_; walk_nrm))
  have hi67 := Option.some_get (show (Try.prog.info? 67).isSome = true by kernel_rfl)
  refine Walk.make 53 (.tmp 23) (.tmp 23) rfl (by rfl) (by decide) rfl 67 _ .nilFunc 1 8 (by kernel_rfl) hi67.symm (by kernel_rfl) (by kernel_rfl) (by kernel_rfl) n rfl rfl (by omega) (by omega) ?_
  clear hi67
  walk_nrm
  simp only [Value.cells, Nat.mul_one]
  repeat (first | (refine Walk.c rfl ?_) | (refine Walk.cReg ?_; simp only [List.size_toArray, List.length_cons, List.length_nil, Nat.reduceAdd, Nat.zero_add, List.range, List.range.loop]) | (refine Walk.cRet ?_) | (refine Walk.cEnd ?_) | (refine Walk.opq (ho_of (by conv => lhs; whnf) (by kernel_rfl)) (by rfl) (by decide) (fun dd e he => ?_) (fun dd K hK => ?_); (· (simp [go_sem, *] at he; try (subst he; exact evR_read _ _))); go_simp; refine hK _ ?_; clear hK K; try walk_nrm) | (refine Walk.ctl rfl (fun w => stepG_unwanted (ho_of (by conv => lhs; whnf) (by kernel_rfl)) (by rfl)) ?_; walk_nrm))
  refine Walk.ctl rfl (fun w => stepG_loop) ?_
  simp only [hd14, body14, rest14, Try.f14] at hk2
  exact hk2
end Go.Proofs.Ytgiiicdpbdfemaa
end
