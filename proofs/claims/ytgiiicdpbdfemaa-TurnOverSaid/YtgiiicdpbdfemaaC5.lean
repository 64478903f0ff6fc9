/- Part 5. -/
import Derived.Test.YtgiiicdpbdfemaaC4
import Derived.Conc.AtomicLaws2
set_option linter.unusedSimpArgs false
/- Package turn's programs, in company: reach's beginning. -/
section
namespace Go.Proofs.Ytgiiicdpbdfemaa
open Go.Conc Go.RowKit Go.Relay
open Go.ConcN (upd upd_ne upd_same)

variable {main : Bool} {V : Nat → Option Wait}

noncomputable def reg72 : Array Oper := match Try.f72.body with | some (.seq _ (.seq (.region _ ops _) _)) => ops | _ => #[]
noncomputable def rest72 : Code := match Try.f72.body with | some (.seq _ (.seq _ c)) => c | _ => .skip
def tm72 (W X : Nat) (c : Value) (u : Nat → Value) : Array Value := #[.pointer (some ⟨W, 0, none⟩), c, undef, .pointer (some ⟨X, 0, none⟩), u 4, u 5, u 6, u 7, u 8, u 9, u 10, u 11, u 12, u 13, u 14, u 15, u 16, u 17, u 18, u 19, u 20, u 21, u 22, u 23, u 24, u 25, u 26, u 27, u 28, u 29, u 30, u 31, u 32, u 33, u 34, u 35, u 36, u 37, u 38, u 39, u 40, u 41, u 42, u 43, u 44, u 45, u 46, u 47, u 48, u 49, u 50, u 51, u 52, u 53, u 54, u 55, u 56, u 57, u 58, u 59, u 60, u 61, u 62, u 63, u 64, u 65, u 66]

set_option maxHeartbeats 8000000 in
set_option maxRecDepth 100000 in
theorem reg72_walk {Stop : Goroutine → World → Prop} (W X : Nat) (c : Value) (cr : Int) (sw len cap ca : Nat) (k : List Item) (cs : List Frame) (u0 : Nat → Value) (w : World) (h0 : w.cell? ⟨W, 0, none⟩ = some (.slice (some ⟨sw, 0, none⟩) len cap)) (hlt : ca < len) (h1 : w.cell? ⟨X, 1, none⟩ = some (.int .i64 cr)) (h2 : w.cell? ⟨X, 2, none⟩ = some (.int .i64 ca))
    (hk : ∀ u : Nat → Value, u 4 = .pointer (some ⟨sw, ca, none⟩) → u 5 = .pointer (some ⟨W, 2 + (cr % 4).toNat, none⟩) → Walk Try.prog main (DR V) Stop (G ((base 72).at ⟨tm72 W X c u, []⟩ (.inRegion reg72 [] :: k)) cs) w) :
    Walk Try.prog main (DR V) Stop (G ((base 72).at ⟨tm72 W X c u0, []⟩ (.code (.region 1 reg72 true) :: k)) cs) w := by
  refine Walk.drawnI (Inv := fun f a w' => ∃ u, a = ⟨tm72 W X c u, []⟩ ∧ (∃ d, w' = w.at d) ∧ Facts [7, 8, 9, 10, 11, 12, 13, 14, 15, 16, 17, 4, 5] [.pointer (some ⟨W, 0, none⟩), .pointer (some ⟨W, 0, none⟩), .pointer (some ⟨W, 0, none⟩), .slice (some ⟨sw, 0, none⟩) len cap, .pointer (some ⟨X, 2, none⟩), .int .i64 ca, .pointer (some ⟨sw, ca, none⟩), .pointer (some ⟨W, 0, none⟩), .pointer (some ⟨X, 1, none⟩), .int .i64 cr, .pointer (some ⟨W, 2 + (cr % 4).toNat, none⟩), .pointer (some ⟨sw, ca, none⟩), .pointer (some ⟨W, 2 + (cr % 4).toNat, none⟩)] f u) (by kernel_rfl) (by kernel_rfl) (fun d => ⟨u0, rfl, ⟨d, rfl⟩, Facts.none _ _ _⟩) ?_ ?_
  · rintro f i o a w' ⟨u, rfl, ⟨d, rfl⟩, F⟩ hfi ho hdeps rest hr
    refine Walk.back ?_ d
    have hi : i < 13 := (Array.getElem?_eq_some_iff.1 ho).1
    match i, hi with
    | 0, _ =>
      clear hdeps hfi ho
      simp only [tm72, reg72, Try.f72] at hr ⊢
      (refine Walk.opq (ho_of (by conv => lhs; whnf) (by kernel_rfl)) (by rfl) (by decide) (fun dd e he => ?_) (fun dd K hK => ?_); (· (simp [go_sem, *] at he; try (subst he; exact evR_read _ _))); go_simp; refine hK _ ?_; clear hK K; try walk_nrm)
      refine hr _ _ ⟨upd u 7 (.pointer (some ⟨W, 0, none⟩)), ?_, ⟨w.drawn, rfl⟩, F.set (by decide) rfl rfl⟩
      simp [upd]
    | 1, _ =>
      have hd := deps_of (l := [0]) (by kernel_rfl) ho hdeps
      have e7 := F 0 7 _ (hd 0 (by simp)) rfl rfl
      clear hdeps hfi ho
      simp only [tm72, reg72, Try.f72] at hr ⊢
      (refine Walk.opq (ho_of (by conv => lhs; whnf) (by kernel_rfl)) (by rfl) (by decide) (fun dd e he => ?_) (fun dd K hK => ?_); (· (simp [go_sem, *] at he; try (subst he; exact evR_read _ _))); go_simp; refine hK _ ?_; clear hK K; try walk_nrm)
      refine hr _ _ ⟨upd u 8 (.pointer (some ⟨W, 0, none⟩)), ?_, ⟨w.drawn, rfl⟩, F.set (by decide) rfl rfl⟩
      simp [upd, e7]
    | 2, _ =>
      have hd := deps_of (l := [1]) (by kernel_rfl) ho hdeps
      have e8 := F 1 8 _ (hd 1 (by simp)) rfl rfl
      clear hdeps hfi ho
      simp only [tm72, reg72, Try.f72] at hr ⊢
      (refine Walk.opq (ho_of (by conv => lhs; whnf) (by kernel_rfl)) (by rfl) (by decide) (fun dd e he => ?_) (fun dd K hK => ?_); (· (simp [go_sem, *] at he; try (subst he; exact evR_read _ _))); go_simp; refine hK _ ?_; clear hK K; try walk_nrm)
      refine hr _ _ ⟨upd u 9 (.pointer (some ⟨W, 0, none⟩)), ?_, ⟨w.drawn, rfl⟩, F.set (by decide) rfl rfl⟩
      simp [upd, e8]
    | 3, _ =>
      have hd := deps_of (l := [2]) (by kernel_rfl) ho hdeps
      have e9 := F 2 9 _ (hd 2 (by simp)) rfl rfl
      clear hdeps hfi ho
      simp only [tm72, reg72, Try.f72] at hr ⊢
      (refine Walk.opq (ho_of (by conv => lhs; whnf) (by kernel_rfl)) (by rfl) (by decide) (fun dd e he => ?_) (fun dd K hK => ?_); (· (simp [go_sem, *] at he; try (subst he; exact evR_read _ _))); go_simp; refine hK _ ?_; clear hK K; try walk_nrm)
      refine hr _ _ ⟨upd u 10 (.slice (some ⟨sw, 0, none⟩) len cap), ?_, ⟨w.drawn, rfl⟩, F.set (by decide) rfl rfl⟩
      simp [upd, e9]
    | 4, _ =>
      clear hdeps hfi ho
      simp only [tm72, reg72, Try.f72] at hr ⊢
      (refine Walk.opq (ho_of (by conv => lhs; whnf) (by kernel_rfl)) (by rfl) (by decide) (fun dd e he => ?_) (fun dd K hK => ?_); (· (simp [go_sem, *] at he; try (subst he; exact evR_read _ _))); go_simp; refine hK _ ?_; clear hK K; try walk_nrm)
      refine hr _ _ ⟨upd u 11 (.pointer (some ⟨X, 2, none⟩)), ?_, ⟨w.drawn, rfl⟩, F.set (by decide) rfl rfl⟩
      simp [upd]
    | 5, _ =>
      have hd := deps_of (l := [4]) (by kernel_rfl) ho hdeps
      have e11 := F 4 11 _ (hd 4 (by simp)) rfl rfl
      clear hdeps hfi ho
      simp only [tm72, reg72, Try.f72] at hr ⊢
      (refine Walk.opq (ho_of (by conv => lhs; whnf) (by kernel_rfl)) (by rfl) (by decide) (fun dd e he => ?_) (fun dd K hK => ?_); (· (simp [go_sem, *] at he; try (subst he; exact evR_read _ _))); go_simp; refine hK _ ?_; clear hK K; try walk_nrm)
      refine hr _ _ ⟨upd u 12 (.int .i64 ca), ?_, ⟨w.drawn, rfl⟩, F.set (by decide) rfl rfl⟩
      simp [upd, e11]
    | 6, _ =>
      have hd := deps_of (l := [3, 5]) (by kernel_rfl) ho hdeps
      have e10 := F 3 10 _ (hd 3 (by simp)) rfl rfl
      have e12 := F 5 12 _ (hd 5 (by simp)) rfl rfl
      clear hdeps hfi ho
      simp only [tm72, reg72, Try.f72] at hr ⊢
      (refine Walk.opq (ho_of (by conv => lhs; whnf) (by kernel_rfl)) (by rfl) (by decide) (fun dd e he => ?_) (fun dd K hK => ?_); (· (simp [go_sem, *] at he; try (subst he; exact evR_read _ _))); go_simp; refine hK _ ?_; clear hK K; try walk_nrm)
      refine hr _ _ ⟨upd u 13 (.pointer (some ⟨sw, ca, none⟩)), ?_, ⟨w.drawn, rfl⟩, F.set (by decide) rfl rfl⟩
      simp [upd, e10, e12]
    | 7, _ =>
      clear hdeps hfi ho
      simp only [tm72, reg72, Try.f72] at hr ⊢
      (refine Walk.opq (ho_of (by conv => lhs; whnf) (by kernel_rfl)) (by rfl) (by decide) (fun dd e he => ?_) (fun dd K hK => ?_); (· (simp [go_sem, *] at he; try (subst he; exact evR_read _ _))); go_simp; refine hK _ ?_; clear hK K; try walk_nrm)
      refine hr _ _ ⟨upd u 14 (.pointer (some ⟨W, 0, none⟩)), ?_, ⟨w.drawn, rfl⟩, F.set (by decide) rfl rfl⟩
      simp [upd]
    | 8, _ =>
      clear hdeps hfi ho
      simp only [tm72, reg72, Try.f72] at hr ⊢
      (refine Walk.opq (ho_of (by conv => lhs; whnf) (by kernel_rfl)) (by rfl) (by decide) (fun dd e he => ?_) (fun dd K hK => ?_); (· (simp [go_sem, *] at he; try (subst he; exact evR_read _ _))); go_simp; refine hK _ ?_; clear hK K; try walk_nrm)
      refine hr _ _ ⟨upd u 15 (.pointer (some ⟨X, 1, none⟩)), ?_, ⟨w.drawn, rfl⟩, F.set (by decide) rfl rfl⟩
      simp [upd]
    | 9, _ =>
      have hd := deps_of (l := [8]) (by kernel_rfl) ho hdeps
      have e15 := F 8 15 _ (hd 8 (by simp)) rfl rfl
      clear hdeps hfi ho
      simp only [tm72, reg72, Try.f72] at hr ⊢
      (refine Walk.opq (ho_of (by conv => lhs; whnf) (by kernel_rfl)) (by rfl) (by decide) (fun dd e he => ?_) (fun dd K hK => ?_); (· (simp [go_sem, *] at he; try (subst he; exact evR_read _ _))); go_simp; refine hK _ ?_; clear hK K; try walk_nrm)
      refine hr _ _ ⟨upd u 16 (.int .i64 cr), ?_, ⟨w.drawn, rfl⟩, F.set (by decide) rfl rfl⟩
      simp [upd, e15]
    | 10, _ =>
      have hd := deps_of (l := [7, 9]) (by kernel_rfl) ho hdeps
      have e14 := F 7 14 _ (hd 7 (by simp)) rfl rfl
      have e16 := F 9 16 _ (hd 9 (by simp)) rfl rfl
      clear hdeps hfi ho
      simp only [tm72, reg72, Try.f72] at hr ⊢
      refine Walk.callV (x := .pointer (some ⟨W, 2 + (cr % 4).toNat, none⟩)) (W := w) ?_ rfl (by rfl) (by decide) rfl Try.func104 (by kernel_rfl) (by rfl) ?_
      · walk_nrm
        simp only [e14, e16]
        exact register104 W cr _
      walk_nrm
      refine hr _ _ ⟨upd u 17 (.pointer (some ⟨W, 2 + (cr % 4).toNat, none⟩)), ?_, ⟨w.drawn, rfl⟩, F.set (by decide) rfl rfl⟩
      simp [upd, e14, e16]
    | 11, _ =>
      have hd := deps_of (l := [6]) (by kernel_rfl) ho hdeps
      have e13 := F 6 13 _ (hd 6 (by simp)) rfl rfl
      clear hdeps hfi ho
      simp only [tm72, reg72, Try.f72] at hr ⊢
      (refine Walk.opq (ho_of (by conv => lhs; whnf) (by kernel_rfl)) (by rfl) (by decide) (fun dd e he => ?_) (fun dd K hK => ?_); (· (simp [go_sem, *] at he; try (subst he; exact evR_read _ _))); go_simp; refine hK _ ?_; clear hK K; try walk_nrm)
      refine hr _ _ ⟨upd u 4 (.pointer (some ⟨sw, ca, none⟩)), ?_, ⟨w.drawn, rfl⟩, F.set (by decide) rfl rfl⟩
      simp [upd, e13]
    | 12, _ =>
      have hd := deps_of (l := [10]) (by kernel_rfl) ho hdeps
      have e17 := F 10 17 _ (hd 10 (by simp)) rfl rfl
      clear hdeps hfi ho
      simp only [tm72, reg72, Try.f72] at hr ⊢
      (refine Walk.opq (ho_of (by conv => lhs; whnf) (by kernel_rfl)) (by rfl) (by decide) (fun dd e he => ?_) (fun dd K hK => ?_); (· (simp [go_sem, *] at he; try (subst he; exact evR_read _ _))); go_simp; refine hK _ ?_; clear hK K; try walk_nrm)
      refine hr _ _ ⟨upd u 5 (.pointer (some ⟨W, 2 + (cr % 4).toNat, none⟩)), ?_, ⟨w.drawn, rfl⟩, F.set (by decide) rfl rfl⟩
      simp [upd, e17]
  · rintro f a w' ⟨u, rfl, ⟨d, rfl⟩, F⟩ hall
    have hsz : reg72.size = 13 := by kernel_rfl
    exact (hk u (F 11 4 _ (hall 11 (by rw [hsz]; omega)) rfl rfl) (F 12 5 _ (hall 12 (by rw [hsz]; omega)) rfl rfl)).back d

set_option maxHeartbeats 8000000 in
set_option maxRecDepth 100000 in
theorem head72 {Stop : Goroutine → World → Prop} (W : Nat) (cd cr cb cv : Int) (sw len cap ca : Nat) (cs : List Frame) (w : World) (h0 : w.cell? ⟨W, 0, none⟩ = some (.slice (some ⟨sw, 0, none⟩) len cap)) (hlt : ca < len)
    (hk : ∀ u : Nat → Value, u 4 = .pointer (some ⟨sw, ca, none⟩) → u 5 = .pointer (some ⟨W, 2 + (cr % 4).toNat, none⟩) →
      Walk Try.prog main (DR V) Stop (G ((base 72).at ⟨tm72 W w.heap.size (codeV cd cr ca cb cv) u, []⟩ [.inRegion reg72 [], .code rest72]) cs) (boxW w cd cr ca cb cv)) :
    Walk Try.prog main (DR V) Stop (G ((base 72).at { tmps := #[.pointer (some ⟨W, 0, none⟩), codeV cd cr ca cb cv] ++ Array.replicate 65 undef, defers := [] } [.code (Try.f72.body.getD .skip)]) cs) w := by
  simp only [codeV, Try.f72, Option.getD_some, Array.replicate_succ, Array.replicate_zero, List.push_toArray, List.append_toArray, List.nil_append, List.cons_append]
  repeat (first | (refine Walk.c rfl ?_) | (refine Walk.cReg ?_; simp only [List.size_toArray, List.length_cons, List.length_nil, Nat.reduceAdd, Nat.zero_add, List.range, List.range.loop]) | (refine Walk.cRet ?_) | (refine Walk.cEnd ?_) | (refine Walk.opq (ho_of (by conv => lhs; whnf) (by kernel_rfl)) (by rfl) (by decide) (fun dd e he => ?_) (fun dd K hK => ?_); (· (simp [go_sem, *] at he; try (subst he; exact evR_read _ _))); go_simp; refine hK _ ?_; clear hK K; try walk_nrm) | (refine Walk.ctl rfl (fun w => stepG_unwanted (ho_of (by conv => lhs; whnf) (by kernel_rfl)) (by rfl)) ?_; walk_nrm))
  (co_applyP Walk.opw (ho_of (by conv => lhs; whnf) (by kernel_rfl)) (by rfl) (by decide) ?wev1 ?wdr1 ?wrun1; (case' wrun1 => (intro dd K hK; go_simp; simp only [alloc_at', setCell_at']; refine hK _ ?wmore1; clear hK K)); (case wdr1 => exact fun dd es hes => DR.alloc' dd es hes); (case wev1 => (intro dd e he; simp [go_sem, *] at he)); try walk_nrm)
  repeat (first | (refine Walk.c rfl ?_) | (refine Walk.cReg ?_; simp only [List.size_toArray, List.length_cons, List.length_nil, Nat.reduceAdd, Nat.zero_add, List.range, List.range.loop]) | (refine Walk.cRet ?_) | (refine Walk.cEnd ?_) | (refine Walk.opq (ho_of (by conv => lhs; whnf) (by kernel_rfl)) (by rfl) (by decide) (fun dd e he => ?_) (fun dd K hK => ?_); (· (simp [go_sem, *] at he; try (subst he; exact evR_read _ _))); go_simp; refine hK _ ?_; clear hK K; try walk_nrm) | (refine Walk.ctl rfl (fun w => stepG_unwanted (ho_of (by conv => lhs; whnf) (by kernel_rfl)) (by rfl)) ?_; walk_nrm))
  obtain ⟨b0, b1, b2, b3, b4⟩ := box_cells w cd cr ca cb cv
  have c0 := (box_reg cd cr ca cb cv h0).1
  unfold boxW at hk b1 b2 c0
  refine reg72_walk W w.heap.size (.agg #[.int .i64 cd, .int .i64 cr, .int .i64 ca, .int .i64 cb, .int .i64 cv]) cr sw len cap ca _ cs (fun _ => undef) _ c0 hlt b1 b2 ?_
  intro u h4 h5
  exact hk u h4 h5
end Go.Proofs.Ytgiiicdpbdfemaa
end

/- Package turn's programs, in company: the atomic operations and the registers. -/
section
namespace Go.Proofs.Ytgiiicdpbdfemaa
open Go.Conc Go.RowKit Go.Relay

variable {main : Bool} {V : Nat → Option Wait}

/-- A step that turns the world. -/
theorem Walk.turn {P : Program} {Stop : Goroutine → World → Prop} {g g' : Goroutine} {w W : World} {es : Array Event} (hr : g.status = .running) (hs : ∀ d, stepG P main g (w.at d) = .go g' (W.at d) es) (hd : ∀ d, DR V (w.at d) (W.at d) es) (h : Walk P main (DR V) Stop g' W) : Walk P main (DR V) Stop g w :=
  Walk.step hr (fun _ => g') (fun d => W.at d) (fun _ => es) hs hd (fun d => h.back d)

theorem evR_rw {ad : Addr} (hf : Free V ad) : ∀ e ∈ (#[⟨.cell ad, false, true⟩, ⟨.cell ad, true, true⟩] : Array Event), EvR V e := by
  intro e he
  simp only [List.mem_toArray, List.mem_cons, List.not_mem_nil, or_false] at he
  rcases he with rfl | rfl
  · exact evR_read _ _
  · exact evR_write _ _ hf

set_option maxHeartbeats 8000000 in
set_option maxRecDepth 100000 in
theorem load63 (ad : Addr) (v : Int) (w : World) (hc : w.cell? ad = some (.int .i64 v)) : CallV Try.prog main V 63 #[.pointer (some ad)] w (.int .i64 v) w := by
  refine callW_in Try.func63 rfl fun fr cs => ?_
  simp only [Try.ntmps63, List.size_toArray, List.length_cons, List.length_nil, Nat.reduceAdd, Nat.reduceSub, Array.replicate_succ, Array.replicate_zero, List.push_toArray, List.append_toArray, List.nil_append, List.cons_append]
  repeat (first | (refine Walk.c rfl ?_) | (refine Walk.cReg ?_; simp only [List.size_toArray, List.length_cons, List.length_nil, Nat.reduceAdd, Nat.zero_add, List.range, List.range.loop]) | (refine Walk.cRet ?_) | (refine Walk.cEnd ?_) | (refine Walk.opq (ho_of (by conv => lhs; whnf) (by kernel_rfl)) (by rfl) (by decide) (fun dd e he => ?_) (fun dd K hK => ?_); (· (simp [go_sem, *] at he; try (subst he; exact evR_read _ _))); go_simp; refine hK _ ?_; clear hK K; try walk_nrm) | (refine Walk.ctl rfl (fun w => stepG_unwanted (ho_of (by conv => lhs; whnf) (by kernel_rfl)) (by rfl)) ?_; walk_nrm))
  refine Walk.evs (fun _ => #[⟨.cell ad, false, true⟩]) rfl (fun d => stepG_load_atomic (w := w.at d) rfl (by rfl) (by decide) rfl Try.func98 (by kernel_rfl) (by rfl) (by kernel_rfl) .i64 (by kernel_rfl) rfl hc) (fun d e he => by simp at he; subst he; exact evR_read _ _) ?_
  walk_nrm
  repeat (first | (refine Walk.c rfl ?_) | (refine Walk.cReg ?_; simp only [List.size_toArray, List.length_cons, List.length_nil, Nat.reduceAdd, Nat.zero_add, List.range, List.range.loop]) | (refine Walk.cRet ?_) | (refine Walk.cEnd ?_) | (refine Walk.opq (ho_of (by conv => lhs; whnf) (by kernel_rfl)) (by rfl) (by decide) (fun dd e he => ?_) (fun dd K hK => ?_); (· (simp [go_sem, *] at he; try (subst he; exact evR_read _ _))); go_simp; refine hK _ ?_; clear hK K; try walk_nrm) | (refine Walk.ctl rfl (fun w => stepG_unwanted (ho_of (by conv => lhs; whnf) (by kernel_rfl)) (by rfl)) ?_; walk_nrm))
  exact Walk.ret1 rfl rfl Try.func63 rfl fun d => ⟨rfl, d, rfl⟩

set_option maxHeartbeats 8000000 in
set_option maxRecDepth 100000 in
theorem store69 (ad : Addr) (u : Value) (v : Int) (w : World) (hc : w.cell? ad = some u) (hz : w.frozen? ad = false) (hf : Free V ad) : CallV Try.prog main V 69 #[.pointer (some ad), .int .i64 v] w (.tuple #[]) (w.setCell ad (.int .i64 v)) := by
  refine callW_in Try.func69 rfl fun fr cs => ?_
  simp only [Try.ntmps69, List.size_toArray, List.length_cons, List.length_nil, Nat.reduceAdd, Nat.reduceSub, Array.replicate_succ, Array.replicate_zero, List.push_toArray, List.append_toArray, List.nil_append, List.cons_append]
  repeat (first | (refine Walk.c rfl ?_) | (refine Walk.cReg ?_; simp only [List.size_toArray, List.length_cons, List.length_nil, Nat.reduceAdd, Nat.zero_add, List.range, List.range.loop]) | (refine Walk.cRet ?_) | (refine Walk.cEnd ?_) | (refine Walk.opq (ho_of (by conv => lhs; whnf) (by kernel_rfl)) (by rfl) (by decide) (fun dd e he => ?_) (fun dd K hK => ?_); (· (simp [go_sem, *] at he; try (subst he; exact evR_read _ _))); go_simp; refine hK _ ?_; clear hK K; try walk_nrm) | (refine Walk.ctl rfl (fun w => stepG_unwanted (ho_of (by conv => lhs; whnf) (by kernel_rfl)) (by rfl)) ?_; walk_nrm))
  refine Walk.turn (W := w.setCell ad (.int .i64 v)) rfl (fun d => stepG_store_atomic (w := w.at d) rfl (by rfl) (by decide) rfl Try.func103 (by kernel_rfl) (by rfl) (by kernel_rfl) (by kernel_rfl) rfl rfl hc hz) (fun d => DR.set' hf hc d _ (fun e he => by simp at he; subst he; exact evR_write _ _ hf)) ?_
  walk_nrm
  repeat (first | (refine Walk.c rfl ?_) | (refine Walk.cReg ?_; simp only [List.size_toArray, List.length_cons, List.length_nil, Nat.reduceAdd, Nat.zero_add, List.range, List.range.loop]) | (refine Walk.cRet ?_) | (refine Walk.cEnd ?_) | (refine Walk.opq (ho_of (by conv => lhs; whnf) (by kernel_rfl)) (by rfl) (by decide) (fun dd e he => ?_) (fun dd K hK => ?_); (· (simp [go_sem, *] at he; try (subst he; exact evR_read _ _))); go_simp; refine hK _ ?_; clear hK K; try walk_nrm) | (refine Walk.ctl rfl (fun w => stepG_unwanted (ho_of (by conv => lhs; whnf) (by kernel_rfl)) (by rfl)) ?_; walk_nrm))
  exact Walk.ret0 rfl rfl Try.func69 rfl fun d => ⟨rfl, d, rfl⟩

set_option maxHeartbeats 8000000 in
set_option maxRecDepth 100000 in
theorem add105 (ad : Addr) (v x : Int) (w : World) (hc : w.cell? ad = some (.int .i64 v)) (hz : w.frozen? ad = false) (hf : Free V ad) : CallV Try.prog main V 105 #[.pointer (some ad), .int .i64 x] w (.int .i64 (IntKind.i64.wrap (v + x))) (w.setCell ad (.int .i64 (IntKind.i64.wrap (v + x)))) := by
  refine callW_in Try.func105 rfl fun fr cs => ?_
  simp only [Try.ntmps105, List.size_toArray, List.length_cons, List.length_nil, Nat.reduceAdd, Nat.reduceSub, Array.replicate_succ, Array.replicate_zero, List.push_toArray, List.append_toArray, List.nil_append, List.cons_append]
  repeat (first | (refine Walk.c rfl ?_) | (refine Walk.cReg ?_; simp only [List.size_toArray, List.length_cons, List.length_nil, Nat.reduceAdd, Nat.zero_add, List.range, List.range.loop]) | (refine Walk.cRet ?_) | (refine Walk.cEnd ?_) | (refine Walk.opq (ho_of (by conv => lhs; whnf) (by kernel_rfl)) (by rfl) (by decide) (fun dd e he => ?_) (fun dd K hK => ?_); (· (simp [go_sem, *] at he; try (subst he; exact evR_read _ _))); go_simp; refine hK _ ?_; clear hK K; try walk_nrm) | (refine Walk.ctl rfl (fun w => stepG_unwanted (ho_of (by conv => lhs; whnf) (by kernel_rfl)) (by rfl)) ?_; walk_nrm))
  refine Walk.turn (W := w.setCell ad (.int .i64 (IntKind.i64.wrap (v + x)))) rfl (fun d => stepG_add_atomic (w := w.at d) rfl (by rfl) (by decide) rfl Try.func119 (by kernel_rfl) (by rfl) (by kernel_rfl) .i64 (by kernel_rfl) rfl rfl hc hz) (fun d => DR.set' hf hc d _ (evR_rw hf)) ?_
  walk_nrm
  repeat (first | (refine Walk.c rfl ?_) | (refine Walk.cReg ?_; simp only [List.size_toArray, List.length_cons, List.length_nil, Nat.reduceAdd, Nat.zero_add, List.range, List.range.loop]) | (refine Walk.cRet ?_) | (refine Walk.cEnd ?_) | (refine Walk.opq (ho_of (by conv => lhs; whnf) (by kernel_rfl)) (by rfl) (by decide) (fun dd e he => ?_) (fun dd K hK => ?_); (· (simp [go_sem, *] at he; try (subst he; exact evR_read _ _))); go_simp; refine hK _ ?_; clear hK K; try walk_nrm) | (refine Walk.ctl rfl (fun w => stepG_unwanted (ho_of (by conv => lhs; whnf) (by kernel_rfl)) (by rfl)) ?_; walk_nrm))
  exact Walk.ret1 rfl rfl Try.func105 rfl fun d => ⟨rfl, d, rfl⟩

set_option maxHeartbeats 8000000 in
set_option maxRecDepth 100000 in
theorem cas64_hit (ad : Addr) (v x : Int) (w : World) (hc : w.cell? ad = some (.int .i64 v)) (hz : w.frozen? ad = false) (hf : Free V ad) : CallV Try.prog main V 64 #[.pointer (some ad), .int .i64 v, .int .i64 x] w (.bool true) (w.setCell ad (.int .i64 x)) := by
  refine callW_in Try.func64 rfl fun fr cs => ?_
  simp only [Try.ntmps64, List.size_toArray, List.length_cons, List.length_nil, Nat.reduceAdd, Nat.reduceSub, Array.replicate_succ, Array.replicate_zero, List.push_toArray, List.append_toArray, List.nil_append, List.cons_append]
  repeat (first | (refine Walk.c rfl ?_) | (refine Walk.cReg ?_; simp only [List.size_toArray, List.length_cons, List.length_nil, Nat.reduceAdd, Nat.zero_add, List.range, List.range.loop]) | (refine Walk.cRet ?_) | (refine Walk.cEnd ?_) | (refine Walk.opq (ho_of (by conv => lhs; whnf) (by kernel_rfl)) (by rfl) (by decide) (fun dd e he => ?_) (fun dd K hK => ?_); (· (simp [go_sem, *] at he; try (subst he; exact evR_read _ _))); go_simp; refine hK _ ?_; clear hK K; try walk_nrm) | (refine Walk.ctl rfl (fun w => stepG_unwanted (ho_of (by conv => lhs; whnf) (by kernel_rfl)) (by rfl)) ?_; walk_nrm))
  refine Walk.turn (W := w.setCell ad (.int .i64 x)) rfl (fun d => stepG_cas_hit (w := w.at d) rfl (by rfl) (by decide) rfl Try.func99 (by kernel_rfl) (by rfl) (by kernel_rfl) .i64 (by kernel_rfl) rfl rfl rfl hc hz) (fun d => DR.set' hf hc d _ (evR_rw hf)) ?_
  walk_nrm
  repeat (first | (refine Walk.c rfl ?_) | (refine Walk.cReg ?_; simp only [List.size_toArray, List.length_cons, List.length_nil, Nat.reduceAdd, Nat.zero_add, List.range, List.range.loop]) | (refine Walk.cRet ?_) | (refine Walk.cEnd ?_) | (refine Walk.opq (ho_of (by conv => lhs; whnf) (by kernel_rfl)) (by rfl) (by decide) (fun dd e he => ?_) (fun dd K hK => ?_); (· (simp [go_sem, *] at he; try (subst he; exact evR_read _ _))); go_simp; refine hK _ ?_; clear hK K; try walk_nrm) | (refine Walk.ctl rfl (fun w => stepG_unwanted (ho_of (by conv => lhs; whnf) (by kernel_rfl)) (by rfl)) ?_; walk_nrm))
  exact Walk.ret1 rfl rfl Try.func64 rfl fun d => ⟨rfl, d, rfl⟩

set_option maxHeartbeats 8000000 in
set_option maxRecDepth 100000 in
theorem cas64_miss (ad : Addr) (v old x : Int) (w : World) (hc : w.cell? ad = some (.int .i64 v)) (hz : w.frozen? ad = false) (hne : ¬ v = old) : CallV Try.prog main V 64 #[.pointer (some ad), .int .i64 old, .int .i64 x] w (.bool false) w := by
  refine callW_in Try.func64 rfl fun fr cs => ?_
  simp only [Try.ntmps64, List.size_toArray, List.length_cons, List.length_nil, Nat.reduceAdd, Nat.reduceSub, Array.replicate_succ, Array.replicate_zero, List.push_toArray, List.append_toArray, List.nil_append, List.cons_append]
  repeat (first | (refine Walk.c rfl ?_) | (refine Walk.cReg ?_; simp only [List.size_toArray, List.length_cons, List.length_nil, Nat.reduceAdd, Nat.zero_add, List.range, List.range.loop]) | (refine Walk.cRet ?_) | (refine Walk.cEnd ?_) | (refine Walk.opq (ho_of (by conv => lhs; whnf) (by kernel_rfl)) (by rfl) (by decide) (fun dd e he => ?_) (fun dd K hK => ?_); (· (simp [go_sem, *] at he; try (subst he; exact evR_read _ _))); go_simp; refine hK _ ?_; clear hK K; try walk_nrm) | (refine Walk.ctl rfl (fun w => stepG_unwanted (ho_of (by conv => lhs; whnf) (by kernel_rfl)) (by rfl)) ?_; walk_nrm))
  refine Walk.evs (fun _ => #[⟨.cell ad, false, true⟩]) rfl (fun d => stepG_cas_miss (w := w.at d) rfl (by rfl) (by decide) rfl Try.func99 (by kernel_rfl) (by rfl) (by kernel_rfl) .i64 (by kernel_rfl) rfl rfl rfl hc hz hne) (fun d e he => by simp at he; subst he; exact evR_read _ _) ?_
  walk_nrm
  repeat (first | (refine Walk.c rfl ?_) | (refine Walk.cReg ?_; simp only [List.size_toArray, List.length_cons, List.length_nil, Nat.reduceAdd, Nat.zero_add, List.range, List.range.loop]) | (refine Walk.cRet ?_) | (refine Walk.cEnd ?_) | (refine Walk.opq (ho_of (by conv => lhs; whnf) (by kernel_rfl)) (by rfl) (by decide) (fun dd e he => ?_) (fun dd K hK => ?_); (· (simp [go_sem, *] at he; try (subst he; exact evR_read _ _))); go_simp; refine hK _ ?_; clear hK K; try walk_nrm) | (refine Walk.ctl rfl (fun w => stepG_unwanted (ho_of (by conv => lhs; whnf) (by kernel_rfl)) (by rfl)) ?_; walk_nrm))
  exact Walk.ret1 rfl rfl Try.func64 rfl fun d => ⟨rfl, d, rfl⟩

end Go.Proofs.Ytgiiicdpbdfemaa
end

/- Package turn's programs, in company: reach: DoLoad. -/
section
namespace Go.Proofs.Ytgiiicdpbdfemaa
open Go.Conc Go.RowKit Go.Relay
open Go.ConcN (upd upd_ne upd_same)

variable {main : Bool} {V : Nat → Option Wait}

set_option maxHeartbeats 8000000 in
set_option maxRecDepth 100000 in
theorem reach_load (W : Nat) (cr cb cv : Int) (sw len cap ca : Nat) (x : Value) (v : Int) (w : World) (h0 : w.cell? ⟨W, 0, none⟩ = some (.slice (some ⟨sw, 0, none⟩) len cap)) (hlt : ca < len) (hc : w.cell? ⟨W, 2 + (cr % 4).toNat, none⟩ = some x) (hz : w.frozen? ⟨W, 2 + (cr % 4).toNat, none⟩ = false) (hf : Free V ⟨W, 2 + (cr % 4).toNat, none⟩) (hv : w.cell? ⟨sw, ca, none⟩ = some (.int .i64 v)) :
    CallV Try.prog main V 72 #[.pointer (some ⟨W, 0, none⟩), codeV 7 cr ca cb cv] w (.tuple #[]) ((boxW w 7 cr ca cb cv).setCell ⟨W, 2 + (cr % 4).toNat, none⟩ (.int .i64 v)) := by
  refine callW_in Try.func72 rfl fun fr cs => ?_
  refine head72 W 7 cr cb cv sw len cap ca (fr :: cs) w h0 hlt fun u e4 e5 => ?_
  obtain ⟨b0, b1, b2, b3, b4⟩ := box_cells w 7 cr ca cb cv
  obtain ⟨c1, c2⟩ := box_reg 7 cr ca cb cv hc
  rw [hz] at c2
  have cvv := (box_reg 7 cr ca cb cv hv).1
  generalize boxW w 7 cr ca cb cv = w1 at *
  simp only [tm72, rest72, Try.f72]
  rw [e4, e5]
  clear e4 e5
  repeat (first | (refine Walk.c rfl ?_) | (refine Walk.cReg ?_; simp only [List.size_toArray, List.length_cons, List.length_nil, Nat.reduceAdd, Nat.zero_add, List.range, List.range.loop]) | (refine Walk.cRet ?_) | (refine Walk.cEnd ?_) | (refine Walk.opq (ho_of (by conv => lhs; whnf) (by kernel_rfl)) (by rfl) (by decide) (fun dd e he => ?_) (fun dd K hK => ?_); (· (simp [go_sem, *] at he; try (subst he; exact evR_read _ _))); go_simp; refine hK _ ?_; clear hK K; try walk_nrm) | (refine Walk.ctl rfl (fun w => stepG_unwanted (ho_of (by conv => lhs; whnf) (by kernel_rfl)) (by rfl)) ?_; walk_nrm))
  refine Walk.callV (x := .int .i64 v) (W := w1) ?_ rfl (by rfl) (by decide) rfl Try.func63 (by kernel_rfl) (by rfl) ?_
  · walk_nrm
    exact load63 _ v w1 cvv
  walk_nrm
  repeat (first | (refine Walk.c rfl ?_) | (refine Walk.cReg ?_; simp only [List.size_toArray, List.length_cons, List.length_nil, Nat.reduceAdd, Nat.zero_add, List.range, List.range.loop]) | (refine Walk.cRet ?_) | (refine Walk.cEnd ?_) | (refine Walk.opq (ho_of (by conv => lhs; whnf) (by kernel_rfl)) (by rfl) (by decide) (fun dd e he => ?_) (fun dd K hK => ?_); (· (simp [go_sem, *] at he; try (subst he; exact evR_read _ _))); go_simp; refine hK _ ?_; clear hK K; try walk_nrm) | (refine Walk.ctl rfl (fun w => stepG_unwanted (ho_of (by conv => lhs; whnf) (by kernel_rfl)) (by rfl)) ?_; walk_nrm))
  (co_applyP Walk.opw (ho_of (by conv => lhs; whnf) (by kernel_rfl)) (by rfl) (by decide) ?wev1 ?wdr1 ?wrun1; (case' wrun1 => (intro dd K hK; go_simp; simp only [alloc_at', setCell_at']; refine hK _ ?wmore1; clear hK K)); (case wdr1 => exact fun dd es hes => DR.set' hf c1 dd es hes); (case wev1 => (intro dd e he; simp [go_sem, storedEv, ev_store_bool, ev_store_int, ev_store_slice, ev_store_pointer, *] at he; subst he; exact evR_write _ _ hf)); try walk_nrm)
  repeat (first | (refine Walk.c rfl ?_) | (refine Walk.cReg ?_; simp only [List.size_toArray, List.length_cons, List.length_nil, Nat.reduceAdd, Nat.zero_add, List.range, List.range.loop]) | (refine Walk.cRet ?_) | (refine Walk.cEnd ?_) | (refine Walk.opq (ho_of (by conv => lhs; whnf) (by kernel_rfl)) (by rfl) (by decide) (fun dd e he => ?_) (fun dd K hK => ?_); (· (simp [go_sem, *] at he; try (subst he; exact evR_read _ _))); go_simp; refine hK _ ?_; clear hK K; try walk_nrm) | (refine Walk.ctl rfl (fun w => stepG_unwanted (ho_of (by conv => lhs; whnf) (by kernel_rfl)) (by rfl)) ?_; walk_nrm))
  exact Walk.ret0 rfl rfl Try.func72 rfl fun d => ⟨rfl, d, rfl⟩
end Go.Proofs.Ytgiiicdpbdfemaa
end

/- Package turn's programs, in company: reach: DoStore. -/
section
namespace Go.Proofs.Ytgiiicdpbdfemaa
open Go.Conc Go.RowKit Go.Relay
open Go.ConcN (upd upd_ne upd_same)

variable {main : Bool} {V : Nat → Option Wait}

set_option maxHeartbeats 8000000 in
set_option maxRecDepth 100000 in
theorem reach_store (W : Nat) (cr cb cv : Int) (sw len cap ca : Nat) (y : Int) (v : Value) (w : World) (h0 : w.cell? ⟨W, 0, none⟩ = some (.slice (some ⟨sw, 0, none⟩) len cap)) (hlt : ca < len) (hc : w.cell? ⟨W, 2 + (cr % 4).toNat, none⟩ = some (.int .i64 y)) (hv : w.cell? ⟨sw, ca, none⟩ = some v) (hz : w.frozen? ⟨sw, ca, none⟩ = false) (hf : Free V ⟨sw, ca, none⟩) :
    CallV Try.prog main V 72 #[.pointer (some ⟨W, 0, none⟩), codeV 8 cr ca cb cv] w (.tuple #[]) ((boxW w 8 cr ca cb cv).setCell ⟨sw, ca, none⟩ (.int .i64 y)) := by
  refine callW_in Try.func72 rfl fun fr cs => ?_
  refine head72 W 8 cr cb cv sw len cap ca (fr :: cs) w h0 hlt fun u e4 e5 => ?_
  obtain ⟨b0, b1, b2, b3, b4⟩ := box_cells w 8 cr ca cb cv
  have c1 := (box_reg 8 cr ca cb cv hc).1
  obtain ⟨cvv, cvz⟩ := box_reg 8 cr ca cb cv hv
  rw [hz] at cvz
  generalize boxW w 8 cr ca cb cv = w1 at *
  simp only [tm72, rest72, Try.f72]
  rw [e4, e5]
  clear e4 e5
  repeat (first | (refine Walk.c rfl ?_) | (refine Walk.cReg ?_; simp only [List.size_toArray, List.length_cons, List.length_nil, Nat.reduceAdd, Nat.zero_add, List.range, List.range.loop]) | (refine Walk.cRet ?_) | (refine Walk.cEnd ?_) | (refine Walk.opq (ho_of (by conv => lhs; whnf) (by kernel_rfl)) (by rfl) (by decide) (fun dd e he => ?_) (fun dd K hK => ?_); (· (simp [go_sem, *] at he; try (subst he; exact evR_read _ _))); go_simp; refine hK _ ?_; clear hK K; try walk_nrm) | (refine Walk.ctl rfl (fun w => stepG_unwanted (ho_of (by conv => lhs; whnf) (by kernel_rfl)) (by rfl)) ?_; walk_nrm))
  refine Walk.callV (x := .tuple #[]) (W := w1.setCell ⟨sw, ca, none⟩ (.int .i64 y)) ?_ rfl (by rfl) (by decide) rfl Try.func69 (by kernel_rfl) (by rfl) ?_
  · walk_nrm
    exact store69 _ v y w1 cvv cvz hf
  walk_nrm
  repeat (first | (refine Walk.c rfl ?_) | (refine Walk.cReg ?_; simp only [List.size_toArray, List.length_cons, List.length_nil, Nat.reduceAdd, Nat.zero_add, List.range, List.range.loop]) | (refine Walk.cRet ?_) | (refine Walk.cEnd ?_) | (refine Walk.opq (ho_of (by conv => lhs; whnf) (by kernel_rfl)) (by rfl) (by decide) (fun dd e he => ?_) (fun dd K hK => ?_); (· (simp [go_sem, *] at he; try (subst he; exact evR_read _ _))); go_simp; refine hK _ ?_; clear hK K; try walk_nrm) | (refine Walk.ctl rfl (fun w => stepG_unwanted (ho_of (by conv => lhs; whnf) (by kernel_rfl)) (by rfl)) ?_; walk_nrm))
  exact Walk.ret0 rfl rfl Try.func72 rfl fun d => ⟨rfl, d, rfl⟩
end Go.Proofs.Ytgiiicdpbdfemaa
end

/- Package turn's programs, in company: reach: DoAdd. -/
section
namespace Go.Proofs.Ytgiiicdpbdfemaa
open Go.Conc Go.RowKit Go.Relay
open Go.ConcN (upd upd_ne upd_same)

variable {main : Bool} {V : Nat → Option Wait}

set_option maxHeartbeats 8000000 in
set_option maxRecDepth 100000 in
theorem reach_add (W : Nat) (cr cb cv : Int) (sw len cap ca : Nat) (x : Value) (v : Int) (w : World) (h0 : w.cell? ⟨W, 0, none⟩ = some (.slice (some ⟨sw, 0, none⟩) len cap)) (hlt : ca < len) (hc : w.cell? ⟨W, 2 + (cr % 4).toNat, none⟩ = some x) (hz : w.frozen? ⟨W, 2 + (cr % 4).toNat, none⟩ = false) (hf : Free V ⟨W, 2 + (cr % 4).toNat, none⟩) (hv : w.cell? ⟨sw, ca, none⟩ = some (.int .i64 v)) (hvz : w.frozen? ⟨sw, ca, none⟩ = false) (hvf : Free V ⟨sw, ca, none⟩) (hne : sw ≠ W) :
    CallV Try.prog main V 72 #[.pointer (some ⟨W, 0, none⟩), codeV 9 cr ca cb cv] w (.tuple #[]) (((boxW w 9 cr ca cb cv).setCell ⟨sw, ca, none⟩ (.int .i64 (IntKind.i64.wrap (v + cv)))).setCell ⟨W, 2 + (cr % 4).toNat, none⟩ (.int .i64 (IntKind.i64.wrap (v + cv)))) := by
  refine callW_in Try.func72 rfl fun fr cs => ?_
  refine head72 W 9 cr cb cv sw len cap ca (fr :: cs) w h0 hlt fun u e4 e5 => ?_
  obtain ⟨b0, b1, b2, b3, b4⟩ := box_cells w 9 cr ca cb cv
  obtain ⟨c1, c2⟩ := box_reg 9 cr ca cb cv hc
  rw [hz] at c2
  obtain ⟨cvv, cvz⟩ := box_reg 9 cr ca cb cv hv
  rw [hvz] at cvz
  generalize boxW w 9 cr ca cb cv = w1 at *
  simp only [tm72, rest72, Try.f72]
  rw [e4, e5]
  clear e4 e5
  repeat (first | (refine Walk.c rfl ?_) | (refine Walk.cReg ?_; simp only [List.size_toArray, List.length_cons, List.length_nil, Nat.reduceAdd, Nat.zero_add, List.range, List.range.loop]) | (refine Walk.cRet ?_) | (refine Walk.cEnd ?_) | (refine Walk.opq (ho_of (by conv => lhs; whnf) (by kernel_rfl)) (by rfl) (by decide) (fun dd e he => ?_) (fun dd K hK => ?_); (· (simp [go_sem, *] at he; try (subst he; exact evR_read _ _))); go_simp; refine hK _ ?_; clear hK K; try walk_nrm) | (refine Walk.ctl rfl (fun w => stepG_unwanted (ho_of (by conv => lhs; whnf) (by kernel_rfl)) (by rfl)) ?_; walk_nrm))
  refine Walk.callV (x := .int .i64 (IntKind.i64.wrap (v + cv))) (W := w1.setCell ⟨sw, ca, none⟩ (.int .i64 (IntKind.i64.wrap (v + cv)))) ?_ rfl (by rfl) (by decide) rfl Try.func105 (by kernel_rfl) (by rfl) ?_
  · walk_nrm
    exact add105 _ v cv w1 cvv cvz hvf
  have c1' := (World.cell?_setCell_other w1 ⟨sw, ca, none⟩ ⟨W, 2 + (cr % 4).toNat, none⟩ (.int .i64 (IntKind.i64.wrap (v + cv))) (by simp [hne])).trans c1
  have c2' : (w1.setCell ⟨sw, ca, none⟩ (.int .i64 (IntKind.i64.wrap (v + cv)))).frozen? ⟨W, 2 + (cr % 4).toNat, none⟩ = false := by rw [World.frozen?_setCell]; exact c2
  generalize w1.setCell ⟨sw, ca, none⟩ (.int .i64 (IntKind.i64.wrap (v + cv))) = w2 at *
  walk_nrm
  repeat (first | (refine Walk.c rfl ?_) | (refine Walk.cReg ?_; simp only [List.size_toArray, List.length_cons, List.length_nil, Nat.reduceAdd, Nat.zero_add, List.range, List.range.loop]) | (refine Walk.cRet ?_) | (refine Walk.cEnd ?_) | (refine Walk.opq (ho_of (by conv => lhs; whnf) (by kernel_rfl)) (by rfl) (by decide) (fun dd e he => ?_) (fun dd K hK => ?_); (· (simp [go_sem, *] at he; try (subst he; exact evR_read _ _))); go_simp; refine hK _ ?_; clear hK K; try walk_nrm) | (refine Walk.ctl rfl (fun w => stepG_unwanted (ho_of (by conv => lhs; whnf) (by kernel_rfl)) (by rfl)) ?_; walk_nrm))
  (co_applyP Walk.opw (ho_of (by conv => lhs; whnf) (by kernel_rfl)) (by rfl) (by decide) ?wev1 ?wdr1 ?wrun1; (case' wrun1 => (intro dd K hK; go_simp; simp only [alloc_at', setCell_at']; refine hK _ ?wmore1; clear hK K)); (case wdr1 => exact fun dd es hes => DR.set' hf c1' dd es hes); (case wev1 => (intro dd e he; simp [go_sem, storedEv, ev_store_bool, ev_store_int, ev_store_slice, ev_store_pointer, *] at he; subst he; exact evR_write _ _ hf)); try walk_nrm)
  repeat (first | (refine Walk.c rfl ?_) | (refine Walk.cReg ?_; simp only [List.size_toArray, List.length_cons, List.length_nil, Nat.reduceAdd, Nat.zero_add, List.range, List.range.loop]) | (refine Walk.cRet ?_) | (refine Walk.cEnd ?_) | (refine Walk.opq (ho_of (by conv => lhs; whnf) (by kernel_rfl)) (by rfl) (by decide) (fun dd e he => ?_) (fun dd K hK => ?_); (· (simp [go_sem, *] at he; try (subst he; exact evR_read _ _))); go_simp; refine hK _ ?_; clear hK K; try walk_nrm) | (refine Walk.ctl rfl (fun w => stepG_unwanted (ho_of (by conv => lhs; whnf) (by kernel_rfl)) (by rfl)) ?_; walk_nrm))
  exact Walk.ret0 rfl rfl Try.func72 rfl fun d => ⟨rfl, d, rfl⟩
end Go.Proofs.Ytgiiicdpbdfemaa
end

/- Package turn's programs, in company: an atomic swap; reach: DoSwap. -/
section
namespace Go.Proofs.Ytgiiicdpbdfemaa
open Go.Conc Go.RowKit Go.Relay
open Go.ConcN (upd upd_ne upd_same)

variable {main : Bool} {V : Nat → Option Wait}

theorem run_swap_entry {w : World} {ad : Addr} {v n : Int} (hc : w.cell? ad = some (.int .i64 v)) (hz : w.frozen? ad = false) : (Extern.Atomic.swapT (.int .i64) #[.pointer (some ad), .int .i64 n]).run Try.prog w = .ok (.int .i64 v) (w.setCell ad (.int .i64 n)) := by
  change Sem.run Try.prog (do
    let a ← asAddr (.pointer (some ad))
    let old ← Extern.Atomic.read (.int .i64) a
    store a (.int .i64 n) .atomic
    pure old) w = _
  simp [Extern.Atomic.read, asAddr, hc, hz, run_store Try.prog w ad (.int .i64 n) .atomic rfl, Result.andThen]
theorem events_swap_entry {w : World} {ad : Addr} {v n : Int} (hc : w.cell? ad = some (.int .i64 v)) (hz : w.frozen? ad = false) (es : Array Event) : (Extern.Atomic.swapT (.int .i64) #[.pointer (some ad), .int .i64 n]).events Try.prog w es = (es.push ⟨.cell ad, false, true⟩).push ⟨.cell ad, true, true⟩ := by
  change Sem.events Try.prog (do
    let a ← asAddr (.pointer (some ad))
    let old ← Extern.Atomic.read (.int .i64) a
    store a (.int .i64 n) .atomic
    pure old) w es = _
  simp [Extern.Atomic.read, asAddr, hc, hz, events_load, events_store Try.prog w _ ad (.int .i64 n) .atomic rfl, Result.evThen]

section
variable {w : World} {b : Frame} {a : Act} {kk : List Item} {cs : List Frame} {ops : Array Oper} {i : Nat} {rest : List Nat} {o : Oper} {f : FuncId} {fn : Func} {ats : Array TypeId}
theorem stepG_swap_atomic {x y : Operand} (ho : ops[i]? = some o) (hw : Region.wanted o (yielded ops a.tmps) = true) (hk : b.kind ≠ .early) (hop : o.op = .call { callee := .value (.func f), args := #[x, y], argTypes := ats })
    (hf : Try.prog.funcs[f]? = some fn) (hname : (fn.name == "runtime.NumGoroutine") = false) (hb : fn.body.isNone = true) (hn : Extern.findNext fn = none)
    (he : Extern.find fn = some (Extern.Atomic.swapT (.int .i64))) {ad : Addr} {v d : Int} (hx : a.eval x = .pointer (some ad)) (hy : a.eval y = .int .i64 d) (hc : w.cell? ad = some (.int .i64 v)) (hz : w.frozen? ad = false) :
    stepG Try.prog main (G (b.at a (.inRegion ops (i :: rest) :: kk)) cs) w = .go (G (b.at (a.put o.dst (.int .i64 v)) (.inRegion ops rest :: kk)) cs) (w.setCell ad (.int .i64 d)) #[⟨.cell ad, false, true⟩, ⟨.cell ad, true, true⟩] := by
  have hm : (#[x, y] : Array Operand).map a.eval = #[.pointer (some ad), .int .i64 d] := by simp [hx, hy]
  exact stepG_entry ho hw hk hop hf hname hb hn he (by rw [hm]; exact run_swap_entry hc hz) (by rw [hm, events_swap_entry hc hz]; rfl) (sync_rw ad)
end

set_option maxHeartbeats 8000000 in
set_option maxRecDepth 100000 in
theorem swap106 (ad : Addr) (v x : Int) (w : World) (hc : w.cell? ad = some (.int .i64 v)) (hz : w.frozen? ad = false) (hf : Free V ad) : CallV Try.prog main V 106 #[.pointer (some ad), .int .i64 x] w (.int .i64 v) (w.setCell ad (.int .i64 x)) := by
  refine callW_in Try.func106 rfl fun fr cs => ?_
  simp only [Try.ntmps106, List.size_toArray, List.length_cons, List.length_nil, Nat.reduceAdd, Nat.reduceSub, Array.replicate_succ, Array.replicate_zero, List.push_toArray, List.append_toArray, List.nil_append, List.cons_append]
  repeat (first | (refine Walk.c rfl ?_) | (refine Walk.cReg ?_; simp only [List.size_toArray, List.length_cons, List.length_nil, Nat.reduceAdd, Nat.zero_add, List.range, List.range.loop]) | (refine Walk.cRet ?_) | (refine Walk.cEnd ?_) | (refine Walk.opq (ho_of (by conv => lhs; whnf) (by kernel_rfl)) (by rfl) (by decide) (fun dd e he => ?_) (fun dd K hK => ?_); (· (simp [go_sem, *] at he; try (subst he; exact evR_read _ _))); go_simp; refine hK _ ?_; clear hK K; try walk_nrm) | (refine Walk.ctl rfl (fun w => stepG_unwanted (ho_of (by conv => lhs; whnf) (by kernel_rfl)) (by rfl)) ?_; walk_nrm))
  refine Walk.turn (W := w.setCell ad (.int .i64 x)) rfl (fun d => stepG_swap_atomic (w := w.at d) rfl (by rfl) (by decide) rfl Try.func120 (by kernel_rfl) (by rfl) (by kernel_rfl) (by kernel_rfl) rfl rfl hc hz) (fun d => DR.set' hf hc d _ (evR_rw hf)) ?_
  walk_nrm
  repeat (first | (refine Walk.c rfl ?_) | (refine Walk.cReg ?_; simp only [List.size_toArray, List.length_cons, List.length_nil, Nat.reduceAdd, Nat.zero_add, List.range, List.range.loop]) | (refine Walk.cRet ?_) | (refine Walk.cEnd ?_) | (refine Walk.opq (ho_of (by conv => lhs; whnf) (by kernel_rfl)) (by rfl) (by decide) (fun dd e he => ?_) (fun dd K hK => ?_); (· (simp [go_sem, *] at he; try (subst he; exact evR_read _ _))); go_simp; refine hK _ ?_; clear hK K; try walk_nrm) | (refine Walk.ctl rfl (fun w => stepG_unwanted (ho_of (by conv => lhs; whnf) (by kernel_rfl)) (by rfl)) ?_; walk_nrm))
  exact Walk.ret1 rfl rfl Try.func106 rfl fun d => ⟨rfl, d, rfl⟩

set_option maxHeartbeats 8000000 in
set_option maxRecDepth 100000 in
theorem reach_swap (W : Nat) (cr cb cv : Int) (sw len cap ca : Nat) (y v : Int) (w : World) (h0 : w.cell? ⟨W, 0, none⟩ = some (.slice (some ⟨sw, 0, none⟩) len cap)) (hlt : ca < len) (hc : w.cell? ⟨W, 2 + (cr % 4).toNat, none⟩ = some (.int .i64 y)) (hz : w.frozen? ⟨W, 2 + (cr % 4).toNat, none⟩ = false) (hf : Free V ⟨W, 2 + (cr % 4).toNat, none⟩) (hv : w.cell? ⟨sw, ca, none⟩ = some (.int .i64 v)) (hvz : w.frozen? ⟨sw, ca, none⟩ = false) (hvf : Free V ⟨sw, ca, none⟩) (hne : sw ≠ W) :
    CallV Try.prog main V 72 #[.pointer (some ⟨W, 0, none⟩), codeV 10 cr ca cb cv] w (.tuple #[]) (((boxW w 10 cr ca cb cv).setCell ⟨sw, ca, none⟩ (.int .i64 y)).setCell ⟨W, 2 + (cr % 4).toNat, none⟩ (.int .i64 v)) := by
  refine callW_in Try.func72 rfl fun fr cs => ?_
  refine head72 W 10 cr cb cv sw len cap ca (fr :: cs) w h0 hlt fun u e4 e5 => ?_
  obtain ⟨b0, b1, b2, b3, b4⟩ := box_cells w 10 cr ca cb cv
  obtain ⟨c1, c2⟩ := box_reg 10 cr ca cb cv hc
  rw [hz] at c2
  obtain ⟨cvv, cvz⟩ := box_reg 10 cr ca cb cv hv
  rw [hvz] at cvz
  generalize boxW w 10 cr ca cb cv = w1 at *
  simp only [tm72, rest72, Try.f72]
  rw [e4, e5]
  clear e4 e5
  repeat (first | (refine Walk.c rfl ?_) | (refine Walk.cReg ?_; simp only [List.size_toArray, List.length_cons, List.length_nil, Nat.reduceAdd, Nat.zero_add, List.range, List.range.loop]) | (refine Walk.cRet ?_) | (refine Walk.cEnd ?_) | (refine Walk.opq (ho_of (by conv => lhs; whnf) (by kernel_rfl)) (by rfl) (by decide) (fun dd e he => ?_) (fun dd K hK => ?_); (· (simp [go_sem, *] at he; try (subst he; exact evR_read _ _))); go_simp; refine hK _ ?_; clear hK K; try walk_nrm) | (refine Walk.ctl rfl (fun w => stepG_unwanted (ho_of (by conv => lhs; whnf) (by kernel_rfl)) (by rfl)) ?_; walk_nrm))
  refine Walk.callV (x := .int .i64 v) (W := w1.setCell ⟨sw, ca, none⟩ (.int .i64 y)) ?_ rfl (by rfl) (by decide) rfl Try.func106 (by kernel_rfl) (by rfl) ?_
  · walk_nrm
    exact swap106 _ v y w1 cvv cvz hvf
  have c1' := (World.cell?_setCell_other w1 ⟨sw, ca, none⟩ ⟨W, 2 + (cr % 4).toNat, none⟩ (.int .i64 y) (by simp [hne])).trans c1
  have c2' : (w1.setCell ⟨sw, ca, none⟩ (.int .i64 y)).frozen? ⟨W, 2 + (cr % 4).toNat, none⟩ = false := by rw [World.frozen?_setCell]; exact c2
  generalize w1.setCell ⟨sw, ca, none⟩ (.int .i64 y) = w2 at *
  walk_nrm
  repeat (first | (refine Walk.c rfl ?_) | (refine Walk.cReg ?_; simp only [List.size_toArray, List.length_cons, List.length_nil, Nat.reduceAdd, Nat.zero_add, List.range, List.range.loop]) | (refine Walk.cRet ?_) | (refine Walk.cEnd ?_) | (refine Walk.opq (ho_of (by conv => lhs; whnf) (by kernel_rfl)) (by rfl) (by decide) (fun dd e he => ?_) (fun dd K hK => ?_); (· (simp [go_sem, *] at he; try (subst he; exact evR_read _ _))); go_simp; refine hK _ ?_; clear hK K; try walk_nrm) | (refine Walk.ctl rfl (fun w => stepG_unwanted (ho_of (by conv => lhs; whnf) (by kernel_rfl)) (by rfl)) ?_; walk_nrm))
  (co_applyP Walk.opw (ho_of (by conv => lhs; whnf) (by kernel_rfl)) (by rfl) (by decide) ?wev1 ?wdr1 ?wrun1; (case' wrun1 => (intro dd K hK; go_simp; simp only [alloc_at', setCell_at']; refine hK _ ?wmore1; clear hK K)); (case wdr1 => exact fun dd es hes => DR.set' hf c1' dd es hes); (case wev1 => (intro dd e he; simp [go_sem, storedEv, ev_store_bool, ev_store_int, ev_store_slice, ev_store_pointer, *] at he; subst he; exact evR_write _ _ hf)); try walk_nrm)
  repeat (first | (refine Walk.c rfl ?_) | (refine Walk.cReg ?_; simp only [List.size_toArray, List.length_cons, List.length_nil, Nat.reduceAdd, Nat.zero_add, List.range, List.range.loop]) | (refine Walk.cRet ?_) | (refine Walk.cEnd ?_) | (refine Walk.opq (ho_of (by conv => lhs; whnf) (by kernel_rfl)) (by rfl) (by decide) (fun dd e he => ?_) (fun dd K hK => ?_); (· (simp [go_sem, *] at he; try (subst he; exact evR_read _ _))); go_simp; refine hK _ ?_; clear hK K; try walk_nrm) | (refine Walk.ctl rfl (fun w => stepG_unwanted (ho_of (by conv => lhs; whnf) (by kernel_rfl)) (by rfl)) ?_; walk_nrm))
  exact Walk.ret0 rfl rfl Try.func72 rfl fun d => ⟨rfl, d, rfl⟩
end Go.Proofs.Ytgiiicdpbdfemaa
end

/- Package turn's programs, in company: reach: DoCompare. -/
section
namespace Go.Proofs.Ytgiiicdpbdfemaa
open Go.Conc Go.RowKit Go.Relay
open Go.ConcN (upd upd_ne upd_same)

variable {main : Bool} {V : Nat → Option Wait}

noncomputable def code72c : Code := match rest72 with | .seq _ (.block _ (.seq _ (.cond _ _ (.seq _ (.cond _ _ (.seq _ (.cond _ _ (.seq _ (.cond _ _ (.seq _ (.cond _ c _))))))))))) => c | _ => .skip
noncomputable def reg72c : Array Oper := match code72c with | .seq (.region _ ops _) _ => ops | _ => #[]
def tm72c (W X : Nat) (c : Value) (sw ca : Nat) (cr : Int) (u : Nat → Value) : Array Value := #[.pointer (some ⟨W, 0, none⟩), c, undef, .pointer (some ⟨X, 0, none⟩), .pointer (some ⟨sw, ca, none⟩), .pointer (some ⟨W, 2 + (cr % 4).toNat, none⟩), u 6, u 7, u 8, u 9, u 10, u 11, u 12, u 13, u 14, u 15, u 16, u 17, u 18, u 19, u 20, u 21, u 22, u 23, u 24, u 25, u 26, u 27, u 28, u 29, u 30, u 31, u 32, u 33, u 34, u 35, u 36, u 37, u 38, u 39, u 40, u 41, u 42, u 43, u 44, u 45, u 46, u 47, u 48, u 49, u 50, u 51, u 52, u 53, u 54, u 55, u 56, u 57, u 58, u 59, u 60, u 61, u 62, u 63, u 64, u 65, u 66]

set_option maxHeartbeats 8000000 in
set_option maxRecDepth 100000 in
theorem reg72c_walk {Stop : Goroutine → World → Prop} (W X : Nat) (c : Value) (cr cb cv : Int) (sw ca : Nat) (k : List Item) (cs : List Frame) (u0 : Nat → Value) (w1 w2 : World) (z : Int) (hit : Bool) (x3 : w1.cell? ⟨X, 3, none⟩ = some (.int .i64 cb)) (x4 : w1.cell? ⟨X, 4, none⟩ = some (.int .i64 cv)) (hz2 : w1.cell? ⟨W, 2 + (cb % 4).toNat, none⟩ = some (.int .i64 z))
    (hcas : CallV Try.prog main V 64 #[.pointer (some ⟨sw, ca, none⟩), .int .i64 z, .int .i64 cv] w1 (.bool hit) w2)
    (hk : ∀ u : Nat → Value, u 6 = .bool hit → Walk Try.prog main (DR V) Stop (G ((base 72).at ⟨tm72c W X c sw ca cr u, []⟩ (.inRegion reg72c [] :: k)) cs) w2) :
    Walk Try.prog main (DR V) Stop (G ((base 72).at ⟨tm72c W X c sw ca cr u0, []⟩ (.code (.region 12 reg72c true) :: k)) cs) w1 := by
  refine Walk.drawnJ (Inv := fun f a w' => ∃ u, a = ⟨tm72c W X c sw ca cr u, []⟩ ∧ Facts [52, 53, 54, 55, 56, 57, 58, 59, 60, 61, 6] [.pointer (some ⟨sw, ca, none⟩), .pointer (some ⟨W, 0, none⟩), .pointer (some ⟨X, 3, none⟩), .int .i64 cb, .pointer (some ⟨W, 2 + (cb % 4).toNat, none⟩), .pointer (some ⟨W, 2 + (cb % 4).toNat, none⟩), .int .i64 z, .pointer (some ⟨X, 4, none⟩), .int .i64 cv, .bool hit, .bool hit] f u ∧ ((f 9 = false ∧ ∃ d, w' = w1.at d) ∨ (f 9 = true ∧ (∀ j, j < 9 → f j = true) ∧ ∃ d, w' = w2.at d))) (by kernel_rfl) (by kernel_rfl) (fun d => ⟨u0, rfl, Facts.none _ _ _, .inl ⟨rfl, d, rfl⟩⟩) ?_ ?_
  · rintro f i o a w' ⟨u, rfl, F, hw⟩ hC hfi ho hdeps rest hr
    have hi : i < 11 := (Array.getElem?_eq_some_iff.1 ho).1
    match i, hi with
    | 0, _ =>
      obtain ⟨h9, d, rfl⟩ := hw.resolve_right (fun h => by have := h.2.1 0 (by omega); rw [this] at hfi; cases hfi)
      refine Walk.back ?_ d
      clear hdeps hfi ho
      simp only [tm72c, reg72c, code72c, rest72, Try.f72] at hr ⊢
      (refine Walk.opq (ho_of (by conv => lhs; whnf) (by kernel_rfl)) (by rfl) (by decide) (fun dd e he => ?_) (fun dd K hK => ?_); (· (simp [go_sem, *] at he; try (subst he; exact evR_read _ _))); go_simp; refine hK _ ?_; clear hK K; try walk_nrm)
      refine hr _ _ ⟨upd u 52 (.pointer (some ⟨sw, ca, none⟩)), ?_, F.set (by decide) rfl rfl, .inl ⟨by rw [upd_ne _ _ (by decide)]; exact h9, w1.drawn, rfl⟩⟩
      simp [upd]
    | 1, _ =>
      obtain ⟨h9, d, rfl⟩ := hw.resolve_right (fun h => by have := h.2.1 1 (by omega); rw [this] at hfi; cases hfi)
      refine Walk.back ?_ d
      clear hdeps hfi ho
      simp only [tm72c, reg72c, code72c, rest72, Try.f72] at hr ⊢
      (refine Walk.opq (ho_of (by conv => lhs; whnf) (by kernel_rfl)) (by rfl) (by decide) (fun dd e he => ?_) (fun dd K hK => ?_); (· (simp [go_sem, *] at he; try (subst he; exact evR_read _ _))); go_simp; refine hK _ ?_; clear hK K; try walk_nrm)
      refine hr _ _ ⟨upd u 53 (.pointer (some ⟨W, 0, none⟩)), ?_, F.set (by decide) rfl rfl, .inl ⟨by rw [upd_ne _ _ (by decide)]; exact h9, w1.drawn, rfl⟩⟩
      simp [upd]
    | 2, _ =>
      obtain ⟨h9, d, rfl⟩ := hw.resolve_right (fun h => by have := h.2.1 2 (by omega); rw [this] at hfi; cases hfi)
      refine Walk.back ?_ d
      clear hdeps hfi ho
      simp only [tm72c, reg72c, code72c, rest72, Try.f72] at hr ⊢
      (refine Walk.opq (ho_of (by conv => lhs; whnf) (by kernel_rfl)) (by rfl) (by decide) (fun dd e he => ?_) (fun dd K hK => ?_); (· (simp [go_sem, *] at he; try (subst he; exact evR_read _ _))); go_simp; refine hK _ ?_; clear hK K; try walk_nrm)
      refine hr _ _ ⟨upd u 54 (.pointer (some ⟨X, 3, none⟩)), ?_, F.set (by decide) rfl rfl, .inl ⟨by rw [upd_ne _ _ (by decide)]; exact h9, w1.drawn, rfl⟩⟩
      simp [upd]
    | 3, _ =>
      have hd := deps_of (l := [2]) (by kernel_rfl) ho hdeps
      have e54 := F 2 54 _ (hd 2 (by simp)) rfl rfl
      obtain ⟨h9, d, rfl⟩ := hw.resolve_right (fun h => by have := h.2.1 3 (by omega); rw [this] at hfi; cases hfi)
      refine Walk.back ?_ d
      clear hdeps hfi ho
      simp only [tm72c, reg72c, code72c, rest72, Try.f72] at hr ⊢
      (refine Walk.opq (ho_of (by conv => lhs; whnf) (by kernel_rfl)) (by rfl) (by decide) (fun dd e he => ?_) (fun dd K hK => ?_); (· (simp [go_sem, *] at he; try (subst he; exact evR_read _ _))); go_simp; refine hK _ ?_; clear hK K; try walk_nrm)
      refine hr _ _ ⟨upd u 55 (.int .i64 cb), ?_, F.set (by decide) rfl rfl, .inl ⟨by rw [upd_ne _ _ (by decide)]; exact h9, w1.drawn, rfl⟩⟩
      simp [upd, e54]
    | 4, _ =>
      have hd := deps_of (l := [1, 3]) (by kernel_rfl) ho hdeps
      have e53 := F 1 53 _ (hd 1 (by simp)) rfl rfl
      have e55 := F 3 55 _ (hd 3 (by simp)) rfl rfl
      obtain ⟨h9, d, rfl⟩ := hw.resolve_right (fun h => by have := h.2.1 4 (by omega); rw [this] at hfi; cases hfi)
      refine Walk.back ?_ d
      clear hdeps hfi ho
      simp only [tm72c, reg72c, code72c, rest72, Try.f72] at hr ⊢
      refine Walk.callV (x := .pointer (some ⟨W, 2 + (cb % 4).toNat, none⟩)) (W := w1) ?_ rfl (by rfl) (by decide) rfl Try.func104 (by kernel_rfl) (by rfl) ?_
      · walk_nrm
        simp only [e53, e55]
        exact register104 W cb _
      walk_nrm
      refine hr _ _ ⟨upd u 56 (.pointer (some ⟨W, 2 + (cb % 4).toNat, none⟩)), ?_, F.set (by decide) rfl rfl, .inl ⟨by rw [upd_ne _ _ (by decide)]; exact h9, w1.drawn, rfl⟩⟩
      simp [upd, e53, e55]
    | 5, _ =>
      have hd := deps_of (l := [4]) (by kernel_rfl) ho hdeps
      have e56 := F 4 56 _ (hd 4 (by simp)) rfl rfl
      obtain ⟨h9, d, rfl⟩ := hw.resolve_right (fun h => by have := h.2.1 5 (by omega); rw [this] at hfi; cases hfi)
      refine Walk.back ?_ d
      clear hdeps hfi ho
      simp only [tm72c, reg72c, code72c, rest72, Try.f72] at hr ⊢
      (refine Walk.opq (ho_of (by conv => lhs; whnf) (by kernel_rfl)) (by rfl) (by decide) (fun dd e he => ?_) (fun dd K hK => ?_); (· (simp [go_sem, *] at he; try (subst he; exact evR_read _ _))); go_simp; refine hK _ ?_; clear hK K; try walk_nrm)
      refine hr _ _ ⟨upd u 57 (.pointer (some ⟨W, 2 + (cb % 4).toNat, none⟩)), ?_, F.set (by decide) rfl rfl, .inl ⟨by rw [upd_ne _ _ (by decide)]; exact h9, w1.drawn, rfl⟩⟩
      simp [upd, e56]
    | 6, _ =>
      have hd := deps_of (l := [5]) (by kernel_rfl) ho hdeps
      have e57 := F 5 57 _ (hd 5 (by simp)) rfl rfl
      obtain ⟨h9, d, rfl⟩ := hw.resolve_right (fun h => by have := h.2.1 6 (by omega); rw [this] at hfi; cases hfi)
      refine Walk.back ?_ d
      clear hdeps hfi ho
      simp only [tm72c, reg72c, code72c, rest72, Try.f72] at hr ⊢
      (refine Walk.opq (ho_of (by conv => lhs; whnf) (by kernel_rfl)) (by rfl) (by decide) (fun dd e he => ?_) (fun dd K hK => ?_); (· (simp [go_sem, *] at he; try (subst he; exact evR_read _ _))); go_simp; refine hK _ ?_; clear hK K; try walk_nrm)
      refine hr _ _ ⟨upd u 58 (.int .i64 z), ?_, F.set (by decide) rfl rfl, .inl ⟨by rw [upd_ne _ _ (by decide)]; exact h9, w1.drawn, rfl⟩⟩
      simp [upd, e57]
    | 7, _ =>
      obtain ⟨h9, d, rfl⟩ := hw.resolve_right (fun h => by have := h.2.1 7 (by omega); rw [this] at hfi; cases hfi)
      refine Walk.back ?_ d
      clear hdeps hfi ho
      simp only [tm72c, reg72c, code72c, rest72, Try.f72] at hr ⊢
      (refine Walk.opq (ho_of (by conv => lhs; whnf) (by kernel_rfl)) (by rfl) (by decide) (fun dd e he => ?_) (fun dd K hK => ?_); (· (simp [go_sem, *] at he; try (subst he; exact evR_read _ _))); go_simp; refine hK _ ?_; clear hK K; try walk_nrm)
      refine hr _ _ ⟨upd u 59 (.pointer (some ⟨X, 4, none⟩)), ?_, F.set (by decide) rfl rfl, .inl ⟨by rw [upd_ne _ _ (by decide)]; exact h9, w1.drawn, rfl⟩⟩
      simp [upd]
    | 8, _ =>
      have hd := deps_of (l := [7]) (by kernel_rfl) ho hdeps
      have e59 := F 7 59 _ (hd 7 (by simp)) rfl rfl
      obtain ⟨h9, d, rfl⟩ := hw.resolve_right (fun h => by have := h.2.1 8 (by omega); rw [this] at hfi; cases hfi)
      refine Walk.back ?_ d
      clear hdeps hfi ho
      simp only [tm72c, reg72c, code72c, rest72, Try.f72] at hr ⊢
      (refine Walk.opq (ho_of (by conv => lhs; whnf) (by kernel_rfl)) (by rfl) (by decide) (fun dd e he => ?_) (fun dd K hK => ?_); (· (simp [go_sem, *] at he; try (subst he; exact evR_read _ _))); go_simp; refine hK _ ?_; clear hK K; try walk_nrm)
      refine hr _ _ ⟨upd u 60 (.int .i64 cv), ?_, F.set (by decide) rfl rfl, .inl ⟨by rw [upd_ne _ _ (by decide)]; exact h9, w1.drawn, rfl⟩⟩
      simp [upd, e59]
    | 9, _ =>
      have hd := deps_of (l := [0, 6, 8]) (by kernel_rfl) ho hdeps
      have e52 := F 0 52 _ (hd 0 (by simp)) rfl rfl
      have e58 := F 6 58 _ (hd 6 (by simp)) rfl rfl
      have e60 := F 8 60 _ (hd 8 (by simp)) rfl rfl
      obtain ⟨h9, d, rfl⟩ := hw.resolve_right (fun h => by rw [h.1] at hfi; cases hfi)
      refine Walk.back ?_ d
      have k0 := hd 0 (by simp)
      have k6 := hd 6 (by simp)
      have k8 := hd 8 (by simp)
      have k5 := hC.deps (l := [5]) k6 (by kernel_rfl) 5 (by simp)
      have k4 := hC.deps (l := [4]) k5 (by kernel_rfl) 4 (by simp)
      have k1 := hC.deps (l := [1, 3]) k4 (by kernel_rfl) 1 (by simp)
      have k3 := hC.deps (l := [1, 3]) k4 (by kernel_rfl) 3 (by simp)
      have k2 := hC.deps (l := [2]) k3 (by kernel_rfl) 2 (by simp)
      have k7 := hC.deps (l := [7]) k8 (by kernel_rfl) 7 (by simp)
      clear hdeps hfi ho
      simp only [tm72c, reg72c, code72c, rest72, Try.f72] at hr ⊢
      refine Walk.callV (x := .bool hit) (W := w2) ?_ rfl (by rfl) (by decide) rfl Try.func64 (by kernel_rfl) (by rfl) ?_
      · walk_nrm
        simp only [e52, e58, e60]
        exact hcas
      walk_nrm
      refine hr _ _ ⟨upd u 61 (.bool hit), ?_, F.set (by decide) rfl rfl, .inr ⟨upd_same _ _ _, fun j hj => ?_, w2.drawn, rfl⟩⟩
      · simp [upd, e52, e58, e60]
      · rw [upd_ne _ _ (by omega)]
        match j, hj with
        | 0, _ => exact k0
        | 1, _ => exact k1
        | 2, _ => exact k2
        | 3, _ => exact k3
        | 4, _ => exact k4
        | 5, _ => exact k5
        | 6, _ => exact k6
        | 7, _ => exact k7
        | 8, _ => exact k8
    | 10, _ =>
      have hd := deps_of (l := [9]) (by kernel_rfl) ho hdeps
      have e61 := F 9 61 _ (hd 9 (by simp)) rfl rfl
      obtain ⟨h9, hall, d, rfl⟩ := hw.resolve_left (fun h => by have := hd 9 (by simp); rw [h.1] at this; cases this)
      refine Walk.back ?_ d
      clear hdeps hfi ho
      simp only [tm72c, reg72c, code72c, rest72, Try.f72] at hr ⊢
      (refine Walk.opq (ho_of (by conv => lhs; whnf) (by kernel_rfl)) (by rfl) (by decide) (fun dd e he => ?_) (fun dd K hK => ?_); (· (simp [go_sem, *] at he; try (subst he; exact evR_read _ _))); go_simp; refine hK _ ?_; clear hK K; try walk_nrm)
      refine hr _ _ ⟨upd u 6 (.bool hit), ?_, F.set (by decide) rfl rfl, .inr ⟨by rw [upd_ne _ _ (by decide)]; exact h9, fun j hj => by rw [upd_ne _ _ (by omega)]; exact hall j hj, w2.drawn, rfl⟩⟩
      simp [upd, e61]
  · rintro f a w' ⟨u, rfl, F, hw⟩ hall
    have hsz : reg72c.size = 11 := by kernel_rfl
    rcases hw with ⟨h, _⟩ | ⟨_, _, d, rfl⟩
    · rw [hall 9 (by rw [hsz]; omega)] at h; cases h
    · exact (hk u (F 10 6 _ (hall 10 (by rw [hsz]; omega)) rfl rfl)).back d

set_option maxHeartbeats 8000000 in
set_option maxRecDepth 100000 in
theorem reach_miss (W : Nat) (cr cb cv : Int) (sw len cap ca : Nat) (x : Value) (z v : Int) (w : World) (h0 : w.cell? ⟨W, 0, none⟩ = some (.slice (some ⟨sw, 0, none⟩) len cap)) (hlt : ca < len) (hc : w.cell? ⟨W, 2 + (cr % 4).toNat, none⟩ = some x) (hz : w.frozen? ⟨W, 2 + (cr % 4).toNat, none⟩ = false) (hf : Free V ⟨W, 2 + (cr % 4).toNat, none⟩) (hz2 : w.cell? ⟨W, 2 + (cb % 4).toNat, none⟩ = some (.int .i64 z)) (hv : w.cell? ⟨sw, ca, none⟩ = some (.int .i64 v)) (hvz : w.frozen? ⟨sw, ca, none⟩ = false) (hne : ¬ v = z) :
    CallV Try.prog main V 72 #[.pointer (some ⟨W, 0, none⟩), codeV 11 cr ca cb cv] w (.tuple #[]) ((boxW w 11 cr ca cb cv).setCell ⟨W, 2 + (cr % 4).toNat, none⟩ (.int .i64 0)) := by
  refine callW_in Try.func72 rfl fun fr cs => ?_
  refine head72 W 11 cr cb cv sw len cap ca (fr :: cs) w h0 hlt fun u e4 e5 => ?_
  obtain ⟨b0, b1, b2, b3, b4⟩ := box_cells w 11 cr ca cb cv
  obtain ⟨c1, c2⟩ := box_reg 11 cr ca cb cv hc
  rw [hz] at c2
  obtain ⟨cvv, cvz⟩ := box_reg 11 cr ca cb cv hv
  rw [hvz] at cvz
  have c3 := (box_reg 11 cr ca cb cv hz2).1
  generalize boxW w 11 cr ca cb cv = w1 at *
  simp only [tm72, rest72, Try.f72]
  rw [e4, e5]
  clear e4 e5
  repeat (first | (refine Walk.c rfl ?_) | (refine Walk.cReg ?_; simp only [List.size_toArray, List.length_cons, List.length_nil, Nat.reduceAdd, Nat.zero_add, List.range, List.range.loop]) | (refine Walk.cRet ?_) | (refine Walk.cEnd ?_) | (refine Walk.opq (ho_of (by conv => lhs; whnf) (by kernel_rfl)) (by rfl) (by decide) (fun dd e he => ?_) (fun dd K hK => ?_); (· (simp [go_sem, *] at he; try (subst he; exact evR_read _ _))); go_simp; refine hK _ ?_; clear hK K; try walk_nrm) | (refine Walk.ctl rfl (fun w => stepG_unwanted (ho_of (by conv => lhs; whnf) (by kernel_rfl)) (by rfl)) ?_; walk_nrm))
  have hcas : CallV Try.prog main V 64 #[.pointer (some ⟨sw, ca, none⟩), .int .i64 z, .int .i64 cv] w1 (.bool false) (w1) := cas64_miss _ v z cv w1 cvv cvz hne
  refine reg72c_walk W w.heap.size (codeV 11 cr ca cb cv) cr cb cv sw ca _ _ (fun k => ([undef, undef, undef, undef, undef, undef, u 6, u 7, u 8, u 9, u 10, u 11, u 12, u 13, u 14, u 15, u 16, u 17, .pointer (some ⟨w.heap.size, 0, none⟩), .int .i64 11, .bool false, .bool false, u 22, u 23, u 24, u 25, .bool false, .bool false, u 28, u 29, u 30, u 31, u 32, .bool false, .bool false, u 35, u 36, u 37, u 38, u 39, u 40, .bool false, .bool false, u 43, u 44, u 45, u 46, u 47, u 48, u 49, .bool true, .bool true, u 52, u 53, u 54, u 55, u 56, u 57, u 58, u 59, u 60, u 61, u 62, u 63, u 64, u 65, u 66] : List Value).getD k undef) w1 _ z false b3 b4 c3 hcas fun u e6 => ?_
  simp only [tm72c]
  rw [e6]
  clear e6
  repeat (first | (refine Walk.c rfl ?_) | (refine Walk.cReg ?_; simp only [List.size_toArray, List.length_cons, List.length_nil, Nat.reduceAdd, Nat.zero_add, List.range, List.range.loop]) | (refine Walk.cRet ?_) | (refine Walk.cEnd ?_) | (refine Walk.opq (ho_of (by conv => lhs; whnf) (by kernel_rfl)) (by rfl) (by decide) (fun dd e he => ?_) (fun dd K hK => ?_); (· (simp [go_sem, *] at he; try (subst he; exact evR_read _ _))); go_simp; refine hK _ ?_; clear hK K; try walk_nrm) | (refine Walk.ctl rfl (fun w => stepG_unwanted (ho_of (by conv => lhs; whnf) (by kernel_rfl)) (by rfl)) ?_; walk_nrm))
  (co_applyP Walk.opw (ho_of (by conv => lhs; whnf) (by kernel_rfl)) (by rfl) (by decide) ?wev1 ?wdr1 ?wrun1; (case' wrun1 => (intro dd K hK; go_simp; simp only [alloc_at', setCell_at']; refine hK _ ?wmore1; clear hK K)); (case wdr1 => exact fun dd es hes => DR.set' hf c1 dd es hes); (case wev1 => (intro dd e he; simp [go_sem, storedEv, ev_store_bool, ev_store_int, ev_store_slice, ev_store_pointer, *] at he; subst he; exact evR_write _ _ hf)); try walk_nrm)
  repeat (first | (refine Walk.c rfl ?_) | (refine Walk.cReg ?_; simp only [List.size_toArray, List.length_cons, List.length_nil, Nat.reduceAdd, Nat.zero_add, List.range, List.range.loop]) | (refine Walk.cRet ?_) | (refine Walk.cEnd ?_) | (refine Walk.opq (ho_of (by conv => lhs; whnf) (by kernel_rfl)) (by rfl) (by decide) (fun dd e he => ?_) (fun dd K hK => ?_); (· (simp [go_sem, *] at he; try (subst he; exact evR_read _ _))); go_simp; refine hK _ ?_; clear hK K; try walk_nrm) | (refine Walk.ctl rfl (fun w => stepG_unwanted (ho_of (by conv => lhs; whnf) (by kernel_rfl)) (by rfl)) ?_; walk_nrm))
  exact Walk.ret0 rfl rfl Try.func72 rfl fun d => ⟨rfl, d, rfl⟩
end Go.Proofs.Ytgiiicdpbdfemaa
end

/- Package turn's programs, in company: reach: DoCompare that hits. -/
section
namespace Go.Proofs.Ytgiiicdpbdfemaa
open Go.Conc Go.RowKit Go.Relay
open Go.ConcN (upd upd_ne upd_same)

variable {main : Bool} {V : Nat → Option Wait}


set_option maxHeartbeats 8000000 in
set_option maxRecDepth 100000 in
theorem reach_hit (W : Nat) (cr cb cv : Int) (sw len cap ca : Nat) (x : Value) (z v : Int) (w : World) (h0 : w.cell? ⟨W, 0, none⟩ = some (.slice (some ⟨sw, 0, none⟩) len cap)) (hlt : ca < len) (hc : w.cell? ⟨W, 2 + (cr % 4).toNat, none⟩ = some x) (hz : w.frozen? ⟨W, 2 + (cr % 4).toNat, none⟩ = false) (hf : Free V ⟨W, 2 + (cr % 4).toNat, none⟩) (hz2 : w.cell? ⟨W, 2 + (cb % 4).toNat, none⟩ = some (.int .i64 z)) (hv : w.cell? ⟨sw, ca, none⟩ = some (.int .i64 v)) (hvz : w.frozen? ⟨sw, ca, none⟩ = false) (hvf : Free V ⟨sw, ca, none⟩) (hne : sw ≠ W) (heq : v = z) :
    CallV Try.prog main V 72 #[.pointer (some ⟨W, 0, none⟩), codeV 11 cr ca cb cv] w (.tuple #[]) ((((boxW w 11 cr ca cb cv).setCell ⟨sw, ca, none⟩ (.int .i64 cv)).setCell ⟨W, 2 + (cr % 4).toNat, none⟩ (.int .i64 0)).setCell ⟨W, 2 + (cr % 4).toNat, none⟩ (.int .i64 1)) := by
  refine callW_in Try.func72 rfl fun fr cs => ?_
  refine head72 W 11 cr cb cv sw len cap ca (fr :: cs) w h0 hlt fun u e4 e5 => ?_
  obtain ⟨b0, b1, b2, b3, b4⟩ := box_cells w 11 cr ca cb cv
  obtain ⟨c1, c2⟩ := box_reg 11 cr ca cb cv hc
  rw [hz] at c2
  obtain ⟨cvv, cvz⟩ := box_reg 11 cr ca cb cv hv
  rw [hvz] at cvz
  have c3 := (box_reg 11 cr ca cb cv hz2).1
  generalize boxW w 11 cr ca cb cv = w1 at *
  simp only [tm72, rest72, Try.f72]
  rw [e4, e5]
  clear e4 e5
  repeat (first | (refine Walk.c rfl ?_) | (refine Walk.cReg ?_; simp only [List.size_toArray, List.length_cons, List.length_nil, Nat.reduceAdd, Nat.zero_add, List.range, List.range.loop]) | (refine Walk.cRet ?_) | (refine Walk.cEnd ?_) | (refine Walk.opq (ho_of (by conv => lhs; whnf) (by kernel_rfl)) (by rfl) (by decide) (fun dd e he => ?_) (fun dd K hK => ?_); (· (simp [go_sem, *] at he; try (subst he; exact evR_read _ _))); go_simp; refine hK _ ?_; clear hK K; try walk_nrm) | (refine Walk.ctl rfl (fun w => stepG_unwanted (ho_of (by conv => lhs; whnf) (by kernel_rfl)) (by rfl)) ?_; walk_nrm))
  have hcas : CallV Try.prog main V 64 #[.pointer (some ⟨sw, ca, none⟩), .int .i64 z, .int .i64 cv] w1 (.bool true) (w1.setCell ⟨sw, ca, none⟩ (.int .i64 cv)) := by subst heq; exact cas64_hit _ v cv w1 cvv cvz hvf
  have c1' := (World.cell?_setCell_other w1 ⟨sw, ca, none⟩ ⟨W, 2 + (cr % 4).toNat, none⟩ (.int .i64 cv) (by simp [hne])).trans c1
  have c2' : (w1.setCell ⟨sw, ca, none⟩ (.int .i64 cv)).frozen? ⟨W, 2 + (cr % 4).toNat, none⟩ = false := by rw [World.frozen?_setCell]; exact c2
  refine reg72c_walk W w.heap.size (codeV 11 cr ca cb cv) cr cb cv sw ca _ _ (fun k => ([undef, undef, undef, undef, undef, undef, u 6, u 7, u 8, u 9, u 10, u 11, u 12, u 13, u 14, u 15, u 16, u 17, .pointer (some ⟨w.heap.size, 0, none⟩), .int .i64 11, .bool false, .bool false, u 22, u 23, u 24, u 25, .bool false, .bool false, u 28, u 29, u 30, u 31, u 32, .bool false, .bool false, u 35, u 36, u 37, u 38, u 39, u 40, .bool false, .bool false, u 43, u 44, u 45, u 46, u 47, u 48, u 49, .bool true, .bool true, u 52, u 53, u 54, u 55, u 56, u 57, u 58, u 59, u 60, u 61, u 62, u 63, u 64, u 65, u 66] : List Value).getD k undef) w1 _ z true b3 b4 c3 hcas fun u e6 => ?_
  simp only [tm72c]
  rw [e6]
  clear e6
  generalize w1.setCell ⟨sw, ca, none⟩ (.int .i64 cv) = w2 at *
  repeat (first | (refine Walk.c rfl ?_) | (refine Walk.cReg ?_; simp only [List.size_toArray, List.length_cons, List.length_nil, Nat.reduceAdd, Nat.zero_add, List.range, List.range.loop]) | (refine Walk.cRet ?_) | (refine Walk.cEnd ?_) | (refine Walk.opq (ho_of (by conv => lhs; whnf) (by kernel_rfl)) (by rfl) (by decide) (fun dd e he => ?_) (fun dd K hK => ?_); (· (simp [go_sem, *] at he; try (subst he; exact evR_read _ _))); go_simp; refine hK _ ?_; clear hK K; try walk_nrm) | (refine Walk.ctl rfl (fun w => stepG_unwanted (ho_of (by conv => lhs; whnf) (by kernel_rfl)) (by rfl)) ?_; walk_nrm))
  (co_applyP Walk.opw (ho_of (by conv => lhs; whnf) (by kernel_rfl)) (by rfl) (by decide) ?wev1 ?wdr1 ?wrun1; (case' wrun1 => (intro dd K hK; go_simp; simp only [alloc_at', setCell_at']; refine hK _ ?wmore1; clear hK K)); (case wdr1 => exact fun dd es hes => DR.set' hf c1' dd es hes); (case wev1 => (intro dd e he; simp [go_sem, storedEv, ev_store_bool, ev_store_int, ev_store_slice, ev_store_pointer, *] at he; subst he; exact evR_write _ _ hf)); try walk_nrm)
  have c3' := World.cell?_setCell_same w2 ⟨W, 2 + (cr % 4).toNat, none⟩ (.int .i64 0) c1'
  have c4' : (w2.setCell ⟨W, 2 + (cr % 4).toNat, none⟩ (.int .i64 0)).frozen? ⟨W, 2 + (cr % 4).toNat, none⟩ = false := by rw [World.frozen?_setCell]; exact c2'
  generalize w2.setCell ⟨W, 2 + (cr % 4).toNat, none⟩ (.int .i64 0) = w3 at *
  repeat (first | (refine Walk.c rfl ?_) | (refine Walk.cReg ?_; simp only [List.size_toArray, List.length_cons, List.length_nil, Nat.reduceAdd, Nat.zero_add, List.range, List.range.loop]) | (refine Walk.cRet ?_) | (refine Walk.cEnd ?_) | (refine Walk.opq (ho_of (by conv => lhs; whnf) (by kernel_rfl)) (by rfl) (by decide) (fun dd e he => ?_) (fun dd K hK => ?_); (· (simp [go_sem, *] at he; try (subst he; exact evR_read _ _))); go_simp; refine hK _ ?_; clear hK K; try walk_nrm) | (refine Walk.ctl rfl (fun w => stepG_unwanted (ho_of (by conv => lhs; whnf) (by kernel_rfl)) (by rfl)) ?_; walk_nrm))
  (co_applyP Walk.opw (ho_of (by conv => lhs; whnf) (by kernel_rfl)) (by rfl) (by decide) ?wev2 ?wdr2 ?wrun2; (case' wrun2 => (intro dd K hK; go_simp; simp only [alloc_at', setCell_at']; refine hK _ ?wmore2; clear hK K)); (case wdr2 => exact fun dd es hes => DR.set' hf c3' dd es hes); (case wev2 => (intro dd e he; simp [go_sem, storedEv, ev_store_bool, ev_store_int, ev_store_slice, ev_store_pointer, *] at he; subst he; exact evR_write _ _ hf)); try walk_nrm)
  repeat (first | (refine Walk.c rfl ?_) | (refine Walk.cReg ?_; simp only [List.size_toArray, List.length_cons, List.length_nil, Nat.reduceAdd, Nat.zero_add, List.range, List.range.loop]) | (refine Walk.cRet ?_) | (refine Walk.cEnd ?_) | (refine Walk.opq (ho_of (by conv => lhs; whnf) (by kernel_rfl)) (by rfl) (by decide) (fun dd e he => ?_) (fun dd K hK => ?_); (· (simp [go_sem, *] at he; try (subst he; exact evR_read _ _))); go_simp; refine hK _ ?_; clear hK K; try walk_nrm) | (refine Walk.ctl rfl (fun w => stepG_unwanted (ho_of (by conv => lhs; whnf) (by kernel_rfl)) (by rfl)) ?_; walk_nrm))
  exact Walk.ret0 rfl rfl Try.func72 rfl fun d => ⟨rfl, d, rfl⟩
end Go.Proofs.Ytgiiicdpbdfemaa
end

/- Package turn's programs, in company: a code above the steps. -/
section
namespace Go.Proofs.Ytgiiicdpbdfemaa
open Go.Conc Go.RowKit Go.Relay
open Go.ConcN (upd upd_ne upd_same)

variable {main : Bool} {V : Nat → Option Wait}

set_option maxHeartbeats 8000000 in
set_option maxRecDepth 100000 in
theorem isStep_high (W : Nat) (cd cr ca cb cv : Int) (w : World) (g1 : 11 < cd) :
    CallV Try.prog main V 71 #[.pointer (some ⟨W, 0, none⟩), .agg #[.int .i64 cd, .int .i64 cr, .int .i64 ca, .int .i64 cb, .int .i64 cv]] w (.bool false) (w.alloc (.cells #[.int .i64 cd, .int .i64 cr, .int .i64 ca, .int .i64 cb, .int .i64 cv] 99)) := by
  refine callW_in Try.func71 rfl fun fr cs => ?_
  simp only [Try.ntmps71, List.size_toArray, List.length_cons, List.length_nil, Nat.reduceAdd, Nat.reduceSub, Array.replicate_succ, Array.replicate_zero, List.push_toArray, List.append_toArray, List.nil_append, List.cons_append]
  repeat (first | (refine Walk.c rfl ?_) | (refine Walk.cReg ?_; simp only [List.size_toArray, List.length_cons, List.length_nil, Nat.reduceAdd, Nat.zero_add, List.range, List.range.loop]) | (refine Walk.cRet ?_) | (refine Walk.cEnd ?_) | (refine Walk.opq (ho_of (by conv => lhs; whnf) (by kernel_rfl)) (by rfl) (by decide) (fun dd e he => ?_) (fun dd K hK => ?_); (· (simp [go_sem, *] at he; try (subst he; exact evR_read _ _))); go_simp; refine hK _ ?_; clear hK K; try walk_nrm) | (refine Walk.ctl rfl (fun w => stepG_unwanted (ho_of (by conv => lhs; whnf) (by kernel_rfl)) (by rfl)) ?_; walk_nrm))
  (co_applyP Walk.opw (ho_of (by conv => lhs; whnf) (by kernel_rfl)) (by rfl) (by decide) ?wev1 ?wdr1 ?wrun1; (case' wrun1 => (intro dd K hK; go_simp; simp only [alloc_at', setCell_at']; refine hK _ ?wmore1; clear hK K)); (case wdr1 => exact fun dd es hes => DR.alloc' dd es hes); (case wev1 => (intro dd e he; simp [go_sem, *] at he)); try walk_nrm)
  repeat (first | (refine Walk.c rfl ?_) | (refine Walk.cReg ?_; simp only [List.size_toArray, List.length_cons, List.length_nil, Nat.reduceAdd, Nat.zero_add, List.range, List.range.loop]) | (refine Walk.cRet ?_) | (refine Walk.cEnd ?_) | (refine Walk.opq (ho_of (by conv => lhs; whnf) (by kernel_rfl)) (by rfl) (by decide) (fun dd e he => ?_) (fun dd K hK => ?_); (· (simp [go_sem, *] at he; try (subst he; exact evR_read _ _))); go_simp; refine hK _ ?_; clear hK K; try walk_nrm) | (refine Walk.ctl rfl (fun w => stepG_unwanted (ho_of (by conv => lhs; whnf) (by kernel_rfl)) (by rfl)) ?_; walk_nrm))
  have b0 := World.cell?_alloc_at (w := w) #[.int .i64 cd, .int .i64 cr, .int .i64 ca, .int .i64 cb, .int .i64 cv] 99 w.heap.size 0 rfl
  have b2 := World.cell?_alloc_at (w := w) #[.int .i64 cd, .int .i64 cr, .int .i64 ca, .int .i64 cb, .int .i64 cv] 99 w.heap.size 2 rfl
  replace b0 : (w.alloc (.cells #[.int .i64 cd, .int .i64 cr, .int .i64 ca, .int .i64 cb, .int .i64 cv] 99)).cell? ⟨w.heap.size, 0, none⟩ = some (.int .i64 cd) := b0
  replace b2 : (w.alloc (.cells #[.int .i64 cd, .int .i64 cr, .int .i64 ca, .int .i64 cb, .int .i64 cv] 99)).cell? ⟨w.heap.size, 2, none⟩ = some (.int .i64 ca) := b2
  generalize w.alloc (.cells #[.int .i64 cd, .int .i64 cr, .int .i64 ca, .int .i64 cb, .int .i64 cv] 99) = w1 at *
  generalize w.heap.size = X at *
  have d1 : decide (7 ≤ cd) = true := decide_eq_true (by omega)
  have d2 : decide (cd ≤ 11) = false := decide_eq_false (by omega)
  let S : World → Prop := fun w' => ∃ d, w' = w1.at d
  have hrl : ∀ w₁ w₂, S w₁ → AtRel w₁ w₂ → S w₂ := by
    rintro _ _ ⟨d, rfl⟩ ⟨d', rfl⟩; exact ⟨d', rfl⟩
  have hF : S w1 := ⟨w1.drawn, rfl⟩
  refine Walk.held S hrl hF (by kernel_rfl) (by decide) (Q := fun a' => a'.tmps.getD 4 undef = .bool false ∧ a'.defers = []) (fun w₁ hF => ?_) ?_
  · simp only [List.size_toArray, List.length_cons, List.length_nil, Nat.reduceAdd, Nat.zero_add]
    (co_applyP anyCH_take termsR (fun _ _ h r => hrl _ _ h r) (fun _ _ _ h r => ⟨h.1, hrl _ _ h.2.1 r, h.2.2⟩) (i := 0) rfl (by first | kernel_rfl | decide +kernel) (by first | kernel_rfl | decide +kernel) (by first | kernel_rfl | decide +kernel) (.inl ⟨by rfl, fun _ hw => ⟨run_eq_of ?run2, ?guar2⟩⟩) hF ?rest2; (case run2 => (intro K hK; obtain ⟨dx, hdx⟩ := hw; subst hdx; go_simp; exact hK)); (case guar2 => (obtain ⟨dx, hdx⟩ := hw; subst hdx; refine DR.quiet (fun e he => ?_); have hm := mem_listed he; simp [go_sem, *] at hm; try (subst hm; exact evR_read _ _))); try walk_nrm)
    (co_applyP anyCH_take termsR (fun _ _ h r => hrl _ _ h r) (fun _ _ _ h r => ⟨h.1, hrl _ _ h.2.1 r, h.2.2⟩) (i := 1) rfl (by first | kernel_rfl | decide +kernel) (by first | kernel_rfl | decide +kernel) (by first | kernel_rfl | decide +kernel) (.inl ⟨by rfl, fun _ hw => ⟨run_eq_of ?run3, ?guar3⟩⟩) hF ?rest3; (case run3 => (intro K hK; obtain ⟨dx, hdx⟩ := hw; subst hdx; go_simp; exact hK)); (case guar3 => (obtain ⟨dx, hdx⟩ := hw; subst hdx; refine DR.quiet (fun e he => ?_); have hm := mem_listed he; simp [go_sem, *] at hm; try (subst hm; exact evR_read _ _))); try walk_nrm)
    (co_applyP anyCH_take termsR (fun _ _ h r => hrl _ _ h r) (fun _ _ _ h r => ⟨h.1, hrl _ _ h.2.1 r, h.2.2⟩) (i := 2) rfl (by first | kernel_rfl | decide +kernel) (by first | kernel_rfl | decide +kernel) (by first | kernel_rfl | decide +kernel) (.inl ⟨by rfl, fun _ hw => ⟨run_eq_of ?run4, ?guar4⟩⟩) hF ?rest4; (case run4 => (intro K hK; obtain ⟨dx, hdx⟩ := hw; subst hdx; go_simp; exact hK)); (case guar4 => (obtain ⟨dx, hdx⟩ := hw; subst hdx; refine DR.quiet (fun e he => ?_); have hm := mem_listed he; simp [go_sem, *] at hm; try (subst hm; exact evR_read _ _))); try walk_nrm)
    (co_applyP anyCH_take termsR (fun _ _ h r => hrl _ _ h r) (fun _ _ _ h r => ⟨h.1, hrl _ _ h.2.1 r, h.2.2⟩) (i := 3) rfl (by first | kernel_rfl | decide +kernel) (by first | kernel_rfl | decide +kernel) (by first | kernel_rfl | decide +kernel) (.inl ⟨by rfl, fun _ hw => ⟨run_eq_of ?run5, ?guar5⟩⟩) hF ?rest5; (case run5 => (intro K hK; obtain ⟨dx, hdx⟩ := hw; subst hdx; go_simp; exact hK)); (case guar5 => (obtain ⟨dx, hdx⟩ := hw; subst hdx; refine DR.quiet (fun e he => ?_); have hm := mem_listed he; simp [go_sem, *] at hm; try (subst hm; exact evR_read _ _))); try walk_nrm)
    (co_applyP anyCH_take termsR (fun _ _ h r => hrl _ _ h r) (fun _ _ _ h r => ⟨h.1, hrl _ _ h.2.1 r, h.2.2⟩) (i := 4) rfl (by first | kernel_rfl | decide +kernel) (by first | kernel_rfl | decide +kernel) (by first | kernel_rfl | decide +kernel) (.inl ⟨by rfl, fun _ hw => ⟨run_eq_of ?run6, ?guar6⟩⟩) hF ?rest6; (case run6 => (intro K hK; obtain ⟨dx, hdx⟩ := hw; subst hdx; go_simp; exact hK)); (case guar6 => (obtain ⟨dx, hdx⟩ := hw; subst hdx; refine DR.quiet (fun e he => ?_); have hm := mem_listed he; simp [go_sem, *] at hm; try (subst hm; exact evR_read _ _))); try walk_nrm)
    (co_applyP anyCH_take termsR (fun _ _ h r => hrl _ _ h r) (fun _ _ _ h r => ⟨h.1, hrl _ _ h.2.1 r, h.2.2⟩) (i := 5) rfl (by first | kernel_rfl | decide +kernel) (by first | kernel_rfl | decide +kernel) (by first | kernel_rfl | decide +kernel) (.inl ⟨by rfl, fun _ hw => ⟨run_eq_of ?run7, ?guar7⟩⟩) hF ?rest7; (case run7 => (intro K hK; obtain ⟨dx, hdx⟩ := hw; subst hdx; go_simp; exact hK)); (case guar7 => (obtain ⟨dx, hdx⟩ := hw; subst hdx; refine DR.quiet (fun e he => ?_); have hm := mem_listed he; simp [go_sem, *] at hm; try (subst hm; exact evR_read _ _))); try walk_nrm)
    (co_applyP anyCH_take termsR (fun _ _ h r => hrl _ _ h r) (fun _ _ _ h r => ⟨h.1, hrl _ _ h.2.1 r, h.2.2⟩) (i := 6) rfl (by first | kernel_rfl | decide +kernel) (by first | kernel_rfl | decide +kernel) (by first | kernel_rfl | decide +kernel) (.inl ⟨by rfl, fun _ hw => ⟨run_eq_of ?run8, ?guar8⟩⟩) hF ?rest8; (case run8 => (intro K hK; obtain ⟨dx, hdx⟩ := hw; subst hdx; go_simp; exact hK)); (case guar8 => (obtain ⟨dx, hdx⟩ := hw; subst hdx; refine DR.quiet (fun e he => ?_); have hm := mem_listed he; simp [go_sem, *] at hm; try (subst hm; exact evR_read _ _))); try walk_nrm)
    (co_applyP anyCH_take termsR (fun _ _ h r => hrl _ _ h r) (fun _ _ _ h r => ⟨h.1, hrl _ _ h.2.1 r, h.2.2⟩) (i := 7) rfl (by first | kernel_rfl | decide +kernel) (by first | kernel_rfl | decide +kernel) (by first | kernel_rfl | decide +kernel) (.inl ⟨by rfl, fun _ hw => ⟨run_eq_of ?run9, ?guar9⟩⟩) hF ?rest9; (case run9 => (intro K hK; obtain ⟨dx, hdx⟩ := hw; subst hdx; go_simp; exact hK)); (case guar9 => (obtain ⟨dx, hdx⟩ := hw; subst hdx; refine DR.quiet (fun e he => ?_); have hm := mem_listed he; simp [go_sem, *] at hm; try (subst hm; exact evR_read _ _))); try walk_nrm)
    (co_applyP anyCH_take termsR (fun _ _ h r => hrl _ _ h r) (fun _ _ _ h r => ⟨h.1, hrl _ _ h.2.1 r, h.2.2⟩) (i := 8) rfl (by first | kernel_rfl | decide +kernel) (by first | kernel_rfl | decide +kernel) (by first | kernel_rfl | decide +kernel) (.inl ⟨by rfl, fun _ hw => ⟨run_eq_of ?run10, ?guar10⟩⟩) hF ?rest10; (case run10 => (intro K hK; obtain ⟨dx, hdx⟩ := hw; subst hdx; go_simp; exact hK)); (case guar10 => (obtain ⟨dx, hdx⟩ := hw; subst hdx; refine DR.quiet (fun e he => ?_); have hm := mem_listed he; simp [go_sem, *] at hm; try (subst hm; exact evR_read _ _))); try walk_nrm)
    (co_applyP anyCH_take termsR (fun _ _ h r => hrl _ _ h r) (fun _ _ _ h r => ⟨h.1, hrl _ _ h.2.1 r, h.2.2⟩) (i := 9) rfl (by first | kernel_rfl | decide +kernel) (by first | kernel_rfl | decide +kernel) (by first | kernel_rfl | decide +kernel) (.inr ⟨by rfl, rfl⟩) hF ?rest15; try walk_nrm)
    (co_applyP anyCH_take termsR (fun _ _ h r => hrl _ _ h r) (fun _ _ _ h r => ⟨h.1, hrl _ _ h.2.1 r, h.2.2⟩) (i := 10) rfl (by first | kernel_rfl | decide +kernel) (by first | kernel_rfl | decide +kernel) (by first | kernel_rfl | decide +kernel) (.inr ⟨by rfl, rfl⟩) hF ?rest16; try walk_nrm)
    (co_applyP anyCH_take termsR (fun _ _ h r => hrl _ _ h r) (fun _ _ _ h r => ⟨h.1, hrl _ _ h.2.1 r, h.2.2⟩) (i := 11) rfl (by first | kernel_rfl | decide +kernel) (by first | kernel_rfl | decide +kernel) (by first | kernel_rfl | decide +kernel) (.inr ⟨by rfl, rfl⟩) hF ?rest17; try walk_nrm)
    (co_applyP anyCH_take termsR (fun _ _ h r => hrl _ _ h r) (fun _ _ _ h r => ⟨h.1, hrl _ _ h.2.1 r, h.2.2⟩) (i := 12) rfl (by first | kernel_rfl | decide +kernel) (by first | kernel_rfl | decide +kernel) (by first | kernel_rfl | decide +kernel) (.inl ⟨by rfl, fun _ hw => ⟨run_eq_of ?run11, ?guar11⟩⟩) hF ?rest11; (case run11 => (intro K hK; obtain ⟨dx, hdx⟩ := hw; subst hdx; go_simp; exact hK)); (case guar11 => (obtain ⟨dx, hdx⟩ := hw; subst hdx; refine DR.quiet (fun e he => ?_); have hm := mem_listed he; simp [go_sem, *] at hm; try (subst hm; exact evR_read _ _))); try walk_nrm)
    (co_applyP anyCH_take termsR (fun _ _ h r => hrl _ _ h r) (fun _ _ _ h r => ⟨h.1, hrl _ _ h.2.1 r, h.2.2⟩) (i := 13) rfl (by first | kernel_rfl | decide +kernel) (by first | kernel_rfl | decide +kernel) (by first | kernel_rfl | decide +kernel) (.inl ⟨by rfl, fun _ hw => ⟨run_eq_of ?run12, ?guar12⟩⟩) hF ?rest12; (case run12 => (intro K hK; obtain ⟨dx, hdx⟩ := hw; subst hdx; go_simp; exact hK)); (case guar12 => (obtain ⟨dx, hdx⟩ := hw; subst hdx; refine DR.quiet (fun e he => ?_); have hm := mem_listed he; simp [go_sem, *] at hm; try (subst hm; exact evR_read _ _))); try walk_nrm)
    (co_applyP anyCH_take termsR (fun _ _ h r => hrl _ _ h r) (fun _ _ _ h r => ⟨h.1, hrl _ _ h.2.1 r, h.2.2⟩) (i := 14) rfl (by first | kernel_rfl | decide +kernel) (by first | kernel_rfl | decide +kernel) (by first | kernel_rfl | decide +kernel) (.inr ⟨by rfl, rfl⟩) hF ?rest18; try walk_nrm)
    (co_applyP anyCH_take termsR (fun _ _ h r => hrl _ _ h r) (fun _ _ _ h r => ⟨h.1, hrl _ _ h.2.1 r, h.2.2⟩) (i := 15) rfl (by first | kernel_rfl | decide +kernel) (by first | kernel_rfl | decide +kernel) (by first | kernel_rfl | decide +kernel) (.inr ⟨by rfl, rfl⟩) hF ?rest19; try walk_nrm)
    (co_applyP anyCH_take termsR (fun _ _ h r => hrl _ _ h r) (fun _ _ _ h r => ⟨h.1, hrl _ _ h.2.1 r, h.2.2⟩) (i := 16) rfl (by first | kernel_rfl | decide +kernel) (by first | kernel_rfl | decide +kernel) (by first | kernel_rfl | decide +kernel) (.inr ⟨by rfl, rfl⟩) hF ?rest20; try walk_nrm)
    (co_applyP anyCH_take termsR (fun _ _ h r => hrl _ _ h r) (fun _ _ _ h r => ⟨h.1, hrl _ _ h.2.1 r, h.2.2⟩) (i := 17) rfl (by first | kernel_rfl | decide +kernel) (by first | kernel_rfl | decide +kernel) (by first | kernel_rfl | decide +kernel) (.inr ⟨by rfl, rfl⟩) hF ?rest21; try walk_nrm)
    (co_applyP anyCH_take termsR (fun _ _ h r => hrl _ _ h r) (fun _ _ _ h r => ⟨h.1, hrl _ _ h.2.1 r, h.2.2⟩) (i := 18) rfl (by first | kernel_rfl | decide +kernel) (by first | kernel_rfl | decide +kernel) (by first | kernel_rfl | decide +kernel) (.inr ⟨by rfl, rfl⟩) hF ?rest22; try walk_nrm)
    (co_applyP anyCH_take termsR (fun _ _ h r => hrl _ _ h r) (fun _ _ _ h r => ⟨h.1, hrl _ _ h.2.1 r, h.2.2⟩) (i := 19) rfl (by first | kernel_rfl | decide +kernel) (by first | kernel_rfl | decide +kernel) (by first | kernel_rfl | decide +kernel) (.inr ⟨by rfl, rfl⟩) hF ?rest23; try walk_nrm)
    (co_applyP anyCH_take termsR (fun _ _ h r => hrl _ _ h r) (fun _ _ _ h r => ⟨h.1, hrl _ _ h.2.1 r, h.2.2⟩) (i := 20) rfl (by first | kernel_rfl | decide +kernel) (by first | kernel_rfl | decide +kernel) (by first | kernel_rfl | decide +kernel) (.inr ⟨by rfl, rfl⟩) hF ?rest24; try walk_nrm)
    (co_applyP anyCH_take termsR (fun _ _ h r => hrl _ _ h r) (fun _ _ _ h r => ⟨h.1, hrl _ _ h.2.1 r, h.2.2⟩) (i := 21) rfl (by first | kernel_rfl | decide +kernel) (by first | kernel_rfl | decide +kernel) (by first | kernel_rfl | decide +kernel) (.inr ⟨by rfl, rfl⟩) hF ?rest25; try walk_nrm)
    (co_applyP anyCH_take termsR (fun _ _ h r => hrl _ _ h r) (fun _ _ _ h r => ⟨h.1, hrl _ _ h.2.1 r, h.2.2⟩) (i := 22) rfl (by first | kernel_rfl | decide +kernel) (by first | kernel_rfl | decide +kernel) (by first | kernel_rfl | decide +kernel) (.inl ⟨by rfl, fun _ hw => ⟨run_eq_of ?run13, ?guar13⟩⟩) hF ?rest13; (case run13 => (intro K hK; obtain ⟨dx, hdx⟩ := hw; subst hdx; go_simp; exact hK)); (case guar13 => (obtain ⟨dx, hdx⟩ := hw; subst hdx; refine DR.quiet (fun e he => ?_); have hm := mem_listed he; simp [go_sem, *] at hm; try (subst hm; exact evR_read _ _))); try walk_nrm)
    (co_applyP anyCH_take termsR (fun _ _ h r => hrl _ _ h r) (fun _ _ _ h r => ⟨h.1, hrl _ _ h.2.1 r, h.2.2⟩) (i := 23) rfl (by first | kernel_rfl | decide +kernel) (by first | kernel_rfl | decide +kernel) (by first | kernel_rfl | decide +kernel) (.inl ⟨by rfl, fun _ hw => ⟨run_eq_of ?run14, ?guar14⟩⟩) hF ?rest14; (case run14 => (intro K hK; obtain ⟨dx, hdx⟩ := hw; subst hdx; go_simp; exact hK)); (case guar14 => (obtain ⟨dx, hdx⟩ := hw; subst hdx; refine DR.quiet (fun e he => ?_); have hm := mem_listed he; simp [go_sem, *] at hm; try (subst hm; exact evR_read _ _))); try walk_nrm)
    refine anyCH_done (by first | kernel_rfl | decide +kernel) ⟨rfl, hF, by simp, rfl⟩ _
  · rintro a' w' ⟨d, rfl⟩ ⟨h, hd⟩
    repeat (first | (refine Walk.c rfl ?_) | (refine Walk.cReg ?_; simp only [List.size_toArray, List.length_cons, List.length_nil, Nat.reduceAdd, Nat.zero_add, List.range, List.range.loop]) | (refine Walk.cRet ?_) | (refine Walk.cEnd ?_) | (refine Walk.opq (ho_of (by conv => lhs; whnf) (by kernel_rfl)) (by rfl) (by decide) (fun dd e he => ?_) (fun dd K hK => ?_); (· (simp [go_sem, *] at he; try (subst he; exact evR_read _ _))); go_simp; refine hK _ ?_; clear hK K; try walk_nrm) | (refine Walk.ctl rfl (fun w => stepG_unwanted (ho_of (by conv => lhs; whnf) (by kernel_rfl)) (by rfl)) ?_; walk_nrm))
    exact Walk.ret1 rfl hd Try.func71 rfl fun d' => ⟨h, d', rfl⟩
end Go.Proofs.Ytgiiicdpbdfemaa
end

/- Package turn's programs, in company: a step at no word. -/
section
namespace Go.Proofs.Ytgiiicdpbdfemaa
open Go.Conc Go.RowKit Go.Relay
open Go.ConcN (upd upd_ne upd_same)

variable {main : Bool} {V : Nat → Option Wait}

set_option maxHeartbeats 8000000 in
set_option maxRecDepth 100000 in
theorem isStep_neg (W : Nat) (cd cr ca cb cv : Int) (w : World) (g1 : 7 ≤ cd) (g2 : cd ≤ 11) (g3 : ca < 0) :
    CallV Try.prog main V 71 #[.pointer (some ⟨W, 0, none⟩), .agg #[.int .i64 cd, .int .i64 cr, .int .i64 ca, .int .i64 cb, .int .i64 cv]] w (.bool false) (w.alloc (.cells #[.int .i64 cd, .int .i64 cr, .int .i64 ca, .int .i64 cb, .int .i64 cv] 99)) := by
  refine callW_in Try.func71 rfl fun fr cs => ?_
  simp only [Try.ntmps71, List.size_toArray, List.length_cons, List.length_nil, Nat.reduceAdd, Nat.reduceSub, Array.replicate_succ, Array.replicate_zero, List.push_toArray, List.append_toArray, List.nil_append, List.cons_append]
  repeat (first | (refine Walk.c rfl ?_) | (refine Walk.cReg ?_; simp only [List.size_toArray, List.length_cons, List.length_nil, Nat.reduceAdd, Nat.zero_add, List.range, List.range.loop]) | (refine Walk.cRet ?_) | (refine Walk.cEnd ?_) | (refine Walk.opq (ho_of (by conv => lhs; whnf) (by kernel_rfl)) (by rfl) (by decide) (fun dd e he => ?_) (fun dd K hK => ?_); (· (simp [go_sem, *] at he; try (subst he; exact evR_read _ _))); go_simp; refine hK _ ?_; clear hK K; try walk_nrm) | (refine Walk.ctl rfl (fun w => stepG_unwanted (ho_of (by conv => lhs; whnf) (by kernel_rfl)) (by rfl)) ?_; walk_nrm))
  (co_applyP Walk.opw (ho_of (by conv => lhs; whnf) (by kernel_rfl)) (by rfl) (by decide) ?wev1 ?wdr1 ?wrun1; (case' wrun1 => (intro dd K hK; go_simp; simp only [alloc_at', setCell_at']; refine hK _ ?wmore1; clear hK K)); (case wdr1 => exact fun dd es hes => DR.alloc' dd es hes); (case wev1 => (intro dd e he; simp [go_sem, *] at he)); try walk_nrm)
  repeat (first | (refine Walk.c rfl ?_) | (refine Walk.cReg ?_; simp only [List.size_toArray, List.length_cons, List.length_nil, Nat.reduceAdd, Nat.zero_add, List.range, List.range.loop]) | (refine Walk.cRet ?_) | (refine Walk.cEnd ?_) | (refine Walk.opq (ho_of (by conv => lhs; whnf) (by kernel_rfl)) (by rfl) (by decide) (fun dd e he => ?_) (fun dd K hK => ?_); (· (simp [go_sem, *] at he; try (subst he; exact evR_read _ _))); go_simp; refine hK _ ?_; clear hK K; try walk_nrm) | (refine Walk.ctl rfl (fun w => stepG_unwanted (ho_of (by conv => lhs; whnf) (by kernel_rfl)) (by rfl)) ?_; walk_nrm))
  have b0 := World.cell?_alloc_at (w := w) #[.int .i64 cd, .int .i64 cr, .int .i64 ca, .int .i64 cb, .int .i64 cv] 99 w.heap.size 0 rfl
  have b2 := World.cell?_alloc_at (w := w) #[.int .i64 cd, .int .i64 cr, .int .i64 ca, .int .i64 cb, .int .i64 cv] 99 w.heap.size 2 rfl
  replace b0 : (w.alloc (.cells #[.int .i64 cd, .int .i64 cr, .int .i64 ca, .int .i64 cb, .int .i64 cv] 99)).cell? ⟨w.heap.size, 0, none⟩ = some (.int .i64 cd) := b0
  replace b2 : (w.alloc (.cells #[.int .i64 cd, .int .i64 cr, .int .i64 ca, .int .i64 cb, .int .i64 cv] 99)).cell? ⟨w.heap.size, 2, none⟩ = some (.int .i64 ca) := b2
  generalize w.alloc (.cells #[.int .i64 cd, .int .i64 cr, .int .i64 ca, .int .i64 cb, .int .i64 cv] 99) = w1 at *
  generalize w.heap.size = X at *
  have d1 : decide (7 ≤ cd) = true := decide_eq_true (by omega)
  have d2 : decide (cd ≤ 11) = true := decide_eq_true (by omega)
  have d3 : decide (0 ≤ ca) = false := decide_eq_false (by omega)
  let S : World → Prop := fun w' => ∃ d, w' = w1.at d
  have hrl : ∀ w₁ w₂, S w₁ → AtRel w₁ w₂ → S w₂ := by
    rintro _ _ ⟨d, rfl⟩ ⟨d', rfl⟩; exact ⟨d', rfl⟩
  have hF : S w1 := ⟨w1.drawn, rfl⟩
  refine Walk.held S hrl hF (by kernel_rfl) (by decide) (Q := fun a' => a'.tmps.getD 4 undef = .bool false ∧ a'.defers = []) (fun w₁ hF => ?_) ?_
  · simp only [List.size_toArray, List.length_cons, List.length_nil, Nat.reduceAdd, Nat.zero_add]
    (co_applyP anyCH_take termsR (fun _ _ h r => hrl _ _ h r) (fun _ _ _ h r => ⟨h.1, hrl _ _ h.2.1 r, h.2.2⟩) (i := 0) rfl (by first | kernel_rfl | decide +kernel) (by first | kernel_rfl | decide +kernel) (by first | kernel_rfl | decide +kernel) (.inl ⟨by rfl, fun _ hw => ⟨run_eq_of ?run2, ?guar2⟩⟩) hF ?rest2; (case run2 => (intro K hK; obtain ⟨dx, hdx⟩ := hw; subst hdx; go_simp; exact hK)); (case guar2 => (obtain ⟨dx, hdx⟩ := hw; subst hdx; refine DR.quiet (fun e he => ?_); have hm := mem_listed he; simp [go_sem, *] at hm; try (subst hm; exact evR_read _ _))); try walk_nrm)
    (co_applyP anyCH_take termsR (fun _ _ h r => hrl _ _ h r) (fun _ _ _ h r => ⟨h.1, hrl _ _ h.2.1 r, h.2.2⟩) (i := 1) rfl (by first | kernel_rfl | decide +kernel) (by first | kernel_rfl | decide +kernel) (by first | kernel_rfl | decide +kernel) (.inl ⟨by rfl, fun _ hw => ⟨run_eq_of ?run3, ?guar3⟩⟩) hF ?rest3; (case run3 => (intro K hK; obtain ⟨dx, hdx⟩ := hw; subst hdx; go_simp; exact hK)); (case guar3 => (obtain ⟨dx, hdx⟩ := hw; subst hdx; refine DR.quiet (fun e he => ?_); have hm := mem_listed he; simp [go_sem, *] at hm; try (subst hm; exact evR_read _ _))); try walk_nrm)
    (co_applyP anyCH_take termsR (fun _ _ h r => hrl _ _ h r) (fun _ _ _ h r => ⟨h.1, hrl _ _ h.2.1 r, h.2.2⟩) (i := 2) rfl (by first | kernel_rfl | decide +kernel) (by first | kernel_rfl | decide +kernel) (by first | kernel_rfl | decide +kernel) (.inl ⟨by rfl, fun _ hw => ⟨run_eq_of ?run4, ?guar4⟩⟩) hF ?rest4; (case run4 => (intro K hK; obtain ⟨dx, hdx⟩ := hw; subst hdx; go_simp; exact hK)); (case guar4 => (obtain ⟨dx, hdx⟩ := hw; subst hdx; refine DR.quiet (fun e he => ?_); have hm := mem_listed he; simp [go_sem, *] at hm; try (subst hm; exact evR_read _ _))); try walk_nrm)
    (co_applyP anyCH_take termsR (fun _ _ h r => hrl _ _ h r) (fun _ _ _ h r => ⟨h.1, hrl _ _ h.2.1 r, h.2.2⟩) (i := 3) rfl (by first | kernel_rfl | decide +kernel) (by first | kernel_rfl | decide +kernel) (by first | kernel_rfl | decide +kernel) (.inl ⟨by rfl, fun _ hw => ⟨run_eq_of ?run5, ?guar5⟩⟩) hF ?rest5; (case run5 => (intro K hK; obtain ⟨dx, hdx⟩ := hw; subst hdx; go_simp; exact hK)); (case guar5 => (obtain ⟨dx, hdx⟩ := hw; subst hdx; refine DR.quiet (fun e he => ?_); have hm := mem_listed he; simp [go_sem, *] at hm; try (subst hm; exact evR_read _ _))); try walk_nrm)
    (co_applyP anyCH_take termsR (fun _ _ h r => hrl _ _ h r) (fun _ _ _ h r => ⟨h.1, hrl _ _ h.2.1 r, h.2.2⟩) (i := 4) rfl (by first | kernel_rfl | decide +kernel) (by first | kernel_rfl | decide +kernel) (by first | kernel_rfl | decide +kernel) (.inl ⟨by rfl, fun _ hw => ⟨run_eq_of ?run6, ?guar6⟩⟩) hF ?rest6; (case run6 => (intro K hK; obtain ⟨dx, hdx⟩ := hw; subst hdx; go_simp; exact hK)); (case guar6 => (obtain ⟨dx, hdx⟩ := hw; subst hdx; refine DR.quiet (fun e he => ?_); have hm := mem_listed he; simp [go_sem, *] at hm; try (subst hm; exact evR_read _ _))); try walk_nrm)
    (co_applyP anyCH_take termsR (fun _ _ h r => hrl _ _ h r) (fun _ _ _ h r => ⟨h.1, hrl _ _ h.2.1 r, h.2.2⟩) (i := 5) rfl (by first | kernel_rfl | decide +kernel) (by first | kernel_rfl | decide +kernel) (by first | kernel_rfl | decide +kernel) (.inl ⟨by rfl, fun _ hw => ⟨run_eq_of ?run7, ?guar7⟩⟩) hF ?rest7; (case run7 => (intro K hK; obtain ⟨dx, hdx⟩ := hw; subst hdx; go_simp; exact hK)); (case guar7 => (obtain ⟨dx, hdx⟩ := hw; subst hdx; refine DR.quiet (fun e he => ?_); have hm := mem_listed he; simp [go_sem, *] at hm; try (subst hm; exact evR_read _ _))); try walk_nrm)
    (co_applyP anyCH_take termsR (fun _ _ h r => hrl _ _ h r) (fun _ _ _ h r => ⟨h.1, hrl _ _ h.2.1 r, h.2.2⟩) (i := 6) rfl (by first | kernel_rfl | decide +kernel) (by first | kernel_rfl | decide +kernel) (by first | kernel_rfl | decide +kernel) (.inl ⟨by rfl, fun _ hw => ⟨run_eq_of ?run8, ?guar8⟩⟩) hF ?rest8; (case run8 => (intro K hK; obtain ⟨dx, hdx⟩ := hw; subst hdx; go_simp; exact hK)); (case guar8 => (obtain ⟨dx, hdx⟩ := hw; subst hdx; refine DR.quiet (fun e he => ?_); have hm := mem_listed he; simp [go_sem, *] at hm; try (subst hm; exact evR_read _ _))); try walk_nrm)
    (co_applyP anyCH_take termsR (fun _ _ h r => hrl _ _ h r) (fun _ _ _ h r => ⟨h.1, hrl _ _ h.2.1 r, h.2.2⟩) (i := 7) rfl (by first | kernel_rfl | decide +kernel) (by first | kernel_rfl | decide +kernel) (by first | kernel_rfl | decide +kernel) (.inl ⟨by rfl, fun _ hw => ⟨run_eq_of ?run9, ?guar9⟩⟩) hF ?rest9; (case run9 => (intro K hK; obtain ⟨dx, hdx⟩ := hw; subst hdx; go_simp; exact hK)); (case guar9 => (obtain ⟨dx, hdx⟩ := hw; subst hdx; refine DR.quiet (fun e he => ?_); have hm := mem_listed he; simp [go_sem, *] at hm; try (subst hm; exact evR_read _ _))); try walk_nrm)
    (co_applyP anyCH_take termsR (fun _ _ h r => hrl _ _ h r) (fun _ _ _ h r => ⟨h.1, hrl _ _ h.2.1 r, h.2.2⟩) (i := 8) rfl (by first | kernel_rfl | decide +kernel) (by first | kernel_rfl | decide +kernel) (by first | kernel_rfl | decide +kernel) (.inl ⟨by rfl, fun _ hw => ⟨run_eq_of ?run10, ?guar10⟩⟩) hF ?rest10; (case run10 => (intro K hK; obtain ⟨dx, hdx⟩ := hw; subst hdx; go_simp; exact hK)); (case guar10 => (obtain ⟨dx, hdx⟩ := hw; subst hdx; refine DR.quiet (fun e he => ?_); have hm := mem_listed he; simp [go_sem, *] at hm; try (subst hm; exact evR_read _ _))); try walk_nrm)
    (co_applyP anyCH_take termsR (fun _ _ h r => hrl _ _ h r) (fun _ _ _ h r => ⟨h.1, hrl _ _ h.2.1 r, h.2.2⟩) (i := 9) rfl (by first | kernel_rfl | decide +kernel) (by first | kernel_rfl | decide +kernel) (by first | kernel_rfl | decide +kernel) (.inl ⟨by rfl, fun _ hw => ⟨run_eq_of ?run11, ?guar11⟩⟩) hF ?rest11; (case run11 => (intro K hK; obtain ⟨dx, hdx⟩ := hw; subst hdx; go_simp; exact hK)); (case guar11 => (obtain ⟨dx, hdx⟩ := hw; subst hdx; refine DR.quiet (fun e he => ?_); have hm := mem_listed he; simp [go_sem, *] at hm; try (subst hm; exact evR_read _ _))); try walk_nrm)
    (co_applyP anyCH_take termsR (fun _ _ h r => hrl _ _ h r) (fun _ _ _ h r => ⟨h.1, hrl _ _ h.2.1 r, h.2.2⟩) (i := 10) rfl (by first | kernel_rfl | decide +kernel) (by first | kernel_rfl | decide +kernel) (by first | kernel_rfl | decide +kernel) (.inl ⟨by rfl, fun _ hw => ⟨run_eq_of ?run12, ?guar12⟩⟩) hF ?rest12; (case run12 => (intro K hK; obtain ⟨dx, hdx⟩ := hw; subst hdx; go_simp; exact hK)); (case guar12 => (obtain ⟨dx, hdx⟩ := hw; subst hdx; refine DR.quiet (fun e he => ?_); have hm := mem_listed he; simp [go_sem, *] at hm; try (subst hm; exact evR_read _ _))); try walk_nrm)
    (co_applyP anyCH_take termsR (fun _ _ h r => hrl _ _ h r) (fun _ _ _ h r => ⟨h.1, hrl _ _ h.2.1 r, h.2.2⟩) (i := 11) rfl (by first | kernel_rfl | decide +kernel) (by first | kernel_rfl | decide +kernel) (by first | kernel_rfl | decide +kernel) (.inl ⟨by rfl, fun _ hw => ⟨run_eq_of ?run13, ?guar13⟩⟩) hF ?rest13; (case run13 => (intro K hK; obtain ⟨dx, hdx⟩ := hw; subst hdx; go_simp; exact hK)); (case guar13 => (obtain ⟨dx, hdx⟩ := hw; subst hdx; refine DR.quiet (fun e he => ?_); have hm := mem_listed he; simp [go_sem, *] at hm; try (subst hm; exact evR_read _ _))); try walk_nrm)
    (co_applyP anyCH_take termsR (fun _ _ h r => hrl _ _ h r) (fun _ _ _ h r => ⟨h.1, hrl _ _ h.2.1 r, h.2.2⟩) (i := 12) rfl (by first | kernel_rfl | decide +kernel) (by first | kernel_rfl | decide +kernel) (by first | kernel_rfl | decide +kernel) (.inl ⟨by rfl, fun _ hw => ⟨run_eq_of ?run14, ?guar14⟩⟩) hF ?rest14; (case run14 => (intro K hK; obtain ⟨dx, hdx⟩ := hw; subst hdx; go_simp; exact hK)); (case guar14 => (obtain ⟨dx, hdx⟩ := hw; subst hdx; refine DR.quiet (fun e he => ?_); have hm := mem_listed he; simp [go_sem, *] at hm; try (subst hm; exact evR_read _ _))); try walk_nrm)
    (co_applyP anyCH_take termsR (fun _ _ h r => hrl _ _ h r) (fun _ _ _ h r => ⟨h.1, hrl _ _ h.2.1 r, h.2.2⟩) (i := 13) rfl (by first | kernel_rfl | decide +kernel) (by first | kernel_rfl | decide +kernel) (by first | kernel_rfl | decide +kernel) (.inl ⟨by rfl, fun _ hw => ⟨run_eq_of ?run15, ?guar15⟩⟩) hF ?rest15; (case run15 => (intro K hK; obtain ⟨dx, hdx⟩ := hw; subst hdx; go_simp; exact hK)); (case guar15 => (obtain ⟨dx, hdx⟩ := hw; subst hdx; refine DR.quiet (fun e he => ?_); have hm := mem_listed he; simp [go_sem, *] at hm; try (subst hm; exact evR_read _ _))); try walk_nrm)
    (co_applyP anyCH_take termsR (fun _ _ h r => hrl _ _ h r) (fun _ _ _ h r => ⟨h.1, hrl _ _ h.2.1 r, h.2.2⟩) (i := 14) rfl (by first | kernel_rfl | decide +kernel) (by first | kernel_rfl | decide +kernel) (by first | kernel_rfl | decide +kernel) (.inr ⟨by rfl, rfl⟩) hF ?rest18; try walk_nrm)
    (co_applyP anyCH_take termsR (fun _ _ h r => hrl _ _ h r) (fun _ _ _ h r => ⟨h.1, hrl _ _ h.2.1 r, h.2.2⟩) (i := 15) rfl (by first | kernel_rfl | decide +kernel) (by first | kernel_rfl | decide +kernel) (by first | kernel_rfl | decide +kernel) (.inr ⟨by rfl, rfl⟩) hF ?rest19; try walk_nrm)
    (co_applyP anyCH_take termsR (fun _ _ h r => hrl _ _ h r) (fun _ _ _ h r => ⟨h.1, hrl _ _ h.2.1 r, h.2.2⟩) (i := 16) rfl (by first | kernel_rfl | decide +kernel) (by first | kernel_rfl | decide +kernel) (by first | kernel_rfl | decide +kernel) (.inr ⟨by rfl, rfl⟩) hF ?rest20; try walk_nrm)
    (co_applyP anyCH_take termsR (fun _ _ h r => hrl _ _ h r) (fun _ _ _ h r => ⟨h.1, hrl _ _ h.2.1 r, h.2.2⟩) (i := 17) rfl (by first | kernel_rfl | decide +kernel) (by first | kernel_rfl | decide +kernel) (by first | kernel_rfl | decide +kernel) (.inr ⟨by rfl, rfl⟩) hF ?rest21; try walk_nrm)
    (co_applyP anyCH_take termsR (fun _ _ h r => hrl _ _ h r) (fun _ _ _ h r => ⟨h.1, hrl _ _ h.2.1 r, h.2.2⟩) (i := 18) rfl (by first | kernel_rfl | decide +kernel) (by first | kernel_rfl | decide +kernel) (by first | kernel_rfl | decide +kernel) (.inr ⟨by rfl, rfl⟩) hF ?rest22; try walk_nrm)
    (co_applyP anyCH_take termsR (fun _ _ h r => hrl _ _ h r) (fun _ _ _ h r => ⟨h.1, hrl _ _ h.2.1 r, h.2.2⟩) (i := 19) rfl (by first | kernel_rfl | decide +kernel) (by first | kernel_rfl | decide +kernel) (by first | kernel_rfl | decide +kernel) (.inr ⟨by rfl, rfl⟩) hF ?rest23; try walk_nrm)
    (co_applyP anyCH_take termsR (fun _ _ h r => hrl _ _ h r) (fun _ _ _ h r => ⟨h.1, hrl _ _ h.2.1 r, h.2.2⟩) (i := 20) rfl (by first | kernel_rfl | decide +kernel) (by first | kernel_rfl | decide +kernel) (by first | kernel_rfl | decide +kernel) (.inr ⟨by rfl, rfl⟩) hF ?rest24; try walk_nrm)
    (co_applyP anyCH_take termsR (fun _ _ h r => hrl _ _ h r) (fun _ _ _ h r => ⟨h.1, hrl _ _ h.2.1 r, h.2.2⟩) (i := 21) rfl (by first | kernel_rfl | decide +kernel) (by first | kernel_rfl | decide +kernel) (by first | kernel_rfl | decide +kernel) (.inr ⟨by rfl, rfl⟩) hF ?rest25; try walk_nrm)
    (co_applyP anyCH_take termsR (fun _ _ h r => hrl _ _ h r) (fun _ _ _ h r => ⟨h.1, hrl _ _ h.2.1 r, h.2.2⟩) (i := 22) rfl (by first | kernel_rfl | decide +kernel) (by first | kernel_rfl | decide +kernel) (by first | kernel_rfl | decide +kernel) (.inl ⟨by rfl, fun _ hw => ⟨run_eq_of ?run16, ?guar16⟩⟩) hF ?rest16; (case run16 => (intro K hK; obtain ⟨dx, hdx⟩ := hw; subst hdx; go_simp; exact hK)); (case guar16 => (obtain ⟨dx, hdx⟩ := hw; subst hdx; refine DR.quiet (fun e he => ?_); have hm := mem_listed he; simp [go_sem, *] at hm; try (subst hm; exact evR_read _ _))); try walk_nrm)
    (co_applyP anyCH_take termsR (fun _ _ h r => hrl _ _ h r) (fun _ _ _ h r => ⟨h.1, hrl _ _ h.2.1 r, h.2.2⟩) (i := 23) rfl (by first | kernel_rfl | decide +kernel) (by first | kernel_rfl | decide +kernel) (by first | kernel_rfl | decide +kernel) (.inl ⟨by rfl, fun _ hw => ⟨run_eq_of ?run17, ?guar17⟩⟩) hF ?rest17; (case run17 => (intro K hK; obtain ⟨dx, hdx⟩ := hw; subst hdx; go_simp; exact hK)); (case guar17 => (obtain ⟨dx, hdx⟩ := hw; subst hdx; refine DR.quiet (fun e he => ?_); have hm := mem_listed he; simp [go_sem, *] at hm; try (subst hm; exact evR_read _ _))); try walk_nrm)
    refine anyCH_done (by first | kernel_rfl | decide +kernel) ⟨rfl, hF, by simp, rfl⟩ _
  · rintro a' w' ⟨d, rfl⟩ ⟨h, hd⟩
    repeat (first | (refine Walk.c rfl ?_) | (refine Walk.cReg ?_; simp only [List.size_toArray, List.length_cons, List.length_nil, Nat.reduceAdd, Nat.zero_add, List.range, List.range.loop]) | (refine Walk.cRet ?_) | (refine Walk.cEnd ?_) | (refine Walk.opq (ho_of (by conv => lhs; whnf) (by kernel_rfl)) (by rfl) (by decide) (fun dd e he => ?_) (fun dd K hK => ?_); (· (simp [go_sem, *] at he; try (subst he; exact evR_read _ _))); go_simp; refine hK _ ?_; clear hK K; try walk_nrm) | (refine Walk.ctl rfl (fun w => stepG_unwanted (ho_of (by conv => lhs; whnf) (by kernel_rfl)) (by rfl)) ?_; walk_nrm))
    exact Walk.ret1 rfl hd Try.func71 rfl fun d' => ⟨h, d', rfl⟩
end Go.Proofs.Ytgiiicdpbdfemaa
end
