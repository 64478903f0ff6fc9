/- Part 1. -/
import Derived.Test.YtbmijpkdghkbbaaJ1
import Derived.Test.YtbmijpkdghkbbaaJ2
import Derived.Test.YtbmijpkdghkbbaaJ3
import Derived.Test.YtbmijpkdghkbbaaJ4
import Derived.Test.YtbmijpkdghkbbaaJ5
import Derived.Test.YtbmijpkdghkbbaaJ6
import Derived.Test.YtbmijpkdghkbbaaJ7
import Derived.Test.YtbmijpkdghkbbaaJ8
import Derived.Test.YtbmijpkdghkbbaaJ10
import Derived.Test.YtbmijpkdghkbbaaJ12
import Derived.Test.YtbmijpkdghkbbaaJ13
import Derived.Test.YtbmijpkdghkbbaaJ14
import Derived.Test.YtbmijpkdghkbbaaJ15
import Derived.Test.YtbmijpkdghkbbaaJ16
import Derived.Test.YtbmijpkdghkbbaaJ17
import Derived.Test.YtbmijpkdghkbbaaJ18
import Derived.Test.YtbmijpkdghkbbaaJ20
import Derived.Test.YtbmijpkdghkbbaaJ21
import Derived.Test.YtbmijpkdghkbbaaJ22
import Derived.Test.YtbmijpkdghkbbaaJ23
import Derived.Test.YtbmijpkdghkbbaaJ24
import Derived.Test.YtbmijpkdghkbbaaJ25
import Derived.Test.YtbmijpkdghkbbaaJ26
import Derived.Test.YtbmijpkdghkbbaaJ27
set_option linter.unusedSimpArgs false
set_option linter.unusedVariables false
set_option maxHeartbeats 8000000
set_option maxRecDepth 100000
namespace Go.Proofs.Ytbmijpkdghkbbaa
open Go.Conc Go.RowKit Go.Relay
open Go.ConcN (upd upd_ne upd_same)
theorem settleO_cons (L : La) (th : Int) (s : L.Sg) (o : OpV) (l : List OpV) (az : List Ans) : settleO L th s (o :: l) az = landO L th (L.enter s th o) l az := rfl
section
section
variable {b : Frame} {k : List Item} {cs : List Frame} {ops : Array Oper} {Post : Goroutine → World → Prop}
theorem Runs.drawnR {id : Nat} {a : Act} {w : World} {Inv : (Nat → Bool) → Act → World → Prop} (hm : Try.prog.follows .mixedOrders = true) (hlow : lowW ops = true) (h0 : ∀ d, Inv (fun _ => false) a (w.at d))
    (hop : ∀ f i o a w, Inv f a w → Closed ops f → f i = false → ops[i]? = some o → (∀ x ∈ o.after, Region.binds .any x = true → f x.on = true) → ∀ rest, (∀ a' w', Inv (upd f i true) a' w' → Runs Post (G (b.at a' (.inRegion ops rest :: k)) cs) w') → Runs Post (G (b.at a (.inRegion ops (i :: rest) :: k)) cs) w)
    (hend : ∀ f a w, Inv f a w → (∀ i, i < ops.size → f i = true) → Runs Post (G (b.at a (.inRegion ops [] :: k)) cs) w) : Runs Post (G (b.at a (.code (.region id ops true) :: k)) cs) w := by
  have hu : upTo (Array.replicate ops.size false) = fun _ => false := by
    funext j
    unfold upTo
    rw [Array.getD_eq_getD_getElem?, Array.getElem?_replicate]
    split <;> rfl
  refine Runs.walk (Stop := fun g w' => ∃ t d, g = G (b.at a (.inRegion ops (Region.linearise .any ops t) :: k)) cs ∧ w' = w.at d) ?_ ?_
  · refine Walk.step rfl (fun d => G (b.at a (.inRegion ops (Region.linearise .any ops (w.tape d (.order b.fn id))) :: k)) cs) (fun d => w.at (d + 1)) (fun _ => #[]) (fun d => ?_) (fun d => drawsR _) (fun d => .stop fun d' => ⟨w.tape d (.order b.fn id), d', rfl, rfl⟩)
    rw [stepG_region_draw]
    simp only [Region.schedule, hm, Bool.true_or, if_true]
    rfl
  · rintro _ _ ⟨t, d, rfl, rfl⟩
    refine anyE (E := World) (Good := fun rest a w => Runs Post (G (b.at a (.inRegion ops rest :: k)) cs) w) hlow hop hend ops.size _ _ a (w.at d) (by simp) (by rw [hu]; exact h0 d) (by rw [hu]; intro _ _ _ h; cases h) ?_
    unfold Go.Relay.leftOf
    exact Nat.le_trans List.countP_le_length (by simp)
end
end
end Go.Proofs.Ytbmijpkdghkbbaa
namespace Go.Relay
section
open Go.Conc Go.RowKit
def Sizes (w w' : World) : Prop := ∀ (b : Nat) (cur : Array Value) (t : TypeId), w.heap[b]? = some (.cells cur t (0, 0)) → ∃ cur' : Array Value, w'.heap[b]? = some (.cells cur' t (0, 0)) ∧ cur'.size = cur.size
theorem Sizes.refl (w : World) : Sizes w w := fun _ cur _ h => ⟨cur, h, rfl⟩
theorem Sizes.trans {w w1 w2 : World} (h : Sizes w w1) (h' : Sizes w1 w2) : Sizes w w2 := fun b cur t hb => by
  obtain ⟨c1, e1, s1⟩ := h b cur t hb
  obtain ⟨c2, e2, s2⟩ := h' b c1 t e1
  exact ⟨c2, e2, s2.trans s1⟩
theorem Sizes.old {w w' : World} (h : ∀ b, b < w.heap.size → w'.heap[b]? = w.heap[b]?) : Sizes w w' := fun b cur t hb => ⟨cur, (h b (Array.getElem?_eq_some_iff.1 hb).1).trans hb, rfl⟩
theorem append_sizes {P : Program} {w w' : World} {v v' : Value} (t ty : TypeId) (base : Nat) (e : TypeId) (i : TypeInfo) (z : Value) (size bytes : Nat) (ht : P.underlying t = some (.slice e)) (hi : P.info? e = some i) (hz : i.zero = some z)
    (hsize : i.size = size) (hby : i.bytes = bytes) (n : Nat) (xs : List Value) (hown : w.ownsRow base e size v n xs)
    (a : Addr) (m c : Nat) (news : List Value) (hl : news.length = m * size) (hnews : ∀ j u, news[j]? = some u → w.cell? (a.add j) = some u) (h1 : ∀ u ∈ news, u.oneCell' = true)
    (hm : 0 < m) (h63 : n + m ≤ maxLen) (hbytes : (n + m) * bytes ≤ 140737488355328) (hr : (Builtin.append_ #[t, t] ty #[v, .slice (some a) m c]).run P w = .ok v' w') : Sizes w w' ∧ ∀ b, b < w.heap.size → v'.ownBlock ≠ some b → w'.heap[b]? = w.heap[b]? := by
  subst hsize
  subst hby
  have hsmall : n + m ≤ 9223372036854775807 := by simp only [maxLen] at h63; omega
  have new : ∀ (o : Obj) (x : Value), Sizes w (w.drew.alloc o) ∧ ∀ b, b < w.heap.size → x.ownBlock ≠ some b → (w.drew.alloc o).heap[b]? = w.heap[b]? := fun o x => by
    have h : ∀ b, b < w.heap.size → (w.drew.alloc o).heap[b]? = w.heap[b]? := fun b hb => by
      show (w.heap.push o)[b]? = w.heap[b]?
      rw [Array.getElem?_push, if_neg (Nat.ne_of_lt hb)]
    exact ⟨Sizes.old h, fun b hb _ => h b hb⟩
  rcases hown.2 with ⟨rfl, rfl⟩ | ⟨g, cap, cur, rfl, hbg, hg, hnc, hcm, hcs, htake⟩
  · have he := run_append_nil (P := P) w t ty e i z ht hi hz a m c news hl hnews hm (by omega) (by simp only [Nat.zero_add] at hbytes; omega)
    rw [he] at hr
    cases hr
    exact new _ _
  · by_cases hroom : n + m ≤ cap
    · have hfit : n * i.size + news.length ≤ cur.size := by rw [hl, hcs, ← Nat.add_mul]; exact Nat.mul_le_mul_right _ hroom
      have he := run_append_room (P := P) w t ty e i ht hi g n cap cur hg a m c news hl hnews h1 hroom hfit
      rw [he] at hr
      cases hr
      refine ⟨fun b cb tb hb => ?_, fun b hb hne => setRow_other w g b _ fun e => hne (by rw [e]; rfl)⟩
      by_cases hbg : b = g
      · subst hbg
        rw [hg] at hb
        cases hb
        exact ⟨_, setRow_heap w b cur _ e _ hg, by simp only [List.size_toArray, List.length_append, List.length_take, List.length_drop, Array.length_toList]; omega⟩
      · exact ⟨cb, (setRow_other w g b _ hbg).trans hb, rfl⟩
    · have he := run_append_grow (P := P) w t ty e i z ht hi hz ⟨g, 0, none⟩ n cap xs hown.1 (hown.cells (g := g) rfl) a m c news hl hnews (by omega) (by omega) (growslice_fits (by omega) hbytes)
      rw [he] at hr
      cases hr
      exact new _ _
section
variable {P : Program} {main : Bool} {V : Nat → Option Wait} {Stop : Goroutine → World → Prop} {w : World} {b : Frame} {a : Act} {k : List Item} {cs : List Frame} {ops : Array Oper} {i : Nat} {rest : List Nat} {o : Oper}
theorem Walk.appendS (s x : Operand) (t : TypeId) (ho : ops[i]? = some o) (hw : Region.wanted o (yielded ops a.tmps) = true) (hk : b.kind ≠ .early) (hop : o.op = .call { callee := .builtin .append, args := #[s, x], argTypes := #[t, t] })
    (base : Nat) (e : TypeId) (ti : TypeInfo) (z : Value) (size bytes : Nat) (ht : P.underlying t = some (.slice e)) (hi : P.info? e = some ti) (hz : ti.zero = some z) (hsize : ti.size = size) (hby : ti.bytes = bytes) (hzs : z.cells.size = size) (hsz : 0 < size)
    (v : Value) (n : Nat) (xs : List Value) (hs : a.eval s = v) (hown : w.ownsRow base e size v n xs)
    (ad : Addr) (m c : Nat) (news : List Value) (hx : a.eval x = .slice (some ad) m c) (hl : news.length = m * size) (hnews : ∀ j u, news[j]? = some u → w.cell? (ad.add j) = some u) (h1 : ∀ u ∈ news, u.oneCell' = true)
    (hm : 0 < m) (h63 : n + m ≤ maxLen) (hbytes : (n + m) * bytes ≤ 140737488355328) (hbase : base ≤ w.heap.size) (hap : ∀ g, v.ownBlock = some g → Apart V g)
    (h : ∀ g cap w', w'.ownsRow base e size (.slice (some ⟨g, 0, none⟩) (n + m) cap) (n + m) (xs ++ news) → w.grownBy w' v.ownBlock → Sizes w w' → (∀ b, b < w.heap.size → b ≠ g → w'.heap[b]? = w.heap[b]?) → (v.ownBlock = some g ∨ g = w.heap.size) → g < w'.heap.size →
      Walk P main (DR V) Stop (G (b.at (a.put o.dst (.slice (some ⟨g, 0, none⟩) (n + m) cap)) (.inRegion ops rest :: k)) cs) w') :
    Walk P main (DR V) Stop (G (b.at a (.inRegion ops (i :: rest) :: k)) cs) w := by
  refine Walk.go rfl fun d => goes_oper_k ho hw hk fun K hK => ?_
  obtain ⟨g, cap, w', hr, hown', hg, hat, hlt⟩ := run_append_lies (P := P) (w := w.at d) t o.type base e ti z size bytes ht hi hz hsize hby hzs hsz v n xs hown ad m c news hl hnews h1 hm h63 hbytes hbase w.heap.size rfl
  have hS := append_sizes (P := P) (w := w.at d) t o.type base e ti z size bytes ht hi hz hsize hby n xs hown ad m c news hl hnews h1 hm h63 hbytes hr
  refine uponK_append s x t hop hs hx hr (hK _ _ ⟨DR.grown hg hap fun ev hev => ?_, h g cap w' hown' ⟨hg.os, hg.tape, hg.output, hg.size, hg.block⟩ hS.1 (fun b hb hne => hS.2 b hb fun e => hne (Option.some.inj e).symm) hat hlt⟩)
  have hm' := mem_listed hev
  rw [events_append_op s x t hop hs hx] at hm'
  rcases events_append_own (w.at d) base t o.type e ti z size bytes ht hi hz hsize hby v n xs hown ad m c news hl hnews h1 h63 hbytes ev hm' with h' | ⟨ad', h', hb⟩ | ⟨mk, h', hn⟩
  · exact evR_isRead h'
  · exact evR_cell h' ((hap _ hb.symm).1 ad' rfl)
  · rw [h', show mk = .noRoom from hn]; exact evR_noRoom
end
end
end Go.Relay
namespace Go.Proofs.Ytbmijpkdghkbbaa
open Go.Conc Go.RowKit Go.Relay
open Go.ConcN (upd upd_ne upd_same)
structure Closing (f : FuncId) (t : Tmp) (v : Value) (g : Goroutine) : Prop where
  all : ∃ fr, g = G fr [] ∧ fr.mode = .returning ∧ fr.kind = .normal ∧ fr.defers = [] ∧ fr.fn = f ∧ fr.tmps.getD t undef = v
theorem ap0 (b : Nat) : Apart (fun _ => none) b := ⟨fun _ _ _ _ h => (by cases h), fun _ _ h => (by cases h)⟩
section
section
variable {P : Program}
theorem eqInB (d : Nat) (t : TypeId) (x y : Bool) (w : World) (es : Array Event) (hu : P.underlying t = some .bool) : (Op.equalIn (d + 1) t (.bool x) (.bool y)).run P w = .ok (x == y) w ∧ (Op.equalIn (d + 1) t (.bool x) (.bool y)).events P w es = es := by
  constructor <;> simp [Op.equalIn, run_underlying hu]
theorem run_neqB (t : TypeId) (hu : P.underlying t = some .bool) (x y : Bool) (w : World) : (binOp .neq t (.bool x) (.bool y)).run P w = .ok (.bool (x != y)) w := by
  simp only [binOp]
  simp [Op.equal, Op.maxDepth, (eqInB 9999 t x y w #[] hu).1, bne]
theorem ev_neqB (t : TypeId) (hu : P.underlying t = some .bool) (x y : Bool) (w : World) (es : Array Event) : (binOp .neq t (.bool x) (.bool y)).events P w es = es := by
  simp only [binOp]
  simp [Op.equal, Op.maxDepth, (eqInB 9999 t x y w #[] hu).1, (eqInB 9999 t x y w es hu).2]
end
theorem und4B : Try.prog.underlying 4 = some .bool := by kernel_rfl
noncomputable def reg38_0 : Array Oper := match Try.f38.body with | some (.seq (.region _ ops _) _) => ops | _ => #[]
theorem size38_0 : reg38_0.size = 1 := by kernel_rfl
noncomputable def reg38_1 : Array Oper := match Try.f38.body with | some (.seq _ (.seq (.seq (.region _ ops _) _) _)) => ops | _ => #[]
theorem size38_1 : reg38_1.size = 5 := by kernel_rfl
noncomputable def reg38_2 : Array Oper := match Try.f38.body with | some (.seq _ (.seq (.seq _ (.cond _ (.seq (.region _ ops _) _) _)) _)) => ops | _ => #[]
theorem size38_2 : reg38_2.size = 1 := by kernel_rfl
noncomputable def reg38_3 : Array Oper := match Try.f38.body with | some (.seq _ (.seq _ (.seq (.seq (.region _ ops _) _) _))) => ops | _ => #[]
theorem size38_3 : reg38_3.size = 1 := by kernel_rfl
noncomputable def reg38_4 : Array Oper := match Try.f38.body with | some (.seq _ (.seq _ (.seq (.seq _ (.block _ (.loop (.seq (.seq (.region _ ops _) _) _)))) _))) => ops | _ => #[]
theorem size38_4 : reg38_4.size = 4 := by kernel_rfl
noncomputable def reg38_6 : Array Oper := match Try.f38.body with | some (.seq _ (.seq _ (.seq (.seq _ (.block _ (.loop (.seq _ (.seq (.block _ (.seq (.region _ ops _) _)) _))))) _))) => ops | _ => #[]
theorem size38_6 : reg38_6.size = 9 := by kernel_rfl
noncomputable def reg38_7 : Array Oper := match Try.f38.body with | some (.seq _ (.seq _ (.seq (.seq _ (.block _ (.loop (.seq _ (.seq (.block _ (.seq _ (.cond _ (.seq (.region _ ops _) _) _))) _))))) _))) => ops | _ => #[]
theorem size38_7 : reg38_7.size = 1 := by kernel_rfl
noncomputable def reg38_5 : Array Oper := match Try.f38.body with | some (.seq _ (.seq _ (.seq (.seq _ (.block _ (.loop (.seq _ (.seq _ (.region _ ops _)))))) _))) => ops | _ => #[]
theorem size38_5 : reg38_5.size = 3 := by kernel_rfl
noncomputable def reg38_8 : Array Oper := match Try.f38.body with | some (.seq _ (.seq _ (.seq _ (.seq (.region _ ops _) _)))) => ops | _ => #[]
theorem size38_8 : reg38_8.size = 1 := by kernel_rfl
theorem code38_is : Try.f38.body = some (.seq (.region 0 reg38_0 false) (.seq (.seq (.region 1 reg38_1 false) (.cond (.tmp 10 ) (.seq (.region 2 reg38_2 false) (.ret)) (.skip))) (.seq (.seq (.region 3 reg38_3 false) (.block 0 (.loop (.seq (.seq (.region 4 reg38_4 false) (.cond (.tmp 14 ) (.skip) (.exit 0))) (.seq (.block 1 (.seq (.region 6 reg38_6 true) (.cond (.tmp 25 ) (.seq (.region 7 reg38_7 false) (.ret)) (.skip)))) (.region 5 reg38_5 false)))))) (.seq (.region 8 reg38_8 false) (.ret))))) := by kernel_rfl
noncomputable def hdSameI (av bv : Value) (i : Nat) (u : Nat → Value) : Frame :=
  (base 38).at { tmps := #[av, bv, u 2, u 3, u 4, .int .i64 i, u 6, u 7, u 8, u 9, u 10, u 11, u 12, u 13, u 14, u 15, u 16, u 17, u 18, u 19, u 20, u 21, u 22, u 23, u 24, u 25], defers := [] } [.code (.seq (.seq (.region 4 reg38_4 false) (.cond (.tmp 14 ) (.skip) (.exit 0))) (.seq (.block 1 (.seq (.region 6 reg38_6 true) (.cond (.tmp 25 ) (.seq (.region 7 reg38_7 false) (.ret)) (.skip)))) (.region 5 reg38_5 false))), .inLoop (.seq (.seq (.region 4 reg38_4 false) (.cond (.tmp 14 ) (.skip) (.exit 0))) (.seq (.block 1 (.seq (.region 6 reg38_6 true) (.cond (.tmp 25 ) (.seq (.region 7 reg38_7 false) (.ret)) (.skip)))) (.region 5 reg38_5 false))), .inBlock 0, .code (.seq (.region 8 reg38_8 false) (.ret))]
section
variable {main : Bool} {V : Nat → Option Wait}
theorem si_in (a b : Option Addr) (n ca cb : Nat) (cs : List Frame) (w : World) :
    Walk Try.prog main (DR V) (fun g w' => (∃ u, g = G (hdSameI (.slice a n ca) (.slice b n cb) 0 u) cs) ∧ ∃ d, w' = w.at d) (G (Frame.enter Try.prog 38 #[.slice a n ca, .slice b n cb] .normal) cs) w := by
  rw [enter_at _ Try.func38 code38_is]
  simp only [Try.ntmps38, List.size_toArray, List.length_cons, List.length_nil, Nat.reduceAdd, Nat.reduceSub, Array.replicate_succ, Array.replicate_zero, List.push_toArray, List.append_toArray, List.nil_append, List.cons_append]
  repeat (first | refine Walk.c rfl ?_ | refine Walk.cRet ?_ | refine Walk.cEnd ?_ | (refine Walk.cReg ?_; simp only [size38_0, size38_1, size38_2, size38_3, size38_4, size38_6, size38_7, size38_5, size38_8, List.range, List.range.loop]) | (refine Walk.oq ?_; try walk_nrm) | (refine Walk.un ?_; walk_nrm))
  refine Walk.ctl rfl (fun w => stepG_loop) ?_
  refine .stop fun d => ⟨at_slots ?_, d, rfl⟩
  simp only [hdSameI]
  rfl
theorem si_out (a b : Option Addr) (n ca cb : Nat) (u : Nat → Value) (c : Frame) (cs : List Frame) (w : World) :
    Walk Try.prog main (DR V) (fun g w' => g = G (c.finish (.bool true)) cs ∧ ∃ d, w' = w.at d) (G (hdSameI (.slice a n ca) (.slice b n cb) n u) (c :: cs)) w := by
  unfold hdSameI
  repeat (first | refine Walk.c rfl ?_ | refine Walk.cRet ?_ | refine Walk.cEnd ?_ | (refine Walk.cReg ?_; simp only [size38_0, size38_1, size38_2, size38_3, size38_4, size38_6, size38_7, size38_5, size38_8, List.range, List.range.loop]) | (refine Walk.oq ?_; try walk_nrm) | (refine Walk.un ?_; walk_nrm))
  exact Walk.on1 rfl rfl Try.func38 rfl (.stop fun d => ⟨rfl, d, rfl⟩)
theorem si_go (ab ao n ca bb bo cb i : Nat) (x : Int) (u : Nat → Value) (cs : List Frame) (w : World) (hi : i < n) (hn : n ≤ 17592186044416) (ha : w.cell? ⟨ab, ao + i, none⟩ = some (.int .i64 x)) (hb : w.cell? ⟨bb, bo + i, none⟩ = some (.int .i64 x)) :
    Walk Try.prog main (DR V) (fun g w' => (∃ u', g = G (hdSameI (.slice (some ⟨ab, ao, none⟩) n ca) (.slice (some ⟨bb, bo, none⟩) n cb) (i + 1) u') cs) ∧ ∃ d, w' = w.at d) (G (hdSameI (.slice (some ⟨ab, ao, none⟩) n ca) (.slice (some ⟨bb, bo, none⟩) n cb) i u) cs) w := by
  have hw1 : IntKind.wrap .i64 ((i : Int) + 1) = (i : Int) + 1 := by rw [IntKind.wrap_i64]; omega
  conv => arg 5; unfold hdSameI
  repeat (first | refine Walk.c rfl ?_ | refine Walk.cRet ?_ | refine Walk.cEnd ?_ | (refine Walk.cReg ?_; simp only [size38_0, size38_1, size38_2, size38_3, size38_4, size38_6, size38_7, size38_5, size38_8, List.range, List.range.loop]) | (refine Walk.oq ?_; try walk_nrm) | (refine Walk.un ?_; walk_nrm))
  (refine Walk.drawnC (by kernel_rfl) size38_6 (by kernel_rfl) (by kernel_rfl) (by decide) ?_; simp only [List.range, List.range.loop]; repeat (first | (refine Cm.opqA (ho_of (by conv => lhs; whnf) (by kernel_rfl)) (by rfl) (fun dd e he => ?_) ?_; (· (simp [go_sem, *] at he; try (subst he; exact evR_read _ _))); apply Exists.intro; apply And.intro; (· (intro dd K hK; go_simp; exact hK))) | (refine Cm.unw (ho_of (by conv => lhs; whnf) (by kernel_rfl)) (by rfl) ?_; walk_nrm)))
  refine Cm.done ?_
  repeat (first | refine Walk.c rfl ?_ | refine Walk.cRet ?_ | refine Walk.cEnd ?_ | (refine Walk.cReg ?_; simp only [size38_0, size38_1, size38_2, size38_3, size38_4, size38_6, size38_7, size38_5, size38_8, List.range, List.range.loop]) | (refine Walk.oq ?_; try walk_nrm) | (refine Walk.un ?_; walk_nrm))
  refine Walk.ctl rfl (fun w => stepG_inLoop) ?_
  refine .stop fun d' => ⟨at_slots ?_, d', rfl⟩
  have hc : ((i + 1 : Nat) : Int) = (i : Int) + 1 := by simp
  simp only [hdSameI, hc]
  rfl
theorem si_loop (a b : Option Addr) (l : List Int) (ca cb : Nat) (hn : l.length ≤ 17592186044416) (c : Frame) (cs : List Frame) (w : World) (ha : NumA a l w) (hb : NumA b l w) : ∀ (r i : Nat) (u : Nat → Value), i + r = l.length →
    Walk Try.prog main (DR V) (fun g w' => g = G (c.finish (.bool true)) cs ∧ ∃ d, w' = w.at d) (G (hdSameI (.slice a l.length ca) (.slice b l.length cb) i u) (c :: cs)) w := by
  intro r
  induction r with
  | zero =>
    intro i u hi
    have hi : i = l.length := hi
    subst hi
    exact si_out a b l.length ca cb u c cs w
  | succ r ih =>
    intro i u hi
    have hin : i < l.length := by omega
    have hx := List.getElem?_eq_getElem hin
    obtain ⟨ab, ao, rfl, h1⟩ := ha i _ hx
    obtain ⟨bb, bo, rfl, h2⟩ := hb i _ hx
    refine (si_go ab ao l.length ca bb bo cb i _ u (c :: cs) w hin hn h1 h2).then ?_
    rintro g w' ⟨⟨u', rfl⟩, d, rfl⟩
    exact Walk.back (ih (i + 1) u' (by omega)) d
theorem si_w (a b : Option Addr) (l : List Int) (ca cb : Nat) (hn : l.length ≤ 17592186044416) (w : World) (ha : NumA a l w) (hb : NumA b l w) : CallV Try.prog main V 38 #[.slice a l.length ca, .slice b l.length cb] w (.bool true) w := by
  intro fr cs
  refine (si_in a b l.length ca cb (fr :: cs) w).then ?_
  rintro g w1 ⟨⟨u, rfl⟩, d, rfl⟩
  refine Walk.back ?_ d
  refine (si_loop a b l ca cb hn fr cs w ha hb l.length 0 u (by omega)).mono ?_
  rintro g w' ⟨rfl, d, rfl⟩
  exact ⟨_, ⟨rfl, d, rfl⟩, rfl⟩
noncomputable def reg22_0 : Array Oper := match Try.f22.body with | some (.seq (.region _ ops _) _) => ops | _ => #[]
theorem size22_0 : reg22_0.size = 1 := by kernel_rfl
noncomputable def reg22_1 : Array Oper := match Try.f22.body with | some (.seq _ (.seq (.seq (.region _ ops _) _) _)) => ops | _ => #[]
theorem size22_1 : reg22_1.size = 5 := by kernel_rfl
noncomputable def reg22_2 : Array Oper := match Try.f22.body with | some (.seq _ (.seq (.seq _ (.cond _ (.seq (.region _ ops _) _) _)) _)) => ops | _ => #[]
theorem size22_2 : reg22_2.size = 1 := by kernel_rfl
noncomputable def reg22_3 : Array Oper := match Try.f22.body with | some (.seq _ (.seq _ (.seq (.seq (.region _ ops _) _) _))) => ops | _ => #[]
theorem size22_3 : reg22_3.size = 1 := by kernel_rfl
noncomputable def reg22_4 : Array Oper := match Try.f22.body with | some (.seq _ (.seq _ (.seq (.seq _ (.block _ (.loop (.seq (.seq (.region _ ops _) _) _)))) _))) => ops | _ => #[]
theorem size22_4 : reg22_4.size = 4 := by kernel_rfl
noncomputable def reg22_6 : Array Oper := match Try.f22.body with | some (.seq _ (.seq _ (.seq (.seq _ (.block _ (.loop (.seq _ (.seq (.block _ (.seq (.region _ ops _) _)) _))))) _))) => ops | _ => #[]
theorem size22_6 : reg22_6.size = 38 := by kernel_rfl
noncomputable def reg22_7 : Array Oper := match Try.f22.body with | some (.seq _ (.seq _ (.seq (.seq _ (.block _ (.loop (.seq _ (.seq (.block _ (.seq _ (.cond _ (.seq (.region _ ops _) _) _))) _))))) _))) => ops | _ => #[]
theorem size22_7 : reg22_7.size = 1 := by kernel_rfl
noncomputable def reg22_5 : Array Oper := match Try.f22.body with | some (.seq _ (.seq _ (.seq (.seq _ (.block _ (.loop (.seq _ (.seq _ (.region _ ops _)))))) _))) => ops | _ => #[]
theorem size22_5 : reg22_5.size = 3 := by kernel_rfl
noncomputable def reg22_8 : Array Oper := match Try.f22.body with | some (.seq _ (.seq _ (.seq _ (.seq (.region _ ops _) _)))) => ops | _ => #[]
theorem size22_8 : reg22_8.size = 1 := by kernel_rfl
theorem code22_is : Try.f22.body = some (.seq (.region 0 reg22_0 false) (.seq (.seq (.region 1 reg22_1 false) (.cond (.tmp 10 ) (.seq (.region 2 reg22_2 false) (.ret)) (.skip))) (.seq (.seq (.region 3 reg22_3 false) (.block 0 (.loop (.seq (.seq (.region 4 reg22_4 false) (.cond (.tmp 14 ) (.skip) (.exit 0))) (.seq (.block 1 (.seq (.region 6 reg22_6 true) (.cond (.tmp 54 ) (.seq (.region 7 reg22_7 false) (.ret)) (.skip)))) (.region 5 reg22_5 false)))))) (.seq (.region 8 reg22_8 false) (.ret))))) := by kernel_rfl
noncomputable def hdSA (a b : Value) (i : Nat) (u : Nat → Value) : Frame :=
  (base 22).at { tmps := #[a, b, u 2, u 3, u 4, .int .i64 i, u 6, u 7, u 8, u 9, u 10, u 11, u 12, u 13, u 14, u 15, u 16, u 17, u 18, u 19, u 20, u 21, u 22, u 23, u 24, u 25, u 26, u 27, u 28, u 29, u 30, u 31, u 32, u 33, u 34, u 35, u 36, u 37, u 38, u 39, u 40, u 41, u 42, u 43, u 44, u 45, u 46, u 47, u 48, u 49, u 50, u 51, u 52, u 53, u 54], defers := [] } [.code (.seq (.seq (.region 4 reg22_4 false) (.cond (.tmp 14 ) (.skip) (.exit 0))) (.seq (.block 1 (.seq (.region 6 reg22_6 true) (.cond (.tmp 54 ) (.seq (.region 7 reg22_7 false) (.ret)) (.skip)))) (.region 5 reg22_5 false))), .inLoop (.seq (.seq (.region 4 reg22_4 false) (.cond (.tmp 14 ) (.skip) (.exit 0))) (.seq (.block 1 (.seq (.region 6 reg22_6 true) (.cond (.tmp 54 ) (.seq (.region 7 reg22_7 false) (.ret)) (.skip)))) (.region 5 reg22_5 false))), .inBlock 0, .code (.seq (.region 8 reg22_8 false) (.ret))]
theorem sa_in (a b : Option Addr) (n ca cb : Nat) (cs : List Frame) (w : World) :
    Walk Try.prog main (DR V) (fun g w' => (∃ u, g = G (hdSA (.slice a n ca) (.slice b n cb) 0 u) cs) ∧ ∃ d, w' = w.at d) (G (Frame.enter Try.prog 22 #[.slice a n ca, .slice b n cb] .normal) cs) w := by
  rw [enter_at _ Try.func22 code22_is]
  simp only [Try.ntmps22, List.size_toArray, List.length_cons, List.length_nil, Nat.reduceAdd, Nat.reduceSub, Array.replicate_succ, Array.replicate_zero, List.push_toArray, List.append_toArray, List.nil_append, List.cons_append]
  repeat (first | refine Walk.c rfl ?_ | refine Walk.cRet ?_ | refine Walk.cEnd ?_ | (refine Walk.cReg ?_; simp only [size22_0, size22_1, size22_2, size22_3, size22_4, size22_6, size22_7, size22_5, size22_8, List.range, List.range.loop]) | (refine Walk.oq ?_; try walk_nrm) | (refine Walk.un ?_; walk_nrm))
  refine Walk.ctl rfl (fun w => stepG_loop) ?_
  refine .stop fun d => ⟨at_slots ?_, d, rfl⟩
  simp only [hdSA]
  rfl
theorem sa_out (a b : Option Addr) (n ca cb : Nat) (u : Nat → Value) (c : Frame) (cs : List Frame) (w : World) :
    Walk Try.prog main (DR V) (fun g w' => g = G (c.finish (.bool true)) cs ∧ ∃ d, w' = w.at d) (G (hdSA (.slice a n ca) (.slice b n cb) n u) (c :: cs)) w := by
  unfold hdSA
  repeat (first | refine Walk.c rfl ?_ | refine Walk.cRet ?_ | refine Walk.cEnd ?_ | (refine Walk.cReg ?_; simp only [size22_0, size22_1, size22_2, size22_3, size22_4, size22_6, size22_7, size22_5, size22_8, List.range, List.range.loop]) | (refine Walk.oq ?_; try walk_nrm) | (refine Walk.un ?_; walk_nrm))
  exact Walk.on1 rfl rfl Try.func22 rfl (.stop fun d => ⟨rfl, d, rfl⟩)
theorem sa_go (ab ao n ca bb bo cb i : Nat) (y : Bool) (x : Int) (la lb : Option Addr) (lc ld : Nat) (xl : List Int) (hxl : xl.length ≤ 1048576) (u : Nat → Value) (cs : List Frame) (w : World) (hi : i < n) (hn : n ≤ 17592186044416) (a0 : w.cell? ⟨ab, ao + i * 3, none⟩ = some (.bool y)) (a1 : w.cell? ⟨ab, ao + i * 3 + 1, none⟩ = some (.int .i64 x)) (a2 : w.cell? ⟨ab, ao + i * 3 + 2, none⟩ = some (.slice la xl.length lc)) (b0 : w.cell? ⟨bb, bo + i * 3, none⟩ = some (.bool y)) (b1 : w.cell? ⟨bb, bo + i * 3 + 1, none⟩ = some (.int .i64 x)) (b2 : w.cell? ⟨bb, bo + i * 3 + 2, none⟩ = some (.slice lb xl.length ld)) (n1 : NumA la xl w) (n2 : NumA lb xl w) :
    Walk Try.prog main (DR V) (fun g w' => (∃ u', g = G (hdSA (.slice (some ⟨ab, ao, none⟩) n ca) (.slice (some ⟨bb, bo, none⟩) n cb) (i + 1) u') cs) ∧ ∃ d, w' = w.at d) (G (hdSA (.slice (some ⟨ab, ao, none⟩) n ca) (.slice (some ⟨bb, bo, none⟩) n cb) i u) cs) w := by
  have hw1 : IntKind.wrap .i64 ((i : Int) + 1) = (i : Int) + 1 := by rw [IntKind.wrap_i64]; omega
  have qb := run_neqB (P := Try.prog) 4 und4B y y
  have qe := ev_neqB (P := Try.prog) 4 und4B y y
  have qy : (y != y) = false := by cases y <;> rfl
  have hq := sn_w (main := main) (V := V) la lb xl lc ld (by omega) w n1 n2
  clear n1 n2
  generalize xl.length = m at *
  rw [qy] at qb
  conv => arg 5; unfold hdSA
  repeat (first | refine Walk.c rfl ?_ | refine Walk.cRet ?_ | refine Walk.cEnd ?_ | (refine Walk.cReg ?_; simp only [size22_0, size22_1, size22_2, size22_3, size22_4, size22_6, size22_7, size22_5, size22_8, List.range, List.range.loop]) | (refine Walk.oq ?_; try walk_nrm) | (refine Walk.un ?_; walk_nrm))
  (refine Walk.drawnC (by kernel_rfl) size22_6 (by kernel_rfl) (by kernel_rfl) (by decide) ?_; simp only [List.range, List.range.loop]; repeat (first | (refine Cm.opqA (ho_of (by conv => lhs; whnf) (by kernel_rfl)) (by rfl) (fun dd e he => ?_) ?_; (· (simp [go_sem, *] at he; try (subst he; exact evR_read _ _))); apply Exists.intro; apply And.intro; (· (intro dd K hK; go_simp; exact hK))) | (refine Cm.unw (ho_of (by conv => lhs; whnf) (by kernel_rfl)) (by rfl) ?_; walk_nrm)))
  refine Cm.callV (x := .bool true) ?_ (ho_of (by conv => lhs; whnf) (by kernel_rfl)) (by rfl) rfl Try.func26 (by kernel_rfl) (by rfl) ?_
  · intro w' e
    subst e
    walk_nrm
    exact hq
  walk_nrm
  repeat (first | (refine Cm.opqA (ho_of (by conv => lhs; whnf) (by kernel_rfl)) (by rfl) (fun dd e he => ?_) ?_; (· (simp [go_sem, *] at he; try (subst he; exact evR_read _ _))); apply Exists.intro; apply And.intro; (· (intro dd K hK; go_simp; exact hK))) | (refine Cm.unw (ho_of (by conv => lhs; whnf) (by kernel_rfl)) (by rfl) ?_; walk_nrm))
  refine Cm.done ?_
  repeat (first | refine Walk.c rfl ?_ | refine Walk.cRet ?_ | refine Walk.cEnd ?_ | (refine Walk.cReg ?_; simp only [size22_0, size22_1, size22_2, size22_3, size22_4, size22_6, size22_7, size22_5, size22_8, List.range, List.range.loop]) | (refine Walk.oq ?_; try walk_nrm) | (refine Walk.un ?_; walk_nrm))
  refine Walk.ctl rfl (fun w => stepG_inLoop) ?_
  refine .stop fun d' => ⟨at_slots ?_, d', rfl⟩
  have hc : ((i + 1 : Nat) : Int) = (i : Int) + 1 := by simp
  simp only [hdSA, hc]
  rfl
theorem sa_loop (a b : Option Addr) (l : List Ans) (ca cb : Nat) (hn : l.length ≤ 17592186044416) (c : Frame) (cs : List Frame) (w : World) (ha : AnsA a l w) (hb : AnsA b l w) : ∀ (r i : Nat) (u : Nat → Value), i + r = l.length →
    Walk Try.prog main (DR V) (fun g w' => g = G (c.finish (.bool true)) cs ∧ ∃ d, w' = w.at d) (G (hdSA (.slice a l.length ca) (.slice b l.length cb) i u) (c :: cs)) w := by
  intro r
  induction r with
  | zero =>
    intro i u hi
    have hi : i = l.length := hi
    subst hi
    exact sa_out a b l.length ca cb u c cs w
  | succ r ih =>
    intro i u hi
    have hin : i < l.length := by omega
    have hx := List.getElem?_eq_getElem hin
    generalize l[i] = x at hx
    obtain ⟨ab, ao, la, lc, rfl, h1, h2, h3, h4, h5⟩ := ha i _ hx
    obtain ⟨bb, bo, lb, ld, rfl, k1, k2, k3, k4, _⟩ := hb i _ hx
    refine (sa_go ab ao l.length ca bb bo cb i x.ok x.n la lb lc ld x.l h5 u (c :: cs) w hin hn h1 h2 h3 k1 k2 k3 h4 k4).then ?_
    rintro g w' ⟨⟨u', rfl⟩, d, rfl⟩
    exact Walk.back (ih (i + 1) u' (by omega)) d
theorem sa_w (a b : Option Addr) (l : List Ans) (ca cb : Nat) (hn : l.length ≤ 17592186044416) (w : World) (ha : AnsA a l w) (hb : AnsA b l w) : CallV Try.prog main V 22 #[.slice a l.length ca, .slice b l.length cb] w (.bool true) w := by
  intro fr cs
  refine (sa_in a b l.length ca cb (fr :: cs) w).then ?_
  rintro g w1 ⟨⟨u, rfl⟩, d, rfl⟩
  refine Walk.back ?_ d
  refine (sa_loop a b l ca cb hn fr cs w ha hb l.length 0 u (by omega)).mono ?_
  rintro g w' ⟨rfl, d, rfl⟩
  exact ⟨_, ⟨rfl, d, rfl⟩, rfl⟩
end
section
variable {main : Bool}
noncomputable def reg15_0 : Array Oper := match Try.f15.body with | some (.seq (.region _ ops _) _) => ops | _ => #[]
theorem size15_0 : reg15_0.size = 3 := by kernel_rfl
noncomputable def reg15_1 : Array Oper := match Try.f15.body with | some (.seq _ (.seq (.seq (.region _ ops _) _) _)) => ops | _ => #[]
theorem size15_1 : reg15_1.size = 30 := by kernel_rfl
noncomputable def reg15_2 : Array Oper := match Try.f15.body with | some (.seq _ (.seq (.seq _ (.cond _ (.seq (.region _ ops _) _) _)) _)) => ops | _ => #[]
theorem size15_2 : reg15_2.size = 1 := by kernel_rfl
noncomputable def reg15_3 : Array Oper := match Try.f15.body with | some (.seq _ (.seq _ (.seq (.seq (.region _ ops _) _) _))) => ops | _ => #[]
theorem size15_3 : reg15_3.size = 1 := by kernel_rfl
noncomputable def reg15_4 : Array Oper := match Try.f15.body with | some (.seq _ (.seq _ (.seq (.seq _ (.block _ (.loop (.seq (.seq (.region _ ops _) _) _)))) _))) => ops | _ => #[]
theorem size15_4 : reg15_4.size = 5 := by kernel_rfl
noncomputable def reg15_6 : Array Oper := match Try.f15.body with | some (.seq _ (.seq _ (.seq (.seq _ (.block _ (.loop (.seq _ (.seq (.block _ (.seq (.region _ ops _) _)) _))))) _))) => ops | _ => #[]
theorem size15_6 : reg15_6.size = 12 := by kernel_rfl
noncomputable def reg15_7 : Array Oper := match Try.f15.body with | some (.seq _ (.seq _ (.seq (.seq _ (.block _ (.loop (.seq _ (.seq (.block _ (.seq _ (.cond _ (.seq (.region _ ops _) _) _))) _))))) _))) => ops | _ => #[]
theorem size15_7 : reg15_7.size = 1 := by kernel_rfl
noncomputable def reg15_5 : Array Oper := match Try.f15.body with | some (.seq _ (.seq _ (.seq (.seq _ (.block _ (.loop (.seq _ (.seq _ (.region _ ops _)))))) _))) => ops | _ => #[]
theorem size15_5 : reg15_5.size = 3 := by kernel_rfl
noncomputable def reg15_8 : Array Oper := match Try.f15.body with | some (.seq _ (.seq _ (.seq _ (.seq (.region _ ops _) _)))) => ops | _ => #[]
theorem size15_8 : reg15_8.size = 1 := by kernel_rfl
theorem code15_is : Try.f15.body = some (.seq (.region 0 reg15_0 false) (.seq (.seq (.region 1 reg15_1 false) (.cond (.tmp 35 ) (.seq (.region 2 reg15_2 false) (.ret)) (.skip))) (.seq (.seq (.region 3 reg15_3 false) (.block 0 (.loop (.seq (.seq (.region 4 reg15_4 false) (.cond (.tmp 40 ) (.skip) (.exit 0))) (.seq (.block 1 (.seq (.region 6 reg15_6 true) (.cond (.tmp 54 ) (.seq (.region 7 reg15_7 false) (.ret)) (.skip)))) (.region 5 reg15_5 false)))))) (.seq (.region 8 reg15_8 false) (.ret))))) := by kernel_rfl
noncomputable def hdSm (X Y i : Nat) (u : Nat → Value) : Frame :=
  (base 15).at { tmps := #[u 0, u 1, .pointer (some ⟨X, 0, none⟩), .pointer (some ⟨Y, 0, none⟩), u 4, .int .i64 i, u 6, u 7, u 8, u 9, u 10, u 11, u 12, u 13, u 14, u 15, u 16, u 17, u 18, u 19, u 20, u 21, u 22, u 23, u 24, u 25, u 26, u 27, u 28, u 29, u 30, u 31, u 32, u 33, u 34, u 35, u 36, u 37, u 38, u 39, u 40, u 41, u 42, u 43, u 44, u 45, u 46, u 47, u 48, u 49, u 50, u 51, u 52, u 53, u 54], defers := [] } [.code (.seq (.seq (.region 4 reg15_4 false) (.cond (.tmp 40 ) (.skip) (.exit 0))) (.seq (.block 1 (.seq (.region 6 reg15_6 true) (.cond (.tmp 54 ) (.seq (.region 7 reg15_7 false) (.ret)) (.skip)))) (.region 5 reg15_5 false))), .inLoop (.seq (.seq (.region 4 reg15_4 false) (.cond (.tmp 40 ) (.skip) (.exit 0))) (.seq (.block 1 (.seq (.region 6 reg15_6 true) (.cond (.tmp 54 ) (.seq (.region 7 reg15_7 false) (.ret)) (.skip)))) (.region 5 reg15_5 false))), .inBlock 0, .code (.seq (.region 8 reg15_8 false) (.ret))]
theorem sm_in (aa : Option Addr) (n ac : Nat) (oa : Option Addr) (ord : List Int) (oc : Nat) (sa : Option Addr) (sts : List Int) (sc : Nat) (k : Bool) (ba : Option Addr) (bc : Nat) (pa : Option Addr) (pc : Nat) (ra : Option Addr) (rc : Nat) (cs : List Frame) (w : World) (hsn : sts.length ≤ 17592186044416) (s1 : NumA sa sts w) (s2 : NumA ra sts w) (hon : ord.length ≤ 17592186044416) (t1 : NumA oa ord w) (t2 : NumA pa ord w) :
    Walk Try.prog main (DR (fun _ => none)) (fun g w' => (∃ u, g = G (hdSm w.heap.size (w.heap.size + 1) 0 u) cs) ∧ Chg (fun _ => False) w w' ∧ w'.heap[w.heap.size]? = some (.cells (trC (.slice aa n ac) (.slice oa ord.length oc) (.slice sa sts.length sc) k) 31) ∧ w'.heap[w.heap.size + 1]? = some (.cells (trC (.slice ba n bc) (.slice pa ord.length pc) (.slice ra sts.length rc) k) 31))
      (G (Frame.enter Try.prog 15 #[.agg (trC (.slice aa n ac) (.slice oa ord.length oc) (.slice sa sts.length sc) k), .agg (trC (.slice ba n bc) (.slice pa ord.length pc) (.slice ra sts.length rc) k)] .normal) cs) w := by
  have qb := run_neqB (P := Try.prog) 4 und4B k k
  have qe := ev_neqB (P := Try.prog) 4 und4B k k
  have qk : (k != k) = false := by cases k <;> rfl
  rw [qk] at qb
  rw [enter_at _ Try.func15 code15_is]
  simp only [Try.ntmps15, List.size_toArray, List.length_cons, List.length_nil, Nat.reduceAdd, Nat.reduceSub, Array.replicate_succ, Array.replicate_zero, List.push_toArray, List.append_toArray, List.nil_append, List.cons_append]
  repeat (first | refine Walk.c rfl ?_ | refine Walk.cRet ?_ | refine Walk.cEnd ?_ | (refine Walk.cReg ?_; simp only [size15_0, size15_1, size15_2, size15_3, size15_4, size15_6, size15_7, size15_5, size15_8, List.range, List.range.loop]) | (refine Walk.oq ?_; try walk_nrm) | (refine Walk.un ?_; walk_nrm))
  (refine Walk.oa ?_; try walk_nrm)
  have hO : Chg (fun _ => False) w (w.alloc (.cells (trC (.slice aa n ac) (.slice oa ord.length oc) (.slice sa sts.length sc) k) 31)) := Chg.alloc
  have hX := heap_alloc_new w (.cells (trC (.slice aa n ac) (.slice oa ord.length oc) (.slice sa sts.length sc) k) 31)
  have hsz : (w.alloc (.cells (trC (.slice aa n ac) (.slice oa ord.length oc) (.slice sa sts.length sc) k) 31)).heap.size = w.heap.size + 1 := by simp
  generalize w.alloc (.cells (trC (.slice aa n ac) (.slice oa ord.length oc) (.slice sa sts.length sc) k) 31) = w1 at *
  repeat (first | (refine Walk.oq ?_; try walk_nrm) | (refine Walk.un ?_; walk_nrm))
  (refine Walk.oa ?_; try walk_nrm)
  have hO2 : Chg (fun _ => False) w (w1.alloc (.cells (trC (.slice ba n bc) (.slice pa ord.length pc) (.slice ra sts.length rc) k) 31)) := hO.trans (S' := fun _ => False) Chg.alloc fun _ _ h => h
  have hY := heap_alloc_new w1 (.cells (trC (.slice ba n bc) (.slice pa ord.length pc) (.slice ra sts.length rc) k) 31)
  have hX2 := (heap_new_lt w1 (.cells (trC (.slice ba n bc) (.slice pa ord.length pc) (.slice ra sts.length rc) k) 31) (by rw [hsz]; exact Nat.lt_succ_self _)).trans hX
  rw [hsz] at hY
  clear hX hO hsz
  generalize w1.alloc (.cells (trC (.slice ba n bc) (.slice pa ord.length pc) (.slice ra sts.length rc) k) 31) = w2 at *
  have h17 := si_w (main := main) (V := fun _ => none) oa pa ord oc pc hon w2 (t1.chg hO2) (t2.chg hO2)
  have h18 := sn_w (main := main) (V := fun _ => none) sa ra sts sc rc hsn w2 (s1.chg hO2) (s2.chg hO2)
  generalize w.heap.size = X at *
  have x0 : w2.cell? ⟨X, 0, none⟩ = some (.slice aa n ac) := (cell_of hX2 0).trans rfl
  have x1 : w2.cell? ⟨X, 1, none⟩ = some (.slice oa ord.length oc) := (cell_of hX2 1).trans rfl
  have x2 : w2.cell? ⟨X, 2, none⟩ = some (.slice sa sts.length sc) := (cell_of hX2 2).trans rfl
  have x3 : w2.cell? ⟨X, 3, none⟩ = some (.bool k) := (cell_of hX2 3).trans rfl
  have y0 : w2.cell? ⟨X + 1, 0, none⟩ = some (.slice ba n bc) := (cell_of hY 0).trans rfl
  have y1 : w2.cell? ⟨X + 1, 1, none⟩ = some (.slice pa ord.length pc) := (cell_of hY 1).trans rfl
  have y2 : w2.cell? ⟨X + 1, 2, none⟩ = some (.slice ra sts.length rc) := (cell_of hY 2).trans rfl
  have y3 : w2.cell? ⟨X + 1, 3, none⟩ = some (.bool k) := (cell_of hY 3).trans rfl
  clear s1 s2 t1 t2
  repeat (first | refine Walk.c rfl ?_ | refine Walk.cRet ?_ | refine Walk.cEnd ?_ | (refine Walk.cReg ?_; simp only [size15_0, size15_1, size15_2, size15_3, size15_4, size15_6, size15_7, size15_5, size15_8, List.range, List.range.loop]) | (refine Walk.oq ?_; try walk_nrm) | (refine Walk.un ?_; walk_nrm))
  refine Walk.callV (x := .bool true) (W := w2) ?_ (ho_of (by conv => lhs; whnf) (by kernel_rfl)) (by rfl) (by decide) rfl Try.func38 (by kernel_rfl) (by rfl) ?_
  · walk_nrm
    exact h17
  walk_nrm
  repeat (first | refine Walk.c rfl ?_ | refine Walk.cRet ?_ | refine Walk.cEnd ?_ | (refine Walk.cReg ?_; simp only [size15_0, size15_1, size15_2, size15_3, size15_4, size15_6, size15_7, size15_5, size15_8, List.range, List.range.loop]) | (refine Walk.oq ?_; try walk_nrm) | (refine Walk.un ?_; walk_nrm))
  refine Walk.callV (x := .bool true) (W := w2) ?_ (ho_of (by conv => lhs; whnf) (by kernel_rfl)) (by rfl) (by decide) rfl Try.func26 (by kernel_rfl) (by rfl) ?_
  · walk_nrm
    exact h18
  walk_nrm
  repeat (first | refine Walk.c rfl ?_ | refine Walk.cRet ?_ | refine Walk.cEnd ?_ | (refine Walk.cReg ?_; simp only [size15_0, size15_1, size15_2, size15_3, size15_4, size15_6, size15_7, size15_5, size15_8, List.range, List.range.loop]) | (refine Walk.oq ?_; try walk_nrm) | (refine Walk.un ?_; walk_nrm))
  refine Walk.ctl rfl (fun w => stepG_loop) ?_
  refine .stop fun d => ⟨at_slots ?_, hO2.at d, hX2, hY⟩
  simp only [hdSm]
  rfl
theorem sm_go (X Y n i ab ao ac bb bo bc : Nat) (ta tb : Option Addr) (l : List Ans) (tc td : Nat) (u : Nat → Value) (cs : List Frame) (w : World) (hi : i < n) (hn : n ≤ 17592186044416) (htl : l.length ≤ 17592186044416) (x0 : w.cell? ⟨X, 0, none⟩ = some (.slice (some ⟨ab, ao, none⟩) n ac)) (y0 : w.cell? ⟨Y, 0, none⟩ = some (.slice (some ⟨bb, bo, none⟩) n bc))
    (ha : w.cell? ⟨ab, ao + i, none⟩ = some (.slice ta l.length tc)) (hb : w.cell? ⟨bb, bo + i, none⟩ = some (.slice tb l.length td)) (h1 : AnsA ta l w) (h2 : AnsA tb l w) :
    Walk Try.prog main (DR (fun _ => none)) (fun g w' => (∃ u', g = G (hdSm X Y (i + 1) u') cs) ∧ ∃ d, w' = w.at d) (G (hdSm X Y i u) cs) w := by
  have hw1 : IntKind.wrap .i64 ((i : Int) + 1) = (i : Int) + 1 := by rw [IntKind.wrap_i64]; omega
  have hq := sa_w (main := main) (V := fun _ => none) ta tb l tc td htl w h1 h2
  clear h1 h2
  conv => arg 5; unfold hdSm
  repeat (first | refine Walk.c rfl ?_ | refine Walk.cRet ?_ | refine Walk.cEnd ?_ | (refine Walk.cReg ?_; simp only [size15_0, size15_1, size15_2, size15_3, size15_4, size15_6, size15_7, size15_5, size15_8, List.range, List.range.loop]) | (refine Walk.oq ?_; try walk_nrm) | (refine Walk.un ?_; walk_nrm))
  (refine Walk.drawnC (by kernel_rfl) size15_6 (by kernel_rfl) (by kernel_rfl) (by decide) ?_; simp only [List.range, List.range.loop]; repeat (first | (refine Cm.opqA (ho_of (by conv => lhs; whnf) (by kernel_rfl)) (by rfl) (fun dd e he => ?_) ?_; (· (simp [go_sem, *] at he; try (subst he; exact evR_read _ _))); apply Exists.intro; apply And.intro; (· (intro dd K hK; go_simp; exact hK))) | (refine Cm.unw (ho_of (by conv => lhs; whnf) (by kernel_rfl)) (by rfl) ?_; walk_nrm)))
  refine Cm.callV (x := .bool true) ?_ (ho_of (by conv => lhs; whnf) (by kernel_rfl)) (by rfl) rfl Try.func22 (by kernel_rfl) (by rfl) ?_
  · intro w' e
    subst e
    walk_nrm
    exact hq
  walk_nrm
  repeat (first | (refine Cm.opqA (ho_of (by conv => lhs; whnf) (by kernel_rfl)) (by rfl) (fun dd e he => ?_) ?_; (· (simp [go_sem, *] at he; try (subst he; exact evR_read _ _))); apply Exists.intro; apply And.intro; (· (intro dd K hK; go_simp; exact hK))) | (refine Cm.unw (ho_of (by conv => lhs; whnf) (by kernel_rfl)) (by rfl) ?_; walk_nrm))
  refine Cm.done ?_
  repeat (first | refine Walk.c rfl ?_ | refine Walk.cRet ?_ | refine Walk.cEnd ?_ | (refine Walk.cReg ?_; simp only [size15_0, size15_1, size15_2, size15_3, size15_4, size15_6, size15_7, size15_5, size15_8, List.range, List.range.loop]) | (refine Walk.oq ?_; try walk_nrm) | (refine Walk.un ?_; walk_nrm))
  refine Walk.ctl rfl (fun w => stepG_inLoop) ?_
  refine .stop fun d' => ⟨at_slots ?_, d', rfl⟩
  have hc : ((i + 1 : Nat) : Int) = (i : Int) + 1 := by simp
  simp only [hdSm, hc]
  rfl
theorem sm_out (X Y n : Nat) (aa : Option Addr) (ac : Nat) (u : Nat → Value) (c : Frame) (cs : List Frame) (w : World) (x0 : w.cell? ⟨X, 0, none⟩ = some (.slice aa n ac)) :
    Walk Try.prog main (DR (fun _ => none)) (fun g w' => g = G (c.finish (.bool true)) cs ∧ ∃ d, w' = w.at d) (G (hdSm X Y n u) (c :: cs)) w := by
  unfold hdSm
  repeat (first | refine Walk.c rfl ?_ | refine Walk.cRet ?_ | refine Walk.cEnd ?_ | (refine Walk.cReg ?_; simp only [size15_0, size15_1, size15_2, size15_3, size15_4, size15_6, size15_7, size15_5, size15_8, List.range, List.range.loop]) | (refine Walk.oq ?_; try walk_nrm) | (refine Walk.un ?_; walk_nrm))
  exact Walk.on1 rfl rfl Try.func15 rfl (.stop fun d => ⟨rfl, d, rfl⟩)
theorem sm_w (ca cb : Array Value) (n : Nat) (F : Nat → List Ans) (ord : List Nat) (sts : List Int) (k : Bool) (w : World) (hn : n ≤ 64) (hord : ord.length ≤ 1048576) (hsn : sts.length ≤ 1048576) (hF : ∀ i, i < n → (F i).length ≤ 65536) (h1 : TrA ca n F ord sts k w) (h2 : TrA cb n F ord sts k w) :
    CallW Try.prog main (fun _ => none) 15 #[.agg ca, .agg cb] w (fun v w' => v = .bool true ∧ Chg (fun _ => False) w w') := by
  obtain ⟨aa, ac, oa, oc, sa, sc, rfl, n1, n2, n3⟩ := h1.all
  obtain ⟨ba, bc, pa, pc, ra, rc, rfl, m1, m2, m3⟩ := h2.all
  have olen : (ord.map fun i => ((i : Nat) : Int)).length = ord.length := by simp
  intro fr cs
  have hin := sm_in (main := main) aa n ac oa (ord.map fun i => ((i : Nat) : Int)) oc sa sts sc k ba bc pa pc ra rc (fr :: cs) w (by omega) n2 m2 (by omega) n1 m1
  rw [olen] at hin
  refine hin.then ?_
  rintro g w1 ⟨⟨u, rfl⟩, hC, hX, hY⟩
  have x0 : w1.cell? ⟨w.heap.size, 0, none⟩ = some (.slice aa n ac) := (cell_of hX 0).trans rfl
  have y0 : w1.cell? ⟨w.heap.size + 1, 0, none⟩ = some (.slice ba n bc) := (cell_of hY 0).trans rfl
  have hcell : ∀ {x j : Nat} {v : Value}, w.cell? ⟨x, j, none⟩ = some v → w1.cell? ⟨x, j, none⟩ = some v := fun {x j v} h => (World.cell?_of_block (a := ⟨x, j, none⟩) (hC.same x (cell_lt' h) id)).trans h
  have loop : ∀ (r i : Nat) (u : Nat → Value), i + r = n → Walk Try.prog main (DR (fun _ => none)) (fun g w' => g = G (fr.finish (.bool true)) cs ∧ ∃ d, w' = w1.at d) (G (hdSm w.heap.size (w.heap.size + 1) i u) (fr :: cs)) w1 := by
    intro r
    induction r with
    | zero =>
      intro i u hi
      obtain rfl : i = n := hi
      exact sm_out _ _ i aa ac u fr cs w1 x0
    | succ r ih =>
      intro i u hi
      obtain ⟨ab, ao, ta, tc, rfl, k1, k2⟩ := n3 i (by omega)
      obtain ⟨bb, bo, tb, td, rfl, j1, j2⟩ := m3 i (by omega)
      refine (sm_go _ _ n i ab ao ac bb bo bc ta tb (F i) tc td u (fr :: cs) w1 (by omega) (by omega) (by have := hF i (by omega); omega) x0 y0 (hcell k1) (hcell j1) (k2.chg hC) (j2.chg hC)).then ?_
      rintro g w' ⟨⟨u', rfl⟩, d, rfl⟩
      exact Walk.back (ih (i + 1) u' (by omega)) d
  refine (loop n 0 u (by omega)).mono ?_
  rintro g w' ⟨rfl, d, rfl⟩
  exact ⟨_, ⟨rfl, hC.at d⟩, rfl⟩
end
end
theorem size20_0 : reg20_0.size = 1 := by kernel_rfl
theorem size20_1 : reg20_1.size = 2 := by kernel_rfl
theorem size20_2 : reg20_2.size = 1 := by kernel_rfl
theorem size20_3 : reg20_3.size = 6 := by kernel_rfl
theorem size59_0 : reg59_0.size = 2 := by kernel_rfl
theorem size59_1 : reg59_1.size = 2 := by kernel_rfl
theorem size59_2 : reg59_2.size = 2 := by kernel_rfl
theorem size59_3 : reg59_3.size = 2 := by kernel_rfl
theorem size59_4 : reg59_4.size = 2 := by kernel_rfl
theorem size59_5 : reg59_5.size = 9 := by kernel_rfl
theorem size59_6 : reg59_6.size = 2 := by kernel_rfl
theorem size59_7 : reg59_7.size = 9 := by kernel_rfl
theorem size59_8 : reg59_8.size = 2 := by kernel_rfl
theorem size59_9 : reg59_9.size = 7 := by kernel_rfl
theorem size59_10 : reg59_10.size = 2 := by kernel_rfl
theorem size59_11 : reg59_11.size = 9 := by kernel_rfl
theorem size59_12 : reg59_12.size = 2 := by kernel_rfl
theorem size59_13 : reg59_13.size = 12 := by kernel_rfl
theorem size59_14 : reg59_14.size = 6 := by kernel_rfl
theorem size59_15 : reg59_15.size = 2 := by kernel_rfl
theorem size67_0 : reg67_0.size = 1 := by kernel_rfl
theorem size67_1 : reg67_1.size = 4 := by kernel_rfl
theorem size67_2 : reg67_2.size = 3 := by kernel_rfl
theorem size67_3 : reg67_3.size = 1 := by kernel_rfl
theorem size67_4 : reg67_4.size = 2 := by kernel_rfl
theorem size67_5 : reg67_5.size = 12 := by kernel_rfl
theorem size67_6 : reg67_6.size = 2 := by kernel_rfl
theorem size67_7 : reg67_7.size = 2 := by kernel_rfl
theorem size27_0 : reg27_0.size = 1 := by kernel_rfl
theorem size27_1 : reg27_1.size = 3 := by kernel_rfl
theorem size28_0 : reg28_0.size = 1 := by kernel_rfl
theorem size28_1 : reg28_1.size = 3 := by kernel_rfl
theorem size60_0 : reg60_0.size = 1 := by kernel_rfl
theorem size60_1 : reg60_1.size = 6 := by kernel_rfl
section
theorem size18_0 : reg18_0.size = 2 := by kernel_rfl
theorem size18_1 : reg18_1.size = 13 := by kernel_rfl
theorem size18_2 : reg18_2.size = 2 := by kernel_rfl
theorem size18_3 : reg18_3.size = 5 := by kernel_rfl
theorem size18_4 : reg18_4.size = 6 := by kernel_rfl
theorem size18_5 : reg18_5.size = 1 := by kernel_rfl
theorem size18_6 : reg18_6.size = 2 := by kernel_rfl
theorem size18_7 : reg18_7.size = 8 := by kernel_rfl
theorem size18_8 : reg18_8.size = 2 := by kernel_rfl
theorem size18_9 : reg18_9.size = 3 := by kernel_rfl
instance (sz : Int) : Decidable (okS sz) := inferInstanceAs (Decidable (_ ∧ _ ∧ _))
section
variable {main : Bool} {V : Nat → Option Wait}
theorem new_small (sz : Int) (h1 : sz < 1) (w : World) : CallV Try.prog main V 18 #[.int .i64 sz] w (.tuple #[.pointer none, .int .i64 1]) w := by
  have g1 : decide (sz < 1) = true := by simp; omega
  refine callW_in Try.func18 code18_is fun fr cs => ?_
  simp only [Try.ntmps18, List.size_toArray, List.length_cons, List.length_nil, Nat.reduceAdd, Nat.reduceSub, Array.replicate_succ, Array.replicate_zero, List.push_toArray, List.append_toArray, List.nil_append, List.cons_append]
  repeat (first | refine Walk.c rfl ?_ | refine Walk.cRet ?_ | refine Walk.cEnd ?_ | (refine Walk.cReg ?_; simp only [size18_0, size18_1, size18_2, size18_3, size18_4, size18_5, size18_6, size18_7, size18_8, size18_9, List.range, List.range.loop]) | (refine Walk.oq ?_; try walk_nrm) | (refine Walk.un ?_; walk_nrm))
  exact Walk.on2 rfl rfl Try.func18 rfl (.stop fun d => ⟨_, ⟨rfl, d, rfl⟩, rfl⟩)
theorem new_large (sz : Int) (h1 : 1 ≤ sz) (h2 : 65536 < sz) (w : World) : CallV Try.prog main V 18 #[.int .i64 sz] w (.tuple #[.pointer none, .int .i64 1]) w := by
  have g1 : decide (sz < 1) = false := by simp; omega
  have g2 : decide (65536 < sz) = true := by simp; omega
  refine callW_in Try.func18 code18_is fun fr cs => ?_
  simp only [Try.ntmps18, List.size_toArray, List.length_cons, List.length_nil, Nat.reduceAdd, Nat.reduceSub, Array.replicate_succ, Array.replicate_zero, List.push_toArray, List.append_toArray, List.nil_append, List.cons_append]
  repeat (first | refine Walk.c rfl ?_ | refine Walk.cRet ?_ | refine Walk.cEnd ?_ | (refine Walk.cReg ?_; simp only [size18_0, size18_1, size18_2, size18_3, size18_4, size18_5, size18_6, size18_7, size18_8, size18_9, List.range, List.range.loop]) | (refine Walk.oq ?_; try walk_nrm) | (refine Walk.un ?_; walk_nrm))
  exact Walk.on2 rfl rfl Try.func18 rfl (.stop fun d => ⟨_, ⟨rfl, d, rfl⟩, rfl⟩)
theorem new_odd (sz : Int) (h1 : 1 ≤ sz) (h2 : sz ≤ 65536) (h3 : bits .and .i64 sz (sz - 1) ≠ 0) (w : World) : CallV Try.prog main V 18 #[.int .i64 sz] w (.tuple #[.pointer none, .int .i64 1]) w := by
  have hw1 : IntKind.wrap .i64 (sz - 1) = sz - 1 := by rw [IntKind.wrap_i64]; omega
  have g1 : decide (sz < 1) = false := by simp; omega
  have g2 : decide (65536 < sz) = false := by simp; omega
  have g3 : (bits .and .i64 sz (sz - 1) != 0) = true := by simp [h3]
  refine callW_in Try.func18 code18_is fun fr cs => ?_
  simp only [Try.ntmps18, List.size_toArray, List.length_cons, List.length_nil, Nat.reduceAdd, Nat.reduceSub, Array.replicate_succ, Array.replicate_zero, List.push_toArray, List.append_toArray, List.nil_append, List.cons_append]
  repeat (first | refine Walk.c rfl ?_ | refine Walk.cRet ?_ | refine Walk.cEnd ?_ | (refine Walk.cReg ?_; simp only [size18_0, size18_1, size18_2, size18_3, size18_4, size18_5, size18_6, size18_7, size18_8, size18_9, List.range, List.range.loop]) | (refine Walk.oq ?_; try walk_nrm) | (refine Walk.un ?_; walk_nrm))
  exact Walk.on2 rfl rfl Try.func18 rfl (.stop fun d => ⟨_, ⟨rfl, d, rfl⟩, rfl⟩)
theorem new_no (sz : Int) (h : ¬ okS sz) (w : World) : CallV Try.prog main V 18 #[.int .i64 sz] w (.tuple #[.pointer none, .int .i64 1]) w := by
  by_cases h1 : sz < 1
  · exact new_small sz h1 w
  · by_cases h2 : 65536 < sz
    · exact new_large sz (by omega) h2 w
    · exact new_odd sz (by omega) (by omega) (fun e => h ⟨by omega, by omega, e⟩) w
end
end
theorem size57_0 : reg57_0.size = 1 := by kernel_rfl
theorem size57_1 : reg57_1.size = 9 := by kernel_rfl
theorem size57_2 : reg57_2.size = 1 := by kernel_rfl
theorem size57_3 : reg57_3.size = 10 := by kernel_rfl
theorem size57_4 : reg57_4.size = 2 := by kernel_rfl
theorem size57_5 : reg57_5.size = 1 := by kernel_rfl
theorem size57_6 : reg57_6.size = 4 := by kernel_rfl
theorem size57_7 : reg57_7.size = 1 := by kernel_rfl
theorem size57_8 : reg57_8.size = 5 := by kernel_rfl
theorem size57_9 : reg57_9.size = 4 := by kernel_rfl
theorem size57_10 : reg57_10.size = 2 := by kernel_rfl
theorem size57_11 : reg57_11.size = 2 := by kernel_rfl
section
section
variable {main : Bool} {V : Nat → Option Wait}
theorem nr_empty (xa : Option Addr) (c : Nat) (w : World) : CallV Try.prog main V 57 #[.slice xa 0 c] w (.pointer none) w := by
  refine callW_in Try.func57 code57_is fun fr cs => ?_
  simp only [Try.ntmps57, List.size_toArray, List.length_cons, List.length_nil, Nat.reduceAdd, Nat.reduceSub, Array.replicate_succ, Array.replicate_zero, List.push_toArray, List.append_toArray, List.nil_append, List.cons_append]
  repeat (first | refine Walk.c rfl ?_ | refine Walk.cRet ?_ | refine Walk.cEnd ?_ | (refine Walk.cReg ?_; simp only [size57_0, size57_1, size57_2, size57_3, size57_4, size57_5, size57_6, size57_7, size57_8, size57_9, size57_10, size57_11, List.range, List.range.loop]) | (refine Walk.oq ?_; try walk_nrm) | (refine Walk.un ?_; walk_nrm))
  exact Walk.ret1 rfl rfl Try.func57 rfl fun d => ⟨rfl, d, rfl⟩
theorem nr_big (b o ln c : Nat) (hln : 0 < ln) (x : Int) (hx : 65536 < x) (w : World) (hc : w.cell? ⟨b, o, none⟩ = some (.int .i64 x)) : CallV Try.prog main V 57 #[.slice (some ⟨b, o, none⟩) ln c] w (.pointer none) w := by
  have i0 : (0 : Int) ≤ 0 := by omega
  have i1 : (0 : Int) < (ln : Int) := by omega
  have i2 : ((ln : Int) == 0) = false := by simp; omega
  have i3 : (ln == 0) = false := by simp; omega
  have i4 : decide (65536 < x) = true := by simp [hx]
  refine callW_in Try.func57 code57_is fun fr cs => ?_
  simp only [Try.ntmps57, List.size_toArray, List.length_cons, List.length_nil, Nat.reduceAdd, Nat.reduceSub, Array.replicate_succ, Array.replicate_zero, List.push_toArray, List.append_toArray, List.nil_append, List.cons_append]
  repeat (first | refine Walk.c rfl ?_ | refine Walk.cRet ?_ | refine Walk.cEnd ?_ | (refine Walk.cReg ?_; simp only [size57_0, size57_1, size57_2, size57_3, size57_4, size57_5, size57_6, size57_7, size57_8, size57_9, size57_10, size57_11, List.range, List.range.loop]) | (refine Walk.oq ?_; try walk_nrm) | (refine Walk.un ?_; walk_nrm))
  exact Walk.ret1 rfl rfl Try.func57 rfl fun d => ⟨rfl, d, rfl⟩
theorem nr_bad (b o ln c : Nat) (hln : 0 < ln) (x : Int) (hx : x ≤ 65536) (hok : ¬ okS (max x 0)) (w : World) (hc : w.cell? ⟨b, o, none⟩ = some (.int .i64 x)) : CallV Try.prog main V 57 #[.slice (some ⟨b, o, none⟩) ln c] w (.pointer none) w := by
  have hmx := @events_max_ints Try.prog
  have i0 : (0 : Int) ≤ 0 := by omega
  have i1 : (0 : Int) < (ln : Int) := by omega
  have i2 : ((ln : Int) == 0) = false := by simp; omega
  have i3 : (ln == 0) = false := by simp; omega
  have i4 : decide (65536 < x) = false := by simp [hx]
  have hnew := new_no (main := main) (V := V) (max x 0) hok w
  clear hok
  refine callW_in Try.func57 code57_is fun fr cs => ?_
  simp only [Try.ntmps57, List.size_toArray, List.length_cons, List.length_nil, Nat.reduceAdd, Nat.reduceSub, Array.replicate_succ, Array.replicate_zero, List.push_toArray, List.append_toArray, List.nil_append, List.cons_append]
  repeat (first | refine Walk.c rfl ?_ | refine Walk.cRet ?_ | refine Walk.cEnd ?_ | (refine Walk.cReg ?_; simp only [size57_0, size57_1, size57_2, size57_3, size57_4, size57_5, size57_6, size57_7, size57_8, size57_9, size57_10, size57_11, List.range, List.range.loop]) | (refine Walk.oq ?_; try walk_nrm) | (refine Walk.un ?_; walk_nrm))
  refine Walk.callV (x := .tuple #[.pointer none, .int .i64 1]) (W := w) ?_ (ho_of (by conv => lhs; whnf) (by kernel_rfl)) (by rfl) (by decide) rfl Try.func18 (by kernel_rfl) (by rfl) ?_
  · walk_nrm
    exact hnew
  walk_nrm
  repeat (first | refine Walk.c rfl ?_ | refine Walk.cRet ?_ | refine Walk.cEnd ?_ | (refine Walk.cReg ?_; simp only [size57_0, size57_1, size57_2, size57_3, size57_4, size57_5, size57_6, size57_7, size57_8, size57_9, size57_10, size57_11, List.range, List.range.loop]) | (refine Walk.oq ?_; try walk_nrm) | (refine Walk.un ?_; walk_nrm))
  exact Walk.ret1 rfl rfl Try.func57 rfl fun d => ⟨rfl, d, rfl⟩
end
end
section
section
variable {main : Bool} {V : Nat → Option Wait}
theorem newRing_no (xa : Option Addr) (xs : List Int) (xc : Nat) (hn : ¬ isR xs) (w : World) (hx : LsR (.slice xa xs.length xc) xs w) : CallV Try.prog main V 57 #[.slice xa xs.length xc] w (.pointer none) w := by
  cases xs with
  | nil => exact nr_empty xa xc w
  | cons x l =>
    obtain ⟨a, c, e, _, _, h⟩ := hx
    injection e with e1 _ e3
    obtain ⟨b, o, e2, hc⟩ := h 0 x rfl
    subst e1 e3 e2
    by_cases h1 : 65536 < x
    · exact nr_big b o (x :: l).length xc (by simp) x h1 w hc
    · exact nr_bad b o (x :: l).length xc (by simp) x (by omega) (fun hok => hn ⟨x, l, rfl, by omega, hok⟩) w hc
end
end
theorem size16_0 : reg16_0.size = 1 := by kernel_rfl
theorem size16_1 : reg16_1.size = 3 := by kernel_rfl
theorem size16_2 : reg16_2.size = 8 := by kernel_rfl
theorem size16_3 : reg16_3.size = 4 := by kernel_rfl
theorem size16_4 : reg16_4.size = 2 := by kernel_rfl
section
def RwR (sl : Value) (n : Nat) (xs : List Value) (w : World) : Prop := ∃ a c, sl = .slice a n c ∧ ∀ (j : Nat) (u : Value), xs[j]? = some u → ∃ b o, a = some ⟨b, o, none⟩ ∧ w.cell? ⟨b, o + j, none⟩ = some u
theorem RwR.old {sl : Value} {n : Nat} {xs : List Value} {w w' : World} (h : RwR sl n xs w) (hb : ∀ b, b < w.heap.size → w'.heap[b]? = w.heap[b]?) : RwR sl n xs w' := by
  obtain ⟨a, c, h1, h4⟩ := h
  refine ⟨a, c, h1, fun j z hj => ?_⟩
  obtain ⟨b, off, e, hc⟩ := h4 j z hj
  exact ⟨b, off, e, (World.cell?_of_block (a := ⟨b, off + j, none⟩) (hb b (cell_lt' hc))).trans hc⟩
section
variable {main : Bool} {V : Nat → Option Wait} {Stop : Goroutine → World → Prop} {w : World} {b : Frame} {a : Act} {k : List Item} {cs : List Frame} {ops : Array Oper} {i : Nat} {rest : List Nat} {o : Oper}
theorem Walk.copiedT (s x : Operand) (t e : TypeId) (ti : TypeInfo) (z : Value) (size bytes : Nat) (ht : Try.prog.underlying t = some (.slice e)) (hi : Try.prog.info? e = some ti) (hz : ti.zero = some z) (hsize : ti.size = size) (hby : ti.bytes = bytes) (hzs : z.cells.size = size) (hsz : 0 < size)
    (ho : ops[i]? = some o) (hw : Region.wanted o (yielded ops a.tmps) = true) (hk : b.kind ≠ .early) (hop : o.op = .call { callee := .builtin .append, args := #[s, x], argTypes := #[t, t] })
    (E : Nat) (hE : w.heap[E]? = some (.cells #[] e)) (hap : Apart V E) (sl : Value) (n : Nat) (xs : List Value) (hls : RwR sl n xs w) (hxl : xs.length = n * size) (hone : ∀ u ∈ xs, u.oneCell' = true) (hn : n ≤ maxLen) (hnb : n * bytes ≤ 140737488355328) (hs : a.eval s = .slice (some ⟨E, 0, none⟩) 0 0) (hx : a.eval x = sl)
    (h : ∀ g cap w', w'.ownsRow E e size (.slice (some ⟨g, 0, none⟩) n cap) n xs → (∀ b, b < w.heap.size → b ≠ E → w'.heap[b]? = w.heap[b]?) → w.heap.size ≤ w'.heap.size → Walk Try.prog main (DR V) Stop (G (b.at (a.put o.dst (.slice (some ⟨g, 0, none⟩) n cap)) (.inRegion ops rest :: k)) cs) w') :
    Walk Try.prog main (DR V) Stop (G (b.at a (.inRegion ops (i :: rest) :: k)) cs) w := by
  obtain ⟨xa, xc, rfl, hcells⟩ := hls
  have hEl := (Array.getElem?_eq_some_iff.1 hE).1
  have hown : w.ownsRow E e size (.slice (some ⟨E, 0, none⟩) 0 0) 0 [] := ⟨by simp, .inr ⟨E, 0, #[], rfl, Nat.le_refl _, hE, Nat.le_refl _, by decide, by simp, by simp⟩⟩
  by_cases h0 : n = 0
  · subst h0
    have hxs : xs = [] := List.eq_nil_of_length_eq_zero (by rw [hxl]; omega)
    subst hxs
    have hz := fun w es => run_app0 ht hi o.type ⟨E, 0, none⟩ xa xc w es
    refine Walk.opq ho hw hk (fun dd e he => ?_) (fun dd K hK => ?_)
    · rw [events_append_op s x _ hop hs hx, (hz (w.at dd) #[]).2] at he
      simp at he
    · exact uponK_append s x _ hop hs hx (hz (w.at dd) #[]).1 (hK _ (h E 0 w hown (fun _ _ _ => rfl) (Nat.le_refl _)))
  · have hpos : 0 < xs.length := by
      rw [hxl]
      exact Nat.mul_pos (by omega) hsz
    obtain ⟨xb, xo, e0, _⟩ := hcells 0 _ (List.getElem?_eq_getElem hpos)
    refine Walk.append s x t ho hw hk hop E e ti z size bytes ht hi hz hsize hby hzs hsz (.slice (some ⟨E, 0, none⟩) 0 0) 0 [] hs hown ⟨xb, xo, none⟩ n xc xs (by rw [hx, e0]) hxl (fun j u hu => ?_) hone (by omega) (by omega) (by rw [Nat.zero_add]; exact hnb) (by omega) (fun g hg => ?_) (fun g cap w' hown' hgr hat hlt => ?_)
    · obtain ⟨b', off', e, h'⟩ := hcells j u hu
      rw [e0] at e
      obtain ⟨rfl, rfl, _⟩ := Addr.mk.inj (Option.some.inj e)
      rw [add_none]; exact h'
    · have hg : E = g := Option.some.inj hg
      rw [← hg]; exact hap
    · rw [Nat.zero_add] at hown' ⊢
      rw [List.nil_append] at hown'
      exact h g cap w' hown' (fun b hb hne => hgr.block b hb fun e => hne (Option.some.inj e)) hgr.size
end
end
section
def May (A0 A1 : Nat) (wz : World) (b : Nat) : Prop := A0 ≤ b ∧ b < A1 ∧ ∃ (cur : Array Value) (t : TypeId), wz.heap[b]? = some (.cells cur t (0, 0)) ∧ (t = 49 ∨ t = 46 ∨ t = 2 ∨ t = 3)
structure KP (A0 A1 : Nat) (wz w : World) : Prop where
  size : wz.heap.size ≤ w.heap.size
  keep : ∀ b, b < wz.heap.size → ¬ May A0 A1 wz b → w.heap[b]? = wz.heap[b]?
  sizes : Sizes wz w
section
variable {A0 A1 : Nat} {wz w w' : World}
theorem KP.refl (A0 A1 : Nat) (wz : World) : KP A0 A1 wz wz := ⟨Nat.le_refl _, fun _ _ _ => rfl, Sizes.refl _⟩
theorem KP.at (H : KP A0 A1 wz w) (d : Nat) : KP A0 A1 wz (w.at d) := ⟨H.size, H.keep, H.sizes⟩
theorem KP.step (H : KP A0 A1 wz w) (hs : w.heap.size ≤ w'.heap.size) (hS : Sizes w w') (hk : ∀ b, b < w.heap.size → w'.heap[b]? = w.heap[b]? ∨ May A0 A1 wz b ∨ wz.heap.size ≤ b) : KP A0 A1 wz w' :=
  ⟨Nat.le_trans H.size hs, fun b hb hm => ((hk b (Nat.lt_of_lt_of_le hb H.size)).resolve_right fun h => h.elim hm fun h => absurd hb (Nat.not_lt.2 h)).trans (H.keep b hb hm), H.sizes.trans hS⟩
theorem Sizes.set (w : World) (g i : Nat) (v : Value) : Sizes w (w.setCell ⟨g, i, none⟩ v) := fun b cur t h => by
  by_cases e : b = g
  · subst e
    exact ⟨_, heap_set_self _ _ h, by simp⟩
  · exact ⟨cur, (heap_set_other _ _ _ _ e).trans h, rfl⟩
theorem KP.set (H : KP A0 A1 wz w) {g i : Nat} {v : Value} (hg : May A0 A1 wz g ∨ wz.heap.size ≤ g) : KP A0 A1 wz (w.setCell ⟨g, i, none⟩ v) :=
  H.step (Nat.le_of_eq (size_set ..).symm) (Sizes.set _ _ _ _) fun b _ => by
    by_cases e : b = g
    · subst e; exact .inr hg
    · exact .inl (heap_set_other _ _ _ _ e)
theorem KP.low (H : KP A0 A1 wz w) {b : Nat} (hb : b < wz.heap.size) (h : b < A0 ∨ A1 ≤ b) : w.heap[b]? = wz.heap[b]? := H.keep b hb fun hm => by
  rcases h with h | h
  · have := hm.1; omega
  · have := hm.2.1; omega
theorem KP.typed (H : KP A0 A1 wz w) {b : Nat} {cur : Array Value} {t : TypeId} (h : wz.heap[b]? = some (.cells cur t (0, 0))) (ht : ¬ (t = 49 ∨ t = 46 ∨ t = 2 ∨ t = 3)) : w.heap[b]? = some (.cells cur t (0, 0)) :=
  (H.keep b (Array.getElem?_eq_some_iff.1 h).1 fun ⟨_, _, c, t', h', ht'⟩ => by
    rw [h] at h'
    cases h'
    exact ht ht').trans h
theorem KP.cellLow (H : KP A0 A1 wz w) {b j : Nat} {v : Value} (h : wz.cell? ⟨b, j, none⟩ = some v) (hb : b < A0 ∨ A1 ≤ b) : w.cell? ⟨b, j, none⟩ = some v :=
  (World.cell?_of_block (a := ⟨b, j, none⟩) (H.low (cell_lt' h) hb)).trans h
theorem KP.cellTyped (H : KP A0 A1 wz w) {b j : Nat} {v : Value} {cur : Array Value} {t : TypeId} (h : wz.heap[b]? = some (.cells cur t (0, 0))) (ht : ¬ (t = 49 ∨ t = 46 ∨ t = 2 ∨ t = 3)) (hc : cur[j]? = some v) : w.cell? ⟨b, j, none⟩ = some v :=
  (cell_of (H.typed h ht) j).trans hc
theorem Sizes.row (hS : Sizes w w') {base n size : Nat} {e : TypeId} {v : Value} {xs : List Value} (h : w.ownsRow base e size v n xs) : ∃ ys, ys.length = n * size ∧ w'.ownsRow base e size v n ys := by
  rcases h.2 with ⟨rfl, rfl⟩ | ⟨g, cap, cur, rfl, hb, hg, hnc, hcm, hcs, htake⟩
  · exact ⟨[], by simp, by simp, .inl ⟨rfl, rfl⟩⟩
  · obtain ⟨c', h1, h2⟩ := hS g cur e hg
    have hl : (c'.toList.take (n * size)).length = n * size := by
      rw [List.length_take, Array.length_toList, h2, hcs]
      exact Nat.min_eq_left (Nat.mul_le_mul_right _ hnc)
    exact ⟨_, hl, hl, .inr ⟨g, cap, c', rfl, hb, h1, hnc, hcm, by rw [h2, hcs], rfl⟩⟩
end
end
end Go.Proofs.Ytbmijpkdghkbbaa
