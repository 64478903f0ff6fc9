/- Part 6. -/
import Derived.Test.YtflcclneedldoaaJ3
import Derived.Test.YtflcclneedldoaaJ5
import Derived.Deep.Heap
set_option linter.unusedSimpArgs false
set_option linter.unusedVariables false
set_option maxHeartbeats 8000000
set_option maxRecDepth 100000
namespace Go.Proofs.Ytflcclneedldoaa
noncomputable section
open Go.Conc Go.RowKit Go.Relay Try
open Go.ConcN (upd upd_ne upd_same)
section
variable {S : Stile} {n0 : Nat} {D D' : Dyn} {w w' : World} {j : Nat}
theorem Sys.flag (H : Sys S n0 D w) (hj : j < S.n) (x : Bool) : Sys S n0 { D with f := upd D.f j x } (w.setCell ⟨S.p j, 2, none⟩ (.bool x)) := by
 refine H.put rfl rfl rfl rfl rfl rfl (Nat.le_of_eq (Ai ..).symm) (fun b y hy h => ?_) fun b hb => ?_
 ·by_cases e : b = S.p j
  ·subst e
   rw [H.op j hj] at hy
   cases hy
   rw [Ao w _ (H.pp hj)]
   simp [Good, upd_same]
  ·rw [Ac w _ b _ e]
   refine h.of_same (fun i hi => ⟨upd_ne _ _ fun ei => e ?_, rfl⟩) (fun _ => ⟨rfl, rfl, rfl, rfl⟩) fun i _ z => z
   subst hi; subst ei; exact (H.ids b _ hy).2
 ·exact Ac w _ b _ (H.two hb (H.op j hj) (by simp))
theorem Sys.gcell (H : Sys S n0 D w) (k : Nat) : Sys S n0 { D with gg := k } (w.setCell ⟨S.B, 1, none⟩ (.int .i64 k)) := by
 refine H.put rfl rfl rfl rfl rfl rfl (Nat.le_of_eq (Ai ..).symm) (fun b y hy h => ?_) fun b hb => ?_
 ·by_cases e : b = S.B
  ·subst e
   rw [H.oB] at hy
   cases hy
   obtain ⟨arr, ty, fr, h, h0, h1, h2, h3, hz⟩ := h
   have hl : 1 < arr.size := (aEs h1).1
   rw [Ao w _ h]
   refine ⟨_, _, _, rfl, ?_, ?_, ?_, ?_, hz⟩
   ·rw [aNe]; exact h0
   ·rw [Array.getElem?_setIfInBounds_self_of_lt hl]
   ·rw [aNe]; exact h2
   ·rw [aNe]; exact h3
  ·rw [Ac w _ b _ e]
   refine h.of_same (fun i hi => ⟨rfl, rfl⟩) (fun hB => absurd (show b = S.B from H.ids b .tB (hB ▸ hy)) e) fun i _ z => z
 ·exact Ac w _ b _ (H.two hb H.oB (by simp))
theorem Sys.note (H : Sys S n0 D w) (hj : j < S.n) (hg : 1 <= D.gg) (ok : Bool) :
  Sys S n0 { D with f := upd D.f j (!ok), gg := if ok then D.gg else D.gg - 1 } (Gi w S.B (S.p j) D.gg ok) /\ Keeps D.own D.own w (Gi w S.B (S.p j) D.gg ok) := by
 have h1 := H.alloc (.cells #[] 68)
 have k1 := Keeps.alloc D.own w (.cells #[] 68)
 cases ok
 ·have e : ((D.gg : Int) - 1) = ((D.gg - 1 : Nat) : Int) := by omega
  refine ⟨?_, ?_⟩
  ·have := (h1.flag hj true).gcell (D.gg - 1)
   simpa only [Gi, e, Bool.not_false, Bool.false_eq_true, if_false] using this
  ·simp only [Gi, Bool.false_eq_true, if_false]
   exact k1.trans ((Keeps.set _ (H.op j hj)).trans (Keeps.set _ H.oB))
 ·refine ⟨?_, ?_⟩
  ·have := h1.flag hj false
   simpa only [Gi, Bool.not_true, if_true] using this
  ·simp only [Gi, if_true]
   exact k1.trans (Keeps.set _ (H.op j hj))
theorem Sys.order {i gr cap : Nat} (H : Sys S n0 D w) (hrow : w'.ownsRow n0 3 1 (.slice (some ⟨gr, 0, none⟩) (D.ord.length + 1) cap) (D.ord.length + 1) (D.ord.map (fun i => Value.int .i64 (i : Nat)) ++ [.int .i64 i]))
  (hat : (Value.slice D.oa D.ord.length D.oc).ownBlock = some gr ∨ w.heap.size <= gr) (hlt : gr < w'.heap.size) (hs : w.heap.size <= w'.heap.size)
  (hb : ∀ b, b < w.heap.size -> b ≠ S.B -> some b ≠ (Value.slice D.oa D.ord.length D.oc).ownBlock -> w'.heap[b]? = w.heap[b]?) (hB : w'.heap[S.B]? = (w.setCell ⟨S.B, 3, none⟩ (.slice (some ⟨gr, 0, none⟩) (D.ord.length + 1) cap)).heap[S.B]?) :
  Sys S n0 { D with ord := D.ord ++ [i], oa := some ⟨gr, 0, none⟩, oc := cap, own := upd D.own gr (some .ord) } w' /\ Keeps D.own (upd D.own gr (some .ord)) w w' := by
 have hgr : ∀ b x, D.own b = some x -> x ≠ .ord -> b ≠ gr := fun b x hx hne e => by
  subst e
  rcases hat with h | h
  ·rw [H.oo b h] at hx; exact hne (Option.some.inj hx).symm
  ·have := (H.lt b x hx).2; omega
 have hold : ∀ b x, D.own b = some x -> upd D.own gr (some .ord) b = some x := fun b x hx => by
  by_cases e : b = gr
  ·subst e
   rw [upd_same]
   refine congrArg some (Classical.byContradiction fun h => ?_)
   exact hgr b x hx (fun z => h z.symm) rfl
  ·rw [upd_ne _ _ e]; exact hx
 have hnew : ∀ b x, upd D.own gr (some .ord) b = some x -> (b = gr /\ x = .ord) ∨ (b ≠ gr /\ D.own b = some x) := fun b x hx => by
  by_cases e : b = gr
  ·subst e; rw [upd_same] at hx; exact .inl ⟨rfl, (Option.some.inj hx).symm⟩
  ·rw [upd_ne _ _ e] at hx; exact .inr ⟨e, hx⟩
 have hn0 : n0 <= w.heap.size := Nat.le_of_lt (Nat.lt_of_le_of_lt (H.lt _ _ H.oB).1 (H.lt _ _ H.oB).2)
 refine ⟨⟨fun b x hx => ?_, fun b x hx => ?_, fun b x hx => ?_, hold _ _ H.oB, hold _ _ H.oS, fun i hi => hold _ _ (H.op i hi), fun i hi => hold _ _ (H.ot i hi), fun i hi => hold _ _ (H.or i hi), fun i hi => hold _ _ (H.oN i hi), fun b e => ?_, ?_, H.n64, H.kn, H.hg0⟩, hs, fun b hb' ho => ?_⟩
 ·rcases hnew b x hx with ⟨rfl, rfl⟩ | ⟨hne, hx⟩
  ·trivial
  ·by_cases eB : b = S.B
   ·subst eB
    rw [H.oB] at hx
    cases hx
    obtain ⟨arr, ty, fr, h, h0, h1, h2, h3, hz⟩ := H.good _ _ H.oB
    have hl : 3 < arr.size := (aEs h3).1
    rw [hB, Ao w _ h]
    refine ⟨_, _, _, rfl, ?_, ?_, ?_, ?_, hz⟩
    ·rw [aNe]; exact h0
    ·rw [aNe]; exact h1
    ·rw [aNe]; exact h2
    ·rw [Array.getElem?_setIfInBounds_self_of_lt hl]; simp
   ·by_cases ho : some b = (Value.slice D.oa D.ord.length D.oc).ownBlock
    ·rw [H.oo b ho.symm] at hx; cases hx; trivial
    ·rw [hb b (H.lt b x hx).2 eB ho]
     exact (H.good b x hx).of_same (fun i _ => ⟨rfl, rfl⟩) (fun e => absurd (show b = S.B from H.ids b .tB (e ▸ hx)) eB) fun i _ z => z
 ·rcases hnew b x hx with ⟨rfl, rfl⟩ | ⟨hne, hx⟩
  ·refine ⟨?_, hlt⟩
   rcases hat with h | h
   ·exact (H.lt b _ (H.oo b h)).1
   ·omega
  ·have := H.lt b x hx; omega
 ·rcases hnew b x hx with ⟨rfl, rfl⟩ | ⟨hne, hx⟩
  ·trivial
  ·have h := H.ids b x hx
   cases x <;> exact h
 ·simp only [Value.ownBlock, Option.some.injEq] at e
  subst e
  exact upd_same _ _ _
 ·simpa using hrow
 ·have hne : b ≠ gr := fun e => by
   subst e
   rcases hat with h | h
   ·rw [H.oo b h] at ho; cases ho
   ·omega
  refine ⟨by rw [upd_ne _ _ hne]; exact ho, hb b hb' (fun e => ?_) fun e => ?_⟩
  ·subst e; rw [H.oB] at ho; cases ho
  ·rw [H.oo b e.symm] at ho; cases ho
theorem Fi (H : Sys S n0 D w) {b i : Nat} {r : Role} (hb : D.own b = some r) (hr : (∀ a, r ≠ .p a) ∨ i ≠ 0) : Dm (VV S D none none) ⟨b, i, none⟩ :=
 Kw (fun v h => by cases h) fun i' hi' e => by
  rcases hr with h | h
  ·exact H.two hb (H.op i' (Nat.lt_of_lt_of_le hi' H.kn)) (h _) (congrArg Addr.block e)
  ·exact h (congrArg Addr.off e)
theorem apart_ord (H : Sys S n0 D w) {b : Nat} (hb : D.own b = some .ord) : Az (VV S D none none) b := by
 refine ⟨fun a ha => Kw (fun v h => by cases h) fun i hi e => ?_, fun g u h => ?_⟩
 ·subst e; subst ha
  exact H.two hb (H.op i (Nat.lt_of_lt_of_le hi H.kn)) (by simp) rfl
 ·rcases Kv h with ⟨_, h⟩ | ⟨i, hi, _, _, _, rfl⟩
  ·cases h
  ·exact (H.two hb (H.ot i (Nat.lt_of_lt_of_le hi H.kn)) (by simp)).symm
theorem going_le (n : Nat) (f : Nat -> Bool) : going n f <= n := by
 unfold going
 exact Nat.le_trans List.countP_le_length (by simp)
theorem Iz {n : Nat} {f : Nat -> Bool} {i : Nat} (hi : i < n) (h : f i = false) : 1 <= going n f := by
 unfold going
 exact List.countP_pos_iff.2 ⟨i, by simpa using hi, by simp [h]⟩
theorem going_ended {n : Nat} {f : Nat -> Bool} {i : Nat} (hi : i < n) (h : f i = false) : going n (upd f i true) = going n f - 1 := by
 unfold going
 induction n with
 | zero => omega
 | succ n ih =>
  rw [List.range_succ, List.countP_append, List.countP_append]
  by_cases e : i = n
  ·subst e
   have : (List.range i).countP (fun j => !upd f i true j) = (List.range i).countP (fun j => !f j) := List.countP_congr fun j hj => by
    have : j ≠ i := by have := List.mem_range.1 hj; omega
    simp [upd_ne _ _ this]
   rw [this]
   simp [upd_same, h]
  ·have hp := Iz (n := n) (by omega) h
   unfold going at hp
   have := ih (by omega)
   rw [this]
   simp only [List.countP_singleton, upd_ne _ _ (Ne.symm e)]
   omega
end
section
variable {main : Bool} {V : Nat -> Option Wait}
theorem send81 (B sb n scap i p ct N : Nat) (old new : Value) (cs : List Frame) (w : World) : ∃ z' es, (∀ e ∈ es, Je V e) /\ ∀ d, stepG prog main (Hz B sb n scap i p ct N old new cs) (w.at d) = .comm (Hz B sb n scap i p ct N old new cs) #[scase ct (.agg #[]) z'] true .send (w.at d) es := by
 refine ⟨.tuple #[], #[], by simp, fun d => ?_⟩
 unfold Hz
 simp only [Pw, Jm, Gz, f206]
 rw [stepG_comm (cases := #[scase ct (.agg #[]) (.tuple #[])]) (blocking := true) (shape := .send) (w' := w.at d) rfl (by rfl) (by decide) (by simp [execOp, scase, Act.eval]), listed_none (by simp [go_sem, execOp, Act.eval])]
theorem step_world {w w' : World} {B n0 on oc g cap : Nat} {oa : Option Addr} {xs : List Value} {i : Nat} (hgB : g ≠ B)
  (hown2 : w'.ownsRow n0 3 1 (.slice (some ⟨g, 0, none⟩) (on + 1) cap) (on + 1) (xs ++ [.int .i64 i])) (hg : (w.alloc (.cells #[.int .i64 i] 3)).grownBy w' (Value.slice oa on oc).ownBlock)
  (hat : (Value.slice oa on oc).ownBlock = some g ∨ g = (w.alloc (.cells #[.int .i64 i] 3)).heap.size) (hlt : g < w'.heap.size) :
  (w'.setCell ⟨B, 3, none⟩ (.slice (some ⟨g, 0, none⟩) (on + 1) cap)).ownsRow n0 3 1 (.slice (some ⟨g, 0, none⟩) (on + 1) cap) (on + 1) (xs ++ [.int .i64 i]) /\
  ((Value.slice oa on oc).ownBlock = some g ∨ w.heap.size <= g) /\ g < (w'.setCell ⟨B, 3, none⟩ (.slice (some ⟨g, 0, none⟩) (on + 1) cap)).heap.size /\ w.heap.size <= (w'.setCell ⟨B, 3, none⟩ (.slice (some ⟨g, 0, none⟩) (on + 1) cap)).heap.size /\
  (∀ a u, w.cell? a = some u -> a ≠ ⟨B, 3, none⟩ -> some a.block ≠ (Value.slice oa on oc).ownBlock -> (w'.setCell ⟨B, 3, none⟩ (.slice (some ⟨g, 0, none⟩) (on + 1) cap)).cell? a = some u /\ (w'.setCell ⟨B, 3, none⟩ (.slice (some ⟨g, 0, none⟩) (on + 1) cap)).frozen? a = w.frozen? a) /\
  (∀ b, b < w.heap.size -> b ≠ B -> some b ≠ (Value.slice oa on oc).ownBlock -> (w'.setCell ⟨B, 3, none⟩ (.slice (some ⟨g, 0, none⟩) (on + 1) cap)).heap[b]? = w.heap[b]?) := by
 have hal : (w.alloc (.cells #[.int .i64 i] 3)).heap.size = w.heap.size + 1 := by simp
 have hsz := hg.size
 have hlb : ∀ b, b < w.heap.size -> b < (w.alloc (.cells #[.int .i64 i] 3)).heap.size := fun b hb => by omega
 have hn := Go.Deep.nblk_setCell w' ⟨B, 3, none⟩ (.slice (some ⟨g, 0, none⟩) (on + 1) cap)
 refine ⟨hown2.kept (row := some B) ⟨rfl, rfl, rfl, by rw [hn]; exact Nat.le_refl _, fun b _ hb => Go.Deep.blk_setCell_other _ _ _ b (fun e => hb (by rw [e]))⟩ (.inr (by simp [Value.ownBlock, hgB])), ?_, by rw [hn]; exact hlt, by rw [hn]; omega, fun a u ha hne' hr => ⟨?_, ?_⟩, fun b hb hbB hr => ?_⟩
 ·rcases hat with h | h
  ·exact .inl h
  ·exact .inr (by omega)
 ·exact (World.cell?_setCell_other w' ⟨B, 3, none⟩ a _ (Ne.symm hne')).trans ((hg.cell_far _ (hlb _ (Cn w ha)) hr).trans (Aj w _ ha))
 ·rw [World.frozen?_setCell]; exact (hg.frozen_far _ (hlb _ (Cn w ha)) hr).trans (Bp w _ ha rfl)
 ·exact (Go.Deep.blk_setCell_other _ _ _ b hbB).trans ((hg.block b (hlb b hb) hr).trans (Below.heap_alloc _ _ _ hb))
theorem step_block {w w' : World} {B : Nat} {row : Option Nat} {o : Obj} (hB : B < w.heap.size) (hr : some B ≠ row) (hg : (w.alloc o).grownBy w' row) (x : Value) : (w'.setCell ⟨B, 3, none⟩ x).heap[B]? = (w.setCell ⟨B, 3, none⟩ x).heap[B]? := by
 have h : w'.heap[B]? = w.heap[B]? := (hg.block B (by simp; omega) hr).trans (Below.heap_alloc _ _ _ hB)
 simp only [World.setCell]
 rw [Array.getElem?_modify, Array.getElem?_modify, h]
theorem step_go {Stop : Goroutine -> World -> Prop} (B sb n scap i p ct n0 : Nat) (going most : Int) (oa : Option Addr) (on oc : Nat) (xs : List Value) (cs : List Frame) (w : World) (hin : i < n)
  (h0 : w.cell? ⟨B, 0, none⟩ = some (.slice (some ⟨sb, 0, none⟩) n scap)) (h1 : w.cell? ⟨B, 1, none⟩ = some (.int .i64 going)) (h2 : w.cell? ⟨B, 2, none⟩ = some (.int .i64 most)) (h3 : w.cell? ⟨B, 3, none⟩ = some (.slice oa on oc)) (h3z : w.frozen? ⟨B, 3, none⟩ = false) (hf3 : Dm V ⟨B, 3, none⟩)
  (hp : w.cell? ⟨sb, i, none⟩ = some (.pointer (some ⟨p, 0, none⟩))) (hpe : w.cell? ⟨p, 2, none⟩ = some (.bool false)) (hpt : w.cell? ⟨p, 0, none⟩ = some (.chan (some ct))) (hov : (decide (going = 0) || decide (most <= on)) = false)
  (hown : w.ownsRow n0 3 1 (.slice oa on oc) on xs) (hbase : n0 <= w.heap.size) (hlen : on <= 1048576) (hap : ∀ g, (Value.slice oa on oc).ownBlock = some g -> Az V g /\ g ≠ B /\ g ≠ sb /\ g ≠ p) (hsB : sb ≠ B) (hpB : p ≠ B)
  (hk : ∀ g cap w', w'.ownsRow n0 3 1 (.slice (some ⟨g, 0, none⟩) (on + 1) cap) (on + 1) (xs ++ [.int .i64 i]) -> w'.cell? ⟨B, 3, none⟩ = some (.slice (some ⟨g, 0, none⟩) (on + 1) cap) -> ((Value.slice oa on oc).ownBlock = some g ∨ w.heap.size <= g) -> g < w'.heap.size -> w.heap.size <= w'.heap.size ->
   (∀ a u, w.cell? a = some u -> a ≠ ⟨B, 3, none⟩ -> some a.block ≠ (Value.slice oa on oc).ownBlock -> w'.cell? a = some u /\ w'.frozen? a = w.frozen? a) -> (∀ b, b < w.heap.size -> b ≠ B -> some b ≠ (Value.slice oa on oc).ownBlock -> w'.heap[b]? = w.heap[b]?) -> (w'.heap[B]? = (w.setCell ⟨B, 3, none⟩ (.slice (some ⟨g, 0, none⟩) (on + 1) cap)).heap[B]?) ->
   Walk prog main (DR V) Stop (Hz B sb n scap i p ct w.heap.size (.slice oa on oc) (.slice (some ⟨g, 0, none⟩) (on + 1) cap) cs) w') :
  Walk prog main (DR V) Stop (G (Frame.enter prog 206 #[.pointer (some ⟨B, 0, none⟩), .int .i64 i] .normal) cs) w := by
 rw [enter_at _ func206 rfl]
 simp only [f206, ez, Nat.reduceAdd, Nat.reduceSub]
 have hi0 : (0 : Int) <= i := by omega
 have hi1 : decide ((i : Int) < 0) = false := by simp
 have hi2 : decide (n <= i) = false := by simp; omega
 refine Ae ?_
 refine Walk.callV (x := .bool false) (W := w) ?_ rfl (by rfl) (by decide) rfl func205 (by kernel_rfl) (by rfl) ?_
 ·walk_nrm
  have := Lh (main := main) (V := V) B going most oa on oc w h1 h2 h3
  rwa [hov] at this
 walk_nrm
 refine Ae ?_
 (refine Wa ?_; try walk_nrm)
 have hi24 : prog.underlying 30 = some (.slice 3) := by kernel_rfl
 have hi3 := Option.some_get (show (prog.info? 3).isSome = true by kernel_rfl)
 have hown' := hown.kept (World.grownBy_alloc w (.cells #[.int .i64 i] 3) none) (by cases (Value.slice oa on oc).ownBlock <;> simp)
 have c0 := Aj w (.cells #[.int .i64 i] 3) h0
 have c3 := Aj w (.cells #[.int .i64 i] 3) h3
 have c3z := Bp w (.cells #[.int .i64 i] 3) h3 h3z
 have cp := Aj w (.cells #[.int .i64 i] 3) hp
 have cpt := Aj w (.cells #[.int .i64 i] 3) hpt
 refine Walk.append (.tmp 35) (.tmp 37) 30 rfl (by rfl) (by decide) rfl n0 3 _ (.int .i64 0) 1 8 hi24 hi3.symm (by rfl) (by rfl) (by rfl) (by rfl) (by decide) (.slice oa on oc) on xs rfl hown' ⟨w.heap.size, 0, none⟩ 1 1 [.int .i64 i] rfl (by rfl) (fun j u hu => ?_) (by simp [Value.oneCell']) (by decide) (by simp [maxLen]; omega) (by omega) (by simp; omega) (fun g hg => (hap g hg).1) (fun g cap w' hown2 hg hat hlt => ?_)
 ·obtain rfl : j = 0 := by rcases j with _ | j <;> simp at hu ⊢
  simp at hu; subst hu; simp [Addr.add]
 have hne : ∀ b, (b = B ∨ b = sb ∨ b = p) -> some b ≠ (Value.slice oa on oc).ownBlock := fun b hb e => by
  obtain ⟨_, h1, h2, h3⟩ := hap b e.symm
  rcases hb with h | h | h <;> contradiction
 have d0 := (hg.cell_far _ (Cn _ c0) (hne _ (by simp))).trans c0
 have d3 := (hg.cell_far _ (Cn _ c3) (hne _ (by simp))).trans c3
 have d3z := (hg.frozen_far _ (Cn _ c3) (hne _ (by simp))).trans c3z
 have dp := (hg.cell_far _ (Cn _ cp) (hne _ (by simp))).trans cp
 have dpt := (hg.cell_far _ (Cn _ cpt) (hne _ (by simp))).trans cpt
 have hgB : g ≠ B := fun e => by
  rcases hat with h | h
  ·exact (hap g h).2.1 e
  ·have := Cn w h3; simp only at this; have hal : (w.alloc (.cells #[.int .i64 i] 3)).heap.size = w.heap.size + 1 := by simp
   omega
 walk_nrm
 refine Ae ?_
 (refine Ws hf3 d3 ?_; try walk_nrm)
 have e0 := (World.cell?_setCell_other w' ⟨B, 3, none⟩ ⟨B, 0, none⟩ (.slice (some ⟨g, 0, none⟩) (on + 1) cap) (by simp)).trans d0
 have e3 := World.cell?_setCell_same w' ⟨B, 3, none⟩ (.slice (some ⟨g, 0, none⟩) (on + 1) cap) d3
 have ep := (World.cell?_setCell_other w' ⟨B, 3, none⟩ ⟨sb, i, none⟩ (.slice (some ⟨g, 0, none⟩) (on + 1) cap) (by simp [Ne.symm hsB])).trans dp
 have ept := (World.cell?_setCell_other w' ⟨B, 3, none⟩ ⟨p, 0, none⟩ (.slice (some ⟨g, 0, none⟩) (on + 1) cap) (by simp [Ne.symm hpB])).trans dpt
 refine Ae ?_
 unfold Hz at hk
 simp only [Pw, Jm, Gz, f206] at hk
 obtain ⟨k1, k2, k3, k4, k5, k6⟩ := step_world hgB hown2 hg hat hlt
 exact hk g cap _ k1 e3 k2 k3 k4 k5 k6 (step_block (Cn w h3) (hne B (by simp)) hg _)
end
section
open Classical in
def Gq (S : Stile) (j : Nat) (home : Goroutine -> Prop) : Wait where
 ch := S.r j
 z := .agg #[]
 ok := true
 home := home
 f := fun a => if a = ⟨S.B, 0, none⟩ then some (.slice (some ⟨S.sb, 0, none⟩) S.n S.scap) else if a = ⟨S.sb, j, none⟩ then some (.pointer (some ⟨S.p j, 0, none⟩)) else
  if a = ⟨S.p j, 1, none⟩ then some (.chan (some (S.r j))) else if a = ⟨S.p j, 2, none⟩ then some (.bool false) else none
structure Drv {S : Stile} {X : Type} (C : Crew S X) (n0 : Nat) (D : Dyn) (x : X) (w : World) : Prop where
 sys : Sys S n0 D w
 inv : C.inv D.k D.own x D.cs w
 fe : ∀ i, D.f i = D.e i
 out : ∀ i, i < D.k -> D.e i = (C.out x i).isSome /\ D.b i = (C.out x i == some true)
 fresh : ∀ i, D.k <= i -> D.e i = false /\ D.b i = false
 gg : D.gg = going S.n D.f
 most : S.most <= 1048576
 cnt : C.cnt x = D.ord.length
def Hk (D : Dyn) (j : Nat) (ok : Bool) : Dyn := { D with f := upd D.f j (!ok), gg := if ok then D.gg else D.gg - 1 }
section
variable {S : Stile} {X : Type} {C : Crew S X} {n0 : Nat} {D D' : Dyn} {w w' : World} {i j nG : Nat} {m : Machine} {T : Trace} {l : List Frame} {x : X} {home : Goroutine -> Prop}
theorem Py (S : Stile) (j : Nat) (home : Goroutine -> Prop) : MW S j (Gq S j home) := by
 refine ⟨rfl, rfl, rfl, fun a h => ?_⟩
 simp only [Gq] at h
 by_cases h1 : a = ⟨S.B, 0, none⟩
 ·exact .inl h1
 by_cases h2 : a = ⟨S.sb, j, none⟩
 ·exact .inr (.inl ⟨j, h2⟩)
 by_cases h3 : a = ⟨S.p j, 1, none⟩
 ·exact .inr (.inr (.inl h3))
 by_cases h4 : a = ⟨S.p j, 2, none⟩
 ·exact .inr (.inr (.inr h4))
 rw [if_neg h1, if_neg h2, if_neg h3, if_neg h4] at h
 exact absurd rfl h
theorem mwOf_K (H : Sys S n0 D w) (hj : j < S.n) (hf : D.f j = false) : (Gq S j home).K w := by
 intro a y h
 simp only [Gq] at h
 by_cases h1 : a = ⟨S.B, 0, none⟩
 ·rw [if_pos h1] at h; cases h; subst h1; exact H.tB.1
 rw [if_neg h1] at h
 by_cases h2 : a = ⟨S.sb, j, none⟩
 ·rw [if_pos h2] at h; cases h; subst h2; exact H.ss hj
 rw [if_neg h2] at h
 by_cases h3 : a = ⟨S.p j, 1, none⟩
 ·rw [if_pos h3] at h; cases h; subst h3; exact H.p1 hj
 rw [if_neg h3] at h
 by_cases h4 : a = ⟨S.p j, 2, none⟩
 ·rw [if_pos h4] at h; cases h; subst h4; exact hf ▸ H.p2 hj
 rw [if_neg h4] at h; cases h
theorem Lk (H : Sys S n0 D w) (hj : j < S.n) : (Gq S j home).f ⟨S.B, 0, none⟩ = some (.slice (some ⟨S.sb, 0, none⟩) S.n S.scap) /\ (Gq S j home).f ⟨S.sb, j, none⟩ = some (.pointer (some ⟨S.p j, 0, none⟩)) /\
  (Gq S j home).f ⟨S.p j, 1, none⟩ = some (.chan (some (S.r j))) /\ (Gq S j home).f ⟨S.p j, 2, none⟩ = some (.bool false) := by
 have hBs : S.sb ≠ S.B := H.two H.oS H.oB (by simp)
 have hBp : S.p j ≠ S.B := H.two (H.op j hj) H.oB (by simp)
 have hsp : S.p j ≠ S.sb := H.two (H.op j hj) H.oS (by simp)
 refine ⟨by simp [Gq], by simp [Gq, hBs], by simp [Gq, hBp, hsp], by simp [Gq, hBp, hsp]⟩
theorem Lj (H : Sys S n0 D w) (hj : j < S.n) (he : D.e j = false) (hf : D.f j = false) {but : Nat -> Prop} {o : Option Nat} {g : Goroutine} (hW : ∀ main, Yonder prog main (Gq S j home) g) : Then prog (VV S D none o) 0 but g w (some (Gq S j home)) :=
 ⟨mwOf_K H hj hf, H.good _ _ (H.or j hj) he, fun i u _ hu => by
  rcases Kv hu with ⟨_, h⟩ | ⟨i', hi', _, _, _, rfl⟩
  ·cases h
  ·exact H.two (H.ot i' (Nat.lt_of_lt_of_le hi' H.kn)) (H.or j hj) (by simp), (hW _).waits⟩
theorem drv_noted {D1 : Dyn} (hfe : ∀ i, D1.f i = D1.e i) (hout : ∀ i, i < D1.k -> i ≠ j -> D1.e i = (C.out x i).isSome /\ D1.b i = (C.out x i == some true)) (hfr : ∀ i, D1.k <= i -> D1.e i = false /\ D1.b i = false) (hgg : D1.gg = going S.n D1.f) (hmost : S.most <= 1048576) (hcnt : C.cnt x = D1.ord.length)
  (hj : j < D1.k) (he : D1.e j = false) (l : List Frame) {w5 w6 : World} (H5 : Sys S n0 (Bf D1 j l (C.out x j)) w5) (I5 : C.inv D1.k D1.own x (upd D1.cs j l) w5) (h6 : ∃ d, w6 = (Gi w5 S.B (S.p j) D1.gg (C.out x j).isNone).at d) :
  Drv C n0 (Hk (Bf D1 j l (C.out x j)) j (C.out x j).isNone) x w6 := by
 obtain ⟨d, rfl⟩ := h6
 have hjn : j < S.n := Nat.lt_of_lt_of_le hj H5.kn
 have hf : D1.f j = false := (hfe j).trans he
 have hg1 : 1 <= D1.gg := by rw [hgg]; exact Iz hjn hf
 have hn := H5.note hjn hg1 (C.out x j).isNone
 have hns : ∀ o : Option Bool, (!o.isNone) = o.isSome := fun o => by cases o <;> rfl
 refine ⟨hn.1.at d, C.keep I5 (hn.2.at d), fun i => ?_, fun i hi => ?_, fun i hi => ?_, ?_, hmost, hcnt⟩
 ·simp only [Hk, Bf, hns]
  by_cases e : i = j
  ·subst e; rw [upd_same, upd_same]
  ·rw [upd_ne _ _ e, upd_ne _ _ e]; exact hfe i
 ·simp only [Hk, Bf]
  by_cases e : i = j
  ·subst e; rw [upd_same, upd_same]; exact ⟨rfl, rfl⟩
  ·rw [upd_ne _ _ e, upd_ne _ _ e]; exact hout i hi e
 ·have e : i ≠ j := fun e => by
   subst e
   simp only [Hk, Bf] at hi
   omega
  simp only [Hk, Bf]
  rw [upd_ne _ _ e, upd_ne _ _ e]
  exact hfr i hi
 ·simp only [Hk, Bf, hgg]
  cases ho : C.out x j with
  | none => simp only [Option.isNone_none, if_true, Bool.not_true]; rw [Pm _ hf]
  | some b => simp only [Option.isNone_some, Bool.false_eq_true, if_false, Bool.not_false]; rw [going_ended hjn hf]
theorem step_turn {c : Frame} {cs0 : List Frame} (hD : Drv C n0 D x w) (hi : i < D.k) (he : D.e i = false) (hov : (decide ((D.gg : Int) = 0) || decide (S.most <= D.ord.length)) = false)
  (A : At prog (VV S D none none) 0 (S.g0 + D.k) (G (Frame.enter prog 206 #[.pointer (some ⟨S.B, 0, none⟩), .int .i64 i] .normal) (c :: cs0)) w m T) :
  Relay.Comes prog (fun m' T' => ∃ D' w', At prog (VV S D' none none) 0 (S.g0 + D'.k) (G (c.finish (.tuple #[])) cs0) w' m' T' /\ Drv C n0 D' (C.next x i) w' /\ D'.ord = D.ord ++ [i] /\ D'.k = D.k) m T := by
 have hs := hD.sys
 have hin : i < S.n := Nat.lt_of_lt_of_le hi hs.kn
 have hf : D.f i = false := (hD.fe i).trans he
 obtain ⟨t0, t1, t2, t3, z1, z3⟩ := hs.tB
 have hlen : D.ord.length <= 1048576 := by
  have := hD.most
  simp only [Bool.or_eq_false_iff, decide_eq_false_iff_not] at hov
  omega
 have hn0 : n0 <= w.heap.size := Nat.le_of_lt (Nat.lt_of_le_of_lt (hs.lt _ _ hs.oB).1 (hs.lt _ _ hs.oB).2)
 have hsB : S.sb ≠ S.B := hs.two hs.oS hs.oB (by simp)
 have hpB : S.p i ≠ S.B := hs.two (hs.op i hin) hs.oB (by simp)
 refine (At.walk (h := 0) (Stop := fun g w' => ∃ N gr cap, g = Hz S.B S.sb S.n S.scap i (S.p i) (S.t i) N (.slice D.oa D.ord.length D.oc) (.slice (some ⟨gr, 0, none⟩) (D.ord.length + 1) cap) (c :: cs0) /\
   Sys S n0 { D with ord := D.ord ++ [i], oa := some ⟨gr, 0, none⟩, oc := cap, own := upd D.own gr (some .ord) } w' /\ Keeps D.own (upd D.own gr (some .ord)) w w')
  (step_go S.B S.sb S.n S.scap i (S.p i) (S.t i) n0 D.gg S.most D.oa D.ord.length D.oc _ (c :: cs0) w hin t0 t1 t2 t3 z3 (Fi hs hs.oB (.inl (by simp))) (hs.ss hin) (hf ▸ hs.p2 hin) (hs.p0 hin) hov hs.row hn0 hlen
   (fun g hg => ⟨apart_ord hs (hs.oo g hg), hs.two (hs.oo g hg) hs.oB (by simp), hs.two (hs.oo g hg) hs.oS (by simp), hs.two (hs.oo g hg) (hs.op i hin) (by simp)⟩) hsB hpB
   (fun g cap w' k1 e3 k2 k3 k4 k5 k6 k7 => .stop fun d => ⟨w.heap.size, g, cap, rfl, (hs.order k1 k2 k3 k4 k6 k7).1.at d, (hs.order k1 k2 k3 k4 k6 k7).2.at d⟩)) A).bind ?_
 rintro m1 T1 ⟨_, w1, ⟨N, gr, cap, rfl, H1, K1⟩, A1⟩
 generalize hD1 : ({ D with ord := D.ord ++ [i], oa := some ⟨gr, 0, none⟩, oc := cap, own := upd D.own gr (some .ord) } : Dyn) = D1 at H1
 have h1k : D1.k = D.k := by rw [<- hD1]
 have h1e : D1.e = D.e := by rw [<- hD1]
 have h1b : D1.b = D.b := by rw [<- hD1]
 have h1f : D1.f = D.f := by rw [<- hD1]
 have h1g : D1.gg = D.gg := by rw [<- hD1]
 have h1c : D1.cs = D.cs := by rw [<- hD1]
 have h1N : D1.N = D.N := by rw [<- hD1]
 have h1o : D1.own = upd D.own gr (some .ord) := by rw [<- hD1]
 have h1r : D1.ord = D.ord ++ [i] := by rw [<- hD1]
 have hi1 : i < D1.k := h1k ▸ hi
 have he1 : D1.e i = false := h1e ▸ he
 have hf1 : D1.f i = false := h1f ▸ hf
 rw [<- Pj (D' := D1) (D := D) h1k (fun i _ _ => by rw [h1e, h1c, h1N]; exact ⟨rfl, rfl, rfl⟩)] at A1
 generalize hmw : Gq S i (fun g => g = rec107 (S.p i) (S.r i) (Og S.B (S.p i) :: fr81 S.B S.sb S.n S.scap i (S.p i) (S.t i) N (.slice D.oa D.ord.length D.oc) (.slice (some ⟨gr, 0, none⟩) (D.ord.length + 1) cap) :: c :: cs0)) = mw
 have hm : MW S i mw := hmw ▸ Py _ _ _
 obtain ⟨z', es, hes, hsd⟩ := send81 (main := (0 == 0)) (V := VV S D1 none none) S.B S.sb S.n S.scap i (S.p i) (S.t i) N (.slice D.oa D.ord.length D.oc) (.slice (some ⟨gr, 0, none⟩) (D.ord.length + 1) cap) (c :: cs0) w1
 have hg0 := hs.hg0
 refine (A1.give (v := wT S D1 i) (x := .agg #[]) (j := S.g0 + i) (new := some mw) (by omega) (by omega) (VV_at hg0 hi1 he1 (by simp)) rfl hsd hes ?_).bind ?_
 ·rw [<- hmw]
  refine Lj H1 hin he1 hf1 fun main => way81 _ _ _ _ _ _ _ _ _ _ _ _ _ hin rfl rfl rfl (Lk H1 hin).1 (Lk H1 hin).2.1 (Lk H1 hin).2.2.1 rfl
 rintro m2 T2 ⟨_, d2, k, rfl, hc, A2⟩
 rw [after_main.resolve_right (by omega)] at A2
 simp only [wT] at A2 hc
 have H2 := (H1.at d2).chan (k' := k + 1) hc ⟨i, .inl (H1.ot i hin)⟩
 have I2 := C.keep hD.inv (K1.trans ((Keeps.at (Keeps.refl _ w1) d2).trans (Keeps.chan (h1o ▸ H1.ot i hin) false (k + 1))))
 rw [<- h1o] at I2
 generalize (w1.at d2).setChan (S.t i) 0 #[] false (k + 1) (k + 1) false = w2 at A2 H2 I2
 obtain ⟨⟨c', l', hcs⟩, _⟩ := C.shape I2 hi (by have := (hD.out i hi).1; rw [he] at this; exact Option.not_isSome_iff_eq_none.1 (by rw [<- this]; simp))
 have hout : C.out x i = none := by have := (hD.out i hi).1; rw [he] at this; exact Option.not_isSome_iff_eq_none.1 (by rw [<- this]; simp)
 rw [h1c, hcs, List.cons_append] at A2
 have I3 := C.keep I2 (Keeps.alloc _ w2 (.cells #[] 68))
 have hmain := thr_main hs i
 refine (At.walk (Stop := Fin C.inv C.out S D.k D1.own (C.next x i) D.cs i (fr60 (D1.N i) (S.F i) (.iface 286 (.pointer (some ⟨S.p i, 0, none⟩)))) [fr78 (S.p i) (S.r i) (S.F i), bornfr] (w2.alloc (.cells #[] 68))) (by
  rw [hmain]
  refine (serve139 (S.p i) (S.r i) (S.t i) c' (l' ++ bot S (D1.N i) i) w2).then ?_
  rintro _ _ ⟨rfl, d, rfl⟩
  refine Walk.back ?_ d
  exact C.go _ _ I3 hi hout hcs (by rw [hD.cnt]; have := hD.most; simp only [Bool.or_eq_false_iff, decide_eq_false_iff_not] at hov; omega) (fun b hb => VV_apart H2 hin (fun v hv => by cases hv; exact hm) hb) (fun b r hb => ((H2.alloc (.cells #[] 68)).lt b r hb).2)) A2).bind ?_
 rintro m3 T3 ⟨g4, w4, hF, A3⟩
 have H4 : Sys S n0 D1 w4 := (H2.alloc (.cells #[] 68)).same hF.1 hF.2.1
 rw [<- h1k, <- h1c] at hF
 refine (fin_back H4 hi1 he1 (by rw [h1b]; have := (hD.out i hi).2; rw [hout] at this; exact this) (by omega) hm hF A3).bind ?_
 rintro m5 T5 ⟨g₂, w5, l, hh, A5, H5, I5⟩
 rw [<- hmw] at hh
 simp only [Gq] at hh
 subst hh
 have hg1 : 1 <= D.gg := by rw [hD.gg]; exact Iz hin hf
 have hg64 : D.gg <= 64 := by rw [hD.gg]; exact Nat.le_trans (going_le _ _) hs.n64
 have tB5 := H5.tB
 simp only [Bf, h1g] at tB5
 refine (At.walk (h := 0) (serve81 S.B S.sb S.n S.scap i (S.p i) (S.t i) (S.r i) N _ _ c cs0 (C.out (C.next x i) i).isNone (D1.f i) D.gg w5 (by omega) (by omega) (Ne.symm hpB) (H5.p2 hin) (H5.pz hin 2) (Fi H5 (H5.op i hin) (.inr (by omega)))
  tB5.2.1 tB5.2.2.2.2.1 (Fi H5 H5.oB (.inl (by simp)))) A5).mono ?_
 rintro m6 T6 ⟨_, w6, ⟨rfl, d6, rfl⟩, A6⟩
 refine ⟨Hk (Bf D1 i l (C.out (C.next x i) i)) i (C.out (C.next x i) i).isNone, _, ?_, drv_noted (by rw [h1f, h1e]; exact hD.fe) (fun j hj hne => by rw [h1e, h1b, C.nextOut x i j hne]; exact hD.out j (h1k ▸ hj)) (fun j hj => by rw [h1e, h1b]; exact hD.fresh j (h1k ▸ hj)) (by rw [h1g, h1f]; exact hD.gg) hD.most (by rw [C.cntNext, hD.cnt, h1r]; simp) hi1 he1 l H5 I5 ⟨d6, by rw [h1g]⟩, h1r, h1k⟩
 have hV : VV S (Hk (Bf D1 i l (C.out (C.next x i) i)) i (C.out (C.next x i) i).isNone) none none = VV S (Bf D1 i l (C.out (C.next x i) i)) none none := Pj rfl (fun _ _ _ => ⟨rfl, rfl, rfl⟩)
 have : S.g0 + (Hk (Bf D1 i l (C.out (C.next x i) i)) i (C.out (C.next x i) i).isNone).k = S.g0 + D.k := congrArg (S.g0 + ·) h1k
 rw [this, hV]
 exact A6
end
end
section
variable {main : Bool} {V : Nat -> Option Wait}
def Dp : Code := match f169.body with | some (.seq _ (.block _ (.loop c))) => c | _ => .skip
def Hg : Code := match Dp with | .seq _ (.seq _ (.seq (.block _ (.seq _ c)) _)) => c | _ => .skip
def Nx : Array Oper := match Hg with | .seq (.region _ ops _) _ => ops | _ => #[]
def Hy : Code := match Hg with | .seq _ c => c | _ => .skip
def ops54w : Array Oper := match Hy with | .region _ ops _ => ops | _ => #[]
def Nt : Code := match Dp with | .seq _ (.seq _ (.seq _ c)) => c | _ => .skip
def Kj (B sb n scap tb tcap j : Nat) (u : Nat -> Value) : Frame :=
 (base 169).at { tmps := #[.pointer (some ⟨B, 0, none⟩), .slice (some ⟨tb, 0, none⟩) n tcap, undef, undef, u 4, u 5, .pointer (some ⟨B, 0, none⟩), .pointer (some ⟨B, 0, none⟩), .pointer (some ⟨B, 0, none⟩), .slice (some ⟨sb, 0, none⟩) n scap, .int .i64 n, .int .i64 j, u 12, u 13, u 14, u 15, u 16, u 17, u 18, u 19, u 20, u 21, u 22, u 23, u 24], defers := [] } [.code Dp, .inLoop Dp, .inBlock 0]
def Pt (B sb n scap tb tcap j p : Nat) (F : Value) (u : Nat -> Value) (cs : List Frame) : Goroutine :=
 G ((base 169).at { tmps := #[.pointer (some ⟨B, 0, none⟩), .slice (some ⟨tb, 0, none⟩) n tcap, undef, undef, .int .i64 j, .pointer (some ⟨p, 0, none⟩), .pointer (some ⟨B, 0, none⟩), .pointer (some ⟨B, 0, none⟩), .pointer (some ⟨B, 0, none⟩), .slice (some ⟨sb, 0, none⟩) n scap, .int .i64 n, .int .i64 j, .bool true, .int .i64 j, .pointer (some ⟨sb, j, none⟩), .pointer (some ⟨p, 0, none⟩), .pointer (some ⟨p, 0, none⟩), .slice (some ⟨tb, 0, none⟩) n tcap, .int .i64 j, .pointer (some ⟨tb, j, none⟩), F, u 21, u 22, u 23, u 24], defers := [] } [.inRegion Nx [5], .code Hy, .inBlock 1, .code Nt, .inLoop Dp, .inBlock 0]) cs
def Nr (B sb n scap tb tcap j p : Nat) (F : Value) (u : Nat -> Value) (cs : List Frame) : Goroutine :=
 G ((base 169).at { tmps := #[.pointer (some ⟨B, 0, none⟩), .slice (some ⟨tb, 0, none⟩) n tcap, undef, undef, .int .i64 j, .pointer (some ⟨p, 0, none⟩), .pointer (some ⟨B, 0, none⟩), .pointer (some ⟨B, 0, none⟩), .pointer (some ⟨B, 0, none⟩), .slice (some ⟨sb, 0, none⟩) n scap, .int .i64 n, .int .i64 j, .bool true, .int .i64 j, .pointer (some ⟨sb, j, none⟩), .pointer (some ⟨p, 0, none⟩), .pointer (some ⟨p, 0, none⟩), .slice (some ⟨tb, 0, none⟩) n tcap, .int .i64 j, .pointer (some ⟨tb, j, none⟩), F, u 21, u 22, u 23, u 24], defers := [] } [.inRegion Nx [], .code Hy, .inBlock 1, .code Nt, .inLoop Dp, .inBlock 0]) cs
def fr54 (B sb n scap tb tcap j p : Nat) (F : Value) (u : Nat -> Value) : Frame :=
 (base 169).at { tmps := #[.pointer (some ⟨B, 0, none⟩), .slice (some ⟨tb, 0, none⟩) n tcap, undef, undef, .int .i64 j, .pointer (some ⟨p, 0, none⟩), .pointer (some ⟨B, 0, none⟩), .pointer (some ⟨B, 0, none⟩), .pointer (some ⟨B, 0, none⟩), .slice (some ⟨sb, 0, none⟩) n scap, .int .i64 n, .int .i64 j, .bool true, .int .i64 j, .pointer (some ⟨sb, j, none⟩), .pointer (some ⟨p, 0, none⟩), .pointer (some ⟨p, 0, none⟩), .slice (some ⟨tb, 0, none⟩) n tcap, .int .i64 j, .pointer (some ⟨tb, j, none⟩), F, .pointer (some ⟨B, 0, none⟩), .pointer (some ⟨p, 0, none⟩), u 23, u 24], defers := [] } [.inRegion ops54w [2], .inBlock 1, .code Nt, .inLoop Dp, .inBlock 0]
theorem begin_in (B sb n scap tb tcap : Nat) (cs : List Frame) (w : World) (h0 : w.cell? ⟨B, 0, none⟩ = some (.slice (some ⟨sb, 0, none⟩) n scap)) :
  Walk prog main (DR V) (fun g w' => g = G (Kj B sb n scap tb tcap 0 (fun _ => undef)) cs /\ ∃ d, w' = w.at d) (G (Frame.enter prog 169 #[.pointer (some ⟨B, 0, none⟩), .slice (some ⟨tb, 0, none⟩) n tcap] .normal) cs) w := by
 rw [enter_at _ func169 rfl]
 simp only [f169, ez, Nat.reduceAdd, Nat.reduceSub]
 refine Ae ?_
 refine cLp ?_
 refine .stop fun d => ⟨?_, d, rfl⟩
 simp only [Kj, Dp, f169]
 rfl
theorem begin_go (B sb n scap tb tcap j p : Nat) (F : Value) (u : Nat -> Value) (cs : List Frame) (w : World) (hj : j < n) (hp : w.cell? ⟨sb, j, none⟩ = some (.pointer (some ⟨p, 0, none⟩))) (hF : w.cell? ⟨tb, j, none⟩ = some F) :
  Walk prog main (DR V) (fun g w' => g = Pt B sb n scap tb tcap j p F u cs /\ ∃ d, w' = w.at d) (G (Kj B sb n scap tb tcap j u) cs) w := by
 unfold Kj
 simp only [Dp, f169]
 have hi0 : (0 : Int) <= j := by omega
 have hi1 : decide ((j : Int) < n) = true := by simp; omega
 have hi2 : decide (n <= j) = false := by simp; omega
 have hi3 : decide (j < n) = true := by simp; omega
 refine Ae ?_
 refine .stop fun d => ⟨?_, d, rfl⟩
 simp only [Pt, Nx, Hy, Hg, Nt, Dp, f169]
theorem spawn54 (B sb n scap tb tcap j p : Nat) (F : Value) (u : Nat -> Value) (cs : List Frame) (w : World) :
  stepG prog main (Pt B sb n scap tb tcap j p F u cs) w = .spawn (Nr B sb n scap tb tcap j p F u cs) (born prog { target := .fn (.func 203) #[], args := #[.pointer (some ⟨p, 0, none⟩), F] }) w #[] := by
 unfold Pt Nr
 simp only [Nx, Hy, Hg, Dp, f169]
 rw [stepG_spawn (d := { target := .fn (.func 203) #[], args := #[.pointer (some ⟨p, 0, none⟩), F] }) (w' := w) (f := .func 203) (c := #[]) rfl (by rfl) (by decide) (by simp [go_sem, execOp, Act.eval, Deferred.ofValue]) rfl, listed_none (by simp [go_sem, execOp, Act.eval])]
 rfl
theorem begin_way (B sb n scap tb tcap j p r : Nat) (F : Value) (u : Nat -> Value) (cs : List Frame) (v : Wait) (hch : v.ch = r) (hz : v.z = .agg #[]) (hok : v.ok = true) (hf : v.f ⟨p, 1, none⟩ = some (.chan (some r))) (hh : v.home (rec107 p r (Og B p :: fr54 B sb n scap tb tcap j p F u :: cs))) :
  Yonder prog main v (Nr B sb n scap tb tcap j p F u cs) := by
 unfold Nr
 simp only [Nx, Hy, Hg, Dp, f169]
 iterate 5 (try (first | refine Yonder.c rfl ?_ | refine Yonder.cR ?_ | refine Dl ?_ | refine Yonder.cT ?_ | (refine Yonder.oq ?_; try walk_nrm)))
 refine Yonder.callE rfl (by rfl) (by decide) rfl func204 (by kernel_rfl) (by rfl) ?_
 walk_nrm
 refine way79 B p r _ v hch hz hok hf ?_
 simp only [fr54, ops54w, Hy, Hg, Dp, f169] at hh
 exact hh
theorem begin_back (B sb n scap tb tcap j p r : Nat) (F : Value) (u : Nat -> Value) (cs : List Frame) (ok e0 : Bool) (going : Int) (w : World) (hj : j < 64) (hg1 : 1 <= going) (hg2 : going <= 64) (hBp : B ≠ p) (h2 : w.cell? ⟨p, 2, none⟩ = some (.bool e0)) (hz2 : w.frozen? ⟨p, 2, none⟩ = false) (hfr : Dm V ⟨p, 2, none⟩)
  (h1 : w.cell? ⟨B, 1, none⟩ = some (.int .i64 going)) (hz1 : w.frozen? ⟨B, 1, none⟩ = false) (hfr1 : Dm V ⟨B, 1, none⟩) :
  Walk prog main (DR V) (fun g w' => (∃ u', g = G (Kj B sb n scap tb tcap (j + 1) u') cs) /\ ∃ d, w' = (Gi w B p going ok).at d) (Go.Conc.served (rec107 p r (Og B p :: fr54 B sb n scap tb tcap j p F u :: cs)) (recvd true (.agg #[]) ok)) w := by
 refine (serve79 B p r (fr54 B sb n scap tb tcap j p F u) cs ok e0 going w hg1 hg2 hBp h2 hz2 hfr h1 hz1 hfr1).then ?_
 rintro g w' ⟨rfl, d, rfl⟩
 refine Walk.back ?_ d
 have hw1 := wI ((j : Int) + 1)
 unfold fr54
 rw [Frame.finish_at]
 simp only [ops54w, Hy, Hg, Dp, Nt, f169]
 walk_nrm
 refine Ae ?_
 refine cIL ?_
 refine .stop fun d' => ⟨⟨fun k => ([undef, undef, undef, undef, .int .i64 j, .pointer (some ⟨p, 0, none⟩), undef, undef, undef, undef, undef, undef, .bool true, .int .i64 j, .pointer (some ⟨sb, j, none⟩), .pointer (some ⟨p, 0, none⟩), .pointer (some ⟨p, 0, none⟩), .slice (some ⟨tb, 0, none⟩) n tcap, .int .i64 j, .pointer (some ⟨tb, j, none⟩), F, .pointer (some ⟨B, 0, none⟩), .pointer (some ⟨p, 0, none⟩), .tuple #[], .int .i64 ((j : Int) + 1)] : List Value).getD k undef, ?_⟩, d', rfl⟩
 have hc : ((j + 1 : Nat) : Int) = (j : Int) + 1 := by simp
 simp only [Kj, Dp, f169, hc]
 rfl
theorem begin_out (B sb n scap tb tcap : Nat) (u : Nat -> Value) (c : Frame) (cs : List Frame) (w : World) :
  Walk prog main (DR V) (fun g w' => g = G (c.finish (.tuple #[])) cs /\ ∃ d, w' = w.at d) (G (Kj B sb n scap tb tcap n u) (c :: cs)) w := by
 unfold Kj
 simp only [Dp, f169]
 have hi1 : decide ((n : Int) < n) = false := by simp
 have hi3 : decide (n < n) = false := by simp
 refine Ae ?_
 exact Walk.ctl rfl (fun w => stepG_leave rfl rfl func169 (results_none rfl _ _ w) (events_results_none rfl _ _)) (.stop fun d => ⟨rfl, d, rfl⟩)
theorem ride_none (S : Value) (c : Frame) (cs : List Frame) (w : World) :
  Walk prog main (DR V) (fun g w' => (∃ d, w' = (w.alloc (.cells #[.bool false] 4)).at d) /\
   (Dm V ⟨w.heap.size, 0, none⟩ -> Walk prog main (DR V) (fun g₂ w₂ => g₂ = G (c.finish (.tuple #[.bool true, .bool false])) cs /\ ∃ d, w₂ = ((w.alloc (.cells #[.bool false] 4)).setCell ⟨w.heap.size, 0, none⟩ (.bool false)).at d) g w'))
   (G (Frame.enter prog 212 #[.nilFunc, S] .normal) (c :: cs)) w := by
 obtain ⟨ms, h20⟩ := und20
 have hn1 := fun w => Dj (P := prog) (w := w) 20 h20
 have hn2 := fun w es => Dt (P := prog) (w := w) 20 es h20
 have hn3 := fun w => run_neq_nilFunc (P := prog) (w := w) 184 (by kernel_rfl : prog.underlying 184 = some (.func #[130] #[] false))
 have hn4 := fun w es => ev_neq_nilFunc (P := prog) (w := w) 184 es (by kernel_rfl : prog.underlying 184 = some (.func #[130] #[] false))
 rw [enter_at _ func212 rfl]
 simp only [f212, ez, Nat.reduceAdd, Nat.reduceSub]
 refine Ae ?_
 (refine Wa ?_; try walk_nrm)
 have hN : (w.alloc (.cells #[.bool false] 4)).cell? ⟨w.heap.size, 0, none⟩ = some (.bool false) := (Ab (hAw w _) 0).trans rfl
 have hz : (w.alloc (.cells #[.bool false] 4)).frozen? ⟨w.heap.size, 0, none⟩ = false := Av (hAw w _) 0
 generalize w.heap.size = N at *
 generalize w.alloc (.cells #[.bool false] 4) = w1 at *
 refine .stop fun d => ⟨⟨d, rfl⟩, fun hfr => Walk.back ?_ d⟩
 refine Ae ?_
 refine Walk.ctl rfl (fun w' => Gc (d := Gr N) rfl (by rfl) (by decide) (by simp [go_sem, execOp, Deferred.ofValue, Gr]) (by simp [go_sem, execOp, Deferred.ofValue])) ?_
 walk_nrm
 refine Ae ?_
 (refine Ws hfr hN ?_; try walk_nrm)
 refine Ae ?_
 have hN' := World.cell?_setCell_same w1 ⟨N, 0, none⟩ (.bool false) hN
 refine Walk.ctl rfl (fun w => De (d := Gr N) (ds := []) (by simp [Frame.at]) rfl rfl func214 (by kernel_rfl) (by rfl)) ?_
 simp only [Gr, List.append_toArray, List.nil_append]
 rw [enter_atD _ func214 rfl]
 simp only [f214, ez, Nat.reduceAdd, Nat.reduceSub]
 refine Ae ?_
 refine Walk.ctl rfl (fun w => Fu rfl (by rfl) rfl rfl rfl) ?_
 walk_nrm
 refine Ae ?_
 refine Walk.ctl rfl (fun w => Ew rfl rfl func214 (results_none rfl _ _ w) (events_results_none rfl _ _) rfl) ?_
 exact Mt rfl rfl rfl rfl rfl rfl hN'
end
section
variable {S : Stile} {X : Type} {C : Crew S X} {n0 : Nat} {D D' : Dyn} {w w' : World} {i j nG : Nat} {m : Machine} {T : Trace} {l : List Frame} {x : X} {home : Goroutine -> Prop}
theorem begin_one {u : Nat -> Value} {cs0 : List Frame} (hD : Drv C n0 D x w) (hk : D.k < S.n) (hz : ∀ i, S.g0 + D.k <= i -> VV S D none none i = none) (h00 : D.ord = [])
  (A : At prog (VV S D none none) 0 (S.g0 + D.k) (G (Kj S.B S.sb S.n S.scap S.tb S.tcap D.k u) cs0) w m T) :
  Relay.Comes prog (fun m' T' => ∃ D' w' u', At prog (VV S D' none none) 0 (S.g0 + D'.k) (G (Kj S.B S.sb S.n S.scap S.tb S.tcap D'.k u') cs0) w' m' T' /\ Drv C n0 D' (C.born x D.k) w' /\ D'.ord = D.ord /\ D'.k = D.k + 1) m T := by
 have hs := hD.sys
 have hg0 := hs.hg0
 obtain ⟨he, hb⟩ := hD.fresh D.k (Nat.le_refl _)
 have hf : D.f D.k = false := (hD.fe _).trans he
 have hpB : S.p D.k ≠ S.B := hs.two (hs.op D.k hk) hs.oB (by simp)
 refine (At.walk (h := 0) (begin_go S.B S.sb S.n S.scap S.tb S.tcap D.k (S.p D.k) (S.F D.k) u cs0 w hk (hs.ss hk) (C.thr hD.inv (Nat.le_refl _) hk)) A).bind ?_
 rintro m1 T1 ⟨_, _, ⟨rfl, d1, rfl⟩, A1⟩
 generalize hmw : Gq S D.k (fun g => g = rec107 (S.p D.k) (S.r D.k) (Og S.B (S.p D.k) :: fr54 S.B S.sb S.n S.scap S.tb S.tcap D.k (S.p D.k) (S.F D.k) u :: cs0)) = mw
 have hm : MW S D.k mw := hmw ▸ Py _ _ _
 refine (A1.hire (es := #[]) (a' := Nr S.B S.sb S.n S.scap S.tb S.tcap D.k (S.p D.k) (S.F D.k) u cs0) rfl (fun d => spawn54 ..) (by simp) hz (new := some mw) ?_).bind ?_
 ·rw [<- hmw]
  exact Lj (hs.at d1) hk he hf fun main => begin_way _ _ _ _ _ _ _ _ _ _ _ _ _ rfl rfl rfl (Lk hs hk).2.2.1 rfl
 rintro m2 T2 ⟨d2, A2⟩
 have H2 := (hs.at d1).at d2
 have I2 := C.keep hD.inv (((Keeps.refl D.own w).at d1).at d2)
 have K0 : Keeps D.own (upd D.own ((w.at d1).at d2).heap.size (some (.nn D.k))) ((w.at d1).at d2) (((w.at d1).at d2).alloc (.cells #[.bool false] 4)) :=
  ⟨by simp, fun b hb ho => ⟨by rw [upd_ne _ _ (by omega)]; exact ho, Ad _ _ hb⟩⟩
 generalize (w.at d1).at d2 = w2 at A2 H2 I2 K0
 have H3 := H2.hire hk
 have I3 := C.keep I2 K0
 generalize hD1 : ({ D with k := D.k + 1, N := upd D.N D.k w2.heap.size, own := upd D.own w2.heap.size (some (.nn D.k)) } : Dyn) = D1 at H3
 have h1k : D1.k = D.k + 1 := by rw [<- hD1]
 have h1e : D1.e = D.e := by rw [<- hD1]
 have h1b : D1.b = D.b := by rw [<- hD1]
 have h1f : D1.f = D.f := by rw [<- hD1]
 have h1g : D1.gg = D.gg := by rw [<- hD1]
 have h1c : D1.cs = D.cs := by rw [<- hD1]
 have h1N : D1.N = upd D.N D.k w2.heap.size := by rw [<- hD1]
 have h1o : D1.own = upd D.own w2.heap.size (some (.nn D.k)) := by rw [<- hD1]
 have h1r : D1.ord = D.ord := by rw [<- hD1]
 rw [<- h1o] at I3
 rw [upd_hire (D' := D1) h1k (fun i hi => by rw [h1e, h1c, h1N, upd_ne _ _ (by omega)]; exact ⟨rfl, rfl, rfl⟩)] at A2
 have hmain := thr_main hs D.k
 have hNk : D1.N D.k = w2.heap.size := by rw [h1N, upd_same]
 have back : Relay.Comes prog (fun m' T' => ∃ g₂ w' l, mw.home g₂ /\ At prog (VV S (Bf D1 D.k l (C.out (C.born x D.k) D.k)) none none) 0 (S.g0 + D.k + 1) (Go.Conc.served g₂ (recvd true (.agg #[]) (C.out (C.born x D.k) D.k).isNone)) w' m' T' /\ Sys S n0 (Bf D1 D.k l (C.out (C.born x D.k) D.k)) w' /\ C.inv D1.k D1.own (C.born x D.k) (upd D1.cs D.k l) w') m2 T2 := by
  rcases C.start (V := VV S D1 (some mw) (some D.k)) (fr60 w2.heap.size (S.F D.k) (.iface 286 (.pointer (some ⟨S.p D.k, 0, none⟩)))) [fr78 (S.p D.k) (S.r D.k) (S.F D.k), bornfr] I3 hk (by rw [hD.cnt, h00]; simp)
    (fun b hb => VV_apart H3 hk (fun v hv => by cases hv; exact hm) hb) (fun b r hb => (H3.lt b r hb).2) with ⟨fi, fn, first, cap, hF, h1, h2, h3, hW⟩ | ⟨hF, ho, hI⟩
  ·refine (At.walk (Stop := Fin C.inv C.out S (D.k + 1) D1.own (C.born x D.k) D.cs D.k (fr60 w2.heap.size (S.F D.k) (.iface 286 (.pointer (some ⟨S.p D.k, 0, none⟩)))) [fr78 (S.p D.k) (S.r D.k) (S.F D.k), bornfr] (w2.alloc (.cells #[.bool false] 4))) (by
    rw [hmain]
    refine Nk _ _ _ _ (H2.p1 hk) ?_
    rw [hF] at hW ⊢
    exact ride_in fi fn first cap _ _ _ h1 h2 h3 hW) A2).bind ?_
   rintro m3 T3 ⟨g4, w4, hF, A3⟩
   have H4 : Sys S n0 D1 w4 := H3.same hF.1 hF.2.1
   rw [<- h1k, <- h1c, <- hNk] at hF
   exact fin_back H4 (by omega) (h1e ▸ he) (h1b ▸ hb) (by omega) hm hF A3
  ·refine (At.walk (Stop := fun g w' => (∃ d, w' = (w2.alloc (.cells #[.bool false] 4)).at d) /\ Walk prog (S.g0 + D.k == 0) (DR (VV S D1 (some mw) (some D.k))) (fun g₂ w₂ => g₂ = G ((fr78 (S.p D.k) (S.r D.k) (S.F D.k)).finish (.tuple #[.bool true, .bool false])) [bornfr] /\ ∃ d, w₂ = ((w2.alloc (.cells #[.bool false] 4)).setCell ⟨w2.heap.size, 0, none⟩ (.bool false)).at d) g w') (by
    rw [hmain]
    refine Nk _ _ _ _ (H2.p1 hk) ?_
    rw [hF]
    refine (ride_none _ _ [bornfr] w2).mono ?_
    rintro g w' ⟨h1, h2⟩
    refine ⟨h1, h2 ?_⟩
    rw [<- hNk]
    exact Kk H3 hk hm (H3.oN D.k (by omega)) (.inl ⟨_, rfl⟩)) A2).bind ?_
   rintro m3 T3 ⟨g4, _, ⟨⟨d4, rfl⟩, hW⟩, A3⟩
   have H4 := H3.at d4
   refine (Hf H4 (by omega) (by omega) hm false (W := ((w2.alloc (.cells #[.bool false] 4)).at d4).setCell ⟨D1.N D.k, 0, none⟩ (.bool false)) (Keeps.set (.bool false) (H4.oN D.k (by omega))) (H4.ride (by omega) (.bool false)) (g := g4) (hW.mono ?_) A3 []).mono ?_
   ·rintro g w' ⟨rfl, d, rfl⟩
    refine ⟨true, rfl, d, ?_⟩
    rw [hNk]
    rfl
   ·rintro m4 T4 ⟨g₂, w', hh, A4, H5, K5⟩
    rw [ho]
    refine ⟨g₂, w', [], hh, A4, H5, ?_⟩
    rw [h1k, h1c]
    exact C.keep (C.keep hI ((Keeps.refl _ _).at d4)) K5
 refine back.bind ?_
 rintro m5 T5 ⟨g₂, w5, l, hh, A5, H5, I5⟩
 rw [<- hmw] at hh
 simp only [Gq] at hh
 subst hh
 have hg1 : 1 <= D.gg := by rw [hD.gg]; exact Iz hk hf
 have hg64 : D.gg <= 64 := by rw [hD.gg]; exact Nat.le_trans (going_le _ _) hs.n64
 have tB5 := H5.tB
 simp only [Bf, h1g] at tB5
 refine (At.walk (h := 0) (begin_back S.B S.sb S.n S.scap S.tb S.tcap D.k (S.p D.k) (S.r D.k) (S.F D.k) u cs0 (C.out (C.born x D.k) D.k).isNone (D1.f D.k) D.gg w5 (by have := hs.n64; omega) (by omega) (by omega) (Ne.symm hpB) (H5.p2 hk) (H5.pz hk 2) (Fi H5 (H5.op D.k hk) (.inr (by omega)))
  tB5.2.1 tB5.2.2.2.2.1 (Fi H5 H5.oB (.inl (by simp)))) A5).mono ?_
 rintro m6 T6 ⟨_, w6, ⟨⟨u', rfl⟩, d6, rfl⟩, A6⟩
 refine ⟨Hk (Bf D1 D.k l (C.out (C.born x D.k) D.k)) D.k (C.out (C.born x D.k) D.k).isNone, _, u', ?_, drv_noted (by rw [h1f, h1e]; exact hD.fe) (fun j hj hne => by rw [h1e, h1b, C.bornOut x D.k j hne]; exact hD.out j (by omega)) (fun j hj => by rw [h1e, h1b]; exact hD.fresh j (by omega)) (by rw [h1g, h1f]; exact hD.gg) hD.most (by rw [C.cntBorn, hD.cnt, h1r]) (by omega) (h1e ▸ he) l H5 I5 ⟨d6, by rw [h1g]⟩, h1r, h1k⟩
 have hV : VV S (Hk (Bf D1 D.k l (C.out (C.born x D.k) D.k)) D.k (C.out (C.born x D.k) D.k).isNone) none none = VV S (Bf D1 D.k l (C.out (C.born x D.k) D.k)) none none := Pj rfl (fun _ _ _ => ⟨rfl, rfl, rfl⟩)
 have hkk : (Hk (Bf D1 D.k l (C.out (C.born x D.k) D.k)) D.k (C.out (C.born x D.k) D.k).isNone).k = D.k + 1 := h1k
 rw [hkk, hV]
 exact A6
theorem VV_high (D : Dyn) (h : 1 <= S.g0) : ∀ i, S.g0 + D.k <= i -> VV S D none none i = none := fun i hi => by
 unfold VV
 rw [if_neg (by omega), if_neg (by omega)]
def Jc (C : Crew S X) : Nat -> Nat -> X -> X
 | 0, _, x => x
 | n + 1, k, x => Jc C n (k + 1) (C.born x k)
theorem begin_all {cs0 : List Frame} : ∀ (r : Nat) {D : Dyn} {x : X} {w : World} {u : Nat -> Value} {m : Machine} {T : Trace}, D.k + r = S.n -> D.ord = [] -> Drv C n0 D x w ->
  At prog (VV S D none none) 0 (S.g0 + D.k) (G (Kj S.B S.sb S.n S.scap S.tb S.tcap D.k u) cs0) w m T ->
  Relay.Comes prog (fun m' T' => ∃ D' w' u', At prog (VV S D' none none) 0 (S.g0 + S.n) (G (Kj S.B S.sb S.n S.scap S.tb S.tcap S.n u') cs0) w' m' T' /\ Drv C n0 D' (Jc C r D.k x) w' /\ D'.ord = D.ord /\ D'.k = S.n) m T
 | 0, D, x, w, u, m, T, hk, _, hD, A => by
  have hk : D.k = S.n := hk
  rw [hk] at A
  exact .now ⟨D, w, u, A, hD, rfl, hk⟩
 | r + 1, D, x, w, u, m, T, hk, h00, hD, A => by
  refine (begin_one hD (by omega) (VV_high D hD.sys.hg0) h00 A).bind ?_
  rintro m1 T1 ⟨D1, w1, u1, A1, hD1, ho, hk1⟩
  refine (begin_all r (by omega) (ho.trans h00) hD1 A1).mono ?_
  rintro m2 T2 ⟨D2, w2, u2, A2, hD2, ho2, hk2⟩
  exact ⟨D2, w2, u2, A2, by rw [hk1] at hD2; exact hD2, ho2.trans ho, hk2⟩
end
end
end Go.Proofs.Ytflcclneedldoaa
