/- Part 8. -/
import Derived.Test.YtabpfdckgnimaaaJ4
import Derived.Test.YtabpfdckgnimaaaJ6
import Derived.Test.YtabpfdckgnimaaaJ7
import Derived.Deep.Heap
set_option linter.unusedSimpArgs false
set_option linter.unusedVariables false
set_option maxHeartbeats 8000000
set_option maxRecDepth 100000
namespace Go.Proofs.Ytabpfdckgnimaaa
open Go.Conc Go.RowKit Go.Relay
open Go.ConcN (upd upd_ne upd_same)
section
variable {main : Bool} {V : Nat → Option Wait}
theorem send81 (B sb n scap i p ct N : Nat) (old new : Value) (cs : List Frame) (w : World) : ∃ z' es, (∀ e ∈ es, EvR V e) ∧ ∀ d, stepG Try.prog main (rec81s B sb n scap i p ct N old new cs) (w.at d) = .comm (rec81s B sb n scap i p ct N old new cs) #[scase ct (.agg #[]) z'] true .send (w.at d) es := by
  refine ⟨.tuple #[], #[], by simp, fun d => ?_⟩
  unfold rec81s
  simp only [ops81s, rest81, rest81a, Try.f53]
  rw [stepG_comm (cases := #[scase ct (.agg #[]) (.tuple #[])]) (blocking := true) (shape := .send) (w' := w.at d) rfl (by rfl) (by decide) (by simp [execOp, scase, Act.eval]), listed_none (by simp [go_sem, execOp, Act.eval])]
end
section
variable {main : Bool} {V : Nat → Option Wait}
theorem step_world {w w' : World} {B n0 on oc g cap : Nat} {oa : Option Addr} {xs : List Value} {i : Nat} (hgB : g ≠ B)
    (hown2 : w'.ownsRow n0 3 1 (.slice (some ⟨g, 0, none⟩) (on + 1) cap) (on + 1) (xs ++ [.int .i64 i])) (hg : (w.alloc (.cells #[.int .i64 i] 3)).grownBy w' (Value.slice oa on oc).ownBlock)
    (hat : (Value.slice oa on oc).ownBlock = some g ∨ g = (w.alloc (.cells #[.int .i64 i] 3)).heap.size) (hlt : g < w'.heap.size) :
    (w'.setCell ⟨B, 3, none⟩ (.slice (some ⟨g, 0, none⟩) (on + 1) cap)).ownsRow n0 3 1 (.slice (some ⟨g, 0, none⟩) (on + 1) cap) (on + 1) (xs ++ [.int .i64 i]) ∧
    ((Value.slice oa on oc).ownBlock = some g ∨ w.heap.size ≤ g) ∧ g < (w'.setCell ⟨B, 3, none⟩ (.slice (some ⟨g, 0, none⟩) (on + 1) cap)).heap.size ∧ w.heap.size ≤ (w'.setCell ⟨B, 3, none⟩ (.slice (some ⟨g, 0, none⟩) (on + 1) cap)).heap.size ∧
    (∀ a u, w.cell? a = some u → a ≠ ⟨B, 3, none⟩ → some a.block ≠ (Value.slice oa on oc).ownBlock → (w'.setCell ⟨B, 3, none⟩ (.slice (some ⟨g, 0, none⟩) (on + 1) cap)).cell? a = some u ∧ (w'.setCell ⟨B, 3, none⟩ (.slice (some ⟨g, 0, none⟩) (on + 1) cap)).frozen? a = w.frozen? a) ∧
    (∀ b, b < w.heap.size → b ≠ B → some b ≠ (Value.slice oa on oc).ownBlock → (w'.setCell ⟨B, 3, none⟩ (.slice (some ⟨g, 0, none⟩) (on + 1) cap)).heap[b]? = w.heap[b]?) := by
  have hal : (w.alloc (.cells #[.int .i64 i] 3)).heap.size = w.heap.size + 1 := by simp
  have hsz := hg.size
  have hlb : ∀ b, b < w.heap.size → b < (w.alloc (.cells #[.int .i64 i] 3)).heap.size := fun b hb => by omega
  have hn := Go.Deep.nblk_setCell w' ⟨B, 3, none⟩ (.slice (some ⟨g, 0, none⟩) (on + 1) cap)
  refine ⟨hown2.kept (row := some B) ⟨rfl, rfl, rfl, by rw [hn]; exact Nat.le_refl _, fun b _ hb => Go.Deep.blk_setCell_other _ _ _ b (fun e => hb (by rw [e]))⟩ (.inr (by simp [Value.ownBlock, hgB])), ?_, by rw [hn]; exact hlt, by rw [hn]; omega, fun a u ha hne' hr => ⟨?_, ?_⟩, fun b hb hbB hr => ?_⟩
  · rcases hat with h | h
    · exact .inl h
    · exact .inr (by omega)
  · exact (World.cell?_setCell_other w' ⟨B, 3, none⟩ a _ (Ne.symm hne')).trans ((hg.cell_far _ (hlb _ (cell_lt w ha)) hr).trans (cell_alloc w _ ha))
  · rw [World.frozen?_setCell]; exact (hg.frozen_far _ (hlb _ (cell_lt w ha)) hr).trans (frozen_alloc w _ ha rfl)
  · exact (Go.Deep.blk_setCell_other _ _ _ b hbB).trans ((hg.block b (hlb b hb) hr).trans (Below.heap_alloc _ _ _ hb))
theorem step_block {w w' : World} {B : Nat} {row : Option Nat} {o : Obj} (hB : B < w.heap.size) (hr : some B ≠ row) (hg : (w.alloc o).grownBy w' row) (x : Value) : (w'.setCell ⟨B, 3, none⟩ x).heap[B]? = (w.setCell ⟨B, 3, none⟩ x).heap[B]? := by
  have h : w'.heap[B]? = w.heap[B]? := (hg.block B (by simp; omega) hr).trans (Below.heap_alloc _ _ _ hB)
  simp only [World.setCell]
  rw [Array.getElem?_modify, Array.getElem?_modify, h]
theorem step_go {Stop : Goroutine → World → Prop} (B sb n scap i p ct n0 : Nat) (going most : Int) (oa : Option Addr) (on oc : Nat) (xs : List Value) (cs : List Frame) (w : World) (hin : i < n)
    (h0 : w.cell? ⟨B, 0, none⟩ = some (.slice (some ⟨sb, 0, none⟩) n scap)) (h1 : w.cell? ⟨B, 1, none⟩ = some (.int .i64 going)) (h2 : w.cell? ⟨B, 2, none⟩ = some (.int .i64 most)) (h3 : w.cell? ⟨B, 3, none⟩ = some (.slice oa on oc)) (h3z : w.frozen? ⟨B, 3, none⟩ = false) (hf3 : Free V ⟨B, 3, none⟩)
    (hp : w.cell? ⟨sb, i, none⟩ = some (.pointer (some ⟨p, 0, none⟩))) (hpe : w.cell? ⟨p, 2, none⟩ = some (.bool false)) (hpt : w.cell? ⟨p, 0, none⟩ = some (.chan (some ct))) (hov : (decide (going = 0) || decide (most ≤ on)) = false)
    (hown : w.ownsRow n0 3 1 (.slice oa on oc) on xs) (hbase : n0 ≤ w.heap.size) (hlen : on ≤ 1048576) (hap : ∀ g, (Value.slice oa on oc).ownBlock = some g → Apart V g ∧ g ≠ B ∧ g ≠ sb ∧ g ≠ p) (hsB : sb ≠ B) (hpB : p ≠ B)
    (hk : ∀ g cap w', w'.ownsRow n0 3 1 (.slice (some ⟨g, 0, none⟩) (on + 1) cap) (on + 1) (xs ++ [.int .i64 i]) → w'.cell? ⟨B, 3, none⟩ = some (.slice (some ⟨g, 0, none⟩) (on + 1) cap) → ((Value.slice oa on oc).ownBlock = some g ∨ w.heap.size ≤ g) → g < w'.heap.size → w.heap.size ≤ w'.heap.size →
      (∀ a u, w.cell? a = some u → a ≠ ⟨B, 3, none⟩ → some a.block ≠ (Value.slice oa on oc).ownBlock → w'.cell? a = some u ∧ w'.frozen? a = w.frozen? a) → (∀ b, b < w.heap.size → b ≠ B → some b ≠ (Value.slice oa on oc).ownBlock → w'.heap[b]? = w.heap[b]?) → (w'.heap[B]? = (w.setCell ⟨B, 3, none⟩ (.slice (some ⟨g, 0, none⟩) (on + 1) cap)).heap[B]?) →
      Walk Try.prog main (DR V) Stop (rec81s B sb n scap i p ct w.heap.size (.slice oa on oc) (.slice (some ⟨g, 0, none⟩) (on + 1) cap) cs) w') :
    Walk Try.prog main (DR V) Stop (G (Frame.enter Try.prog 53 #[.pointer (some ⟨B, 0, none⟩), .int .i64 i] .normal) cs) w := by
  rw [enter_at _ Try.func53 rfl]
  simp only [Try.f53, ez, Nat.reduceAdd, Nat.reduceSub]
  have hi0 : (0 : Int) ≤ i := by omega
  have hi1 : decide ((i : Int) < 0) = false := by simp
  have hi2 : decide (n ≤ i) = false := by simp; omega
  repeat (first | refine Walk.cx ?_ | refine Walk.cR ?_ | (refine Walk.oq ?_; try walk_nrm) | (refine Walk.un ?_; walk_nrm))
  refine Walk.callV (x := .bool false) (W := w) ?_ rfl (by rfl) (by decide) rfl Try.func52 (by kernel_rfl) (by rfl) ?_
  · walk_nrm
    have := over_w (main := main) (V := V) B going most oa on oc w h1 h2 h3
    rwa [hov] at this
  walk_nrm
  repeat (first | refine Walk.cx ?_ | refine Walk.cR ?_ | (refine Walk.oq ?_; try walk_nrm) | (refine Walk.un ?_; walk_nrm))
  (refine Walk.oa ?_; try walk_nrm)
  have hi24 : Try.prog.underlying 24 = some (.slice 3) := by kernel_rfl
  have hi3 := Option.some_get (show (Try.prog.info? 3).isSome = true by kernel_rfl)
  have hown' := hown.kept (World.grownBy_alloc w (.cells #[.int .i64 i] 3) none) (by cases (Value.slice oa on oc).ownBlock <;> simp)
  have c0 := cell_alloc w (.cells #[.int .i64 i] 3) h0
  have c3 := cell_alloc w (.cells #[.int .i64 i] 3) h3
  have c3z := frozen_alloc w (.cells #[.int .i64 i] 3) h3 h3z
  have cp := cell_alloc w (.cells #[.int .i64 i] 3) hp
  have cpt := cell_alloc w (.cells #[.int .i64 i] 3) hpt
  refine Walk.append (.tmp 35) (.tmp 37) 24 rfl (by rfl) (by decide) rfl n0 3 _ (.int .i64 0) 1 8 hi24 hi3.symm (by rfl) (by rfl) (by rfl) (by rfl) (by decide) (.slice oa on oc) on xs rfl hown' ⟨w.heap.size, 0, none⟩ 1 1 [.int .i64 i] rfl (by rfl) (fun j u hu => ?_) (by simp [Value.oneCell']) (by decide) (by simp [maxLen]; omega) (by omega) (by simp; omega) (fun g hg => (hap g hg).1) (fun g cap w' hown2 hg hat hlt => ?_)
  · obtain rfl : j = 0 := by rcases j with _ | j <;> simp at hu ⊢
    simp at hu; subst hu; simp [Addr.add]
  have hne : ∀ b, (b = B ∨ b = sb ∨ b = p) → some b ≠ (Value.slice oa on oc).ownBlock := fun b hb e => by
    obtain ⟨_, h1, h2, h3⟩ := hap b e.symm
    rcases hb with h | h | h <;> contradiction
  have d0 := (hg.cell_far _ (cell_lt _ c0) (hne _ (by simp))).trans c0
  have d3 := (hg.cell_far _ (cell_lt _ c3) (hne _ (by simp))).trans c3
  have d3z := (hg.frozen_far _ (cell_lt _ c3) (hne _ (by simp))).trans c3z
  have dp := (hg.cell_far _ (cell_lt _ cp) (hne _ (by simp))).trans cp
  have dpt := (hg.cell_far _ (cell_lt _ cpt) (hne _ (by simp))).trans cpt
  have hgB : g ≠ B := fun e => by
    rcases hat with h | h
    · exact (hap g h).2.1 e
    · have := cell_lt w h3; simp only at this; have hal : (w.alloc (.cells #[.int .i64 i] 3)).heap.size = w.heap.size + 1 := by simp
      omega
  walk_nrm
  repeat (first | refine Walk.cx ?_ | refine Walk.cR ?_ | (refine Walk.oq ?_; try walk_nrm) | (refine Walk.un ?_; walk_nrm))
  (refine Walk.os hf3 d3 ?_; try walk_nrm)
  have e0 := (World.cell?_setCell_other w' ⟨B, 3, none⟩ ⟨B, 0, none⟩ (.slice (some ⟨g, 0, none⟩) (on + 1) cap) (by simp)).trans d0
  have e3 := World.cell?_setCell_same w' ⟨B, 3, none⟩ (.slice (some ⟨g, 0, none⟩) (on + 1) cap) d3
  have ep := (World.cell?_setCell_other w' ⟨B, 3, none⟩ ⟨sb, i, none⟩ (.slice (some ⟨g, 0, none⟩) (on + 1) cap) (by simp [Ne.symm hsB])).trans dp
  have ept := (World.cell?_setCell_other w' ⟨B, 3, none⟩ ⟨p, 0, none⟩ (.slice (some ⟨g, 0, none⟩) (on + 1) cap) (by simp [Ne.symm hpB])).trans dpt
  repeat (first | refine Walk.cx ?_ | refine Walk.cR ?_ | (refine Walk.oq ?_; try walk_nrm) | (refine Walk.un ?_; walk_nrm))
  unfold rec81s at hk
  simp only [ops81s, rest81, rest81a, Try.f53] at hk
  obtain ⟨k1, k2, k3, k4, k5, k6⟩ := step_world hgB hown2 hg hat hlt
  exact hk g cap _ k1 e3 k2 k3 k4 k5 k6 (step_block (cell_lt w h3) (hne B (by simp)) hg _)
end
section
open Classical in
noncomputable def mwOf (S : Stile) (j : Nat) (home : Goroutine → Prop) : Wait where
  ch := S.r j
  z := .agg #[]
  ok := true
  home := home
  f := fun a => if a = ⟨S.B, 0, none⟩ then some (.slice (some ⟨S.sb, 0, none⟩) S.n S.scap) else if a = ⟨S.sb, j, none⟩ then some (.pointer (some ⟨S.p j, 0, none⟩)) else
    if a = ⟨S.p j, 1, none⟩ then some (.chan (some (S.r j))) else if a = ⟨S.p j, 2, none⟩ then some (.bool false) else none
structure Drv {S : Stile} {X : Type} (C : Crew S X) (n0 : Nat) (D : Dyn) (x : X) (w : World) : Prop where
  sys : Sys S n0 D w
  inv : C.inv D.k D.own x D.cs w
  fe : ∀ i, D.f i = D.e i
  out : ∀ i, i < D.k → D.e i = (C.out x i).isSome ∧ D.b i = (C.out x i == some true)
  fresh : ∀ i, D.k ≤ i → D.e i = false ∧ D.b i = false
  gg : D.gg = going S.n D.f
  most : S.most ≤ 1048576
  cnt : C.cnt x = D.ord.length
def noted (D : Dyn) (j : Nat) (ok : Bool) : Dyn := { D with f := upd D.f j (!ok), gg := if ok then D.gg else D.gg - 1 }
section
variable {S : Stile} {X : Type} {C : Crew S X} {n0 : Nat} {D D' : Dyn} {w w' : World} {i j nG : Nat} {m : Machine} {T : Trace} {l : List Frame} {x : X} {home : Goroutine → Prop}
theorem mwOf_MW (S : Stile) (j : Nat) (home : Goroutine → Prop) : MW S j (mwOf S j home) := by
  refine ⟨rfl, rfl, rfl, fun a h => ?_⟩
  simp only [mwOf] at h
  by_cases h1 : a = ⟨S.B, 0, none⟩
  · exact .inl h1
  by_cases h2 : a = ⟨S.sb, j, none⟩
  · exact .inr (.inl ⟨j, h2⟩)
  by_cases h3 : a = ⟨S.p j, 1, none⟩
  · exact .inr (.inr (.inl h3))
  by_cases h4 : a = ⟨S.p j, 2, none⟩
  · exact .inr (.inr (.inr h4))
  rw [if_neg h1, if_neg h2, if_neg h3, if_neg h4] at h
  exact absurd rfl h
theorem mwOf_K (H : Sys S n0 D w) (hj : j < S.n) (hf : D.f j = false) : (mwOf S j home).K w := by
  intro a y h
  simp only [mwOf] at h
  by_cases h1 : a = ⟨S.B, 0, none⟩
  · rw [if_pos h1] at h; cases h; subst h1; exact H.tB.1
  rw [if_neg h1] at h
  by_cases h2 : a = ⟨S.sb, j, none⟩
  · rw [if_pos h2] at h; cases h; subst h2; exact H.ss hj
  rw [if_neg h2] at h
  by_cases h3 : a = ⟨S.p j, 1, none⟩
  · rw [if_pos h3] at h; cases h; subst h3; exact H.p1 hj
  rw [if_neg h3] at h
  by_cases h4 : a = ⟨S.p j, 2, none⟩
  · rw [if_pos h4] at h; cases h; subst h4; exact hf ▸ H.p2 hj
  rw [if_neg h4] at h; cases h
theorem mwOf_f (H : Sys S n0 D w) (hj : j < S.n) : (mwOf S j home).f ⟨S.B, 0, none⟩ = some (.slice (some ⟨S.sb, 0, none⟩) S.n S.scap) ∧ (mwOf S j home).f ⟨S.sb, j, none⟩ = some (.pointer (some ⟨S.p j, 0, none⟩)) ∧
    (mwOf S j home).f ⟨S.p j, 1, none⟩ = some (.chan (some (S.r j))) ∧ (mwOf S j home).f ⟨S.p j, 2, none⟩ = some (.bool false) := by
  have hBs : S.sb ≠ S.B := H.two H.oS H.oB (by simp)
  have hBp : S.p j ≠ S.B := H.two (H.op j hj) H.oB (by simp)
  have hsp : S.p j ≠ S.sb := H.two (H.op j hj) H.oS (by simp)
  refine ⟨by simp [mwOf], by simp [mwOf, hBs], by simp [mwOf, hBp, hsp], by simp [mwOf, hBp, hsp]⟩
theorem mwOf_then (H : Sys S n0 D w) (hj : j < S.n) (he : D.e j = false) (hf : D.f j = false) {but : Nat → Prop} {o : Option Nat} {g : Goroutine} (hW : ∀ main, Yonder Try.prog main (mwOf S j home) g) : Then Try.prog (VV S D none o) 0 but g w (some (mwOf S j home)) :=
  ⟨mwOf_K H hj hf, H.good _ _ (H.or j hj) he, fun i u _ hu => by
    rcases VV_some hu with ⟨_, h⟩ | ⟨i', hi', _, _, _, rfl⟩
    · cases h
    · exact H.two (H.ot i' (Nat.lt_of_lt_of_le hi' H.kn)) (H.or j hj) (by simp), (hW _).waits⟩
theorem drv_noted {D1 : Dyn} (hfe : ∀ i, D1.f i = D1.e i) (hout : ∀ i, i < D1.k → i ≠ j → D1.e i = (C.out x i).isSome ∧ D1.b i = (C.out x i == some true)) (hfr : ∀ i, D1.k ≤ i → D1.e i = false ∧ D1.b i = false) (hgg : D1.gg = going S.n D1.f) (hmost : S.most ≤ 1048576) (hcnt : C.cnt x = D1.ord.length)
    (hj : j < D1.k) (he : D1.e j = false) (l : List Frame) {w5 w6 : World} (H5 : Sys S n0 (handed D1 j l (C.out x j)) w5) (I5 : C.inv D1.k D1.own x (upd D1.cs j l) w5) (h6 : ∃ d, w6 = (awaitW w5 S.B (S.p j) D1.gg (C.out x j).isNone).at d) :
    Drv C n0 (noted (handed D1 j l (C.out x j)) j (C.out x j).isNone) x w6 := by
  obtain ⟨d, rfl⟩ := h6
  have hjn : j < S.n := Nat.lt_of_lt_of_le hj H5.kn
  have hf : D1.f j = false := (hfe j).trans he
  have hg1 : 1 ≤ D1.gg := by rw [hgg]; exact going_pos hjn hf
  have hn := H5.note hjn hg1 (C.out x j).isNone
  have hns : ∀ o : Option Bool, (!o.isNone) = o.isSome := fun o => by cases o <;> rfl
  refine ⟨hn.1.at d, C.keep I5 (hn.2.at d), fun i => ?_, fun i hi => ?_, fun i hi => ?_, ?_, hmost, hcnt⟩
  · simp only [noted, handed, hns]
    by_cases e : i = j
    · subst e; rw [upd_same, upd_same]
    · rw [upd_ne _ _ e, upd_ne _ _ e]; exact hfe i
  · simp only [noted, handed]
    by_cases e : i = j
    · subst e; rw [upd_same, upd_same]; exact ⟨rfl, rfl⟩
    · rw [upd_ne _ _ e, upd_ne _ _ e]; exact hout i hi e
  · have e : i ≠ j := fun e => by
      subst e
      simp only [noted, handed] at hi
      omega
    simp only [noted, handed]
    rw [upd_ne _ _ e, upd_ne _ _ e]
    exact hfr i hi
  · simp only [noted, handed, hgg]
    cases ho : C.out x j with
    | none => simp only [Option.isNone_none, if_true, Bool.not_true]; rw [upd_eq _ hf]
    | some b => simp only [Option.isNone_some, Bool.false_eq_true, if_false, Bool.not_false]; rw [going_ended hjn hf]
theorem step_turn {c : Frame} {cs0 : List Frame} (hD : Drv C n0 D x w) (hi : i < D.k) (he : D.e i = false) (hov : (decide ((D.gg : Int) = 0) || decide (S.most ≤ D.ord.length)) = false)
    (A : At Try.prog (VV S D none none) 0 (S.g0 + D.k) (G (Frame.enter Try.prog 53 #[.pointer (some ⟨S.B, 0, none⟩), .int .i64 i] .normal) (c :: cs0)) w m T) :
    Relay.Comes Try.prog (fun m' T' => ∃ D' w', At Try.prog (VV S D' none none) 0 (S.g0 + D'.k) (G (c.finish (.tuple #[])) cs0) w' m' T' ∧ Drv C n0 D' (C.next x i) w' ∧ D'.ord = D.ord ++ [i] ∧ D'.k = D.k) m T := by
  have hs := hD.sys
  have hin : i < S.n := Nat.lt_of_lt_of_le hi hs.kn
  have hf : D.f i = false := (hD.fe i).trans he
  obtain ⟨t0, t1, t2, t3, z1, z3⟩ := hs.tB
  have hlen : D.ord.length ≤ 1048576 := by
    have := hD.most
    simp only [Bool.or_eq_false_iff, decide_eq_false_iff_not] at hov
    omega
  have hn0 : n0 ≤ w.heap.size := Nat.le_of_lt (Nat.lt_of_le_of_lt (hs.lt _ _ hs.oB).1 (hs.lt _ _ hs.oB).2)
  have hsB : S.sb ≠ S.B := hs.two hs.oS hs.oB (by simp)
  have hpB : S.p i ≠ S.B := hs.two (hs.op i hin) hs.oB (by simp)
  refine (At.walk (h := 0) (Stop := fun g w' => ∃ N gr cap, g = rec81s S.B S.sb S.n S.scap i (S.p i) (S.t i) N (.slice D.oa D.ord.length D.oc) (.slice (some ⟨gr, 0, none⟩) (D.ord.length + 1) cap) (c :: cs0) ∧
      Sys S n0 { D with ord := D.ord ++ [i], oa := some ⟨gr, 0, none⟩, oc := cap, own := upd D.own gr (some .ord) } w' ∧ Keeps D.own (upd D.own gr (some .ord)) w w')
    (step_go S.B S.sb S.n S.scap i (S.p i) (S.t i) n0 D.gg S.most D.oa D.ord.length D.oc _ (c :: cs0) w hin t0 t1 t2 t3 z3 (free_main hs hs.oB (.inl (by simp))) (hs.ss hin) (hf ▸ hs.p2 hin) (hs.p0 hin) hov hs.row hn0 hlen
      (fun g hg => ⟨apart_ord hs (hs.oo g hg), hs.two (hs.oo g hg) hs.oB (by simp), hs.two (hs.oo g hg) hs.oS (by simp), hs.two (hs.oo g hg) (hs.op i hin) (by simp)⟩) hsB hpB
      (fun g cap w' k1 e3 k2 k3 k4 k5 k6 k7 => .stop fun d => ⟨w.heap.size, g, cap, rfl, (hs.order k1 k2 k3 k4 k6 k7).1.at d, (hs.order k1 k2 k3 k4 k6 k7).2.at d⟩)) A).bind ?_
  rintro m1 T1 ⟨_, w1, ⟨N, gr, cap, rfl, H1, K1⟩, A1⟩
  generalize hD1 : ({ D with ord := D.ord ++ [i], oa := some ⟨gr, 0, none⟩, oc := cap, own := upd D.own gr (some .ord) } : Dyn) = D1 at H1
  have h1k : D1.k = D.k := by rw [← hD1]
  have h1e : D1.e = D.e := by rw [← hD1]
  have h1b : D1.b = D.b := by rw [← hD1]
  have h1f : D1.f = D.f := by rw [← hD1]
  have h1g : D1.gg = D.gg := by rw [← hD1]
  have h1c : D1.cs = D.cs := by rw [← hD1]
  have h1N : D1.N = D.N := by rw [← hD1]
  have h1o : D1.own = upd D.own gr (some .ord) := by rw [← hD1]
  have h1r : D1.ord = D.ord ++ [i] := by rw [← hD1]
  have hi1 : i < D1.k := h1k ▸ hi
  have he1 : D1.e i = false := h1e ▸ he
  have hf1 : D1.f i = false := h1f ▸ hf
  rw [← VV_eq (D' := D1) (D := D) h1k (fun i _ _ => by rw [h1e, h1c, h1N]; exact ⟨rfl, rfl, rfl⟩)] at A1
  generalize hmw : mwOf S i (fun g => g = rec107 (S.p i) (S.r i) (fr79 S.B (S.p i) :: fr81 S.B S.sb S.n S.scap i (S.p i) (S.t i) N (.slice D.oa D.ord.length D.oc) (.slice (some ⟨gr, 0, none⟩) (D.ord.length + 1) cap) :: c :: cs0)) = mw
  have hm : MW S i mw := hmw ▸ mwOf_MW _ _ _
  obtain ⟨z', es, hes, hsd⟩ := send81 (main := (0 == 0)) (V := VV S D1 none none) S.B S.sb S.n S.scap i (S.p i) (S.t i) N (.slice D.oa D.ord.length D.oc) (.slice (some ⟨gr, 0, none⟩) (D.ord.length + 1) cap) (c :: cs0) w1
  have hg0 := hs.hg0
  refine (A1.give (v := wT S D1 i) (x := .agg #[]) (j := S.g0 + i) (new := some mw) (by omega) (by omega) (VV_at hg0 hi1 he1 (by simp)) rfl hsd hes ?_).bind ?_
  · rw [← hmw]
    refine mwOf_then H1 hin he1 hf1 fun main => way81 _ _ _ _ _ _ _ _ _ _ _ _ _ hin rfl rfl rfl (mwOf_f H1 hin).1 (mwOf_f H1 hin).2.1 (mwOf_f H1 hin).2.2.1 rfl
  rintro m2 T2 ⟨_, d2, k, rfl, hc, A2⟩
  rw [after_main.resolve_right (by omega)] at A2
  simp only [wT] at A2 hc
  have H2 := (H1.at d2).chan (k' := k + 1) hc ⟨i, .inl (H1.ot i hin)⟩
  have I2 := C.keep hD.inv (K1.trans ((Keeps.at (Keeps.refl _ w1) d2).trans (Keeps.chan (h1o ▸ H1.ot i hin) false (k + 1))))
  rw [← h1o] at I2
  generalize (w1.at d2).setChan (S.t i) 0 #[] false (k + 1) (k + 1) false = w2 at A2 H2 I2
  obtain ⟨⟨c', l', hcs⟩, _⟩ := C.shape I2 hi (by have := (hD.out i hi).1; rw [he] at this; exact Option.not_isSome_iff_eq_none.1 (by rw [← this]; simp))
  have hout : C.out x i = none := by have := (hD.out i hi).1; rw [he] at this; exact Option.not_isSome_iff_eq_none.1 (by rw [← this]; simp)
  rw [h1c, hcs, List.cons_append] at A2
  have I3 := C.keep I2 (Keeps.alloc _ w2 (.cells #[] 53))
  have hmain := thr_main hs i
  refine (At.walk (Stop := Fin C.inv C.out S D.k D1.own (C.next x i) D.cs i (fr60 (D1.N i) (S.F i) (.iface 99 (.pointer (some ⟨S.p i, 0, none⟩)))) [fr78 (S.p i) (S.r i) (S.F i), bornfr] (w2.alloc (.cells #[] 53))) (by
    rw [hmain]
    refine (serve139 (S.p i) (S.r i) (S.t i) c' (l' ++ bot S (D1.N i) i) w2).then ?_
    rintro _ _ ⟨rfl, d, rfl⟩
    refine Walk.back ?_ d
    exact C.go _ _ I3 hi hout hcs (by rw [hD.cnt]; have := hD.most; simp only [Bool.or_eq_false_iff, decide_eq_false_iff_not] at hov; omega) (fun b hb => VV_apart H2 hin (fun v hv => by cases hv; exact hm) hb) (fun b r hb => ((H2.alloc (.cells #[] 53)).lt b r hb).2)) A2).bind ?_
  rintro m3 T3 ⟨g4, w4, hF, A3⟩
  have H4 : Sys S n0 D1 w4 := (H2.alloc (.cells #[] 53)).same hF.1 hF.2.1
  rw [← h1k, ← h1c] at hF
  refine (fin_back H4 hi1 he1 (by rw [h1b]; have := (hD.out i hi).2; rw [hout] at this; exact this) (by omega) hm hF A3).bind ?_
  rintro m5 T5 ⟨g₂, w5, l, hh, A5, H5, I5⟩
  rw [← hmw] at hh
  simp only [mwOf] at hh
  subst hh
  have hg1 : 1 ≤ D.gg := by rw [hD.gg]; exact going_pos hin hf
  have hg64 : D.gg ≤ 64 := by rw [hD.gg]; exact Nat.le_trans (going_le _ _) hs.n64
  have tB5 := H5.tB
  simp only [handed, h1g] at tB5
  refine (At.walk (h := 0) (serve81 S.B S.sb S.n S.scap i (S.p i) (S.t i) (S.r i) N _ _ c cs0 (C.out (C.next x i) i).isNone (D1.f i) D.gg w5 (by omega) (by omega) (Ne.symm hpB) (H5.p2 hin) (H5.pz hin 2) (free_main H5 (H5.op i hin) (.inr (by omega)))
    tB5.2.1 tB5.2.2.2.2.1 (free_main H5 H5.oB (.inl (by simp)))) A5).mono ?_
  rintro m6 T6 ⟨_, w6, ⟨rfl, d6, rfl⟩, A6⟩
  refine ⟨noted (handed D1 i l (C.out (C.next x i) i)) i (C.out (C.next x i) i).isNone, _, ?_, drv_noted (by rw [h1f, h1e]; exact hD.fe) (fun j hj hne => by rw [h1e, h1b, C.nextOut x i j hne]; exact hD.out j (h1k ▸ hj)) (fun j hj => by rw [h1e, h1b]; exact hD.fresh j (h1k ▸ hj)) (by rw [h1g, h1f]; exact hD.gg) hD.most (by rw [C.cntNext, hD.cnt, h1r]; simp) hi1 he1 l H5 I5 ⟨d6, by rw [h1g]⟩, h1r, h1k⟩
  have hV : VV S (noted (handed D1 i l (C.out (C.next x i) i)) i (C.out (C.next x i) i).isNone) none none = VV S (handed D1 i l (C.out (C.next x i) i)) none none := VV_eq rfl (fun _ _ _ => ⟨rfl, rfl, rfl⟩)
  have : S.g0 + (noted (handed D1 i l (C.out (C.next x i) i)) i (C.out (C.next x i) i).isNone).k = S.g0 + D.k := congrArg (S.g0 + ·) h1k
  rw [this, hV]
  exact A6
end
end
section
variable {main : Bool} {V : Nat → Option Wait}
noncomputable def body54 : Code := match Try.f40.body with | some (.seq _ (.block _ (.loop c))) => c | _ => .skip
noncomputable def body54a : Code := match body54 with | .seq _ (.seq _ (.seq (.block _ (.seq _ c)) _)) => c | _ => .skip
noncomputable def ops54g : Array Oper := match body54a with | .seq (.region _ ops _) _ => ops | _ => #[]
noncomputable def rest54 : Code := match body54a with | .seq _ c => c | _ => .skip
noncomputable def ops54w : Array Oper := match rest54 with | .region _ ops _ => ops | _ => #[]
noncomputable def post54 : Code := match body54 with | .seq _ (.seq _ (.seq _ c)) => c | _ => .skip
noncomputable def hd54 (B sb n scap tb tcap j : Nat) (u : Nat → Value) : Frame :=
  (base 40).at { tmps := #[.pointer (some ⟨B, 0, none⟩), .slice (some ⟨tb, 0, none⟩) n tcap, undef, undef, u 4, u 5, .pointer (some ⟨B, 0, none⟩), .pointer (some ⟨B, 0, none⟩), .pointer (some ⟨B, 0, none⟩), .slice (some ⟨sb, 0, none⟩) n scap, .int .i64 n, .int .i64 j, u 12, u 13, u 14, u 15, u 16, u 17, u 18, u 19, u 20, u 21, u 22, u 23, u 24], defers := [] } [.code body54, .inLoop body54, .inBlock 0]
noncomputable def rec54g (B sb n scap tb tcap j p : Nat) (F : Value) (u : Nat → Value) (cs : List Frame) : Goroutine :=
  G ((base 40).at { tmps := #[.pointer (some ⟨B, 0, none⟩), .slice (some ⟨tb, 0, none⟩) n tcap, undef, undef, .int .i64 j, .pointer (some ⟨p, 0, none⟩), .pointer (some ⟨B, 0, none⟩), .pointer (some ⟨B, 0, none⟩), .pointer (some ⟨B, 0, none⟩), .slice (some ⟨sb, 0, none⟩) n scap, .int .i64 n, .int .i64 j, .bool true, .int .i64 j, .pointer (some ⟨sb, j, none⟩), .pointer (some ⟨p, 0, none⟩), .pointer (some ⟨p, 0, none⟩), .slice (some ⟨tb, 0, none⟩) n tcap, .int .i64 j, .pointer (some ⟨tb, j, none⟩), F, u 21, u 22, u 23, u 24], defers := [] } [.inRegion ops54g [5], .code rest54, .inBlock 1, .code post54, .inLoop body54, .inBlock 0]) cs
noncomputable def rec54a (B sb n scap tb tcap j p : Nat) (F : Value) (u : Nat → Value) (cs : List Frame) : Goroutine :=
  G ((base 40).at { tmps := #[.pointer (some ⟨B, 0, none⟩), .slice (some ⟨tb, 0, none⟩) n tcap, undef, undef, .int .i64 j, .pointer (some ⟨p, 0, none⟩), .pointer (some ⟨B, 0, none⟩), .pointer (some ⟨B, 0, none⟩), .pointer (some ⟨B, 0, none⟩), .slice (some ⟨sb, 0, none⟩) n scap, .int .i64 n, .int .i64 j, .bool true, .int .i64 j, .pointer (some ⟨sb, j, none⟩), .pointer (some ⟨p, 0, none⟩), .pointer (some ⟨p, 0, none⟩), .slice (some ⟨tb, 0, none⟩) n tcap, .int .i64 j, .pointer (some ⟨tb, j, none⟩), F, u 21, u 22, u 23, u 24], defers := [] } [.inRegion ops54g [], .code rest54, .inBlock 1, .code post54, .inLoop body54, .inBlock 0]) cs
noncomputable def fr54 (B sb n scap tb tcap j p : Nat) (F : Value) (u : Nat → Value) : Frame :=
  (base 40).at { tmps := #[.pointer (some ⟨B, 0, none⟩), .slice (some ⟨tb, 0, none⟩) n tcap, undef, undef, .int .i64 j, .pointer (some ⟨p, 0, none⟩), .pointer (some ⟨B, 0, none⟩), .pointer (some ⟨B, 0, none⟩), .pointer (some ⟨B, 0, none⟩), .slice (some ⟨sb, 0, none⟩) n scap, .int .i64 n, .int .i64 j, .bool true, .int .i64 j, .pointer (some ⟨sb, j, none⟩), .pointer (some ⟨p, 0, none⟩), .pointer (some ⟨p, 0, none⟩), .slice (some ⟨tb, 0, none⟩) n tcap, .int .i64 j, .pointer (some ⟨tb, j, none⟩), F, .pointer (some ⟨B, 0, none⟩), .pointer (some ⟨p, 0, none⟩), u 23, u 24], defers := [] } [.inRegion ops54w [2], .inBlock 1, .code post54, .inLoop body54, .inBlock 0]
theorem begin_in (B sb n scap tb tcap : Nat) (cs : List Frame) (w : World) (h0 : w.cell? ⟨B, 0, none⟩ = some (.slice (some ⟨sb, 0, none⟩) n scap)) :
    Walk Try.prog main (DR V) (fun g w' => g = G (hd54 B sb n scap tb tcap 0 (fun _ => undef)) cs ∧ ∃ d, w' = w.at d) (G (Frame.enter Try.prog 40 #[.pointer (some ⟨B, 0, none⟩), .slice (some ⟨tb, 0, none⟩) n tcap] .normal) cs) w := by
  rw [enter_at _ Try.func40 rfl]
  simp only [Try.f40, ez, Nat.reduceAdd, Nat.reduceSub]
  repeat (first | refine Walk.cx ?_ | refine Walk.cR ?_ | (refine Walk.oq ?_; try walk_nrm) | (refine Walk.un ?_; walk_nrm))
  refine Walk.ctl rfl (fun w => stepG_loop) ?_
  refine .stop fun d => ⟨?_, d, rfl⟩
  simp only [hd54, body54, Try.f40]
  rfl
theorem begin_go (B sb n scap tb tcap j p : Nat) (F : Value) (u : Nat → Value) (cs : List Frame) (w : World) (hj : j < n) (hp : w.cell? ⟨sb, j, none⟩ = some (.pointer (some ⟨p, 0, none⟩))) (hF : w.cell? ⟨tb, j, none⟩ = some F) :
    Walk Try.prog main (DR V) (fun g w' => g = rec54g B sb n scap tb tcap j p F u cs ∧ ∃ d, w' = w.at d) (G (hd54 B sb n scap tb tcap j u) cs) w := by
  unfold hd54
  simp only [body54, Try.f40]
  have hi0 : (0 : Int) ≤ j := by omega
  have hi1 : decide ((j : Int) < n) = true := by simp; omega
  have hi2 : decide (n ≤ j) = false := by simp; omega
  have hi3 : decide (j < n) = true := by simp; omega
  repeat (first | refine Walk.cx ?_ | refine Walk.cR ?_ | (refine Walk.oq ?_; try walk_nrm) | (refine Walk.un ?_; walk_nrm))
  refine .stop fun d => ⟨?_, d, rfl⟩
  simp only [rec54g, ops54g, rest54, body54a, post54, body54, Try.f40]
theorem spawn54 (B sb n scap tb tcap j p : Nat) (F : Value) (u : Nat → Value) (cs : List Frame) (w : World) :
    stepG Try.prog main (rec54g B sb n scap tb tcap j p F u cs) w = .spawn (rec54a B sb n scap tb tcap j p F u cs) (born Try.prog { target := .fn (.func 50) #[], args := #[.pointer (some ⟨p, 0, none⟩), F] }) w #[] := by
  unfold rec54g rec54a
  simp only [ops54g, rest54, body54a, body54, Try.f40]
  rw [stepG_spawn (d := { target := .fn (.func 50) #[], args := #[.pointer (some ⟨p, 0, none⟩), F] }) (w' := w) (f := .func 50) (c := #[]) rfl (by rfl) (by decide) (by simp [go_sem, execOp, Act.eval, Deferred.ofValue]) rfl, listed_none (by simp [go_sem, execOp, Act.eval])]
  rfl
theorem begin_way (B sb n scap tb tcap j p r : Nat) (F : Value) (u : Nat → Value) (cs : List Frame) (v : Wait) (hch : v.ch = r) (hz : v.z = .agg #[]) (hok : v.ok = true) (hf : v.f ⟨p, 1, none⟩ = some (.chan (some r))) (hh : v.home (rec107 p r (fr79 B p :: fr54 B sb n scap tb tcap j p F u :: cs))) :
    Yonder Try.prog main v (rec54a B sb n scap tb tcap j p F u cs) := by
  unfold rec54a
  simp only [ops54g, rest54, body54a, body54, Try.f40]
  iterate 5 (try (first | refine Yonder.c rfl ?_ | refine Yonder.cR ?_ | refine Yonder.cE ?_ | refine Yonder.cT ?_ | (refine Yonder.oq ?_; try walk_nrm)))
  refine Yonder.callE rfl (by rfl) (by decide) rfl Try.func51 (by kernel_rfl) (by rfl) ?_
  walk_nrm
  refine way79 B p r _ v hch hz hok hf ?_
  simp only [fr54, ops54w, rest54, body54a, body54, Try.f40] at hh
  exact hh
theorem begin_back (B sb n scap tb tcap j p r : Nat) (F : Value) (u : Nat → Value) (cs : List Frame) (ok e0 : Bool) (going : Int) (w : World) (hj : j < 64) (hg1 : 1 ≤ going) (hg2 : going ≤ 64) (hBp : B ≠ p) (h2 : w.cell? ⟨p, 2, none⟩ = some (.bool e0)) (hz2 : w.frozen? ⟨p, 2, none⟩ = false) (hfr : Free V ⟨p, 2, none⟩)
    (h1 : w.cell? ⟨B, 1, none⟩ = some (.int .i64 going)) (hz1 : w.frozen? ⟨B, 1, none⟩ = false) (hfr1 : Free V ⟨B, 1, none⟩) :
    Walk Try.prog main (DR V) (fun g w' => (∃ u', g = G (hd54 B sb n scap tb tcap (j + 1) u') cs) ∧ ∃ d, w' = (awaitW w B p going ok).at d) (Go.Conc.served (rec107 p r (fr79 B p :: fr54 B sb n scap tb tcap j p F u :: cs)) (recvd true (.agg #[]) ok)) w := by
  refine (serve79 B p r (fr54 B sb n scap tb tcap j p F u) cs ok e0 going w hg1 hg2 hBp h2 hz2 hfr h1 hz1 hfr1).then ?_
  rintro g w' ⟨rfl, d, rfl⟩
  refine Walk.back ?_ d
  have hw1 : IntKind.wrap .i64 ((j : Int) + 1) = (j : Int) + 1 := by rw [IntKind.wrap_i64]; omega
  unfold fr54
  rw [Frame.finish_at]
  simp only [ops54w, rest54, body54a, body54, post54, Try.f40]
  walk_nrm
  repeat (first | refine Walk.cx ?_ | refine Walk.cR ?_ | (refine Walk.oq ?_; try walk_nrm) | (refine Walk.un ?_; walk_nrm))
  refine Walk.ctl rfl (fun w => stepG_inLoop) ?_
  refine .stop fun d' => ⟨⟨fun k => ([undef, undef, undef, undef, .int .i64 j, .pointer (some ⟨p, 0, none⟩), undef, undef, undef, undef, undef, undef, .bool true, .int .i64 j, .pointer (some ⟨sb, j, none⟩), .pointer (some ⟨p, 0, none⟩), .pointer (some ⟨p, 0, none⟩), .slice (some ⟨tb, 0, none⟩) n tcap, .int .i64 j, .pointer (some ⟨tb, j, none⟩), F, .pointer (some ⟨B, 0, none⟩), .pointer (some ⟨p, 0, none⟩), .tuple #[], .int .i64 ((j : Int) + 1)] : List Value).getD k undef, ?_⟩, d', rfl⟩
  have hc : ((j + 1 : Nat) : Int) = (j : Int) + 1 := by simp
  simp only [hd54, body54, Try.f40, hc]
  rfl
theorem begin_out (B sb n scap tb tcap : Nat) (u : Nat → Value) (c : Frame) (cs : List Frame) (w : World) :
    Walk Try.prog main (DR V) (fun g w' => g = G (c.finish (.tuple #[])) cs ∧ ∃ d, w' = w.at d) (G (hd54 B sb n scap tb tcap n u) (c :: cs)) w := by
  unfold hd54
  simp only [body54, Try.f40]
  have hi1 : decide ((n : Int) < n) = false := by simp
  have hi3 : decide (n < n) = false := by simp
  repeat (first | refine Walk.cx ?_ | refine Walk.cR ?_ | (refine Walk.oq ?_; try walk_nrm) | (refine Walk.un ?_; walk_nrm))
  exact Walk.ctl rfl (fun w => stepG_leave rfl rfl Try.func40 (results_none rfl _ _ w) (events_results_none rfl _ _)) (.stop fun d => ⟨rfl, d, rfl⟩)
end
section
variable {main : Bool} {V : Nat → Option Wait}
theorem ride_none (S : Value) (c : Frame) (cs : List Frame) (w : World) :
    Walk Try.prog main (DR V) (fun g w' => (∃ d, w' = (w.alloc (.cells #[.bool false] 4)).at d) ∧
      (Free V ⟨w.heap.size, 0, none⟩ → Walk Try.prog main (DR V) (fun g₂ w₂ => g₂ = G (c.finish (.tuple #[.bool true, .bool false])) cs ∧ ∃ d, w₂ = ((w.alloc (.cells #[.bool false] 4)).setCell ⟨w.heap.size, 0, none⟩ (.bool false)).at d) g w'))
      (G (Frame.enter Try.prog 56 #[.nilFunc, S] .normal) (c :: cs)) w := by
  obtain ⟨ms, h20⟩ := und20
  have hn1 := fun w => run_neq_nilIface (P := Try.prog) (w := w) 20 h20
  have hn2 := fun w es => ev_neq_nilIface (P := Try.prog) (w := w) 20 es h20
  have hn3 := fun w => run_neq_nilFunc (P := Try.prog) (w := w) 81 (by kernel_rfl : Try.prog.underlying 81 = some (.func #[63] #[] false))
  have hn4 := fun w es => ev_neq_nilFunc (P := Try.prog) (w := w) 81 es (by kernel_rfl : Try.prog.underlying 81 = some (.func #[63] #[] false))
  rw [enter_at _ Try.func56 rfl]
  simp only [Try.f56, ez, Nat.reduceAdd, Nat.reduceSub]
  repeat (first | refine Walk.cx ?_ | refine Walk.cR ?_ | (refine Walk.oq ?_; try walk_nrm) | (refine Walk.un ?_; walk_nrm))
  (refine Walk.oa ?_; try walk_nrm)
  have hN : (w.alloc (.cells #[.bool false] 4)).cell? ⟨w.heap.size, 0, none⟩ = some (.bool false) := (cell_of (heap_alloc_new w _) 0).trans rfl
  have hz : (w.alloc (.cells #[.bool false] 4)).frozen? ⟨w.heap.size, 0, none⟩ = false := frozen_of (heap_alloc_new w _) 0
  generalize w.heap.size = N at *
  generalize w.alloc (.cells #[.bool false] 4) = w1 at *
  refine .stop fun d => ⟨⟨d, rfl⟩, fun hfr => Walk.back ?_ d⟩
  repeat (first | refine Walk.cx ?_ | refine Walk.cR ?_ | (refine Walk.oq ?_; try walk_nrm) | (refine Walk.un ?_; walk_nrm))
  refine Walk.ctl rfl (fun w' => stepG_deferOp (d := def60 N) rfl (by rfl) (by decide) (by simp [go_sem, execOp, Deferred.ofValue, def60]) (by simp [go_sem, execOp, Deferred.ofValue])) ?_
  walk_nrm
  repeat (first | refine Walk.cx ?_ | refine Walk.cR ?_ | (refine Walk.oq ?_; try walk_nrm) | (refine Walk.un ?_; walk_nrm))
  (refine Walk.os hfr hN ?_; try walk_nrm)
  repeat (first | refine Walk.cx ?_ | refine Walk.cR ?_ | (refine Walk.oq ?_; try walk_nrm) | (refine Walk.un ?_; walk_nrm))
  have hN' := World.cell?_setCell_same w1 ⟨N, 0, none⟩ (.bool false) hN
  refine Walk.ctl rfl (fun w => stepG_deferred (d := def60 N) (ds := []) (by simp [Frame.at]) rfl rfl Try.func58 (by kernel_rfl) (by rfl)) ?_
  simp only [def60, List.append_toArray, List.nil_append]
  rw [enter_atD _ Try.func58 rfl]
  simp only [Try.f58, ez, Nat.reduceAdd, Nat.reduceSub]
  repeat (first | refine Walk.cx ?_ | refine Walk.cR ?_ | (refine Walk.oq ?_; try walk_nrm) | (refine Walk.un ?_; walk_nrm))
  refine Walk.ctl rfl (fun w => stepG_recoverNone rfl (by rfl) rfl rfl rfl) ?_
  walk_nrm
  repeat (first | refine Walk.cx ?_ | refine Walk.cR ?_ | (refine Walk.oq ?_; try walk_nrm) | (refine Walk.un ?_; walk_nrm))
  refine Walk.ctl rfl (fun w => stepG_leaveReturning rfl rfl Try.func58 (results_none rfl _ _ w) (events_results_none rfl _ _) rfl) ?_
  exact leave60 rfl rfl rfl rfl rfl rfl hN'
end
end Go.Proofs.Ytabpfdckgnimaaa
