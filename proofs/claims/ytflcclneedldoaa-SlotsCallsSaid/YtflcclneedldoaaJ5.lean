/- Part 5. -/
import Derived.Test.YtflcclneedldoaaJ2
import Derived.Test.YtflcclneedldoaaJ3
import Derived.Test.YtflcclneedldoaaJ4
import Derived.Test.YtflcclneedldoaaProg
import Derived.KernelRfl
import Derived.Handy
import Derived.Deep.AppendLies
set_option linter.unusedSimpArgs false
set_option linter.unusedVariables false
set_option maxHeartbeats 8000000
set_option maxRecDepth 100000
namespace Go.Proofs.Ytflcclneedldoaa
noncomputable section
open Go.Conc Go.RowKit Go.Relay Try
open Go.ConcN (upd upd_ne upd_same)
inductive Role where
 | tB
 | ss
 | ord
 | p (i : Nat)
 | t (i : Nat)
 | r (i : Nat)
 | nn (i : Nat)
structure Stile where
 g0 : Nat
 n : Nat
 B : Nat
 sb : Nat
 scap : Nat
 tb : Nat
 tcap : Nat
 most : Int
 p : Nat -> Nat
 t : Nat -> Nat
 r : Nat -> Nat
 F : Nat -> Value
 sa : Option Addr
 sc : Nat
 sl : List Int
structure Dyn where
 k : Nat
 e : Nat -> Bool
 f : Nat -> Bool
 b : Nat -> Bool
 N : Nat -> Nat
 cs : Nat -> List Frame
 own : Nat -> Option Role
 ord : List Nat
 oa : Option Addr
 oc : Nat
 gg : Nat
def going (n : Nat) (f : Nat -> Bool) : Nat := (List.range n).countP (fun i => !f i)
def Good (S : Stile) (D : Dyn) : Role -> Option Obj -> Prop
 | .tB, o => ∃ arr ty fr, o = some (.cells arr ty fr) /\ arr[0]? = some (.slice (some ⟨S.sb, 0, none⟩) S.n S.scap) /\ arr[1]? = some (.int .i64 D.gg) /\ arr[2]? = some (.int .i64 S.most) /\ arr[3]? = some (.slice D.oa D.ord.length D.oc) /\ ∀ i, i = 1 ∨ i = 3 -> (decide (fr.1 <= i) && decide (i < fr.2)) = false
 | .ss, o => ∃ arr ty fr, o = some (.cells arr ty fr) /\ ∀ i, i < S.n -> arr[i]? = some (.pointer (some ⟨S.p i, 0, none⟩))
 | .ord, _ => True
 | .p i, o => o = some (.cells #[.chan (some (S.t i)), .chan (some (S.r i)), .bool (D.f i), .bool (D.b i)] 292)
 | .t i, o => D.e i = false -> ∃ k, o = some (.chan 0 #[] false k k false)
 | .r i, o => D.e i = false -> ∃ k, o = some (.chan 0 #[] false k k false)
 | .nn i, o => D.e i = false -> o = some (.cells #[.bool false] 4)
def Place (S : Stile) (D : Dyn) : Role -> Nat -> Prop
 | .tB, b => b = S.B
 | .ss, b => b = S.sb
 | .ord, _ => True
 | .p i, b => i < S.n /\ b = S.p i
 | .t i, b => i < S.n /\ b = S.t i
 | .r i, b => i < S.n /\ b = S.r i
 | .nn i, b => i < D.k /\ b = D.N i
structure Sys (S : Stile) (n0 : Nat) (D : Dyn) (w : World) : Prop where
 good : ∀ b x, D.own b = some x -> Good S D x (w.heap[b]?)
 lt : ∀ b x, D.own b = some x -> n0 <= b /\ b < w.heap.size
 ids : ∀ b x, D.own b = some x -> Place S D x b
 oB : D.own S.B = some .tB
 oS : D.own S.sb = some .ss
 op : ∀ i, i < S.n -> D.own (S.p i) = some (.p i)
 ot : ∀ i, i < S.n -> D.own (S.t i) = some (.t i)
 or : ∀ i, i < S.n -> D.own (S.r i) = some (.r i)
 oN : ∀ i, i < D.k -> D.own (D.N i) = some (.nn i)
 oo : ∀ b, (Value.slice D.oa D.ord.length D.oc).ownBlock = some b -> D.own b = some .ord
 row : w.ownsRow n0 3 1 (.slice D.oa D.ord.length D.oc) D.ord.length (D.ord.map fun i => .int .i64 (i : Nat))
 n64 : S.n <= 64
 kn : D.k <= S.n
 hg0 : 1 <= S.g0
section
variable {S : Stile} {n0 : Nat} {D D' : Dyn} {w w' : World}
theorem Ab {w : World} {b : Nat} {arr : Array Value} {ty : TypeId} {fr : Nat × Nat} (h : w.heap[b]? = some (.cells arr ty fr)) (i : Nat) : w.cell? ⟨b, i, none⟩ = arr[i]? := by simp [World.cell?, h]
theorem Av {w : World} {b : Nat} {arr : Array Value} {ty : TypeId} (h : w.heap[b]? = some (.cells arr ty (0, 0))) (i : Nat) : w.frozen? ⟨b, i, none⟩ = false := by simp [World.frozen?, h]
theorem Sys.tB (H : Sys S n0 D w) : w.cell? ⟨S.B, 0, none⟩ = some (.slice (some ⟨S.sb, 0, none⟩) S.n S.scap) /\ w.cell? ⟨S.B, 1, none⟩ = some (.int .i64 D.gg) /\ w.cell? ⟨S.B, 2, none⟩ = some (.int .i64 S.most) /\
  w.cell? ⟨S.B, 3, none⟩ = some (.slice D.oa D.ord.length D.oc) /\ w.frozen? ⟨S.B, 1, none⟩ = false /\ w.frozen? ⟨S.B, 3, none⟩ = false := by
 obtain ⟨arr, ty, fr, h, h0, h1, h2, h3, hz⟩ := H.good _ _ H.oB
 exact ⟨(Ab h 0).trans h0, (Ab h 1).trans h1, (Ab h 2).trans h2, (Ab h 3).trans h3, by simp only [World.frozen?, h]; exact hz 1 (.inl rfl), by simp only [World.frozen?, h]; exact hz 3 (.inr rfl)⟩
theorem Sys.ss (H : Sys S n0 D w) {i : Nat} (hi : i < S.n) : w.cell? ⟨S.sb, i, none⟩ = some (.pointer (some ⟨S.p i, 0, none⟩)) := by
 obtain ⟨arr, ty, fr, h, h0⟩ := H.good _ _ H.oS
 exact (Ab h i).trans (h0 i hi)
theorem Sys.pp (H : Sys S n0 D w) {i : Nat} (hi : i < S.n) : w.heap[S.p i]? = some (.cells #[.chan (some (S.t i)), .chan (some (S.r i)), .bool (D.f i), .bool (D.b i)] 292) := H.good _ _ (H.op i hi)
theorem Sys.p0 (H : Sys S n0 D w) {i : Nat} (hi : i < S.n) : w.cell? ⟨S.p i, 0, none⟩ = some (.chan (some (S.t i))) := (Ab (H.pp hi) 0).trans rfl
theorem Sys.p1 (H : Sys S n0 D w) {i : Nat} (hi : i < S.n) : w.cell? ⟨S.p i, 1, none⟩ = some (.chan (some (S.r i))) := (Ab (H.pp hi) 1).trans rfl
theorem Sys.p2 (H : Sys S n0 D w) {i : Nat} (hi : i < S.n) : w.cell? ⟨S.p i, 2, none⟩ = some (.bool (D.f i)) := (Ab (H.pp hi) 2).trans rfl
theorem Sys.p3 (H : Sys S n0 D w) {i : Nat} (hi : i < S.n) : w.cell? ⟨S.p i, 3, none⟩ = some (.bool (D.b i)) := (Ab (H.pp hi) 3).trans rfl
theorem Sys.pz (H : Sys S n0 D w) {i : Nat} (hi : i < S.n) (j : Nat) : w.frozen? ⟨S.p i, j, none⟩ = false := Av (H.pp hi) j
theorem Sys.two (_ : Sys S n0 D w) {b b' : Nat} {x x' : Role} (h : D.own b = some x) (h' : D.own b' = some x') (hx : x ≠ x') : b ≠ b' := by
 rintro rfl
 rw [h] at h'
 exact hx (Option.some.inj h')
theorem As {w w' : World} {base : Nat} {e : TypeId} {size : Nat} {v : Value} {n : Nat} {xs : List Value} (h : w.ownsRow base e size v n xs) (hb : ∀ g, v.ownBlock = some g -> w'.heap[g]? = w.heap[g]?) : w'.ownsRow base e size v n xs := by
 refine ⟨h.1, ?_⟩
 rcases h.2 with z | ⟨g, cap, cur, rfl, h1, h2, h3⟩
 ·exact .inl z
 ·exact .inr ⟨g, cap, cur, rfl, h1, (hb g rfl).trans h2, h3⟩
theorem Sys.put (H : Sys S n0 D w) (hown : D'.own = D.own) (hk : D'.k = D.k) (hN : D'.N = D.N) (ho : D'.ord = D.ord) (hoa : D'.oa = D.oa) (hoc : D'.oc = D.oc) (hs : w.heap.size <= w'.heap.size)
  (hg : ∀ b x, D.own b = some x -> Good S D x (w.heap[b]?) -> Good S D' x (w'.heap[b]?)) (hr : ∀ b, D.own b = some .ord -> w'.heap[b]? = w.heap[b]?) : Sys S n0 D' w' := by
 refine ⟨fun b x hx => hg b x (hown ▸ hx) (H.good b x (hown ▸ hx)), fun b x hx => ?_, fun b x hx => ?_, hown ▸ H.oB, hown ▸ H.oS, fun i hi => hown ▸ H.op i hi, fun i hi => hown ▸ H.ot i hi, fun i hi => hown ▸ H.or i hi, fun i hi => ?_, fun b hb => ?_, ?_, H.n64, hk ▸ H.kn, H.hg0⟩
 ·have := H.lt b x (hown ▸ hx); omega
 ·have h := H.ids b x (hown ▸ hx)
  revert h
  cases x <;> simp only [Place, hk, hN, imp_self]
 ·rw [hown, hN]; exact H.oN i (hk ▸ hi)
 ·rw [hown]; rw [hoa, ho, hoc] at hb; exact H.oo b hb
 ·rw [hoa, ho, hoc]
  exact As H.row fun g hg' => hr g (H.oo g hg')
theorem Sys.same (H : Sys S n0 D w) (hs : w.heap.size <= w'.heap.size) (hb : ∀ b x, D.own b = some x -> w'.heap[b]? = w.heap[b]?) : Sys S n0 D w' :=
 H.put rfl rfl rfl rfl rfl rfl hs (fun b x hx h => by rw [hb b x hx]; exact h) fun b hb' => hb b _ hb'
theorem Good.of_same {x : Role} {o : Option Obj} (h : Good S D x o) (hf : ∀ i, x = .p i -> D'.f i = D.f i /\ D'.b i = D.b i) (hB : x = .tB -> D'.gg = D.gg /\ D'.oa = D.oa /\ D'.ord.length = D.ord.length /\ D'.oc = D.oc) (he : ∀ i, x = .t i ∨ x = .r i ∨ x = .nn i -> D'.e i = false -> D.e i = false) : Good S D' x o := by
 cases x with
 | tB => obtain ⟨h1, h2, h3, h4⟩ := hB rfl; simpa only [Good, h1, h2, h3, h4] using h
 | ss => exact h
 | ord => trivial
 | p i => obtain ⟨h1, h2⟩ := hf i rfl; simpa only [Good, h1, h2] using h
 | t i => exact fun z => h (he i (.inl rfl) z)
 | r i => exact fun z => h (he i (.inr (.inl rfl)) z)
 | nn i => exact fun z => h (he i (.inr (.inr rfl)) z)
theorem Sys.chan (H : Sys S n0 D w) {c k k' : Nat} (hc : w.heap[c]? = some (.chan 0 #[] false k k false)) (hcr : ∃ i, D.own c = some (.t i) ∨ D.own c = some (.r i)) : Sys S n0 D (w.setChan c 0 #[] false k' k' false) := by
 have hsz : (w.setChan c 0 #[] false k' k' false).heap.size = w.heap.size := by simp [World.setChan]
 refine H.put rfl rfl rfl rfl rfl rfl (Nat.le_of_eq hsz.symm) (fun b x hx h => ?_) fun b hb => ?_
 ·by_cases e : c = b
  ·subst e
   rw [heap_setChan_self w hc]
   obtain ⟨i, z | z⟩ := hcr <;> (rw [hx] at z; cases z; exact fun _ => ⟨k', rfl⟩)
  ·rw [heap_setChan_ne w _ _ _ _ _ _ e]; exact h
 ·refine heap_setChan_ne w _ _ _ _ _ _ fun e => ?_
  subst e
  obtain ⟨i, z | z⟩ := hcr <;> (rw [hb] at z; cases z)
theorem Sys.shut (H : Sys S n0 D w) {j c k : Nat} (he : D.e j = true) (hcr : D.own c = some (.t j) ∨ D.own c = some (.r j)) : Sys S n0 D (w.setChan c 0 #[] true k k false) := by
 have hsz : (w.setChan c 0 #[] true k k false).heap.size = w.heap.size := by simp [World.setChan]
 refine H.put rfl rfl rfl rfl rfl rfl (Nat.le_of_eq hsz.symm) (fun b x hx h => ?_) fun b hb => ?_
 ·by_cases e : c = b
  ·subst e
   rcases hcr with z | z <;> (rw [hx] at z; cases z; exact fun z => by rw [he] at z; cases z)
  ·rw [heap_setChan_ne w _ _ _ _ _ _ e]; exact h
 ·refine heap_setChan_ne w _ _ _ _ _ _ fun e => ?_
  subst e
  rcases hcr with z | z <;> (rw [hb] at z; cases z)
theorem Sys.at (H : Sys S n0 D w) (d : Nat) : Sys S n0 D (w.at d) := H.same (Nat.le_refl _) fun _ _ _ => rfl
theorem Ac (w : World) (a : Addr) (k : Nat) (v : Value) (h : k ≠ a.block) : (w.setCell a v).heap[k]? = w.heap[k]? := by
 simp only [World.setCell]
 rw [Array.getElem?_modify, if_neg (Ne.symm h)]
theorem Ao (w : World) {b i : Nat} {arr : Array Value} {ty : TypeId} {fr : Nat × Nat} (v : Value) (h : w.heap[b]? = some (.cells arr ty fr)) : (w.setCell ⟨b, i, none⟩ v).heap[b]? = some (.cells (arr.setIfInBounds i v) ty fr) := by
 simp only [World.setCell]
 rw [Array.getElem?_modify, if_pos rfl, h]
 rfl
theorem Ai (w : World) (a : Addr) (v : Value) : (w.setCell a v).heap.size = w.heap.size := by simp [World.setCell]
theorem Ad (w : World) (o : Obj) {b : Nat} (h : b < w.heap.size) : (w.alloc o).heap[b]? = w.heap[b]? := by
 simp only [World.alloc]
 rw [Array.getElem?_push, if_neg (by omega)]
theorem Sys.hire (H : Sys S n0 D w) (hk : D.k < S.n) : Sys S n0 { D with k := D.k + 1, N := upd D.N D.k w.heap.size, own := upd D.own w.heap.size (some (.nn D.k)) } (w.alloc (.cells #[.bool false] 4)) := by
 have hsz : (w.alloc (.cells #[.bool false] 4)).heap.size = w.heap.size + 1 := by simp
 have hfresh : ∀ b x, D.own b = some x -> b ≠ w.heap.size := fun b x hx => by have := (H.lt b x hx).2; omega
 have hold : ∀ b x, D.own b = some x -> upd D.own w.heap.size (some (.nn D.k)) b = some x := fun b x hx => by rw [upd_ne _ _ (hfresh b x hx)]; exact hx
 have hnew : ∀ b x, upd D.own w.heap.size (some (.nn D.k)) b = some x -> (b = w.heap.size /\ x = .nn D.k) ∨ (b ≠ w.heap.size /\ D.own b = some x) := fun b x hx => by
  by_cases e : b = w.heap.size
  ·subst e; rw [upd_same] at hx; exact .inl ⟨rfl, (Option.some.inj hx).symm⟩
  ·rw [upd_ne _ _ e] at hx; exact .inr ⟨e, hx⟩
 have hn0 : n0 <= w.heap.size := Nat.le_of_lt (Nat.lt_of_le_of_lt (H.lt _ _ H.oB).1 (H.lt _ _ H.oB).2)
 refine ⟨fun b x hx => ?_, fun b x hx => ?_, fun b x hx => ?_, hold _ _ H.oB, hold _ _ H.oS, fun i hi => hold _ _ (H.op i hi), fun i hi => hold _ _ (H.ot i hi), fun i hi => hold _ _ (H.or i hi), fun i hi => ?_, fun b e => hold _ _ (H.oo b e), As H.row fun g hg => Ad w _ (H.lt g _ (H.oo g hg)).2, H.n64, hk, H.hg0⟩
 ·rcases hnew b x hx with ⟨rfl, rfl⟩ | ⟨hne, hx⟩
  ·exact fun _ => hAw w _
  ·rw [Ad w _ (H.lt b x hx).2]
   have h := H.good b x hx
   cases x <;> exact h
 ·rcases hnew b x hx with ⟨rfl, rfl⟩ | ⟨hne, hx⟩
  ·omega
  ·have := H.lt b x hx; omega
 ·rcases hnew b x hx with ⟨rfl, rfl⟩ | ⟨hne, hx⟩
  ·exact ⟨Nat.lt_succ_self _, (upd_same _ _ _).symm⟩
  ·have h := H.ids b x hx
   cases x with
   | nn i =>
    have h1 : i < D.k := h.1
    exact ⟨Nat.lt_succ_of_lt h1, h.2.trans (upd_ne _ _ (by omega)).symm⟩
   | _ => exact h
 ·by_cases e : i = D.k
  ·subst e; simp only [upd_same]
  ·simp only [upd_ne _ _ e]
   exact hold _ _ (H.oN i (by simp only at hi; omega))
theorem Sys.alloc (H : Sys S n0 D w) (o : Obj) : Sys S n0 D (w.alloc o) := H.same (by simp) fun b x hx => Ad w o (H.lt b x hx).2
theorem Sys.brk (H : Sys S n0 D w) {j : Nat} (hj : j < S.n) (x : Bool) : Sys S n0 { D with b := upd D.b j x } (w.setCell ⟨S.p j, 3, none⟩ (.bool x)) := by
 refine H.put rfl rfl rfl rfl rfl rfl (Nat.le_of_eq (Ai ..).symm) (fun b y hy h => ?_) fun b hb => ?_
 ·by_cases e : b = S.p j
  ·subst e
   rw [H.op j hj] at hy
   cases hy
   rw [Ao w _ (H.pp hj)]
   simp [Good, upd_same]
  ·rw [Ac w _ b _ e]
   refine h.of_same (fun i hi => ⟨rfl, upd_ne _ _ fun ei => e ?_⟩) (fun _ => ⟨rfl, rfl, rfl, rfl⟩) fun i _ z => z
   subst hi; subst ei; exact (H.ids b _ hy).2
 ·exact Ac w _ b _ (H.two hb (H.op j hj) (by simp))
theorem Sys.ride (H : Sys S n0 D w) {j : Nat} (hj : j < D.k) (v : Value) : Sys S n0 { D with e := upd D.e j true } (w.setCell ⟨D.N j, 0, none⟩ v) := by
 refine H.put rfl rfl rfl rfl rfl rfl (Nat.le_of_eq (Ai ..).symm) (fun b y hy h => ?_) fun b hb => Ac w _ b _ (H.two hb (H.oN j hj) (by simp))
 by_cases e : b = D.N j
 ·subst e
  rw [H.oN j hj] at hy
  cases hy
  exact fun z => by simp only [upd_same] at z; cases z
 ·rw [Ac w _ b _ e]
  refine h.of_same (fun i _ => ⟨rfl, rfl⟩) (fun _ => ⟨rfl, rfl, rfl, rfl⟩) fun i _ z => ?_
  by_cases ei : i = j
  ·subst ei; simp only [upd_same] at z; cases z
  ·simpa only [upd_ne _ _ ei] using z
end
section
variable {main : Bool} {V : Nat -> Option Wait}
def Px : Array Oper := match f245.body with | some (.seq (.region _ ops _) _) => ops | _ => #[]
def Eu : Code := match f245.body with | some (.seq _ c) => c | _ => .skip
def Ms : Array Oper := match Eu with | .seq (.region _ ops _) _ => ops | _ => #[]
def Gm : Code := match Eu with | .seq _ c => c | _ => .skip
def Fe (p r : Nat) (cs : List Frame) : Goroutine :=
 G ((base 245).at { tmps := #[.pointer (some ⟨p, 0, none⟩), undef, undef, undef, .pointer (some ⟨p, 0, none⟩), .pointer (some ⟨p, 0, none⟩), .pointer (some ⟨p, 1, none⟩), .chan (some r), .agg #[], undef, undef, undef, undef, undef, undef, undef, undef, undef, undef, undef, undef], defers := [] } [.inRegion Px [5], .code Eu]) cs
def Hb (p r t : Nat) (cs : List Frame) : Goroutine :=
 G ((base 245).at { tmps := #[.pointer (some ⟨p, 0, none⟩), undef, undef, undef, .pointer (some ⟨p, 0, none⟩), .pointer (some ⟨p, 0, none⟩), .pointer (some ⟨p, 1, none⟩), .chan (some r), .agg #[], undef, .pointer (some ⟨p, 0, none⟩), .pointer (some ⟨p, 0, none⟩), .pointer (some ⟨p, 0, none⟩), .chan (some t), undef, undef, undef, undef, undef, undef, undef], defers := [] } [.inRegion Ms [4, 5, 6, 7, 8, 9, 10], .code Gm]) cs
theorem step_send {Stop : Goroutine -> World -> Prop} (p r : Nat) (cs : List Frame) (w : World) (h1 : w.cell? ⟨p, 1, none⟩ = some (.chan (some r))) (hk : Walk prog main (DR V) Stop (Fe p r cs) w) :
  Walk prog main (DR V) Stop (G (Frame.enter prog 245 #[.pointer (some ⟨p, 0, none⟩)] .normal) cs) w := by
 rw [enter_at _ func245 rfl]
 unfold Fe at hk
 simp only [Px, Eu, f245] at hk
 simp only [f245, Option.getD_some, List.size_toArray, List.length_cons, List.length_nil, Nat.reduceAdd, Nat.reduceSub, Array.replicate_succ, Array.replicate_zero, List.push_toArray, List.append_toArray, List.nil_append, List.cons_append]
 refine Ae ?_
 exact hk
theorem send139 (p r : Nat) (cs : List Frame) (w : World) : ∃ z' es, (∀ e ∈ es, Je V e) /\ ∀ d, stepG prog main (Fe p r cs) (w.at d) = .comm (Fe p r cs) #[scase r (.agg #[]) z'] true .send (w.at d) es := by
 refine ⟨.tuple #[], #[], by simp, fun d => ?_⟩
 unfold Fe
 simp only [Px, Eu, f245]
 rw [stepG_comm (cases := #[scase r (.agg #[]) (.tuple #[])]) (blocking := true) (shape := .send) (w' := w.at d) rfl (by rfl) (by decide) (by simp [execOp, scase, Act.eval]), listed_none (by simp [go_sem, execOp, Act.eval])]
theorem way139 (p r t : Nat) (cs : List Frame) (v : Wait) (hch : v.ch = t) (hz : v.z = .agg #[]) (hok : v.ok = true) (hf : v.f ⟨p, 0, none⟩ = some (.chan (some t))) (hh : v.home (Hb p r t cs)) : Yonder prog main v (Go.Conc.served (Fe p r cs) undef) := by
 unfold Hb at hh
 simp only [Ms, Gm, Eu, f245] at hh
 unfold Fe
 rw [served_fr, Frame.finish_at]
 simp only [Px, Eu, f245]
 walk_nrm
 iterate 6 (try (first | refine Yonder.c rfl ?_ | refine Yonder.cR ?_ | refine Dl ?_ | refine Yonder.cT ?_ | (refine Yonder.oq ?_; try walk_nrm)))
 co_applyP Gs _ hf rfl (by rfl) (by decide) ?krun1 ?kev1 ?krest1; (case krun1 => (intro w hw K hK; have hcx := hw _ _ hf; go_simp; exact hK)); (case kev1 => (intro w hw e he; have hcx := hw _ _ hf; simp [go_sem, *] at he; exact he)); try walk_nrm
 exact Ks rfl (by rfl) (by decide) (fun w => by simp [go_sem, execOp, rcase, Act.eval, hch, hz, hok]) (fun w => by simp [go_sem, execOp, Act.eval]) hh
theorem serve139 (p r t : Nat) (c : Frame) (cs : List Frame) (w : World) :
  Walk prog main (DR V) (fun g w' => g = G (c.finish (.tuple #[])) cs /\ ∃ d, w' = (w.alloc (.cells #[] 68)).at d) (Go.Conc.served (Hb p r t (c :: cs)) (recvd true (.agg #[]) true)) w := by
 unfold Hb
 rw [served_fr, Frame.finish_at]
 simp only [Ms, Gm, Eu, f245, recvd, if_true]
 walk_nrm
 refine Ae ?_
 (refine Wa ?_; try walk_nrm)
 refine Ae ?_
 exact Walk.ctl rfl (fun w => stepG_leave rfl rfl func245 (results_none rfl _ _ w) (events_results_none rfl _ _)) (.stop fun d => ⟨rfl, d, rfl⟩)
def Pu (p r t N : Nat) (cs : List Frame) : Goroutine :=
 G { (base 245).at { tmps := #[.pointer (some ⟨p, 0, none⟩), undef, .pointer (some ⟨N, 0, none⟩), .bool false, .pointer (some ⟨p, 0, none⟩), .pointer (some ⟨p, 0, none⟩), .pointer (some ⟨p, 1, none⟩), .chan (some r), .agg #[], .tuple #[.agg #[], .bool false], .pointer (some ⟨p, 0, none⟩), .pointer (some ⟨p, 0, none⟩), .pointer (some ⟨p, 0, none⟩), .chan (some t), .tuple #[.agg #[], .bool false], .agg #[], .bool false, .bool false, .bool true, .agg #[], .iface 300 (.agg #[])], defers := [] }
  [.inRegion (match Gm with | .seq _ (.cond _ (.region _ ops _) _) => ops | _ => #[]) [2]] with mode := .panicking [{ v := .iface 300 (.agg #[]), recovered := false }] } cs
theorem run_iface147 (w : World) : (Instr.makeInterface 300 (.agg #[])).run prog w = .ok (.iface 300 (.agg #[])) w := by
 simp [Instr.makeInterface, run_underlying (show prog.underlying 300 = some (.struct #[]) by kernel_rfl)]
theorem ev_iface147 (w : World) (es : Array Event) : (Instr.makeInterface 300 (.agg #[])).events prog w es = es := by
 simp [Instr.makeInterface, run_underlying (show prog.underlying 300 = some (.struct #[]) by kernel_rfl)]
theorem stop139 (p r t : Nat) (cs : List Frame) (w : World) :
  Walk prog main (DR V) (fun g w' => g = Pu p r t w.heap.size cs /\ ∃ d, w' = (w.alloc (.cells #[] 68)).at d) (Go.Conc.served (Hb p r t cs) (recvd true (.agg #[]) false)) w := by
 unfold Hb
 rw [served_fr, Frame.finish_at]
 simp only [Ms, Gm, Eu, f245, recvd, if_true]
 walk_nrm
 refine Ae ?_
 (refine Wa ?_; try walk_nrm)
 have hi1 := run_iface147
 have hi2 := ev_iface147
 refine Ae ?_
 refine Walk.ctl rfl (fun w => stepG_raise (x := .iface 300 (.agg #[])) rfl (by rfl) (by decide) (by simp [go_sem, execOp, Act.eval, Instr.panic]) (by simp [go_sem, execOp, Act.eval, Instr.panic])) ?_
 refine .stop fun d => ⟨?_, d, rfl⟩
 simp only [Pu, Gm, Eu, f245]
end
section
def bot (S : Stile) (N j : Nat) : List Frame := [fr60 N (S.F j) (.iface 286 (.pointer (some ⟨S.p j, 0, none⟩))), fr78 (S.p j) (S.r j) (S.F j), bornfr]
open Classical in
def wT (S : Stile) (D : Dyn) (i : Nat) : Wait where
 ch := S.t i
 z := .agg #[]
 ok := true
 home := fun g => g = Hb (S.p i) (S.r i) (S.t i) (D.cs i ++ bot S (D.N i) i)
 f := fun a => if a = ⟨S.p i, 0, none⟩ then some (.chan (some (S.t i))) else none
def VV (S : Stile) (D : Dyn) (m : Option Wait) (x : Option Nat) : Nat -> Option Wait := fun g =>
 if g = 0 then m else if S.g0 <= g /\ g < S.g0 + D.k /\ D.e (g - S.g0) = false /\ x ≠ some (g - S.g0) then some (wT S D (g - S.g0)) else none
structure MW (S : Stile) (j : Nat) (v : Wait) : Prop where
 ch : v.ch = S.r j
 z : v.z = .agg #[]
 ok : v.ok = true
 f : ∀ a, v.f a ≠ none -> a = ⟨S.B, 0, none⟩ ∨ (∃ i, a = ⟨S.sb, i, none⟩) ∨ a = ⟨S.p j, 1, none⟩ ∨ a = ⟨S.p j, 2, none⟩
section
variable {S : Stile} {n0 : Nat} {D D' : Dyn} {w w' : World} {j nG : Nat} {mw : Wait} {m : Machine} {T : Trace} {l : List Frame}
theorem Pm {α : Type} (f : Nat -> α) {j : Nat} {v : α} (h : f j = v) : upd f j v = f := by
 funext i
 by_cases e : i = j
 ·subst e; rw [upd_same, h]
 ·exact upd_ne _ _ e
theorem Qb {α : Type} {c d : Prop} [Decidable c] [Decidable d] {a b : α} (h : c ↔ d) : (if c then a else b) = if d then a else b := by
 by_cases hd : d
 ·rw [if_pos hd, if_pos (h.2 hd)]
 ·rw [if_neg hd, if_neg (fun z => hd (h.1 z))]
theorem VV_zero (o : Option Wait) (x : Option Nat) : VV S D o x 0 = o := by simp [VV]
theorem VV_at {o : Option Wait} {x : Option Nat} (hg : 1 <= S.g0) {i : Nat} (hi : i < D.k) (he : D.e i = false) (hx : x ≠ some i) : VV S D o x (S.g0 + i) = some (wT S D i) := by
 have h0 : S.g0 + i ≠ 0 := by omega
 have h1 : S.g0 + i - S.g0 = i := by omega
 unfold VV
 rw [if_neg h0, h1, if_pos ⟨by omega, by omega, he, hx⟩]
theorem Kv {o : Option Wait} {x : Option Nat} {g : Nat} {v : Wait} (h : VV S D o x g = some v) : (g = 0 /\ o = some v) ∨ ∃ i, i < D.k /\ D.e i = false /\ x ≠ some i /\ g = S.g0 + i /\ v = wT S D i := by
 unfold VV at h
 by_cases h0 : g = 0
 ·rw [if_pos h0] at h; exact .inl ⟨h0, h⟩
 ·rw [if_neg h0] at h
  by_cases hc : S.g0 <= g /\ g < S.g0 + D.k /\ D.e (g - S.g0) = false /\ x ≠ some (g - S.g0)
  ·rw [if_pos hc] at h
   cases h
   exact .inr ⟨g - S.g0, by omega, hc.2.2.1, hc.2.2.2, by omega, rfl⟩
  ·rw [if_neg hc] at h; cases h
theorem Pj {o : Option Wait} {x : Option Nat} (hk : D'.k = D.k) (he : ∀ i, i < D.k -> x ≠ some i -> D'.e i = D.e i /\ D'.cs i = D.cs i /\ D'.N i = D.N i) : VV S D' o x = VV S D o x := by
 funext g
 unfold VV
 by_cases h0 : g = 0
 ·rw [if_pos h0, if_pos h0]
 ·rw [if_neg h0, if_neg h0, hk]
  by_cases hc : S.g0 <= g /\ g < S.g0 + D.k /\ x ≠ some (g - S.g0)
  ·obtain ⟨h1, h2, h3⟩ := he (g - S.g0) (by omega) hc.2.2
   have : wT S D' (g - S.g0) = wT S D (g - S.g0) := by simp only [wT, h2, h3]
   rw [h1, this]
  ·rw [if_neg (fun z => hc ⟨z.1, z.2.1, z.2.2.2⟩), if_neg (fun z => hc ⟨z.1, z.2.1, z.2.2.2⟩)]
theorem after_main : after (VV S D none none) 0 (S.g0 + j) (some mw) = VV S D (some mw) (some j) ∨ S.g0 + j = 0 := by
 by_cases hz : S.g0 + j = 0
 ·exact .inr hz
 refine .inl (funext fun g => ?_)
 unfold after VV
 by_cases e1 : g = S.g0 + j
 ·subst e1
  rw [upd_same, if_neg hz, if_neg]
  rintro ⟨_, _, _, h⟩
  exact h (by rw [Nat.add_sub_cancel_left])
 ·rw [upd_ne _ _ e1]
  by_cases e0 : g = 0
  ·subst e0; rw [upd_same, if_pos rfl]
  ·rw [upd_ne _ _ e0, if_neg e0, if_neg e0]
   refine Qb ⟨fun h => ⟨h.1, h.2.1, h.2.2.1, fun z => ?_⟩, fun h => ⟨h.1, h.2.1, h.2.2.1, by simp⟩⟩
   have := Option.some.inj z; omega
theorem Ow {D' : Dyn} {new : Option Wait} (hj : j < D.k) (hk : D'.k = D.k) (he : ∀ i, i < D.k -> i ≠ j -> D'.e i = D.e i /\ D'.cs i = D.cs i /\ D'.N i = D.N i) (hn : new = if D'.e j = false then some (wT S D' j) else none) :
  after (VV S D (some mw) (some j)) (S.g0 + j) 0 new = VV S D' none none := by
 rw [<- Pj (D' := D') hk fun i hi hx => he i hi fun e => hx (e ▸ rfl)]
 funext g
 unfold after VV
 by_cases e0 : g = 0
 ·subst e0; rw [upd_same, if_pos rfl]
 ·rw [upd_ne _ _ e0, if_neg e0]
  by_cases e1 : g = S.g0 + j
  ·subst e1
   rw [upd_same, hn, Nat.add_sub_cancel_left]
   by_cases hd : D'.e j = false
   ·rw [if_pos hd, if_pos ⟨by omega, by omega, hd, by simp⟩]
   ·rw [if_neg hd, if_neg (fun z => hd z.2.2.1)]
  ·rw [upd_ne _ _ e1, if_neg e0]
   refine Qb ⟨fun h => ⟨h.1, h.2.1, h.2.2.1, by simp⟩, fun h => ⟨h.1, h.2.1, h.2.2.1, fun z => ?_⟩⟩
   have := Option.some.inj z; omega
theorem upd_hire (hk : D'.k = D.k + 1) (he : ∀ i, i < D.k -> D'.e i = D.e i /\ D'.cs i = D.cs i /\ D'.N i = D.N i) : upd (VV S D none none) 0 (some mw) = VV S D' (some mw) (some D.k) := by
 funext g
 unfold VV
 by_cases e0 : g = 0
 ·subst e0; rw [upd_same, if_pos rfl]
 ·rw [upd_ne _ _ e0, if_neg e0, if_neg e0]
  by_cases hc : S.g0 <= g /\ g < S.g0 + D.k
  ·obtain ⟨h1, h2, h3⟩ := he (g - S.g0) (by omega)
   have : wT S D' (g - S.g0) = wT S D (g - S.g0) := by simp only [wT, h2, h3]
   rw [this, h1]
   refine Qb ⟨fun h => ⟨h.1, by omega, h.2.2.1, fun z => ?_⟩, fun h => ⟨h.1, by omega, h.2.2.1, by simp⟩⟩
   have := Option.some.inj z; omega
  ·rw [if_neg (fun z => hc ⟨z.1, z.2.1⟩), if_neg]
   rintro ⟨h1, h2, _, h4⟩
   exact h4 (congrArg some (by omega))
theorem Kw {o : Option Wait} {x : Option Nat} {a : Addr} (hm : ∀ v, o = some v -> v.f a = none) (ha : ∀ i, i < D.k -> a ≠ ⟨S.p i, 0, none⟩) : Dm (VV S D o x) a := by
 intro g v h
 rcases Kv h with ⟨_, h⟩ | ⟨i, hi, _, _, _, rfl⟩
 ·exact hm v h
 ·simp only [wT]; rw [if_neg (ha i hi)]
theorem MW.free (hm : MW S j mw) {a : Addr} (h1 : a ≠ ⟨S.B, 0, none⟩) (h2 : ∀ i, a ≠ ⟨S.sb, i, none⟩) (h3 : a ≠ ⟨S.p j, 1, none⟩) (h4 : a ≠ ⟨S.p j, 2, none⟩) : mw.f a = none := by
 refine Classical.byContradiction fun h => ?_
 rcases hm.f a h with z | ⟨i, z⟩ | z | z
 ·exact h1 z
 ·exact h2 i z
 ·exact h3 z
 ·exact h4 z
theorem VV_apart {x : Option Nat} {o : Option Wait} (H : Sys S n0 D w) (hj : j < S.n) (hm : ∀ v, o = some v -> MW S j v) {b : Nat} (hb : D.own b = none) : Az (VV S D o x) b := by
 have hne : ∀ b' x, D.own b' = some x -> b ≠ b' := fun b' x h e => by subst e; rw [hb] at h; cases h
 refine ⟨fun a ha => Kw (fun v hv => (hm v hv).free ?_ ?_ ?_ ?_) ?_, fun g u h => ?_⟩
 ·rintro rfl; exact hne _ _ H.oB ha.symm
 ·rintro i rfl; exact hne _ _ H.oS ha.symm
 ·rintro rfl; exact hne _ _ (H.op j hj) ha.symm
 ·rintro rfl; exact hne _ _ (H.op j hj) ha.symm
 ·rintro i hi rfl; exact hne _ _ (H.op i (Nat.lt_of_lt_of_le hi H.kn)) ha.symm
 ·rcases Kv h with ⟨_, h⟩ | ⟨i, hi, _, _, _, rfl⟩
  ·rw [(hm u h).ch]; exact (hne _ _ (H.or j hj)).symm
  ·exact (hne _ _ (H.ot i (Nat.lt_of_lt_of_le hi H.kn))).symm
theorem thr_main (H : Sys S n0 D w) (j : Nat) : (S.g0 + j == 0) = false := by
 have := H.hg0
 simp; omega
theorem give_back (H : Sys S n0 D w) (hj : j < D.k) (he : D.e j = false) (hn : 0 < nG) (hm : MW S j mw) (A : At prog (VV S D (some mw) (some j)) (S.g0 + j) nG (Fe (S.p j) (S.r j) (l ++ bot S (D.N j) j)) w m T) :
  Relay.Comes prog (fun m' T' => ∃ g₂ d k, mw.home g₂ /\ w.heap[S.r j]? = some (.chan 0 #[] false k k false) /\ At prog (VV S { D with cs := upd D.cs j l } none none) 0 nG (Go.Conc.served g₂ (recvd true (.agg #[]) true)) ((w.at d).setChan (S.r j) 0 #[] false (k + 1) (k + 1) false) m' T') m T := by
 have hjn : j < S.n := Nat.lt_of_lt_of_le hj H.kn
 have hg0 := H.hg0
 obtain ⟨z', es, hes, hs⟩ := send139 (main := S.g0 + j == 0) (V := VV S D (some mw) (some j)) (S.p j) (S.r j) (l ++ bot S (D.N j) j) w
 refine (A.give (v := mw) (x := .agg #[]) (j := 0) (new := some (wT S { D with cs := upd D.cs j l } j)) (by omega) hn (VV_zero _ _) rfl (by rw [hm.ch]; exact hs) hes ⟨?_, ?_, ?_, ?_⟩).mono ?_
 ·intro a y hy
  simp only [wT] at hy
  by_cases ea : a = ⟨S.p j, 0, none⟩
  ·rw [if_pos ea] at hy; cases hy; subst ea; exact H.p0 hjn
  ·rw [if_neg ea] at hy; cases hy
 ·exact H.good _ _ (H.ot j hjn) he
 ·intro i u hi hu
  rcases Kv hu with ⟨z, _⟩ | ⟨i', hi', _, hx, _, rfl⟩
  ·exact absurd z hi
  ·exact H.two (H.ot i' (Nat.lt_of_lt_of_le hi' H.kn)) (H.ot j hjn) fun e => hx (by cases e; rfl)
 ·refine (way139 (S.p j) (S.r j) (S.t j) (l ++ bot S (D.N j) j) _ rfl rfl rfl (by simp [wT]) ?_).waits
  simp only [wT, upd_same]
 ·rintro m' T' ⟨g₂, d, k, hh, hc, A'⟩
  refine ⟨g₂, d, k, hh, hm.ch ▸ hc, ?_⟩
  rw [Ow (D' := { D with cs := upd D.cs j l }) hj rfl (fun i _ hi => ⟨rfl, upd_ne _ _ hi, rfl⟩) (by rw [if_pos he]), hm.ch, hm.ok] at A'
  exact A'
theorem shut_back (H : Sys S n0 D w) (hj : j < D.k) (he : D.e j = true) (hn : 0 < nG) (hm : MW S j mw) {F : Value} {bk br : Bool} (A : At prog (VV S D (some mw) (some j)) (S.g0 + j) nG (rec78 (S.p j) (S.r j) F bk br) w m T) :
  Relay.Comes prog (fun m' T' => ∃ g₂ d k, mw.home g₂ /\ At prog (VV S D none none) 0 nG (Go.Conc.served g₂ (recvd true (.agg #[]) false)) ((w.at d).setChan (S.r j) 0 #[] true k k false) m' T') m T := by
 have hg0 := H.hg0
 refine (A.shut (v := mw) (j := 0) (new := none) (a' := G { (rec78 (S.p j) (S.r j) F bk br).frame with defers := [] } [bornfr]) (by omega) hn (VV_zero _ _) rfl (wake78 ..) rfl (fun d k hk => ?_) ⟨by omega, 2, quit78 ..⟩).mono ?_
 ·rw [hm.ch] at hk ⊢
  exact close78 _ _ _ _ _ _ k hk
 ·rintro m' T' ⟨g₂, d, k, hh, A'⟩
  refine ⟨g₂, d, k, hh, ?_⟩
  rw [Ow (D' := D) hj rfl (fun i _ hi => ⟨rfl, rfl, rfl⟩) (by rw [he]; rfl), hm.ch, hm.ok, hm.z] at A'
  exact A'
end
end
structure Keeps (o o' : Nat -> Option Role) (w w' : World) : Prop where
 size : w.heap.size <= w'.heap.size
 same : ∀ b, b < w.heap.size -> o b = none -> o' b = none /\ w'.heap[b]? = w.heap[b]?
theorem Keeps.refl (o : Nat -> Option Role) (w : World) : Keeps o o w w := ⟨Nat.le_refl _, fun _ _ h => ⟨h, rfl⟩⟩
theorem Keeps.trans {o o' o'' : Nat -> Option Role} {w w' w'' : World} (h : Keeps o o' w w') (k : Keeps o' o'' w' w'') : Keeps o o'' w w'' :=
 ⟨Nat.le_trans h.size k.size, fun b hb ho => by
  obtain ⟨h1, h2⟩ := h.same b hb ho
  obtain ⟨k1, k2⟩ := k.same b (Nat.lt_of_lt_of_le hb h.size) h1
  exact ⟨k1, k2.trans h2⟩⟩
theorem Keeps.at {o o' : Nat -> Option Role} {w w' : World} (h : Keeps o o' w w') (d : Nat) : Keeps o o' w (w'.at d) := ⟨h.size, h.same⟩
theorem Keeps.alloc (o : Nat -> Option Role) (w : World) (x : Obj) : Keeps o o w (w.alloc x) := ⟨by simp, fun b hb ho => ⟨ho, Ad w x hb⟩⟩
theorem Keeps.set {o : Nat -> Option Role} {w : World} {a : Addr} {r : Role} (v : Value) (h : o a.block = some r) : Keeps o o w (w.setCell a v) :=
 ⟨Nat.le_of_eq (Ai ..).symm, fun b _ ho => ⟨ho, Ac w a b v fun e => by subst e; rw [h] at ho; cases ho⟩⟩
theorem Keeps.chan {o : Nat -> Option Role} {w : World} {c : Nat} {r : Role} (h : o c = some r) (cl : Bool) (k : Nat) : Keeps o o w (w.setChan c 0 #[] cl k k false) :=
 ⟨by simp [World.setChan], fun b _ ho => ⟨ho, heap_setChan_ne w _ _ _ _ _ _ fun e => by subst e; rw [h] at ho; cases ho⟩⟩
def Cf (f : Frame) : Prop := f.defers = [] /\ f.mode = .run /\ ∃ fn, prog.funcs[f.fn]? = some fn
def Fin {X : Type} (inv : Nat -> (Nat -> Option Role) -> X -> (Nat -> List Frame) -> World -> Prop) (out : X -> Nat -> Option Bool) (S : Stile) (k : Nat) (o : Nat -> Option Role) (x : X) (cs : Nat -> List Frame) (i : Nat) (f : Frame) (fs : List Frame) (w : World) (g : Goroutine) (w' : World) : Prop :=
 w.heap.size <= w'.heap.size /\ (∀ b r, o b = some r -> w'.heap[b]? = w.heap[b]?) /\ ∃ l, inv k o x (upd cs i l) w' /\
  ((out x i = none /\ g = G (Frame.enter prog 245 #[.pointer (some ⟨S.p i, 0, none⟩)] .normal) (l ++ f :: fs)) ∨
   (out x i = some false /\ g = G (f.finish (.tuple #[])) fs) ∨
   (out x i = some true /\ ∃ t v, t ≠ 300 /\ g = G (f.raise [{ v := .iface t v, recovered := false }]) fs))
structure Crew (S : Stile) (X : Type) where
 inv : Nat -> (Nat -> Option Role) -> X -> (Nat -> List Frame) -> World -> Prop
 born : X -> Nat -> X
 next : X -> Nat -> X
 out : X -> Nat -> Option Bool
 cnt : X -> Nat
 cntBorn : ∀ x i, cnt (born x i) = cnt x
 cntNext : ∀ x i, cnt (next x i) = cnt x + 1
 keep : ∀ {k : Nat} {o o' : Nat -> Option Role} {x : X} {cs : Nat -> List Frame} {w w' : World}, inv k o x cs w -> Keeps o o' w w' -> inv k o' x cs w'
 bornOut : ∀ x i j, j ≠ i -> out (born x i) j = out x j
 nextOut : ∀ x i j, j ≠ i -> out (next x i) j = out x j
 shape : ∀ {k : Nat} {o : Nat -> Option Role} {x : X} {cs : Nat -> List Frame} {w : World} {i : Nat}, inv k o x cs w -> i < k -> out x i = none -> (∃ c l, cs i = c :: l) /\ ∀ f ∈ cs i, Cf f
 thr : ∀ {k : Nat} {o : Nat -> Option Role} {x : X} {cs : Nat -> List Frame} {w : World} {i : Nat}, inv k o x cs w -> k <= i -> i < S.n -> w.cell? ⟨S.tb, i, none⟩ = some (S.F i)
 sch : ∀ {k : Nat} {o : Nat -> Option Role} {x : X} {cs : Nat -> List Frame} {w : World} {j : Nat} {z : Int}, inv k o x cs w -> S.sl[j]? = some z -> ∃ s so, S.sa = some ⟨s, so, none⟩ /\ w.cell? ⟨s, so + j, none⟩ = some (.int .i64 z)
 start : ∀ {k : Nat} {o : Nat -> Option Role} {x : X} {cs : Nat -> List Frame} {w : World} {V : Nat -> Option Wait} (f : Frame) (fs : List Frame), inv k o x cs w -> k < S.n -> cnt x < 1048576 -> (∀ b, o b = none -> Az V b) -> (∀ b r, o b = some r -> b < w.heap.size) ->
  (∃ fi fn first cap, S.F k = .func (.func fi) first cap /\ prog.funcs[fi]? = some fn /\ (fn.name == "runtime.NumGoroutine") = false /\ fn.body.isNone = false /\
   Walk prog false (DR V) (Fin inv out S (k + 1) o (born x k) cs k f fs w) (G (Frame.enter prog fi (first ++ #[.iface 286 (.pointer (some ⟨S.p k, 0, none⟩))] ++ cap) .normal) (f :: fs)) w) ∨
  (S.F k = .nilFunc /\ out (born x k) k = some false /\ inv (k + 1) o (born x k) (upd cs k []) w)
 go : ∀ {k : Nat} {o : Nat -> Option Role} {x : X} {cs : Nat -> List Frame} {w : World} {V : Nat -> Option Wait} {i : Nat} {c : Frame} {l : List Frame} (f : Frame) (fs : List Frame), inv k o x cs w -> i < k -> out x i = none -> cs i = c :: l -> cnt x < 1048576 -> (∀ b, o b = none -> Az V b) -> (∀ b r, o b = some r -> b < w.heap.size) ->
  Walk prog false (DR V) (Fin inv out S k o (next x i) cs i f fs w) (G (c.finish (.tuple #[])) (l ++ f :: fs)) w
def Bf (D : Dyn) (j : Nat) (l : List Frame) (o : Option Bool) : Dyn := { D with cs := upd D.cs j l, e := upd D.e j o.isSome, b := upd D.b j (o == some true) }
section
variable {S : Stile} {n0 : Nat} {D D' : Dyn} {w w' : World} {j nG : Nat} {mw : Wait} {m : Machine} {T : Trace} {l : List Frame}
theorem Sys.cs (H : Sys S n0 D w) (c : Nat -> List Frame) : Sys S n0 { D with cs := c } w :=
 H.put rfl rfl rfl rfl rfl rfl (Nat.le_refl _) (fun b x _ h => by cases x <;> exact h) fun _ _ => rfl
theorem Kk (H : Sys S n0 D w) (hj : j < S.n) (hm : MW S j mw) {b i : Nat} {r : Role} (hb : D.own b = some r) (hr : (∃ a, r = .nn a) ∨ (r = .p j /\ i = 3)) : Dm (VV S D (some mw) (some j)) ⟨b, i, none⟩ := by
 have hne : ∀ b' x i', D.own b' = some x -> r ≠ x -> (⟨b, i, none⟩ : Addr) ≠ ⟨b', i', none⟩ := fun b' x i' h hx e => H.two hb h hx (congrArg Addr.block e)
 have hoff : r = .p j /\ i = 3 -> ∀ b' i', i' ≠ 3 -> (⟨b, i, none⟩ : Addr) ≠ ⟨b', i', none⟩ := fun h b' i' h' e => h' ((congrArg Addr.off e).symm.trans h.2)
 refine Kw (fun v hv => ?_) fun i' hi' => ?_
 ·cases hv
  refine hm.free ?_ ?_ ?_ ?_
  ·exact hne _ _ _ H.oB (by rcases hr with ⟨a, rfl⟩ | ⟨rfl, _⟩ <;> simp)
  ·exact fun i' => hne _ _ _ H.oS (by rcases hr with ⟨a, rfl⟩ | ⟨rfl, _⟩ <;> simp)
  ·rcases hr with ⟨a, rfl⟩ | h
   ·exact hne _ _ _ (H.op j hj) (by simp)
   ·exact hoff h _ _ (by omega)
  ·rcases hr with ⟨a, rfl⟩ | h
   ·exact hne _ _ _ (H.op j hj) (by simp)
   ·exact hoff h _ _ (by omega)
 ·rcases hr with ⟨a, rfl⟩ | h
  ·exact hne _ _ _ (H.op i' (Nat.lt_of_lt_of_le hi' H.kn)) (by simp)
  ·exact hoff h _ _ (by omega)
theorem Hf (H : Sys S n0 D w) (hj : j < D.k) (hn : 0 < nG) (hm : MW S j mw) (br : Bool) {g : Goroutine} {W : World} (hKW : Keeps D.own D.own w W) (HW : Sys S n0 { D with e := upd D.e j true } W)
  (hW : Walk prog (S.g0 + j == 0) (DR (VV S D (some mw) (some j))) (fun g w' => ∃ bk, g = G ((fr78 (S.p j) (S.r j) (S.F j)).finish (.tuple #[.bool bk, .bool br])) [bornfr] /\ ∃ d, w' = W.at d) g w)
  (A : At prog (VV S D (some mw) (some j)) (S.g0 + j) nG g w m T) (l : List Frame) :
  Relay.Comes prog (fun m' T' => ∃ g₂ w', mw.home g₂ /\ At prog (VV S (Bf D j l (some br)) none none) 0 nG (Go.Conc.served g₂ (recvd true (.agg #[]) false)) w' m' T' /\ Sys S n0 (Bf D j l (some br)) w' /\ Keeps D.own D.own w w') m T := by
 have hjn : j < S.n := Nat.lt_of_lt_of_le hj H.kn
 refine (At.walk (Stop := fun g w' => ∃ bk d, g = rec78 (S.p j) (S.r j) (S.F j) bk br /\ w' = (W.setCell ⟨S.p j, 3, none⟩ (.bool br)).at d) (hW.then ?_) A).bind ?_
 ·rintro g' w' ⟨bk, rfl, d, rfl⟩
  refine Walk.back ?_ d
  refine (run_out (S.p j) (S.r j) (S.F j) bk br (D.b j) W (HW.p3 hjn) (HW.pz hjn 3) (Kk H hjn hm (H.op j hjn) (.inr ⟨rfl, rfl⟩))).mono ?_
  rintro g w' ⟨rfl, d, rfl⟩
  exact ⟨bk, d, rfl, rfl⟩
 ·rintro m' T' ⟨g', w', ⟨bk, d, rfl, rfl⟩, A'⟩
  have hb : (some br == some true) = br := by cases br <;> rfl
  have H2 : Sys S n0 (Bf D j l (some br)) ((W.setCell ⟨S.p j, 3, none⟩ (.bool br)).at d) := by
   have := ((HW.brk hjn br).cs (upd D.cs j l)).at d
   simpa only [Bf, Option.isSome_some, hb] using this
  have hV : VV S (Bf D j l (some br)) (some mw) (some j) = VV S D (some mw) (some j) := Pj rfl fun i _ hx => by
   have : i ≠ j := fun e => hx (e ▸ rfl)
   simp only [Bf, upd_ne _ _ this, and_self]
  rw [<- hV] at A'
  refine (shut_back H2 hj (by simp only [Bf, upd_same, Option.isSome_some]) hn hm A').mono ?_
  rintro m2 T2 ⟨g₂, d2, k, hh, A2⟩
  refine ⟨g₂, _, hh, A2, (H2.at d2).shut (j := j) (by simp only [Bf, upd_same, Option.isSome_some]) (.inr (H.or j hjn)), ?_⟩
  exact hKW.trans (((Keeps.set _ (H.op j hjn)).at d).trans ((Keeps.at (Keeps.refl _ _) d2).trans (Keeps.chan (H.or j hjn) true k)))
end
section
variable {S : Stile} {X : Type} {C : Crew S X} {n0 : Nat} {D D' : Dyn} {w w' : World} {j nG : Nat} {mw : Wait} {m : Machine} {T : Trace} {l : List Frame} {x : X}
theorem fin_back {w0 : World} {g : Goroutine} (H : Sys S n0 D w) (hj : j < D.k) (he : D.e j = false) (hb : D.b j = false) (hn : 0 < nG) (hm : MW S j mw)
  (hF : Fin C.inv C.out S D.k D.own x D.cs j (fr60 (D.N j) (S.F j) (.iface 286 (.pointer (some ⟨S.p j, 0, none⟩)))) [fr78 (S.p j) (S.r j) (S.F j), bornfr] w0 g w)
  (A : At prog (VV S D (some mw) (some j)) (S.g0 + j) nG g w m T) :
  Relay.Comes prog (fun m' T' => ∃ g₂ w' l, mw.home g₂ /\ At prog (VV S (Bf D j l (C.out x j)) none none) 0 nG (Go.Conc.served g₂ (recvd true (.agg #[]) (C.out x j).isNone)) w' m' T' /\ Sys S n0 (Bf D j l (C.out x j)) w' /\ C.inv D.k D.own x (upd D.cs j l) w') m T := by
 have hjn : j < S.n := Nat.lt_of_lt_of_le hj H.kn
 obtain ⟨_, _, l, hI, hF⟩ := hF
 have hN := (Ab (H.good _ _ (H.oN j hj) he) 0)
 have hNz := Av (H.good _ _ (H.oN j hj) he) 0
 have hfN : Dm (VV S D (some mw) (some j)) ⟨D.N j, 0, none⟩ := Kk H hjn hm (H.oN j hj) (.inl ⟨_, rfl⟩)
 rcases hF with ⟨ho, rfl⟩ | ⟨ho, rfl⟩ | ⟨ho, t, v, ht, rfl⟩
 ·refine (At.walk (Stop := fun g w' => g = Fe (S.p j) (S.r j) (l ++ bot S (D.N j) j) /\ ∃ d, w' = w.at d) (step_send _ _ _ _ (H.p1 hjn) (.stop fun d => ⟨rfl, d, rfl⟩)) A).bind ?_
  rintro m' T' ⟨g', w', ⟨rfl, d, rfl⟩, A'⟩
  refine (give_back (H.at d) hj he hn hm A').mono ?_
  rintro m2 T2 ⟨g₂, d2, k, hh, hc, A2⟩
  have hD : Bf D j l (C.out x j) = { D with cs := upd D.cs j l } := by
   rw [ho]; simp only [Bf, Option.isSome_none]
   rw [Pm _ he, show ((none : Option Bool) == some true) = false from rfl, Pm _ hb]
  refine ⟨g₂, _, l, hh, by rw [hD, ho]; exact A2, ?_, C.keep hI ((Keeps.at (Keeps.refl _ _) d).trans ((Keeps.at (Keeps.refl _ _) d2).trans (Keeps.chan (H.or j hjn) false (k + 1))))⟩
  rw [hD]
  exact (((H.at d).at d2).chan hc ⟨j, .inr (H.or j hjn)⟩).cs _
 ·refine (Hf H hj hn hm false (Keeps.set (.bool false) (H.oN j hj)) (H.ride hj (.bool false)) (g := G ((fr60 (D.N j) (S.F j) (.iface 286 (.pointer (some ⟨S.p j, 0, none⟩)))).finish (.tuple #[])) [fr78 (S.p j) (S.r j) (S.F j), bornfr]) ?_ A l).mono ?_
  ·refine (ride_done (D.N j) _ _ _ _ w false hN hNz hfN).mono ?_
   rintro g w' ⟨rfl, d, rfl⟩
   exact ⟨true, rfl, d, rfl⟩
  ·rintro m2 T2 ⟨g₂, w', hh, A2, H2, K2⟩
   rw [ho]
   exact ⟨g₂, w', l, hh, A2, H2, C.keep hI K2⟩
 ·refine (Hf H hj hn hm true ((Keeps.alloc _ w (.cells #[] 300)).trans (Keeps.set (.bool true) (H.oN j hj))) ((H.alloc (.cells #[] 300)).ride hj (.bool true)) (g := G ((fr60 (D.N j) (S.F j) (.iface 286 (.pointer (some ⟨S.p j, 0, none⟩)))).raise [{ v := .iface t v, recovered := false }]) [fr78 (S.p j) (S.r j) (S.F j), bornfr]) ?_ A l).mono ?_
  ·refine (ride_broke (D.N j) _ _ t v ht _ _ w false hN hNz hfN).mono ?_
   rintro g w' ⟨rfl, d, rfl⟩
   exact ⟨false, rfl, d, rfl⟩
  ·rintro m2 T2 ⟨g₂, w', hh, A2, H2, K2⟩
   rw [ho]
   exact ⟨g₂, w', l, hh, A2, H2, C.keep hI K2⟩
end
section
variable {main : Bool} {V : Nat -> Option Wait}
def ops79 : Array Oper := match f204.body with | some (.seq (.region _ ops _) _) => ops | _ => #[]
def rest79 : Code := match f204.body with | some (.seq _ c) => c | _ => .skip
def Og (B p : Nat) : Frame :=
 (base 204).at { tmps := #[.pointer (some ⟨B, 0, none⟩), .pointer (some ⟨p, 0, none⟩), undef, undef, .pointer (some ⟨p, 0, none⟩), undef, undef, undef, undef, undef, undef, undef, undef, undef, undef, undef, undef], defers := [] } [.inRegion ops79 [1], .code rest79]
theorem way79 (B p r : Nat) (cs : List Frame) (v : Wait) (hch : v.ch = r) (hz : v.z = .agg #[]) (hok : v.ok = true) (hf : v.f ⟨p, 1, none⟩ = some (.chan (some r))) (hh : v.home (rec107 p r (Og B p :: cs))) :
  Yonder prog main v (G (Frame.enter prog 204 #[.pointer (some ⟨B, 0, none⟩), .pointer (some ⟨p, 0, none⟩)] .normal) cs) := by
 rw [enter_at _ func204 rfl]
 simp only [f204, Option.getD_some, List.size_toArray, List.length_cons, List.length_nil, Nat.reduceAdd, Nat.reduceSub, Array.replicate_succ, Array.replicate_zero, List.push_toArray, List.append_toArray, List.nil_append, List.cons_append]
 iterate 3 (try (first | refine Yonder.c rfl ?_ | refine Yonder.cR ?_ | refine Dl ?_ | refine Yonder.cT ?_ | (refine Yonder.oq ?_; try walk_nrm)))
 refine Yonder.callE rfl (by rfl) (by decide) rfl func213 (by kernel_rfl) (by rfl) ?_
 walk_nrm
 refine way107 p r _ v hch hz hok hf ?_
 simp only [Og, ops79, rest79, f204] at hh
 exact hh
def Gi (w : World) (B p : Nat) (going : Int) (ok : Bool) : World :=
 if ok then (w.alloc (.cells #[] 68)).setCell ⟨p, 2, none⟩ (.bool false) else ((w.alloc (.cells #[] 68)).setCell ⟨p, 2, none⟩ (.bool true)).setCell ⟨B, 1, none⟩ (.int .i64 (going - 1))
theorem serve79 (B p r : Nat) (c : Frame) (cs : List Frame) (ok e0 : Bool) (going : Int) (w : World) (hg1 : 1 <= going) (hg2 : going <= 64) (hBp : B ≠ p) (h2 : w.cell? ⟨p, 2, none⟩ = some (.bool e0)) (hz2 : w.frozen? ⟨p, 2, none⟩ = false) (hfr : Dm V ⟨p, 2, none⟩)
  (h1 : w.cell? ⟨B, 1, none⟩ = some (.int .i64 going)) (hz1 : w.frozen? ⟨B, 1, none⟩ = false) (hfr1 : Dm V ⟨B, 1, none⟩) :
  Walk prog main (DR V) (fun g w' => g = G (c.finish (.tuple #[])) cs /\ ∃ d, w' = (Gi w B p going ok).at d) (Go.Conc.served (rec107 p r (Og B p :: c :: cs)) (recvd true (.agg #[]) ok)) w := by
 refine (serve107 p r (Og B p) (c :: cs) ok e0 w h2 hz2 hfr).then ?_
 rintro g w' ⟨rfl, d, rfl⟩
 refine Walk.back ?_ d
 have ha := Aj w (.cells #[] 68) h2
 have hb := Aj w (.cells #[] 68) h1
 have hbz := Bp w (.cells #[] 68) h1 hz1
 have hne : (⟨p, 2, none⟩ : Addr) ≠ ⟨B, 1, none⟩ := fun e => by cases e
 have g2 := World.cell?_setCell_same (w.alloc (.cells #[] 68)) ⟨p, 2, none⟩ (.bool (!ok)) ha
 have g1 := (World.cell?_setCell_other (w.alloc (.cells #[] 68)) ⟨p, 2, none⟩ ⟨B, 1, none⟩ (.bool (!ok)) hne).trans hb
 have g1z : ((w.alloc (.cells #[] 68)).setCell ⟨p, 2, none⟩ (.bool (!ok))).frozen? ⟨B, 1, none⟩ = false := by rw [World.frozen?_setCell]; exact hbz
 generalize hW : (w.alloc (.cells #[] 68)).setCell ⟨p, 2, none⟩ (.bool (!ok)) = W at g1 g2 g1z ⊢
 unfold Og
 rw [Frame.finish_at]
 simp only [ops79, rest79, f204]
 walk_nrm
 cases ok with
 | true =>
  simp only [Bool.not_true] at g2 hW
  refine Ae ?_
  exact Walk.ctl rfl (fun w => stepG_leave rfl rfl func204 (results_none rfl _ _ w) (events_results_none rfl _ _)) (.stop fun d => ⟨rfl, d, by rw [<- hW]; rfl⟩)
 | false =>
  simp only [Bool.not_false] at g2 hW
  have hw1 : IntKind.wrap .i64 (going - 1) = going - 1 := by rw [IntKind.wrap_i64]; omega
  refine Ae ?_
  (refine Ws hfr1 g1 ?_; try walk_nrm)
  refine Ae ?_
  exact Walk.ctl rfl (fun w => stepG_leave rfl rfl func204 (results_none rfl _ _ w) (events_results_none rfl _ _)) (.stop fun d => ⟨rfl, d, by rw [<- hW]; rfl⟩)
def Gz : Code := match f206.body with | some (.seq _ (.seq _ c)) => c | _ => .skip
def Pw : Array Oper := match Gz with | .seq (.region _ ops _) _ => ops | _ => #[]
def Jm : Code := match Gz with | .seq _ c => c | _ => .skip
def ops81w : Array Oper := match Jm with | .region _ ops _ => ops | _ => #[]
def Hz (B sb n scap i p ct N : Nat) (old new : Value) (cs : List Frame) : Goroutine :=
 G ((base 206).at { tmps := #[.pointer (some ⟨B, 0, none⟩), .int .i64 i, undef, undef, .int .i64 i, .bool false, .bool false, .int .i64 i, .pointer (some ⟨B, 0, none⟩), .pointer (some ⟨B, 0, none⟩), .pointer (some ⟨B, 0, none⟩), .slice (some ⟨sb, 0, none⟩) n scap, .int .i64 n, .bool false, .bool false, .bool false, .pointer (some ⟨B, 0, none⟩), .pointer (some ⟨B, 0, none⟩), .pointer (some ⟨B, 0, none⟩), .slice (some ⟨sb, 0, none⟩) n scap, .int .i64 i, .pointer (some ⟨sb, i, none⟩), .pointer (some ⟨p, 0, none⟩), .pointer (some ⟨p, 0, none⟩), .pointer (some ⟨p, 2, none⟩), .bool false, .bool false, .bool false, .pointer (some ⟨B, 0, none⟩), .bool false, .bool false, .pointer (some ⟨B, 0, none⟩), .pointer (some ⟨B, 0, none⟩), .pointer (some ⟨B, 0, none⟩), .pointer (some ⟨B, 3, none⟩), old, .int .i64 i, .slice (some ⟨N, 0, none⟩) 1 1, new, .pointer (some ⟨B, 0, none⟩), .pointer (some ⟨B, 3, none⟩), .pointer (some ⟨B, 0, none⟩), .pointer (some ⟨B, 0, none⟩), .pointer (some ⟨B, 0, none⟩), .slice (some ⟨sb, 0, none⟩) n scap, .int .i64 i, .pointer (some ⟨sb, i, none⟩), .pointer (some ⟨p, 0, none⟩), .pointer (some ⟨p, 0, none⟩), .pointer (some ⟨p, 0, none⟩), .chan (some ct), .agg #[], undef, undef, undef, undef, undef, undef, undef, undef, undef], defers := [] } [.inRegion Pw [11], .code Jm]) cs
def fr81 (B sb n scap i p ct N : Nat) (old new : Value) : Frame :=
 (base 206).at { tmps := #[.pointer (some ⟨B, 0, none⟩), .int .i64 i, undef, undef, .int .i64 i, .bool false, .bool false, .int .i64 i, .pointer (some ⟨B, 0, none⟩), .pointer (some ⟨B, 0, none⟩), .pointer (some ⟨B, 0, none⟩), .slice (some ⟨sb, 0, none⟩) n scap, .int .i64 n, .bool false, .bool false, .bool false, .pointer (some ⟨B, 0, none⟩), .pointer (some ⟨B, 0, none⟩), .pointer (some ⟨B, 0, none⟩), .slice (some ⟨sb, 0, none⟩) n scap, .int .i64 i, .pointer (some ⟨sb, i, none⟩), .pointer (some ⟨p, 0, none⟩), .pointer (some ⟨p, 0, none⟩), .pointer (some ⟨p, 2, none⟩), .bool false, .bool false, .bool false, .pointer (some ⟨B, 0, none⟩), .bool false, .bool false, .pointer (some ⟨B, 0, none⟩), .pointer (some ⟨B, 0, none⟩), .pointer (some ⟨B, 0, none⟩), .pointer (some ⟨B, 3, none⟩), old, .int .i64 i, .slice (some ⟨N, 0, none⟩) 1 1, new, .pointer (some ⟨B, 0, none⟩), .pointer (some ⟨B, 3, none⟩), .pointer (some ⟨B, 0, none⟩), .pointer (some ⟨B, 0, none⟩), .pointer (some ⟨B, 0, none⟩), .slice (some ⟨sb, 0, none⟩) n scap, .int .i64 i, .pointer (some ⟨sb, i, none⟩), .pointer (some ⟨p, 0, none⟩), .pointer (some ⟨p, 0, none⟩), .pointer (some ⟨p, 0, none⟩), .chan (some ct), .agg #[], .pointer (some ⟨B, 0, none⟩), .pointer (some ⟨B, 0, none⟩), .pointer (some ⟨B, 0, none⟩), .pointer (some ⟨B, 0, none⟩), .slice (some ⟨sb, 0, none⟩) n scap, .int .i64 i, .pointer (some ⟨sb, i, none⟩), .pointer (some ⟨p, 0, none⟩), undef], defers := [] } [.inRegion ops81w [8]]
theorem way81 (B sb n scap i p ct r N : Nat) (old new : Value) (cs : List Frame) (v : Wait) (hin : i < n) (hch : v.ch = r) (hz : v.z = .agg #[]) (hok : v.ok = true) (hf0 : v.f ⟨B, 0, none⟩ = some (.slice (some ⟨sb, 0, none⟩) n scap)) (hfi : v.f ⟨sb, i, none⟩ = some (.pointer (some ⟨p, 0, none⟩)))
  (hf1 : v.f ⟨p, 1, none⟩ = some (.chan (some r))) (hh : v.home (rec107 p r (Og B p :: fr81 B sb n scap i p ct N old new :: cs))) : Yonder prog main v (Go.Conc.served (Hz B sb n scap i p ct N old new cs) undef) := by
 unfold Hz
 rw [served_fr, Frame.finish_at]
 simp only [Pw, Jm, Gz, f206]
 walk_nrm
 have hi0 : (0 : Int) <= i := by omega
 have hi1 : decide ((i : Int) < 0) = false := by simp
 have hi2 : decide (n <= i) = false := by simp; omega
 iterate 7 (try (first | refine Yonder.c rfl ?_ | refine Yonder.cR ?_ | refine Dl ?_ | refine Yonder.cT ?_ | (refine Yonder.oq ?_; try walk_nrm)))
 co_applyP Gs _ hf0 rfl (by rfl) (by decide) ?krun1 ?kev1 ?krest1; (case krun1 => (intro w hw K hK; have hcx := hw _ _ hf0; go_simp; exact hK)); (case kev1 => (intro w hw e he; have hcx := hw _ _ hf0; simp [go_sem, *] at he; exact he)); try walk_nrm
 iterate 2 (try (first | refine Yonder.c rfl ?_ | refine Yonder.cR ?_ | refine Dl ?_ | refine Yonder.cT ?_ | (refine Yonder.oq ?_; try walk_nrm)))
 co_applyP Gs _ hfi rfl (by rfl) (by decide) ?krun2 ?kev2 ?krest2; (case krun2 => (intro w hw K hK; have hcx := hw _ _ hfi; go_simp; exact hK)); (case kev2 => (intro w hw e he; have hcx := hw _ _ hfi; simp [go_sem, *] at he; exact he)); try walk_nrm
 refine Yonder.callE rfl (by rfl) (by decide) rfl func204 (by kernel_rfl) (by rfl) ?_
 walk_nrm
 refine way79 B p r _ v hch hz hok hf1 ?_
 simp only [fr81, ops81w, Jm, Gz, f206] at hh
 exact hh
theorem serve81 (B sb n scap i p ct r N : Nat) (old new : Value) (c : Frame) (cs : List Frame) (ok e0 : Bool) (going : Int) (w : World) (hg1 : 1 <= going) (hg2 : going <= 64) (hBp : B ≠ p) (h2 : w.cell? ⟨p, 2, none⟩ = some (.bool e0)) (hz2 : w.frozen? ⟨p, 2, none⟩ = false) (hfr : Dm V ⟨p, 2, none⟩)
  (h1 : w.cell? ⟨B, 1, none⟩ = some (.int .i64 going)) (hz1 : w.frozen? ⟨B, 1, none⟩ = false) (hfr1 : Dm V ⟨B, 1, none⟩) :
  Walk prog main (DR V) (fun g w' => g = G (c.finish (.tuple #[])) cs /\ ∃ d, w' = (Gi w B p going ok).at d) (Go.Conc.served (rec107 p r (Og B p :: fr81 B sb n scap i p ct N old new :: c :: cs)) (recvd true (.agg #[]) ok)) w := by
 refine (serve79 B p r (fr81 B sb n scap i p ct N old new) (c :: cs) ok e0 going w hg1 hg2 hBp h2 hz2 hfr h1 hz1 hfr1).then ?_
 rintro g w' ⟨rfl, d, rfl⟩
 refine Walk.back ?_ d
 unfold fr81
 rw [Frame.finish_at]
 simp only [ops81w, Jm, Gz, f206]
 walk_nrm
 refine Ae ?_
 exact Walk.ctl rfl (fun w => stepG_leave rfl rfl func206 (results_none rfl _ _ w) (events_results_none rfl _ _)) (.stop fun d => ⟨rfl, d, rfl⟩)
end
end
end Go.Proofs.Ytflcclneedldoaa
