/- Part 5. -/
import Derived.Test.YtgfajibjedfkdaaJK2
import Derived.Test.YtgfajibjedfkdaaJK3
import Derived.Test.YtgfajibjedfkdaaJK4
import Derived.Test.YtgfajibjedfkdaaProg
import Derived.KernelRfl
import Derived.Handy
set_option linter.unusedSimpArgs false
set_option linter.unusedVariables false
set_option maxHeartbeats 8000000
set_option maxRecDepth 100000
namespace Go.Proofs.Ytgfajibjedfkdaa
open Go.Conc Go.RowKit Go.Relay
open Go.ConcN (upd upd_ne upd_same)
section
variable {main : Bool} {V : Nat → Option Wait}
theorem ride_broke (N : Nat) (F S : Value) (t : TypeId) (v : Value) (ht : t ≠ 247) (c : Frame) (cs : List Frame) (w : World) (x : Bool) (hN : w.cell? ⟨N, 0, none⟩ = some (.bool x)) (hz : w.frozen? ⟨N, 0, none⟩ = false) (hfr : Free V ⟨N, 0, none⟩) :
    Walk Try.prog main (DR V) (fun g w' => g = G (c.finish (.tuple #[.bool false, .bool true])) cs ∧ ∃ d, w' = ((w.alloc (.cells #[] 247)).setCell ⟨N, 0, none⟩ (.bool true)).at d) (G ((fr60 N F S).raise [{ v := .iface t v, recovered := false }]) (c :: cs)) w := by
  obtain ⟨ms, h20⟩ := und20
  have hn1 := fun w => run_neq_iface (P := Try.prog) (w := w) 20 t v h20
  have hn2 := fun w es => ev_neq_iface (P := Try.prog) (w := w) 20 t v es h20
  unfold fr60
  rw [Frame.raise_at]
  simp only [ops60, rest60, todo60, Try.f148, Option.getD_some]
  refine Walk.ctl rfl (fun w => stepG_deferred (d := def60 N) (ds := []) (by simp [Frame.at]) rfl rfl Try.func152 (by kernel_rfl) (by rfl)) ?_
  simp only [def60, List.append_toArray, List.nil_append]
  rw [enter_atD _ Try.func152 rfl]
  simp only [Try.f152, ez, Nat.reduceAdd, Nat.reduceSub]
  repeat (first | refine Walk.cx ?_ | refine Walk.cR ?_ | (refine Walk.oq ?_; try walk_nrm) | (refine Walk.un ?_; walk_nrm))
  refine Walk.ctl rfl (fun w => stepG_recover rfl (by rfl) rfl rfl rfl) ?_
  walk_nrm
  have h147 := fun w => run_assert_other (P := Try.prog) (w := w) 247 t 20 v (.agg #[]) (u := .struct #[]) (by kernel_rfl) (fun _ h => by cases h) ht (by kernel_rfl)
  have e147 := fun w es => ev_assert_other (P := Try.prog) (w := w) 247 t 20 v es (u := .struct #[]) (by kernel_rfl) (fun _ h => by cases h) ht (by kernel_rfl)
  repeat (first | refine Walk.cx ?_ | refine Walk.cR ?_ | (refine Walk.oq ?_; try walk_nrm) | (refine Walk.un ?_; walk_nrm))
  (refine Walk.oa ?_; try walk_nrm)
  have ha := cell_alloc w (.cells #[] 247) hN
  have haz := frozen_alloc w (.cells #[] 247) hN hz
  repeat (first | refine Walk.cx ?_ | refine Walk.cR ?_ | (refine Walk.oq ?_; try walk_nrm) | (refine Walk.un ?_; walk_nrm))
  (refine Walk.os hfr ha ?_; try walk_nrm)
  have hN' := World.cell?_setCell_same (w.alloc (.cells #[] 247)) ⟨N, 0, none⟩ (.bool true) ha
  repeat (first | refine Walk.cx ?_ | refine Walk.cR ?_ | (refine Walk.oq ?_; try walk_nrm) | (refine Walk.un ?_; walk_nrm))
  refine Walk.ctl rfl (fun w => stepG_leaveRecovered rfl rfl Try.func152 (results_none rfl _ _ w) (events_results_none rfl _ _) rfl) ?_
  exact leave60 rfl rfl rfl rfl rfl rfl hN'
end
section
inductive Role where
  | tB
  | ss
  | ord
  | p (i : Nat)
  | t (i : Nat)
  | r (i : Nat)
  | nn (i : Nat)
structure Stile where
  g0 : Nat
  n : Nat
  B : Nat
  sb : Nat
  scap : Nat
  tb : Nat
  tcap : Nat
  most : Int
  p : Nat → Nat
  t : Nat → Nat
  r : Nat → Nat
  F : Nat → Value
  sa : Option Addr
  sc : Nat
  sl : List Int
structure Dyn where
  k : Nat
  e : Nat → Bool
  f : Nat → Bool
  b : Nat → Bool
  N : Nat → Nat
  cs : Nat → List Frame
  own : Nat → Option Role
  ord : List Nat
  oa : Option Addr
  oc : Nat
  gg : Nat
def going (n : Nat) (f : Nat → Bool) : Nat := (List.range n).countP (fun i => !f i)
def Good (S : Stile) (D : Dyn) : Role → Option Obj → Prop
  | .tB, o => ∃ arr ty fr, o = some (.cells arr ty fr) ∧ arr[0]? = some (.slice (some ⟨S.sb, 0, none⟩) S.n S.scap) ∧ arr[1]? = some (.int .i64 D.gg) ∧ arr[2]? = some (.int .i64 S.most) ∧ arr[3]? = some (.slice D.oa D.ord.length D.oc) ∧ ∀ i, i = 1 ∨ i = 3 → (decide (fr.1 ≤ i) && decide (i < fr.2)) = false
  | .ss, o => ∃ arr ty fr, o = some (.cells arr ty fr) ∧ ∀ i, i < S.n → arr[i]? = some (.pointer (some ⟨S.p i, 0, none⟩))
  | .ord, _ => True
  | .p i, o => o = some (.cells #[.chan (some (S.t i)), .chan (some (S.r i)), .bool (D.f i), .bool (D.b i)] 236)
  | .t i, o => D.e i = false → ∃ k, o = some (.chan 0 #[] false k k false)
  | .r i, o => D.e i = false → ∃ k, o = some (.chan 0 #[] false k k false)
  | .nn i, o => D.e i = false → o = some (.cells #[.bool false] 4)
def Place (S : Stile) (D : Dyn) : Role → Nat → Prop
  | .tB, b => b = S.B
  | .ss, b => b = S.sb
  | .ord, _ => True
  | .p i, b => i < S.n ∧ b = S.p i
  | .t i, b => i < S.n ∧ b = S.t i
  | .r i, b => i < S.n ∧ b = S.r i
  | .nn i, b => i < D.k ∧ b = D.N i
structure Sys (S : Stile) (n0 : Nat) (D : Dyn) (w : World) : Prop where
  good : ∀ b x, D.own b = some x → Good S D x (w.heap[b]?)
  lt : ∀ b x, D.own b = some x → n0 ≤ b ∧ b < w.heap.size
  ids : ∀ b x, D.own b = some x → Place S D x b
  oB : D.own S.B = some .tB
  oS : D.own S.sb = some .ss
  op : ∀ i, i < S.n → D.own (S.p i) = some (.p i)
  ot : ∀ i, i < S.n → D.own (S.t i) = some (.t i)
  or : ∀ i, i < S.n → D.own (S.r i) = some (.r i)
  oN : ∀ i, i < D.k → D.own (D.N i) = some (.nn i)
  oo : ∀ b, (Value.slice D.oa D.ord.length D.oc).ownBlock = some b → D.own b = some .ord
  row : w.ownsRow n0 3 1 (.slice D.oa D.ord.length D.oc) D.ord.length (D.ord.map fun i => .int .i64 (i : Nat))
  n64 : S.n ≤ 64
  kn : D.k ≤ S.n
  hg0 : 1 ≤ S.g0
section
variable {S : Stile} {n0 : Nat} {D D' : Dyn} {w w' : World}
theorem cell_of {w : World} {b : Nat} {arr : Array Value} {ty : TypeId} {fr : Nat × Nat} (h : w.heap[b]? = some (.cells arr ty fr)) (i : Nat) : w.cell? ⟨b, i, none⟩ = arr[i]? := by simp [World.cell?, h]
theorem frozen_of {w : World} {b : Nat} {arr : Array Value} {ty : TypeId} (h : w.heap[b]? = some (.cells arr ty (0, 0))) (i : Nat) : w.frozen? ⟨b, i, none⟩ = false := by simp [World.frozen?, h]
theorem Sys.tB (H : Sys S n0 D w) : w.cell? ⟨S.B, 0, none⟩ = some (.slice (some ⟨S.sb, 0, none⟩) S.n S.scap) ∧ w.cell? ⟨S.B, 1, none⟩ = some (.int .i64 D.gg) ∧ w.cell? ⟨S.B, 2, none⟩ = some (.int .i64 S.most) ∧
    w.cell? ⟨S.B, 3, none⟩ = some (.slice D.oa D.ord.length D.oc) ∧ w.frozen? ⟨S.B, 1, none⟩ = false ∧ w.frozen? ⟨S.B, 3, none⟩ = false := by
  obtain ⟨arr, ty, fr, h, h0, h1, h2, h3, hz⟩ := H.good _ _ H.oB
  exact ⟨(cell_of h 0).trans h0, (cell_of h 1).trans h1, (cell_of h 2).trans h2, (cell_of h 3).trans h3, by simp only [World.frozen?, h]; exact hz 1 (.inl rfl), by simp only [World.frozen?, h]; exact hz 3 (.inr rfl)⟩
theorem Sys.ss (H : Sys S n0 D w) {i : Nat} (hi : i < S.n) : w.cell? ⟨S.sb, i, none⟩ = some (.pointer (some ⟨S.p i, 0, none⟩)) := by
  obtain ⟨arr, ty, fr, h, h0⟩ := H.good _ _ H.oS
  exact (cell_of h i).trans (h0 i hi)
theorem Sys.pp (H : Sys S n0 D w) {i : Nat} (hi : i < S.n) : w.heap[S.p i]? = some (.cells #[.chan (some (S.t i)), .chan (some (S.r i)), .bool (D.f i), .bool (D.b i)] 236) := H.good _ _ (H.op i hi)
theorem Sys.p0 (H : Sys S n0 D w) {i : Nat} (hi : i < S.n) : w.cell? ⟨S.p i, 0, none⟩ = some (.chan (some (S.t i))) := (cell_of (H.pp hi) 0).trans rfl
theorem Sys.p1 (H : Sys S n0 D w) {i : Nat} (hi : i < S.n) : w.cell? ⟨S.p i, 1, none⟩ = some (.chan (some (S.r i))) := (cell_of (H.pp hi) 1).trans rfl
theorem Sys.p2 (H : Sys S n0 D w) {i : Nat} (hi : i < S.n) : w.cell? ⟨S.p i, 2, none⟩ = some (.bool (D.f i)) := (cell_of (H.pp hi) 2).trans rfl
theorem Sys.p3 (H : Sys S n0 D w) {i : Nat} (hi : i < S.n) : w.cell? ⟨S.p i, 3, none⟩ = some (.bool (D.b i)) := (cell_of (H.pp hi) 3).trans rfl
theorem Sys.pz (H : Sys S n0 D w) {i : Nat} (hi : i < S.n) (j : Nat) : w.frozen? ⟨S.p i, j, none⟩ = false := frozen_of (H.pp hi) j
theorem Sys.two (_ : Sys S n0 D w) {b b' : Nat} {x x' : Role} (h : D.own b = some x) (h' : D.own b' = some x') (hx : x ≠ x') : b ≠ b' := by
  rintro rfl
  rw [h] at h'
  exact hx (Option.some.inj h')
theorem row_same {w w' : World} {base : Nat} {e : TypeId} {size : Nat} {v : Value} {n : Nat} {xs : List Value} (h : w.ownsRow base e size v n xs) (hb : ∀ g, v.ownBlock = some g → w'.heap[g]? = w.heap[g]?) : w'.ownsRow base e size v n xs := by
  refine ⟨h.1, ?_⟩
  rcases h.2 with z | ⟨g, cap, cur, rfl, h1, h2, h3⟩
  · exact .inl z
  · exact .inr ⟨g, cap, cur, rfl, h1, (hb g rfl).trans h2, h3⟩
theorem Sys.put (H : Sys S n0 D w) (hown : D'.own = D.own) (hk : D'.k = D.k) (hN : D'.N = D.N) (ho : D'.ord = D.ord) (hoa : D'.oa = D.oa) (hoc : D'.oc = D.oc) (hs : w.heap.size ≤ w'.heap.size)
    (hg : ∀ b x, D.own b = some x → Good S D x (w.heap[b]?) → Good S D' x (w'.heap[b]?)) (hr : ∀ b, D.own b = some .ord → w'.heap[b]? = w.heap[b]?) : Sys S n0 D' w' := by
  refine ⟨fun b x hx => hg b x (hown ▸ hx) (H.good b x (hown ▸ hx)), fun b x hx => ?_, fun b x hx => ?_, hown ▸ H.oB, hown ▸ H.oS, fun i hi => hown ▸ H.op i hi, fun i hi => hown ▸ H.ot i hi, fun i hi => hown ▸ H.or i hi, fun i hi => ?_, fun b hb => ?_, ?_, H.n64, hk ▸ H.kn, H.hg0⟩
  · have := H.lt b x (hown ▸ hx); omega
  · have h := H.ids b x (hown ▸ hx)
    revert h
    cases x <;> simp only [Place, hk, hN, imp_self]
  · rw [hown, hN]; exact H.oN i (hk ▸ hi)
  · rw [hown]; rw [hoa, ho, hoc] at hb; exact H.oo b hb
  · rw [hoa, ho, hoc]
    exact row_same H.row fun g hg' => hr g (H.oo g hg')
theorem Sys.same (H : Sys S n0 D w) (hs : w.heap.size ≤ w'.heap.size) (hb : ∀ b x, D.own b = some x → w'.heap[b]? = w.heap[b]?) : Sys S n0 D w' :=
  H.put rfl rfl rfl rfl rfl rfl hs (fun b x hx h => by rw [hb b x hx]; exact h) fun b hb' => hb b _ hb'
theorem Good.of_same {x : Role} {o : Option Obj} (h : Good S D x o) (hf : ∀ i, x = .p i → D'.f i = D.f i ∧ D'.b i = D.b i) (hB : x = .tB → D'.gg = D.gg ∧ D'.oa = D.oa ∧ D'.ord.length = D.ord.length ∧ D'.oc = D.oc) (he : ∀ i, x = .t i ∨ x = .r i ∨ x = .nn i → D'.e i = false → D.e i = false) : Good S D' x o := by
  cases x with
  | tB => obtain ⟨h1, h2, h3, h4⟩ := hB rfl; simpa only [Good, h1, h2, h3, h4] using h
  | ss => exact h
  | ord => trivial
  | p i => obtain ⟨h1, h2⟩ := hf i rfl; simpa only [Good, h1, h2] using h
  | t i => exact fun z => h (he i (.inl rfl) z)
  | r i => exact fun z => h (he i (.inr (.inl rfl)) z)
  | nn i => exact fun z => h (he i (.inr (.inr rfl)) z)
theorem Sys.chan (H : Sys S n0 D w) {c k k' : Nat} (hc : w.heap[c]? = some (.chan 0 #[] false k k false)) (hcr : ∃ i, D.own c = some (.t i) ∨ D.own c = some (.r i)) : Sys S n0 D (w.setChan c 0 #[] false k' k' false) := by
  have hsz : (w.setChan c 0 #[] false k' k' false).heap.size = w.heap.size := by simp [World.setChan]
  refine H.put rfl rfl rfl rfl rfl rfl (Nat.le_of_eq hsz.symm) (fun b x hx h => ?_) fun b hb => ?_
  · by_cases e : c = b
    · subst e
      rw [heap_setChan_self w hc]
      obtain ⟨i, z | z⟩ := hcr <;> (rw [hx] at z; cases z; exact fun _ => ⟨k', rfl⟩)
    · rw [heap_setChan_ne w _ _ _ _ _ _ e]; exact h
  · refine heap_setChan_ne w _ _ _ _ _ _ fun e => ?_
    subst e
    obtain ⟨i, z | z⟩ := hcr <;> (rw [hb] at z; cases z)
theorem Sys.shut (H : Sys S n0 D w) {j c k : Nat} (he : D.e j = true) (hcr : D.own c = some (.t j) ∨ D.own c = some (.r j)) : Sys S n0 D (w.setChan c 0 #[] true k k false) := by
  have hsz : (w.setChan c 0 #[] true k k false).heap.size = w.heap.size := by simp [World.setChan]
  refine H.put rfl rfl rfl rfl rfl rfl (Nat.le_of_eq hsz.symm) (fun b x hx h => ?_) fun b hb => ?_
  · by_cases e : c = b
    · subst e
      rcases hcr with z | z <;> (rw [hx] at z; cases z; exact fun z => by rw [he] at z; cases z)
    · rw [heap_setChan_ne w _ _ _ _ _ _ e]; exact h
  · refine heap_setChan_ne w _ _ _ _ _ _ fun e => ?_
    subst e
    rcases hcr with z | z <;> (rw [hb] at z; cases z)
theorem Sys.at (H : Sys S n0 D w) (d : Nat) : Sys S n0 D (w.at d) := H.same (Nat.le_refl _) fun _ _ _ => rfl
theorem heap_set_other (w : World) (a : Addr) (k : Nat) (v : Value) (h : k ≠ a.block) : (w.setCell a v).heap[k]? = w.heap[k]? := by
  simp only [World.setCell]
  rw [Array.getElem?_modify, if_neg (Ne.symm h)]
theorem heap_set_self (w : World) {b i : Nat} {arr : Array Value} {ty : TypeId} {fr : Nat × Nat} (v : Value) (h : w.heap[b]? = some (.cells arr ty fr)) : (w.setCell ⟨b, i, none⟩ v).heap[b]? = some (.cells (arr.setIfInBounds i v) ty fr) := by
  simp only [World.setCell]
  rw [Array.getElem?_modify, if_pos rfl, h]
  rfl
theorem size_set (w : World) (a : Addr) (v : Value) : (w.setCell a v).heap.size = w.heap.size := by simp [World.setCell]
theorem heap_new_lt (w : World) (o : Obj) {b : Nat} (h : b < w.heap.size) : (w.alloc o).heap[b]? = w.heap[b]? := by
  simp only [World.alloc]
  rw [Array.getElem?_push, if_neg (by omega)]
theorem Sys.hire (H : Sys S n0 D w) (hk : D.k < S.n) : Sys S n0 { D with k := D.k + 1, N := upd D.N D.k w.heap.size, own := upd D.own w.heap.size (some (.nn D.k)) } (w.alloc (.cells #[.bool false] 4)) := by
  have hsz : (w.alloc (.cells #[.bool false] 4)).heap.size = w.heap.size + 1 := by simp
  have hfresh : ∀ b x, D.own b = some x → b ≠ w.heap.size := fun b x hx => by have := (H.lt b x hx).2; omega
  have hold : ∀ b x, D.own b = some x → upd D.own w.heap.size (some (.nn D.k)) b = some x := fun b x hx => by rw [upd_ne _ _ (hfresh b x hx)]; exact hx
  have hnew : ∀ b x, upd D.own w.heap.size (some (.nn D.k)) b = some x → (b = w.heap.size ∧ x = .nn D.k) ∨ (b ≠ w.heap.size ∧ D.own b = some x) := fun b x hx => by
    by_cases e : b = w.heap.size
    · subst e; rw [upd_same] at hx; exact .inl ⟨rfl, (Option.some.inj hx).symm⟩
    · rw [upd_ne _ _ e] at hx; exact .inr ⟨e, hx⟩
  have hn0 : n0 ≤ w.heap.size := Nat.le_of_lt (Nat.lt_of_le_of_lt (H.lt _ _ H.oB).1 (H.lt _ _ H.oB).2)
  refine ⟨fun b x hx => ?_, fun b x hx => ?_, fun b x hx => ?_, hold _ _ H.oB, hold _ _ H.oS, fun i hi => hold _ _ (H.op i hi), fun i hi => hold _ _ (H.ot i hi), fun i hi => hold _ _ (H.or i hi), fun i hi => ?_, fun b e => hold _ _ (H.oo b e), row_same H.row fun g hg => heap_new_lt w _ (H.lt g _ (H.oo g hg)).2, H.n64, hk, H.hg0⟩
  · rcases hnew b x hx with ⟨rfl, rfl⟩ | ⟨hne, hx⟩
    · exact fun _ => heap_alloc_new w _
    · rw [heap_new_lt w _ (H.lt b x hx).2]
      have h := H.good b x hx
      cases x <;> exact h
  · rcases hnew b x hx with ⟨rfl, rfl⟩ | ⟨hne, hx⟩
    · omega
    · have := H.lt b x hx; omega
  · rcases hnew b x hx with ⟨rfl, rfl⟩ | ⟨hne, hx⟩
    · exact ⟨Nat.lt_succ_self _, (upd_same _ _ _).symm⟩
    · have h := H.ids b x hx
      cases x with
      | nn i =>
        have h1 : i < D.k := h.1
        exact ⟨Nat.lt_succ_of_lt h1, h.2.trans (upd_ne _ _ (by omega)).symm⟩
      | _ => exact h
  · by_cases e : i = D.k
    · subst e; simp only [upd_same]
    · simp only [upd_ne _ _ e]
      exact hold _ _ (H.oN i (by simp only at hi; omega))
theorem Sys.alloc (H : Sys S n0 D w) (o : Obj) : Sys S n0 D (w.alloc o) := H.same (by simp) fun b x hx => heap_new_lt w o (H.lt b x hx).2
theorem Sys.brk (H : Sys S n0 D w) {j : Nat} (hj : j < S.n) (x : Bool) : Sys S n0 { D with b := upd D.b j x } (w.setCell ⟨S.p j, 3, none⟩ (.bool x)) := by
  refine H.put rfl rfl rfl rfl rfl rfl (Nat.le_of_eq (size_set ..).symm) (fun b y hy h => ?_) fun b hb => ?_
  · by_cases e : b = S.p j
    · subst e
      rw [H.op j hj] at hy
      cases hy
      rw [heap_set_self w _ (H.pp hj)]
      simp [Good, upd_same]
    · rw [heap_set_other w _ b _ e]
      refine h.of_same (fun i hi => ⟨rfl, upd_ne _ _ fun ei => e ?_⟩) (fun _ => ⟨rfl, rfl, rfl, rfl⟩) fun i _ z => z
      subst hi; subst ei; exact (H.ids b _ hy).2
  · exact heap_set_other w _ b _ (H.two hb (H.op j hj) (by simp))
theorem Sys.ride (H : Sys S n0 D w) {j : Nat} (hj : j < D.k) (v : Value) : Sys S n0 { D with e := upd D.e j true } (w.setCell ⟨D.N j, 0, none⟩ v) := by
  refine H.put rfl rfl rfl rfl rfl rfl (Nat.le_of_eq (size_set ..).symm) (fun b y hy h => ?_) fun b hb => heap_set_other w _ b _ (H.two hb (H.oN j hj) (by simp))
  by_cases e : b = D.N j
  · subst e
    rw [H.oN j hj] at hy
    cases hy
    exact fun z => by simp only [upd_same] at z; cases z
  · rw [heap_set_other w _ b _ e]
    refine h.of_same (fun i _ => ⟨rfl, rfl⟩) (fun _ => ⟨rfl, rfl, rfl, rfl⟩) fun i _ z => ?_
    by_cases ei : i = j
    · subst ei; simp only [upd_same] at z; cases z
    · simpa only [upd_ne _ _ ei] using z
end
end
section
variable {main : Bool} {V : Nat → Option Wait}
noncomputable def ops139 : Array Oper := match Try.f181.body with | some (.seq (.region _ ops _) _) => ops | _ => #[]
noncomputable def rest139 : Code := match Try.f181.body with | some (.seq _ c) => c | _ => .skip
noncomputable def ops139r : Array Oper := match rest139 with | .seq (.region _ ops _) _ => ops | _ => #[]
noncomputable def rest139r : Code := match rest139 with | .seq _ c => c | _ => .skip
noncomputable def rec139s (p r : Nat) (cs : List Frame) : Goroutine :=
  G ((base 181).at { tmps := #[.pointer (some ⟨p, 0, none⟩), undef, undef, undef, .pointer (some ⟨p, 0, none⟩), .pointer (some ⟨p, 0, none⟩), .pointer (some ⟨p, 1, none⟩), .chan (some r), .agg #[], undef, undef, undef, undef, undef, undef, undef, undef, undef, undef, undef, undef], defers := [] } [.inRegion ops139 [5], .code rest139]) cs
noncomputable def rec139r (p r t : Nat) (cs : List Frame) : Goroutine :=
  G ((base 181).at { tmps := #[.pointer (some ⟨p, 0, none⟩), undef, undef, undef, .pointer (some ⟨p, 0, none⟩), .pointer (some ⟨p, 0, none⟩), .pointer (some ⟨p, 1, none⟩), .chan (some r), .agg #[], undef, .pointer (some ⟨p, 0, none⟩), .pointer (some ⟨p, 0, none⟩), .pointer (some ⟨p, 0, none⟩), .chan (some t), undef, undef, undef, undef, undef, undef, undef], defers := [] } [.inRegion ops139r [4, 5, 6, 7, 8, 9, 10], .code rest139r]) cs
theorem step_send {Stop : Goroutine → World → Prop} (p r : Nat) (cs : List Frame) (w : World) (h1 : w.cell? ⟨p, 1, none⟩ = some (.chan (some r))) (hk : Walk Try.prog main (DR V) Stop (rec139s p r cs) w) :
    Walk Try.prog main (DR V) Stop (G (Frame.enter Try.prog 181 #[.pointer (some ⟨p, 0, none⟩)] .normal) cs) w := by
  rw [enter_at _ Try.func181 rfl]
  unfold rec139s at hk
  simp only [ops139, rest139, Try.f181] at hk
  simp only [Try.f181, Option.getD_some, List.size_toArray, List.length_cons, List.length_nil, Nat.reduceAdd, Nat.reduceSub, Array.replicate_succ, Array.replicate_zero, List.push_toArray, List.append_toArray, List.nil_append, List.cons_append]
  repeat (first | refine Walk.cx ?_ | refine Walk.cR ?_ | (refine Walk.oq ?_; try walk_nrm) | (refine Walk.un ?_; walk_nrm))
  exact hk
theorem send139 (p r : Nat) (cs : List Frame) (w : World) : ∃ z' es, (∀ e ∈ es, EvR V e) ∧ ∀ d, stepG Try.prog main (rec139s p r cs) (w.at d) = .comm (rec139s p r cs) #[scase r (.agg #[]) z'] true .send (w.at d) es := by
  refine ⟨.tuple #[], #[], by simp, fun d => ?_⟩
  unfold rec139s
  simp only [ops139, rest139, Try.f181]
  rw [stepG_comm (cases := #[scase r (.agg #[]) (.tuple #[])]) (blocking := true) (shape := .send) (w' := w.at d) rfl (by rfl) (by decide) (by simp [execOp, scase, Act.eval]), listed_none (by simp [go_sem, execOp, Act.eval])]
theorem way139 (p r t : Nat) (cs : List Frame) (v : Wait) (hch : v.ch = t) (hz : v.z = .agg #[]) (hok : v.ok = true) (hf : v.f ⟨p, 0, none⟩ = some (.chan (some t))) (hh : v.home (rec139r p r t cs)) : Yonder Try.prog main v (Go.Conc.served (rec139s p r cs) undef) := by
  unfold rec139r at hh
  simp only [ops139r, rest139r, rest139, Try.f181] at hh
  unfold rec139s
  rw [served_fr, Frame.finish_at]
  simp only [ops139, rest139, Try.f181]
  walk_nrm
  iterate 6 (try (first | refine Yonder.c rfl ?_ | refine Yonder.cR ?_ | refine Yonder.cE ?_ | refine Yonder.cT ?_ | (refine Yonder.oq ?_; try walk_nrm)))
  co_applyP Yonder.ld _ hf rfl (by rfl) (by decide) ?krun1 ?kev1 ?krest1; (case krun1 => (intro w hw K hK; have hcx := hw _ _ hf; go_simp; exact hK)); (case kev1 => (intro w hw e he; have hcx := hw _ _ hf; simp [go_sem, *] at he; exact he)); try walk_nrm
  exact Yonder.there rfl (by rfl) (by decide) (fun w => by simp [go_sem, execOp, rcase, Act.eval, hch, hz, hok]) (fun w => by simp [go_sem, execOp, Act.eval]) hh
theorem serve139 (p r t : Nat) (c : Frame) (cs : List Frame) (w : World) :
    Walk Try.prog main (DR V) (fun g w' => g = G (c.finish (.tuple #[])) cs ∧ ∃ d, w' = (w.alloc (.cells #[] 46)).at d) (Go.Conc.served (rec139r p r t (c :: cs)) (recvd true (.agg #[]) true)) w := by
  unfold rec139r
  rw [served_fr, Frame.finish_at]
  simp only [ops139r, rest139r, rest139, Try.f181, recvd, if_true]
  walk_nrm
  repeat (first | refine Walk.cx ?_ | refine Walk.cR ?_ | (refine Walk.oq ?_; try walk_nrm) | (refine Walk.un ?_; walk_nrm))
  (refine Walk.oa ?_; try walk_nrm)
  repeat (first | refine Walk.cx ?_ | refine Walk.cR ?_ | (refine Walk.oq ?_; try walk_nrm) | (refine Walk.un ?_; walk_nrm))
  exact Walk.ctl rfl (fun w => stepG_leave rfl rfl Try.func181 (results_none rfl _ _ w) (events_results_none rfl _ _)) (.stop fun d => ⟨rfl, d, rfl⟩)
noncomputable def rec139p (p r t N : Nat) (cs : List Frame) : Goroutine :=
  G { (base 181).at { tmps := #[.pointer (some ⟨p, 0, none⟩), undef, .pointer (some ⟨N, 0, none⟩), .bool false, .pointer (some ⟨p, 0, none⟩), .pointer (some ⟨p, 0, none⟩), .pointer (some ⟨p, 1, none⟩), .chan (some r), .agg #[], .tuple #[.agg #[], .bool false], .pointer (some ⟨p, 0, none⟩), .pointer (some ⟨p, 0, none⟩), .pointer (some ⟨p, 0, none⟩), .chan (some t), .tuple #[.agg #[], .bool false], .agg #[], .bool false, .bool false, .bool true, .agg #[], .iface 247 (.agg #[])], defers := [] }
    [.inRegion (match rest139r with | .seq _ (.cond _ (.region _ ops _) _) => ops | _ => #[]) [2]] with mode := .panicking [{ v := .iface 247 (.agg #[]), recovered := false }] } cs
theorem run_iface147 (w : World) : (Instr.makeInterface 247 (.agg #[])).run Try.prog w = .ok (.iface 247 (.agg #[])) w := by
  simp [Instr.makeInterface, run_underlying (show Try.prog.underlying 247 = some (.struct #[]) by kernel_rfl)]
theorem ev_iface147 (w : World) (es : Array Event) : (Instr.makeInterface 247 (.agg #[])).events Try.prog w es = es := by
  simp [Instr.makeInterface, run_underlying (show Try.prog.underlying 247 = some (.struct #[]) by kernel_rfl)]
theorem stop139 (p r t : Nat) (cs : List Frame) (w : World) :
    Walk Try.prog main (DR V) (fun g w' => g = rec139p p r t w.heap.size cs ∧ ∃ d, w' = (w.alloc (.cells #[] 46)).at d) (Go.Conc.served (rec139r p r t cs) (recvd true (.agg #[]) false)) w := by
  unfold rec139r
  rw [served_fr, Frame.finish_at]
  simp only [ops139r, rest139r, rest139, Try.f181, recvd, if_true]
  walk_nrm
  repeat (first | refine Walk.cx ?_ | refine Walk.cR ?_ | (refine Walk.oq ?_; try walk_nrm) | (refine Walk.un ?_; walk_nrm))
  (refine Walk.oa ?_; try walk_nrm)
  have hi1 := run_iface147
  have hi2 := ev_iface147
  repeat (first | refine Walk.cx ?_ | refine Walk.cR ?_ | (refine Walk.oq ?_; try walk_nrm) | (refine Walk.un ?_; walk_nrm))
  refine Walk.ctl rfl (fun w => stepG_raise (x := .iface 247 (.agg #[])) rfl (by rfl) (by decide) (by simp [go_sem, execOp, Act.eval, Instr.panic]) (by simp [go_sem, execOp, Act.eval, Instr.panic])) ?_
  refine .stop fun d => ⟨?_, d, rfl⟩
  simp only [rec139p, rest139r, rest139, Try.f181]
end
section
noncomputable def bot (S : Stile) (N j : Nat) : List Frame := [fr60 N (S.F j) (.iface 230 (.pointer (some ⟨S.p j, 0, none⟩))), fr78 (S.p j) (S.r j) (S.F j), bornfr]
open Classical in
noncomputable def wT (S : Stile) (D : Dyn) (i : Nat) : Wait where
  ch := S.t i
  z := .agg #[]
  ok := true
  home := fun g => g = rec139r (S.p i) (S.r i) (S.t i) (D.cs i ++ bot S (D.N i) i)
  f := fun a => if a = ⟨S.p i, 0, none⟩ then some (.chan (some (S.t i))) else none
noncomputable def VV (S : Stile) (D : Dyn) (m : Option Wait) (x : Option Nat) : Nat → Option Wait := fun g =>
  if g = 0 then m else if S.g0 ≤ g ∧ g < S.g0 + D.k ∧ D.e (g - S.g0) = false ∧ x ≠ some (g - S.g0) then some (wT S D (g - S.g0)) else none
structure MW (S : Stile) (j : Nat) (v : Wait) : Prop where
  ch : v.ch = S.r j
  z : v.z = .agg #[]
  ok : v.ok = true
  f : ∀ a, v.f a ≠ none → a = ⟨S.B, 0, none⟩ ∨ (∃ i, a = ⟨S.sb, i, none⟩) ∨ a = ⟨S.p j, 1, none⟩ ∨ a = ⟨S.p j, 2, none⟩
section
variable {S : Stile} {n0 : Nat} {D D' : Dyn} {w w' : World} {j nG : Nat} {mw : Wait} {m : Machine} {T : Trace} {l : List Frame}
theorem upd_eq {α : Type} (f : Nat → α) {j : Nat} {v : α} (h : f j = v) : upd f j v = f := by
  funext i
  by_cases e : i = j
  · subst e; rw [upd_same, h]
  · exact upd_ne _ _ e
theorem ite_iff {α : Type} {c d : Prop} [Decidable c] [Decidable d] {a b : α} (h : c ↔ d) : (if c then a else b) = if d then a else b := by
  by_cases hd : d
  · rw [if_pos hd, if_pos (h.2 hd)]
  · rw [if_neg hd, if_neg (fun z => hd (h.1 z))]
theorem VV_zero (o : Option Wait) (x : Option Nat) : VV S D o x 0 = o := by simp [VV]
theorem VV_at {o : Option Wait} {x : Option Nat} (hg : 1 ≤ S.g0) {i : Nat} (hi : i < D.k) (he : D.e i = false) (hx : x ≠ some i) : VV S D o x (S.g0 + i) = some (wT S D i) := by
  have h0 : S.g0 + i ≠ 0 := by omega
  have h1 : S.g0 + i - S.g0 = i := by omega
  unfold VV
  rw [if_neg h0, h1, if_pos ⟨by omega, by omega, he, hx⟩]
theorem VV_some {o : Option Wait} {x : Option Nat} {g : Nat} {v : Wait} (h : VV S D o x g = some v) : (g = 0 ∧ o = some v) ∨ ∃ i, i < D.k ∧ D.e i = false ∧ x ≠ some i ∧ g = S.g0 + i ∧ v = wT S D i := by
  unfold VV at h
  by_cases h0 : g = 0
  · rw [if_pos h0] at h; exact .inl ⟨h0, h⟩
  · rw [if_neg h0] at h
    by_cases hc : S.g0 ≤ g ∧ g < S.g0 + D.k ∧ D.e (g - S.g0) = false ∧ x ≠ some (g - S.g0)
    · rw [if_pos hc] at h
      cases h
      exact .inr ⟨g - S.g0, by omega, hc.2.2.1, hc.2.2.2, by omega, rfl⟩
    · rw [if_neg hc] at h; cases h
theorem VV_eq {o : Option Wait} {x : Option Nat} (hk : D'.k = D.k) (he : ∀ i, i < D.k → x ≠ some i → D'.e i = D.e i ∧ D'.cs i = D.cs i ∧ D'.N i = D.N i) : VV S D' o x = VV S D o x := by
  funext g
  unfold VV
  by_cases h0 : g = 0
  · rw [if_pos h0, if_pos h0]
  · rw [if_neg h0, if_neg h0, hk]
    by_cases hc : S.g0 ≤ g ∧ g < S.g0 + D.k ∧ x ≠ some (g - S.g0)
    · obtain ⟨h1, h2, h3⟩ := he (g - S.g0) (by omega) hc.2.2
      have : wT S D' (g - S.g0) = wT S D (g - S.g0) := by simp only [wT, h2, h3]
      rw [h1, this]
    · rw [if_neg (fun z => hc ⟨z.1, z.2.1, z.2.2.2⟩), if_neg (fun z => hc ⟨z.1, z.2.1, z.2.2.2⟩)]
theorem after_main : after (VV S D none none) 0 (S.g0 + j) (some mw) = VV S D (some mw) (some j) ∨ S.g0 + j = 0 := by
  by_cases hz : S.g0 + j = 0
  · exact .inr hz
  refine .inl (funext fun g => ?_)
  unfold after VV
  by_cases e1 : g = S.g0 + j
  · subst e1
    rw [upd_same, if_neg hz, if_neg]
    rintro ⟨_, _, _, h⟩
    exact h (by rw [Nat.add_sub_cancel_left])
  · rw [upd_ne _ _ e1]
    by_cases e0 : g = 0
    · subst e0; rw [upd_same, if_pos rfl]
    · rw [upd_ne _ _ e0, if_neg e0, if_neg e0]
      refine ite_iff ⟨fun h => ⟨h.1, h.2.1, h.2.2.1, fun z => ?_⟩, fun h => ⟨h.1, h.2.1, h.2.2.1, by simp⟩⟩
      have := Option.some.inj z; omega
theorem after_back {D' : Dyn} {new : Option Wait} (hj : j < D.k) (hk : D'.k = D.k) (he : ∀ i, i < D.k → i ≠ j → D'.e i = D.e i ∧ D'.cs i = D.cs i ∧ D'.N i = D.N i) (hn : new = if D'.e j = false then some (wT S D' j) else none) :
    after (VV S D (some mw) (some j)) (S.g0 + j) 0 new = VV S D' none none := by
  rw [← VV_eq (D' := D') hk fun i hi hx => he i hi fun e => hx (e ▸ rfl)]
  funext g
  unfold after VV
  by_cases e0 : g = 0
  · subst e0; rw [upd_same, if_pos rfl]
  · rw [upd_ne _ _ e0, if_neg e0]
    by_cases e1 : g = S.g0 + j
    · subst e1
      rw [upd_same, hn, Nat.add_sub_cancel_left]
      by_cases hd : D'.e j = false
      · rw [if_pos hd, if_pos ⟨by omega, by omega, hd, by simp⟩]
      · rw [if_neg hd, if_neg (fun z => hd z.2.2.1)]
    · rw [upd_ne _ _ e1, if_neg e0]
      refine ite_iff ⟨fun h => ⟨h.1, h.2.1, h.2.2.1, by simp⟩, fun h => ⟨h.1, h.2.1, h.2.2.1, fun z => ?_⟩⟩
      have := Option.some.inj z; omega
theorem upd_hire (hk : D'.k = D.k + 1) (he : ∀ i, i < D.k → D'.e i = D.e i ∧ D'.cs i = D.cs i ∧ D'.N i = D.N i) : upd (VV S D none none) 0 (some mw) = VV S D' (some mw) (some D.k) := by
  funext g
  unfold VV
  by_cases e0 : g = 0
  · subst e0; rw [upd_same, if_pos rfl]
  · rw [upd_ne _ _ e0, if_neg e0, if_neg e0]
    by_cases hc : S.g0 ≤ g ∧ g < S.g0 + D.k
    · obtain ⟨h1, h2, h3⟩ := he (g - S.g0) (by omega)
      have : wT S D' (g - S.g0) = wT S D (g - S.g0) := by simp only [wT, h2, h3]
      rw [this, h1]
      refine ite_iff ⟨fun h => ⟨h.1, by omega, h.2.2.1, fun z => ?_⟩, fun h => ⟨h.1, by omega, h.2.2.1, by simp⟩⟩
      have := Option.some.inj z; omega
    · rw [if_neg (fun z => hc ⟨z.1, z.2.1⟩), if_neg]
      rintro ⟨h1, h2, _, h4⟩
      exact h4 (congrArg some (by omega))
theorem VV_free {o : Option Wait} {x : Option Nat} {a : Addr} (hm : ∀ v, o = some v → v.f a = none) (ha : ∀ i, i < D.k → a ≠ ⟨S.p i, 0, none⟩) : Free (VV S D o x) a := by
  intro g v h
  rcases VV_some h with ⟨_, h⟩ | ⟨i, hi, _, _, _, rfl⟩
  · exact hm v h
  · simp only [wT]; rw [if_neg (ha i hi)]
theorem MW.free (hm : MW S j mw) {a : Addr} (h1 : a ≠ ⟨S.B, 0, none⟩) (h2 : ∀ i, a ≠ ⟨S.sb, i, none⟩) (h3 : a ≠ ⟨S.p j, 1, none⟩) (h4 : a ≠ ⟨S.p j, 2, none⟩) : mw.f a = none := by
  refine Classical.byContradiction fun h => ?_
  rcases hm.f a h with z | ⟨i, z⟩ | z | z
  · exact h1 z
  · exact h2 i z
  · exact h3 z
  · exact h4 z
theorem VV_apart {x : Option Nat} {o : Option Wait} (H : Sys S n0 D w) (hj : j < S.n) (hm : ∀ v, o = some v → MW S j v) {b : Nat} (hb : D.own b = none) : Apart (VV S D o x) b := by
  have hne : ∀ b' x, D.own b' = some x → b ≠ b' := fun b' x h e => by subst e; rw [hb] at h; cases h
  refine ⟨fun a ha => VV_free (fun v hv => (hm v hv).free ?_ ?_ ?_ ?_) ?_, fun g u h => ?_⟩
  · rintro rfl; exact hne _ _ H.oB ha.symm
  · rintro i rfl; exact hne _ _ H.oS ha.symm
  · rintro rfl; exact hne _ _ (H.op j hj) ha.symm
  · rintro rfl; exact hne _ _ (H.op j hj) ha.symm
  · rintro i hi rfl; exact hne _ _ (H.op i (Nat.lt_of_lt_of_le hi H.kn)) ha.symm
  · rcases VV_some h with ⟨_, h⟩ | ⟨i, hi, _, _, _, rfl⟩
    · rw [(hm u h).ch]; exact (hne _ _ (H.or j hj)).symm
    · exact (hne _ _ (H.ot i (Nat.lt_of_lt_of_le hi H.kn))).symm
theorem thr_main (H : Sys S n0 D w) (j : Nat) : (S.g0 + j == 0) = false := by
  have := H.hg0
  simp; omega
theorem give_back (H : Sys S n0 D w) (hj : j < D.k) (he : D.e j = false) (hn : 0 < nG) (hm : MW S j mw) (A : At Try.prog (VV S D (some mw) (some j)) (S.g0 + j) nG (rec139s (S.p j) (S.r j) (l ++ bot S (D.N j) j)) w m T) :
    Relay.Comes Try.prog (fun m' T' => ∃ g₂ d k, mw.home g₂ ∧ w.heap[S.r j]? = some (.chan 0 #[] false k k false) ∧ At Try.prog (VV S { D with cs := upd D.cs j l } none none) 0 nG (Go.Conc.served g₂ (recvd true (.agg #[]) true)) ((w.at d).setChan (S.r j) 0 #[] false (k + 1) (k + 1) false) m' T') m T := by
  have hjn : j < S.n := Nat.lt_of_lt_of_le hj H.kn
  have hg0 := H.hg0
  obtain ⟨z', es, hes, hs⟩ := send139 (main := S.g0 + j == 0) (V := VV S D (some mw) (some j)) (S.p j) (S.r j) (l ++ bot S (D.N j) j) w
  refine (A.give (v := mw) (x := .agg #[]) (j := 0) (new := some (wT S { D with cs := upd D.cs j l } j)) (by omega) hn (VV_zero _ _) rfl (by rw [hm.ch]; exact hs) hes ⟨?_, ?_, ?_, ?_⟩).mono ?_
  · intro a y hy
    simp only [wT] at hy
    by_cases ea : a = ⟨S.p j, 0, none⟩
    · rw [if_pos ea] at hy; cases hy; subst ea; exact H.p0 hjn
    · rw [if_neg ea] at hy; cases hy
  · exact H.good _ _ (H.ot j hjn) he
  · intro i u hi hu
    rcases VV_some hu with ⟨z, _⟩ | ⟨i', hi', _, hx, _, rfl⟩
    · exact absurd z hi
    · exact H.two (H.ot i' (Nat.lt_of_lt_of_le hi' H.kn)) (H.ot j hjn) fun e => hx (by cases e; rfl)
  · refine (way139 (S.p j) (S.r j) (S.t j) (l ++ bot S (D.N j) j) _ rfl rfl rfl (by simp [wT]) ?_).waits
    simp only [wT, upd_same]
  · rintro m' T' ⟨g₂, d, k, hh, hc, A'⟩
    refine ⟨g₂, d, k, hh, hm.ch ▸ hc, ?_⟩
    rw [after_back (D' := { D with cs := upd D.cs j l }) hj rfl (fun i _ hi => ⟨rfl, upd_ne _ _ hi, rfl⟩) (by rw [if_pos he]), hm.ch, hm.ok] at A'
    exact A'
theorem shut_back (H : Sys S n0 D w) (hj : j < D.k) (he : D.e j = true) (hn : 0 < nG) (hm : MW S j mw) {F : Value} {bk br : Bool} (A : At Try.prog (VV S D (some mw) (some j)) (S.g0 + j) nG (rec78 (S.p j) (S.r j) F bk br) w m T) :
    Relay.Comes Try.prog (fun m' T' => ∃ g₂ d k, mw.home g₂ ∧ At Try.prog (VV S D none none) 0 nG (Go.Conc.served g₂ (recvd true (.agg #[]) false)) ((w.at d).setChan (S.r j) 0 #[] true k k false) m' T') m T := by
  have hg0 := H.hg0
  refine (A.shut (v := mw) (j := 0) (new := none) (a' := G { (rec78 (S.p j) (S.r j) F bk br).frame with defers := [] } [bornfr]) (by omega) hn (VV_zero _ _) rfl (wake78 ..) rfl (fun d k hk => ?_) ⟨by omega, 2, quit78 ..⟩).mono ?_
  · rw [hm.ch] at hk ⊢
    exact close78 _ _ _ _ _ _ k hk
  · rintro m' T' ⟨g₂, d, k, hh, A'⟩
    refine ⟨g₂, d, k, hh, ?_⟩
    rw [after_back (D' := D) hj rfl (fun i _ hi => ⟨rfl, rfl, rfl⟩) (by rw [he]; rfl), hm.ch, hm.ok, hm.z] at A'
    exact A'
end
end
section
structure Keeps (o o' : Nat → Option Role) (w w' : World) : Prop where
  size : w.heap.size ≤ w'.heap.size
  same : ∀ b, b < w.heap.size → o b = none → o' b = none ∧ w'.heap[b]? = w.heap[b]?
theorem Keeps.refl (o : Nat → Option Role) (w : World) : Keeps o o w w := ⟨Nat.le_refl _, fun _ _ h => ⟨h, rfl⟩⟩
theorem Keeps.trans {o o' o'' : Nat → Option Role} {w w' w'' : World} (h : Keeps o o' w w') (k : Keeps o' o'' w' w'') : Keeps o o'' w w'' :=
  ⟨Nat.le_trans h.size k.size, fun b hb ho => by
    obtain ⟨h1, h2⟩ := h.same b hb ho
    obtain ⟨k1, k2⟩ := k.same b (Nat.lt_of_lt_of_le hb h.size) h1
    exact ⟨k1, k2.trans h2⟩⟩
theorem Keeps.at {o o' : Nat → Option Role} {w w' : World} (h : Keeps o o' w w') (d : Nat) : Keeps o o' w (w'.at d) := ⟨h.size, h.same⟩
theorem Keeps.alloc (o : Nat → Option Role) (w : World) (x : Obj) : Keeps o o w (w.alloc x) := ⟨by simp, fun b hb ho => ⟨ho, heap_new_lt w x hb⟩⟩
theorem Keeps.set {o : Nat → Option Role} {w : World} {a : Addr} {r : Role} (v : Value) (h : o a.block = some r) : Keeps o o w (w.setCell a v) :=
  ⟨Nat.le_of_eq (size_set ..).symm, fun b _ ho => ⟨ho, heap_set_other w a b v fun e => by subst e; rw [h] at ho; cases ho⟩⟩
theorem Keeps.chan {o : Nat → Option Role} {w : World} {c : Nat} {r : Role} (h : o c = some r) (cl : Bool) (k : Nat) : Keeps o o w (w.setChan c 0 #[] cl k k false) :=
  ⟨by simp [World.setChan], fun b _ ho => ⟨ho, heap_setChan_ne w _ _ _ _ _ _ fun e => by subst e; rw [h] at ho; cases ho⟩⟩
def Plain (f : Frame) : Prop := f.defers = [] ∧ f.mode = .run ∧ ∃ fn, Try.prog.funcs[f.fn]? = some fn
def Fin {X : Type} (inv : Nat → (Nat → Option Role) → X → (Nat → List Frame) → World → Prop) (out : X → Nat → Option Bool) (S : Stile) (k : Nat) (o : Nat → Option Role) (x : X) (cs : Nat → List Frame) (i : Nat) (f : Frame) (fs : List Frame) (w : World) (g : Goroutine) (w' : World) : Prop :=
  w.heap.size ≤ w'.heap.size ∧ (∀ b r, o b = some r → w'.heap[b]? = w.heap[b]?) ∧ ∃ l, inv k o x (upd cs i l) w' ∧
    ((out x i = none ∧ g = G (Frame.enter Try.prog 181 #[.pointer (some ⟨S.p i, 0, none⟩)] .normal) (l ++ f :: fs)) ∨
     (out x i = some false ∧ g = G (f.finish (.tuple #[])) fs) ∨
     (out x i = some true ∧ ∃ t v, t ≠ 247 ∧ g = G (f.raise [{ v := .iface t v, recovered := false }]) fs))
structure Crew (S : Stile) (X : Type) where
  inv : Nat → (Nat → Option Role) → X → (Nat → List Frame) → World → Prop
  born : X → Nat → X
  next : X → Nat → X
  out : X → Nat → Option Bool
  cnt : X → Nat
  cntBorn : ∀ x i, cnt (born x i) = cnt x
  cntNext : ∀ x i, cnt (next x i) = cnt x + 1
  keep : ∀ {k : Nat} {o o' : Nat → Option Role} {x : X} {cs : Nat → List Frame} {w w' : World}, inv k o x cs w → Keeps o o' w w' → inv k o' x cs w'
  bornOut : ∀ x i j, j ≠ i → out (born x i) j = out x j
  nextOut : ∀ x i j, j ≠ i → out (next x i) j = out x j
  shape : ∀ {k : Nat} {o : Nat → Option Role} {x : X} {cs : Nat → List Frame} {w : World} {i : Nat}, inv k o x cs w → i < k → out x i = none → (∃ c l, cs i = c :: l) ∧ ∀ f ∈ cs i, Plain f
  thr : ∀ {k : Nat} {o : Nat → Option Role} {x : X} {cs : Nat → List Frame} {w : World} {i : Nat}, inv k o x cs w → k ≤ i → i < S.n → w.cell? ⟨S.tb, i, none⟩ = some (S.F i)
  sch : ∀ {k : Nat} {o : Nat → Option Role} {x : X} {cs : Nat → List Frame} {w : World} {j : Nat} {z : Int}, inv k o x cs w → S.sl[j]? = some z → ∃ s so, S.sa = some ⟨s, so, none⟩ ∧ w.cell? ⟨s, so + j, none⟩ = some (.int .i64 z)
  start : ∀ {k : Nat} {o : Nat → Option Role} {x : X} {cs : Nat → List Frame} {w : World} {V : Nat → Option Wait} (f : Frame) (fs : List Frame), inv k o x cs w → k < S.n → cnt x < 1048576 → (∀ b, o b = none → Apart V b) → (∀ b r, o b = some r → b < w.heap.size) →
    (∃ fi fn first cap, S.F k = .func (.func fi) first cap ∧ Try.prog.funcs[fi]? = some fn ∧ (fn.name == "runtime.NumGoroutine") = false ∧ fn.body.isNone = false ∧
      Walk Try.prog false (DR V) (Fin inv out S (k + 1) o (born x k) cs k f fs w) (G (Frame.enter Try.prog fi (first ++ #[.iface 230 (.pointer (some ⟨S.p k, 0, none⟩))] ++ cap) .normal) (f :: fs)) w) ∨
    (S.F k = .nilFunc ∧ out (born x k) k = some false ∧ inv (k + 1) o (born x k) (upd cs k []) w)
  go : ∀ {k : Nat} {o : Nat → Option Role} {x : X} {cs : Nat → List Frame} {w : World} {V : Nat → Option Wait} {i : Nat} {c : Frame} {l : List Frame} (f : Frame) (fs : List Frame), inv k o x cs w → i < k → out x i = none → cs i = c :: l → cnt x < 1048576 → (∀ b, o b = none → Apart V b) → (∀ b r, o b = some r → b < w.heap.size) →
    Walk Try.prog false (DR V) (Fin inv out S k o (next x i) cs i f fs w) (G (c.finish (.tuple #[])) (l ++ f :: fs)) w
def handed (D : Dyn) (j : Nat) (l : List Frame) (o : Option Bool) : Dyn := { D with cs := upd D.cs j l, e := upd D.e j o.isSome, b := upd D.b j (o == some true) }
section
variable {S : Stile} {n0 : Nat} {D D' : Dyn} {w w' : World} {j nG : Nat} {mw : Wait} {m : Machine} {T : Trace} {l : List Frame}
theorem Sys.cs (H : Sys S n0 D w) (c : Nat → List Frame) : Sys S n0 { D with cs := c } w :=
  H.put rfl rfl rfl rfl rfl rfl (Nat.le_refl _) (fun b x _ h => by cases x <;> exact h) fun _ _ => rfl
theorem free_thr (H : Sys S n0 D w) (hj : j < S.n) (hm : MW S j mw) {b i : Nat} {r : Role} (hb : D.own b = some r) (hr : (∃ a, r = .nn a) ∨ (r = .p j ∧ i = 3)) : Free (VV S D (some mw) (some j)) ⟨b, i, none⟩ := by
  have hne : ∀ b' x i', D.own b' = some x → r ≠ x → (⟨b, i, none⟩ : Addr) ≠ ⟨b', i', none⟩ := fun b' x i' h hx e => H.two hb h hx (congrArg Addr.block e)
  have hoff : r = .p j ∧ i = 3 → ∀ b' i', i' ≠ 3 → (⟨b, i, none⟩ : Addr) ≠ ⟨b', i', none⟩ := fun h b' i' h' e => h' ((congrArg Addr.off e).symm.trans h.2)
  refine VV_free (fun v hv => ?_) fun i' hi' => ?_
  · cases hv
    refine hm.free ?_ ?_ ?_ ?_
    · exact hne _ _ _ H.oB (by rcases hr with ⟨a, rfl⟩ | ⟨rfl, _⟩ <;> simp)
    · exact fun i' => hne _ _ _ H.oS (by rcases hr with ⟨a, rfl⟩ | ⟨rfl, _⟩ <;> simp)
    · rcases hr with ⟨a, rfl⟩ | h
      · exact hne _ _ _ (H.op j hj) (by simp)
      · exact hoff h _ _ (by omega)
    · rcases hr with ⟨a, rfl⟩ | h
      · exact hne _ _ _ (H.op j hj) (by simp)
      · exact hoff h _ _ (by omega)
  · rcases hr with ⟨a, rfl⟩ | h
    · exact hne _ _ _ (H.op i' (Nat.lt_of_lt_of_le hi' H.kn)) (by simp)
    · exact hoff h _ _ (by omega)
theorem ended_back (H : Sys S n0 D w) (hj : j < D.k) (hn : 0 < nG) (hm : MW S j mw) (br : Bool) {g : Goroutine} {W : World} (hKW : Keeps D.own D.own w W) (HW : Sys S n0 { D with e := upd D.e j true } W)
    (hW : Walk Try.prog (S.g0 + j == 0) (DR (VV S D (some mw) (some j))) (fun g w' => ∃ bk, g = G ((fr78 (S.p j) (S.r j) (S.F j)).finish (.tuple #[.bool bk, .bool br])) [bornfr] ∧ ∃ d, w' = W.at d) g w)
    (A : At Try.prog (VV S D (some mw) (some j)) (S.g0 + j) nG g w m T) (l : List Frame) :
    Relay.Comes Try.prog (fun m' T' => ∃ g₂ w', mw.home g₂ ∧ At Try.prog (VV S (handed D j l (some br)) none none) 0 nG (Go.Conc.served g₂ (recvd true (.agg #[]) false)) w' m' T' ∧ Sys S n0 (handed D j l (some br)) w' ∧ Keeps D.own D.own w w') m T := by
  have hjn : j < S.n := Nat.lt_of_lt_of_le hj H.kn
  refine (At.walk (Stop := fun g w' => ∃ bk d, g = rec78 (S.p j) (S.r j) (S.F j) bk br ∧ w' = (W.setCell ⟨S.p j, 3, none⟩ (.bool br)).at d) (hW.then ?_) A).bind ?_
  · rintro g' w' ⟨bk, rfl, d, rfl⟩
    refine Walk.back ?_ d
    refine (run_out (S.p j) (S.r j) (S.F j) bk br (D.b j) W (HW.p3 hjn) (HW.pz hjn 3) (free_thr H hjn hm (H.op j hjn) (.inr ⟨rfl, rfl⟩))).mono ?_
    rintro g w' ⟨rfl, d, rfl⟩
    exact ⟨bk, d, rfl, rfl⟩
  · rintro m' T' ⟨g', w', ⟨bk, d, rfl, rfl⟩, A'⟩
    have hb : (some br == some true) = br := by cases br <;> rfl
    have H2 : Sys S n0 (handed D j l (some br)) ((W.setCell ⟨S.p j, 3, none⟩ (.bool br)).at d) := by
      have := ((HW.brk hjn br).cs (upd D.cs j l)).at d
      simpa only [handed, Option.isSome_some, hb] using this
    have hV : VV S (handed D j l (some br)) (some mw) (some j) = VV S D (some mw) (some j) := VV_eq rfl fun i _ hx => by
      have : i ≠ j := fun e => hx (e ▸ rfl)
      simp only [handed, upd_ne _ _ this, and_self]
    rw [← hV] at A'
    refine (shut_back H2 hj (by simp only [handed, upd_same, Option.isSome_some]) hn hm A').mono ?_
    rintro m2 T2 ⟨g₂, d2, k, hh, A2⟩
    refine ⟨g₂, _, hh, A2, (H2.at d2).shut (j := j) (by simp only [handed, upd_same, Option.isSome_some]) (.inr (H.or j hjn)), ?_⟩
    exact hKW.trans (((Keeps.set _ (H.op j hjn)).at d).trans ((Keeps.at (Keeps.refl _ _) d2).trans (Keeps.chan (H.or j hjn) true k)))
end
section
variable {S : Stile} {X : Type} {C : Crew S X} {n0 : Nat} {D D' : Dyn} {w w' : World} {j nG : Nat} {mw : Wait} {m : Machine} {T : Trace} {l : List Frame} {x : X}
theorem fin_back {w0 : World} {g : Goroutine} (H : Sys S n0 D w) (hj : j < D.k) (he : D.e j = false) (hb : D.b j = false) (hn : 0 < nG) (hm : MW S j mw)
    (hF : Fin C.inv C.out S D.k D.own x D.cs j (fr60 (D.N j) (S.F j) (.iface 230 (.pointer (some ⟨S.p j, 0, none⟩)))) [fr78 (S.p j) (S.r j) (S.F j), bornfr] w0 g w)
    (A : At Try.prog (VV S D (some mw) (some j)) (S.g0 + j) nG g w m T) :
    Relay.Comes Try.prog (fun m' T' => ∃ g₂ w' l, mw.home g₂ ∧ At Try.prog (VV S (handed D j l (C.out x j)) none none) 0 nG (Go.Conc.served g₂ (recvd true (.agg #[]) (C.out x j).isNone)) w' m' T' ∧ Sys S n0 (handed D j l (C.out x j)) w' ∧ C.inv D.k D.own x (upd D.cs j l) w') m T := by
  have hjn : j < S.n := Nat.lt_of_lt_of_le hj H.kn
  obtain ⟨_, _, l, hI, hF⟩ := hF
  have hN := (cell_of (H.good _ _ (H.oN j hj) he) 0)
  have hNz := frozen_of (H.good _ _ (H.oN j hj) he) 0
  have hfN : Free (VV S D (some mw) (some j)) ⟨D.N j, 0, none⟩ := free_thr H hjn hm (H.oN j hj) (.inl ⟨_, rfl⟩)
  rcases hF with ⟨ho, rfl⟩ | ⟨ho, rfl⟩ | ⟨ho, t, v, ht, rfl⟩
  · refine (At.walk (Stop := fun g w' => g = rec139s (S.p j) (S.r j) (l ++ bot S (D.N j) j) ∧ ∃ d, w' = w.at d) (step_send _ _ _ _ (H.p1 hjn) (.stop fun d => ⟨rfl, d, rfl⟩)) A).bind ?_
    rintro m' T' ⟨g', w', ⟨rfl, d, rfl⟩, A'⟩
    refine (give_back (H.at d) hj he hn hm A').mono ?_
    rintro m2 T2 ⟨g₂, d2, k, hh, hc, A2⟩
    have hD : handed D j l (C.out x j) = { D with cs := upd D.cs j l } := by
      rw [ho]; simp only [handed, Option.isSome_none]
      rw [upd_eq _ he, show ((none : Option Bool) == some true) = false from rfl, upd_eq _ hb]
    refine ⟨g₂, _, l, hh, by rw [hD, ho]; exact A2, ?_, C.keep hI ((Keeps.at (Keeps.refl _ _) d).trans ((Keeps.at (Keeps.refl _ _) d2).trans (Keeps.chan (H.or j hjn) false (k + 1))))⟩
    rw [hD]
    exact (((H.at d).at d2).chan hc ⟨j, .inr (H.or j hjn)⟩).cs _
  · refine (ended_back H hj hn hm false (Keeps.set (.bool false) (H.oN j hj)) (H.ride hj (.bool false)) (g := G ((fr60 (D.N j) (S.F j) (.iface 230 (.pointer (some ⟨S.p j, 0, none⟩)))).finish (.tuple #[])) [fr78 (S.p j) (S.r j) (S.F j), bornfr]) ?_ A l).mono ?_
    · refine (ride_done (D.N j) _ _ _ _ w false hN hNz hfN).mono ?_
      rintro g w' ⟨rfl, d, rfl⟩
      exact ⟨true, rfl, d, rfl⟩
    · rintro m2 T2 ⟨g₂, w', hh, A2, H2, K2⟩
      rw [ho]
      exact ⟨g₂, w', l, hh, A2, H2, C.keep hI K2⟩
  · refine (ended_back H hj hn hm true ((Keeps.alloc _ w (.cells #[] 247)).trans (Keeps.set (.bool true) (H.oN j hj))) ((H.alloc (.cells #[] 247)).ride hj (.bool true)) (g := G ((fr60 (D.N j) (S.F j) (.iface 230 (.pointer (some ⟨S.p j, 0, none⟩)))).raise [{ v := .iface t v, recovered := false }]) [fr78 (S.p j) (S.r j) (S.F j), bornfr]) ?_ A l).mono ?_
    · refine (ride_broke (D.N j) _ _ t v ht _ _ w false hN hNz hfN).mono ?_
      rintro g w' ⟨rfl, d, rfl⟩
      exact ⟨false, rfl, d, rfl⟩
    · rintro m2 T2 ⟨g₂, w', hh, A2, H2, K2⟩
      rw [ho]
      exact ⟨g₂, w', l, hh, A2, H2, C.keep hI K2⟩
end
end
end Go.Proofs.Ytgfajibjedfkdaa
