/- Part 6. -/
import Derived.Test.YtgfajibjedfkdaaJO3
import Derived.Test.YtgfajibjedfkdaaJO4
import Derived.Test.YtgfajibjedfkdaaJO5
import Derived.Test.YtgfajibjedfkdaaProg
import Derived.KernelRfl
import Derived.Handy
import Derived.Conc.TokenWalk
import Derived.Deep.AppendLies
import Derived.Deep.Heap
set_option linter.unusedSimpArgs false
set_option linter.unusedVariables false
set_option maxHeartbeats 8000000
set_option maxRecDepth 100000
namespace Go.Proofs.Ytgfajibjedfkdaa
open Go.Conc Go.RowKit Go.Relay
open Go.ConcN (upd upd_ne upd_same)
section
inductive Role where
  | tB
  | ss
  | ord
  | p (i : Nat)
  | t (i : Nat)
  | r (i : Nat)
  | nn (i : Nat)
structure Stile where
  g0 : Nat
  n : Nat
  B : Nat
  sb : Nat
  scap : Nat
  tb : Nat
  tcap : Nat
  most : Int
  p : Nat → Nat
  t : Nat → Nat
  r : Nat → Nat
  F : Nat → Value
  sa : Option Addr
  sc : Nat
  sl : List Int
structure Dyn where
  k : Nat
  e : Nat → Bool
  f : Nat → Bool
  b : Nat → Bool
  N : Nat → Nat
  cs : Nat → List Frame
  own : Nat → Option Role
  ord : List Nat
  oa : Option Addr
  oc : Nat
  gg : Nat
def Good (S : Stile) (D : Dyn) : Role → Option Obj → Prop
  | .tB, o => ∃ arr ty fr, o = some (.cells arr ty fr) ∧ arr[0]? = some (.slice (some ⟨S.sb, 0, none⟩) S.n S.scap) ∧ arr[1]? = some (.int .i64 D.gg) ∧ arr[2]? = some (.int .i64 S.most) ∧ arr[3]? = some (.slice D.oa D.ord.length D.oc) ∧ ∀ i, i = 1 ∨ i = 3 → (decide (fr.1 ≤ i) && decide (i < fr.2)) = false
  | .ss, o => ∃ arr ty fr, o = some (.cells arr ty fr) ∧ ∀ i, i < S.n → arr[i]? = some (.pointer (some ⟨S.p i, 0, none⟩))
  | .ord, _ => True
  | .p i, o => o = some (.cells #[.chan (some (S.t i)), .chan (some (S.r i)), .bool (D.f i), .bool (D.b i)] 236)
  | .t i, o => D.e i = false → ∃ k, o = some (.chan 0 #[] false k k false)
  | .r i, o => D.e i = false → ∃ k, o = some (.chan 0 #[] false k k false)
  | .nn i, o => D.e i = false → o = some (.cells #[.bool false] 4)
def Place (S : Stile) (D : Dyn) : Role → Nat → Prop
  | .tB, b => b = S.B
  | .ss, b => b = S.sb
  | .ord, _ => True
  | .p i, b => i < S.n ∧ b = S.p i
  | .t i, b => i < S.n ∧ b = S.t i
  | .r i, b => i < S.n ∧ b = S.r i
  | .nn i, b => i < D.k ∧ b = D.N i
structure Sys (S : Stile) (n0 : Nat) (D : Dyn) (w : World) : Prop where
  good : ∀ b x, D.own b = some x → Good S D x (w.heap[b]?)
  lt : ∀ b x, D.own b = some x → n0 ≤ b ∧ b < w.heap.size
  ids : ∀ b x, D.own b = some x → Place S D x b
  oB : D.own S.B = some .tB
  oS : D.own S.sb = some .ss
  op : ∀ i, i < S.n → D.own (S.p i) = some (.p i)
  ot : ∀ i, i < S.n → D.own (S.t i) = some (.t i)
  or : ∀ i, i < S.n → D.own (S.r i) = some (.r i)
  oN : ∀ i, i < D.k → D.own (D.N i) = some (.nn i)
  oo : ∀ b, (Value.slice D.oa D.ord.length D.oc).ownBlock = some b → D.own b = some .ord
  row : w.ownsRow n0 3 1 (.slice D.oa D.ord.length D.oc) D.ord.length (D.ord.map fun i => .int .i64 (i : Nat))
  n64 : S.n ≤ 64
  kn : D.k ≤ S.n
  hg0 : 1 ≤ S.g0
section
variable {S : Stile} {n0 : Nat} {D D' : Dyn} {w w' : World}
theorem cell_of {w : World} {b : Nat} {arr : Array Value} {ty : TypeId} {fr : Nat × Nat} (h : w.heap[b]? = some (.cells arr ty fr)) (i : Nat) : w.cell? ⟨b, i, none⟩ = arr[i]? := by simp [World.cell?, h]
theorem frozen_of {w : World} {b : Nat} {arr : Array Value} {ty : TypeId} (h : w.heap[b]? = some (.cells arr ty (0, 0))) (i : Nat) : w.frozen? ⟨b, i, none⟩ = false := by simp [World.frozen?, h]
theorem Sys.tB (H : Sys S n0 D w) : w.cell? ⟨S.B, 0, none⟩ = some (.slice (some ⟨S.sb, 0, none⟩) S.n S.scap) ∧ w.cell? ⟨S.B, 1, none⟩ = some (.int .i64 D.gg) ∧ w.cell? ⟨S.B, 2, none⟩ = some (.int .i64 S.most) ∧
    w.cell? ⟨S.B, 3, none⟩ = some (.slice D.oa D.ord.length D.oc) ∧ w.frozen? ⟨S.B, 1, none⟩ = false ∧ w.frozen? ⟨S.B, 3, none⟩ = false := by
  obtain ⟨arr, ty, fr, h, h0, h1, h2, h3, hz⟩ := H.good _ _ H.oB
  exact ⟨(cell_of h 0).trans h0, (cell_of h 1).trans h1, (cell_of h 2).trans h2, (cell_of h 3).trans h3, by simp only [World.frozen?, h]; exact hz 1 (.inl rfl), by simp only [World.frozen?, h]; exact hz 3 (.inr rfl)⟩
theorem Sys.ss (H : Sys S n0 D w) {i : Nat} (hi : i < S.n) : w.cell? ⟨S.sb, i, none⟩ = some (.pointer (some ⟨S.p i, 0, none⟩)) := by
  obtain ⟨arr, ty, fr, h, h0⟩ := H.good _ _ H.oS
  exact (cell_of h i).trans (h0 i hi)
theorem Sys.pp (H : Sys S n0 D w) {i : Nat} (hi : i < S.n) : w.heap[S.p i]? = some (.cells #[.chan (some (S.t i)), .chan (some (S.r i)), .bool (D.f i), .bool (D.b i)] 236) := H.good _ _ (H.op i hi)
theorem Sys.p0 (H : Sys S n0 D w) {i : Nat} (hi : i < S.n) : w.cell? ⟨S.p i, 0, none⟩ = some (.chan (some (S.t i))) := (cell_of (H.pp hi) 0).trans rfl
theorem Sys.p1 (H : Sys S n0 D w) {i : Nat} (hi : i < S.n) : w.cell? ⟨S.p i, 1, none⟩ = some (.chan (some (S.r i))) := (cell_of (H.pp hi) 1).trans rfl
theorem Sys.p2 (H : Sys S n0 D w) {i : Nat} (hi : i < S.n) : w.cell? ⟨S.p i, 2, none⟩ = some (.bool (D.f i)) := (cell_of (H.pp hi) 2).trans rfl
theorem Sys.p3 (H : Sys S n0 D w) {i : Nat} (hi : i < S.n) : w.cell? ⟨S.p i, 3, none⟩ = some (.bool (D.b i)) := (cell_of (H.pp hi) 3).trans rfl
theorem row_same {w w' : World} {base : Nat} {e : TypeId} {size : Nat} {v : Value} {n : Nat} {xs : List Value} (h : w.ownsRow base e size v n xs) (hb : ∀ g, v.ownBlock = some g → w'.heap[g]? = w.heap[g]?) : w'.ownsRow base e size v n xs := by
  refine ⟨h.1, ?_⟩
  rcases h.2 with z | ⟨g, cap, cur, rfl, h1, h2, h3⟩
  · exact .inl z
  · exact .inr ⟨g, cap, cur, rfl, h1, (hb g rfl).trans h2, h3⟩
theorem Sys.put (H : Sys S n0 D w) (hown : D'.own = D.own) (hk : D'.k = D.k) (hN : D'.N = D.N) (ho : D'.ord = D.ord) (hoa : D'.oa = D.oa) (hoc : D'.oc = D.oc) (hs : w.heap.size ≤ w'.heap.size)
    (hg : ∀ b x, D.own b = some x → Good S D x (w.heap[b]?) → Good S D' x (w'.heap[b]?)) (hr : ∀ b, D.own b = some .ord → w'.heap[b]? = w.heap[b]?) : Sys S n0 D' w' := by
  refine ⟨fun b x hx => hg b x (hown ▸ hx) (H.good b x (hown ▸ hx)), fun b x hx => ?_, fun b x hx => ?_, hown ▸ H.oB, hown ▸ H.oS, fun i hi => hown ▸ H.op i hi, fun i hi => hown ▸ H.ot i hi, fun i hi => hown ▸ H.or i hi, fun i hi => ?_, fun b hb => ?_, ?_, H.n64, hk ▸ H.kn, H.hg0⟩
  · have := H.lt b x (hown ▸ hx); omega
  · have h := H.ids b x (hown ▸ hx)
    revert h
    cases x <;> simp only [Place, hk, hN, imp_self]
  · rw [hown, hN]; exact H.oN i (hk ▸ hi)
  · rw [hown]; rw [hoa, ho, hoc] at hb; exact H.oo b hb
  · rw [hoa, ho, hoc]
    exact row_same H.row fun g hg' => hr g (H.oo g hg')
theorem Sys.same (H : Sys S n0 D w) (hs : w.heap.size ≤ w'.heap.size) (hb : ∀ b x, D.own b = some x → w'.heap[b]? = w.heap[b]?) : Sys S n0 D w' :=
  H.put rfl rfl rfl rfl rfl rfl hs (fun b x hx h => by rw [hb b x hx]; exact h) fun b hb' => hb b _ hb'
theorem Good.of_same {x : Role} {o : Option Obj} (h : Good S D x o) (hf : ∀ i, x = .p i → D'.f i = D.f i ∧ D'.b i = D.b i) (hB : x = .tB → D'.gg = D.gg ∧ D'.oa = D.oa ∧ D'.ord.length = D.ord.length ∧ D'.oc = D.oc) (he : ∀ i, x = .t i ∨ x = .r i ∨ x = .nn i → D'.e i = false → D.e i = false) : Good S D' x o := by
  cases x with
  | tB => obtain ⟨h1, h2, h3, h4⟩ := hB rfl; simpa only [Good, h1, h2, h3, h4] using h
  | ss => exact h
  | ord => trivial
  | p i => obtain ⟨h1, h2⟩ := hf i rfl; simpa only [Good, h1, h2] using h
  | t i => exact fun z => h (he i (.inl rfl) z)
  | r i => exact fun z => h (he i (.inr (.inl rfl)) z)
  | nn i => exact fun z => h (he i (.inr (.inr rfl)) z)
theorem Sys.chan (H : Sys S n0 D w) {c k k' : Nat} (hc : w.heap[c]? = some (.chan 0 #[] false k k false)) (hcr : ∃ i, D.own c = some (.t i) ∨ D.own c = some (.r i)) : Sys S n0 D (w.setChan c 0 #[] false k' k' false) := by
  have hsz : (w.setChan c 0 #[] false k' k' false).heap.size = w.heap.size := by simp [World.setChan]
  refine H.put rfl rfl rfl rfl rfl rfl (Nat.le_of_eq hsz.symm) (fun b x hx h => ?_) fun b hb => ?_
  · by_cases e : c = b
    · subst e
      rw [heap_setChan_self w hc]
      obtain ⟨i, z | z⟩ := hcr <;> (rw [hx] at z; cases z; exact fun _ => ⟨k', rfl⟩)
    · rw [heap_setChan_ne w _ _ _ _ _ _ e]; exact h
  · refine heap_setChan_ne w _ _ _ _ _ _ fun e => ?_
    subst e
    obtain ⟨i, z | z⟩ := hcr <;> (rw [hb] at z; cases z)
theorem Sys.at (H : Sys S n0 D w) (d : Nat) : Sys S n0 D (w.at d) := H.same (Nat.le_refl _) fun _ _ _ => rfl
theorem heap_set_other (w : World) (a : Addr) (k : Nat) (v : Value) (h : k ≠ a.block) : (w.setCell a v).heap[k]? = w.heap[k]? := by
  simp only [World.setCell]
  rw [Array.getElem?_modify, if_neg (Ne.symm h)]
theorem heap_set_self (w : World) {b i : Nat} {arr : Array Value} {ty : TypeId} {fr : Nat × Nat} (v : Value) (h : w.heap[b]? = some (.cells arr ty fr)) : (w.setCell ⟨b, i, none⟩ v).heap[b]? = some (.cells (arr.setIfInBounds i v) ty fr) := by
  simp only [World.setCell]
  rw [Array.getElem?_modify, if_pos rfl, h]
  rfl
theorem size_set (w : World) (a : Addr) (v : Value) : (w.setCell a v).heap.size = w.heap.size := by simp [World.setCell]
theorem heap_new_lt (w : World) (o : Obj) {b : Nat} (h : b < w.heap.size) : (w.alloc o).heap[b]? = w.heap[b]? := by
  simp only [World.alloc]
  rw [Array.getElem?_push, if_neg (by omega)]
theorem Sys.alloc (H : Sys S n0 D w) (o : Obj) : Sys S n0 D (w.alloc o) := H.same (by simp) fun b x hx => heap_new_lt w o (H.lt b x hx).2
end
end
noncomputable def bot (S : Stile) (N j : Nat) : List Frame := [fr60 N (S.F j) (.iface 230 (.pointer (some ⟨S.p j, 0, none⟩))), fr78 (S.p j) (S.r j) (S.F j), bornfr]
section
structure Keeps (o o' : Nat → Option Role) (w w' : World) : Prop where
  size : w.heap.size ≤ w'.heap.size
  same : ∀ b, b < w.heap.size → o b = none → o' b = none ∧ w'.heap[b]? = w.heap[b]?
theorem Keeps.refl (o : Nat → Option Role) (w : World) : Keeps o o w w := ⟨Nat.le_refl _, fun _ _ h => ⟨h, rfl⟩⟩
theorem Keeps.trans {o o' o'' : Nat → Option Role} {w w' w'' : World} (h : Keeps o o' w w') (k : Keeps o' o'' w' w'') : Keeps o o'' w w'' :=
  ⟨Nat.le_trans h.size k.size, fun b hb ho => by
    obtain ⟨h1, h2⟩ := h.same b hb ho
    obtain ⟨k1, k2⟩ := k.same b (Nat.lt_of_lt_of_le hb h.size) h1
    exact ⟨k1, k2.trans h2⟩⟩
theorem Keeps.at {o o' : Nat → Option Role} {w w' : World} (h : Keeps o o' w w') (d : Nat) : Keeps o o' w (w'.at d) := ⟨h.size, h.same⟩
theorem Keeps.alloc (o : Nat → Option Role) (w : World) (x : Obj) : Keeps o o w (w.alloc x) := ⟨by simp, fun b hb ho => ⟨ho, heap_new_lt w x hb⟩⟩
theorem Keeps.set {o : Nat → Option Role} {w : World} {a : Addr} {r : Role} (v : Value) (h : o a.block = some r) : Keeps o o w (w.setCell a v) :=
  ⟨Nat.le_of_eq (size_set ..).symm, fun b _ ho => ⟨ho, heap_set_other w a b v fun e => by subst e; rw [h] at ho; cases ho⟩⟩
theorem Keeps.chan {o : Nat → Option Role} {w : World} {c : Nat} {r : Role} (h : o c = some r) (cl : Bool) (k : Nat) : Keeps o o w (w.setChan c 0 #[] cl k k false) :=
  ⟨by simp [World.setChan], fun b _ ho => ⟨ho, heap_setChan_ne w _ _ _ _ _ _ fun e => by subst e; rw [h] at ho; cases ho⟩⟩
def Plain (f : Frame) : Prop := f.defers = [] ∧ f.mode = .run ∧ ∃ fn, Try.prog.funcs[f.fn]? = some fn
def Fin {X : Type} (inv : Nat → (Nat → Option Role) → X → (Nat → List Frame) → World → Prop) (out : X → Nat → Option Bool) (S : Stile) (k : Nat) (o : Nat → Option Role) (x : X) (cs : Nat → List Frame) (i : Nat) (f : Frame) (fs : List Frame) (w : World) (g : Goroutine) (w' : World) : Prop :=
  w.heap.size ≤ w'.heap.size ∧ (∀ b r, o b = some r → w'.heap[b]? = w.heap[b]?) ∧ ∃ l, inv k o x (upd cs i l) w' ∧
    ((out x i = none ∧ g = G (Frame.enter Try.prog 181 #[.pointer (some ⟨S.p i, 0, none⟩)] .normal) (l ++ f :: fs)) ∨
     (out x i = some false ∧ g = G (f.finish (.tuple #[])) fs) ∨
     (out x i = some true ∧ ∃ t v, t ≠ 247 ∧ g = G (f.raise [{ v := .iface t v, recovered := false }]) fs))
structure Crew (S : Stile) (X : Type) where
  inv : Nat → (Nat → Option Role) → X → (Nat → List Frame) → World → Prop
  born : X → Nat → X
  next : X → Nat → X
  out : X → Nat → Option Bool
  cnt : X → Nat
  cntBorn : ∀ x i, cnt (born x i) = cnt x
  cntNext : ∀ x i, cnt (next x i) = cnt x + 1
  keep : ∀ {k : Nat} {o o' : Nat → Option Role} {x : X} {cs : Nat → List Frame} {w w' : World}, inv k o x cs w → Keeps o o' w w' → inv k o' x cs w'
  bornOut : ∀ x i j, j ≠ i → out (born x i) j = out x j
  nextOut : ∀ x i j, j ≠ i → out (next x i) j = out x j
  shape : ∀ {k : Nat} {o : Nat → Option Role} {x : X} {cs : Nat → List Frame} {w : World} {i : Nat}, inv k o x cs w → i < k → out x i = none → (∃ c l, cs i = c :: l) ∧ ∀ f ∈ cs i, Plain f
  thr : ∀ {k : Nat} {o : Nat → Option Role} {x : X} {cs : Nat → List Frame} {w : World} {i : Nat}, inv k o x cs w → k ≤ i → i < S.n → w.cell? ⟨S.tb, i, none⟩ = some (S.F i)
  sch : ∀ {k : Nat} {o : Nat → Option Role} {x : X} {cs : Nat → List Frame} {w : World} {j : Nat} {z : Int}, inv k o x cs w → S.sl[j]? = some z → ∃ s so, S.sa = some ⟨s, so, none⟩ ∧ w.cell? ⟨s, so + j, none⟩ = some (.int .i64 z)
  start : ∀ {k : Nat} {o : Nat → Option Role} {x : X} {cs : Nat → List Frame} {w : World} {V : Nat → Option Wait} (f : Frame) (fs : List Frame), inv k o x cs w → k < S.n → cnt x < 1048576 → (∀ b, o b = none → Apart V b) → (∀ b r, o b = some r → b < w.heap.size) →
    (∃ fi fn first cap, S.F k = .func (.func fi) first cap ∧ Try.prog.funcs[fi]? = some fn ∧ (fn.name == "runtime.NumGoroutine") = false ∧ fn.body.isNone = false ∧
      Walk Try.prog false (DR V) (Fin inv out S (k + 1) o (born x k) cs k f fs w) (G (Frame.enter Try.prog fi (first ++ #[.iface 230 (.pointer (some ⟨S.p k, 0, none⟩))] ++ cap) .normal) (f :: fs)) w) ∨
    (S.F k = .nilFunc ∧ out (born x k) k = some false ∧ inv (k + 1) o (born x k) (upd cs k []) w)
  go : ∀ {k : Nat} {o : Nat → Option Role} {x : X} {cs : Nat → List Frame} {w : World} {V : Nat → Option Wait} {i : Nat} {c : Frame} {l : List Frame} (f : Frame) (fs : List Frame), inv k o x cs w → i < k → out x i = none → cs i = c :: l → cnt x < 1048576 → (∀ b, o b = none → Apart V b) → (∀ b r, o b = some r → b < w.heap.size) →
    Walk Try.prog false (DR V) (Fin inv out S k o (next x i) cs i f fs w) (G (c.finish (.tuple #[])) (l ++ f :: fs)) w
section
variable {S : Stile} {n0 : Nat} {D D' : Dyn} {w w' : World} {j nG : Nat} {mw : Wait} {m : Machine} {T : Trace} {l : List Frame}
theorem Sys.cs (H : Sys S n0 D w) (c : Nat → List Frame) : Sys S n0 { D with cs := c } w :=
  H.put rfl rfl rfl rfl rfl rfl (Nat.le_refl _) (fun b x _ h => by cases x <;> exact h) fun _ _ => rfl
end
end
section
section
variable {S : Stile} {n0 : Nat} {D D' : Dyn} {w w' : World} {j : Nat}
theorem Sys.order {i gr cap : Nat} (H : Sys S n0 D w) (hrow : w'.ownsRow n0 3 1 (.slice (some ⟨gr, 0, none⟩) (D.ord.length + 1) cap) (D.ord.length + 1) (D.ord.map (fun i => Value.int .i64 (i : Nat)) ++ [.int .i64 i]))
    (hat : (Value.slice D.oa D.ord.length D.oc).ownBlock = some gr ∨ w.heap.size ≤ gr) (hlt : gr < w'.heap.size) (hs : w.heap.size ≤ w'.heap.size)
    (hb : ∀ b, b < w.heap.size → b ≠ S.B → some b ≠ (Value.slice D.oa D.ord.length D.oc).ownBlock → w'.heap[b]? = w.heap[b]?) (hB : w'.heap[S.B]? = (w.setCell ⟨S.B, 3, none⟩ (.slice (some ⟨gr, 0, none⟩) (D.ord.length + 1) cap)).heap[S.B]?) :
    Sys S n0 { D with ord := D.ord ++ [i], oa := some ⟨gr, 0, none⟩, oc := cap, own := upd D.own gr (some .ord) } w' ∧ Keeps D.own (upd D.own gr (some .ord)) w w' := by
  have hgr : ∀ b x, D.own b = some x → x ≠ .ord → b ≠ gr := fun b x hx hne e => by
    subst e
    rcases hat with h | h
    · rw [H.oo b h] at hx; exact hne (Option.some.inj hx).symm
    · have := (H.lt b x hx).2; omega
  have hold : ∀ b x, D.own b = some x → upd D.own gr (some .ord) b = some x := fun b x hx => by
    by_cases e : b = gr
    · subst e
      rw [upd_same]
      refine congrArg some (Classical.byContradiction fun h => ?_)
      exact hgr b x hx (fun z => h z.symm) rfl
    · rw [upd_ne _ _ e]; exact hx
  have hnew : ∀ b x, upd D.own gr (some .ord) b = some x → (b = gr ∧ x = .ord) ∨ (b ≠ gr ∧ D.own b = some x) := fun b x hx => by
    by_cases e : b = gr
    · subst e; rw [upd_same] at hx; exact .inl ⟨rfl, (Option.some.inj hx).symm⟩
    · rw [upd_ne _ _ e] at hx; exact .inr ⟨e, hx⟩
  have hn0 : n0 ≤ w.heap.size := Nat.le_of_lt (Nat.lt_of_le_of_lt (H.lt _ _ H.oB).1 (H.lt _ _ H.oB).2)
  refine ⟨⟨fun b x hx => ?_, fun b x hx => ?_, fun b x hx => ?_, hold _ _ H.oB, hold _ _ H.oS, fun i hi => hold _ _ (H.op i hi), fun i hi => hold _ _ (H.ot i hi), fun i hi => hold _ _ (H.or i hi), fun i hi => hold _ _ (H.oN i hi), fun b e => ?_, ?_, H.n64, H.kn, H.hg0⟩, hs, fun b hb' ho => ?_⟩
  · rcases hnew b x hx with ⟨rfl, rfl⟩ | ⟨hne, hx⟩
    · trivial
    · by_cases eB : b = S.B
      · subst eB
        rw [H.oB] at hx
        cases hx
        obtain ⟨arr, ty, fr, h, h0, h1, h2, h3, hz⟩ := H.good _ _ H.oB
        have hl : 3 < arr.size := (Array.getElem?_eq_some_iff.1 h3).1
        rw [hB, heap_set_self w _ h]
        refine ⟨_, _, _, rfl, ?_, ?_, ?_, ?_, hz⟩
        · rw [Array.getElem?_setIfInBounds_ne (by omega)]; exact h0
        · rw [Array.getElem?_setIfInBounds_ne (by omega)]; exact h1
        · rw [Array.getElem?_setIfInBounds_ne (by omega)]; exact h2
        · rw [Array.getElem?_setIfInBounds_self_of_lt hl]; simp
      · by_cases ho : some b = (Value.slice D.oa D.ord.length D.oc).ownBlock
        · rw [H.oo b ho.symm] at hx; cases hx; trivial
        · rw [hb b (H.lt b x hx).2 eB ho]
          exact (H.good b x hx).of_same (fun i _ => ⟨rfl, rfl⟩) (fun e => absurd (show b = S.B from H.ids b .tB (e ▸ hx)) eB) fun i _ z => z
  · rcases hnew b x hx with ⟨rfl, rfl⟩ | ⟨hne, hx⟩
    · refine ⟨?_, hlt⟩
      rcases hat with h | h
      · exact (H.lt b _ (H.oo b h)).1
      · omega
    · have := H.lt b x hx; omega
  · rcases hnew b x hx with ⟨rfl, rfl⟩ | ⟨hne, hx⟩
    · trivial
    · have h := H.ids b x hx
      cases x <;> exact h
  · simp only [Value.ownBlock, Option.some.injEq] at e
    subst e
    exact upd_same _ _ _
  · simpa using hrow
  · have hne : b ≠ gr := fun e => by
      subst e
      rcases hat with h | h
      · rw [H.oo b h] at ho; cases ho
      · omega
    refine ⟨by rw [upd_ne _ _ hne]; exact ho, hb b hb' (fun e => ?_) fun e => ?_⟩
    · subst e; rw [H.oB] at ho; cases ho
    · rw [H.oo b e.symm] at ho; cases ho
end
end
section
structure Fini {S : Stile} {X : Type} (C : Crew S X) (n0 : Nat) (D : Dyn) (x : X) (w : World) (q j : Nat) : Prop where
  sys : Sys S n0 D w
  inv : C.inv D.k (upd D.own q (some .ord)) x D.cs w
  qo : D.own q = none
  qh : ∃ arr, w.heap[q]? = some (.cells arr 4 (0, 0)) ∧ ∀ i, i < S.n → arr[i]? = some (.bool (decide (i < j) && (C.out x i == some true)))
  hi : ∀ i, j ≤ i → i < S.n → D.f i = D.e i ∧ D.e i = (C.out x i).isSome
  lo : ∀ i, i < j → D.e i = true
  b : ∀ i, i < S.n → D.b i = (C.out x i == some true)
  k : D.k = S.n
section
variable {S : Stile} {X : Type} {C : Crew S X} {n0 : Nat} {D D' : Dyn} {w w' : World} {i j q nG : Nat} {m : Machine} {T : Trace} {l : List Frame} {x : X} {home : Goroutine → Prop}
theorem Fini.lt (H : Fini C n0 D x w q j) : q < w.heap.size := by
  obtain ⟨arr, h, _⟩ := H.qh
  exact (Array.getElem?_eq_some_iff.1 h).1
theorem Fini.next (hs : Sys S n0 D' w) (hi : C.inv D'.k (upd D'.own q (some .ord)) x D'.cs w) (qo : D'.own q = none) (qh : ∃ arr, w.heap[q]? = some (.cells arr 4 (0, 0)) ∧ ∀ i, i < S.n → arr[i]? = some (.bool (decide (i < j) && (C.out x i == some true))))
    (hhi : ∀ i, j + 1 ≤ i → i < S.n → D'.f i = D'.e i ∧ D'.e i = (C.out x i).isSome) (hlo : ∀ i, i < j + 1 → D'.e i = true) (hb : ∀ i, i < S.n → D'.b i = (C.out x i == some true)) (hk : D'.k = S.n) (hj : j < S.n) {br : Bool} (hbr : br = (C.out x j == some true)) (d : Nat) :
    Fini C n0 D' x ((w.setCell ⟨q, j, none⟩ (.bool br)).at d) q (j + 1) := by
  obtain ⟨arr, h, ha⟩ := qh
  refine ⟨Sys.at (hs.same (Nat.le_of_eq (size_set ..).symm) fun b x hx => heap_set_other w _ b _ fun e => ?_) d, C.keep hi ((Keeps.set (a := ⟨q, j, none⟩) (r := .ord) _ (upd_same _ q _)).at d), qo, ⟨_, heap_set_self w _ h, fun i hi => ?_⟩, hhi, hlo, hb, hk⟩
  · subst e; rw [qo] at hx; cases hx
  · have hl : j < arr.size := (Array.getElem?_eq_some_iff.1 (ha j hj)).1
    by_cases e : i = j
    · subst e
      rw [Array.getElem?_setIfInBounds_self_of_lt hl, hbr]
      simp
    · rw [Array.getElem?_setIfInBounds_ne (Ne.symm e), ha i hi]
      have : decide (i < j) = decide (i < j + 1) := by
        by_cases h : i < j
        · simp [h, Nat.lt_succ_of_lt h]
        · have : ¬ i < j + 1 := by omega
          simp [h, this]
      rw [this]
end
end
end Go.Proofs.Ytgfajibjedfkdaa
