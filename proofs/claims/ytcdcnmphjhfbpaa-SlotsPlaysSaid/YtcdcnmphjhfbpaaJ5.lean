/- Part 5. -/
import Derived.Test.YtcdcnmphjhfbpaaJ3
import Derived.Test.YtcdcnmphjhfbpaaJ4
import Derived.Deep.AppendLies
import Derived.Deep.Heap
set_option linter.unusedSimpArgs false
set_option linter.unusedVariables false
set_option maxHeartbeats 8000000
set_option maxRecDepth 100000
namespace Go.Proofs.Ytcdcnmphjhfbpaa
noncomputable section
open Go.Conc Go.RowKit Go.Relay
open Go.ConcN (upd upd_ne upd_same)
section
def bot (S : Stile) (N j : Nat) : List Frame := [fr60 N (S.F j) (.iface 259 (.pointer (some ⟨S.p j, 0, none⟩))), fr78 (S.p j) (S.r j) (S.F j), bornfr]
open Classical in
def wT (S : Stile) (D : Dyn) (i : Nat) : Wait where
 ch := S.t i
 z := .agg #[]
 ok := true
 home := fun g => g = rec139r (S.p i) (S.r i) (S.t i) (D.cs i ++ bot S (D.N i) i)
 f := fun a => if a = ⟨S.p i, 0, none⟩ then some (.chan (some (S.t i))) else none
def VV (S : Stile) (D : Dyn) (m : Option Wait) (x : Option Nat) : Nat -> Option Wait := fun g =>
 if g = 0 then m else if S.g0 <= g /\ g < S.g0 + D.k /\ D.e (g - S.g0) = false /\ x ≠ some (g - S.g0) then some (wT S D (g - S.g0)) else none
structure MW (S : Stile) (j : Nat) (v : Wait) : Prop where
 ch : v.ch = S.r j
 z : v.z = .agg #[]
 ok : v.ok = true
 f : ∀ a, v.f a ≠ none -> a = ⟨S.B, 0, none⟩ ∨ (∃ i, a = ⟨S.sb, i, none⟩) ∨ a = ⟨S.p j, 1, none⟩ ∨ a = ⟨S.p j, 2, none⟩
section
variable {S : Stile} {n0 : Nat} {D D' : Dyn} {w w' : World} {j nG : Nat} {mw : Wait} {m : Machine} {T : Trace} {l : List Frame}
theorem Ni {α : Type} (f : Nat -> α) {j : Nat} {v : α} (h : f j = v) : upd f j v = f := by
 funext i
 by_cases e : i = j
 ·subst e; rw [upd_same, h]
 ·exact upd_ne _ _ e
theorem Nt {α : Type} {c d : Prop} [Decidable c] [Decidable d] {a b : α} (h : c ↔ d) : (if c then a else b) = if d then a else b := by
 by_cases hd : d
 ·rw [if_pos hd, if_pos (h.2 hd)]
 ·rw [if_neg hd, if_neg (fun z => hd (h.1 z))]
theorem VV_zero (o : Option Wait) (x : Option Nat) : VV S D o x 0 = o := by simp [VV]
theorem VV_at {o : Option Wait} {x : Option Nat} (hg : 1 <= S.g0) {i : Nat} (hi : i < D.k) (he : D.e i = false) (hx : x ≠ some i) : VV S D o x (S.g0 + i) = some (wT S D i) := by
 have h0 : S.g0 + i ≠ 0 := by omega
 have h1 : S.g0 + i - S.g0 = i := by omega
 unfold VV
 rw [if_neg h0, h1, if_pos ⟨by omega, by omega, he, hx⟩]
theorem Jo {o : Option Wait} {x : Option Nat} {g : Nat} {v : Wait} (h : VV S D o x g = some v) : (g = 0 /\ o = some v) ∨ ∃ i, i < D.k /\ D.e i = false /\ x ≠ some i /\ g = S.g0 + i /\ v = wT S D i := by
 unfold VV at h
 by_cases h0 : g = 0
 ·rw [if_pos h0] at h; exact .inl ⟨h0, h⟩
 ·rw [if_neg h0] at h
  by_cases hc : S.g0 <= g /\ g < S.g0 + D.k /\ D.e (g - S.g0) = false /\ x ≠ some (g - S.g0)
  ·rw [if_pos hc] at h
   cases h
   exact .inr ⟨g - S.g0, by omega, hc.2.2.1, hc.2.2.2, by omega, rfl⟩
  ·rw [if_neg hc] at h; cases h
theorem Nf {o : Option Wait} {x : Option Nat} (hk : D'.k = D.k) (he : ∀ i, i < D.k -> x ≠ some i -> D'.e i = D.e i /\ D'.cs i = D.cs i /\ D'.N i = D.N i) : VV S D' o x = VV S D o x := by
 funext g
 unfold VV
 by_cases h0 : g = 0
 ·rw [if_pos h0, if_pos h0]
 ·rw [if_neg h0, if_neg h0, hk]
  by_cases hc : S.g0 <= g /\ g < S.g0 + D.k /\ x ≠ some (g - S.g0)
  ·obtain ⟨h1, h2, h3⟩ := he (g - S.g0) (by omega) hc.2.2
   have : wT S D' (g - S.g0) = wT S D (g - S.g0) := by simp only [wT, h2, h3]
   rw [h1, this]
  ·rw [if_neg (fun z => hc ⟨z.1, z.2.1, z.2.2.2⟩), if_neg (fun z => hc ⟨z.1, z.2.1, z.2.2.2⟩)]
theorem after_main : after (VV S D none none) 0 (S.g0 + j) (some mw) = VV S D (some mw) (some j) ∨ S.g0 + j = 0 := by
 by_cases hz : S.g0 + j = 0
 ·exact .inr hz
 refine .inl (funext fun g => ?_)
 unfold after VV
 by_cases e1 : g = S.g0 + j
 ·subst e1
  rw [upd_same, if_neg hz, if_neg]
  rintro ⟨_, _, _, h⟩
  exact h (by rw [Nat.add_sub_cancel_left])
 ·rw [upd_ne _ _ e1]
  by_cases e0 : g = 0
  ·subst e0; rw [upd_same, if_pos rfl]
  ·rw [upd_ne _ _ e0, if_neg e0, if_neg e0]
   refine Nt ⟨fun h => ⟨h.1, h.2.1, h.2.2.1, fun z => ?_⟩, fun h => ⟨h.1, h.2.1, h.2.2.1, by simp⟩⟩
   have := Option.some.inj z; omega
theorem Mw {D' : Dyn} {new : Option Wait} (hj : j < D.k) (hk : D'.k = D.k) (he : ∀ i, i < D.k -> i ≠ j -> D'.e i = D.e i /\ D'.cs i = D.cs i /\ D'.N i = D.N i) (hn : new = if D'.e j = false then some (wT S D' j) else none) :
  after (VV S D (some mw) (some j)) (S.g0 + j) 0 new = VV S D' none none := by
 rw [<- Nf (D' := D') hk fun i hi hx => he i hi fun e => hx (e ▸ rfl)]
 funext g
 unfold after VV
 by_cases e0 : g = 0
 ·subst e0; rw [upd_same, if_pos rfl]
 ·rw [upd_ne _ _ e0, if_neg e0]
  by_cases e1 : g = S.g0 + j
  ·subst e1
   rw [upd_same, hn, Nat.add_sub_cancel_left]
   by_cases hd : D'.e j = false
   ·rw [if_pos hd, if_pos ⟨by omega, by omega, hd, by simp⟩]
   ·rw [if_neg hd, if_neg (fun z => hd z.2.2.1)]
  ·rw [upd_ne _ _ e1, if_neg e0]
   refine Nt ⟨fun h => ⟨h.1, h.2.1, h.2.2.1, by simp⟩, fun h => ⟨h.1, h.2.1, h.2.2.1, fun z => ?_⟩⟩
   have := Option.some.inj z; omega
theorem upd_hire (hk : D'.k = D.k + 1) (he : ∀ i, i < D.k -> D'.e i = D.e i /\ D'.cs i = D.cs i /\ D'.N i = D.N i) : upd (VV S D none none) 0 (some mw) = VV S D' (some mw) (some D.k) := by
 funext g
 unfold VV
 by_cases e0 : g = 0
 ·subst e0; rw [upd_same, if_pos rfl]
 ·rw [upd_ne _ _ e0, if_neg e0, if_neg e0]
  by_cases hc : S.g0 <= g /\ g < S.g0 + D.k
  ·obtain ⟨h1, h2, h3⟩ := he (g - S.g0) (by omega)
   have : wT S D' (g - S.g0) = wT S D (g - S.g0) := by simp only [wT, h2, h3]
   rw [this, h1]
   refine Nt ⟨fun h => ⟨h.1, by omega, h.2.2.1, fun z => ?_⟩, fun h => ⟨h.1, by omega, h.2.2.1, by simp⟩⟩
   have := Option.some.inj z; omega
  ·rw [if_neg (fun z => hc ⟨z.1, z.2.1⟩), if_neg]
   rintro ⟨h1, h2, _, h4⟩
   exact h4 (congrArg some (by omega))
theorem Jp {o : Option Wait} {x : Option Nat} {a : Addr} (hm : ∀ v, o = some v -> v.f a = none) (ha : ∀ i, i < D.k -> a ≠ ⟨S.p i, 0, none⟩) : Di (VV S D o x) a := by
 intro g v h
 rcases Jo h with ⟨_, h⟩ | ⟨i, hi, _, _, _, rfl⟩
 ·exact hm v h
 ·simp only [wT]; rw [if_neg (ha i hi)]
theorem MW.free (hm : MW S j mw) {a : Addr} (h1 : a ≠ ⟨S.B, 0, none⟩) (h2 : ∀ i, a ≠ ⟨S.sb, i, none⟩) (h3 : a ≠ ⟨S.p j, 1, none⟩) (h4 : a ≠ ⟨S.p j, 2, none⟩) : mw.f a = none := by
 refine Classical.byContradiction fun h => ?_
 rcases hm.f a h with z | ⟨i, z⟩ | z | z
 ·exact h1 z
 ·exact h2 i z
 ·exact h3 z
 ·exact h4 z
theorem VV_apart {x : Option Nat} {o : Option Wait} (H : Sys S n0 D w) (hj : j < S.n) (hm : ∀ v, o = some v -> MW S j v) {b : Nat} (hb : D.own b = none) : Bd (VV S D o x) b := by
 have hne : ∀ b' x, D.own b' = some x -> b ≠ b' := fun b' x h e => by subst e; rw [hb] at h; cases h
 refine ⟨fun a ha => Jp (fun v hv => (hm v hv).free ?_ ?_ ?_ ?_) ?_, fun g u h => ?_⟩
 ·rintro rfl; exact hne _ _ H.oB ha.symm
 ·rintro i rfl; exact hne _ _ H.oS ha.symm
 ·rintro rfl; exact hne _ _ (H.op j hj) ha.symm
 ·rintro rfl; exact hne _ _ (H.op j hj) ha.symm
 ·rintro i hi rfl; exact hne _ _ (H.op i (Nat.lt_of_lt_of_le hi H.kn)) ha.symm
 ·rcases Jo h with ⟨_, h⟩ | ⟨i, hi, _, _, _, rfl⟩
  ·rw [(hm u h).ch]; exact (hne _ _ (H.or j hj)).symm
  ·exact (hne _ _ (H.ot i (Nat.lt_of_lt_of_le hi H.kn))).symm
theorem thr_main (H : Sys S n0 D w) (j : Nat) : (S.g0 + j == 0) = false := by
 have := H.hg0
 simp; omega
theorem give_back (H : Sys S n0 D w) (hj : j < D.k) (he : D.e j = false) (hn : 0 < nG) (hm : MW S j mw) (A : At Try.prog (VV S D (some mw) (some j)) (S.g0 + j) nG (rec139s (S.p j) (S.r j) (l ++ bot S (D.N j) j)) w m T) :
  Relay.Comes Try.prog (fun m' T' => ∃ g₂ d k, mw.home g₂ /\ w.heap[S.r j]? = some (.chan 0 #[] false k k false) /\ At Try.prog (VV S { D with cs := upd D.cs j l } none none) 0 nG (Go.Conc.served g₂ (recvd true (.agg #[]) true)) ((w.at d).setChan (S.r j) 0 #[] false (k + 1) (k + 1) false) m' T') m T := by
 have hjn : j < S.n := Nat.lt_of_lt_of_le hj H.kn
 have hg0 := H.hg0
 obtain ⟨z', es, hes, hs⟩ := send139 (main := S.g0 + j == 0) (V := VV S D (some mw) (some j)) (S.p j) (S.r j) (l ++ bot S (D.N j) j) w
 refine (A.give (v := mw) (x := .agg #[]) (j := 0) (new := some (wT S { D with cs := upd D.cs j l } j)) (by omega) hn (VV_zero _ _) rfl (by rw [hm.ch]; exact hs) hes ⟨?_, ?_, ?_, ?_⟩).mono ?_
 ·intro a y hy
  simp only [wT] at hy
  by_cases ea : a = ⟨S.p j, 0, none⟩
  ·rw [if_pos ea] at hy; cases hy; subst ea; exact H.p0 hjn
  ·rw [if_neg ea] at hy; cases hy
 ·exact H.good _ _ (H.ot j hjn) he
 ·intro i u hi hu
  rcases Jo hu with ⟨z, _⟩ | ⟨i', hi', _, hx, _, rfl⟩
  ·exact absurd z hi
  ·exact H.two (H.ot i' (Nat.lt_of_lt_of_le hi' H.kn)) (H.ot j hjn) fun e => hx (by cases e; rfl)
 ·refine (way139 (S.p j) (S.r j) (S.t j) (l ++ bot S (D.N j) j) _ rfl rfl rfl (by simp [wT]) ?_).waits
  simp only [wT, upd_same]
 ·rintro m' T' ⟨g₂, d, k, hh, hc, A'⟩
  refine ⟨g₂, d, k, hh, hm.ch ▸ hc, ?_⟩
  rw [Mw (D' := { D with cs := upd D.cs j l }) hj rfl (fun i _ hi => ⟨rfl, upd_ne _ _ hi, rfl⟩) (by rw [if_pos he]), hm.ch, hm.ok] at A'
  exact A'
theorem shut_back (H : Sys S n0 D w) (hj : j < D.k) (he : D.e j = true) (hn : 0 < nG) (hm : MW S j mw) {F : Value} {bk br : Bool} (A : At Try.prog (VV S D (some mw) (some j)) (S.g0 + j) nG (rec78 (S.p j) (S.r j) F bk br) w m T) :
  Relay.Comes Try.prog (fun m' T' => ∃ g₂ d k, mw.home g₂ /\ At Try.prog (VV S D none none) 0 nG (Go.Conc.served g₂ (recvd true (.agg #[]) false)) ((w.at d).setChan (S.r j) 0 #[] true k k false) m' T') m T := by
 have hg0 := H.hg0
 refine (A.shut (v := mw) (j := 0) (new := none) (a' := G { (rec78 (S.p j) (S.r j) F bk br).frame with defers := [] } [bornfr]) (by omega) hn (VV_zero _ _) rfl (wake78 ..) rfl (fun d k hk => ?_) ⟨by omega, 2, quit78 ..⟩).mono ?_
 ·rw [hm.ch] at hk ⊢
  exact close78 _ _ _ _ _ _ k hk
 ·rintro m' T' ⟨g₂, d, k, hh, A'⟩
  refine ⟨g₂, d, k, hh, ?_⟩
  rw [Mw (D' := D) hj rfl (fun i _ hi => ⟨rfl, rfl, rfl⟩) (by rw [he]; rfl), hm.ch, hm.ok, hm.z] at A'
  exact A'
end
end
section
structure Keeps (o o' : Nat -> Option Role) (w w' : World) : Prop where
 size : w.heap.size <= w'.heap.size
 same : ∀ b, b < w.heap.size -> o b = none -> o' b = none /\ w'.heap[b]? = w.heap[b]?
theorem Keeps.refl (o : Nat -> Option Role) (w : World) : Keeps o o w w := ⟨Nat.le_refl _, fun _ _ h => ⟨h, rfl⟩⟩
theorem Keeps.trans {o o' o'' : Nat -> Option Role} {w w' w'' : World} (h : Keeps o o' w w') (k : Keeps o' o'' w' w'') : Keeps o o'' w w'' :=
 ⟨Nat.le_trans h.size k.size, fun b hb ho => by
  obtain ⟨h1, h2⟩ := h.same b hb ho
  obtain ⟨k1, k2⟩ := k.same b (Nat.lt_of_lt_of_le hb h.size) h1
  exact ⟨k1, k2.trans h2⟩⟩
theorem Keeps.at {o o' : Nat -> Option Role} {w w' : World} (h : Keeps o o' w w') (d : Nat) : Keeps o o' w (w'.at d) := ⟨h.size, h.same⟩
theorem Keeps.alloc (o : Nat -> Option Role) (w : World) (x : Obj) : Keeps o o w (w.alloc x) := ⟨by simp, fun b hb ho => ⟨ho, Ad w x hb⟩⟩
theorem Keeps.set {o : Nat -> Option Role} {w : World} {a : Addr} {r : Role} (v : Value) (h : o a.block = some r) : Keeps o o w (w.setCell a v) :=
 ⟨Nat.le_of_eq (Af ..).symm, fun b _ ho => ⟨ho, Ab w a b v fun e => by subst e; rw [h] at ho; cases ho⟩⟩
theorem Keeps.chan {o : Nat -> Option Role} {w : World} {c : Nat} {r : Role} (h : o c = some r) (cl : Bool) (k : Nat) : Keeps o o w (w.setChan c 0 #[] cl k k false) :=
 ⟨by simp [World.setChan], fun b _ ho => ⟨ho, heap_setChan_ne w _ _ _ _ _ _ fun e => by subst e; rw [h] at ho; cases ho⟩⟩
def Cf (f : Frame) : Prop := f.defers = [] /\ f.mode = .run /\ ∃ fn, Try.prog.funcs[f.fn]? = some fn
def Fin {X : Type} (inv : Nat -> (Nat -> Option Role) -> X -> (Nat -> List Frame) -> World -> Prop) (out : X -> Nat -> Option Bool) (S : Stile) (k : Nat) (o : Nat -> Option Role) (x : X) (cs : Nat -> List Frame) (i : Nat) (f : Frame) (fs : List Frame) (w : World) (g : Goroutine) (w' : World) : Prop :=
 w.heap.size <= w'.heap.size /\ (∀ b r, o b = some r -> w'.heap[b]? = w.heap[b]?) /\ ∃ l, inv k o x (upd cs i l) w' /\
  ((out x i = none /\ g = G (Frame.enter Try.prog 229 #[.pointer (some ⟨S.p i, 0, none⟩)] .normal) (l ++ f :: fs)) ∨
   (out x i = some false /\ g = G (f.finish (.tuple #[])) fs) ∨
   (out x i = some true /\ ∃ t v, t ≠ 266 /\ g = G (f.raise [{ v := .iface t v, recovered := false }]) fs))
structure Crew (S : Stile) (X : Type) where
 inv : Nat -> (Nat -> Option Role) -> X -> (Nat -> List Frame) -> World -> Prop
 born : X -> Nat -> X
 next : X -> Nat -> X
 out : X -> Nat -> Option Bool
 cnt : X -> Nat
 cntBorn : ∀ x i, cnt (born x i) = cnt x
 cntNext : ∀ x i, cnt (next x i) = cnt x + 1
 keep : ∀ {k : Nat} {o o' : Nat -> Option Role} {x : X} {cs : Nat -> List Frame} {w w' : World}, inv k o x cs w -> Keeps o o' w w' -> inv k o' x cs w'
 bornOut : ∀ x i j, j ≠ i -> out (born x i) j = out x j
 nextOut : ∀ x i j, j ≠ i -> out (next x i) j = out x j
 shape : ∀ {k : Nat} {o : Nat -> Option Role} {x : X} {cs : Nat -> List Frame} {w : World} {i : Nat}, inv k o x cs w -> i < k -> out x i = none -> (∃ c l, cs i = c :: l) /\ ∀ f ∈ cs i, Cf f
 thr : ∀ {k : Nat} {o : Nat -> Option Role} {x : X} {cs : Nat -> List Frame} {w : World} {i : Nat}, inv k o x cs w -> k <= i -> i < S.n -> w.cell? ⟨S.tb, i, none⟩ = some (S.F i)
 sch : ∀ {k : Nat} {o : Nat -> Option Role} {x : X} {cs : Nat -> List Frame} {w : World} {j : Nat} {z : Int}, inv k o x cs w -> S.sl[j]? = some z -> ∃ s so, S.sa = some ⟨s, so, none⟩ /\ w.cell? ⟨s, so + j, none⟩ = some (.int .i64 z)
 start : ∀ {k : Nat} {o : Nat -> Option Role} {x : X} {cs : Nat -> List Frame} {w : World} {V : Nat -> Option Wait} (f : Frame) (fs : List Frame), inv k o x cs w -> k < S.n -> cnt x < 1048576 -> (∀ b, o b = none -> Bd V b) -> (∀ b r, o b = some r -> b < w.heap.size) ->
  (∃ fi fn first cap, S.F k = .func (.func fi) first cap /\ Try.prog.funcs[fi]? = some fn /\ (fn.name == "runtime.NumGoroutine") = false /\ fn.body.isNone = false /\
   Walk Try.prog false (DR V) (Fin inv out S (k + 1) o (born x k) cs k f fs w) (G (Frame.enter Try.prog fi (first ++ #[.iface 259 (.pointer (some ⟨S.p k, 0, none⟩))] ++ cap) .normal) (f :: fs)) w) ∨
  (S.F k = .nilFunc /\ out (born x k) k = some false /\ inv (k + 1) o (born x k) (upd cs k []) w)
 go : ∀ {k : Nat} {o : Nat -> Option Role} {x : X} {cs : Nat -> List Frame} {w : World} {V : Nat -> Option Wait} {i : Nat} {c : Frame} {l : List Frame} (f : Frame) (fs : List Frame), inv k o x cs w -> i < k -> out x i = none -> cs i = c :: l -> cnt x < 1048576 -> (∀ b, o b = none -> Bd V b) -> (∀ b r, o b = some r -> b < w.heap.size) ->
  Walk Try.prog false (DR V) (Fin inv out S k o (next x i) cs i f fs w) (G (c.finish (.tuple #[])) (l ++ f :: fs)) w
def Bf (D : Dyn) (j : Nat) (l : List Frame) (o : Option Bool) : Dyn := { D with cs := upd D.cs j l, e := upd D.e j o.isSome, b := upd D.b j (o == some true) }
section
variable {S : Stile} {n0 : Nat} {D D' : Dyn} {w w' : World} {j nG : Nat} {mw : Wait} {m : Machine} {T : Trace} {l : List Frame}
theorem Sys.cs (H : Sys S n0 D w) (c : Nat -> List Frame) : Sys S n0 { D with cs := c } w :=
 H.put rfl rfl rfl rfl rfl rfl (Nat.le_refl _) (fun b x _ h => by cases x <;> exact h) fun _ _ => rfl
theorem Jf (H : Sys S n0 D w) (hj : j < S.n) (hm : MW S j mw) {b i : Nat} {r : Role} (hb : D.own b = some r) (hr : (∃ a, r = .nn a) ∨ (r = .p j /\ i = 3)) : Di (VV S D (some mw) (some j)) ⟨b, i, none⟩ := by
 have hne : ∀ b' x i', D.own b' = some x -> r ≠ x -> (⟨b, i, none⟩ : Addr) ≠ ⟨b', i', none⟩ := fun b' x i' h hx e => H.two hb h hx (congrArg Addr.block e)
 have hoff : r = .p j /\ i = 3 -> ∀ b' i', i' ≠ 3 -> (⟨b, i, none⟩ : Addr) ≠ ⟨b', i', none⟩ := fun h b' i' h' e => h' ((congrArg Addr.off e).symm.trans h.2)
 refine Jp (fun v hv => ?_) fun i' hi' => ?_
 ·cases hv
  refine hm.free ?_ ?_ ?_ ?_
  ·exact hne _ _ _ H.oB (by rcases hr with ⟨a, rfl⟩ | ⟨rfl, _⟩ <;> simp)
  ·exact fun i' => hne _ _ _ H.oS (by rcases hr with ⟨a, rfl⟩ | ⟨rfl, _⟩ <;> simp)
  ·rcases hr with ⟨a, rfl⟩ | h
   ·exact hne _ _ _ (H.op j hj) (by simp)
   ·exact hoff h _ _ (by omega)
  ·rcases hr with ⟨a, rfl⟩ | h
   ·exact hne _ _ _ (H.op j hj) (by simp)
   ·exact hoff h _ _ (by omega)
 ·rcases hr with ⟨a, rfl⟩ | h
  ·exact hne _ _ _ (H.op i' (Nat.lt_of_lt_of_le hi' H.kn)) (by simp)
  ·exact hoff h _ _ (by omega)
theorem Gt (H : Sys S n0 D w) (hj : j < D.k) (hn : 0 < nG) (hm : MW S j mw) (br : Bool) {g : Goroutine} {W : World} (hKW : Keeps D.own D.own w W) (HW : Sys S n0 { D with e := upd D.e j true } W)
  (hW : Walk Try.prog (S.g0 + j == 0) (DR (VV S D (some mw) (some j))) (fun g w' => ∃ bk, g = G ((fr78 (S.p j) (S.r j) (S.F j)).finish (.tuple #[.bool bk, .bool br])) [bornfr] /\ ∃ d, w' = W.at d) g w)
  (A : At Try.prog (VV S D (some mw) (some j)) (S.g0 + j) nG g w m T) (l : List Frame) :
  Relay.Comes Try.prog (fun m' T' => ∃ g₂ w', mw.home g₂ /\ At Try.prog (VV S (Bf D j l (some br)) none none) 0 nG (Go.Conc.served g₂ (recvd true (.agg #[]) false)) w' m' T' /\ Sys S n0 (Bf D j l (some br)) w' /\ Keeps D.own D.own w w') m T := by
 have hjn : j < S.n := Nat.lt_of_lt_of_le hj H.kn
 refine (At.walk (Stop := fun g w' => ∃ bk d, g = rec78 (S.p j) (S.r j) (S.F j) bk br /\ w' = (W.setCell ⟨S.p j, 3, none⟩ (.bool br)).at d) (hW.then ?_) A).bind ?_
 ·rintro g' w' ⟨bk, rfl, d, rfl⟩
  refine Walk.back ?_ d
  refine (run_out (S.p j) (S.r j) (S.F j) bk br (D.b j) W (HW.p3 hjn) (HW.pz hjn 3) (Jf H hjn hm (H.op j hjn) (.inr ⟨rfl, rfl⟩))).mono ?_
  rintro g w' ⟨rfl, d, rfl⟩
  exact ⟨bk, d, rfl, rfl⟩
 ·rintro m' T' ⟨g', w', ⟨bk, d, rfl, rfl⟩, A'⟩
  have hb : (some br == some true) = br := by cases br <;> rfl
  have H2 : Sys S n0 (Bf D j l (some br)) ((W.setCell ⟨S.p j, 3, none⟩ (.bool br)).at d) := by
   have := ((HW.brk hjn br).cs (upd D.cs j l)).at d
   simpa only [Bf, Option.isSome_some, hb] using this
  have hV : VV S (Bf D j l (some br)) (some mw) (some j) = VV S D (some mw) (some j) := Nf rfl fun i _ hx => by
   have : i ≠ j := fun e => hx (e ▸ rfl)
   simp only [Bf, upd_ne _ _ this, and_self]
  rw [<- hV] at A'
  refine (shut_back H2 hj (by simp only [Bf, upd_same, Option.isSome_some]) hn hm A').mono ?_
  rintro m2 T2 ⟨g₂, d2, k, hh, A2⟩
  refine ⟨g₂, _, hh, A2, (H2.at d2).shut (j := j) (by simp only [Bf, upd_same, Option.isSome_some]) (.inr (H.or j hjn)), ?_⟩
  exact hKW.trans (((Keeps.set _ (H.op j hjn)).at d).trans ((Keeps.at (Keeps.refl _ _) d2).trans (Keeps.chan (H.or j hjn) true k)))
end
section
variable {S : Stile} {X : Type} {C : Crew S X} {n0 : Nat} {D D' : Dyn} {w w' : World} {j nG : Nat} {mw : Wait} {m : Machine} {T : Trace} {l : List Frame} {x : X}
theorem fin_back {w0 : World} {g : Goroutine} (H : Sys S n0 D w) (hj : j < D.k) (he : D.e j = false) (hb : D.b j = false) (hn : 0 < nG) (hm : MW S j mw)
  (hF : Fin C.inv C.out S D.k D.own x D.cs j (fr60 (D.N j) (S.F j) (.iface 259 (.pointer (some ⟨S.p j, 0, none⟩)))) [fr78 (S.p j) (S.r j) (S.F j), bornfr] w0 g w)
  (A : At Try.prog (VV S D (some mw) (some j)) (S.g0 + j) nG g w m T) :
  Relay.Comes Try.prog (fun m' T' => ∃ g₂ w' l, mw.home g₂ /\ At Try.prog (VV S (Bf D j l (C.out x j)) none none) 0 nG (Go.Conc.served g₂ (recvd true (.agg #[]) (C.out x j).isNone)) w' m' T' /\ Sys S n0 (Bf D j l (C.out x j)) w' /\ C.inv D.k D.own x (upd D.cs j l) w') m T := by
 have hjn : j < S.n := Nat.lt_of_lt_of_le hj H.kn
 obtain ⟨_, _, l, hI, hF⟩ := hF
 have hN := (Ac (H.good _ _ (H.oN j hj) he) 0)
 have hNz := Aq (H.good _ _ (H.oN j hj) he) 0
 have hfN : Di (VV S D (some mw) (some j)) ⟨D.N j, 0, none⟩ := Jf H hjn hm (H.oN j hj) (.inl ⟨_, rfl⟩)
 rcases hF with ⟨ho, rfl⟩ | ⟨ho, rfl⟩ | ⟨ho, t, v, ht, rfl⟩
 ·refine (At.walk (Stop := fun g w' => g = rec139s (S.p j) (S.r j) (l ++ bot S (D.N j) j) /\ ∃ d, w' = w.at d) (step_send _ _ _ _ (H.p1 hjn) (.stop fun d => ⟨rfl, d, rfl⟩)) A).bind ?_
  rintro m' T' ⟨g', w', ⟨rfl, d, rfl⟩, A'⟩
  refine (give_back (H.at d) hj he hn hm A').mono ?_
  rintro m2 T2 ⟨g₂, d2, k, hh, hc, A2⟩
  have hD : Bf D j l (C.out x j) = { D with cs := upd D.cs j l } := by
   rw [ho]; simp only [Bf, Option.isSome_none]
   rw [Ni _ he, show ((none : Option Bool) == some true) = false from rfl, Ni _ hb]
  refine ⟨g₂, _, l, hh, by rw [hD, ho]; exact A2, ?_, C.keep hI ((Keeps.at (Keeps.refl _ _) d).trans ((Keeps.at (Keeps.refl _ _) d2).trans (Keeps.chan (H.or j hjn) false (k + 1))))⟩
  rw [hD]
  exact (((H.at d).at d2).chan hc ⟨j, .inr (H.or j hjn)⟩).cs _
 ·refine (Gt H hj hn hm false (Keeps.set (.bool false) (H.oN j hj)) (H.ride hj (.bool false)) (g := G ((fr60 (D.N j) (S.F j) (.iface 259 (.pointer (some ⟨S.p j, 0, none⟩)))).finish (.tuple #[])) [fr78 (S.p j) (S.r j) (S.F j), bornfr]) ?_ A l).mono ?_
  ·refine (ride_done (D.N j) _ _ _ _ w false hN hNz hfN).mono ?_
   rintro g w' ⟨rfl, d, rfl⟩
   exact ⟨true, rfl, d, rfl⟩
  ·rintro m2 T2 ⟨g₂, w', hh, A2, H2, K2⟩
   rw [ho]
   exact ⟨g₂, w', l, hh, A2, H2, C.keep hI K2⟩
 ·refine (Gt H hj hn hm true ((Keeps.alloc _ w (.cells #[] 266)).trans (Keeps.set (.bool true) (H.oN j hj))) ((H.alloc (.cells #[] 266)).ride hj (.bool true)) (g := G ((fr60 (D.N j) (S.F j) (.iface 259 (.pointer (some ⟨S.p j, 0, none⟩)))).raise [{ v := .iface t v, recovered := false }]) [fr78 (S.p j) (S.r j) (S.F j), bornfr]) ?_ A l).mono ?_
  ·refine (ride_broke (D.N j) _ _ t v ht _ _ w false hN hNz hfN).mono ?_
   rintro g w' ⟨rfl, d, rfl⟩
   exact ⟨false, rfl, d, rfl⟩
  ·rintro m2 T2 ⟨g₂, w', hh, A2, H2, K2⟩
   rw [ho]
   exact ⟨g₂, w', l, hh, A2, H2, C.keep hI K2⟩
end
end
section
variable {main : Bool} {V : Nat -> Option Wait}
def ops79 : Array Oper := match Try.f170.body with | some (.seq (.region _ ops _) _) => ops | _ => #[]
def rest79 : Code := match Try.f170.body with | some (.seq _ c) => c | _ => .skip
def Mk (B p : Nat) : Frame :=
 (base 170).at { tmps := #[.pointer (some ⟨B, 0, none⟩), .pointer (some ⟨p, 0, none⟩), undef, undef, .pointer (some ⟨p, 0, none⟩), undef, undef, undef, undef, undef, undef, undef, undef, undef, undef, undef, undef], defers := [] } [.inRegion ops79 [1], .code rest79]
theorem way79 (B p r : Nat) (cs : List Frame) (v : Wait) (hch : v.ch = r) (hz : v.z = .agg #[]) (hok : v.ok = true) (hf : v.f ⟨p, 1, none⟩ = some (.chan (some r))) (hh : v.home (rec107 p r (Mk B p :: cs))) :
  Yonder Try.prog main v (G (Frame.enter Try.prog 170 #[.pointer (some ⟨B, 0, none⟩), .pointer (some ⟨p, 0, none⟩)] .normal) cs) := by
 rw [enter_at _ Try.func170 rfl]
 simp only [Try.f170, Option.getD_some, List.size_toArray, List.length_cons, List.length_nil, Nat.reduceAdd, Nat.reduceSub, Array.replicate_succ, Array.replicate_zero, List.push_toArray, List.append_toArray, List.nil_append, List.cons_append]
 iterate 3 (try (first | refine Yonder.c rfl ?_ | refine Yonder.cR ?_ | refine De ?_ | refine Yonder.cT ?_ | (refine Yonder.oq ?_; try walk_nrm)))
 refine Yonder.callE rfl (by rfl) (by decide) rfl Try.func189 (by kernel_rfl) (by rfl) ?_
 walk_nrm
 refine way107 p r _ v hch hz hok hf ?_
 simp only [Mk, ops79, rest79, Try.f170] at hh
 exact hh
def Fy (w : World) (B p : Nat) (going : Int) (ok : Bool) : World :=
 if ok then (w.alloc (.cells #[] 90)).setCell ⟨p, 2, none⟩ (.bool false) else ((w.alloc (.cells #[] 90)).setCell ⟨p, 2, none⟩ (.bool true)).setCell ⟨B, 1, none⟩ (.int .i64 (going - 1))
theorem serve79 (B p r : Nat) (c : Frame) (cs : List Frame) (ok e0 : Bool) (going : Int) (w : World) (hg1 : 1 <= going) (hg2 : going <= 64) (hBp : B ≠ p) (h2 : w.cell? ⟨p, 2, none⟩ = some (.bool e0)) (hz2 : w.frozen? ⟨p, 2, none⟩ = false) (hfr : Di V ⟨p, 2, none⟩)
  (h1 : w.cell? ⟨B, 1, none⟩ = some (.int .i64 going)) (hz1 : w.frozen? ⟨B, 1, none⟩ = false) (hfr1 : Di V ⟨B, 1, none⟩) :
  Walk Try.prog main (DR V) (fun g w' => g = G (c.finish (.tuple #[])) cs /\ ∃ d, w' = (Fy w B p going ok).at d) (Go.Conc.served (rec107 p r (Mk B p :: c :: cs)) (recvd true (.agg #[]) ok)) w := by
 refine (serve107 p r (Mk B p) (c :: cs) ok e0 w h2 hz2 hfr).then ?_
 rintro g w' ⟨rfl, d, rfl⟩
 refine Walk.back ?_ d
 have ha := Ai w (.cells #[] 90) h2
 have hb := Ai w (.cells #[] 90) h1
 have hbz := Br w (.cells #[] 90) h1 hz1
 have hne : (⟨p, 2, none⟩ : Addr) ≠ ⟨B, 1, none⟩ := fun e => by cases e
 have g2 := World.cell?_setCell_same (w.alloc (.cells #[] 90)) ⟨p, 2, none⟩ (.bool (!ok)) ha
 have g1 := (World.cell?_setCell_other (w.alloc (.cells #[] 90)) ⟨p, 2, none⟩ ⟨B, 1, none⟩ (.bool (!ok)) hne).trans hb
 have g1z : ((w.alloc (.cells #[] 90)).setCell ⟨p, 2, none⟩ (.bool (!ok))).frozen? ⟨B, 1, none⟩ = false := by rw [World.frozen?_setCell]; exact hbz
 generalize hW : (w.alloc (.cells #[] 90)).setCell ⟨p, 2, none⟩ (.bool (!ok)) = W at g1 g2 g1z ⊢
 unfold Mk
 rw [Frame.finish_at]
 simp only [ops79, rest79, Try.f170]
 walk_nrm
 cases ok with
 | true =>
  simp only [Bool.not_true] at g2 hW
  refine Ae ?_
  exact Walk.ctl rfl (fun w => stepG_leave rfl rfl Try.func170 (results_none rfl _ _ w) (events_results_none rfl _ _)) (.stop fun d => ⟨rfl, d, by rw [<- hW]; rfl⟩)
 | false =>
  simp only [Bool.not_false] at g2 hW
  have hw1 : IntKind.wrap .i64 (going - 1) = going - 1 := by rw [IntKind.wrap_i64]; omega
  refine Ae ?_
  (refine Walk.os hfr1 g1 ?_; try walk_nrm)
  refine Ae ?_
  exact Walk.ctl rfl (fun w => stepG_leave rfl rfl Try.func170 (results_none rfl _ _ w) (events_results_none rfl _ _)) (.stop fun d => ⟨rfl, d, by rw [<- hW]; rfl⟩)
end
section
variable {main : Bool} {V : Nat -> Option Wait}
def Gp : Code := match Try.f172.body with | some (.seq _ (.seq _ c)) => c | _ => .skip
def Nq : Array Oper := match Gp with | .seq (.region _ ops _) _ => ops | _ => #[]
def In : Code := match Gp with | .seq _ c => c | _ => .skip
def ops81w : Array Oper := match In with | .region _ ops _ => ops | _ => #[]
def Hp (B sb n scap i p ct N : Nat) (old new : Value) (cs : List Frame) : Goroutine :=
 G ((base 172).at { tmps := #[.pointer (some ⟨B, 0, none⟩), .int .i64 i, undef, undef, .int .i64 i, .bool false, .bool false, .int .i64 i, .pointer (some ⟨B, 0, none⟩), .pointer (some ⟨B, 0, none⟩), .pointer (some ⟨B, 0, none⟩), .slice (some ⟨sb, 0, none⟩) n scap, .int .i64 n, .bool false, .bool false, .bool false, .pointer (some ⟨B, 0, none⟩), .pointer (some ⟨B, 0, none⟩), .pointer (some ⟨B, 0, none⟩), .slice (some ⟨sb, 0, none⟩) n scap, .int .i64 i, .pointer (some ⟨sb, i, none⟩), .pointer (some ⟨p, 0, none⟩), .pointer (some ⟨p, 0, none⟩), .pointer (some ⟨p, 2, none⟩), .bool false, .bool false, .bool false, .pointer (some ⟨B, 0, none⟩), .bool false, .bool false, .pointer (some ⟨B, 0, none⟩), .pointer (some ⟨B, 0, none⟩), .pointer (some ⟨B, 0, none⟩), .pointer (some ⟨B, 3, none⟩), old, .int .i64 i, .slice (some ⟨N, 0, none⟩) 1 1, new, .pointer (some ⟨B, 0, none⟩), .pointer (some ⟨B, 3, none⟩), .pointer (some ⟨B, 0, none⟩), .pointer (some ⟨B, 0, none⟩), .pointer (some ⟨B, 0, none⟩), .slice (some ⟨sb, 0, none⟩) n scap, .int .i64 i, .pointer (some ⟨sb, i, none⟩), .pointer (some ⟨p, 0, none⟩), .pointer (some ⟨p, 0, none⟩), .pointer (some ⟨p, 0, none⟩), .chan (some ct), .agg #[], undef, undef, undef, undef, undef, undef, undef, undef, undef], defers := [] } [.inRegion Nq [11], .code In]) cs
def fr81 (B sb n scap i p ct N : Nat) (old new : Value) : Frame :=
 (base 172).at { tmps := #[.pointer (some ⟨B, 0, none⟩), .int .i64 i, undef, undef, .int .i64 i, .bool false, .bool false, .int .i64 i, .pointer (some ⟨B, 0, none⟩), .pointer (some ⟨B, 0, none⟩), .pointer (some ⟨B, 0, none⟩), .slice (some ⟨sb, 0, none⟩) n scap, .int .i64 n, .bool false, .bool false, .bool false, .pointer (some ⟨B, 0, none⟩), .pointer (some ⟨B, 0, none⟩), .pointer (some ⟨B, 0, none⟩), .slice (some ⟨sb, 0, none⟩) n scap, .int .i64 i, .pointer (some ⟨sb, i, none⟩), .pointer (some ⟨p, 0, none⟩), .pointer (some ⟨p, 0, none⟩), .pointer (some ⟨p, 2, none⟩), .bool false, .bool false, .bool false, .pointer (some ⟨B, 0, none⟩), .bool false, .bool false, .pointer (some ⟨B, 0, none⟩), .pointer (some ⟨B, 0, none⟩), .pointer (some ⟨B, 0, none⟩), .pointer (some ⟨B, 3, none⟩), old, .int .i64 i, .slice (some ⟨N, 0, none⟩) 1 1, new, .pointer (some ⟨B, 0, none⟩), .pointer (some ⟨B, 3, none⟩), .pointer (some ⟨B, 0, none⟩), .pointer (some ⟨B, 0, none⟩), .pointer (some ⟨B, 0, none⟩), .slice (some ⟨sb, 0, none⟩) n scap, .int .i64 i, .pointer (some ⟨sb, i, none⟩), .pointer (some ⟨p, 0, none⟩), .pointer (some ⟨p, 0, none⟩), .pointer (some ⟨p, 0, none⟩), .chan (some ct), .agg #[], .pointer (some ⟨B, 0, none⟩), .pointer (some ⟨B, 0, none⟩), .pointer (some ⟨B, 0, none⟩), .pointer (some ⟨B, 0, none⟩), .slice (some ⟨sb, 0, none⟩) n scap, .int .i64 i, .pointer (some ⟨sb, i, none⟩), .pointer (some ⟨p, 0, none⟩), undef], defers := [] } [.inRegion ops81w [8]]
theorem way81 (B sb n scap i p ct r N : Nat) (old new : Value) (cs : List Frame) (v : Wait) (hin : i < n) (hch : v.ch = r) (hz : v.z = .agg #[]) (hok : v.ok = true) (hf0 : v.f ⟨B, 0, none⟩ = some (.slice (some ⟨sb, 0, none⟩) n scap)) (hfi : v.f ⟨sb, i, none⟩ = some (.pointer (some ⟨p, 0, none⟩)))
  (hf1 : v.f ⟨p, 1, none⟩ = some (.chan (some r))) (hh : v.home (rec107 p r (Mk B p :: fr81 B sb n scap i p ct N old new :: cs))) : Yonder Try.prog main v (Go.Conc.served (Hp B sb n scap i p ct N old new cs) undef) := by
 unfold Hp
 rw [served_fr, Frame.finish_at]
 simp only [Nq, In, Gp, Try.f172]
 walk_nrm
 have hi0 : (0 : Int) <= i := by omega
 have hi1 : decide ((i : Int) < 0) = false := by simp
 have hi2 : decide (n <= i) = false := by simp; omega
 iterate 7 (try (first | refine Yonder.c rfl ?_ | refine Yonder.cR ?_ | refine De ?_ | refine Yonder.cT ?_ | (refine Yonder.oq ?_; try walk_nrm)))
 co_applyP Gm _ hf0 rfl (by rfl) (by decide) ?krun1 ?kev1 ?krest1; (case krun1 => (intro w hw K hK; have hcx := hw _ _ hf0; go_simp; exact hK)); (case kev1 => (intro w hw e he; have hcx := hw _ _ hf0; simp [go_sem, *] at he; exact he)); try walk_nrm
 iterate 2 (try (first | refine Yonder.c rfl ?_ | refine Yonder.cR ?_ | refine De ?_ | refine Yonder.cT ?_ | (refine Yonder.oq ?_; try walk_nrm)))
 co_applyP Gm _ hfi rfl (by rfl) (by decide) ?krun2 ?kev2 ?krest2; (case krun2 => (intro w hw K hK; have hcx := hw _ _ hfi; go_simp; exact hK)); (case kev2 => (intro w hw e he; have hcx := hw _ _ hfi; simp [go_sem, *] at he; exact he)); try walk_nrm
 refine Yonder.callE rfl (by rfl) (by decide) rfl Try.func170 (by kernel_rfl) (by rfl) ?_
 walk_nrm
 refine way79 B p r _ v hch hz hok hf1 ?_
 simp only [fr81, ops81w, In, Gp, Try.f172] at hh
 exact hh
theorem serve81 (B sb n scap i p ct r N : Nat) (old new : Value) (c : Frame) (cs : List Frame) (ok e0 : Bool) (going : Int) (w : World) (hg1 : 1 <= going) (hg2 : going <= 64) (hBp : B ≠ p) (h2 : w.cell? ⟨p, 2, none⟩ = some (.bool e0)) (hz2 : w.frozen? ⟨p, 2, none⟩ = false) (hfr : Di V ⟨p, 2, none⟩)
  (h1 : w.cell? ⟨B, 1, none⟩ = some (.int .i64 going)) (hz1 : w.frozen? ⟨B, 1, none⟩ = false) (hfr1 : Di V ⟨B, 1, none⟩) :
  Walk Try.prog main (DR V) (fun g w' => g = G (c.finish (.tuple #[])) cs /\ ∃ d, w' = (Fy w B p going ok).at d) (Go.Conc.served (rec107 p r (Mk B p :: fr81 B sb n scap i p ct N old new :: c :: cs)) (recvd true (.agg #[]) ok)) w := by
 refine (serve79 B p r (fr81 B sb n scap i p ct N old new) (c :: cs) ok e0 going w hg1 hg2 hBp h2 hz2 hfr h1 hz1 hfr1).then ?_
 rintro g w' ⟨rfl, d, rfl⟩
 refine Walk.back ?_ d
 unfold fr81
 rw [Frame.finish_at]
 simp only [ops81w, In, Gp, Try.f172]
 walk_nrm
 refine Ae ?_
 exact Walk.ctl rfl (fun w => stepG_leave rfl rfl Try.func172 (results_none rfl _ _ w) (events_results_none rfl _ _)) (.stop fun d => ⟨rfl, d, rfl⟩)
end
section
section
variable {S : Stile} {n0 : Nat} {D D' : Dyn} {w w' : World} {j : Nat}
theorem Sys.flag (H : Sys S n0 D w) (hj : j < S.n) (x : Bool) : Sys S n0 { D with f := upd D.f j x } (w.setCell ⟨S.p j, 2, none⟩ (.bool x)) := by
 refine H.put rfl rfl rfl rfl rfl rfl (Nat.le_of_eq (Af ..).symm) (fun b y hy h => ?_) fun b hb => ?_
 ·by_cases e : b = S.p j
  ·subst e
   rw [H.op j hj] at hy
   cases hy
   rw [Am w _ (H.pp hj)]
   simp [Good, upd_same]
  ·rw [Ab w _ b _ e]
   refine h.of_same (fun i hi => ⟨upd_ne _ _ fun ei => e ?_, rfl⟩) (fun _ => ⟨rfl, rfl, rfl, rfl⟩) fun i _ z => z
   subst hi; subst ei; exact (H.ids b _ hy).2
 ·exact Ab w _ b _ (H.two hb (H.op j hj) (by simp))
theorem Sys.gcell (H : Sys S n0 D w) (k : Nat) : Sys S n0 { D with gg := k } (w.setCell ⟨S.B, 1, none⟩ (.int .i64 k)) := by
 refine H.put rfl rfl rfl rfl rfl rfl (Nat.le_of_eq (Af ..).symm) (fun b y hy h => ?_) fun b hb => ?_
 ·by_cases e : b = S.B
  ·subst e
   rw [H.oB] at hy
   cases hy
   obtain ⟨arr, ty, fr, h, h0, h1, h2, h3, hz⟩ := h
   have hl : 1 < arr.size := (Array.getElem?_eq_some_iff.1 h1).1
   rw [Am w _ h]
   refine ⟨_, _, _, rfl, ?_, ?_, ?_, ?_, hz⟩
   ·rw [Array.getElem?_setIfInBounds_ne (by omega)]; exact h0
   ·rw [Array.getElem?_setIfInBounds_self_of_lt hl]
   ·rw [Array.getElem?_setIfInBounds_ne (by omega)]; exact h2
   ·rw [Array.getElem?_setIfInBounds_ne (by omega)]; exact h3
  ·rw [Ab w _ b _ e]
   refine h.of_same (fun i hi => ⟨rfl, rfl⟩) (fun hB => absurd (show b = S.B from H.ids b .tB (hB ▸ hy)) e) fun i _ z => z
 ·exact Ab w _ b _ (H.two hb H.oB (by simp))
theorem Sys.note (H : Sys S n0 D w) (hj : j < S.n) (hg : 1 <= D.gg) (ok : Bool) :
  Sys S n0 { D with f := upd D.f j (!ok), gg := if ok then D.gg else D.gg - 1 } (Fy w S.B (S.p j) D.gg ok) /\ Keeps D.own D.own w (Fy w S.B (S.p j) D.gg ok) := by
 have h1 := H.alloc (.cells #[] 90)
 have k1 := Keeps.alloc D.own w (.cells #[] 90)
 cases ok
 ·have e : ((D.gg : Int) - 1) = ((D.gg - 1 : Nat) : Int) := by omega
  refine ⟨?_, ?_⟩
  ·have := (h1.flag hj true).gcell (D.gg - 1)
   simpa only [Fy, e, Bool.not_false, Bool.false_eq_true, if_false] using this
  ·simp only [Fy, Bool.false_eq_true, if_false]
   exact k1.trans ((Keeps.set _ (H.op j hj)).trans (Keeps.set _ H.oB))
 ·refine ⟨?_, ?_⟩
  ·have := h1.flag hj false
   simpa only [Fy, Bool.not_true, if_true] using this
  ·simp only [Fy, if_true]
   exact k1.trans (Keeps.set _ (H.op j hj))
theorem Sys.order {i gr cap : Nat} (H : Sys S n0 D w) (hrow : w'.ownsRow n0 3 1 (.slice (some ⟨gr, 0, none⟩) (D.ord.length + 1) cap) (D.ord.length + 1) (D.ord.map (fun i => Value.int .i64 (i : Nat)) ++ [.int .i64 i]))
  (hat : (Value.slice D.oa D.ord.length D.oc).ownBlock = some gr ∨ w.heap.size <= gr) (hlt : gr < w'.heap.size) (hs : w.heap.size <= w'.heap.size)
  (hb : ∀ b, b < w.heap.size -> b ≠ S.B -> some b ≠ (Value.slice D.oa D.ord.length D.oc).ownBlock -> w'.heap[b]? = w.heap[b]?) (hB : w'.heap[S.B]? = (w.setCell ⟨S.B, 3, none⟩ (.slice (some ⟨gr, 0, none⟩) (D.ord.length + 1) cap)).heap[S.B]?) :
  Sys S n0 { D with ord := D.ord ++ [i], oa := some ⟨gr, 0, none⟩, oc := cap, own := upd D.own gr (some .ord) } w' /\ Keeps D.own (upd D.own gr (some .ord)) w w' := by
 have hgr : ∀ b x, D.own b = some x -> x ≠ .ord -> b ≠ gr := fun b x hx hne e => by
  subst e
  rcases hat with h | h
  ·rw [H.oo b h] at hx; exact hne (Option.some.inj hx).symm
  ·have := (H.lt b x hx).2; omega
 have hold : ∀ b x, D.own b = some x -> upd D.own gr (some .ord) b = some x := fun b x hx => by
  by_cases e : b = gr
  ·subst e
   rw [upd_same]
   refine congrArg some (Classical.byContradiction fun h => ?_)
   exact hgr b x hx (fun z => h z.symm) rfl
  ·rw [upd_ne _ _ e]; exact hx
 have hnew : ∀ b x, upd D.own gr (some .ord) b = some x -> (b = gr /\ x = .ord) ∨ (b ≠ gr /\ D.own b = some x) := fun b x hx => by
  by_cases e : b = gr
  ·subst e; rw [upd_same] at hx; exact .inl ⟨rfl, (Option.some.inj hx).symm⟩
  ·rw [upd_ne _ _ e] at hx; exact .inr ⟨e, hx⟩
 have hn0 : n0 <= w.heap.size := Nat.le_of_lt (Nat.lt_of_le_of_lt (H.lt _ _ H.oB).1 (H.lt _ _ H.oB).2)
 refine ⟨⟨fun b x hx => ?_, fun b x hx => ?_, fun b x hx => ?_, hold _ _ H.oB, hold _ _ H.oS, fun i hi => hold _ _ (H.op i hi), fun i hi => hold _ _ (H.ot i hi), fun i hi => hold _ _ (H.or i hi), fun i hi => hold _ _ (H.oN i hi), fun b e => ?_, ?_, H.n64, H.kn, H.hg0⟩, hs, fun b hb' ho => ?_⟩
 ·rcases hnew b x hx with ⟨rfl, rfl⟩ | ⟨hne, hx⟩
  ·trivial
  ·by_cases eB : b = S.B
   ·subst eB
    rw [H.oB] at hx
    cases hx
    obtain ⟨arr, ty, fr, h, h0, h1, h2, h3, hz⟩ := H.good _ _ H.oB
    have hl : 3 < arr.size := (Array.getElem?_eq_some_iff.1 h3).1
    rw [hB, Am w _ h]
    refine ⟨_, _, _, rfl, ?_, ?_, ?_, ?_, hz⟩
    ·rw [Array.getElem?_setIfInBounds_ne (by omega)]; exact h0
    ·rw [Array.getElem?_setIfInBounds_ne (by omega)]; exact h1
    ·rw [Array.getElem?_setIfInBounds_ne (by omega)]; exact h2
    ·rw [Array.getElem?_setIfInBounds_self_of_lt hl]; simp
   ·by_cases ho : some b = (Value.slice D.oa D.ord.length D.oc).ownBlock
    ·rw [H.oo b ho.symm] at hx; cases hx; trivial
    ·rw [hb b (H.lt b x hx).2 eB ho]
     exact (H.good b x hx).of_same (fun i _ => ⟨rfl, rfl⟩) (fun e => absurd (show b = S.B from H.ids b .tB (e ▸ hx)) eB) fun i _ z => z
 ·rcases hnew b x hx with ⟨rfl, rfl⟩ | ⟨hne, hx⟩
  ·refine ⟨?_, hlt⟩
   rcases hat with h | h
   ·exact (H.lt b _ (H.oo b h)).1
   ·omega
  ·have := H.lt b x hx; omega
 ·rcases hnew b x hx with ⟨rfl, rfl⟩ | ⟨hne, hx⟩
  ·trivial
  ·have h := H.ids b x hx
   cases x <;> exact h
 ·simp only [Value.ownBlock, Option.some.injEq] at e
  subst e
  exact upd_same _ _ _
 ·simpa using hrow
 ·have hne : b ≠ gr := fun e => by
   subst e
   rcases hat with h | h
   ·rw [H.oo b h] at ho; cases ho
   ·omega
  refine ⟨by rw [upd_ne _ _ hne]; exact ho, hb b hb' (fun e => ?_) fun e => ?_⟩
  ·subst e; rw [H.oB] at ho; cases ho
  ·rw [H.oo b e.symm] at ho; cases ho
theorem Ez (H : Sys S n0 D w) {b i : Nat} {r : Role} (hb : D.own b = some r) (hr : (∀ a, r ≠ .p a) ∨ i ≠ 0) : Di (VV S D none none) ⟨b, i, none⟩ :=
 Jp (fun v h => by cases h) fun i' hi' e => by
  rcases hr with h | h
  ·exact H.two hb (H.op i' (Nat.lt_of_lt_of_le hi' H.kn)) (h _) (congrArg Addr.block e)
  ·exact h (congrArg Addr.off e)
theorem apart_ord (H : Sys S n0 D w) {b : Nat} (hb : D.own b = some .ord) : Bd (VV S D none none) b := by
 refine ⟨fun a ha => Jp (fun v h => by cases h) fun i hi e => ?_, fun g u h => ?_⟩
 ·subst e; subst ha
  exact H.two hb (H.op i (Nat.lt_of_lt_of_le hi H.kn)) (by simp) rfl
 ·rcases Jo h with ⟨_, h⟩ | ⟨i, hi, _, _, _, rfl⟩
  ·cases h
  ·exact (H.two hb (H.ot i (Nat.lt_of_lt_of_le hi H.kn)) (by simp)).symm
theorem going_le (n : Nat) (f : Nat -> Bool) : going n f <= n := by
 unfold going
 exact Nat.le_trans List.countP_le_length (by simp)
theorem Ia {n : Nat} {f : Nat -> Bool} {i : Nat} (hi : i < n) (h : f i = false) : 1 <= going n f := by
 unfold going
 exact List.countP_pos_iff.2 ⟨i, by simpa using hi, by simp [h]⟩
theorem going_ended {n : Nat} {f : Nat -> Bool} {i : Nat} (hi : i < n) (h : f i = false) : going n (upd f i true) = going n f - 1 := by
 unfold going
 induction n with
 | zero => omega
 | succ n ih =>
  rw [List.range_succ, List.countP_append, List.countP_append]
  by_cases e : i = n
  ·subst e
   have : (List.range i).countP (fun j => !upd f i true j) = (List.range i).countP (fun j => !f j) := List.countP_congr fun j hj => by
    have : j ≠ i := by have := List.mem_range.1 hj; omega
    simp [upd_ne _ _ this]
   rw [this]
   simp [upd_same, h]
  ·have hp := Ia (n := n) (by omega) h
   unfold going at hp
   have := ih (by omega)
   rw [this]
   simp only [List.countP_singleton, upd_ne _ _ (Ne.symm e)]
   omega
end
end
section
variable {main : Bool} {V : Nat -> Option Wait}
theorem send81 (B sb n scap i p ct N : Nat) (old new : Value) (cs : List Frame) (w : World) : ∃ z' es, (∀ e ∈ es, Ig V e) /\ ∀ d, stepG Try.prog main (Hp B sb n scap i p ct N old new cs) (w.at d) = .comm (Hp B sb n scap i p ct N old new cs) #[scase ct (.agg #[]) z'] true .send (w.at d) es := by
 refine ⟨.tuple #[], #[], by simp, fun d => ?_⟩
 unfold Hp
 simp only [Nq, In, Gp, Try.f172]
 rw [stepG_comm (cases := #[scase ct (.agg #[]) (.tuple #[])]) (blocking := true) (shape := .send) (w' := w.at d) rfl (by rfl) (by decide) (by simp [execOp, scase, Act.eval]), listed_none (by simp [go_sem, execOp, Act.eval])]
end
section
variable {main : Bool} {V : Nat -> Option Wait}
theorem step_world {w w' : World} {B n0 on oc g cap : Nat} {oa : Option Addr} {xs : List Value} {i : Nat} (hgB : g ≠ B)
  (hown2 : w'.ownsRow n0 3 1 (.slice (some ⟨g, 0, none⟩) (on + 1) cap) (on + 1) (xs ++ [.int .i64 i])) (hg : (w.alloc (.cells #[.int .i64 i] 3)).grownBy w' (Value.slice oa on oc).ownBlock)
  (hat : (Value.slice oa on oc).ownBlock = some g ∨ g = (w.alloc (.cells #[.int .i64 i] 3)).heap.size) (hlt : g < w'.heap.size) :
  (w'.setCell ⟨B, 3, none⟩ (.slice (some ⟨g, 0, none⟩) (on + 1) cap)).ownsRow n0 3 1 (.slice (some ⟨g, 0, none⟩) (on + 1) cap) (on + 1) (xs ++ [.int .i64 i]) /\
  ((Value.slice oa on oc).ownBlock = some g ∨ w.heap.size <= g) /\ g < (w'.setCell ⟨B, 3, none⟩ (.slice (some ⟨g, 0, none⟩) (on + 1) cap)).heap.size /\ w.heap.size <= (w'.setCell ⟨B, 3, none⟩ (.slice (some ⟨g, 0, none⟩) (on + 1) cap)).heap.size /\
  (∀ a u, w.cell? a = some u -> a ≠ ⟨B, 3, none⟩ -> some a.block ≠ (Value.slice oa on oc).ownBlock -> (w'.setCell ⟨B, 3, none⟩ (.slice (some ⟨g, 0, none⟩) (on + 1) cap)).cell? a = some u /\ (w'.setCell ⟨B, 3, none⟩ (.slice (some ⟨g, 0, none⟩) (on + 1) cap)).frozen? a = w.frozen? a) /\
  (∀ b, b < w.heap.size -> b ≠ B -> some b ≠ (Value.slice oa on oc).ownBlock -> (w'.setCell ⟨B, 3, none⟩ (.slice (some ⟨g, 0, none⟩) (on + 1) cap)).heap[b]? = w.heap[b]?) := by
 have hal : (w.alloc (.cells #[.int .i64 i] 3)).heap.size = w.heap.size + 1 := by simp
 have hsz := hg.size
 have hlb : ∀ b, b < w.heap.size -> b < (w.alloc (.cells #[.int .i64 i] 3)).heap.size := fun b hb => by omega
 have hn := Go.Deep.nblk_setCell w' ⟨B, 3, none⟩ (.slice (some ⟨g, 0, none⟩) (on + 1) cap)
 refine ⟨hown2.kept (row := some B) ⟨rfl, rfl, rfl, by rw [hn]; exact Nat.le_refl _, fun b _ hb => Go.Deep.blk_setCell_other _ _ _ b (fun e => hb (by rw [e]))⟩ (.inr (by simp [Value.ownBlock, hgB])), ?_, by rw [hn]; exact hlt, by rw [hn]; omega, fun a u ha hne' hr => ⟨?_, ?_⟩, fun b hb hbB hr => ?_⟩
 ·rcases hat with h | h
  ·exact .inl h
  ·exact .inr (by omega)
 ·exact (World.cell?_setCell_other w' ⟨B, 3, none⟩ a _ (Ne.symm hne')).trans ((hg.cell_far _ (hlb _ (Ci w ha)) hr).trans (Ai w _ ha))
 ·rw [World.frozen?_setCell]; exact (hg.frozen_far _ (hlb _ (Ci w ha)) hr).trans (Br w _ ha rfl)
 ·exact (Go.Deep.blk_setCell_other _ _ _ b hbB).trans ((hg.block b (hlb b hb) hr).trans (Below.heap_alloc _ _ _ hb))
theorem step_block {w w' : World} {B : Nat} {row : Option Nat} {o : Obj} (hB : B < w.heap.size) (hr : some B ≠ row) (hg : (w.alloc o).grownBy w' row) (x : Value) : (w'.setCell ⟨B, 3, none⟩ x).heap[B]? = (w.setCell ⟨B, 3, none⟩ x).heap[B]? := by
 have h : w'.heap[B]? = w.heap[B]? := (hg.block B (by simp; omega) hr).trans (Below.heap_alloc _ _ _ hB)
 simp only [World.setCell]
 rw [Array.getElem?_modify, Array.getElem?_modify, h]
theorem step_go {Stop : Goroutine -> World -> Prop} (B sb n scap i p ct n0 : Nat) (going most : Int) (oa : Option Addr) (on oc : Nat) (xs : List Value) (cs : List Frame) (w : World) (hin : i < n)
  (h0 : w.cell? ⟨B, 0, none⟩ = some (.slice (some ⟨sb, 0, none⟩) n scap)) (h1 : w.cell? ⟨B, 1, none⟩ = some (.int .i64 going)) (h2 : w.cell? ⟨B, 2, none⟩ = some (.int .i64 most)) (h3 : w.cell? ⟨B, 3, none⟩ = some (.slice oa on oc)) (h3z : w.frozen? ⟨B, 3, none⟩ = false) (hf3 : Di V ⟨B, 3, none⟩)
  (hp : w.cell? ⟨sb, i, none⟩ = some (.pointer (some ⟨p, 0, none⟩))) (hpe : w.cell? ⟨p, 2, none⟩ = some (.bool false)) (hpt : w.cell? ⟨p, 0, none⟩ = some (.chan (some ct))) (hov : (decide (going = 0) || decide (most <= on)) = false)
  (hown : w.ownsRow n0 3 1 (.slice oa on oc) on xs) (hbase : n0 <= w.heap.size) (hlen : on <= 1048576) (hap : ∀ g, (Value.slice oa on oc).ownBlock = some g -> Bd V g /\ g ≠ B /\ g ≠ sb /\ g ≠ p) (hsB : sb ≠ B) (hpB : p ≠ B)
  (hk : ∀ g cap w', w'.ownsRow n0 3 1 (.slice (some ⟨g, 0, none⟩) (on + 1) cap) (on + 1) (xs ++ [.int .i64 i]) -> w'.cell? ⟨B, 3, none⟩ = some (.slice (some ⟨g, 0, none⟩) (on + 1) cap) -> ((Value.slice oa on oc).ownBlock = some g ∨ w.heap.size <= g) -> g < w'.heap.size -> w.heap.size <= w'.heap.size ->
   (∀ a u, w.cell? a = some u -> a ≠ ⟨B, 3, none⟩ -> some a.block ≠ (Value.slice oa on oc).ownBlock -> w'.cell? a = some u /\ w'.frozen? a = w.frozen? a) -> (∀ b, b < w.heap.size -> b ≠ B -> some b ≠ (Value.slice oa on oc).ownBlock -> w'.heap[b]? = w.heap[b]?) -> (w'.heap[B]? = (w.setCell ⟨B, 3, none⟩ (.slice (some ⟨g, 0, none⟩) (on + 1) cap)).heap[B]?) ->
   Walk Try.prog main (DR V) Stop (Hp B sb n scap i p ct w.heap.size (.slice oa on oc) (.slice (some ⟨g, 0, none⟩) (on + 1) cap) cs) w') :
  Walk Try.prog main (DR V) Stop (G (Frame.enter Try.prog 172 #[.pointer (some ⟨B, 0, none⟩), .int .i64 i] .normal) cs) w := by
 rw [enter_at _ Try.func172 rfl]
 simp only [Try.f172, ez, Nat.reduceAdd, Nat.reduceSub]
 have hi0 : (0 : Int) <= i := by omega
 have hi1 : decide ((i : Int) < 0) = false := by simp
 have hi2 : decide (n <= i) = false := by simp; omega
 refine Ae ?_
 refine Walk.callV (x := .bool false) (W := w) ?_ rfl (by rfl) (by decide) rfl Try.func171 (by kernel_rfl) (by rfl) ?_
 ·walk_nrm
  have := Jv (main := main) (V := V) B going most oa on oc w h1 h2 h3
  rwa [hov] at this
 walk_nrm
 refine Ae ?_
 (refine Walk.oa ?_; try walk_nrm)
 have hi24 : Try.prog.underlying 24 = some (.slice 3) := by kernel_rfl
 have hi3 := Option.some_get (show (Try.prog.info? 3).isSome = true by kernel_rfl)
 have hown' := hown.kept (World.grownBy_alloc w (.cells #[.int .i64 i] 3) none) (by cases (Value.slice oa on oc).ownBlock <;> simp)
 have c0 := Ai w (.cells #[.int .i64 i] 3) h0
 have c3 := Ai w (.cells #[.int .i64 i] 3) h3
 have c3z := Br w (.cells #[.int .i64 i] 3) h3 h3z
 have cp := Ai w (.cells #[.int .i64 i] 3) hp
 have cpt := Ai w (.cells #[.int .i64 i] 3) hpt
 refine Walk.append (.tmp 35) (.tmp 37) 24 rfl (by rfl) (by decide) rfl n0 3 _ (.int .i64 0) 1 8 hi24 hi3.symm (by rfl) (by rfl) (by rfl) (by rfl) (by decide) (.slice oa on oc) on xs rfl hown' ⟨w.heap.size, 0, none⟩ 1 1 [.int .i64 i] rfl (by rfl) (fun j u hu => ?_) (by simp [Value.oneCell']) (by decide) (by simp [maxLen]; omega) (by omega) (by simp; omega) (fun g hg => (hap g hg).1) (fun g cap w' hown2 hg hat hlt => ?_)
 ·obtain rfl : j = 0 := by rcases j with _ | j <;> simp at hu ⊢
  simp at hu; subst hu; simp [Addr.add]
 have hne : ∀ b, (b = B ∨ b = sb ∨ b = p) -> some b ≠ (Value.slice oa on oc).ownBlock := fun b hb e => by
  obtain ⟨_, h1, h2, h3⟩ := hap b e.symm
  rcases hb with h | h | h <;> contradiction
 have d0 := (hg.cell_far _ (Ci _ c0) (hne _ (by simp))).trans c0
 have d3 := (hg.cell_far _ (Ci _ c3) (hne _ (by simp))).trans c3
 have d3z := (hg.frozen_far _ (Ci _ c3) (hne _ (by simp))).trans c3z
 have dp := (hg.cell_far _ (Ci _ cp) (hne _ (by simp))).trans cp
 have dpt := (hg.cell_far _ (Ci _ cpt) (hne _ (by simp))).trans cpt
 have hgB : g ≠ B := fun e => by
  rcases hat with h | h
  ·exact (hap g h).2.1 e
  ·have := Ci w h3; simp only at this; have hal : (w.alloc (.cells #[.int .i64 i] 3)).heap.size = w.heap.size + 1 := by simp
   omega
 walk_nrm
 refine Ae ?_
 (refine Walk.os hf3 d3 ?_; try walk_nrm)
 have e0 := (World.cell?_setCell_other w' ⟨B, 3, none⟩ ⟨B, 0, none⟩ (.slice (some ⟨g, 0, none⟩) (on + 1) cap) (by simp)).trans d0
 have e3 := World.cell?_setCell_same w' ⟨B, 3, none⟩ (.slice (some ⟨g, 0, none⟩) (on + 1) cap) d3
 have ep := (World.cell?_setCell_other w' ⟨B, 3, none⟩ ⟨sb, i, none⟩ (.slice (some ⟨g, 0, none⟩) (on + 1) cap) (by simp [Ne.symm hsB])).trans dp
 have ept := (World.cell?_setCell_other w' ⟨B, 3, none⟩ ⟨p, 0, none⟩ (.slice (some ⟨g, 0, none⟩) (on + 1) cap) (by simp [Ne.symm hpB])).trans dpt
 refine Ae ?_
 unfold Hp at hk
 simp only [Nq, In, Gp, Try.f172] at hk
 obtain ⟨k1, k2, k3, k4, k5, k6⟩ := step_world hgB hown2 hg hat hlt
 exact hk g cap _ k1 e3 k2 k3 k4 k5 k6 (step_block (Ci w h3) (hne B (by simp)) hg _)
end
end
end Go.Proofs.Ytcdcnmphjhfbpaa
