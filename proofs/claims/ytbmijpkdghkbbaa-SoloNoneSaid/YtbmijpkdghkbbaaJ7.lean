/- Part 7. -/
import Derived.Test.YtbmijpkdghkbbaaJ4
import Derived.Test.YtbmijpkdghkbbaaJ6
import Derived.Deep.AppendLies
set_option linter.unusedSimpArgs false
set_option linter.unusedVariables false
set_option maxHeartbeats 8000000
set_option maxRecDepth 100000
namespace Go.Proofs.Ytbmijpkdghkbbaa
open Go.Conc Go.RowKit Go.Relay
open Go.ConcN (upd upd_ne upd_same)
section
noncomputable def bot (S : Stile) (N j : Nat) : List Frame := [fr60 N (S.F j) (.iface 224 (.pointer (some ⟨S.p j, 0, none⟩))), fr78 (S.p j) (S.r j) (S.F j), bornfr]
open Classical in
noncomputable def wT (S : Stile) (D : Dyn) (i : Nat) : Wait where
  ch := S.t i
  z := .agg #[]
  ok := true
  home := fun g => g = rec139r (S.p i) (S.r i) (S.t i) (D.cs i ++ bot S (D.N i) i)
  f := fun a => if a = ⟨S.p i, 0, none⟩ then some (.chan (some (S.t i))) else none
noncomputable def VV (S : Stile) (D : Dyn) (m : Option Wait) (x : Option Nat) : Nat → Option Wait := fun g =>
  if g = 0 then m else if S.g0 ≤ g ∧ g < S.g0 + D.k ∧ D.e (g - S.g0) = false ∧ x ≠ some (g - S.g0) then some (wT S D (g - S.g0)) else none
structure MW (S : Stile) (j : Nat) (v : Wait) : Prop where
  ch : v.ch = S.r j
  z : v.z = .agg #[]
  ok : v.ok = true
  f : ∀ a, v.f a ≠ none → a = ⟨S.B, 0, none⟩ ∨ (∃ i, a = ⟨S.sb, i, none⟩) ∨ a = ⟨S.p j, 1, none⟩ ∨ a = ⟨S.p j, 2, none⟩
section
variable {S : Stile} {n0 : Nat} {D D' : Dyn} {w w' : World} {j nG : Nat} {mw : Wait} {m : Machine} {T : Trace} {l : List Frame}
theorem upd_eq {α : Type} (f : Nat → α) {j : Nat} {v : α} (h : f j = v) : upd f j v = f := by
  funext i
  by_cases e : i = j
  · subst e; rw [upd_same, h]
  · exact upd_ne _ _ e
theorem ite_iff {α : Type} {c d : Prop} [Decidable c] [Decidable d] {a b : α} (h : c ↔ d) : (if c then a else b) = if d then a else b := by
  by_cases hd : d
  · rw [if_pos hd, if_pos (h.2 hd)]
  · rw [if_neg hd, if_neg (fun z => hd (h.1 z))]
theorem VV_zero (o : Option Wait) (x : Option Nat) : VV S D o x 0 = o := by simp [VV]
theorem VV_at {o : Option Wait} {x : Option Nat} (hg : 1 ≤ S.g0) {i : Nat} (hi : i < D.k) (he : D.e i = false) (hx : x ≠ some i) : VV S D o x (S.g0 + i) = some (wT S D i) := by
  have h0 : S.g0 + i ≠ 0 := by omega
  have h1 : S.g0 + i - S.g0 = i := by omega
  unfold VV
  rw [if_neg h0, h1, if_pos ⟨by omega, by omega, he, hx⟩]
theorem VV_some {o : Option Wait} {x : Option Nat} {g : Nat} {v : Wait} (h : VV S D o x g = some v) : (g = 0 ∧ o = some v) ∨ ∃ i, i < D.k ∧ D.e i = false ∧ x ≠ some i ∧ g = S.g0 + i ∧ v = wT S D i := by
  unfold VV at h
  by_cases h0 : g = 0
  · rw [if_pos h0] at h; exact .inl ⟨h0, h⟩
  · rw [if_neg h0] at h
    by_cases hc : S.g0 ≤ g ∧ g < S.g0 + D.k ∧ D.e (g - S.g0) = false ∧ x ≠ some (g - S.g0)
    · rw [if_pos hc] at h
      cases h
      exact .inr ⟨g - S.g0, by omega, hc.2.2.1, hc.2.2.2, by omega, rfl⟩
    · rw [if_neg hc] at h; cases h
theorem VV_eq {o : Option Wait} {x : Option Nat} (hk : D'.k = D.k) (he : ∀ i, i < D.k → x ≠ some i → D'.e i = D.e i ∧ D'.cs i = D.cs i ∧ D'.N i = D.N i) : VV S D' o x = VV S D o x := by
  funext g
  unfold VV
  by_cases h0 : g = 0
  · rw [if_pos h0, if_pos h0]
  · rw [if_neg h0, if_neg h0, hk]
    by_cases hc : S.g0 ≤ g ∧ g < S.g0 + D.k ∧ x ≠ some (g - S.g0)
    · obtain ⟨h1, h2, h3⟩ := he (g - S.g0) (by omega) hc.2.2
      have : wT S D' (g - S.g0) = wT S D (g - S.g0) := by simp only [wT, h2, h3]
      rw [h1, this]
    · rw [if_neg (fun z => hc ⟨z.1, z.2.1, z.2.2.2⟩), if_neg (fun z => hc ⟨z.1, z.2.1, z.2.2.2⟩)]
theorem after_main : after (VV S D none none) 0 (S.g0 + j) (some mw) = VV S D (some mw) (some j) ∨ S.g0 + j = 0 := by
  by_cases hz : S.g0 + j = 0
  · exact .inr hz
  refine .inl (funext fun g => ?_)
  unfold after VV
  by_cases e1 : g = S.g0 + j
  · subst e1
    rw [upd_same, if_neg hz, if_neg]
    rintro ⟨_, _, _, h⟩
    exact h (by rw [Nat.add_sub_cancel_left])
  · rw [upd_ne _ _ e1]
    by_cases e0 : g = 0
    · subst e0; rw [upd_same, if_pos rfl]
    · rw [upd_ne _ _ e0, if_neg e0, if_neg e0]
      refine ite_iff ⟨fun h => ⟨h.1, h.2.1, h.2.2.1, fun z => ?_⟩, fun h => ⟨h.1, h.2.1, h.2.2.1, by simp⟩⟩
      have := Option.some.inj z; omega
theorem after_back {D' : Dyn} {new : Option Wait} (hj : j < D.k) (hk : D'.k = D.k) (he : ∀ i, i < D.k → i ≠ j → D'.e i = D.e i ∧ D'.cs i = D.cs i ∧ D'.N i = D.N i) (hn : new = if D'.e j = false then some (wT S D' j) else none) :
    after (VV S D (some mw) (some j)) (S.g0 + j) 0 new = VV S D' none none := by
  rw [← VV_eq (D' := D') hk fun i hi hx => he i hi fun e => hx (e ▸ rfl)]
  funext g
  unfold after VV
  by_cases e0 : g = 0
  · subst e0; rw [upd_same, if_pos rfl]
  · rw [upd_ne _ _ e0, if_neg e0]
    by_cases e1 : g = S.g0 + j
    · subst e1
      rw [upd_same, hn, Nat.add_sub_cancel_left]
      by_cases hd : D'.e j = false
      · rw [if_pos hd, if_pos ⟨by omega, by omega, hd, by simp⟩]
      · rw [if_neg hd, if_neg (fun z => hd z.2.2.1)]
    · rw [upd_ne _ _ e1, if_neg e0]
      refine ite_iff ⟨fun h => ⟨h.1, h.2.1, h.2.2.1, by simp⟩, fun h => ⟨h.1, h.2.1, h.2.2.1, fun z => ?_⟩⟩
      have := Option.some.inj z; omega
theorem upd_hire (hk : D'.k = D.k + 1) (he : ∀ i, i < D.k → D'.e i = D.e i ∧ D'.cs i = D.cs i ∧ D'.N i = D.N i) : upd (VV S D none none) 0 (some mw) = VV S D' (some mw) (some D.k) := by
  funext g
  unfold VV
  by_cases e0 : g = 0
  · subst e0; rw [upd_same, if_pos rfl]
  · rw [upd_ne _ _ e0, if_neg e0, if_neg e0]
    by_cases hc : S.g0 ≤ g ∧ g < S.g0 + D.k
    · obtain ⟨h1, h2, h3⟩ := he (g - S.g0) (by omega)
      have : wT S D' (g - S.g0) = wT S D (g - S.g0) := by simp only [wT, h2, h3]
      rw [this, h1]
      refine ite_iff ⟨fun h => ⟨h.1, by omega, h.2.2.1, fun z => ?_⟩, fun h => ⟨h.1, by omega, h.2.2.1, by simp⟩⟩
      have := Option.some.inj z; omega
    · rw [if_neg (fun z => hc ⟨z.1, z.2.1⟩), if_neg]
      rintro ⟨h1, h2, _, h4⟩
      exact h4 (congrArg some (by omega))
theorem VV_free {o : Option Wait} {x : Option Nat} {a : Addr} (hm : ∀ v, o = some v → v.f a = none) (ha : ∀ i, i < D.k → a ≠ ⟨S.p i, 0, none⟩) : Free (VV S D o x) a := by
  intro g v h
  rcases VV_some h with ⟨_, h⟩ | ⟨i, hi, _, _, _, rfl⟩
  · exact hm v h
  · simp only [wT]; rw [if_neg (ha i hi)]
theorem MW.free (hm : MW S j mw) {a : Addr} (h1 : a ≠ ⟨S.B, 0, none⟩) (h2 : ∀ i, a ≠ ⟨S.sb, i, none⟩) (h3 : a ≠ ⟨S.p j, 1, none⟩) (h4 : a ≠ ⟨S.p j, 2, none⟩) : mw.f a = none := by
  refine Classical.byContradiction fun h => ?_
  rcases hm.f a h with z | ⟨i, z⟩ | z | z
  · exact h1 z
  · exact h2 i z
  · exact h3 z
  · exact h4 z
theorem VV_apart {x : Option Nat} {o : Option Wait} (H : Sys S n0 D w) (hj : j < S.n) (hm : ∀ v, o = some v → MW S j v) {b : Nat} (hb : D.own b = none) : Apart (VV S D o x) b := by
  have hne : ∀ b' x, D.own b' = some x → b ≠ b' := fun b' x h e => by subst e; rw [hb] at h; cases h
  refine ⟨fun a ha => VV_free (fun v hv => (hm v hv).free ?_ ?_ ?_ ?_) ?_, fun g u h => ?_⟩
  · rintro rfl; exact hne _ _ H.oB ha.symm
  · rintro i rfl; exact hne _ _ H.oS ha.symm
  · rintro rfl; exact hne _ _ (H.op j hj) ha.symm
  · rintro rfl; exact hne _ _ (H.op j hj) ha.symm
  · rintro i hi rfl; exact hne _ _ (H.op i (Nat.lt_of_lt_of_le hi H.kn)) ha.symm
  · rcases VV_some h with ⟨_, h⟩ | ⟨i, hi, _, _, _, rfl⟩
    · rw [(hm u h).ch]; exact (hne _ _ (H.or j hj)).symm
    · exact (hne _ _ (H.ot i (Nat.lt_of_lt_of_le hi H.kn))).symm
theorem thr_main (H : Sys S n0 D w) (j : Nat) : (S.g0 + j == 0) = false := by
  have := H.hg0
  simp; omega
theorem give_back (H : Sys S n0 D w) (hj : j < D.k) (he : D.e j = false) (hn : 0 < nG) (hm : MW S j mw) (A : At Try.prog (VV S D (some mw) (some j)) (S.g0 + j) nG (rec139s (S.p j) (S.r j) (l ++ bot S (D.N j) j)) w m T) :
    Relay.Comes Try.prog (fun m' T' => ∃ g₂ d k, mw.home g₂ ∧ w.heap[S.r j]? = some (.chan 0 #[] false k k false) ∧ At Try.prog (VV S { D with cs := upd D.cs j l } none none) 0 nG (Go.Conc.served g₂ (recvd true (.agg #[]) true)) ((w.at d).setChan (S.r j) 0 #[] false (k + 1) (k + 1) false) m' T') m T := by
  have hjn : j < S.n := Nat.lt_of_lt_of_le hj H.kn
  have hg0 := H.hg0
  obtain ⟨z', es, hes, hs⟩ := send139 (main := S.g0 + j == 0) (V := VV S D (some mw) (some j)) (S.p j) (S.r j) (l ++ bot S (D.N j) j) w
  refine (A.give (v := mw) (x := .agg #[]) (j := 0) (new := some (wT S { D with cs := upd D.cs j l } j)) (by omega) hn (VV_zero _ _) rfl (by rw [hm.ch]; exact hs) hes ⟨?_, ?_, ?_, ?_⟩).mono ?_
  · intro a y hy
    simp only [wT] at hy
    by_cases ea : a = ⟨S.p j, 0, none⟩
    · rw [if_pos ea] at hy; cases hy; subst ea; exact H.p0 hjn
    · rw [if_neg ea] at hy; cases hy
  · exact H.good _ _ (H.ot j hjn) he
  · intro i u hi hu
    rcases VV_some hu with ⟨z, _⟩ | ⟨i', hi', _, hx, _, rfl⟩
    · exact absurd z hi
    · exact H.two (H.ot i' (Nat.lt_of_lt_of_le hi' H.kn)) (H.ot j hjn) fun e => hx (by cases e; rfl)
  · refine (way139 (S.p j) (S.r j) (S.t j) (l ++ bot S (D.N j) j) _ rfl rfl rfl (by simp [wT]) ?_).waits
    simp only [wT, upd_same]
  · rintro m' T' ⟨g₂, d, k, hh, hc, A'⟩
    refine ⟨g₂, d, k, hh, hm.ch ▸ hc, ?_⟩
    rw [after_back (D' := { D with cs := upd D.cs j l }) hj rfl (fun i _ hi => ⟨rfl, upd_ne _ _ hi, rfl⟩) (by rw [if_pos he]), hm.ch, hm.ok] at A'
    exact A'
theorem shut_back (H : Sys S n0 D w) (hj : j < D.k) (he : D.e j = true) (hn : 0 < nG) (hm : MW S j mw) {F : Value} {bk br : Bool} (A : At Try.prog (VV S D (some mw) (some j)) (S.g0 + j) nG (rec78 (S.p j) (S.r j) F bk br) w m T) :
    Relay.Comes Try.prog (fun m' T' => ∃ g₂ d k, mw.home g₂ ∧ At Try.prog (VV S D none none) 0 nG (Go.Conc.served g₂ (recvd true (.agg #[]) false)) ((w.at d).setChan (S.r j) 0 #[] true k k false) m' T') m T := by
  have hg0 := H.hg0
  refine (A.shut (v := mw) (j := 0) (new := none) (a' := G { (rec78 (S.p j) (S.r j) F bk br).frame with defers := [] } [bornfr]) (by omega) hn (VV_zero _ _) rfl (wake78 ..) rfl (fun d k hk => ?_) ⟨by omega, 2, quit78 ..⟩).mono ?_
  · rw [hm.ch] at hk ⊢
    exact close78 _ _ _ _ _ _ k hk
  · rintro m' T' ⟨g₂, d, k, hh, A'⟩
    refine ⟨g₂, d, k, hh, ?_⟩
    rw [after_back (D' := D) hj rfl (fun i _ hi => ⟨rfl, rfl, rfl⟩) (by rw [he]; rfl), hm.ch, hm.ok, hm.z] at A'
    exact A'
end
end
section
structure Keeps (o o' : Nat → Option Role) (w w' : World) : Prop where
  size : w.heap.size ≤ w'.heap.size
  same : ∀ b, b < w.heap.size → o b = none → o' b = none ∧ w'.heap[b]? = w.heap[b]?
theorem Keeps.refl (o : Nat → Option Role) (w : World) : Keeps o o w w := ⟨Nat.le_refl _, fun _ _ h => ⟨h, rfl⟩⟩
theorem Keeps.trans {o o' o'' : Nat → Option Role} {w w' w'' : World} (h : Keeps o o' w w') (k : Keeps o' o'' w' w'') : Keeps o o'' w w'' :=
  ⟨Nat.le_trans h.size k.size, fun b hb ho => by
    obtain ⟨h1, h2⟩ := h.same b hb ho
    obtain ⟨k1, k2⟩ := k.same b (Nat.lt_of_lt_of_le hb h.size) h1
    exact ⟨k1, k2.trans h2⟩⟩
theorem Keeps.at {o o' : Nat → Option Role} {w w' : World} (h : Keeps o o' w w') (d : Nat) : Keeps o o' w (w'.at d) := ⟨h.size, h.same⟩
theorem Keeps.alloc (o : Nat → Option Role) (w : World) (x : Obj) : Keeps o o w (w.alloc x) := ⟨by simp, fun b hb ho => ⟨ho, heap_new_lt w x hb⟩⟩
theorem Keeps.set {o : Nat → Option Role} {w : World} {a : Addr} {r : Role} (v : Value) (h : o a.block = some r) : Keeps o o w (w.setCell a v) :=
  ⟨Nat.le_of_eq (size_set ..).symm, fun b _ ho => ⟨ho, heap_set_other w a b v fun e => by subst e; rw [h] at ho; cases ho⟩⟩
theorem Keeps.chan {o : Nat → Option Role} {w : World} {c : Nat} {r : Role} (h : o c = some r) (cl : Bool) (k : Nat) : Keeps o o w (w.setChan c 0 #[] cl k k false) :=
  ⟨by simp [World.setChan], fun b _ ho => ⟨ho, heap_setChan_ne w _ _ _ _ _ _ fun e => by subst e; rw [h] at ho; cases ho⟩⟩
def Plain (f : Frame) : Prop := f.defers = [] ∧ f.mode = .run ∧ ∃ fn, Try.prog.funcs[f.fn]? = some fn
def Fin {X : Type} (inv : Nat → (Nat → Option Role) → X → (Nat → List Frame) → World → Prop) (out : X → Nat → Option Bool) (S : Stile) (k : Nat) (o : Nat → Option Role) (x : X) (cs : Nat → List Frame) (i : Nat) (f : Frame) (fs : List Frame) (w : World) (g : Goroutine) (w' : World) : Prop :=
  w.heap.size ≤ w'.heap.size ∧ (∀ b r, o b = some r → w'.heap[b]? = w.heap[b]?) ∧ ∃ l, inv k o x (upd cs i l) w' ∧
    ((out x i = none ∧ g = G (Frame.enter Try.prog 195 #[.pointer (some ⟨S.p i, 0, none⟩)] .normal) (l ++ f :: fs)) ∨
     (out x i = some false ∧ g = G (f.finish (.tuple #[])) fs) ∨
     (out x i = some true ∧ ∃ t v, t ≠ 231 ∧ g = G (f.raise [{ v := .iface t v, recovered := false }]) fs))
structure Crew (S : Stile) (X : Type) where
  inv : Nat → (Nat → Option Role) → X → (Nat → List Frame) → World → Prop
  born : X → Nat → X
  next : X → Nat → X
  out : X → Nat → Option Bool
  cnt : X → Nat
  cntBorn : ∀ x i, cnt (born x i) = cnt x
  cntNext : ∀ x i, cnt (next x i) = cnt x + 1
  keep : ∀ {k : Nat} {o o' : Nat → Option Role} {x : X} {cs : Nat → List Frame} {w w' : World}, inv k o x cs w → Keeps o o' w w' → inv k o' x cs w'
  bornOut : ∀ x i j, j ≠ i → out (born x i) j = out x j
  nextOut : ∀ x i j, j ≠ i → out (next x i) j = out x j
  shape : ∀ {k : Nat} {o : Nat → Option Role} {x : X} {cs : Nat → List Frame} {w : World} {i : Nat}, inv k o x cs w → i < k → out x i = none → (∃ c l, cs i = c :: l) ∧ ∀ f ∈ cs i, Plain f
  thr : ∀ {k : Nat} {o : Nat → Option Role} {x : X} {cs : Nat → List Frame} {w : World} {i : Nat}, inv k o x cs w → k ≤ i → i < S.n → w.cell? ⟨S.tb, i, none⟩ = some (S.F i)
  sch : ∀ {k : Nat} {o : Nat → Option Role} {x : X} {cs : Nat → List Frame} {w : World} {j : Nat} {z : Int}, inv k o x cs w → S.sl[j]? = some z → ∃ s so, S.sa = some ⟨s, so, none⟩ ∧ w.cell? ⟨s, so + j, none⟩ = some (.int .i64 z)
  start : ∀ {k : Nat} {o : Nat → Option Role} {x : X} {cs : Nat → List Frame} {w : World} {V : Nat → Option Wait} (f : Frame) (fs : List Frame), inv k o x cs w → k < S.n → cnt x < 1048576 → (∀ b, o b = none → Apart V b) → (∀ b r, o b = some r → b < w.heap.size) →
    (∃ fi fn first cap, S.F k = .func (.func fi) first cap ∧ Try.prog.funcs[fi]? = some fn ∧ (fn.name == "runtime.NumGoroutine") = false ∧ fn.body.isNone = false ∧
      Walk Try.prog false (DR V) (Fin inv out S (k + 1) o (born x k) cs k f fs w) (G (Frame.enter Try.prog fi (first ++ #[.iface 224 (.pointer (some ⟨S.p k, 0, none⟩))] ++ cap) .normal) (f :: fs)) w) ∨
    (S.F k = .nilFunc ∧ out (born x k) k = some false ∧ inv (k + 1) o (born x k) (upd cs k []) w)
  go : ∀ {k : Nat} {o : Nat → Option Role} {x : X} {cs : Nat → List Frame} {w : World} {V : Nat → Option Wait} {i : Nat} {c : Frame} {l : List Frame} (f : Frame) (fs : List Frame), inv k o x cs w → i < k → out x i = none → cs i = c :: l → cnt x < 1048576 → (∀ b, o b = none → Apart V b) → (∀ b r, o b = some r → b < w.heap.size) →
    Walk Try.prog false (DR V) (Fin inv out S k o (next x i) cs i f fs w) (G (c.finish (.tuple #[])) (l ++ f :: fs)) w
def handed (D : Dyn) (j : Nat) (l : List Frame) (o : Option Bool) : Dyn := { D with cs := upd D.cs j l, e := upd D.e j o.isSome, b := upd D.b j (o == some true) }
section
variable {S : Stile} {n0 : Nat} {D D' : Dyn} {w w' : World} {j nG : Nat} {mw : Wait} {m : Machine} {T : Trace} {l : List Frame}
theorem Sys.cs (H : Sys S n0 D w) (c : Nat → List Frame) : Sys S n0 { D with cs := c } w :=
  H.put rfl rfl rfl rfl rfl rfl (Nat.le_refl _) (fun b x _ h => by cases x <;> exact h) fun _ _ => rfl
theorem free_thr (H : Sys S n0 D w) (hj : j < S.n) (hm : MW S j mw) {b i : Nat} {r : Role} (hb : D.own b = some r) (hr : (∃ a, r = .nn a) ∨ (r = .p j ∧ i = 3)) : Free (VV S D (some mw) (some j)) ⟨b, i, none⟩ := by
  have hne : ∀ b' x i', D.own b' = some x → r ≠ x → (⟨b, i, none⟩ : Addr) ≠ ⟨b', i', none⟩ := fun b' x i' h hx e => H.two hb h hx (congrArg Addr.block e)
  have hoff : r = .p j ∧ i = 3 → ∀ b' i', i' ≠ 3 → (⟨b, i, none⟩ : Addr) ≠ ⟨b', i', none⟩ := fun h b' i' h' e => h' ((congrArg Addr.off e).symm.trans h.2)
  refine VV_free (fun v hv => ?_) fun i' hi' => ?_
  · cases hv
    refine hm.free ?_ ?_ ?_ ?_
    · exact hne _ _ _ H.oB (by rcases hr with ⟨a, rfl⟩ | ⟨rfl, _⟩ <;> simp)
    · exact fun i' => hne _ _ _ H.oS (by rcases hr with ⟨a, rfl⟩ | ⟨rfl, _⟩ <;> simp)
    · rcases hr with ⟨a, rfl⟩ | h
      · exact hne _ _ _ (H.op j hj) (by simp)
      · exact hoff h _ _ (by omega)
    · rcases hr with ⟨a, rfl⟩ | h
      · exact hne _ _ _ (H.op j hj) (by simp)
      · exact hoff h _ _ (by omega)
  · rcases hr with ⟨a, rfl⟩ | h
    · exact hne _ _ _ (H.op i' (Nat.lt_of_lt_of_le hi' H.kn)) (by simp)
    · exact hoff h _ _ (by omega)
theorem ended_back (H : Sys S n0 D w) (hj : j < D.k) (hn : 0 < nG) (hm : MW S j mw) (br : Bool) {g : Goroutine} {W : World} (hKW : Keeps D.own D.own w W) (HW : Sys S n0 { D with e := upd D.e j true } W)
    (hW : Walk Try.prog (S.g0 + j == 0) (DR (VV S D (some mw) (some j))) (fun g w' => ∃ bk, g = G ((fr78 (S.p j) (S.r j) (S.F j)).finish (.tuple #[.bool bk, .bool br])) [bornfr] ∧ ∃ d, w' = W.at d) g w)
    (A : At Try.prog (VV S D (some mw) (some j)) (S.g0 + j) nG g w m T) (l : List Frame) :
    Relay.Comes Try.prog (fun m' T' => ∃ g₂ w', mw.home g₂ ∧ At Try.prog (VV S (handed D j l (some br)) none none) 0 nG (Go.Conc.served g₂ (recvd true (.agg #[]) false)) w' m' T' ∧ Sys S n0 (handed D j l (some br)) w' ∧ Keeps D.own D.own w w') m T := by
  have hjn : j < S.n := Nat.lt_of_lt_of_le hj H.kn
  refine (At.walk (Stop := fun g w' => ∃ bk d, g = rec78 (S.p j) (S.r j) (S.F j) bk br ∧ w' = (W.setCell ⟨S.p j, 3, none⟩ (.bool br)).at d) (hW.then ?_) A).bind ?_
  · rintro g' w' ⟨bk, rfl, d, rfl⟩
    refine Walk.back ?_ d
    refine (run_out (S.p j) (S.r j) (S.F j) bk br (D.b j) W (HW.p3 hjn) (HW.pz hjn 3) (free_thr H hjn hm (H.op j hjn) (.inr ⟨rfl, rfl⟩))).mono ?_
    rintro g w' ⟨rfl, d, rfl⟩
    exact ⟨bk, d, rfl, rfl⟩
  · rintro m' T' ⟨g', w', ⟨bk, d, rfl, rfl⟩, A'⟩
    have hb : (some br == some true) = br := by cases br <;> rfl
    have H2 : Sys S n0 (handed D j l (some br)) ((W.setCell ⟨S.p j, 3, none⟩ (.bool br)).at d) := by
      have := ((HW.brk hjn br).cs (upd D.cs j l)).at d
      simpa only [handed, Option.isSome_some, hb] using this
    have hV : VV S (handed D j l (some br)) (some mw) (some j) = VV S D (some mw) (some j) := VV_eq rfl fun i _ hx => by
      have : i ≠ j := fun e => hx (e ▸ rfl)
      simp only [handed, upd_ne _ _ this, and_self]
    rw [← hV] at A'
    refine (shut_back H2 hj (by simp only [handed, upd_same, Option.isSome_some]) hn hm A').mono ?_
    rintro m2 T2 ⟨g₂, d2, k, hh, A2⟩
    refine ⟨g₂, _, hh, A2, (H2.at d2).shut (j := j) (by simp only [handed, upd_same, Option.isSome_some]) (.inr (H.or j hjn)), ?_⟩
    exact hKW.trans (((Keeps.set _ (H.op j hjn)).at d).trans ((Keeps.at (Keeps.refl _ _) d2).trans (Keeps.chan (H.or j hjn) true k)))
end
section
variable {S : Stile} {X : Type} {C : Crew S X} {n0 : Nat} {D D' : Dyn} {w w' : World} {j nG : Nat} {mw : Wait} {m : Machine} {T : Trace} {l : List Frame} {x : X}
theorem fin_back {w0 : World} {g : Goroutine} (H : Sys S n0 D w) (hj : j < D.k) (he : D.e j = false) (hb : D.b j = false) (hn : 0 < nG) (hm : MW S j mw)
    (hF : Fin C.inv C.out S D.k D.own x D.cs j (fr60 (D.N j) (S.F j) (.iface 224 (.pointer (some ⟨S.p j, 0, none⟩)))) [fr78 (S.p j) (S.r j) (S.F j), bornfr] w0 g w)
    (A : At Try.prog (VV S D (some mw) (some j)) (S.g0 + j) nG g w m T) :
    Relay.Comes Try.prog (fun m' T' => ∃ g₂ w' l, mw.home g₂ ∧ At Try.prog (VV S (handed D j l (C.out x j)) none none) 0 nG (Go.Conc.served g₂ (recvd true (.agg #[]) (C.out x j).isNone)) w' m' T' ∧ Sys S n0 (handed D j l (C.out x j)) w' ∧ C.inv D.k D.own x (upd D.cs j l) w') m T := by
  have hjn : j < S.n := Nat.lt_of_lt_of_le hj H.kn
  obtain ⟨_, _, l, hI, hF⟩ := hF
  have hN := (cell_of (H.good _ _ (H.oN j hj) he) 0)
  have hNz := frozen_of (H.good _ _ (H.oN j hj) he) 0
  have hfN : Free (VV S D (some mw) (some j)) ⟨D.N j, 0, none⟩ := free_thr H hjn hm (H.oN j hj) (.inl ⟨_, rfl⟩)
  rcases hF with ⟨ho, rfl⟩ | ⟨ho, rfl⟩ | ⟨ho, t, v, ht, rfl⟩
  · refine (At.walk (Stop := fun g w' => g = rec139s (S.p j) (S.r j) (l ++ bot S (D.N j) j) ∧ ∃ d, w' = w.at d) (step_send _ _ _ _ (H.p1 hjn) (.stop fun d => ⟨rfl, d, rfl⟩)) A).bind ?_
    rintro m' T' ⟨g', w', ⟨rfl, d, rfl⟩, A'⟩
    refine (give_back (H.at d) hj he hn hm A').mono ?_
    rintro m2 T2 ⟨g₂, d2, k, hh, hc, A2⟩
    have hD : handed D j l (C.out x j) = { D with cs := upd D.cs j l } := by
      rw [ho]; simp only [handed, Option.isSome_none]
      rw [upd_eq _ he, show ((none : Option Bool) == some true) = false from rfl, upd_eq _ hb]
    refine ⟨g₂, _, l, hh, by rw [hD, ho]; exact A2, ?_, C.keep hI ((Keeps.at (Keeps.refl _ _) d).trans ((Keeps.at (Keeps.refl _ _) d2).trans (Keeps.chan (H.or j hjn) false (k + 1))))⟩
    rw [hD]
    exact (((H.at d).at d2).chan hc ⟨j, .inr (H.or j hjn)⟩).cs _
  · refine (ended_back H hj hn hm false (Keeps.set (.bool false) (H.oN j hj)) (H.ride hj (.bool false)) (g := G ((fr60 (D.N j) (S.F j) (.iface 224 (.pointer (some ⟨S.p j, 0, none⟩)))).finish (.tuple #[])) [fr78 (S.p j) (S.r j) (S.F j), bornfr]) ?_ A l).mono ?_
    · refine (ride_done (D.N j) _ _ _ _ w false hN hNz hfN).mono ?_
      rintro g w' ⟨rfl, d, rfl⟩
      exact ⟨true, rfl, d, rfl⟩
    · rintro m2 T2 ⟨g₂, w', hh, A2, H2, K2⟩
      rw [ho]
      exact ⟨g₂, w', l, hh, A2, H2, C.keep hI K2⟩
  · refine (ended_back H hj hn hm true ((Keeps.alloc _ w (.cells #[] 231)).trans (Keeps.set (.bool true) (H.oN j hj))) ((H.alloc (.cells #[] 231)).ride hj (.bool true)) (g := G ((fr60 (D.N j) (S.F j) (.iface 224 (.pointer (some ⟨S.p j, 0, none⟩)))).raise [{ v := .iface t v, recovered := false }]) [fr78 (S.p j) (S.r j) (S.F j), bornfr]) ?_ A l).mono ?_
    · refine (ride_broke (D.N j) _ _ t v ht _ _ w false hN hNz hfN).mono ?_
      rintro g w' ⟨rfl, d, rfl⟩
      exact ⟨false, rfl, d, rfl⟩
    · rintro m2 T2 ⟨g₂, w', hh, A2, H2, K2⟩
      rw [ho]
      exact ⟨g₂, w', l, hh, A2, H2, C.keep hI K2⟩
end
end
section
variable {main : Bool} {V : Nat → Option Wait}
noncomputable def ops79 : Array Oper := match Try.f141.body with | some (.seq (.region _ ops _) _) => ops | _ => #[]
noncomputable def rest79 : Code := match Try.f141.body with | some (.seq _ c) => c | _ => .skip
noncomputable def fr79 (B p : Nat) : Frame :=
  (base 141).at { tmps := #[.pointer (some ⟨B, 0, none⟩), .pointer (some ⟨p, 0, none⟩), undef, undef, .pointer (some ⟨p, 0, none⟩), undef, undef, undef, undef, undef, undef, undef, undef, undef, undef, undef, undef], defers := [] } [.inRegion ops79 [1], .code rest79]
theorem way79 (B p r : Nat) (cs : List Frame) (v : Wait) (hch : v.ch = r) (hz : v.z = .agg #[]) (hok : v.ok = true) (hf : v.f ⟨p, 1, none⟩ = some (.chan (some r))) (hh : v.home (rec107 p r (fr79 B p :: cs))) :
    Yonder Try.prog main v (G (Frame.enter Try.prog 141 #[.pointer (some ⟨B, 0, none⟩), .pointer (some ⟨p, 0, none⟩)] .normal) cs) := by
  rw [enter_at _ Try.func141 rfl]
  simp only [Try.f141, Option.getD_some, List.size_toArray, List.length_cons, List.length_nil, Nat.reduceAdd, Nat.reduceSub, Array.replicate_succ, Array.replicate_zero, List.push_toArray, List.append_toArray, List.nil_append, List.cons_append]
  iterate 3 (try (first | refine Yonder.c rfl ?_ | refine Yonder.cR ?_ | refine Yonder.cE ?_ | refine Yonder.cT ?_ | (refine Yonder.oq ?_; try walk_nrm)))
  refine Yonder.callE rfl (by rfl) (by decide) rfl Try.func160 (by kernel_rfl) (by rfl) ?_
  walk_nrm
  refine way107 p r _ v hch hz hok hf ?_
  simp only [fr79, ops79, rest79, Try.f141] at hh
  exact hh
def awaitW (w : World) (B p : Nat) (going : Int) (ok : Bool) : World :=
  if ok then (w.alloc (.cells #[] 107)).setCell ⟨p, 2, none⟩ (.bool false) else ((w.alloc (.cells #[] 107)).setCell ⟨p, 2, none⟩ (.bool true)).setCell ⟨B, 1, none⟩ (.int .i64 (going - 1))
theorem serve79 (B p r : Nat) (c : Frame) (cs : List Frame) (ok e0 : Bool) (going : Int) (w : World) (hg1 : 1 ≤ going) (hg2 : going ≤ 64) (hBp : B ≠ p) (h2 : w.cell? ⟨p, 2, none⟩ = some (.bool e0)) (hz2 : w.frozen? ⟨p, 2, none⟩ = false) (hfr : Free V ⟨p, 2, none⟩)
    (h1 : w.cell? ⟨B, 1, none⟩ = some (.int .i64 going)) (hz1 : w.frozen? ⟨B, 1, none⟩ = false) (hfr1 : Free V ⟨B, 1, none⟩) :
    Walk Try.prog main (DR V) (fun g w' => g = G (c.finish (.tuple #[])) cs ∧ ∃ d, w' = (awaitW w B p going ok).at d) (Go.Conc.served (rec107 p r (fr79 B p :: c :: cs)) (recvd true (.agg #[]) ok)) w := by
  refine (serve107 p r (fr79 B p) (c :: cs) ok e0 w h2 hz2 hfr).then ?_
  rintro g w' ⟨rfl, d, rfl⟩
  refine Walk.back ?_ d
  have ha := cell_alloc w (.cells #[] 107) h2
  have hb := cell_alloc w (.cells #[] 107) h1
  have hbz := frozen_alloc w (.cells #[] 107) h1 hz1
  have hne : (⟨p, 2, none⟩ : Addr) ≠ ⟨B, 1, none⟩ := fun e => by cases e
  have g2 := World.cell?_setCell_same (w.alloc (.cells #[] 107)) ⟨p, 2, none⟩ (.bool (!ok)) ha
  have g1 := (World.cell?_setCell_other (w.alloc (.cells #[] 107)) ⟨p, 2, none⟩ ⟨B, 1, none⟩ (.bool (!ok)) hne).trans hb
  have g1z : ((w.alloc (.cells #[] 107)).setCell ⟨p, 2, none⟩ (.bool (!ok))).frozen? ⟨B, 1, none⟩ = false := by rw [World.frozen?_setCell]; exact hbz
  generalize hW : (w.alloc (.cells #[] 107)).setCell ⟨p, 2, none⟩ (.bool (!ok)) = W at g1 g2 g1z ⊢
  unfold fr79
  rw [Frame.finish_at]
  simp only [ops79, rest79, Try.f141]
  walk_nrm
  cases ok with
  | true =>
    simp only [Bool.not_true] at g2 hW
    repeat (first | refine Walk.cx ?_ | refine Walk.cR ?_ | (refine Walk.oq ?_; try walk_nrm) | (refine Walk.un ?_; walk_nrm))
    exact Walk.ctl rfl (fun w => stepG_leave rfl rfl Try.func141 (results_none rfl _ _ w) (events_results_none rfl _ _)) (.stop fun d => ⟨rfl, d, by rw [← hW]; rfl⟩)
  | false =>
    simp only [Bool.not_false] at g2 hW
    have hw1 : IntKind.wrap .i64 (going - 1) = going - 1 := by rw [IntKind.wrap_i64]; omega
    repeat (first | refine Walk.cx ?_ | refine Walk.cR ?_ | (refine Walk.oq ?_; try walk_nrm) | (refine Walk.un ?_; walk_nrm))
    (refine Walk.os hfr1 g1 ?_; try walk_nrm)
    repeat (first | refine Walk.cx ?_ | refine Walk.cR ?_ | (refine Walk.oq ?_; try walk_nrm) | (refine Walk.un ?_; walk_nrm))
    exact Walk.ctl rfl (fun w => stepG_leave rfl rfl Try.func141 (results_none rfl _ _ w) (events_results_none rfl _ _)) (.stop fun d => ⟨rfl, d, by rw [← hW]; rfl⟩)
end
section
variable {main : Bool} {V : Nat → Option Wait}
noncomputable def rest81a : Code := match Try.f143.body with | some (.seq _ (.seq _ c)) => c | _ => .skip
noncomputable def ops81s : Array Oper := match rest81a with | .seq (.region _ ops _) _ => ops | _ => #[]
noncomputable def rest81 : Code := match rest81a with | .seq _ c => c | _ => .skip
noncomputable def ops81w : Array Oper := match rest81 with | .region _ ops _ => ops | _ => #[]
noncomputable def rec81s (B sb n scap i p ct N : Nat) (old new : Value) (cs : List Frame) : Goroutine :=
  G ((base 143).at { tmps := #[.pointer (some ⟨B, 0, none⟩), .int .i64 i, undef, undef, .int .i64 i, .bool false, .bool false, .int .i64 i, .pointer (some ⟨B, 0, none⟩), .pointer (some ⟨B, 0, none⟩), .pointer (some ⟨B, 0, none⟩), .slice (some ⟨sb, 0, none⟩) n scap, .int .i64 n, .bool false, .bool false, .bool false, .pointer (some ⟨B, 0, none⟩), .pointer (some ⟨B, 0, none⟩), .pointer (some ⟨B, 0, none⟩), .slice (some ⟨sb, 0, none⟩) n scap, .int .i64 i, .pointer (some ⟨sb, i, none⟩), .pointer (some ⟨p, 0, none⟩), .pointer (some ⟨p, 0, none⟩), .pointer (some ⟨p, 2, none⟩), .bool false, .bool false, .bool false, .pointer (some ⟨B, 0, none⟩), .bool false, .bool false, .pointer (some ⟨B, 0, none⟩), .pointer (some ⟨B, 0, none⟩), .pointer (some ⟨B, 0, none⟩), .pointer (some ⟨B, 3, none⟩), old, .int .i64 i, .slice (some ⟨N, 0, none⟩) 1 1, new, .pointer (some ⟨B, 0, none⟩), .pointer (some ⟨B, 3, none⟩), .pointer (some ⟨B, 0, none⟩), .pointer (some ⟨B, 0, none⟩), .pointer (some ⟨B, 0, none⟩), .slice (some ⟨sb, 0, none⟩) n scap, .int .i64 i, .pointer (some ⟨sb, i, none⟩), .pointer (some ⟨p, 0, none⟩), .pointer (some ⟨p, 0, none⟩), .pointer (some ⟨p, 0, none⟩), .chan (some ct), .agg #[], undef, undef, undef, undef, undef, undef, undef, undef, undef], defers := [] } [.inRegion ops81s [11], .code rest81]) cs
noncomputable def fr81 (B sb n scap i p ct N : Nat) (old new : Value) : Frame :=
  (base 143).at { tmps := #[.pointer (some ⟨B, 0, none⟩), .int .i64 i, undef, undef, .int .i64 i, .bool false, .bool false, .int .i64 i, .pointer (some ⟨B, 0, none⟩), .pointer (some ⟨B, 0, none⟩), .pointer (some ⟨B, 0, none⟩), .slice (some ⟨sb, 0, none⟩) n scap, .int .i64 n, .bool false, .bool false, .bool false, .pointer (some ⟨B, 0, none⟩), .pointer (some ⟨B, 0, none⟩), .pointer (some ⟨B, 0, none⟩), .slice (some ⟨sb, 0, none⟩) n scap, .int .i64 i, .pointer (some ⟨sb, i, none⟩), .pointer (some ⟨p, 0, none⟩), .pointer (some ⟨p, 0, none⟩), .pointer (some ⟨p, 2, none⟩), .bool false, .bool false, .bool false, .pointer (some ⟨B, 0, none⟩), .bool false, .bool false, .pointer (some ⟨B, 0, none⟩), .pointer (some ⟨B, 0, none⟩), .pointer (some ⟨B, 0, none⟩), .pointer (some ⟨B, 3, none⟩), old, .int .i64 i, .slice (some ⟨N, 0, none⟩) 1 1, new, .pointer (some ⟨B, 0, none⟩), .pointer (some ⟨B, 3, none⟩), .pointer (some ⟨B, 0, none⟩), .pointer (some ⟨B, 0, none⟩), .pointer (some ⟨B, 0, none⟩), .slice (some ⟨sb, 0, none⟩) n scap, .int .i64 i, .pointer (some ⟨sb, i, none⟩), .pointer (some ⟨p, 0, none⟩), .pointer (some ⟨p, 0, none⟩), .pointer (some ⟨p, 0, none⟩), .chan (some ct), .agg #[], .pointer (some ⟨B, 0, none⟩), .pointer (some ⟨B, 0, none⟩), .pointer (some ⟨B, 0, none⟩), .pointer (some ⟨B, 0, none⟩), .slice (some ⟨sb, 0, none⟩) n scap, .int .i64 i, .pointer (some ⟨sb, i, none⟩), .pointer (some ⟨p, 0, none⟩), undef], defers := [] } [.inRegion ops81w [8]]
theorem way81 (B sb n scap i p ct r N : Nat) (old new : Value) (cs : List Frame) (v : Wait) (hin : i < n) (hch : v.ch = r) (hz : v.z = .agg #[]) (hok : v.ok = true) (hf0 : v.f ⟨B, 0, none⟩ = some (.slice (some ⟨sb, 0, none⟩) n scap)) (hfi : v.f ⟨sb, i, none⟩ = some (.pointer (some ⟨p, 0, none⟩)))
    (hf1 : v.f ⟨p, 1, none⟩ = some (.chan (some r))) (hh : v.home (rec107 p r (fr79 B p :: fr81 B sb n scap i p ct N old new :: cs))) : Yonder Try.prog main v (Go.Conc.served (rec81s B sb n scap i p ct N old new cs) undef) := by
  unfold rec81s
  rw [served_fr, Frame.finish_at]
  simp only [ops81s, rest81, rest81a, Try.f143]
  walk_nrm
  have hi0 : (0 : Int) ≤ i := by omega
  have hi1 : decide ((i : Int) < 0) = false := by simp
  have hi2 : decide (n ≤ i) = false := by simp; omega
  iterate 7 (try (first | refine Yonder.c rfl ?_ | refine Yonder.cR ?_ | refine Yonder.cE ?_ | refine Yonder.cT ?_ | (refine Yonder.oq ?_; try walk_nrm)))
  co_applyP Yonder.ld _ hf0 rfl (by rfl) (by decide) ?krun1 ?kev1 ?krest1; (case krun1 => (intro w hw K hK; have hcx := hw _ _ hf0; go_simp; exact hK)); (case kev1 => (intro w hw e he; have hcx := hw _ _ hf0; simp [go_sem, *] at he; exact he)); try walk_nrm
  iterate 2 (try (first | refine Yonder.c rfl ?_ | refine Yonder.cR ?_ | refine Yonder.cE ?_ | refine Yonder.cT ?_ | (refine Yonder.oq ?_; try walk_nrm)))
  co_applyP Yonder.ld _ hfi rfl (by rfl) (by decide) ?krun2 ?kev2 ?krest2; (case krun2 => (intro w hw K hK; have hcx := hw _ _ hfi; go_simp; exact hK)); (case kev2 => (intro w hw e he; have hcx := hw _ _ hfi; simp [go_sem, *] at he; exact he)); try walk_nrm
  refine Yonder.callE rfl (by rfl) (by decide) rfl Try.func141 (by kernel_rfl) (by rfl) ?_
  walk_nrm
  refine way79 B p r _ v hch hz hok hf1 ?_
  simp only [fr81, ops81w, rest81, rest81a, Try.f143] at hh
  exact hh
theorem serve81 (B sb n scap i p ct r N : Nat) (old new : Value) (c : Frame) (cs : List Frame) (ok e0 : Bool) (going : Int) (w : World) (hg1 : 1 ≤ going) (hg2 : going ≤ 64) (hBp : B ≠ p) (h2 : w.cell? ⟨p, 2, none⟩ = some (.bool e0)) (hz2 : w.frozen? ⟨p, 2, none⟩ = false) (hfr : Free V ⟨p, 2, none⟩)
    (h1 : w.cell? ⟨B, 1, none⟩ = some (.int .i64 going)) (hz1 : w.frozen? ⟨B, 1, none⟩ = false) (hfr1 : Free V ⟨B, 1, none⟩) :
    Walk Try.prog main (DR V) (fun g w' => g = G (c.finish (.tuple #[])) cs ∧ ∃ d, w' = (awaitW w B p going ok).at d) (Go.Conc.served (rec107 p r (fr79 B p :: fr81 B sb n scap i p ct N old new :: c :: cs)) (recvd true (.agg #[]) ok)) w := by
  refine (serve79 B p r (fr81 B sb n scap i p ct N old new) (c :: cs) ok e0 going w hg1 hg2 hBp h2 hz2 hfr h1 hz1 hfr1).then ?_
  rintro g w' ⟨rfl, d, rfl⟩
  refine Walk.back ?_ d
  unfold fr81
  rw [Frame.finish_at]
  simp only [ops81w, rest81, rest81a, Try.f143]
  walk_nrm
  repeat (first | refine Walk.cx ?_ | refine Walk.cR ?_ | (refine Walk.oq ?_; try walk_nrm) | (refine Walk.un ?_; walk_nrm))
  exact Walk.ctl rfl (fun w => stepG_leave rfl rfl Try.func143 (results_none rfl _ _ w) (events_results_none rfl _ _)) (.stop fun d => ⟨rfl, d, rfl⟩)
end
end Go.Proofs.Ytbmijpkdghkbbaa
