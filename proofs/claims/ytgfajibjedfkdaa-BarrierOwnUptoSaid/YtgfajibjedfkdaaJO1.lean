/- Part 1. -/
import Derived.Conc.Token
set_option linter.unusedSimpArgs false
set_option linter.unusedVariables false
set_option maxHeartbeats 8000000
set_option maxRecDepth 100000
namespace Go.Relay
section
open Go.Conc
structure PastR (RS : Nat → Loc → Prop) (Mem : Nat → Prop) (B : Nat) (K : Nat → Prop) (t : Trace) : Prop where
  clean : ∀ said, ¬ Race said t
  known : ∀ i a, touchAt t i = some a → a.loc.isMemory = true → K i ∨ (a.write = false ∧ ∃ g, t.g? i = some g ∧ RS g a.loc)
  wrote : ∀ i a g, touchAt t i = some a → a.write = true → RS g a.loc → Knows t g i
  hears : ∀ g, Mem g → Deaf t g = 0
  seen : ∀ op ∈ t, op.act.low B
section
variable {RS RS' : Nat → Loc → Prop} {Mem Mem' : Nat → Prop} {B : Nat} {K K' : Nat → Prop} {t u : Trace}
theorem PastR.mono {B' : Nat} (H : PastR RS Mem B K t) (hB : B ≤ B') : PastR RS Mem B' K t :=
  ⟨H.clean, H.known, H.wrote, H.hears, fun op hop => MemAct.low_mono hB (H.seen op hop)⟩
theorem PastR.turn (H : PastR RS Mem B K t) (hK : ∀ i a, touchAt t i = some a → K i → K' i)
    (hold : ∀ i a g, touchAt t i = some a → a.write = false → t.g? i = some g → RS g a.loc → K' i ∨ RS' g a.loc)
    (hw : ∀ i a g, touchAt t i = some a → a.write = true → RS' g a.loc → Knows t g i) (hh : ∀ g, Mem' g → Deaf t g = 0) : PastR RS' Mem' B K' t := by
  refine ⟨H.clean, fun i a ha hm => ?_, hw, hh, H.seen⟩
  rcases H.known i a ha hm with h | ⟨h0, g, hg, hR⟩
  · exact .inl (hK i a ha h)
  · exact (hold i a g ha h0 hg hR).imp id fun x => ⟨h0, g, hg, x⟩
theorem PastR.grow (H : PastR RS Mem B K t) (hclean : ∀ said, ¬ Race said (t ++ u)) (hK : ∀ i, K i → K' i)
    (hold : ∀ (i : Nat) (x : MemOp) (a : Touch), t[i]? = some x → x.act.touch? = some a → a.write = false → RS x.g a.loc → K' i ∨ RS' x.g a.loc)
    (hnew : ∀ (i : Nat) (x : MemOp) (b : Touch), (t ++ u)[i]? = some x → x ∈ u → x.act.touch? = some b → b.loc.isMemory = true → K' i ∨ (b.write = false ∧ RS' x.g b.loc))
    (hw : ∀ (i : Nat) (a : Touch) (g : Nat), touchAt t i = some a → a.write = true → RS' g a.loc → Knows (t ++ u) g i)
    (hwn : ∀ x ∈ u, ∀ (b : Touch) (g : Nat), x.act.touch? = some b → b.write = true → ¬ RS' g b.loc)
    (hh : ∀ g, Mem' g → Deaf (t ++ u) g = 0) (hl : ∀ op ∈ u, op.act.low B) : PastR RS' Mem' B K' (t ++ u) := by
  refine ⟨hclean, fun i a ha hm => ?_, fun i a g ha hwr hR => ?_, hh, seen_app H.seen hl⟩
  · obtain ⟨x, hx, hxa⟩ := touch_of ha
    rcases getElem?_append_cases hx with ⟨hi, hx'⟩ | ⟨_, hxu⟩
    · rcases H.known i a (by rw [touchAt_of hx']; exact hxa) hm with h | ⟨h0, g, hg, hR⟩
      · exact .inl (hK i h)
      · have e : x.g = g := by have := g?_of hx'; rw [hg] at this; exact (Option.some.inj this).symm
        subst e
        exact (hold i x a hx' hxa h0 hR).imp id fun z => ⟨h0, x.g, g?_of hx, z⟩
    · exact (hnew i x a hx hxu hxa hm).imp id fun z => ⟨z.1, x.g, g?_of hx, z.2⟩
  · obtain ⟨x, hx, hxa⟩ := touch_of ha
    rcases getElem?_append_cases hx with ⟨hi, hx'⟩ | ⟨_, hxu⟩
    · exact hw i a g (by rw [touchAt_of hx']; exact hxa) hwr hR
    · exact absurd hR (hwn x hxu a g hxa hwr)
theorem PastR.own {h : Nat} (H : PastR RS Mem B (Knows t h) t) (hu : ∀ op ∈ u, op.g = h) (hs : ∀ op ∈ u, ∀ (b : Touch) (g : Nat), op.act.touch? = some b → b.write = true → ¬ RS g b.loc)
    (hd : Deaf (t ++ u) h = Deaf t h) (hl : ∀ op ∈ u, op.act.low B) : PastR RS Mem B (Knows (t ++ u) h) (t ++ u) := by
  refine H.grow (fun said => noRace_append (H.clean said) hu fun i a ha op hop b hb hc => ?_) (fun i => Knows.app u) (fun i x a _ _ _ hR => .inr hR) (fun i x b hx hxu _ _ => .inl (hu x hxu ▸ knows_own hx))
    (fun i a g ha hw hR => (H.wrote i a g ha hw hR).app u) (fun x hx b g hb hw => hs x hx b g hb hw) (fun g hg => ?_) hl
  · rcases H.known i a ha hc.2.1 with hk | ⟨h0, g, _, hR⟩
    · exact hk
    · rcases hc.2.2.1 with z | z
      · rw [h0] at z; cases z
      · exact absurd (hc.1 ▸ hR) (hs op hop b g hb z)
  · by_cases e : g = h
    · subst e; exact hd.trans (H.hears g hg)
    · exact (Deaf_other t (fun z => e z.symm) u hu).trans (H.hears g hg)
theorem PastR.mute {g : Nat} (H : PastR RS Mem B K t) (hK : ∀ i, K i → K' i) (hu : ∀ op ∈ u, op.g = g) (hn : ∀ op ∈ u, op.act.touch? = none) (hd : Mem g → Deaf (t ++ u) g = Deaf t g) (hl : ∀ op ∈ u, op.act.low B) : PastR RS Mem B K' (t ++ u) := by
  refine H.grow (fun said => noRace_appendMute (H.clean said) hn) hK (fun i x a _ _ _ hR => .inr hR) (fun i x b _ hxu hb _ => by rw [hn x hxu] at hb; cases hb) (fun i a g ha hw hR => (H.wrote i a g ha hw hR).app u)
    (fun x hx b _ hb => by rw [hn x hx] at hb; cases hb) (fun g' hg' => ?_) hl
  by_cases e : g' = g
  · subst e; exact (hd hg').trans (H.hears g' hg')
  · exact (Deaf_other t (fun z => e z.symm) u hu).trans (H.hears g' hg')
theorem PastR.reads {g : Nat} (H : PastR RS Mem B K t) (hK : ∀ i, K i → K' i) (hu : ∀ op ∈ u, op.g = g) (hr : ∀ op ∈ u, ∀ b, op.act.touch? = some b → b.write = false ∧ RS g b.loc) (hd : Deaf (t ++ u) g = Deaf t g) (hl : ∀ op ∈ u, op.act.low B) : PastR RS Mem B K' (t ++ u) := by
  refine H.grow (fun said => noRace_append (H.clean said) hu fun i a ha op hop b hb hc => ?_) hK (fun i x a _ _ _ hR => .inr hR) (fun i x b _ hxu hb _ => .inr ⟨(hr x hxu b hb).1, hu x hxu ▸ (hr x hxu b hb).2⟩)
    (fun i a g ha hw hR => (H.wrote i a g ha hw hR).app u) (fun x hx b _ hb hw => by rw [(hr x hx b hb).1] at hw; cases hw) (fun g' hg' => ?_) hl
  · obtain ⟨hb0, hbS⟩ := hr op hop b hb
    rcases hc.2.2.1 with z | z
    · exact H.wrote i a g ha z (hc.1 ▸ hbS)
    · rw [hb0] at z; cases z
  · by_cases e : g' = g
    · subst e; exact hd.trans (H.hears g' hg')
    · exact (Deaf_other t (fun z => e z.symm) u hu).trans (H.hears g' hg')
theorem PastR.take {j m c : Nat} (H : PastR RS Mem B (fun i => Before t i m) t) (hcl : ClosedAt c m t) (hj : Mem j) (fj : FuncId) (pj : String) (hc : c < B) :
    PastR (fun g l => g ≠ j ∧ RS g l) Mem B (Knows (t ++ #[{ g := j, fn := fj, pos := pj, act := .recvClosed c }]) j) (t ++ #[{ g := j, fn := fj, pos := pj, act := .recvClosed c }]) := by
  generalize hu : (#[{ g := j, fn := fj, pos := pj, act := .recvClosed c }] : Trace) = u
  have hmem : ∀ op ∈ u, op = { g := j, fn := fj, pos := pj, act := .recvClosed c } := by
    intro op hop
    subst hu
    simpa using hop
  have hn : ∀ op ∈ u, op.act.touch? = none := fun op hop => by rw [hmem op hop]; rfl
  have hq : ∀ g, ∀ op ∈ u, ∀ d, deafStep g d op = d := fun g op hop d => by rw [hmem op hop]; rfl
  have e0 : (t ++ u)[t.size]? = some { g := j, fn := fj, pos := pj, act := .recvClosed c } := by subst hu; simp
  have edge : HappensBefore (t ++ u) m t.size :=
    Relation.TransGen.single (.inr ⟨.closed (hcl.app u).1 (act?_of e0), (hcl.app u).2, ⟨j, g?_of e0, by rw [deaf_old (Nat.le_refl _)]; exact H.hears j hj⟩⟩)
  refine H.grow (fun said => noRace_appendMute (H.clean said) hn) (fun i hk => ⟨t.size, _, e0, rfl, .inr ((hk.app u).hb edge)⟩) (fun i x a hx _ _ hR => ?_)
    (fun i x b _ hxu hb _ => by rw [hn x hxu] at hb; cases hb) (fun i a g ha hw hR => (H.wrote i a g ha hw hR.2).app u) (fun x hx b _ hb => by rw [hn x hx] at hb; cases hb) (fun g hg => (Deaf_quiet (hq g)).trans (H.hears g hg))
    (fun op hop => by rw [hmem op hop]; exact hc)
  by_cases e : x.g = j
  · exact .inl (e ▸ (knows_own hx).app _)
  · exact .inr ⟨e, hR⟩
theorem PastR.ofPast (H : Past (fun _ => False) B t) : PastR (fun _ _ => False) (fun g => g = 0) B (Knows t 0) t :=
  ⟨H.clean, fun i a ha hm => (H.known i a ha hm).imp id fun x => x.1.elim, fun _ _ _ _ _ h => h.elim, fun _ hg => hg ▸ H.hears, H.seen⟩
theorem PastR.toPast (H : PastR RS Mem B (Knows t 0) t) (h0 : Mem 0) (hR : ∀ g l, ¬ RS g l) : Past (fun _ => False) B t := by
  have hk : ∀ i a, touchAt t i = some a → a.loc.isMemory = true → Knows t 0 i := fun i a ha hm => (H.known i a ha hm).elim id fun ⟨_, g, _, hl⟩ => absurd hl (hR g _)
  refine ⟨H.clean, fun i a ha hm => .inl (hk i a ha hm), fun i g hg hne ⟨x, hx, hm, _⟩ => ?_, H.hears 0 h0, H.seen⟩
  obtain ⟨q, z, hq, hz, hb⟩ := hk i x hx hm
  rcases hb with rfl | hb
  · rw [g?_of hq, hz] at hg
    exact absurd (Option.some.inj hg).symm hne
  · exact ⟨q, by rw [g?_of hq, hz], hb⟩
end
end
section
open Go.Conc
open Go.ConcN (sumTo upd sumTo_upd upd_ne upd_same)
structure Wait where
  ch : Nat
  z : Value
  ok : Bool
  home : Goroutine → Prop
  f : Addr → Option Value
def Wait.seat (v : Wait) : Seat := Seat.one v.ch v.z v.ok v.home
def Wait.S (v : Wait) (l : Loc) : Prop := ∃ a x, l = .cell a ∧ v.f a = some x
def Wait.K (v : Wait) (w : World) : Prop := ∀ a x, v.f a = some x → w.cell? a = some x
def Waits (P : Program) (main : Bool) (B : Nat) (v : Wait) (n : Nat) (g : Goroutine) : Prop := Sits P main v.K v.S B v.seat n g
theorem goes_mono {P : Program} {main : Bool} {R : World → World → Prop} {D D' : World → World → Array Event → Prop} {Stop Stop' : Goroutine → World → Prop} (hD : ∀ w w' es, D w w' es → D' w w' es) (hS : ∀ g w, Stop g w → Stop' g w) :
    ∀ {n : Nat} {g : Goroutine} {w : World}, Goes P main R D Stop n g w → Goes P main R D' Stop' n g w
  | 0, _, _, h => fun w₁ h₁ => hS _ _ (h w₁ h₁)
  | n + 1, g, w, h => by
    rcases h with h | ⟨hr, h⟩
    · exact .inl fun w₁ h₁ => hS _ _ (h w₁ h₁)
    · refine .inr ⟨hr, fun w₁ h₁ => ?_⟩
      have := h w₁ h₁
      revert this
      cases stepG P main g w₁ <;> simp only [GStep.goes, imp_self]
      exact fun ⟨d, x⟩ => ⟨hD _ _ _ d, goes_mono hD hS x⟩
theorem evC_mono {Still : Loc → Prop} {B B' : Nat} (hB : B ≤ B') {e : Event} (h : EvC Still B e) : EvC Still B' e := by
  obtain ⟨a, h1, h2, h3⟩ := h; exact ⟨a, h1, h2, Nat.lt_of_lt_of_le h3 hB⟩
theorem atIn_mono {P : Program} {main : Bool} {K : World → Prop} {Still : Loc → Prop} {B B' : Nat} (hB : B ≤ B') {s : Seat} {g g₂ : Goroutine} (h : AtIn P main K Still B s g g₂) : AtIn P main K Still B' s g g₂ := by
  obtain ⟨h1, h2, h3, h4, h5, es, h6, h7⟩ := h
  exact ⟨h1, h2, h3, h4, h5, es, fun e he => evC_mono hB (h6 e he), h7⟩
theorem Waits.mono {P : Program} {main : Bool} {B B' : Nat} {v : Wait} {n : Nat} {g : Goroutine} (h : Waits P main B v n g) (hB : B ≤ B') : Waits P main B' v n g := by
  rcases h with ⟨k, w, hn, hg⟩ | ⟨hn, g₀, g₂, hg, hat⟩
  · exact .inl ⟨k, w, hn, goes_mono (fun _ _ _ ⟨e, h⟩ => ⟨e, fun x hx => evC_mono hB (h x hx)⟩) (fun _ _ ⟨g₂, h⟩ => ⟨g₂, atIn_mono hB h⟩) hg⟩
  · exact .inr ⟨hn, g₀, g₂, hg, atIn_mono hB hat⟩
def Idles (P : Program) (B : Nat) (T : Trace) (i n : Nat) (g : Goroutine) : Option Wait → Prop
  | none => 0 < i ∧ QuitsD P n (Deaf T i) g
  | some v => Waits P (i == 0) B v n g
def RSof (V : Nat → Option Wait) (g : Nat) (l : Loc) : Prop := ∃ v, V g = some v ∧ v.S l
structure Core (P : Program) (B : Nat) (Kf : Trace → Nat → Prop) (V : Nat → Option Wait) (Sp Dead : Nat → Prop) (T : Trace) (gs : Array Goroutine) (w : World) (q : Nat → Nat) : Prop where
  idle : ∀ i g, ¬ Sp i → gs[i]? = some g → Idles P B T i (q i) g (V i)
  chan : ∀ i v, ¬ Dead i → V i = some v → ∃ k, w.heap[v.ch]? = some (.chan 0 #[] false k k false)
  live : ∀ i g, Dead i → gs[i]? = some g → g.status = .running
  inj : ∀ i i' v v', V i = some v → V i' = some v' → v.ch = v'.ch → i = i'
  above : ∀ j, gs.size ≤ j → Deaf T j = 0
  low : ∀ i v, V i = some v → v.ch < B
  stays : ∀ i v, V i = some v → v.K w
  past : PastR (RSof V) (fun g => Sp g ∨ (V g).isSome = true) B (Kf T) T
section
variable {P : Program} {B : Nat} {Kf : Trace → Nat → Prop} {V : Nat → Option Wait} {Sp Dead : Nat → Prop} {T : Trace} {gs : Array Goroutine} {w : World} {q : Nat → Nat}
theorem Core.at (C : Core P B Kf V Sp Dead T gs w q) (d : Nat) : Core P B Kf V Sp Dead T gs (w.at d) q := ⟨C.idle, C.chan, C.live, C.inj, C.above, C.low, C.stays, C.past⟩
theorem Core.mono {B' : Nat} (C : Core P B Kf V Sp Dead T gs w q) (hB : B ≤ B') : Core P B' Kf V Sp Dead T gs w q := by
  refine ⟨fun i g hs hg => ?_, C.chan, C.live, C.inj, C.above, fun i v e => Nat.lt_of_lt_of_le (C.low i v e) hB, C.stays, C.past.mono hB⟩
  have h := C.idle i g hs hg
  revert h
  cases V i with
  | none => exact id
  | some v => exact fun h => Waits.mono h hB
theorem Core.status (C : Core P B Kf V Sp Dead T gs w q) {x : Nat} {y : Goroutine} (hx : ¬ Sp x) (hy : gs[x]? = some y) : y.status = .running ∨ y.status = .blocked ∨ y.status = .finished := by
  have h := C.idle x y hx hy
  cases e : V x with
  | none => rw [e] at h; exact h.2.status.elim .inl fun z => .inr (.inr z)
  | some v => rw [e] at h; exact (Sits.status (C.stays x v e) h).elim (fun z => .inl z.1) fun z => .inr (.inl z.1)
theorem Core.fixed (C : Core P B Kf V Sp Dead T gs w q) {x : Nat} {y : Goroutine} (hx : ¬ Sp x) (hy : gs[x]? = some y) : y.again w = y := by
  have h := C.idle x y hx hy
  cases e : V x with
  | none => rw [e] at h; exact again_of_running h.2.status w
  | some v =>
    rw [e] at h
    by_cases hD : Dead x
    · exact again_of_running (.inl (C.live x y hD hy)) w
    · refine Sits.again (C.stays x v e) h (Seat.one_wf _ _ _ _) fun c hc => ?_
      obtain ⟨k, hk⟩ := C.chan x v hD e
      rw [Seat.one_has.1 hc]
      exact ⟨_, _, _, _, _, hk⟩
theorem Core.noSend (C : Core P B Kf V Sp Dead T gs w q) {x : Nat} {y : Goroutine} (hx : ¬ Sp x) (hy : gs[x]? = some y) (c : Nat) : offersAt y c true = [] := by
  have h := C.idle x y hx hy
  cases e : V x with
  | none => rw [e] at h; exact offersAt_of_not_blocked (fun hb => by rcases h.2.status with z | z <;> rw [z] at hb <;> cases hb) c true
  | some v =>
    rw [e] at h
    rcases h with h | ⟨_, _, g₂, rfl, _⟩
    · have hr := (Sits.status (C.stays x v e) (.inl h)).elim (·.1) (fun z => by obtain ⟨k, _, hn, _⟩ := h; omega)
      exact offersAt_of_not_blocked (fun hb => by rw [hr] at hb; cases hb) c true
    · exact offersAt_parked_recv' g₂ v.ch v.z (.recv v.ok) c
theorem Core.put (C : Core P B Kf V Sp Dead T gs w q) {i n' : Nat} {g' : Goroutine} {ops : Array MemOp} {gs' : Array Goroutine} (hlt : i < gs.size) (hsz : gs'.size = gs.size) (hoth : ∀ x, x ≠ i → gs'[x]? = gs[x]?) (hself : gs'[i]? = some g')
    (hops : ∀ op ∈ ops, op.g = i) (hlive : Dead i → g'.status = .running) (hid : Idles P B (T ++ ops) i n' g' (V i)) (hp : PastR (RSof V) (fun g => Sp g ∨ (V g).isSome = true) B (Kf (T ++ ops)) (T ++ ops)) :
    Core P B Kf V Sp Dead (T ++ ops) gs' w (upd q i n') := by
  refine ⟨fun x y hx hy => ?_, C.chan, fun x y hx hy => ?_, C.inj, fun j hj => ?_, C.low, C.stays, hp⟩
  · by_cases e : x = i
    · subst e
      rw [hself] at hy
      cases hy
      rw [upd_same]; exact hid
    · rw [hoth x e] at hy
      rw [upd_ne q n' e]
      have h := C.idle x y hx hy
      revert h
      cases V x with
      | none => exact fun h => ⟨h.1, by rw [Deaf_other T (fun z => e z.symm) ops hops]; exact h.2⟩
      | some v => exact id
  · by_cases e : x = i
    · subst e; rw [hself] at hy; cases hy; exact hlive hx
    · rw [hoth x e] at hy; exact C.live x y hx hy
  · rw [Deaf_other T (g' := i) (by omega) ops hops]
    exact C.above j (by omega)
theorem Core.byStep (hKf : ∀ t u i, Kf t i → Kf (t ++ u) i) (C : Core P B Kf V Sp Dead T gs w q) {i : Nat} {g : Goroutine} {sl : Option (Nat × Nat)} (hi : gs[i]? = some g) (hsp : ¬ Sp i) (hrun : g.status = .running)
    (hA : ∀ x gx, Sp x → gs[x]? = some gx → gx.again w = gx) (hD : Dead i → V i ≠ none)
    (hO : ∀ v g₂, V i = some v → AtIn P (i == 0) v.K v.S B v.seat g g₂ → ¬ Dead i ∧ ∀ x gx, Sp x → gs[x]? = some gx → offersAt gx v.ch true = []) :
    ∃ (gs' : Array Goroutine) (ops : Array MemOp) (q' : Nat → Nat), runT P (crowd gs w sl) i = (.next (crowd gs' w sl), ops) ∧ gs'.size = gs.size ∧ (∀ x, Sp x → gs'[x]? = gs[x]?) ∧ (∀ x, x ≠ i → q' x = q x) ∧
      (∀ v, V i = some v → q' i = 0 → ∃ g₂, AtIn P (i == 0) v.K v.S B v.seat g g₂) ∧ Core P B Kf V Sp Dead (T ++ ops) gs' w q' ∧ sumTo gs.size q' < sumTo gs.size q := by
  have hlt : i < gs.size := (Array.getElem?_eq_some_iff.1 hi).1
  have hne : ∀ x, Sp x → x ≠ i := fun x hx e => hsp (e ▸ hx)
  have hagain : ∀ (x : Nat) (y : Goroutine), gs[x]? = some y → y.again w = y := fun x y hy => by
    by_cases hx : Sp x
    · exact hA x y hx hy
    · exact C.fixed hx hy
  have hgo : ∀ (a' g' : Goroutine) (x : Nat), x ≠ i → ((gs.map (woken P g a' w)).setIfInBounds i g')[x]? = gs[x]? := by
    intro a' g' x hx
    rw [Array.getElem?_setIfInBounds_ne (fun e => hx e.symm), Array.getElem?_map]
    cases e : gs[x]? with
    | none => rfl
    | some y => exact congrArg some (woken_of_again (hagain x y e))
  have hown : ∀ (a' g' : Goroutine), ((gs.map (woken P g a' w)).setIfInBounds i g')[i]? = some g' := fun a' g' => Array.getElem?_setIfInBounds_self_of_lt (by simpa using hlt)
  have hless : ∀ k m, q i = k + 1 → m ≤ k → sumTo gs.size (upd q i m) < sumTo gs.size q := by
    intro k m hq hm
    have h2 : sumTo gs.size (upd q i m) + q i = sumTo gs.size q + m := sumTo_upd q m id hlt
    omega
  have hid := C.idle i g hsp hi
  cases e : V i with
  | none =>
    rw [e] at hid
    obtain ⟨hpos, hq⟩ := hid
    have hi0 : (i == 0) = false := by simp; omega
    cases hqi : q i with
    | zero => rw [hqi] at hq; rw [hq.1] at hrun; cases hrun
    | succ k =>
      rw [hqi] at hq
      rcases hq with ⟨hf, _⟩ | ⟨_, g', es, hm, hstp, hq'⟩
      · rw [hf] at hrun; cases hrun
      have hops : ∀ op ∈ MemOp.ofEvents i g.frame.fn g.frame.place es, op.g = i := fun op hop => by obtain ⟨e, _, rfl⟩ := Go.Conc.mem_ofEvents hop; rfl
      refine ⟨_, _, upd q i k, runT_crowd_go (sl := sl) hi (by rw [hi0]; exact hstp w), by simp, fun x hx => hgo _ _ x (hne x hx), fun x hx => upd_ne q k hx, fun v hv => (by cases hv), ?_, hless k k hqi (Nat.le_refl _)⟩
      refine C.put hlt (by simp) (hgo _ _) (hown _ _) hops (fun h => absurd e (hD h)) (by rw [e]; exact ⟨hpos, by rw [Deaf_own]; exact hq'⟩) ?_
      exact C.past.mute (hKf T _) hops (fun op hop => by obtain ⟨e, he, rfl⟩ := Go.Conc.mem_ofEvents hop; exact touch_mute (hm e he)) (fun hM => hM.elim (fun z => absurd z hsp) (fun z => by rw [e] at z; cases z)) (fun op hop => by obtain ⟨e, he, rfl⟩ := Go.Conc.mem_ofEvents hop; exact low_mute (hm e he) B)
  | some v =>
    rw [e] at hid
    have hRS : ∀ l, v.S l → RSof V i l := fun l hl => ⟨v, e, hl⟩
    obtain ⟨k, w₀, hqi, hg⟩ : ∃ k w₀, q i = k + 1 ∧ Goes P (i == 0) (RK v.K) (DS v.S B) (fun g _ => ∃ g₂, AtIn P (i == 0) v.K v.S B v.seat g g₂) k g w₀ := by
      rcases hid with h | ⟨_, _, g₂, rfl, _⟩
      · exact h
      · cases hrun
    have hreads : ∀ es, (∀ x ∈ es, EvC v.S B x) → PastR (RSof V) (fun g => Sp g ∨ (V g).isSome = true) B (Kf (T ++ MemOp.ofEvents i g.frame.fn g.frame.place es)) (T ++ MemOp.ofEvents i g.frame.fn g.frame.place es) := fun es hes => by
      obtain ⟨hops, hr, hl, hd⟩ := evC_ops (i := i) (fn := g.frame.fn) (pos := g.frame.place) hes
      exact C.past.reads (hKf T _) hops (fun op hop b hb => ⟨(hr op hop b hb).1, hRS _ (hr op hop b hb).2⟩) (hd T) hl
    have hcase : (∃ g₂, AtIn P (i == 0) v.K v.S B v.seat g g₂) ∨ ∃ k' g' es, k = k' + 1 ∧ stepG P (i == 0) g w = .go g' w es ∧ (∀ e ∈ es, EvC v.S B e) ∧ Goes P (i == 0) (RK v.K) (DS v.S B) (fun g _ => ∃ g₂, AtIn P (i == 0) v.K v.S B v.seat g g₂) k' g' w := by
      have hK := C.stays i v e
      cases k with
      | zero => exact .inl (hg w hK)
      | succ k' =>
        rcases hg with hstop | ⟨_, hstep⟩
        · exact .inl (hstop w hK)
        · have hs := hstep w hK
          cases hgo' : stepG P (i == 0) g w with
          | go g' w' es =>
            rw [hgo', goes_go] at hs
            obtain ⟨⟨rfl, hes⟩, hG'⟩ := hs
            exact .inr ⟨k', g', es, rfl, rfl, hes, hG'⟩
          | _ => rw [hgo'] at hs; exact hs.elim
    rcases hcase with ⟨g₂, hat⟩ | ⟨k', g', es, rfl, hgo', hes, hG'⟩
    ·
      obtain ⟨hnD, hsO⟩ := hO v g₂ e hat
      obtain ⟨_, _, _, _, _, es, hes, hstp⟩ := id hat
      obtain ⟨kk, hc⟩ := C.chan i v hnD e
      have hw : ∀ cc ∈ v.seat.cases, NoWays w (gs.setIfInBounds i ph) cc := by
        intro cc hcc
        have : cc = rcase v.ch v.z := by simpa [Wait.seat, Seat.one] using hcc
        subst this
        refine ways_recv_none hc (partners_nil fun x y hy => ?_)
        rcases getElem?_stand gs i x y hy with ⟨_, rfl⟩ | ⟨_, hy'⟩
        · exact offersAt_ph _ _
        · by_cases hS : Sp x
          · exact hsO x y hS hy'
          · exact C.noSend hS hy' _
      obtain ⟨hops, _⟩ := evC_ops (i := i) (fn := g.frame.fn) (pos := g.frame.place) hes
      refine ⟨_, _, upd q i 0, crowd_waits (sl := sl) hi (hstp w (C.stays i v e)) hw, by simp, fun x hx => Array.getElem?_setIfInBounds_ne (fun z => hne x hx z.symm), fun x hx => upd_ne q 0 hx, fun v' hv' _ => (by cases hv'; exact ⟨g₂, hat⟩), ?_, hless k 0 hqi (Nat.zero_le _)⟩
      exact C.put hlt (by simp) (fun x hx => Array.getElem?_setIfInBounds_ne (fun z => hx z.symm)) (Array.getElem?_setIfInBounds_self_of_lt hlt) hops (fun h => absurd h hnD) (by rw [e]; exact .inr ⟨rfl, g, g₂, rfl, hat⟩) (hreads es hes)
    · obtain ⟨hops, _⟩ := evC_ops (i := i) (fn := g.frame.fn) (pos := g.frame.place) hes
      refine ⟨_, _, upd q i (k' + 1), runT_crowd_go (sl := sl) hi hgo', by simp, fun x hx => hgo _ _ x (hne x hx), fun x hx => upd_ne q _ hx, fun v' _ h0 => (by rw [upd_same] at h0; omega), ?_, hless _ _ hqi (Nat.le_refl _)⟩
      exact C.put hlt (by simp) (hgo _ _) (hown _ _) hops (fun _ => (Sits.status (C.stays i v e) (.inl ⟨k', w, rfl, hG'⟩)).elim (·.1) (fun z => by omega)) (by rw [e]; exact .inl ⟨k', w, rfl, hG'⟩) (hreads es hes)
end
end
end Go.Relay
