/- Part 1. -/
import Derived.Conc.Token
set_option linter.unusedSimpArgs false
set_option linter.unusedVariables false
set_option maxHeartbeats 8000000
set_option maxRecDepth 100000
namespace Go.Relay
section
open Go.Conc
structure PastR (RS : Nat → Loc → Prop) (Mem : Nat → Prop) (B : Nat) (K : Nat → Prop) (t : Trace) : Prop where
  clean : ∀ said, ¬ Race said t
  known : ∀ i a, touchAt t i = some a → a.loc.isMemory = true → K i ∨ (a.write = false ∧ ∃ g, t.g? i = some g ∧ RS g a.loc)
  wrote : ∀ i a g, touchAt t i = some a → a.write = true → RS g a.loc → Knows t g i
  hears : ∀ g, Mem g → Deaf t g = 0
  seen : ∀ op ∈ t, op.act.low B
section
variable {RS RS' : Nat → Loc → Prop} {Mem Mem' : Nat → Prop} {B : Nat} {K K' : Nat → Prop} {t u : Trace}
theorem PastR.mono {B' : Nat} (H : PastR RS Mem B K t) (hB : B ≤ B') : PastR RS Mem B' K t :=
  ⟨H.clean, H.known, H.wrote, H.hears, fun op hop => MemAct.low_mono hB (H.seen op hop)⟩
theorem PastR.turn (H : PastR RS Mem B K t) (hK : ∀ i a, touchAt t i = some a → K i → K' i)
    (hold : ∀ i a g, touchAt t i = some a → a.write = false → t.g? i = some g → RS g a.loc → K' i ∨ RS' g a.loc)
    (hw : ∀ i a g, touchAt t i = some a → a.write = true → RS' g a.loc → Knows t g i) (hh : ∀ g, Mem' g → Deaf t g = 0) : PastR RS' Mem' B K' t := by
  refine ⟨H.clean, fun i a ha hm => ?_, hw, hh, H.seen⟩
  rcases H.known i a ha hm with h | ⟨h0, g, hg, hR⟩
  · exact .inl (hK i a ha h)
  · exact (hold i a g ha h0 hg hR).imp id fun x => ⟨h0, g, hg, x⟩
theorem PastR.grow (H : PastR RS Mem B K t) (hclean : ∀ said, ¬ Race said (t ++ u)) (hK : ∀ i, K i → K' i)
    (hold : ∀ (i : Nat) (x : MemOp) (a : Touch), t[i]? = some x → x.act.touch? = some a → a.write = false → RS x.g a.loc → K' i ∨ RS' x.g a.loc)
    (hnew : ∀ (i : Nat) (x : MemOp) (b : Touch), (t ++ u)[i]? = some x → x ∈ u → x.act.touch? = some b → b.loc.isMemory = true → K' i ∨ (b.write = false ∧ RS' x.g b.loc))
    (hw : ∀ (i : Nat) (a : Touch) (g : Nat), touchAt t i = some a → a.write = true → RS' g a.loc → Knows (t ++ u) g i)
    (hwn : ∀ x ∈ u, ∀ (b : Touch) (g : Nat), x.act.touch? = some b → b.write = true → ¬ RS' g b.loc)
    (hh : ∀ g, Mem' g → Deaf (t ++ u) g = 0) (hl : ∀ op ∈ u, op.act.low B) : PastR RS' Mem' B K' (t ++ u) := by
  refine ⟨hclean, fun i a ha hm => ?_, fun i a g ha hwr hR => ?_, hh, seen_app H.seen hl⟩
  · obtain ⟨x, hx, hxa⟩ := touch_of ha
    rcases getElem?_append_cases hx with ⟨hi, hx'⟩ | ⟨_, hxu⟩
    · rcases H.known i a (by rw [touchAt_of hx']; exact hxa) hm with h | ⟨h0, g, hg, hR⟩
      · exact .inl (hK i h)
      · have e : x.g = g := by have := g?_of hx'; rw [hg] at this; exact (Option.some.inj this).symm
        subst e
        exact (hold i x a hx' hxa h0 hR).imp id fun z => ⟨h0, x.g, g?_of hx, z⟩
    · exact (hnew i x a hx hxu hxa hm).imp id fun z => ⟨z.1, x.g, g?_of hx, z.2⟩
  · obtain ⟨x, hx, hxa⟩ := touch_of ha
    rcases getElem?_append_cases hx with ⟨hi, hx'⟩ | ⟨_, hxu⟩
    · exact hw i a g (by rw [touchAt_of hx']; exact hxa) hwr hR
    · exact absurd hR (hwn x hxu a g hxa hwr)
theorem PastR.own {h : Nat} (H : PastR RS Mem B (Knows t h) t) (hu : ∀ op ∈ u, op.g = h) (hs : ∀ op ∈ u, ∀ (b : Touch) (g : Nat), op.act.touch? = some b → b.write = true → ¬ RS g b.loc)
    (hd : Deaf (t ++ u) h = Deaf t h) (hl : ∀ op ∈ u, op.act.low B) : PastR RS Mem B (Knows (t ++ u) h) (t ++ u) := by
  refine H.grow (fun said => noRace_append (H.clean said) hu fun i a ha op hop b hb hc => ?_) (fun i => Knows.app u) (fun i x a _ _ _ hR => .inr hR) (fun i x b hx hxu _ _ => .inl (hu x hxu ▸ knows_own hx))
    (fun i a g ha hw hR => (H.wrote i a g ha hw hR).app u) (fun x hx b g hb hw => hs x hx b g hb hw) (fun g hg => ?_) hl
  · rcases H.known i a ha hc.2.1 with hk | ⟨h0, g, _, hR⟩
    · exact hk
    · rcases hc.2.2.1 with z | z
      · rw [h0] at z; cases z
      · exact absurd (hc.1 ▸ hR) (hs op hop b g hb z)
  · by_cases e : g = h
    · subst e; exact hd.trans (H.hears g hg)
    · exact (Deaf_other t (fun z => e z.symm) u hu).trans (H.hears g hg)
theorem PastR.mute {g : Nat} (H : PastR RS Mem B K t) (hK : ∀ i, K i → K' i) (hu : ∀ op ∈ u, op.g = g) (hn : ∀ op ∈ u, op.act.touch? = none) (hd : Mem g → Deaf (t ++ u) g = Deaf t g) (hl : ∀ op ∈ u, op.act.low B) : PastR RS Mem B K' (t ++ u) := by
  refine H.grow (fun said => noRace_appendMute (H.clean said) hn) hK (fun i x a _ _ _ hR => .inr hR) (fun i x b _ hxu hb _ => by rw [hn x hxu] at hb; cases hb) (fun i a g ha hw hR => (H.wrote i a g ha hw hR).app u)
    (fun x hx b _ hb => by rw [hn x hx] at hb; cases hb) (fun g' hg' => ?_) hl
  by_cases e : g' = g
  · subst e; exact (hd hg').trans (H.hears g' hg')
  · exact (Deaf_other t (fun z => e z.symm) u hu).trans (H.hears g' hg')
theorem PastR.reads {g : Nat} (H : PastR RS Mem B K t) (hK : ∀ i, K i → K' i) (hu : ∀ op ∈ u, op.g = g) (hr : ∀ op ∈ u, ∀ b, op.act.touch? = some b → b.write = false ∧ RS g b.loc) (hd : Deaf (t ++ u) g = Deaf t g) (hl : ∀ op ∈ u, op.act.low B) : PastR RS Mem B K' (t ++ u) := by
  refine H.grow (fun said => noRace_append (H.clean said) hu fun i a ha op hop b hb hc => ?_) hK (fun i x a _ _ _ hR => .inr hR) (fun i x b _ hxu hb _ => .inr ⟨(hr x hxu b hb).1, hu x hxu ▸ (hr x hxu b hb).2⟩)
    (fun i a g ha hw hR => (H.wrote i a g ha hw hR).app u) (fun x hx b _ hb hw => by rw [(hr x hx b hb).1] at hw; cases hw) (fun g' hg' => ?_) hl
  · obtain ⟨hb0, hbS⟩ := hr op hop b hb
    rcases hc.2.2.1 with z | z
    · exact H.wrote i a g ha z (hc.1 ▸ hbS)
    · rw [hb0] at z; cases z
  · by_cases e : g' = g
    · subst e; exact hd.trans (H.hears g' hg')
    · exact (Deaf_other t (fun z => e z.symm) u hu).trans (H.hears g' hg')
def RSto (RS : Nat → Loc → Prop) (h j : Nat) (S : Loc → Prop) (g : Nat) (l : Loc) : Prop := (g = h ∧ S l) ∨ (g ≠ h ∧ g ≠ j ∧ RS g l)
theorem PastR.give {h j : Nat} (H : PastR RS Mem B (Knows t h) t) (hjh : j ≠ h) (hh : Mem h) (hj : Mem j) (hR0 : ∀ l, ¬ RS h l) {S : Loc → Prop} (hS : ∀ l, S l → l.isMemory = true) (fh : FuncId) (ph : String) (fj : FuncId) (pj : String) {c : Nat} (k cap : Nat) (hc : c < B) :
    PastR (RSto RS h j S) Mem B (Knows (t ++ met h j fh ph fj pj c k cap) j) (t ++ met h j fh ph fj pj c k cap) := by
  have hn := met_mute h j fh ph fj pj c k cap
  have hq := met_quiet h j fh ph fj pj c k cap
  have e0 : (t ++ met h j fh ph fj pj c k cap)[t.size]? = some { g := h, fn := fh, pos := ph, act := .send c k } := by simp [met]
  have e3 : (t ++ met h j fh ph fj pj c k cap)[t.size + 3]? = some { g := j, fn := fj, pos := pj, act := .recvDone c k } := by simp [met]
  have edge : HappensBefore (t ++ met h j fh ph fj pj c k cap) t.size (t.size + 3) :=
    Relation.TransGen.single (.inr ⟨.handOver (act?_of e0) (act?_of e3), ⟨h, g?_of e0, by rw [deaf_old (Nat.le_refl _)]; exact H.hears h hh⟩, ⟨j, g?_of e3, by rw [deaf_quiet (hq j) 3 (by simp [met])]; exact H.hears j hj⟩⟩)
  refine H.grow (fun said => noRace_appendMute (H.clean said) hn) (fun i hk => ⟨t.size + 3, _, e3, rfl, .inr ((hk.hb_new (Nat.le_refl _) e0 rfl).trans edge)⟩) (fun i x a hx _ _ hR => ?_)
    (fun i x b _ hxu hb _ => by rw [hn x hxu] at hb; cases hb) (fun i a g ha hw hR => ?_) (fun x hx b _ hb => by rw [hn x hx] at hb; cases hb) (fun g hg => (Deaf_quiet (hq g)).trans (H.hears g hg)) (fun op hop => ?_)
  · by_cases e : x.g = j
    · exact .inl (e ▸ (knows_own hx).app _)
    · exact .inr (.inr ⟨fun e' => hR0 _ (e' ▸ hR), e, hR⟩)
  · rcases hR with ⟨rfl, hl⟩ | ⟨_, _, hl⟩
    · rcases H.known i a ha (hS _ hl) with hk | ⟨h0, _⟩
      · exact hk.app _
      · rw [hw] at h0; cases h0
    · exact (H.wrote i a g ha hw hl).app _
  · simp only [met, List.mem_toArray, List.mem_cons, List.not_mem_nil, or_false] at hop
    rcases hop with rfl | rfl | rfl | rfl <;> exact hc
theorem PastR.hireGive {h c : Nat} (H : PastR RS Mem B (Knows t h) t) (hch : c ≠ h) (hh : Mem h) (hc0 : Deaf t c = 0) (hR0 : ∀ l, ¬ RS h l) (hRc : ∀ l, ¬ RS c l) {S : Loc → Prop} (hS : ∀ l, S l → l.isMemory = true) (fh : FuncId) (ph : String) (fc : FuncId) :
    PastR (RSto RS h c S) (fun g => Mem g ∨ g = c) B (Knows (t ++ #[{ g := h, fn := fh, pos := ph, act := .go c }, { g := c, fn := fc, pos := ph, act := .start }]) c) (t ++ #[{ g := h, fn := fh, pos := ph, act := .go c }, { g := c, fn := fc, pos := ph, act := .start }]) := by
  generalize hu : (#[{ g := h, fn := fh, pos := ph, act := .go c }, { g := c, fn := fc, pos := ph, act := .start }] : Trace) = u
  have hmem : ∀ op ∈ u, op = { g := h, fn := fh, pos := ph, act := .go c } ∨ op = { g := c, fn := fc, pos := ph, act := .start } := by
    intro op hop
    subst hu
    simpa using hop
  have hn : ∀ op ∈ u, op.act.touch? = none := fun op hop => by rcases hmem op hop with rfl | rfl <;> rfl
  have hq : ∀ g, ∀ op ∈ u, ∀ d, deafStep g d op = d := fun g op hop d => by rcases hmem op hop with rfl | rfl <;> rfl
  have e0 : (t ++ u)[t.size]? = some { g := h, fn := fh, pos := ph, act := .go c } := by subst hu; simp
  have e1 : (t ++ u)[t.size + 1]? = some { g := c, fn := fc, pos := ph, act := .start } := by subst hu; simp
  have edge : HappensBefore (t ++ u) t.size (t.size + 1) :=
    Relation.TransGen.single (.inr ⟨.spawn (act?_of e0) (act?_of e1) (g?_of e1), ⟨h, g?_of e0, by rw [deaf_old (Nat.le_refl _)]; exact H.hears h hh⟩, ⟨c, g?_of e1, by rw [deaf_quiet (hq c) 1 (by subst hu; simp)]; exact hc0⟩⟩)
  refine H.grow (fun said => noRace_appendMute (H.clean said) hn) (fun i hk => ⟨t.size + 1, _, e1, rfl, .inr ((hk.hb_new (Nat.le_refl _) e0 rfl).trans edge)⟩) (fun i x a hx _ _ hR => .inr (.inr ⟨fun e' => hR0 _ (e' ▸ hR), fun e' => hRc _ (e' ▸ hR), hR⟩))
    (fun i x b _ hxu hb _ => by rw [hn x hxu] at hb; cases hb) (fun i a g ha hw hR => ?_) (fun x hx b _ hb => by rw [hn x hx] at hb; cases hb) (fun g hg => (Deaf_quiet (hq g)).trans (hg.elim (H.hears g) fun e => e ▸ hc0))
    (fun op hop => by rcases hmem op hop with rfl | rfl <;> trivial)
  rcases hR with ⟨rfl, hl⟩ | ⟨_, _, hl⟩
  · rcases H.known i a ha (hS _ hl) with hk | ⟨h0, _⟩
    · exact hk.app _
    · rw [hw] at h0; cases h0
  · exact (H.wrote i a g ha hw hl).app _
theorem PastR.shut {h m : Nat} {op : MemOp} (H : PastR RS Mem B (Knows t h) t) (hm : t[m]? = some op) (hg : op.g = h) (hlast : m + 1 = t.size) (hR0 : ∀ l, ¬ RS h l) {S : Loc → Prop} (hS : ∀ l, S l → l.isMemory = true) :
    PastR (fun g l => (g = h ∧ S l) ∨ RS g l) Mem B (fun i => Before t i m) t := by
  refine H.turn (fun i a ha hk => ?_) (fun i a g _ _ _ hR => .inr (.inr hR)) (fun i a g ha hw hR => ?_) H.hears
  · obtain ⟨q, z, hq, hz, hb⟩ := hk
    have hqm : q ≤ m := by have := lt_size_of_getElem? hq; omega
    refine hb.trans ?_
    rcases Nat.lt_or_ge q m with hlt | hge
    · exact .inr (hb_po hlt hq hm (hz.trans hg.symm))
    · exact .inl (by omega)
  · rcases hR with ⟨rfl, hl⟩ | hl
    · rcases H.known i a ha (hS _ hl) with hk | ⟨h0, _⟩
      · exact hk
      · rw [hw] at h0; cases h0
    · exact H.wrote i a g ha hw hl
theorem PastR.take {j m c : Nat} (H : PastR RS Mem B (fun i => Before t i m) t) (hcl : ClosedAt c m t) (hj : Mem j) (fj : FuncId) (pj : String) (hc : c < B) :
    PastR (fun g l => g ≠ j ∧ RS g l) Mem B (Knows (t ++ #[{ g := j, fn := fj, pos := pj, act := .recvClosed c }]) j) (t ++ #[{ g := j, fn := fj, pos := pj, act := .recvClosed c }]) := by
  generalize hu : (#[{ g := j, fn := fj, pos := pj, act := .recvClosed c }] : Trace) = u
  have hmem : ∀ op ∈ u, op = { g := j, fn := fj, pos := pj, act := .recvClosed c } := by
    intro op hop
    subst hu
    simpa using hop
  have hn : ∀ op ∈ u, op.act.touch? = none := fun op hop => by rw [hmem op hop]; rfl
  have hq : ∀ g, ∀ op ∈ u, ∀ d, deafStep g d op = d := fun g op hop d => by rw [hmem op hop]; rfl
  have e0 : (t ++ u)[t.size]? = some { g := j, fn := fj, pos := pj, act := .recvClosed c } := by subst hu; simp
  have edge : HappensBefore (t ++ u) m t.size :=
    Relation.TransGen.single (.inr ⟨.closed (hcl.app u).1 (act?_of e0), (hcl.app u).2, ⟨j, g?_of e0, by rw [deaf_old (Nat.le_refl _)]; exact H.hears j hj⟩⟩)
  refine H.grow (fun said => noRace_appendMute (H.clean said) hn) (fun i hk => ⟨t.size, _, e0, rfl, .inr ((hk.app u).hb edge)⟩) (fun i x a hx _ _ hR => ?_)
    (fun i x b _ hxu hb _ => by rw [hn x hxu] at hb; cases hb) (fun i a g ha hw hR => (H.wrote i a g ha hw hR.2).app u) (fun x hx b _ hb => by rw [hn x hx] at hb; cases hb) (fun g hg => (Deaf_quiet (hq g)).trans (H.hears g hg))
    (fun op hop => by rw [hmem op hop]; exact hc)
  by_cases e : x.g = j
  · exact .inl (e ▸ (knows_own hx).app _)
  · exact .inr ⟨e, hR⟩
theorem PastR.ofPast (H : Past (fun _ => False) B t) : PastR (fun _ _ => False) (fun g => g = 0) B (Knows t 0) t :=
  ⟨H.clean, fun i a ha hm => (H.known i a ha hm).imp id fun x => x.1.elim, fun _ _ _ _ _ h => h.elim, fun _ hg => hg ▸ H.hears, H.seen⟩
theorem PastR.toPast (H : PastR RS Mem B (Knows t 0) t) (h0 : Mem 0) (hR : ∀ g l, ¬ RS g l) : Past (fun _ => False) B t := by
  have hk : ∀ i a, touchAt t i = some a → a.loc.isMemory = true → Knows t 0 i := fun i a ha hm => (H.known i a ha hm).elim id fun ⟨_, g, _, hl⟩ => absurd hl (hR g _)
  refine ⟨H.clean, fun i a ha hm => .inl (hk i a ha hm), fun i g hg hne ⟨x, hx, hm, _⟩ => ?_, H.hears 0 h0, H.seen⟩
  obtain ⟨q, z, hq, hz, hb⟩ := hk i x hx hm
  rcases hb with rfl | hb
  · rw [g?_of hq, hz] at hg
    exact absurd (Option.some.inj hg).symm hne
  · exact ⟨q, by rw [g?_of hq, hz], hb⟩
end
end
section
open Go.Conc
open Go.ConcN (sumTo upd sumTo_upd upd_ne upd_same)
structure Wait where
  ch : Nat
  z : Value
  ok : Bool
  home : Goroutine → Prop
  f : Addr → Option Value
def Wait.seat (v : Wait) : Seat := Seat.one v.ch v.z v.ok v.home
def Wait.S (v : Wait) (l : Loc) : Prop := ∃ a x, l = .cell a ∧ v.f a = some x
def Wait.K (v : Wait) (w : World) : Prop := ∀ a x, v.f a = some x → w.cell? a = some x
theorem Wait.S_mem {v : Wait} {l : Loc} (h : v.S l) : l.isMemory = true := by
  obtain ⟨a, x, rfl, _⟩ := h; rfl
theorem cell?_setChan_of {w : World} {c cap s r : Nat} {buf : Array Value} {cl tm : Bool} (hc : w.heap[c]? = some (.chan cap buf cl s r tm)) (cap' : Nat) (buf' : Array Value) (cl' : Bool) (s' r' : Nat) (tm' : Bool) (a : Addr) :
    (w.setChan c cap' buf' cl' s' r' tm').cell? a = w.cell? a := by
  unfold World.cell?
  by_cases e : c = a.block
  · subst e
    rw [heap_setChan_self w hc, hc]
  · rw [heap_setChan_ne w _ _ _ _ _ _ e]
theorem Wait.K_setChan {v : Wait} {w : World} (h : v.K w) {c cap s r : Nat} {buf : Array Value} {cl tm : Bool} (hc : w.heap[c]? = some (.chan cap buf cl s r tm)) (cap' : Nat) (buf' : Array Value) (cl' : Bool) (s' r' : Nat) (tm' : Bool) :
    v.K (w.setChan c cap' buf' cl' s' r' tm') := fun a x e => by rw [cell?_setChan_of hc]; exact h a x e
def Waits (P : Program) (main : Bool) (B : Nat) (v : Wait) (n : Nat) (g : Goroutine) : Prop := Sits P main v.K v.S B v.seat n g
theorem goes_mono {P : Program} {main : Bool} {R : World → World → Prop} {D D' : World → World → Array Event → Prop} {Stop Stop' : Goroutine → World → Prop} (hD : ∀ w w' es, D w w' es → D' w w' es) (hS : ∀ g w, Stop g w → Stop' g w) :
    ∀ {n : Nat} {g : Goroutine} {w : World}, Goes P main R D Stop n g w → Goes P main R D' Stop' n g w
  | 0, _, _, h => fun w₁ h₁ => hS _ _ (h w₁ h₁)
  | n + 1, g, w, h => by
    rcases h with h | ⟨hr, h⟩
    · exact .inl fun w₁ h₁ => hS _ _ (h w₁ h₁)
    · refine .inr ⟨hr, fun w₁ h₁ => ?_⟩
      have := h w₁ h₁
      revert this
      cases stepG P main g w₁ <;> simp only [GStep.goes, imp_self]
      exact fun ⟨d, x⟩ => ⟨hD _ _ _ d, goes_mono hD hS x⟩
theorem evC_mono {Still : Loc → Prop} {B B' : Nat} (hB : B ≤ B') {e : Event} (h : EvC Still B e) : EvC Still B' e := by
  obtain ⟨a, h1, h2, h3⟩ := h; exact ⟨a, h1, h2, Nat.lt_of_lt_of_le h3 hB⟩
theorem atIn_mono {P : Program} {main : Bool} {K : World → Prop} {Still : Loc → Prop} {B B' : Nat} (hB : B ≤ B') {s : Seat} {g g₂ : Goroutine} (h : AtIn P main K Still B s g g₂) : AtIn P main K Still B' s g g₂ := by
  obtain ⟨h1, h2, h3, h4, h5, es, h6, h7⟩ := h
  exact ⟨h1, h2, h3, h4, h5, es, fun e he => evC_mono hB (h6 e he), h7⟩
theorem Waits.mono {P : Program} {main : Bool} {B B' : Nat} {v : Wait} {n : Nat} {g : Goroutine} (h : Waits P main B v n g) (hB : B ≤ B') : Waits P main B' v n g := by
  rcases h with ⟨k, w, hn, hg⟩ | ⟨hn, g₀, g₂, hg, hat⟩
  · exact .inl ⟨k, w, hn, goes_mono (fun _ _ _ ⟨e, h⟩ => ⟨e, fun x hx => evC_mono hB (h x hx)⟩) (fun _ _ ⟨g₂, h⟩ => ⟨g₂, atIn_mono hB h⟩) hg⟩
  · exact .inr ⟨hn, g₀, g₂, hg, atIn_mono hB hat⟩
def Idles (P : Program) (B : Nat) (T : Trace) (i n : Nat) (g : Goroutine) : Option Wait → Prop
  | none => 0 < i ∧ QuitsD P n (Deaf T i) g
  | some v => Waits P (i == 0) B v n g
def RSof (V : Nat → Option Wait) (g : Nat) (l : Loc) : Prop := ∃ v, V g = some v ∧ v.S l
structure Core (P : Program) (B : Nat) (Kf : Trace → Nat → Prop) (V : Nat → Option Wait) (Sp Dead : Nat → Prop) (T : Trace) (gs : Array Goroutine) (w : World) (q : Nat → Nat) : Prop where
  idle : ∀ i g, ¬ Sp i → gs[i]? = some g → Idles P B T i (q i) g (V i)
  chan : ∀ i v, ¬ Dead i → V i = some v → ∃ k, w.heap[v.ch]? = some (.chan 0 #[] false k k false)
  live : ∀ i g, Dead i → gs[i]? = some g → g.status = .running
  inj : ∀ i i' v v', V i = some v → V i' = some v' → v.ch = v'.ch → i = i'
  above : ∀ j, gs.size ≤ j → Deaf T j = 0
  low : ∀ i v, V i = some v → v.ch < B
  stays : ∀ i v, V i = some v → v.K w
  past : PastR (RSof V) (fun g => Sp g ∨ (V g).isSome = true) B (Kf T) T
section
variable {P : Program} {B : Nat} {Kf : Trace → Nat → Prop} {V : Nat → Option Wait} {Sp Dead : Nat → Prop} {T : Trace} {gs : Array Goroutine} {w : World} {q : Nat → Nat}
theorem Core.at (C : Core P B Kf V Sp Dead T gs w q) (d : Nat) : Core P B Kf V Sp Dead T gs (w.at d) q := ⟨C.idle, C.chan, C.live, C.inj, C.above, C.low, C.stays, C.past⟩
theorem Core.mono {B' : Nat} (C : Core P B Kf V Sp Dead T gs w q) (hB : B ≤ B') : Core P B' Kf V Sp Dead T gs w q := by
  refine ⟨fun i g hs hg => ?_, C.chan, C.live, C.inj, C.above, fun i v e => Nat.lt_of_lt_of_le (C.low i v e) hB, C.stays, C.past.mono hB⟩
  have h := C.idle i g hs hg
  revert h
  cases V i with
  | none => exact id
  | some v => exact fun h => Waits.mono h hB
theorem Core.status (C : Core P B Kf V Sp Dead T gs w q) {x : Nat} {y : Goroutine} (hx : ¬ Sp x) (hy : gs[x]? = some y) : y.status = .running ∨ y.status = .blocked ∨ y.status = .finished := by
  have h := C.idle x y hx hy
  cases e : V x with
  | none => rw [e] at h; exact h.2.status.elim .inl fun z => .inr (.inr z)
  | some v => rw [e] at h; exact (Sits.status (C.stays x v e) h).elim (fun z => .inl z.1) fun z => .inr (.inl z.1)
theorem Core.fixed (C : Core P B Kf V Sp Dead T gs w q) {x : Nat} {y : Goroutine} (hx : ¬ Sp x) (hy : gs[x]? = some y) : y.again w = y := by
  have h := C.idle x y hx hy
  cases e : V x with
  | none => rw [e] at h; exact again_of_running h.2.status w
  | some v =>
    rw [e] at h
    by_cases hD : Dead x
    · exact again_of_running (.inl (C.live x y hD hy)) w
    · refine Sits.again (C.stays x v e) h (Seat.one_wf _ _ _ _) fun c hc => ?_
      obtain ⟨k, hk⟩ := C.chan x v hD e
      rw [Seat.one_has.1 hc]
      exact ⟨_, _, _, _, _, hk⟩
theorem Core.noSend (C : Core P B Kf V Sp Dead T gs w q) {x : Nat} {y : Goroutine} (hx : ¬ Sp x) (hy : gs[x]? = some y) (c : Nat) : offersAt y c true = [] := by
  have h := C.idle x y hx hy
  cases e : V x with
  | none => rw [e] at h; exact offersAt_of_not_blocked (fun hb => by rcases h.2.status with z | z <;> rw [z] at hb <;> cases hb) c true
  | some v =>
    rw [e] at h
    rcases h with h | ⟨_, _, g₂, rfl, _⟩
    · have hr := (Sits.status (C.stays x v e) (.inl h)).elim (·.1) (fun z => by obtain ⟨k, _, hn, _⟩ := h; omega)
      exact offersAt_of_not_blocked (fun hb => by rw [hr] at hb; cases hb) c true
    · exact offersAt_parked_recv' g₂ v.ch v.z (.recv v.ok) c
theorem Core.noRecv (C : Core P B Kf V Sp Dead T gs w q) {x : Nat} {y : Goroutine} (hx : ¬ Sp x) (hy : gs[x]? = some y) {c : Nat} (hc : ∀ v, V x = some v → v.ch ≠ c) : offersAt y c false = [] := by
  have h := C.idle x y hx hy
  cases e : V x with
  | none => rw [e] at h; exact offersAt_of_not_blocked (fun hb => by rcases h.2.status with z | z <;> rw [z] at hb <;> cases hb) c false
  | some v =>
    rw [e] at h
    rcases h with h | ⟨_, _, g₂, rfl, _⟩
    · have hr := (Sits.status (C.stays x v e) (.inl h)).elim (·.1) (fun z => by obtain ⟨k, _, hn, _⟩ := h; omega)
      exact offersAt_of_not_blocked (fun hb => by rw [hr] at hb; cases hb) c false
    · have := offersAt_parked_recv g₂ v.ch v.z (.recv v.ok) c
      rw [if_neg (hc v e)] at this
      exact this
theorem Core.put (C : Core P B Kf V Sp Dead T gs w q) {i n' : Nat} {g' : Goroutine} {ops : Array MemOp} {gs' : Array Goroutine} (hlt : i < gs.size) (hsz : gs'.size = gs.size) (hoth : ∀ x, x ≠ i → gs'[x]? = gs[x]?) (hself : gs'[i]? = some g')
    (hops : ∀ op ∈ ops, op.g = i) (hlive : Dead i → g'.status = .running) (hid : Idles P B (T ++ ops) i n' g' (V i)) (hp : PastR (RSof V) (fun g => Sp g ∨ (V g).isSome = true) B (Kf (T ++ ops)) (T ++ ops)) :
    Core P B Kf V Sp Dead (T ++ ops) gs' w (upd q i n') := by
  refine ⟨fun x y hx hy => ?_, C.chan, fun x y hx hy => ?_, C.inj, fun j hj => ?_, C.low, C.stays, hp⟩
  · by_cases e : x = i
    · subst e
      rw [hself] at hy
      cases hy
      rw [upd_same]; exact hid
    · rw [hoth x e] at hy
      rw [upd_ne q n' e]
      have h := C.idle x y hx hy
      revert h
      cases V x with
      | none => exact fun h => ⟨h.1, by rw [Deaf_other T (fun z => e z.symm) ops hops]; exact h.2⟩
      | some v => exact id
  · by_cases e : x = i
    · subst e; rw [hself] at hy; cases hy; exact hlive hx
    · rw [hoth x e] at hy; exact C.live x y hx hy
  · rw [Deaf_other T (g' := i) (by omega) ops hops]
    exact C.above j (by omega)
theorem Core.byStep (hKf : ∀ t u i, Kf t i → Kf (t ++ u) i) (C : Core P B Kf V Sp Dead T gs w q) {i : Nat} {g : Goroutine} {sl : Option (Nat × Nat)} (hi : gs[i]? = some g) (hsp : ¬ Sp i) (hrun : g.status = .running)
    (hA : ∀ x gx, Sp x → gs[x]? = some gx → gx.again w = gx) (hD : Dead i → V i ≠ none)
    (hO : ∀ v g₂, V i = some v → AtIn P (i == 0) v.K v.S B v.seat g g₂ → ¬ Dead i ∧ ∀ x gx, Sp x → gs[x]? = some gx → offersAt gx v.ch true = []) :
    ∃ (gs' : Array Goroutine) (ops : Array MemOp) (q' : Nat → Nat), runT P (crowd gs w sl) i = (.next (crowd gs' w sl), ops) ∧ gs'.size = gs.size ∧ (∀ x, Sp x → gs'[x]? = gs[x]?) ∧ (∀ x, x ≠ i → q' x = q x) ∧
      (∀ v, V i = some v → q' i = 0 → ∃ g₂, AtIn P (i == 0) v.K v.S B v.seat g g₂) ∧ Core P B Kf V Sp Dead (T ++ ops) gs' w q' ∧ sumTo gs.size q' < sumTo gs.size q := by
  have hlt : i < gs.size := (Array.getElem?_eq_some_iff.1 hi).1
  have hne : ∀ x, Sp x → x ≠ i := fun x hx e => hsp (e ▸ hx)
  have hagain : ∀ (x : Nat) (y : Goroutine), gs[x]? = some y → y.again w = y := fun x y hy => by
    by_cases hx : Sp x
    · exact hA x y hx hy
    · exact C.fixed hx hy
  have hgo : ∀ (a' g' : Goroutine) (x : Nat), x ≠ i → ((gs.map (woken P g a' w)).setIfInBounds i g')[x]? = gs[x]? := by
    intro a' g' x hx
    rw [Array.getElem?_setIfInBounds_ne (fun e => hx e.symm), Array.getElem?_map]
    cases e : gs[x]? with
    | none => rfl
    | some y => exact congrArg some (woken_of_again (hagain x y e))
  have hown : ∀ (a' g' : Goroutine), ((gs.map (woken P g a' w)).setIfInBounds i g')[i]? = some g' := fun a' g' => Array.getElem?_setIfInBounds_self_of_lt (by simpa using hlt)
  have hless : ∀ k m, q i = k + 1 → m ≤ k → sumTo gs.size (upd q i m) < sumTo gs.size q := by
    intro k m hq hm
    have h2 : sumTo gs.size (upd q i m) + q i = sumTo gs.size q + m := sumTo_upd q m id hlt
    omega
  have hid := C.idle i g hsp hi
  cases e : V i with
  | none =>
    rw [e] at hid
    obtain ⟨hpos, hq⟩ := hid
    have hi0 : (i == 0) = false := by simp; omega
    cases hqi : q i with
    | zero => rw [hqi] at hq; rw [hq.1] at hrun; cases hrun
    | succ k =>
      rw [hqi] at hq
      rcases hq with ⟨hf, _⟩ | ⟨_, g', es, hm, hstp, hq'⟩
      · rw [hf] at hrun; cases hrun
      have hops : ∀ op ∈ MemOp.ofEvents i g.frame.fn g.frame.place es, op.g = i := fun op hop => by obtain ⟨e, _, rfl⟩ := Go.Conc.mem_ofEvents hop; rfl
      refine ⟨_, _, upd q i k, runT_crowd_go (sl := sl) hi (by rw [hi0]; exact hstp w), by simp, fun x hx => hgo _ _ x (hne x hx), fun x hx => upd_ne q k hx, fun v hv => (by cases hv), ?_, hless k k hqi (Nat.le_refl _)⟩
      refine C.put hlt (by simp) (hgo _ _) (hown _ _) hops (fun h => absurd e (hD h)) (by rw [e]; exact ⟨hpos, by rw [Deaf_own]; exact hq'⟩) ?_
      exact C.past.mute (hKf T _) hops (fun op hop => by obtain ⟨e, he, rfl⟩ := Go.Conc.mem_ofEvents hop; exact touch_mute (hm e he)) (fun hM => hM.elim (fun z => absurd z hsp) (fun z => by rw [e] at z; cases z)) (fun op hop => by obtain ⟨e, he, rfl⟩ := Go.Conc.mem_ofEvents hop; exact low_mute (hm e he) B)
  | some v =>
    rw [e] at hid
    have hRS : ∀ l, v.S l → RSof V i l := fun l hl => ⟨v, e, hl⟩
    obtain ⟨k, w₀, hqi, hg⟩ : ∃ k w₀, q i = k + 1 ∧ Goes P (i == 0) (RK v.K) (DS v.S B) (fun g _ => ∃ g₂, AtIn P (i == 0) v.K v.S B v.seat g g₂) k g w₀ := by
      rcases hid with h | ⟨_, _, g₂, rfl, _⟩
      · exact h
      · cases hrun
    have hreads : ∀ es, (∀ x ∈ es, EvC v.S B x) → PastR (RSof V) (fun g => Sp g ∨ (V g).isSome = true) B (Kf (T ++ MemOp.ofEvents i g.frame.fn g.frame.place es)) (T ++ MemOp.ofEvents i g.frame.fn g.frame.place es) := fun es hes => by
      obtain ⟨hops, hr, hl, hd⟩ := evC_ops (i := i) (fn := g.frame.fn) (pos := g.frame.place) hes
      exact C.past.reads (hKf T _) hops (fun op hop b hb => ⟨(hr op hop b hb).1, hRS _ (hr op hop b hb).2⟩) (hd T) hl
    have hcase : (∃ g₂, AtIn P (i == 0) v.K v.S B v.seat g g₂) ∨ ∃ k' g' es, k = k' + 1 ∧ stepG P (i == 0) g w = .go g' w es ∧ (∀ e ∈ es, EvC v.S B e) ∧ Goes P (i == 0) (RK v.K) (DS v.S B) (fun g _ => ∃ g₂, AtIn P (i == 0) v.K v.S B v.seat g g₂) k' g' w := by
      have hK := C.stays i v e
      cases k with
      | zero => exact .inl (hg w hK)
      | succ k' =>
        rcases hg with hstop | ⟨_, hstep⟩
        · exact .inl (hstop w hK)
        · have hs := hstep w hK
          cases hgo' : stepG P (i == 0) g w with
          | go g' w' es =>
            rw [hgo', goes_go] at hs
            obtain ⟨⟨rfl, hes⟩, hG'⟩ := hs
            exact .inr ⟨k', g', es, rfl, rfl, hes, hG'⟩
          | _ => rw [hgo'] at hs; exact hs.elim
    rcases hcase with ⟨g₂, hat⟩ | ⟨k', g', es, rfl, hgo', hes, hG'⟩
    ·
      obtain ⟨hnD, hsO⟩ := hO v g₂ e hat
      obtain ⟨_, _, _, _, _, es, hes, hstp⟩ := id hat
      obtain ⟨kk, hc⟩ := C.chan i v hnD e
      have hw : ∀ cc ∈ v.seat.cases, NoWays w (gs.setIfInBounds i ph) cc := by
        intro cc hcc
        have : cc = rcase v.ch v.z := by simpa [Wait.seat, Seat.one] using hcc
        subst this
        refine ways_recv_none hc (partners_nil fun x y hy => ?_)
        rcases getElem?_stand gs i x y hy with ⟨_, rfl⟩ | ⟨_, hy'⟩
        · exact offersAt_ph _ _
        · by_cases hS : Sp x
          · exact hsO x y hS hy'
          · exact C.noSend hS hy' _
      obtain ⟨hops, _⟩ := evC_ops (i := i) (fn := g.frame.fn) (pos := g.frame.place) hes
      refine ⟨_, _, upd q i 0, crowd_waits (sl := sl) hi (hstp w (C.stays i v e)) hw, by simp, fun x hx => Array.getElem?_setIfInBounds_ne (fun z => hne x hx z.symm), fun x hx => upd_ne q 0 hx, fun v' hv' _ => (by cases hv'; exact ⟨g₂, hat⟩), ?_, hless k 0 hqi (Nat.zero_le _)⟩
      exact C.put hlt (by simp) (fun x hx => Array.getElem?_setIfInBounds_ne (fun z => hx z.symm)) (Array.getElem?_setIfInBounds_self_of_lt hlt) hops (fun h => absurd h hnD) (by rw [e]; exact .inr ⟨rfl, g, g₂, rfl, hat⟩) (hreads es hes)
    · obtain ⟨hops, _⟩ := evC_ops (i := i) (fn := g.frame.fn) (pos := g.frame.place) hes
      refine ⟨_, _, upd q i (k' + 1), runT_crowd_go (sl := sl) hi hgo', by simp, fun x hx => hgo _ _ x (hne x hx), fun x hx => upd_ne q _ hx, fun v' _ h0 => (by rw [upd_same] at h0; omega), ?_, hless _ _ hqi (Nat.le_refl _)⟩
      exact C.put hlt (by simp) (hgo _ _) (hown _ _) hops (fun _ => (Sits.status (C.stays i v e) (.inl ⟨k', w, rfl, hG'⟩)).elim (·.1) (fun z => by omega)) (by rw [e]; exact .inl ⟨k', w, rfl, hG'⟩) (hreads es hes)
end
end
section
open Go.Conc
open Go.ConcN (sumTo upd sumTo_upd upd_ne upd_same)
def EvR (V : Nat → Option Wait) (e : Event) : Prop := (∀ x, (MemAct.ofEvent e).touch? = some x → x.write = true → ∀ g, ¬ RSof V g x.loc) ∧ e.loc ≠ .mark .disable ∧ e.loc ≠ .mark .enable
def OsSame (w w' : World) : Prop := w'.os = w.os ∧ w'.output = w.output
theorem OsSame.refl (w : World) : OsSame w w := ⟨rfl, rfl⟩
theorem OsSame.trans {a b c : World} (h : OsSame a b) (k : OsSame b c) : OsSame a c := ⟨k.1.trans h.1, k.2.trans h.2⟩
def DR (V : Nat → Option Wait) (w w' : World) (es : Array Event) : Prop :=
  (∀ i v, V i = some v → v.K w → v.K w') ∧ (∀ i v o, V i = some v → w.heap[v.ch]? = some o → o.isChan = true → w'.heap[v.ch]? = some o) ∧ (∀ e ∈ es, EvR V e) ∧ OsSame w w'
inductive Walk (P : Program) (main : Bool) (D : World → World → Array Event → Prop) (Stop : Goroutine → World → Prop) : Goroutine → World → Prop
  | stop {g : Goroutine} {w : World} (h : ∀ d, Stop g (w.at d)) : Walk P main D Stop g w
  | step {g : Goroutine} {w : World} (hr : g.status = .running) (G : Nat → Goroutine) (W : Nat → World) (E : Nat → Array Event) (hs : ∀ d, stepG P main g (w.at d) = .go (G d) (W d) (E d)) (hd : ∀ d, D (w.at d) (W d) (E d)) (hn : ∀ d, Walk P main D Stop (G d) (W d)) : Walk P main D Stop g w
def Comes (P : Program) (Φ : Machine → Trace → Prop) (m : Machine) (T : Trace) : Prop := ∃ N m' T', runNT P N m T = (.next m', T') ∧ Φ m' T' ∧ OsSame m.world m'.world
theorem Comes.now {P : Program} {Φ : Machine → Trace → Prop} {m : Machine} {T : Trace} (h : Φ m T) : Comes P Φ m T := ⟨0, m, T, rfl, h, OsSame.refl _⟩
theorem Comes.bind {P : Program} {Φ Ψ : Machine → Trace → Prop} {m : Machine} {T : Trace} (h : Comes P Φ m T) (k : ∀ m' T', Φ m' T' → Comes P Ψ m' T') : Comes P Ψ m T := by
  obtain ⟨N, m', T', hr, hΦ, ho⟩ := h
  obtain ⟨N', m'', T'', hr', hΨ, ho'⟩ := k m' T' hΦ
  exact ⟨N + N', m'', T'', runNT_then hr hr', hΨ, ho.trans ho'⟩
theorem Comes.mono {P : Program} {Φ Ψ : Machine → Trace → Prop} {m : Machine} {T : Trace} (h : Comes P Φ m T) (k : ∀ m' T', Φ m' T' → Ψ m' T') : Comes P Ψ m T := h.bind fun m' T' x => .now (k m' T' x)
theorem Comes.next {P : Program} {Φ : Machine → Trace → Prop} {m m₁ : Machine} {T : Trace} {ops : Array MemOp} (hs : stepT P m = (.next m₁, ops)) (h : Comes P Φ m₁ (T ++ ops)) (ho : OsSame m.world m₁.world := by exact ⟨rfl, rfl⟩) : Comes P Φ m T := by
  obtain ⟨N, m', T', hr, hΦ, ho'⟩ := h
  exact ⟨N + 1, m', T', by simp only [runNT, hs]; exact hr, hΦ, ho.trans ho'⟩
def At (P : Program) (V : Nat → Option Wait) (h n : Nat) (a : Goroutine) (w : World) (m : Machine) (T : Trace) : Prop :=
  ∃ gs sl q B, m = crowd gs w sl ∧ gs.size = n ∧ gs[h]? = some a ∧ V h = none ∧ Core P B (fun t => Knows t h) V (· = h) (fun _ => False) T gs w q
theorem low_one (e : Event) : ∃ B, (MemAct.ofEvent e).low B := by
  have hL : ∀ l : Loc, ∃ B, l.low B := fun l => by
    cases l with
    | cell a => exact ⟨a.block + 1, Nat.lt_succ_self _⟩
    | obj r => exact ⟨r + 1, Nat.lt_succ_self _⟩
    | _ => exact ⟨0, trivial⟩
  generalize MemAct.ofEvent e = x
  cases x with
  | access e => exact hL e.loc
  | mark m =>
    cases m with
    | acquire a | release a | releaseMerge a | read a | write a => exact ⟨a.block + 1, Nat.lt_succ_self _⟩
    | _ => exact ⟨0, trivial⟩
  | go _ | start => exact ⟨0, trivial⟩
  | send c _ | sendDone c _ | recv c _ _ | recvDone c _ | close c | recvClosed c => exact ⟨c + 1, Nat.lt_succ_self _⟩
theorem low_all (es : Array Event) : ∃ B, ∀ e ∈ es, (MemAct.ofEvent e).low B := by
  obtain ⟨l⟩ := es
  induction l with
  | nil => exact ⟨0, by simp⟩
  | cons e l ih =>
    obtain ⟨B, h⟩ := ih
    obtain ⟨B', h'⟩ := low_one e
    refine ⟨max B B', fun x hx => ?_⟩
    rcases List.mem_cons.1 (List.mem_toArray.1 hx) with rfl | hx
    · exact MemAct.low_mono (Nat.le_max_right _ _) h'
    · exact MemAct.low_mono (Nat.le_max_left _ _) (h x (List.mem_toArray.2 hx))
section
variable {P : Program} {V : Nat → Option Wait} {T : Trace} {gs : Array Goroutine} {w : World} {q : Nat → Nat} {B h n : Nat}
theorem evR_ops {fn : FuncId} {pos : String} {es : Array Event} (he : ∀ e ∈ es, EvR V e) (hl : ∀ e ∈ es, (MemAct.ofEvent e).low B) :
    (∀ op ∈ MemOp.ofEvents h fn pos es, op.g = h) ∧ (∀ op ∈ MemOp.ofEvents h fn pos es, ∀ (b : Touch) (g : Nat), op.act.touch? = some b → b.write = true → ¬ RSof V g b.loc) ∧ (∀ op ∈ MemOp.ofEvents h fn pos es, op.act.low B) ∧ ∀ (t : Trace) (x : Nat), Deaf (t ++ MemOp.ofEvents h fn pos es) x = Deaf t x := by
  refine ⟨fun op hop => by obtain ⟨e, _, rfl⟩ := Go.Conc.mem_ofEvents hop; rfl, fun op hop b g hb hw => by obtain ⟨e, h, rfl⟩ := Go.Conc.mem_ofEvents hop; exact (he e h).1 b hb hw g, fun op hop => by obtain ⟨e, h, rfl⟩ := Go.Conc.mem_ofEvents hop; exact hl e h, fun t x => ?_⟩
  by_cases ex : x = h
  · subst ex; rw [Deaf_own]; exact deafBehind_still (fun e h => ⟨(he e h).2.1, (he e h).2.2⟩) _
  · exact Deaf_other t (fun z => ex z.symm) _ (fun op hop => by obtain ⟨e, _, rfl⟩ := Go.Conc.mem_ofEvents hop; rfl)
theorem Core.own (C : Core P B (fun t => Knows t h) V (· = h) (fun _ => False) T gs w q) {a a' : Goroutine} {w' : World} {es : Array Event} (hd : DR V w w' es) (hl : ∀ e ∈ es, (MemAct.ofEvent e).low B) :
    Core P B (fun t => Knows t h) V (· = h) (fun _ => False) (T ++ MemOp.ofEvents h a.frame.fn a.frame.place es) ((gs.map (woken P a a' w')).setIfInBounds h a') w' q := by
  obtain ⟨h1, h2, h3, h4⟩ := evR_ops (h := h) (fn := a.frame.fn) (pos := a.frame.place) hd.2.2.1 hl
  have C' : Core P B (fun t => Knows t h) V (· = h) (fun _ => False) T gs w' q := ⟨C.idle, fun i v hD e => by obtain ⟨k, hk⟩ := C.chan i v hD e; exact ⟨k, hd.2.1 i v _ e hk rfl⟩, C.live, C.inj, C.above, C.low, fun i v e => hd.1 i v e (C.stays i v e), C.past⟩
  refine ⟨fun x y hx hy => ?_, C'.chan, fun _ _ z => z.elim, C.inj, fun j hj => by rw [h4]; exact C.above j (by simpa using hj), C.low, C'.stays, C.past.own h1 h2 (h4 T h) h3⟩
  rw [Array.getElem?_setIfInBounds_ne (fun e => hx e.symm), Array.getElem?_map] at hy
  obtain ⟨y₀, hy₀, rfl⟩ := Option.map_eq_some_iff.1 hy
  rw [woken_of_again (C'.fixed hx hy₀)]
  have hi := C.idle x y₀ hx hy₀
  revert hi
  cases V x with
  | none => exact fun hi => ⟨hi.1, by rw [h4]; exact hi.2⟩
  | some v => exact id
theorem Core.awake (C : Core P B (fun t => Knows t h) V (· = h) (fun _ => False) T gs w q) {a : Goroutine} (ha : gs[h]? = some a) (hs : a.status = .running ∨ a.status = .blocked) : ∀ g ∈ gs, Go.Conc.awake g := by
  intro g hg
  obtain ⟨i, hi, rfl⟩ := Array.mem_iff_getElem.1 hg
  by_cases e : i = h
  · subst e
    rw [show gs[i] = a by simpa [Array.getElem?_eq_getElem hi] using ha]
    exact awake_of (hs.imp id .inl)
  · exact awake_of (C.status e (Array.getElem?_eq_getElem hi))
theorem At.picked {a : Goroutine} {m : Machine} (A : At P V h n a w m T) (hrun : a.status = .running) :
    Comes P (fun m' T' => ∃ gs sl sl' q B d d', m' = crowd gs (w.at d) sl ∧ stepT P m' = runT P (crowd gs (w.at d') sl') h ∧ gs.size = n ∧ gs[h]? = some a ∧ V h = none ∧ Core P B (fun t => Knows t h) V (· = h) (fun _ => False) T' gs (w.at d') q) m T := by
  obtain ⟨gs, sl, q, B, rfl, hsz, ha, hV, C⟩ := A
  have key : ∀ μ (gs : Array Goroutine) (d : Nat) (sl : Option (Nat × Nat)) (q : Nat → Nat) (T : Trace), sumTo gs.size q = μ → gs.size = n → gs[h]? = some a → Core P B (fun t => Knows t h) V (· = h) (fun _ => False) T gs (w.at d) q →
      Comes P (fun m' T' => ∃ gs sl sl' q B d d', m' = crowd gs (w.at d) sl ∧ stepT P m' = runT P (crowd gs (w.at d') sl') h ∧ gs.size = n ∧ gs[h]? = some a ∧ V h = none ∧ Core P B (fun t => Knows t h) V (· = h) (fun _ => False) T' gs (w.at d') q) (crowd gs (w.at d) sl) T := by
    intro μ
    induction μ using Nat.strongRecOn with
    | _ μ ih =>
      intro gs d sl q T hμ hsz ha C
      obtain ⟨i, g, d', sl', hi, hg, hst⟩ := crowd_pick (P := P) (w := w.at d) (sl := sl) (C.awake ha (.inl hrun)) ⟨h, a, ha, hrun⟩
      rw [at_at'] at hst
      have Cd : Core P B (fun t => Knows t h) V (· = h) (fun _ => False) T gs (w.at d') q := C.at d'
      by_cases e : i = h
      · subst e
        exact .now ⟨gs, sl, sl', q, B, d, d', rfl, hst, hsz, ha, hV, Cd⟩
      · obtain ⟨gs', ops, q', hrt, hsz', hsp, _, _, C', hlt⟩ := Cd.byStep (sl := sl') (fun t u i => Knows.app u) hi e hg
          (fun x gx hx hgx => by subst hx; rw [ha] at hgx; cases hgx; exact again_of_running (.inl hrun) _) (fun z => z.elim)
          (fun v g₂ _ _ => ⟨fun z => z, fun x gx hx hgx => by subst hx; rw [ha] at hgx; cases hgx; exact offersAt_of_not_blocked (by rw [hrun]; simp) _ _⟩)
        exact .next (hst.trans hrt) (ih _ (by rw [hsz']; omega) gs' d' sl' q' _ rfl (by omega) (by rw [hsp h rfl]; exact ha) C')
  exact key _ gs w.drawn sl q T rfl hsz ha C
theorem At.walk {Stop : Goroutine → World → Prop} {a : Goroutine} (hW : Walk P (h == 0) (DR V) Stop a w) : ∀ {m : Machine} {T : Trace}, At P V h n a w m T → Comes P (fun m' T' => ∃ a' w', Stop a' w' ∧ At P V h n a' w' m' T') m T := by
  induction hW with
  | stop hs => exact fun A => .now ⟨_, _, hs _, A⟩
  | step hr G W E hs hd _ ih =>
    intro m T A
    refine (A.picked hr).bind ?_
    rintro m' T' ⟨gs, sl, sl', q, B, d, d', rfl, hst, hsz, ha, hV, C⟩
    obtain ⟨B₁, hB₁⟩ := low_all (E d')
    have C₁ := C.mono (Nat.le_max_left B B₁)
    refine .next (hst.trans (runT_crowd_go (sl := sl') ha (hs d'))) (ih d' ⟨_, sl', q, max B B₁, rfl, by simpa using hsz, ?_, hV, C₁.own (hd d') fun e he => MemAct.low_mono (Nat.le_max_right _ _) (hB₁ e he)⟩) (hd d').2.2.2
    exact Array.getElem?_setIfInBounds_self_of_lt (by simpa using (Array.getElem?_eq_some_iff.1 ha).1)
end
theorem Walk.of_goes {P : Program} {main : Bool} {D : World → World → Array Event → Prop} {Stop Stop' : Goroutine → World → Prop} (hk : ∀ g w, Stop g w → Walk P main D Stop' g w) :
    ∀ {n : Nat} {g : Goroutine} {w : World}, Goes P main AtRel D Stop n g w → Walk P main D Stop' g w := by
  have h0 : ∀ (g : Goroutine) (w : World), (∀ w₁, AtRel w w₁ → Stop g w₁) → Walk P main D Stop' g w := fun g w h => hk g w (h w ⟨w.drawn, rfl⟩)
  intro n
  induction n with
  | zero => exact fun h => h0 _ _ h
  | succ n ih =>
    intro g w h
    rcases h with h | ⟨hr, h⟩
    · exact h0 _ _ h
    · have hx : ∀ d, ∃ g' w' es, stepG P main g (w.at d) = .go g' w' es ∧ D (w.at d) w' es ∧ Goes P main AtRel D Stop n g' w' := fun d => by
        have := h (w.at d) ⟨d, rfl⟩
        cases hs : stepG P main g (w.at d) with
        | go g' w' es => rw [hs, goes_go] at this; exact ⟨g', w', es, rfl, this.1, this.2⟩
        | _ => rw [hs] at this; exact this.elim
      exact .step hr (fun d => (hx d).choose) (fun d => (hx d).choose_spec.choose) (fun d => (hx d).choose_spec.choose_spec.choose) (fun d => (hx d).choose_spec.choose_spec.choose_spec.1) (fun d => (hx d).choose_spec.choose_spec.choose_spec.2.1)
        (fun d => ih (hx d).choose_spec.choose_spec.choose_spec.2.2)
end
section
open Go.Conc
open Go.ConcN (sumTo upd sumTo_upd upd_ne upd_same)
def Then (P : Program) (V : Nat → Option Wait) (h : Nat) (but : Nat → Prop) (g : Goroutine) (w : World) : Option Wait → Prop
  | none => 0 < h ∧ ∃ k, QuitsD P k 0 g
  | some v => v.K w ∧ (∃ k, w.heap[v.ch]? = some (.chan 0 #[] false k k false)) ∧ (∀ i u, ¬ but i → V i = some u → u.ch ≠ v.ch) ∧ ∃ B k, Waits P (h == 0) B v k g
theorem Then.low {P : Program} {V : Nat → Option Wait} {h : Nat} {but : Nat → Prop} {g : Goroutine} {w : World} {new : Option Wait} (H : Then P V h but g w new) :
    ∃ B k, ∀ B', B ≤ B' → ∀ T, Deaf T h = 0 → Idles P B' T h k g new ∧ ∀ v, new = some v → v.ch < B' := by
  cases new with
  | none =>
    obtain ⟨h0, k, hq⟩ := H
    exact ⟨0, k, fun B' _ T hT => ⟨⟨h0, by rw [hT]; exact hq⟩, fun v e => by cases e⟩⟩
  | some v =>
    obtain ⟨_, _, _, B, k, hW⟩ := H
    exact ⟨max B (v.ch + 1), k, fun B' hB T _ => ⟨hW.mono (by omega), fun v' e => by cases e; omega⟩⟩
section
variable {P : Program} {V : Nat → Option Wait} {T : Trace} {gs : Array Goroutine} {w : World} {q : Nat → Nat} {B h j n : Nat}
def after (V : Nat → Option Wait) (h j : Nat) (new : Option Wait) : Nat → Option Wait := upd (upd V h new) j none
theorem after_h {new : Option Wait} (hjh : j ≠ h) : after V h j new h = new := by unfold after; rw [upd_ne _ _ (Ne.symm hjh), upd_same]
theorem after_j {new : Option Wait} : after V h j new j = none := upd_same _ _ _
theorem after_o {new : Option Wait} {x : Nat} (hx : x ≠ h) (hxj : x ≠ j) : after V h j new x = V x := by unfold after; rw [upd_ne _ _ hxj, upd_ne _ _ hx]
theorem after_some {new : Option Wait} {x : Nat} {u : Wait} (e : after V h j new x = some u) : x ≠ j ∧ ((x = h ∧ new = some u) ∨ (x ≠ h ∧ V x = some u)) := by
  by_cases ej : x = j
  · subst ej; rw [after_j] at e; cases e
  · refine ⟨ej, ?_⟩
    by_cases eh : x = h
    · subst eh; rw [after_h (Ne.symm ej)] at e; exact .inl ⟨rfl, e⟩
    · rw [after_o eh ej] at e; exact .inr ⟨eh, e⟩
theorem after_inj {new : Option Wait} {g : Goroutine} (hT : Then P V h (· = j) g w new) (hinj : ∀ i i' v v', V i = some v → V i' = some v' → v.ch = v'.ch → i = i') :
    ∀ i i' v v', after V h j new i = some v → after V h j new i' = some v' → v.ch = v'.ch → i = i' := by
  intro i i' v v' e e' ec
  obtain ⟨n1, c1⟩ := after_some e
  obtain ⟨n2, c2⟩ := after_some e'
  rcases c1 with ⟨rfl, z1⟩ | ⟨_, z1⟩ <;> rcases c2 with ⟨rfl, z2⟩ | ⟨_, z2⟩
  · rfl
  · subst z1; exact absurd ec.symm (hT.2.2.1 i' v' n2 z2)
  · subst z2; exact absurd ec (hT.2.2.1 i v n1 z1)
  · exact hinj i i' v v' z1 z2 ec
theorem rsto_after {new : Option Wait} (g : Nat) (l : Loc) (hjh : j ≠ h) : RSof (after V h j new) g l ↔ RSto (RSof V) h j (fun l => ∃ v, new = some v ∧ v.S l) g l := by
  constructor
  · rintro ⟨v, e, hl⟩
    obtain ⟨nj, c⟩ := after_some e
    rcases c with ⟨rfl, z⟩ | ⟨nh, z⟩
    · exact .inl ⟨rfl, v, z, hl⟩
    · exact .inr ⟨nh, nj, v, z, hl⟩
  · rintro (⟨rfl, v, z, hl⟩ | ⟨nh, nj, v, z, hl⟩)
    · exact ⟨v, by rw [after_h hjh]; exact z, hl⟩
    · exact ⟨v, by rw [after_o nh nj]; exact z, hl⟩
theorem At.give {a a₂ : Goroutine} {m : Machine} (A : At P V h n a w m T) {v : Wait} (hjh : j ≠ h) (hjn : j < n) (hj : V j = some v) (hrun : a.status = .running) {x z' : Value} {es : Array Event}
    (hsend : ∀ d, stepG P (h == 0) a (w.at d) = .comm a₂ #[scase v.ch x z'] true .send (w.at d) es) (hes : ∀ e ∈ es, EvR V e) {new : Option Wait} (hnew : Then P V h (· = j) (Go.Conc.served a₂ undef) w new) :
    Comes P (fun m' T' => ∃ g₂ d k, v.home g₂ ∧ w.heap[v.ch]? = some (.chan 0 #[] false k k false) ∧ At P (after V h j new) j n (Go.Conc.served g₂ (recvd v.ok x true)) ((w.at d).setChan v.ch 0 #[] false (k + 1) (k + 1) false) m' T') m T := by
  obtain ⟨gs, sl, q, B₀, rfl, hsz, ha, hV, C₀⟩ := A
  obtain ⟨B₁, hB₁⟩ := low_all es
  obtain ⟨B₂, nh, hB₂⟩ := hnew.low
  have C₁ : Core P (max B₀ (max B₁ B₂)) (fun t => Knows t h) V (· = h) (fun _ => False) T gs w q := C₀.mono (Nat.le_max_left _ _)
  generalize hBB : max B₀ (max B₁ B₂) = B at C₁
  have hes' : ∀ e ∈ es, (MemAct.ofEvent e).low B := fun e he => MemAct.low_mono (by omega) (hB₁ e he)
  obtain ⟨k, hc⟩ := C₁.chan j v (fun z => z) hj
  have hcB := C₁.low j v hj
  have key : ∀ μ (gs : Array Goroutine) (d : Nat) (sl : Option (Nat × Nat)) (q : Nat → Nat) (T : Trace) (pk : Bool), sumTo gs.size q + (if pk then 0 else 1) = μ → gs.size = n → gs[h]? = some (if pk then parked a₂ #[scase v.ch x z'] .send else a) →
      (pk = true → 0 < q j) → Core P B (fun t => Knows t h) V (· = h) (fun _ => False) T gs (w.at d) q →
      Comes P (fun m' T' => ∃ g₂ d k, v.home g₂ ∧ w.heap[v.ch]? = some (.chan 0 #[] false k k false) ∧ At P (after V h j new) j n (Go.Conc.served g₂ (recvd v.ok x true)) ((w.at d).setChan v.ch 0 #[] false (k + 1) (k + 1) false) m' T') (crowd gs (w.at d) sl) T := by
    intro μ
    induction μ using Nat.strongRecOn with
    | _ μ ih =>
      intro gs d sl q T pk hμ hsz ha hpk C
      obtain ⟨gj, hgj⟩ : ∃ gj, gs[j]? = some gj := ⟨gs[j]'(by omega), Array.getElem?_eq_getElem (by omega)⟩
      have hlth : h < gs.size := (Array.getElem?_eq_some_iff.1 ha).1
      have hSj : Waits P (j == 0) B v (q j) gj := by have := C.idle j gj hjh hgj; rwa [hj] at this
      have hjst := Sits.status (C.stays j v hj) hSj
      have hsome : ∃ (i : Nat) (g : Goroutine), gs[i]? = some g ∧ g.status = .running := by
        cases pk with
        | false => exact ⟨h, a, ha, hrun⟩
        | true => exact ⟨j, gj, hgj, hjst.elim (·.1) (fun z => by have := hpk rfl; omega)⟩
      obtain ⟨i, g, d', sl', hi, hg, hst⟩ := crowd_pick (P := P) (w := w.at d) (sl := sl) (C.awake ha (by cases pk <;> simp [hrun, parked])) hsome
      rw [at_at'] at hst
      have Cd : Core P B (fun t => Knows t h) V (· = h) (fun _ => False) T gs (w.at d') q := C.at d'
      have hcd : (w.at d').heap[v.ch]? = some (.chan 0 #[] false k k false) := hc
      have fin : ∀ (gs' : Array Goroutine) (ops₀ : Array MemOp) (g₂ : Goroutine), gs'.size = gs.size → (∀ y, y ≠ h → y ≠ j → gs'[y]? = gs[y]?) → gs'[h]? = some (Go.Conc.served a₂ undef) → gs'[j]? = some (Go.Conc.served g₂ (recvd v.ok x true)) → v.home g₂ →
          PastR (RSof V) (fun g => g = h ∨ (V g).isSome = true) B (Knows (T ++ ops₀) h) (T ++ ops₀) → (∀ y, Deaf (T ++ ops₀) y = Deaf T y) →
          Comes P (fun m' T' => ∃ g₂ d k, v.home g₂ ∧ w.heap[v.ch]? = some (.chan 0 #[] false k k false) ∧ At P (after V h j new) j n (Go.Conc.served g₂ (recvd v.ok x true)) ((w.at d).setChan v.ch 0 #[] false (k + 1) (k + 1) false) m' T')
            (crowd gs' ((w.at d').setChan v.ch 0 #[] false (k + 1) (k + 1) false) sl') (T ++ (ops₀ ++ met h j a₂.frame.fn a₂.frame.place g₂.frame.fn g₂.frame.place v.ch k 0)) := by
        intro gs' ops₀ g₂ hsz' hoth hH hJ hhome p1 hD0
        have hD : ∀ y, Deaf (T ++ (ops₀ ++ met h j a₂.frame.fn a₂.frame.place g₂.frame.fn g₂.frame.place v.ch k 0)) y = Deaf T y := fun y => by rw [← Array.append_assoc, Deaf_quiet (met_quiet _ _ _ _ _ _ _ _ _ y), hD0]
        have p2 := p1.give hjh (.inl rfl) (.inr (by rw [hj]; rfl)) (fun l ⟨u, e, _⟩ => by rw [hV] at e; cases e) (S := fun l => ∃ v, new = some v ∧ v.S l) (fun l ⟨u, _, hl⟩ => Wait.S_mem hl) a₂.frame.fn a₂.frame.place g₂.frame.fn g₂.frame.place k 0 hcB
        rw [Array.append_assoc] at p2
        have hnB := hB₂ B (by omega)
        have hdh : Deaf T h = 0 := C.past.hears h (.inl rfl)
        refine .now ⟨g₂, d', k, hhome, hc, gs', sl', upd q h nh, B, rfl, hsz'.trans hsz, hJ, after_j, ?_⟩
        refine ⟨fun y gy hy hgy => ?_, fun y u _ e => ?_, fun _ _ z => z.elim, after_inj hnew C.inj, fun y hy => by rw [hD]; exact C.above y (by omega), fun y u e => ?_, fun y u e => ?_, ?_⟩
        · by_cases ey : y = h
          · subst ey
            rw [hH] at hgy; cases hgy
            rw [upd_same, after_h hjh]
            exact (hnB _ (by rw [hD]; exact hdh)).1
          · rw [hoth y ey hy] at hgy
            rw [upd_ne q nh ey, after_o ey hy]
            have hid := C.idle y gy ey hgy
            revert hid
            cases V y with
            | none => exact fun hid => ⟨hid.1, by rw [hD]; exact hid.2⟩
            | some u => exact id
        · obtain ⟨nj, c⟩ := after_some e
          by_cases ec : v.ch = u.ch
          · exact ⟨k + 1, by rw [← ec]; exact heap_setChan_self _ hcd _ _ _ _ _ _⟩
          · rw [heap_setChan_ne _ _ _ _ _ _ _ ec]
            rcases c with ⟨_, z⟩ | ⟨_, z⟩
            · subst z; exact hnew.2.1
            · exact C.chan y u (fun z => z) z
        · obtain ⟨_, c⟩ := after_some e
          rcases c with ⟨_, z⟩ | ⟨_, z⟩
          · exact (hnB T hdh).2 u z
          · exact C.low y u z
        · obtain ⟨_, c⟩ := after_some e
          refine Wait.K_setChan ?_ hcd _ _ _ _ _ _
          rcases c with ⟨_, z⟩ | ⟨_, z⟩
          · subst z; exact hnew.1
          · exact C.stays y u z
        · refine p2.turn (fun _ _ _ z => z) (fun i b g _ _ _ hR => .inr ((rsto_after g _ hjh).2 hR)) (fun i b g hb hw hR => p2.wrote i b g hb hw ((rsto_after g _ hjh).1 hR)) (fun g hg => p2.hears g ?_)
          rcases hg with rfl | hg
          · exact .inr (by rw [hj]; rfl)
          · obtain ⟨u, e⟩ := Option.isSome_iff_exists.1 hg
            obtain ⟨_, c⟩ := after_some e
            rcases c with ⟨z, _⟩ | ⟨_, z⟩
            · exact .inl z
            · exact .inr (by rw [z]; rfl)
      by_cases e : i = h
      ·
        subst e
        cases pk with
        | true => rw [ha] at hi; cases hi; cases hg
        | false =>
          obtain rfl : g = a := by rw [ha] at hi; exact (Option.some.inj hi).symm
          obtain ⟨h1, h2, h3, h4⟩ := evR_ops (h := i) (fn := g.frame.fn) (pos := g.frame.place) hes hes'
          have p1 := C.past.own h1 h2 (h4 T i) h3
          have hoff : ∀ (y : Nat) (gy : Goroutine), y ≠ j → (gs.setIfInBounds i ph)[y]? = some gy → offersAt gy v.ch false = [] := by
            intro y gy hyj hy
            rcases getElem?_stand gs i y gy hy with ⟨_, rfl⟩ | ⟨hx, hy'⟩
            · exact offersAt_ph _ _
            · exact Cd.noRecv hx hy' fun u hu hch => hyj (C.inj y j u v hu hj hch)
          rcases id hSj with hway | ⟨_, g₀, g₂, rfl, hat⟩
          · have hjr : gj.status = .running := hjst.elim (·.1) (fun z => by obtain ⟨k', _, hn', _⟩ := hway; omega)
            have hp : partners (gs.setIfInBounds i ph) v.ch false = [] := partners_nil fun y gy hy => by
              by_cases hyj : y = j
              · subst hyj
                rw [stand_get hjh hgj] at hy; cases hy
                exact offersAt_of_not_blocked (by rw [hjr]; simp) _ _
              · exact hoff y gy hyj hy
            have hw : ∀ cc ∈ #[scase v.ch x z'], NoWays (w.at d') (gs.setIfInBounds i ph) cc := by
              intro cc hcc
              have : cc = scase v.ch x z' := by simpa using hcc
              subst this
              exact ways_send_none hcd (Nat.le_refl _) hp
            refine .next (hst.trans (crowd_waits (sl := sl') hi (hsend d') hw)) (ih (sumTo gs.size q + 0) (by simp at hμ; omega) _ d' sl' q _ true (by simp) (by simpa using hsz) (Array.getElem?_setIfInBounds_self_of_lt hlth) (fun _ => by obtain ⟨k', _, hn', _⟩ := hway; omega) ?_)
            refine ⟨fun y gy hy hgy => ?_, Cd.chan, fun _ _ z => z.elim, C.inj, fun y hy => by rw [h4]; exact C.above y (by simpa using hy), C.low, Cd.stays, p1⟩
            rw [Array.getElem?_setIfInBounds_ne (fun z => hy z.symm)] at hgy
            have hid := C.idle y gy hy hgy
            revert hid
            cases V y with
            | none => exact fun hid => ⟨hid.1, by rw [h4]; exact hid.2⟩
            | some u => exact id
          · have hp : partners (gs.setIfInBounds i ph) v.ch false = [(j, 0)] := by
              rw [partners_one (stand_get hjh hgj) fun y gy hyj hy => hoff y gy hyj hy]
              have := offersAt_parked_recv g₂ v.ch v.z (.recv v.ok) v.ch
              rw [if_pos rfl] at this
              exact congrArg (List.map fun k => (j, k)) this
            refine .next (hst.trans (crowd_send_meets (sl := sl') hi (hsend d') hcd hjh hgj hp)) (fin _ _ g₂ (by simp) (fun y hy hyj => by rw [Array.getElem?_setIfInBounds_ne (fun z => hy z.symm), Array.getElem?_setIfInBounds_ne (fun z => hyj z.symm)]) (Array.getElem?_setIfInBounds_self_of_lt (by simpa using hlth))
              (by rw [Array.getElem?_setIfInBounds_ne (fun z => hjh z.symm), Array.getElem?_setIfInBounds_self_of_lt (by omega)]; exact congrArg some (finishComm_recv P g₂ _ v.ok 0 x true)) hat.2.2.2.2.1 p1 (h4 T))
      · by_cases ej : i = j ∧ pk = true ∧ ∃ g₂, AtIn P (i == 0) v.K v.S B v.seat g g₂
        ·
          obtain ⟨rfl, rfl, g₂, hat⟩ := ej
          obtain ⟨_, _, _, _, hhome, esj, hesj, hstp⟩ := hat
          obtain ⟨hops, hr, hl, hd⟩ := evC_ops (i := i) (fn := g.frame.fn) (pos := g.frame.place) hesj
          have hp : partners (gs.setIfInBounds i ph) v.ch true = [(h, 0)] := by
            rw [partners_one (stand_get (Ne.symm hjh) ha) fun y gy hyh hy => by
              rcases getElem?_stand gs i y gy hy with ⟨_, rfl⟩ | ⟨_, hy'⟩
              · exact offersAt_ph _ _
              · exact Cd.noSend hyh hy' _]
            simp [offersAt_parked_send]
          have hD1 : ∀ y, Deaf (T ++ MemOp.ofEvents i g.frame.fn g.frame.place esj) y = Deaf T y := fun y => by
            by_cases ey : y = i
            · subst ey; exact hd T
            · exact Deaf_other T (fun z => ey z.symm) _ hops
          refine .next (hst.trans (crowd_recv_meets (sl := sl') hi (hstp _ (Cd.stays i v hj)) hcd (Ne.symm hjh) ha hp)) (fin _ _ g₂ (by simp) (fun y hy hyj => by rw [Array.getElem?_setIfInBounds_ne (fun z => hyj z.symm), Array.getElem?_setIfInBounds_ne (fun z => hy z.symm)])
            (by rw [Array.getElem?_setIfInBounds_ne hjh, Array.getElem?_setIfInBounds_self_of_lt hlth, finishComm_send]) (by rw [Array.getElem?_setIfInBounds_self_of_lt (by simp; omega)]; exact congrArg some (finishComm_recv P g₂ _ v.ok 0 x true)) hhome
            (C.past.reads (fun _ => Knows.app _) hops (fun op hop b hb => ⟨(hr op hop b hb).1, v, hj, (hr op hop b hb).2⟩) (hd T) hl) hD1)
        ·
          obtain ⟨gs', ops, q', hrt, hsz', hsp, hqo, hq0, C', hlt⟩ := Cd.byStep (sl := sl') (fun t u i => Knows.app u) hi e hg
            (fun y gy hy hgy => by
              subst hy; rw [ha] at hgy; cases hgy
              cases pk with
              | false => exact again_of_running (.inl hrun) _
              | true => exact again_send_open hcd) (fun z => z.elim)
            (fun u g₂ hu hat => ⟨fun z => z, fun y gy hy hgy => by
              subst hy; rw [ha] at hgy; cases hgy
              cases pk with
              | false => exact offersAt_of_not_blocked (by simp [hrun]) _ _
              | true =>
                simp only [if_true]
                rw [offersAt_parked_send, if_neg]
                intro ec
                have hij : i = j := C.inj i j u v hu hj ec.symm
                subst hij
                rw [hj] at hu; cases hu
                exact ej ⟨rfl, rfl, g₂, hat⟩⟩)
          refine .next (hst.trans hrt) (ih _ (by rw [hsz']; omega) gs' d' sl' q' _ pk rfl (by omega) (by rw [hsp h rfl]; exact ha) (fun hp => ?_) C')
          subst hp
          by_cases hij : j = i
          · subst hij
            rcases Nat.eq_zero_or_pos (q' j) with h0 | h0
            · obtain ⟨g₂, hat⟩ := hq0 v hj h0
              exact absurd ⟨rfl, rfl, g₂, hat⟩ ej
            · exact h0
          · rw [hqo j hij]; exact hpk rfl
  exact key _ gs w.drawn sl q T false rfl hsz ha (fun z => by cases z) C₁
end
end
end Go.Relay
