/- Part 2. -/
import Derived.Test.YtgfajibjedfkdaaJO1
import Derived.Conc.CompanyMem
import Derived.Conc.TokenWords
set_option linter.unusedSimpArgs false
set_option linter.unusedVariables false
set_option maxHeartbeats 8000000
set_option maxRecDepth 100000
namespace Go.Relay
section
open Go.Conc
open Go.ConcN (sumTo upd sumTo_upd upd_ne upd_same)
def EvR (V : Nat → Option Wait) (e : Event) : Prop := (∀ x, (MemAct.ofEvent e).touch? = some x → x.write = true → ∀ g, ¬ RSof V g x.loc) ∧ e.loc ≠ .mark .disable ∧ e.loc ≠ .mark .enable
def OsSame (w w' : World) : Prop := w'.os = w.os ∧ w'.output = w.output
theorem OsSame.refl (w : World) : OsSame w w := ⟨rfl, rfl⟩
theorem OsSame.trans {a b c : World} (h : OsSame a b) (k : OsSame b c) : OsSame a c := ⟨k.1.trans h.1, k.2.trans h.2⟩
def DR (V : Nat → Option Wait) (w w' : World) (es : Array Event) : Prop :=
  (∀ i v, V i = some v → v.K w → v.K w') ∧ (∀ i v o, V i = some v → w.heap[v.ch]? = some o → o.isChan = true → w'.heap[v.ch]? = some o) ∧ (∀ e ∈ es, EvR V e) ∧ OsSame w w'
inductive Walk (P : Program) (main : Bool) (D : World → World → Array Event → Prop) (Stop : Goroutine → World → Prop) : Goroutine → World → Prop
  | stop {g : Goroutine} {w : World} (h : ∀ d, Stop g (w.at d)) : Walk P main D Stop g w
  | step {g : Goroutine} {w : World} (hr : g.status = .running) (G : Nat → Goroutine) (W : Nat → World) (E : Nat → Array Event) (hs : ∀ d, stepG P main g (w.at d) = .go (G d) (W d) (E d)) (hd : ∀ d, D (w.at d) (W d) (E d)) (hn : ∀ d, Walk P main D Stop (G d) (W d)) : Walk P main D Stop g w
def Comes (P : Program) (Φ : Machine → Trace → Prop) (m : Machine) (T : Trace) : Prop := ∃ N m' T', runNT P N m T = (.next m', T') ∧ Φ m' T' ∧ OsSame m.world m'.world
theorem Comes.now {P : Program} {Φ : Machine → Trace → Prop} {m : Machine} {T : Trace} (h : Φ m T) : Comes P Φ m T := ⟨0, m, T, rfl, h, OsSame.refl _⟩
theorem Comes.bind {P : Program} {Φ Ψ : Machine → Trace → Prop} {m : Machine} {T : Trace} (h : Comes P Φ m T) (k : ∀ m' T', Φ m' T' → Comes P Ψ m' T') : Comes P Ψ m T := by
  obtain ⟨N, m', T', hr, hΦ, ho⟩ := h
  obtain ⟨N', m'', T'', hr', hΨ, ho'⟩ := k m' T' hΦ
  exact ⟨N + N', m'', T'', runNT_then hr hr', hΨ, ho.trans ho'⟩
theorem Comes.mono {P : Program} {Φ Ψ : Machine → Trace → Prop} {m : Machine} {T : Trace} (h : Comes P Φ m T) (k : ∀ m' T', Φ m' T' → Ψ m' T') : Comes P Ψ m T := h.bind fun m' T' x => .now (k m' T' x)
theorem Comes.next {P : Program} {Φ : Machine → Trace → Prop} {m m₁ : Machine} {T : Trace} {ops : Array MemOp} (hs : stepT P m = (.next m₁, ops)) (h : Comes P Φ m₁ (T ++ ops)) (ho : OsSame m.world m₁.world := by exact ⟨rfl, rfl⟩) : Comes P Φ m T := by
  obtain ⟨N, m', T', hr, hΦ, ho'⟩ := h
  exact ⟨N + 1, m', T', by simp only [runNT, hs]; exact hr, hΦ, ho.trans ho'⟩
def At (P : Program) (V : Nat → Option Wait) (h n : Nat) (a : Goroutine) (w : World) (m : Machine) (T : Trace) : Prop :=
  ∃ gs sl q B, m = crowd gs w sl ∧ gs.size = n ∧ gs[h]? = some a ∧ V h = none ∧ Core P B (fun t => Knows t h) V (· = h) (fun _ => False) T gs w q
theorem low_one (e : Event) : ∃ B, (MemAct.ofEvent e).low B := by
  have hL : ∀ l : Loc, ∃ B, l.low B := fun l => by
    cases l with
    | cell a => exact ⟨a.block + 1, Nat.lt_succ_self _⟩
    | obj r => exact ⟨r + 1, Nat.lt_succ_self _⟩
    | _ => exact ⟨0, trivial⟩
  generalize MemAct.ofEvent e = x
  cases x with
  | access e => exact hL e.loc
  | mark m =>
    cases m with
    | acquire a | release a | releaseMerge a | read a | write a => exact ⟨a.block + 1, Nat.lt_succ_self _⟩
    | _ => exact ⟨0, trivial⟩
  | go _ | start => exact ⟨0, trivial⟩
  | send c _ | sendDone c _ | recv c _ _ | recvDone c _ | close c | recvClosed c => exact ⟨c + 1, Nat.lt_succ_self _⟩
theorem low_all (es : Array Event) : ∃ B, ∀ e ∈ es, (MemAct.ofEvent e).low B := by
  obtain ⟨l⟩ := es
  induction l with
  | nil => exact ⟨0, by simp⟩
  | cons e l ih =>
    obtain ⟨B, h⟩ := ih
    obtain ⟨B', h'⟩ := low_one e
    refine ⟨max B B', fun x hx => ?_⟩
    rcases List.mem_cons.1 (List.mem_toArray.1 hx) with rfl | hx
    · exact MemAct.low_mono (Nat.le_max_right _ _) h'
    · exact MemAct.low_mono (Nat.le_max_left _ _) (h x (List.mem_toArray.2 hx))
section
variable {P : Program} {V : Nat → Option Wait} {T : Trace} {gs : Array Goroutine} {w : World} {q : Nat → Nat} {B h n : Nat}
theorem evR_ops {fn : FuncId} {pos : String} {es : Array Event} (he : ∀ e ∈ es, EvR V e) (hl : ∀ e ∈ es, (MemAct.ofEvent e).low B) :
    (∀ op ∈ MemOp.ofEvents h fn pos es, op.g = h) ∧ (∀ op ∈ MemOp.ofEvents h fn pos es, ∀ (b : Touch) (g : Nat), op.act.touch? = some b → b.write = true → ¬ RSof V g b.loc) ∧ (∀ op ∈ MemOp.ofEvents h fn pos es, op.act.low B) ∧ ∀ (t : Trace) (x : Nat), Deaf (t ++ MemOp.ofEvents h fn pos es) x = Deaf t x := by
  refine ⟨fun op hop => by obtain ⟨e, _, rfl⟩ := Go.Conc.mem_ofEvents hop; rfl, fun op hop b g hb hw => by obtain ⟨e, h, rfl⟩ := Go.Conc.mem_ofEvents hop; exact (he e h).1 b hb hw g, fun op hop => by obtain ⟨e, h, rfl⟩ := Go.Conc.mem_ofEvents hop; exact hl e h, fun t x => ?_⟩
  by_cases ex : x = h
  · subst ex; rw [Deaf_own]; exact deafBehind_still (fun e h => ⟨(he e h).2.1, (he e h).2.2⟩) _
  · exact Deaf_other t (fun z => ex z.symm) _ (fun op hop => by obtain ⟨e, _, rfl⟩ := Go.Conc.mem_ofEvents hop; rfl)
theorem Core.own (C : Core P B (fun t => Knows t h) V (· = h) (fun _ => False) T gs w q) {a a' : Goroutine} {w' : World} {es : Array Event} (hd : DR V w w' es) (hl : ∀ e ∈ es, (MemAct.ofEvent e).low B) :
    Core P B (fun t => Knows t h) V (· = h) (fun _ => False) (T ++ MemOp.ofEvents h a.frame.fn a.frame.place es) ((gs.map (woken P a a' w')).setIfInBounds h a') w' q := by
  obtain ⟨h1, h2, h3, h4⟩ := evR_ops (h := h) (fn := a.frame.fn) (pos := a.frame.place) hd.2.2.1 hl
  have C' : Core P B (fun t => Knows t h) V (· = h) (fun _ => False) T gs w' q := ⟨C.idle, fun i v hD e => by obtain ⟨k, hk⟩ := C.chan i v hD e; exact ⟨k, hd.2.1 i v _ e hk rfl⟩, C.live, C.inj, C.above, C.low, fun i v e => hd.1 i v e (C.stays i v e), C.past⟩
  refine ⟨fun x y hx hy => ?_, C'.chan, fun _ _ z => z.elim, C.inj, fun j hj => by rw [h4]; exact C.above j (by simpa using hj), C.low, C'.stays, C.past.own h1 h2 (h4 T h) h3⟩
  rw [Array.getElem?_setIfInBounds_ne (fun e => hx e.symm), Array.getElem?_map] at hy
  obtain ⟨y₀, hy₀, rfl⟩ := Option.map_eq_some_iff.1 hy
  rw [woken_of_again (C'.fixed hx hy₀)]
  have hi := C.idle x y₀ hx hy₀
  revert hi
  cases V x with
  | none => exact fun hi => ⟨hi.1, by rw [h4]; exact hi.2⟩
  | some v => exact id
theorem Core.awake (C : Core P B (fun t => Knows t h) V (· = h) (fun _ => False) T gs w q) {a : Goroutine} (ha : gs[h]? = some a) (hs : a.status = .running ∨ a.status = .blocked) : ∀ g ∈ gs, Go.Conc.awake g := by
  intro g hg
  obtain ⟨i, hi, rfl⟩ := Array.mem_iff_getElem.1 hg
  by_cases e : i = h
  · subst e
    rw [show gs[i] = a by simpa [Array.getElem?_eq_getElem hi] using ha]
    exact awake_of (hs.imp id .inl)
  · exact awake_of (C.status e (Array.getElem?_eq_getElem hi))
theorem At.picked {a : Goroutine} {m : Machine} (A : At P V h n a w m T) (hrun : a.status = .running) :
    Comes P (fun m' T' => ∃ gs sl sl' q B d d', m' = crowd gs (w.at d) sl ∧ stepT P m' = runT P (crowd gs (w.at d') sl') h ∧ gs.size = n ∧ gs[h]? = some a ∧ V h = none ∧ Core P B (fun t => Knows t h) V (· = h) (fun _ => False) T' gs (w.at d') q) m T := by
  obtain ⟨gs, sl, q, B, rfl, hsz, ha, hV, C⟩ := A
  have key : ∀ μ (gs : Array Goroutine) (d : Nat) (sl : Option (Nat × Nat)) (q : Nat → Nat) (T : Trace), sumTo gs.size q = μ → gs.size = n → gs[h]? = some a → Core P B (fun t => Knows t h) V (· = h) (fun _ => False) T gs (w.at d) q →
      Comes P (fun m' T' => ∃ gs sl sl' q B d d', m' = crowd gs (w.at d) sl ∧ stepT P m' = runT P (crowd gs (w.at d') sl') h ∧ gs.size = n ∧ gs[h]? = some a ∧ V h = none ∧ Core P B (fun t => Knows t h) V (· = h) (fun _ => False) T' gs (w.at d') q) (crowd gs (w.at d) sl) T := by
    intro μ
    induction μ using Nat.strongRecOn with
    | _ μ ih =>
      intro gs d sl q T hμ hsz ha C
      obtain ⟨i, g, d', sl', hi, hg, hst⟩ := crowd_pick (P := P) (w := w.at d) (sl := sl) (C.awake ha (.inl hrun)) ⟨h, a, ha, hrun⟩
      rw [at_at'] at hst
      have Cd : Core P B (fun t => Knows t h) V (· = h) (fun _ => False) T gs (w.at d') q := C.at d'
      by_cases e : i = h
      · subst e
        exact .now ⟨gs, sl, sl', q, B, d, d', rfl, hst, hsz, ha, hV, Cd⟩
      · obtain ⟨gs', ops, q', hrt, hsz', hsp, _, _, C', hlt⟩ := Cd.byStep (sl := sl') (fun t u i => Knows.app u) hi e hg
          (fun x gx hx hgx => by subst hx; rw [ha] at hgx; cases hgx; exact again_of_running (.inl hrun) _) (fun z => z.elim)
          (fun v g₂ _ _ => ⟨fun z => z, fun x gx hx hgx => by subst hx; rw [ha] at hgx; cases hgx; exact offersAt_of_not_blocked (by rw [hrun]; simp) _ _⟩)
        exact .next (hst.trans hrt) (ih _ (by rw [hsz']; omega) gs' d' sl' q' _ rfl (by omega) (by rw [hsp h rfl]; exact ha) C')
  exact key _ gs w.drawn sl q T rfl hsz ha C
theorem At.walk {Stop : Goroutine → World → Prop} {a : Goroutine} (hW : Walk P (h == 0) (DR V) Stop a w) : ∀ {m : Machine} {T : Trace}, At P V h n a w m T → Comes P (fun m' T' => ∃ a' w', Stop a' w' ∧ At P V h n a' w' m' T') m T := by
  induction hW with
  | stop hs => exact fun A => .now ⟨_, _, hs _, A⟩
  | step hr G W E hs hd _ ih =>
    intro m T A
    refine (A.picked hr).bind ?_
    rintro m' T' ⟨gs, sl, sl', q, B, d, d', rfl, hst, hsz, ha, hV, C⟩
    obtain ⟨B₁, hB₁⟩ := low_all (E d')
    have C₁ := C.mono (Nat.le_max_left B B₁)
    refine .next (hst.trans (runT_crowd_go (sl := sl') ha (hs d'))) (ih d' ⟨_, sl', q, max B B₁, rfl, by simpa using hsz, ?_, hV, C₁.own (hd d') fun e he => MemAct.low_mono (Nat.le_max_right _ _) (hB₁ e he)⟩) (hd d').2.2.2
    exact Array.getElem?_setIfInBounds_self_of_lt (by simpa using (Array.getElem?_eq_some_iff.1 ha).1)
end
theorem Walk.of_goes {P : Program} {main : Bool} {D : World → World → Array Event → Prop} {Stop Stop' : Goroutine → World → Prop} (hk : ∀ g w, Stop g w → Walk P main D Stop' g w) :
    ∀ {n : Nat} {g : Goroutine} {w : World}, Goes P main AtRel D Stop n g w → Walk P main D Stop' g w := by
  have h0 : ∀ (g : Goroutine) (w : World), (∀ w₁, AtRel w w₁ → Stop g w₁) → Walk P main D Stop' g w := fun g w h => hk g w (h w ⟨w.drawn, rfl⟩)
  intro n
  induction n with
  | zero => exact fun h => h0 _ _ h
  | succ n ih =>
    intro g w h
    rcases h with h | ⟨hr, h⟩
    · exact h0 _ _ h
    · have hx : ∀ d, ∃ g' w' es, stepG P main g (w.at d) = .go g' w' es ∧ D (w.at d) w' es ∧ Goes P main AtRel D Stop n g' w' := fun d => by
        have := h (w.at d) ⟨d, rfl⟩
        cases hs : stepG P main g (w.at d) with
        | go g' w' es => rw [hs, goes_go] at this; exact ⟨g', w', es, rfl, this.1, this.2⟩
        | _ => rw [hs] at this; exact this.elim
      exact .step hr (fun d => (hx d).choose) (fun d => (hx d).choose_spec.choose) (fun d => (hx d).choose_spec.choose_spec.choose) (fun d => (hx d).choose_spec.choose_spec.choose_spec.1) (fun d => (hx d).choose_spec.choose_spec.choose_spec.2.1)
        (fun d => ih (hx d).choose_spec.choose_spec.choose_spec.2.2)
end
section
open Go.Conc
open Go.ConcN (sumTo upd sumTo_upd upd_ne upd_same)
def Then (P : Program) (V : Nat → Option Wait) (h : Nat) (but : Nat → Prop) (g : Goroutine) (w : World) : Option Wait → Prop
  | none => 0 < h ∧ ∃ k, QuitsD P k 0 g
  | some v => v.K w ∧ (∃ k, w.heap[v.ch]? = some (.chan 0 #[] false k k false)) ∧ (∀ i u, ¬ but i → V i = some u → u.ch ≠ v.ch) ∧ ∃ B k, Waits P (h == 0) B v k g
theorem Then.low {P : Program} {V : Nat → Option Wait} {h : Nat} {but : Nat → Prop} {g : Goroutine} {w : World} {new : Option Wait} (H : Then P V h but g w new) :
    ∃ B k, ∀ B', B ≤ B' → ∀ T, Deaf T h = 0 → Idles P B' T h k g new ∧ ∀ v, new = some v → v.ch < B' := by
  cases new with
  | none =>
    obtain ⟨h0, k, hq⟩ := H
    exact ⟨0, k, fun B' _ T hT => ⟨⟨h0, by rw [hT]; exact hq⟩, fun v e => by cases e⟩⟩
  | some v =>
    obtain ⟨_, _, _, B, k, hW⟩ := H
    exact ⟨max B (v.ch + 1), k, fun B' hB T _ => ⟨hW.mono (by omega), fun v' e => by cases e; omega⟩⟩
section
variable {P : Program} {V : Nat → Option Wait} {T : Trace} {gs : Array Goroutine} {w : World} {q : Nat → Nat} {B h j n : Nat}
def after (V : Nat → Option Wait) (h j : Nat) (new : Option Wait) : Nat → Option Wait := upd (upd V h new) j none
end
end
section
open Go.Conc
open Go.ConcN (sumTo upd sumTo_upd upd_ne upd_same)
section
variable {P : Program} {V : Nat → Option Wait} {T : Trace} {w : World} {h j n : Nat}
theorem Waits.closed {B : Nat} {v : Wait} {k : Nat} {g : Goroutine} {W : World} {main : Bool} (hK : v.K W) (hc : W.heap[v.ch]? = some (.chan 0 #[] true k k false)) {q : Nat} (h : Waits P main B v q g) :
    ∃ q', Waits P main B v q' (g.again W) ∧ (g.again W).status = .running := by
  rcases h with hway | ⟨_, g₀, g₂, rfl, hat⟩
  · have hr : g.status = .running := (Sits.status hK (.inl hway)).elim (·.1) (fun z => by obtain ⟨k', _, hn', _⟩ := hway; omega)
    rw [again_of_running (.inl hr)]
    exact ⟨q, .inl hway, hr⟩
  · have e : (parked g₂ v.seat.cases v.seat.shape).again W = { parked g₂ v.seat.cases v.seat.shape with status := .running } := again_recv_closed (g := g₂) (z := v.z) (sh := .recv v.ok) hc
    rw [e]
    exact ⟨1, .inl ⟨0, W, rfl, fun _ _ => ⟨g₂, hat.tries _ _⟩⟩, rfl⟩
theorem at_begin {gs : Array Goroutine} {a : Goroutine} {sl : Option (Nat × Nat)} {q : Nat → Nat} {B : Nat} (h0 : gs[0]? = some a) (hL : Leavers P T gs q) (hP : Past (fun _ => False) B T) : At P (fun _ => none) 0 gs.size a w (crowd gs w sl) T :=
  ⟨gs, sl, q, B, rfl, rfl, h0, rfl, fun i g hi hg => ⟨by omega, hL.old i g (by omega) hg⟩, fun _ _ _ e => (by cases e), fun _ _ z => z.elim, fun _ _ _ _ e => (by cases e), hL.above, fun _ _ e => (by cases e), fun _ _ e => (by cases e),
    (PastR.ofPast hP).turn (fun _ _ _ z => z) (fun _ _ _ _ _ _ z => z.elim) (fun _ _ _ _ _ ⟨_, e, _⟩ => (by cases e)) (fun g hg => by
      rcases hg with rfl | hg
      · exact hP.hears
      · cases hg)⟩
theorem At.ends {a : Goroutine} {m : Machine} (A : At P V 0 n a w m T) (hV : ∀ i, V i = none) : ∃ gs sl q B, m = crowd gs w sl ∧ gs.size = n ∧ gs[0]? = some a ∧ Leavers P T gs q ∧ Past (fun _ => False) B T := by
  obtain ⟨gs, sl, q, B, rfl, hsz, ha, _, C⟩ := A
  refine ⟨gs, sl, q, B, rfl, hsz, ha, ⟨fun i g hi hg => ?_, C.above⟩, C.past.toPast (.inl rfl) fun g l ⟨u, e, _⟩ => by rw [hV] at e; cases e⟩
  have hid := C.idle i g (by omega) hg
  rw [hV] at hid
  exact hid.2
end
end
section
open Go.Conc Go.RowKit
open Go.ConcN (upd)
section
variable {P : Program} {main : Bool} {V : Nat → Option Wait} {Stop Stop' : Goroutine → World → Prop} {g : Goroutine} {w w' : World} {es : Array Event}
theorem DR.quiet (h : ∀ e ∈ es, EvR V e) : DR V w w es := ⟨fun _ _ _ => id, fun _ _ _ _ h _ => h, h, OsSame.refl _⟩
theorem osSame_set (w : World) (a : Addr) (x : Value) : OsSame w (w.setCell a x) := by
  unfold World.setCell
  exact ⟨rfl, rfl⟩
theorem DR.idle : DR V w w #[] := DR.quiet (by simp)
theorem evR_read (a : Addr) (s : Bool) : EvR V ⟨.cell a, false, s⟩ :=
  ⟨fun x hx hw => (by simp only [ofEvent_cell0, MemAct.touch?, Option.some.injEq] at hx; subst hx; cases hw), by simp, by simp⟩
def Free (V : Nat → Option Wait) (a : Addr) : Prop := ∀ i v, V i = some v → v.f a = none
theorem evR_write (a : Addr) (s : Bool) (h : Free V a) : EvR V ⟨.cell a, true, s⟩ := by
  refine ⟨fun x hx _ i => ?_, by simp, by simp⟩
  simp only [ofEvent_cell0, MemAct.touch?, Option.some.injEq] at hx
  subst hx
  rintro ⟨v, e, b, y, hb, hf⟩
  cases hb
  rw [h i v e] at hf; cases hf
theorem DR.set {a : Addr} {x y : Value} (hf : Free V a) (hc : w.cell? a = some y) (h : ∀ e ∈ es, EvR V e) : DR V w (w.setCell a x) es := by
  refine ⟨fun i v e hK b z hb => ?_, fun i v o e ho hi => ?_, h, osSame_set w a x⟩
  · rw [World.cell?_setCell_other _ _ _ _ (fun eq => by subst eq; rw [hf i v e] at hb; cases hb)]
    exact hK b z hb
  · by_cases hb : v.ch = a.block
    · exfalso
      unfold World.cell? at hc
      rw [← hb, ho] at hc
      cases o <;> simp_all [Obj.isChan]
    · rw [Below.heap_setCell _ _ _ _ (fun e => hb e)]; exact ho
theorem DR.alloc {o : Obj} : DR V w (w.alloc o) #[] := by
  refine ⟨fun i v e hK b z hb => ?_, fun i v o' e ho hi => ?_, by simp, ⟨rfl, rfl⟩⟩
  · have := hK b z hb
    rw [World.cell?_alloc_lt]
    · exact this
    · unfold World.cell? at this
      split at this
      · rename_i h; exact (Array.getElem?_eq_some_iff.1 h).1
      · cases this
  · rw [Below.heap_alloc _ _ _ (Array.getElem?_eq_some_iff.1 ho).1]; exact ho
theorem Walk.back {D : World → World → Array Event → Prop} (h : Walk P main D Stop g w) (d : Nat) : Walk P main D Stop g (w.at d) := by
  cases h with
  | stop h => exact .stop fun d' => h d'
  | step hr G W E hs hd hn => exact .step hr G W E hs hd hn
theorem Walk.go {D : World → World → Array Event → Prop} (hr : g.status = .running) (h : ∀ d, (stepG P main g (w.at d)).goes fun g' w' es => D (w.at d) w' es ∧ Walk P main D Stop g' w') : Walk P main D Stop g w := by
  have hx : ∀ d, ∃ g' w' es, stepG P main g (w.at d) = .go g' w' es ∧ D (w.at d) w' es ∧ Walk P main D Stop g' w' := fun d => by
    have := h d
    cases hs : stepG P main g (w.at d) with
    | go g' w' es => rw [hs, goes_go] at this; exact ⟨g', w', es, rfl, this.1, this.2⟩
    | _ => rw [hs] at this; exact this.elim
  exact .step hr (fun d => (hx d).choose) (fun d => (hx d).choose_spec.choose) (fun d => (hx d).choose_spec.choose_spec.choose) (fun d => (hx d).choose_spec.choose_spec.choose_spec.1) (fun d => (hx d).choose_spec.choose_spec.choose_spec.2.1)
    (fun d => (hx d).choose_spec.choose_spec.choose_spec.2.2)
theorem Walk.then {D : World → World → Array Event → Prop} (h : Walk P main D Stop g w) (hk : ∀ g w, Stop g w → Walk P main D Stop' g w) : Walk P main D Stop' g w := by
  induction h with
  | stop h => exact hk _ _ (h (World.drawn _))
  | step hr G W E hs hd _ ih => exact .step hr G W E hs hd ih
theorem Walk.mono {D : World → World → Array Event → Prop} (h : Walk P main D Stop g w) (hk : ∀ g w, Stop g w → Stop' g w) : Walk P main D Stop' g w := by
  induction h with
  | stop h => exact .stop fun d => hk _ _ (h d)
  | step hr G W E hs hd _ ih => exact .step hr G W E hs hd ih
theorem Walk.ctl {g' : Goroutine} (hr : g.status = .running) (hs : ∀ w, stepG P main g w = .go g' w) (h : Walk P main (DR V) Stop g' w) : Walk P main (DR V) Stop g w :=
  .step hr (fun _ => g') (fun d => w.at d) (fun _ => #[]) (fun _ => hs _) (fun _ => DR.idle) fun d => h.back d
variable {b : Frame} {a : Act} {k : List Item} {cs : List Frame} {ops : Array Oper} {i : Nat} {rest : List Nat} {o : Oper}
theorem Walk.opq (ho : ops[i]? = some o) (hw : Region.wanted o (yielded ops a.tmps) = true) (hk : b.kind ≠ .early)
    (he : ∀ d, ∀ e ∈ (execOp a.eval o).events P (w.at d) #[], EvR V e)
    (h : ∀ d, ∀ K : Act → World → Prop, (∀ a', Walk P main (DR V) Stop (G (b.at a' (.inRegion ops rest :: k)) cs) w → K a' (w.at d)) → uponK o a K ((execOp a.eval o).run P (w.at d))) :
    Walk P main (DR V) Stop (G (b.at a (.inRegion ops (i :: rest) :: k)) cs) w := by
  refine Walk.go rfl fun d => goes_oper_k ho hw hk fun K hK => ?_
  have h' := h d (fun a' w' => K a' w') fun a' hW => hK a' _ ⟨DR.quiet fun e hm => he d e (mem_listed hm), hW.back d⟩
  exact h'
theorem Walk.opw {W : World} (ho : ops[i]? = some o) (hw : Region.wanted o (yielded ops a.tmps) = true) (hk : b.kind ≠ .early)
    (he : ∀ d, ∀ e ∈ (execOp a.eval o).events P (w.at d) #[], EvR V e) (hd : ∀ d es, (∀ e ∈ es, EvR V e) → DR V (w.at d) (W.at d) es)
    (h : ∀ d, ∀ K : Act → World → Prop, (∀ a', Walk P main (DR V) Stop (G (b.at a' (.inRegion ops rest :: k)) cs) W → K a' (W.at d)) → uponK o a K ((execOp a.eval o).run P (w.at d))) :
    Walk P main (DR V) Stop (G (b.at a (.inRegion ops (i :: rest) :: k)) cs) w := by
  refine Walk.go rfl fun d => goes_oper_k ho hw hk fun K hK => ?_
  exact h d (fun a' w' => K a' w') fun a' hW => hK a' _ ⟨hd d _ fun e hm => he d e (mem_listed hm), hW.back d⟩
theorem DR.set' {a : Addr} {x y : Value} (hf : Free V a) (hc : w.cell? a = some y) (d : Nat) (es : Array Event) (h : ∀ e ∈ es, EvR V e) : DR V (w.at d) ((w.setCell a x).at d) es := DR.set (w := w.at d) hf hc h
theorem DR.alloc' {o : Obj} (d : Nat) (es : Array Event) (h : ∀ e ∈ es, EvR V e) : DR V (w.at d) ((w.alloc o).at d) es := by
  obtain ⟨h1, h2, _⟩ := (DR.alloc : DR V (w.at d) ((w.at d).alloc o) #[])
  exact ⟨h1, h2, h, ⟨rfl, rfl⟩⟩
theorem Walk.call {f : FuncId} {fn : Func} {c : Code} {args : Array Operand} {ats : Array TypeId} (ho : ops[i]? = some o) (hw : Region.wanted o (yielded ops a.tmps) = true) (hk : b.kind ≠ .early) (hop : o.op = .call { callee := .value (.func f), args, argTypes := ats })
    (hf : P.funcs[f]? = some fn) (hname : (fn.name == "runtime.NumGoroutine") = false) (hb : fn.body = some c)
    (h : Walk P main (DR V) Stop (G ((base f).at { tmps := args.map a.eval ++ Array.replicate (fn.ntmps - (args.map a.eval).size) undef, defers := [] } [.code c]) (b.at a (.inRegion ops (i :: rest) :: k) :: cs)) w) :
    Walk P main (DR V) Stop (G (b.at a (.inRegion ops (i :: rest) :: k)) cs) w :=
  Walk.go rfl fun d => goes_call ho hw hk hop hf hname hb ⟨DR.idle, h.back d⟩
def CallW (P : Program) (main : Bool) (V : Nat → Option Wait) (f : FuncId) (args : Array Value) (w : World) (Post : Value → World → Prop) : Prop :=
  ∀ (c : Frame) (cs : List Frame), Walk P main (DR V) (fun g w' => ∃ v, Post v w' ∧ g = G (c.finish v) cs) (G (Frame.enter P f args .normal) (c :: cs)) w
theorem Walk.callW {f : FuncId} {fn : Func} {args : Array Operand} {ats : Array TypeId} {Post : Value → World → Prop} (hc : CallW P main V f (args.map a.eval) w Post) (ho : ops[i]? = some o) (hw : Region.wanted o (yielded ops a.tmps) = true) (hk : b.kind ≠ .early) (hop : o.op = .call { callee := .value (.func f), args, argTypes := ats })
    (hf : P.funcs[f]? = some fn) (hname : (fn.name == "runtime.NumGoroutine") = false) (hb : fn.body.isNone = false)
    (h : ∀ v w', Post v w' → Walk P main (DR V) Stop (G (b.at (a.put o.dst v) (.inRegion ops rest :: k)) cs) w') :
    Walk P main (DR V) Stop (G (b.at a (.inRegion ops (i :: rest) :: k)) cs) w := by
  refine Walk.ctl (g' := G (Frame.enter P f (args.map a.eval) .normal) (b.at a (.inRegion ops (i :: rest) :: k) :: cs)) rfl (fun w => ?_) ((hc _ cs).then ?_)
  · rw [stepG_enter ho hw hk (run_call_body hop hf hname hb)]
    have : listed P b.fn a o w = #[] := by unfold listed; rw [events_call_body hop hf hname hb]; exact seen_none P _
    rw [this]
  · rintro g' w' ⟨v, hp, rfl⟩
    rw [Frame.finish_at, ho]
    exact h v w' hp
theorem termsR : Terms AtRel (DR V) := ⟨atRel_trans, fun _ => DR.idle⟩
theorem drawsR : LetsDraw (DR V) := fun w => (DR.quiet (by simp) : DR V w w #[])
theorem ownDraw (w : World) : AtRel w { w with drawn := w.drawn + 1 } := ⟨w.drawn + 1, rfl⟩
theorem Walk.code {c : Code} {n : Nat} {Q : Act → World → Prop} (h : c.wpC P main AtRel (DR V) b.fn n (fun e a' w' => e = .normal ∧ Q a' w') a w) (hk : b.kind ≠ .early)
    (hc : ∀ a' w', Q a' w' → Walk P main (DR V) Stop (G (b.at a' k) cs) w') : Walk P main (DR V) Stop (G (b.at a (.code c :: k)) cs) w := by
  refine Walk.of_goes (Stop := fun g w => Walk P main (DR V) Stop g w) (fun _ _ h => h) (wpC_goes (m := 0) h rfl hk fun e a' w' hq => ?_)
  obtain ⟨rfl, hQ⟩ := hq
  intro w₁ hr
  obtain ⟨d, rfl⟩ := hr
  exact (hc a' w' hQ).back d
theorem Walk.held {id : Nat} (S : World → Prop) (hrl : ∀ w₁ w₂, S w₁ → AtRel w₁ w₂ → S w₂) (hF : S w) (hm : P.follows .mixedOrders = true) (hk : b.kind ≠ .early) {Q : Act → Prop}
    (h : ∀ w₁, S w₁ → AnyCH P AtRel (DR V) b.fn .any ops (fun e a' w' => e = .normal ∧ S w' ∧ Q a') S ops.size (Array.replicate ops.size false) a w₁)
    (hc : ∀ a' w', S w' → Q a' → Walk P main (DR V) Stop (G (b.at a' k) cs) w') : Walk P main (DR V) Stop (G (b.at a (.code (.region id ops true) :: k)) cs) w :=
  Walk.code (n := ops.size + 1 + 1) (Q := fun a' w' => S w' ∧ Q a') (wpC_region_held termsR drawsR hm fun _ hr => h _ (hrl _ _ (hrl _ _ hF hr) (ownDraw _))) hk fun a' w' hq => hc a' w' hq.1 hq.2
def CallV (P : Program) (main : Bool) (V : Nat → Option Wait) (f : FuncId) (args : Array Value) (w : World) (x : Value) (W : World) : Prop := CallW P main V f args w fun v w' => v = x ∧ ∃ d, w' = W.at d
theorem Walk.callV {f : FuncId} {fn : Func} {args : Array Operand} {ats : Array TypeId} {x : Value} {W : World} (hc : CallV P main V f (args.map a.eval) w x W) (ho : ops[i]? = some o) (hw : Region.wanted o (yielded ops a.tmps) = true) (hk : b.kind ≠ .early) (hop : o.op = .call { callee := .value (.func f), args, argTypes := ats })
    (hf : P.funcs[f]? = some fn) (hname : (fn.name == "runtime.NumGoroutine") = false) (hb : fn.body.isNone = false) (h : Walk P main (DR V) Stop (G (b.at (a.put o.dst x) (.inRegion ops rest :: k)) cs) W) :
    Walk P main (DR V) Stop (G (b.at a (.inRegion ops (i :: rest) :: k)) cs) w :=
  Walk.callW hc ho hw hk hop hf hname hb fun v w' ⟨e, d, e'⟩ => by subst e; subst e'; exact h.back d
theorem callW_in {f : FuncId} {fn : Func} {c : Code} {args : Array Value} {Post : Value → World → Prop} (hf : P.funcs[f]? = some fn) (hb : fn.body = some c)
    (h : ∀ (fr : Frame) (cs : List Frame), Walk P main (DR V) (fun g w' => ∃ v, Post v w' ∧ g = G (fr.finish v) cs) (G ((base f).at { tmps := args ++ Array.replicate (fn.ntmps - args.size) undef, defers := [] } [.code c]) (fr :: cs)) w) : CallW P main V f args w Post := by
  intro fr cs
  rw [enter_at args hf hb]
  exact h fr cs
theorem Walk.ret1 {fn : Func} {todo : List Item} {c : Frame} {t : Tmp} {Post : Value → World → Prop} (hn : b.kind = .normal) (hd : a.defers = []) (hf : P.funcs[b.fn]? = some fn) (hr : fn.results = #[.tmp t]) (h : ∀ d, Post (a.tmps.getD t undef) (w.at d)) :
    Walk P main (DR V) (fun g w' => ∃ v, Post v w' ∧ g = G (c.finish v) cs) (G { b.at a todo with mode := .returning } (c :: cs)) w :=
  Walk.ctl rfl (fun w => stepG_leave hn hd hf (results_tmp hr _ P w) (events_results_tmp hr _ _)) (.stop fun d => ⟨_, h d, rfl⟩)
theorem Walk.ret0 {fn : Func} {todo : List Item} {c : Frame} {Post : Value → World → Prop} (hn : b.kind = .normal) (hd : a.defers = []) (hf : P.funcs[b.fn]? = some fn) (hr : fn.results = #[]) (h : ∀ d, Post (.tuple #[]) (w.at d)) :
    Walk P main (DR V) (fun g w' => ∃ v, Post v w' ∧ g = G (c.finish v) cs) (G { b.at a todo with mode := .returning } (c :: cs)) w :=
  Walk.ctl rfl (fun w => stepG_leave hn hd hf (results_none hr _ P w) (events_results_none hr _ _)) (.stop fun d => ⟨_, h d, rfl⟩)
end
def ctlNext (a : Act) : List Item → Option (List Item)
  | .code (.seq x y) :: k => some (.code x :: .code y :: k)
  | .code .skip :: k => some k
  | .code (.block id c) :: k => some (.code c :: .inBlock id :: k)
  | .code (.exit id) :: k => exitTo id k
  | .code (.cond c x y) :: k => match a.eval c with
    | .bool true => some (.code x :: k)
    | .bool false => some (.code y :: k)
    | _ => none
  | .inBlock _ :: k => some k
  | .inRegion _ [] :: k => some k
  | _ => none
section
variable {P : Program} {main : Bool} {V : Nat → Option Wait} {Stop : Goroutine → World → Prop} {w : World} {b : Frame} {a : Act} {k k' : List Item} {cs : List Frame} {ops : Array Oper} {id : Nat}
theorem ctl_next (h : ctlNext a k = some k') : stepG P main (G (b.at a k) cs) w = .go (G (b.at a k') cs) w := by
  unfold ctlNext at h
  split at h
  · cases h; exact stepG_seq
  · cases h; exact stepG_skip
  · cases h; exact stepG_block
  · exact stepG_exit h
  · split at h
    · next e => cases h; exact (stepG_cond e).trans (by simp)
    · next e => cases h; exact (stepG_cond e).trans (by simp)
    · cases h
  · cases h; exact stepG_inBlock
  · cases h; exact stepG_region_end
  · cases h
theorem Walk.c (h : ctlNext a k = some k') (hw : Walk P main (DR V) Stop (G (b.at a k') cs) w) : Walk P main (DR V) Stop (G (b.at a k) cs) w := Walk.ctl rfl (fun _ => ctl_next h) hw
theorem Walk.cReg (hw : Walk P main (DR V) Stop (G (b.at a (.inRegion ops (List.range ops.size) :: k)) cs) w) : Walk P main (DR V) Stop (G (b.at a (.code (.region id ops false) :: k)) cs) w := Walk.ctl rfl (fun _ => stepG_region) hw
theorem Walk.cRet (hw : Walk P main (DR V) Stop (G { b.at a (.code .ret :: k) with mode := .returning } cs) w) : Walk P main (DR V) Stop (G (b.at a (.code .ret :: k)) cs) w := Walk.ctl rfl (fun _ => stepG_ret') hw
theorem Walk.cEnd (hw : Walk P main (DR V) Stop (G { b.at a [] with mode := .returning } cs) w) : Walk P main (DR V) Stop (G (b.at a []) cs) w := Walk.ctl rfl (fun _ => stepG_end) hw
def rgA : List Nat → Code → Array Oper
  | 0 :: l, .seq a _ => rgA l a
  | _ :: l, .seq _ b => rgA l b
  | 0 :: l, .cond _ a _ => rgA l a
  | _ :: l, .cond _ _ b => rgA l b
  | _ :: l, .block _ a => rgA l a
  | _ :: l, .loop a => rgA l a
  | [], .region _ ops _ => ops
  | _, _ => #[]
def rg (c : Option Code) (l : List Nat) : Array Oper := match c with | some c => rgA l c | _ => #[]
theorem ez : (∀ (l : List Value), l.toArray.size = l.length) ∧ (∀ (a : Value) (l : List Value), (a :: l).length = l.length + 1) ∧ (([] : List Value).length = 0) ∧ (∀ (n : Nat) (a : Value), Array.replicate (n + 1) a = (Array.replicate n a).push a) ∧ (∀ (a : Value), Array.replicate 0 a = #[]) ∧ (∀ (l : List Value) (a : Value), l.toArray.push a = (l ++ [a]).toArray) ∧ (∀ (l m : List Value), l.toArray ++ m.toArray = (l ++ m).toArray) ∧ (∀ (l : List Value), [] ++ l = l) ∧ (∀ (a : Value) (l m : List Value), (a :: l) ++ m = a :: (l ++ m)) := by
  refine ⟨?_, ?_, ?_, ?_, ?_, ?_, ?_, ?_, ?_⟩ <;> intros <;> simp [Array.replicate_succ]
def ctlG (b : Frame) (a : Act) (k : List Item) (cs : List Frame) : Option Goroutine := match ctlNext a k with | some k' => some (G (b.at a k') cs) | none => match k with | .code .ret :: k => some (G { b.at a (.code .ret :: k) with mode := .returning } cs) | [] => some (G { b.at a [] with mode := .returning } cs) | _ => none
theorem Walk.cx {g : Goroutine} (hw : Walk P main (DR V) Stop g w) (h : ctlG b a k cs = some g := by rfl) : Walk P main (DR V) Stop (G (b.at a k) cs) w := by
  unfold ctlG at h
  split at h
  · rename_i k' e
    cases h
    exact Walk.c e hw
  · split at h
    · cases h
      exact Walk.cRet hw
    · cases h
      exact Walk.cEnd hw
    · cases h
end
def nth : List Oper → Nat → Oper
  | [], _ => { dst := none, op := .nilCheck (.tmp 0), type := 0, pos := "", after := #[], guard := none }
  | x :: _, 0 => x
  | _ :: l, n + 1 => nth l n
theorem ho_of {ops : Array Oper} {i : Nat} {o : Oper} (hn : nth ops.toList i = o) (hs : ops[i]? = some (nth ops.toList i)) : ops[i]? = some o := hs.trans (congrArg some hn)
section
variable {P : Program} {main : Bool} {V : Nat → Option Wait} {Stop : Goroutine → World → Prop} {w : World} {b : Frame} {a a' : Act} {k : List Item} {cs : List Frame} {ops : Array Oper} {i id : Nat} {rest l : List Nat} {o : Oper}
theorem Walk.oq (h : Walk P main (DR V) Stop (G (b.at a' (.inRegion ops rest :: k)) cs) w) (ho : ops[i]? = some o := by exact ho_of (by conv => lhs; whnf) (by kernel_rfl)) (hw : Region.wanted o (yielded ops a.tmps) = true := by rfl) (hk : b.kind ≠ .early := by decide)
    (he : ∀ d, ∀ e ∈ (execOp a.eval o).events P (w.at d) #[], EvR V e := by intro dd e he; simp [go_sem, *] at he; first | done | (subst he; exact evR_read _ _))
    (hr : ∀ d, ∀ K : Act → World → Prop, K a' (w.at d) → uponK o a K ((execOp a.eval o).run P (w.at d)) := by intro dd K hK; go_simp; exact hK) : Walk P main (DR V) Stop (G (b.at a (.inRegion ops (i :: rest) :: k)) cs) w :=
  Walk.opq ho hw hk he fun d K hK => hr d K (hK a' h)
theorem Walk.un (h : Walk P main (DR V) Stop (G (b.at (a.put o.dst undef) (.inRegion ops rest :: k)) cs) w) (ho : ops[i]? = some o := by exact ho_of (by conv => lhs; whnf) (by kernel_rfl)) (hw : Region.wanted o (yielded ops a.tmps) = false := by rfl) : Walk P main (DR V) Stop (G (b.at a (.inRegion ops (i :: rest) :: k)) cs) w :=
  Walk.ctl rfl (fun _ => stepG_unwanted ho hw) h
theorem Walk.oa {ob : Obj} (h : Walk P main (DR V) Stop (G (b.at a' (.inRegion ops rest :: k)) cs) (w.alloc ob)) (ho : ops[i]? = some o := by exact ho_of (by conv => lhs; whnf) (by kernel_rfl)) (hw : Region.wanted o (yielded ops a.tmps) = true := by rfl) (hk : b.kind ≠ .early := by decide)
    (he : ∀ d, ∀ e ∈ (execOp a.eval o).events P (w.at d) #[], EvR V e := by intro dd e he; simp [go_sem, *] at he; done)
    (hr : ∀ d, ∀ K : Act → World → Prop, K a' ((w.alloc ob).at d) → uponK o a K ((execOp a.eval o).run P (w.at d)) := by intro dd K hK; go_simp; simp only [alloc_at', setCell_at']; exact hK) : Walk P main (DR V) Stop (G (b.at a (.inRegion ops (i :: rest) :: k)) cs) w :=
  Walk.opw ho hw hk he (fun _ _ hes => DR.alloc' _ _ hes) fun d K hK => hr d K (hK a' h)
theorem Walk.os {A : Addr} {x y : Value} (hf : Free V A) (hc : w.cell? A = some y) (h : Walk P main (DR V) Stop (G (b.at a' (.inRegion ops rest :: k)) cs) (w.setCell A x)) (ho : ops[i]? = some o := by exact ho_of (by conv => lhs; whnf) (by kernel_rfl)) (hw : Region.wanted o (yielded ops a.tmps) = true := by rfl) (hk : b.kind ≠ .early := by decide)
    (he : ∀ d, ∀ e ∈ (execOp a.eval o).events P (w.at d) #[], EvR V e := by intro dd e he; simp [go_sem, storedEv, ev_store_bool, ev_store_int, ev_store_slice, ev_store_pointer, *] at he; subst he; exact evR_write _ _ (by assumption))
    (hr : ∀ d, ∀ K : Act → World → Prop, K a' ((w.setCell A x).at d) → uponK o a K ((execOp a.eval o).run P (w.at d)) := by intro dd K hK; go_simp; simp only [alloc_at', setCell_at']; exact hK) : Walk P main (DR V) Stop (G (b.at a (.inRegion ops (i :: rest) :: k)) cs) w :=
  Walk.opw ho hw hk he (fun _ _ hes => DR.set' hf hc _ _ hes) fun d K hK => hr d K (hK a' h)
end
end
end Go.Relay
