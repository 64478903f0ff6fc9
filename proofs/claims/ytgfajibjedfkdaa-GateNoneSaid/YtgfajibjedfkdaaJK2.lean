/- Part 2. -/
import Derived.Test.YtgfajibjedfkdaaJK1
import Derived.Conc.CompanyMem
import Derived.Conc.TokenWords
import Derived.Lib.MinMax
import Derived.Conc.DeferLaws
set_option linter.unusedSimpArgs false
set_option linter.unusedVariables false
set_option maxHeartbeats 8000000
set_option maxRecDepth 100000
namespace Go.Relay
section
open Go.Conc
open Go.ConcN (sumTo upd sumTo_upd upd_ne upd_same)
section
variable {P : Program} {V : Nat → Option Wait} {T : Trace} {w : World} {h j n : Nat}
theorem upd_some {new : Option Wait} {x : Nat} {u : Wait} (e : upd V h new x = some u) : (x = h ∧ new = some u) ∨ (x ≠ h ∧ V x = some u) := by
  by_cases eh : x = h
  · subst eh; rw [upd_same] at e; exact .inl ⟨rfl, e⟩
  · rw [upd_ne _ _ eh] at e; exact .inr ⟨eh, e⟩
theorem upd_inj {new : Option Wait} {g : Goroutine} (hT : Then P V h (fun _ => False) g w new) (hinj : ∀ i i' v v', V i = some v → V i' = some v' → v.ch = v'.ch → i = i') :
    ∀ i i' v v', upd V h new i = some v → upd V h new i' = some v' → v.ch = v'.ch → i = i' := by
  intro i i' v v' e e' ec
  rcases upd_some e with ⟨rfl, z1⟩ | ⟨_, z1⟩ <;> rcases upd_some e' with ⟨rfl, z2⟩ | ⟨_, z2⟩
  · rfl
  · subst z1; exact absurd ec.symm (hT.2.2.1 i' v' (fun z => z) z2)
  · subst z2; exact absurd ec (hT.2.2.1 i v (fun z => z) z1)
  · exact hinj i i' v v' z1 z2 ec
theorem Waits.closed {B : Nat} {v : Wait} {k : Nat} {g : Goroutine} {W : World} {main : Bool} (hK : v.K W) (hc : W.heap[v.ch]? = some (.chan 0 #[] true k k false)) {q : Nat} (h : Waits P main B v q g) :
    ∃ q', Waits P main B v q' (g.again W) ∧ (g.again W).status = .running := by
  rcases h with hway | ⟨_, g₀, g₂, rfl, hat⟩
  · have hr : g.status = .running := (Sits.status hK (.inl hway)).elim (·.1) (fun z => by obtain ⟨k', _, hn', _⟩ := hway; omega)
    rw [again_of_running (.inl hr)]
    exact ⟨q, .inl hway, hr⟩
  · have e : (parked g₂ v.seat.cases v.seat.shape).again W = { parked g₂ v.seat.cases v.seat.shape with status := .running } := again_recv_closed (g := g₂) (z := v.z) (sh := .recv v.ok) hc
    rw [e]
    exact ⟨1, .inl ⟨0, W, rfl, fun _ _ => ⟨g₂, hat.tries _ _⟩⟩, rfl⟩
theorem At.shut {a a' : Goroutine} {m : Machine} (A : At P V h n a w m T) {v : Wait} (hjh : j ≠ h) (hjn : j < n) (hj : V j = some v) (hrun : a.status = .running) (hwake : mayWake P a = true) (ha' : a'.status = .running)
    (hclose : ∀ d k, w.heap[v.ch]? = some (.chan 0 #[] false k k false) → stepG P (h == 0) a (w.at d) = .go a' ((w.at d).setChan v.ch 0 #[] true k k false) (closeEvents v.ch)) {new : Option Wait} (hnew : Then P V h (fun _ => False) a' w new) :
    Comes P (fun m' T' => ∃ g₂ d k, v.home g₂ ∧ At P (after V h j new) j n (Go.Conc.served g₂ (recvd v.ok v.z false)) ((w.at d).setChan v.ch 0 #[] true k k false) m' T') m T := by
  refine (A.picked hrun).bind ?_
  rintro m₁ T₁ ⟨gs, sl, sl', q, B₀, d, d', rfl, hst, hsz, ha, hV, C₀⟩
  obtain ⟨B₂, nh, hB₂⟩ := hnew.low
  have C : Core P (max B₀ B₂) (fun t => Knows t h) V (· = h) (fun _ => False) T₁ gs (w.at d') q := C₀.mono (Nat.le_max_left _ _)
  generalize hBB : max B₀ B₂ = B at C
  obtain ⟨k, hc⟩ := C.chan j v (fun z => z) hj
  have hcB := C.low j v hj
  have hlth : h < gs.size := (Array.getElem?_eq_some_iff.1 ha).1
  obtain ⟨gj, hgj⟩ : ∃ gj, gs[j]? = some gj := ⟨gs[j]'(by omega), Array.getElem?_eq_getElem (by omega)⟩
  have hSj : Waits P (j == 0) B v (q j) gj := by have := C.idle j gj hjh hgj; rwa [hj] at this
  have hrt := runT_crowd_go (P := P) (sl := sl') ha (hclose d' k hc)
  generalize hW : (w.at d').setChan v.ch 0 #[] true k k false = W at hrt
  have hcW : W.heap[v.ch]? = some (.chan 0 #[] true k k false) := by rw [← hW]; exact heap_setChan_self (w.at d') hc _ _ _ _ _ _
  have hKW : ∀ u : Wait, u.K w → u.K W := fun u hu => by rw [← hW]; exact Wait.K_setChan (w := w.at d') hu hc _ _ _ _ _ _
  have hother : ∀ u : Wait, u.ch ≠ v.ch → (∃ k, w.heap[u.ch]? = some (.chan 0 #[] false k k false)) → ∃ k, W.heap[u.ch]? = some (.chan 0 #[] false k k false) := fun u hne ⟨k', hk'⟩ => ⟨k', by rw [← hW, heap_setChan_ne _ _ _ _ _ _ _ (fun e => hne e.symm)]; exact hk'⟩
  have hwk : ∀ y, woken P a a' W y = y.again W := by intro y; simp [woken, hwake, ha']
  obtain ⟨qj, hSj', hjr⟩ := hSj.closed (hKW v (C.stays j v hj)) hcW
  have hcl : ∀ e ∈ closeEvents v.ch, EvR V e := by
    intro e he
    simp only [closeEvents, List.mem_toArray, List.mem_cons, List.not_mem_nil, or_false] at he
    rcases he with rfl | rfl
    · exact ⟨fun x hx hw => (by simp only [MemAct.ofEvent, MemAct.touch?, Option.some.injEq] at hx; subst hx; cases hw), by simp, by simp⟩
    · exact ⟨fun x hx => by simp [MemAct.ofEvent, MemAct.touch?] at hx, by simp, by simp⟩
  have hcll : ∀ e ∈ closeEvents v.ch, (MemAct.ofEvent e).low B := by
    intro e he
    simp only [closeEvents, List.mem_toArray, List.mem_cons, List.not_mem_nil, or_false] at he
    rcases he with rfl | rfl <;> exact hcB
  obtain ⟨o1, o2, o3, o4⟩ := evR_ops (h := h) (fn := a.frame.fn) (pos := a.frame.place) hcl hcll
  have p1 := C.past.own o1 o2 (o4 T₁ h) o3
  have hm : (T₁ ++ MemOp.ofEvents h a.frame.fn a.frame.place (closeEvents v.ch))[T₁.size + 1]? = some { g := h, fn := a.frame.fn, pos := a.frame.place, act := .close v.ch } := by rw [at_new, closeOps]; rfl
  have p2 := p1.shut hm rfl (by rw [closeOps]; simp) (fun l ⟨u, e, _⟩ => by rw [hV] at e; cases e) (S := fun l => ∃ v, new = some v ∧ v.S l) (fun l ⟨u, _, hl⟩ => Wait.S_mem hl)
  have hca : ClosedAt v.ch (T₁.size + 1) (T₁ ++ MemOp.ofEvents h a.frame.fn a.frame.place (closeEvents v.ch)) := by
    refine ⟨act?_of hm, h, g?_of hm, ?_⟩
    rw [deaf_quiet (fun op hop dd => by
      rw [closeOps] at hop
      simp only [List.mem_toArray, List.mem_cons, List.not_mem_nil, or_false] at hop
      rcases hop with rfl | rfl <;> rfl) 1 (by rw [closeOps]; simp)]
    exact C.past.hears h (.inl rfl)
  have hnB := hB₂ B (by omega)
  have hdh : Deaf T₁ h = 0 := C.past.hears h (.inl rfl)
  have Cl : Core P B (fun t i => Before t i (T₁.size + 1)) (upd V h new) (fun _ => False) (· = j) (T₁ ++ MemOp.ofEvents h a.frame.fn a.frame.place (closeEvents v.ch)) ((gs.map (woken P a a' W)).setIfInBounds h a') W (upd (upd q h nh) j qj) := by
    refine ⟨fun x y _ hy => ?_, fun x u hx e => ?_, fun x y hx hy => ?_, upd_inj hnew C.inj, fun x hx => by rw [o4]; exact C.above x (by simpa using hx), fun x u e => ?_, fun x u e => ?_, ?_⟩
    · by_cases ex : x = h
      · subst ex
        rw [Array.getElem?_setIfInBounds_self_of_lt (by simpa using hlth)] at hy; cases hy
        rw [upd_ne _ qj (Ne.symm hjh), upd_same, upd_same]
        exact (hnB _ (by rw [o4]; exact hdh)).1
      · rw [Array.getElem?_setIfInBounds_ne (fun z => ex z.symm), Array.getElem?_map] at hy
        obtain ⟨y₀, hy₀, rfl⟩ := Option.map_eq_some_iff.1 hy
        rw [upd_ne V new ex, hwk]
        by_cases exj : x = j
        · subst exj
          rw [hgj] at hy₀; cases hy₀
          rw [upd_same, hj]
          exact hSj'
        · rw [upd_ne _ qj exj, upd_ne q nh ex]
          have hid := C.idle x y₀ ex hy₀
          cases e : V x with
          | none =>
            rw [e] at hid
            rw [again_of_running hid.2.status]
            exact ⟨hid.1, by rw [o4]; exact hid.2⟩
          | some u =>
            rw [e] at hid
            obtain ⟨k', hk'⟩ := hother u (fun ec => exj (C.inj x j u v e hj ec)) (C.chan x u (fun z => z) e)
            rw [Sits.again (hKW u (C.stays x u e)) hid (Seat.one_wf _ _ _ _) fun c hc => by rw [Seat.one_has.1 hc]; exact ⟨_, _, _, _, _, hk'⟩]
            exact hid
    · rcases upd_some e with ⟨_, z⟩ | ⟨hxh, z⟩
      · subst z; exact hother u (fun ec => hnew.2.2.1 j v (fun z => z) hj ec.symm) hnew.2.1
      · exact hother u (fun ec => hx (C.inj x j u v z hj ec)) (C.chan x u (fun z => z) z)
    · subst hx
      rw [Array.getElem?_setIfInBounds_ne (fun z => hjh z.symm), Array.getElem?_map, hgj] at hy
      cases hy
      rw [hwk]; exact hjr
    · rcases upd_some e with ⟨_, z⟩ | ⟨_, z⟩
      · exact (hnB T₁ hdh).2 u z
      · exact C.low x u z
    · rcases upd_some e with ⟨_, z⟩ | ⟨_, z⟩
      · subst z; exact hKW u hnew.1
      · exact hKW u (C.stays x u z)
    · refine p2.turn (fun _ _ _ z => z) (fun i b g _ _ _ hR => .inr ?_) (fun i b g hb hw hR => p2.wrote i b g hb hw ?_) (fun g hg => p2.hears g ?_)
      · rcases hR with ⟨rfl, u, z, hl⟩ | ⟨u, z, hl⟩
        · exact ⟨u, by rw [upd_same]; exact z, hl⟩
        · refine ⟨u, ?_, hl⟩
          by_cases eg : g = h
          · subst eg; rw [hV] at z; cases z
          · rw [upd_ne _ _ eg]; exact z
      · obtain ⟨u, z, hl⟩ := hR
        rcases upd_some z with ⟨e1, z⟩ | ⟨_, z⟩
        · exact .inl ⟨e1, u, z, hl⟩
        · exact .inr ⟨u, z, hl⟩
      · rcases hg with hg | hg
        · exact hg.elim
        · obtain ⟨u, z⟩ := Option.isSome_iff_exists.1 hg
          rcases upd_some z with ⟨e1, _⟩ | ⟨_, z⟩
          · exact .inl e1
          · exact .inr (by rw [z]; rfl)
  have hVj : upd V h new j = some v := by rw [upd_ne _ _ hjh]; exact hj
  have key : ∀ μ (gs : Array Goroutine) (d : Nat) (sl : Option (Nat × Nat)) (q : Nat → Nat) (T : Trace), sumTo gs.size q = μ → gs.size = n → Core P B (fun t i => Before t i (T₁.size + 1)) (upd V h new) (fun _ => False) (· = j) T gs (W.at d) q → ClosedAt v.ch (T₁.size + 1) T →
      Comes P (fun m' T' => ∃ g₂ d k, v.home g₂ ∧ At P (after V h j new) j n (Go.Conc.served g₂ (recvd v.ok v.z false)) ((w.at d).setChan v.ch 0 #[] true k k false) m' T') (crowd gs (W.at d) sl) T := by
    intro μ
    induction μ using Nat.strongRecOn with
    | _ μ ih =>
      intro gs d sl q T hμ hsz C ca
      obtain ⟨gj, hgj⟩ : ∃ gj, gs[j]? = some gj := ⟨gs[j]'(by omega), Array.getElem?_eq_getElem (by omega)⟩
      have haw : ∀ g ∈ gs, Go.Conc.awake g := by
        intro g hg
        obtain ⟨i, hi, rfl⟩ := Array.mem_iff_getElem.1 hg
        exact awake_of (C.status (fun z => z) (Array.getElem?_eq_getElem hi))
      obtain ⟨i, g, d', sl', hi, hg, hst⟩ := crowd_pick (P := P) (w := W.at d) (sl := sl) haw ⟨j, gj, hgj, C.live j gj rfl hgj⟩
      rw [at_at'] at hst
      have Cd : Core P B (fun t i => Before t i (T₁.size + 1)) (upd V h new) (fun _ => False) (· = j) T gs (W.at d') q := C.at d'
      by_cases ej : i = j ∧ ∃ g₂, AtIn P (i == 0) v.K v.S B v.seat g g₂
      · obtain ⟨rfl, g₂, _, _, _, _, hhome, esj, hesj, hstp⟩ := ej
        obtain ⟨hops, hr, hl, hd⟩ := evC_ops (i := i) (fn := g.frame.fn) (pos := g.frame.place) hesj
        have hp : partners (gs.setIfInBounds i ph) v.ch true = [] := partners_nil fun x y hy => by
          rcases getElem?_stand gs i x y hy with ⟨_, rfl⟩ | ⟨_, hy'⟩
          · exact offersAt_ph _ _
          · exact Cd.noSend (fun z => z) hy' _
        have hD : ∀ y, Deaf (T ++ (MemOp.ofEvents i g.frame.fn g.frame.place esj ++ #[{ g := i, fn := g₂.frame.fn, pos := g₂.frame.place, act := .recvClosed v.ch }])) y = Deaf T y := fun y => by
          rw [← Array.append_assoc, Deaf_quiet (fun op hop dd => by
            have : op = { g := i, fn := g₂.frame.fn, pos := g₂.frame.place, act := .recvClosed v.ch } := by simpa using hop
            subst this; rfl)]
          by_cases ey : y = i
          · subst ey; exact hd T
          · exact Deaf_other T (fun z => ey z.symm) _ hops
        have p3 := (C.past.reads (K' := fun k => Before (T ++ MemOp.ofEvents i g.frame.fn g.frame.place esj) k (T₁.size + 1)) (fun _ => Before.app _) hops (fun op hop b hb => ⟨(hr op hop b hb).1, v, hVj, (hr op hop b hb).2⟩) (hd T) hl).take (ca.app _) (.inr (by rw [hVj]; rfl)) g₂.frame.fn g₂.frame.place (C.low i v hVj)
        rw [Array.append_assoc] at p3
        refine .next (hst.trans (crowd_recv_closed (sl := sl') hi (hstp _ (Cd.stays i v hVj)) hcW hp)) (.now ⟨g₂, d', k, hhome, gs.setIfInBounds i (g₂.finishComm P #[rcase v.ch v.z] (.recv v.ok) 0 v.z false), sl', q, B, by rw [← hW]; rfl, by simpa using hsz, by rw [Array.getElem?_setIfInBounds_self_of_lt (by omega)]; exact congrArg some (finishComm_recv P g₂ _ v.ok 0 v.z false), after_j, ?_⟩)
        have hsub : ∀ x u, after V h i new x = some u → x ≠ i ∧ upd V h new x = some u := fun x u e => by
          obtain ⟨nj, c⟩ := after_some e
          exact ⟨nj, by rcases c with ⟨rfl, z⟩ | ⟨nh, z⟩
                        · rw [upd_same]; exact z
                        · rw [upd_ne _ _ nh]; exact z⟩
        have heq : (w.at d').setChan v.ch 0 #[] true k k false = W.at d' := by rw [← hW]; rfl
        rw [heq]
        refine ⟨fun x y hx hy => ?_, fun x u _ e => Cd.chan x u (hsub x u e).1 (hsub x u e).2, fun _ _ z => z.elim, fun x x' u u' e e' => C.inj x x' u u' (hsub _ _ e).2 (hsub _ _ e').2, fun x hx => by rw [hD]; exact C.above x (by simpa using hx),
          fun x u e => C.low x u (hsub x u e).2, fun x u e => Cd.stays x u (hsub x u e).2, ?_⟩
        · rw [Array.getElem?_setIfInBounds_ne (fun z => hx z.symm)] at hy
          have hid := Cd.idle x y (fun z => z) hy
          have : after V h i new x = upd V h new x := by unfold after; rw [upd_ne _ _ hx]
          rw [this]
          revert hid
          cases upd V h new x with
          | none => exact fun hid => ⟨hid.1, by rw [hD]; exact hid.2⟩
          | some u => exact id
        · refine p3.turn (fun _ _ _ z => z) (fun y b g _ _ _ hR => .inr ?_) (fun y b g hb hw hR => p3.wrote y b g hb hw ?_) (fun g hg => p3.hears g ?_)
          · obtain ⟨ng, u, z, hl⟩ := hR
            exact ⟨u, by unfold after; rw [upd_ne _ _ ng]; exact z, hl⟩
          · obtain ⟨u, z, hl⟩ := hR
            exact ⟨(hsub g u z).1, u, (hsub g u z).2, hl⟩
          · rcases hg with rfl | hg
            · exact .inr (by rw [hVj]; rfl)
            · obtain ⟨u, z⟩ := Option.isSome_iff_exists.1 hg
              exact .inr (by rw [(hsub g u z).2]; rfl)
      · obtain ⟨gs', ops, q', hrt, hsz', _, _, _, C', hlt⟩ := Cd.byStep (sl := sl') (fun t u i => Before.app u) hi (fun z => z) hg (fun _ _ z => z.elim) (fun hD => by subst hD; rw [hVj]; simp)
          (fun u g₂ hu hat => ⟨fun hD => by subst hD; rw [hVj] at hu; cases hu; exact ej ⟨rfl, g₂, hat⟩, fun _ _ z => z.elim⟩)
        exact .next (hst.trans hrt) (ih _ (by rw [hsz']; omega) gs' d' sl' q' _ rfl (by omega) C' (ca.app ops))
  exact .next (hst.trans hrt) (key _ _ W.drawn sl' _ _ rfl (by simpa using hsz) Cl hca) (by rw [← hW]; exact ⟨rfl, rfl⟩)
theorem At.hire {a a' child : Goroutine} {m : Machine} (A : At P V h n a w m T) (hrun : a.status = .running) {es : Array Event} (hgo : ∀ d, stepG P (h == 0) a (w.at d) = .spawn a' child (w.at d) es) (hes : ∀ e ∈ es, EvR V e)
    (hn : ∀ i, n ≤ i → V i = none) {new : Option Wait} (hnew : Then P V h (fun _ => False) a' w new) :
    Comes P (fun m' T' => ∃ d, At P (upd V h new) n (n + 1) child (w.at d) m' T') m T := by
  refine (A.picked hrun).bind ?_
  rintro m₁ T₁ ⟨gs, sl, sl', q, B₀, d, d', rfl, hst, hsz, ha, hV, C₀⟩
  obtain ⟨B₁, hB₁⟩ := low_all es
  obtain ⟨B₂, nh, hB₂⟩ := hnew.low
  have C : Core P (max B₀ (max B₁ B₂)) (fun t => Knows t h) V (· = h) (fun _ => False) T₁ gs (w.at d') q := C₀.mono (Nat.le_max_left _ _)
  generalize hBB : max B₀ (max B₁ B₂) = B at C
  have hlth : h < gs.size := (Array.getElem?_eq_some_iff.1 ha).1
  obtain ⟨o1, o2, o3, o4⟩ := evR_ops (h := h) (fn := a.frame.fn) (pos := a.frame.place) hes (fun e he => MemAct.low_mono (by omega : B₁ ≤ B) (hB₁ e he))
  have hrt := runT_crowd_spawn (P := P) (sl := sl') ha (hgo d')
  have hpush : ((MemOp.ofEvents h a.frame.fn a.frame.place es).push { g := h, fn := a.frame.fn, pos := a.frame.place, act := .go gs.size } |>.push { g := gs.size, fn := child.frame.fn, pos := a.frame.place, act := .start }) =
      MemOp.ofEvents h a.frame.fn a.frame.place es ++ #[{ g := h, fn := a.frame.fn, pos := a.frame.place, act := .go gs.size }, { g := gs.size, fn := child.frame.fn, pos := a.frame.place, act := .start }] := by
    apply Array.ext'; simp
  rw [hpush] at hrt
  have p1 := C.past.own o1 o2 (o4 T₁ h) o3
  have hnone : V gs.size = none := hn _ (by omega)
  have p2 := p1.hireGive (c := gs.size) (by omega) (.inl rfl) (by rw [o4]; exact C.above _ (Nat.le_refl _)) (fun l ⟨u, e, _⟩ => by rw [hV] at e; cases e) (fun l ⟨u, e, _⟩ => by rw [hnone] at e; cases e) (S := fun l => ∃ v, new = some v ∧ v.S l) (fun l ⟨u, _, hl⟩ => Wait.S_mem hl) a.frame.fn a.frame.place child.frame.fn
  rw [Array.append_assoc] at p2
  have hD : ∀ x, Deaf (T₁ ++ (MemOp.ofEvents h a.frame.fn a.frame.place es ++ #[{ g := h, fn := a.frame.fn, pos := a.frame.place, act := .go gs.size }, { g := gs.size, fn := child.frame.fn, pos := a.frame.place, act := .start }])) x = Deaf T₁ x := fun x => by
    rw [← Array.append_assoc, Deaf_quiet (fun op hop d => by
      simp only [List.mem_toArray, List.mem_cons, List.not_mem_nil, or_false] at hop
      rcases hop with rfl | rfl <;> rfl), o4]
  have hnB := hB₂ B (by omega)
  have hdh : Deaf T₁ h = 0 := C.past.hears h (.inl rfl)
  have hVn : upd V h new gs.size = none := by rw [upd_ne _ _ (by omega)]; exact hnone
  refine .next (hst.trans hrt) (.now ⟨d', _, sl', upd q h nh, B, rfl, by simp [hsz], by rw [← hsz, Array.getElem?_push, if_pos (by simp)], by rw [← hsz]; exact hVn, ?_⟩)
  rw [← hsz]
  refine ⟨fun x y hx hy => ?_, fun x u _ e => ?_, fun _ _ z => z.elim, upd_inj hnew C.inj, fun x hx => by rw [hD]; exact C.above x (by simp at hx; omega), fun x u e => ?_, fun x u e => ?_, ?_⟩
  · have hxl : x < gs.size := by
      have := (Array.getElem?_eq_some_iff.1 hy).1
      simp at this; omega
    rw [Array.getElem?_push, if_neg (by simp; omega)] at hy
    by_cases ex : x = h
    · subst ex
      rw [Array.getElem?_setIfInBounds_self_of_lt hlth] at hy; cases hy
      rw [upd_same, upd_same]
      exact (hnB _ (by rw [hD]; exact hdh)).1
    · rw [Array.getElem?_setIfInBounds_ne (fun z => ex z.symm)] at hy
      rw [upd_ne q nh ex, upd_ne V new ex]
      have hid := C.idle x y ex hy
      revert hid
      cases V x with
      | none => exact fun hid => ⟨hid.1, by rw [hD]; exact hid.2⟩
      | some u => exact id
  · rcases upd_some e with ⟨_, z⟩ | ⟨_, z⟩
    · subst z; exact hnew.2.1
    · exact C.chan x u (fun z => z) z
  · rcases upd_some e with ⟨_, z⟩ | ⟨_, z⟩
    · exact (hnB T₁ hdh).2 u z
    · exact C.low x u z
  · rcases upd_some e with ⟨_, z⟩ | ⟨_, z⟩
    · subst z; exact hnew.1
    · exact C.stays x u z
  · refine p2.turn (fun _ _ _ z => z) (fun y b g _ _ _ hR => .inr ?_) (fun y b g hb hw hR => p2.wrote y b g hb hw ?_) (fun g hg => p2.hears g ?_)
    · rcases hR with ⟨rfl, u, z, hl⟩ | ⟨ng, _, u, z, hl⟩
      · exact ⟨u, by rw [upd_same]; exact z, hl⟩
      · exact ⟨u, by rw [upd_ne _ _ ng]; exact z, hl⟩
    · obtain ⟨u, z, hl⟩ := hR
      rcases upd_some z with ⟨e1, z⟩ | ⟨ng, z⟩
      · exact .inl ⟨e1, u, z, hl⟩
      · exact .inr ⟨ng, fun e => (by rw [e, hnone] at z; cases z), u, z, hl⟩
    · rcases hg with rfl | hg
      · exact .inr rfl
      · obtain ⟨u, z⟩ := Option.isSome_iff_exists.1 hg
        rcases upd_some z with ⟨e1, _⟩ | ⟨_, z⟩
        · exact .inl (.inl e1)
        · exact .inl (.inr (by rw [z]; rfl))
theorem at_begin {gs : Array Goroutine} {a : Goroutine} {sl : Option (Nat × Nat)} {q : Nat → Nat} {B : Nat} (h0 : gs[0]? = some a) (hL : Leavers P T gs q) (hP : Past (fun _ => False) B T) : At P (fun _ => none) 0 gs.size a w (crowd gs w sl) T :=
  ⟨gs, sl, q, B, rfl, rfl, h0, rfl, fun i g hi hg => ⟨by omega, hL.old i g (by omega) hg⟩, fun _ _ _ e => (by cases e), fun _ _ z => z.elim, fun _ _ _ _ e => (by cases e), hL.above, fun _ _ e => (by cases e), fun _ _ e => (by cases e),
    (PastR.ofPast hP).turn (fun _ _ _ z => z) (fun _ _ _ _ _ _ z => z.elim) (fun _ _ _ _ _ ⟨_, e, _⟩ => (by cases e)) (fun g hg => by
      rcases hg with rfl | hg
      · exact hP.hears
      · cases hg)⟩
theorem At.ends {a : Goroutine} {m : Machine} (A : At P V 0 n a w m T) (hV : ∀ i, V i = none) : ∃ gs sl q B, m = crowd gs w sl ∧ gs.size = n ∧ gs[0]? = some a ∧ Leavers P T gs q ∧ Past (fun _ => False) B T := by
  obtain ⟨gs, sl, q, B, rfl, hsz, ha, _, C⟩ := A
  refine ⟨gs, sl, q, B, rfl, hsz, ha, ⟨fun i g hi hg => ?_, C.above⟩, C.past.toPast (.inl rfl) fun g l ⟨u, e, _⟩ => by rw [hV] at e; cases e⟩
  have hid := C.idle i g (by omega) hg
  rw [hV] at hid
  exact hid.2
end
end
section
open Go.Conc Go.RowKit
open Go.ConcN (upd)
section
variable {P : Program} {main : Bool} {V : Nat → Option Wait} {Stop Stop' : Goroutine → World → Prop} {g : Goroutine} {w w' : World} {es : Array Event}
theorem DR.quiet (h : ∀ e ∈ es, EvR V e) : DR V w w es := ⟨fun _ _ _ => id, fun _ _ _ _ h _ => h, h, OsSame.refl _⟩
theorem osSame_set (w : World) (a : Addr) (x : Value) : OsSame w (w.setCell a x) := by
  unfold World.setCell
  exact ⟨rfl, rfl⟩
theorem DR.idle : DR V w w #[] := DR.quiet (by simp)
theorem evR_read (a : Addr) (s : Bool) : EvR V ⟨.cell a, false, s⟩ :=
  ⟨fun x hx hw => (by simp only [ofEvent_cell0, MemAct.touch?, Option.some.injEq] at hx; subst hx; cases hw), by simp, by simp⟩
def Free (V : Nat → Option Wait) (a : Addr) : Prop := ∀ i v, V i = some v → v.f a = none
theorem evR_write (a : Addr) (s : Bool) (h : Free V a) : EvR V ⟨.cell a, true, s⟩ := by
  refine ⟨fun x hx _ i => ?_, by simp, by simp⟩
  simp only [ofEvent_cell0, MemAct.touch?, Option.some.injEq] at hx
  subst hx
  rintro ⟨v, e, b, y, hb, hf⟩
  cases hb
  rw [h i v e] at hf; cases hf
theorem DR.set {a : Addr} {x y : Value} (hf : Free V a) (hc : w.cell? a = some y) (h : ∀ e ∈ es, EvR V e) : DR V w (w.setCell a x) es := by
  refine ⟨fun i v e hK b z hb => ?_, fun i v o e ho hi => ?_, h, osSame_set w a x⟩
  · rw [World.cell?_setCell_other _ _ _ _ (fun eq => by subst eq; rw [hf i v e] at hb; cases hb)]
    exact hK b z hb
  · by_cases hb : v.ch = a.block
    · exfalso
      unfold World.cell? at hc
      rw [← hb, ho] at hc
      cases o <;> simp_all [Obj.isChan]
    · rw [Below.heap_setCell _ _ _ _ (fun e => hb e)]; exact ho
theorem DR.alloc {o : Obj} : DR V w (w.alloc o) #[] := by
  refine ⟨fun i v e hK b z hb => ?_, fun i v o' e ho hi => ?_, by simp, ⟨rfl, rfl⟩⟩
  · have := hK b z hb
    rw [World.cell?_alloc_lt]
    · exact this
    · unfold World.cell? at this
      split at this
      · rename_i h; exact (Array.getElem?_eq_some_iff.1 h).1
      · cases this
  · rw [Below.heap_alloc _ _ _ (Array.getElem?_eq_some_iff.1 ho).1]; exact ho
theorem Walk.back {D : World → World → Array Event → Prop} (h : Walk P main D Stop g w) (d : Nat) : Walk P main D Stop g (w.at d) := by
  cases h with
  | stop h => exact .stop fun d' => h d'
  | step hr G W E hs hd hn => exact .step hr G W E hs hd hn
theorem Walk.go {D : World → World → Array Event → Prop} (hr : g.status = .running) (h : ∀ d, (stepG P main g (w.at d)).goes fun g' w' es => D (w.at d) w' es ∧ Walk P main D Stop g' w') : Walk P main D Stop g w := by
  have hx : ∀ d, ∃ g' w' es, stepG P main g (w.at d) = .go g' w' es ∧ D (w.at d) w' es ∧ Walk P main D Stop g' w' := fun d => by
    have := h d
    cases hs : stepG P main g (w.at d) with
    | go g' w' es => rw [hs, goes_go] at this; exact ⟨g', w', es, rfl, this.1, this.2⟩
    | _ => rw [hs] at this; exact this.elim
  exact .step hr (fun d => (hx d).choose) (fun d => (hx d).choose_spec.choose) (fun d => (hx d).choose_spec.choose_spec.choose) (fun d => (hx d).choose_spec.choose_spec.choose_spec.1) (fun d => (hx d).choose_spec.choose_spec.choose_spec.2.1)
    (fun d => (hx d).choose_spec.choose_spec.choose_spec.2.2)
theorem Walk.then {D : World → World → Array Event → Prop} (h : Walk P main D Stop g w) (hk : ∀ g w, Stop g w → Walk P main D Stop' g w) : Walk P main D Stop' g w := by
  induction h with
  | stop h => exact hk _ _ (h (World.drawn _))
  | step hr G W E hs hd _ ih => exact .step hr G W E hs hd ih
theorem Walk.mono {D : World → World → Array Event → Prop} (h : Walk P main D Stop g w) (hk : ∀ g w, Stop g w → Stop' g w) : Walk P main D Stop' g w := by
  induction h with
  | stop h => exact .stop fun d => hk _ _ (h d)
  | step hr G W E hs hd _ ih => exact .step hr G W E hs hd ih
theorem Walk.ctl {g' : Goroutine} (hr : g.status = .running) (hs : ∀ w, stepG P main g w = .go g' w) (h : Walk P main (DR V) Stop g' w) : Walk P main (DR V) Stop g w :=
  .step hr (fun _ => g') (fun d => w.at d) (fun _ => #[]) (fun _ => hs _) (fun _ => DR.idle) fun d => h.back d
variable {b : Frame} {a : Act} {k : List Item} {cs : List Frame} {ops : Array Oper} {i : Nat} {rest : List Nat} {o : Oper}
theorem Walk.opq (ho : ops[i]? = some o) (hw : Region.wanted o (yielded ops a.tmps) = true) (hk : b.kind ≠ .early)
    (he : ∀ d, ∀ e ∈ (execOp a.eval o).events P (w.at d) #[], EvR V e)
    (h : ∀ d, ∀ K : Act → World → Prop, (∀ a', Walk P main (DR V) Stop (G (b.at a' (.inRegion ops rest :: k)) cs) w → K a' (w.at d)) → uponK o a K ((execOp a.eval o).run P (w.at d))) :
    Walk P main (DR V) Stop (G (b.at a (.inRegion ops (i :: rest) :: k)) cs) w := by
  refine Walk.go rfl fun d => goes_oper_k ho hw hk fun K hK => ?_
  have h' := h d (fun a' w' => K a' w') fun a' hW => hK a' _ ⟨DR.quiet fun e hm => he d e (mem_listed hm), hW.back d⟩
  exact h'
theorem Walk.opw {W : World} (ho : ops[i]? = some o) (hw : Region.wanted o (yielded ops a.tmps) = true) (hk : b.kind ≠ .early)
    (he : ∀ d, ∀ e ∈ (execOp a.eval o).events P (w.at d) #[], EvR V e) (hd : ∀ d es, (∀ e ∈ es, EvR V e) → DR V (w.at d) (W.at d) es)
    (h : ∀ d, ∀ K : Act → World → Prop, (∀ a', Walk P main (DR V) Stop (G (b.at a' (.inRegion ops rest :: k)) cs) W → K a' (W.at d)) → uponK o a K ((execOp a.eval o).run P (w.at d))) :
    Walk P main (DR V) Stop (G (b.at a (.inRegion ops (i :: rest) :: k)) cs) w := by
  refine Walk.go rfl fun d => goes_oper_k ho hw hk fun K hK => ?_
  exact h d (fun a' w' => K a' w') fun a' hW => hK a' _ ⟨hd d _ fun e hm => he d e (mem_listed hm), hW.back d⟩
theorem DR.set' {a : Addr} {x y : Value} (hf : Free V a) (hc : w.cell? a = some y) (d : Nat) (es : Array Event) (h : ∀ e ∈ es, EvR V e) : DR V (w.at d) ((w.setCell a x).at d) es := DR.set (w := w.at d) hf hc h
theorem DR.alloc' {o : Obj} (d : Nat) (es : Array Event) (h : ∀ e ∈ es, EvR V e) : DR V (w.at d) ((w.alloc o).at d) es := by
  obtain ⟨h1, h2, _⟩ := (DR.alloc : DR V (w.at d) ((w.at d).alloc o) #[])
  exact ⟨h1, h2, h, ⟨rfl, rfl⟩⟩
theorem Walk.call {f : FuncId} {fn : Func} {c : Code} {args : Array Operand} {ats : Array TypeId} (ho : ops[i]? = some o) (hw : Region.wanted o (yielded ops a.tmps) = true) (hk : b.kind ≠ .early) (hop : o.op = .call { callee := .value (.func f), args, argTypes := ats })
    (hf : P.funcs[f]? = some fn) (hname : (fn.name == "runtime.NumGoroutine") = false) (hb : fn.body = some c)
    (h : Walk P main (DR V) Stop (G ((base f).at { tmps := args.map a.eval ++ Array.replicate (fn.ntmps - (args.map a.eval).size) undef, defers := [] } [.code c]) (b.at a (.inRegion ops (i :: rest) :: k) :: cs)) w) :
    Walk P main (DR V) Stop (G (b.at a (.inRegion ops (i :: rest) :: k)) cs) w :=
  Walk.go rfl fun d => goes_call ho hw hk hop hf hname hb ⟨DR.idle, h.back d⟩
def CallW (P : Program) (main : Bool) (V : Nat → Option Wait) (f : FuncId) (args : Array Value) (w : World) (Post : Value → World → Prop) : Prop :=
  ∀ (c : Frame) (cs : List Frame), Walk P main (DR V) (fun g w' => ∃ v, Post v w' ∧ g = G (c.finish v) cs) (G (Frame.enter P f args .normal) (c :: cs)) w
theorem Walk.callW {f : FuncId} {fn : Func} {args : Array Operand} {ats : Array TypeId} {Post : Value → World → Prop} (hc : CallW P main V f (args.map a.eval) w Post) (ho : ops[i]? = some o) (hw : Region.wanted o (yielded ops a.tmps) = true) (hk : b.kind ≠ .early) (hop : o.op = .call { callee := .value (.func f), args, argTypes := ats })
    (hf : P.funcs[f]? = some fn) (hname : (fn.name == "runtime.NumGoroutine") = false) (hb : fn.body.isNone = false)
    (h : ∀ v w', Post v w' → Walk P main (DR V) Stop (G (b.at (a.put o.dst v) (.inRegion ops rest :: k)) cs) w') :
    Walk P main (DR V) Stop (G (b.at a (.inRegion ops (i :: rest) :: k)) cs) w := by
  refine Walk.ctl (g' := G (Frame.enter P f (args.map a.eval) .normal) (b.at a (.inRegion ops (i :: rest) :: k) :: cs)) rfl (fun w => ?_) ((hc _ cs).then ?_)
  · rw [stepG_enter ho hw hk (run_call_body hop hf hname hb)]
    have : listed P b.fn a o w = #[] := by unfold listed; rw [events_call_body hop hf hname hb]; exact seen_none P _
    rw [this]
  · rintro g' w' ⟨v, hp, rfl⟩
    rw [Frame.finish_at, ho]
    exact h v w' hp
theorem termsR : Terms AtRel (DR V) := ⟨atRel_trans, fun _ => DR.idle⟩
theorem drawsR : LetsDraw (DR V) := fun w => (DR.quiet (by simp) : DR V w w #[])
theorem ownDraw (w : World) : AtRel w { w with drawn := w.drawn + 1 } := ⟨w.drawn + 1, rfl⟩
theorem Walk.code {c : Code} {n : Nat} {Q : Act → World → Prop} (h : c.wpC P main AtRel (DR V) b.fn n (fun e a' w' => e = .normal ∧ Q a' w') a w) (hk : b.kind ≠ .early)
    (hc : ∀ a' w', Q a' w' → Walk P main (DR V) Stop (G (b.at a' k) cs) w') : Walk P main (DR V) Stop (G (b.at a (.code c :: k)) cs) w := by
  refine Walk.of_goes (Stop := fun g w => Walk P main (DR V) Stop g w) (fun _ _ h => h) (wpC_goes (m := 0) h rfl hk fun e a' w' hq => ?_)
  obtain ⟨rfl, hQ⟩ := hq
  intro w₁ hr
  obtain ⟨d, rfl⟩ := hr
  exact (hc a' w' hQ).back d
theorem Walk.held {id : Nat} (S : World → Prop) (hrl : ∀ w₁ w₂, S w₁ → AtRel w₁ w₂ → S w₂) (hF : S w) (hm : P.follows .mixedOrders = true) (hk : b.kind ≠ .early) {Q : Act → Prop}
    (h : ∀ w₁, S w₁ → AnyCH P AtRel (DR V) b.fn .any ops (fun e a' w' => e = .normal ∧ S w' ∧ Q a') S ops.size (Array.replicate ops.size false) a w₁)
    (hc : ∀ a' w', S w' → Q a' → Walk P main (DR V) Stop (G (b.at a' k) cs) w') : Walk P main (DR V) Stop (G (b.at a (.code (.region id ops true) :: k)) cs) w :=
  Walk.code (n := ops.size + 1 + 1) (Q := fun a' w' => S w' ∧ Q a') (wpC_region_held termsR drawsR hm fun _ hr => h _ (hrl _ _ (hrl _ _ hF hr) (ownDraw _))) hk fun a' w' hq => hc a' w' hq.1 hq.2
def CallV (P : Program) (main : Bool) (V : Nat → Option Wait) (f : FuncId) (args : Array Value) (w : World) (x : Value) (W : World) : Prop := CallW P main V f args w fun v w' => v = x ∧ ∃ d, w' = W.at d
theorem Walk.callV {f : FuncId} {fn : Func} {args : Array Operand} {ats : Array TypeId} {x : Value} {W : World} (hc : CallV P main V f (args.map a.eval) w x W) (ho : ops[i]? = some o) (hw : Region.wanted o (yielded ops a.tmps) = true) (hk : b.kind ≠ .early) (hop : o.op = .call { callee := .value (.func f), args, argTypes := ats })
    (hf : P.funcs[f]? = some fn) (hname : (fn.name == "runtime.NumGoroutine") = false) (hb : fn.body.isNone = false) (h : Walk P main (DR V) Stop (G (b.at (a.put o.dst x) (.inRegion ops rest :: k)) cs) W) :
    Walk P main (DR V) Stop (G (b.at a (.inRegion ops (i :: rest) :: k)) cs) w :=
  Walk.callW hc ho hw hk hop hf hname hb fun v w' ⟨e, d, e'⟩ => by subst e; subst e'; exact h.back d
theorem callW_in {f : FuncId} {fn : Func} {c : Code} {args : Array Value} {Post : Value → World → Prop} (hf : P.funcs[f]? = some fn) (hb : fn.body = some c)
    (h : ∀ (fr : Frame) (cs : List Frame), Walk P main (DR V) (fun g w' => ∃ v, Post v w' ∧ g = G (fr.finish v) cs) (G ((base f).at { tmps := args ++ Array.replicate (fn.ntmps - args.size) undef, defers := [] } [.code c]) (fr :: cs)) w) : CallW P main V f args w Post := by
  intro fr cs
  rw [enter_at args hf hb]
  exact h fr cs
theorem Walk.ret1 {fn : Func} {todo : List Item} {c : Frame} {t : Tmp} {Post : Value → World → Prop} (hn : b.kind = .normal) (hd : a.defers = []) (hf : P.funcs[b.fn]? = some fn) (hr : fn.results = #[.tmp t]) (h : ∀ d, Post (a.tmps.getD t undef) (w.at d)) :
    Walk P main (DR V) (fun g w' => ∃ v, Post v w' ∧ g = G (c.finish v) cs) (G { b.at a todo with mode := .returning } (c :: cs)) w :=
  Walk.ctl rfl (fun w => stepG_leave hn hd hf (results_tmp hr _ P w) (events_results_tmp hr _ _)) (.stop fun d => ⟨_, h d, rfl⟩)
theorem Walk.ret0 {fn : Func} {todo : List Item} {c : Frame} {Post : Value → World → Prop} (hn : b.kind = .normal) (hd : a.defers = []) (hf : P.funcs[b.fn]? = some fn) (hr : fn.results = #[]) (h : ∀ d, Post (.tuple #[]) (w.at d)) :
    Walk P main (DR V) (fun g w' => ∃ v, Post v w' ∧ g = G (c.finish v) cs) (G { b.at a todo with mode := .returning } (c :: cs)) w :=
  Walk.ctl rfl (fun w => stepG_leave hn hd hf (results_none hr _ P w) (events_results_none hr _ _)) (.stop fun d => ⟨_, h d, rfl⟩)
end
def ctlNext (a : Act) : List Item → Option (List Item)
  | .code (.seq x y) :: k => some (.code x :: .code y :: k)
  | .code .skip :: k => some k
  | .code (.block id c) :: k => some (.code c :: .inBlock id :: k)
  | .code (.exit id) :: k => exitTo id k
  | .code (.cond c x y) :: k => match a.eval c with
    | .bool true => some (.code x :: k)
    | .bool false => some (.code y :: k)
    | _ => none
  | .inBlock _ :: k => some k
  | .inRegion _ [] :: k => some k
  | _ => none
section
variable {P : Program} {main : Bool} {V : Nat → Option Wait} {Stop : Goroutine → World → Prop} {w : World} {b : Frame} {a : Act} {k k' : List Item} {cs : List Frame} {ops : Array Oper} {id : Nat}
theorem ctl_next (h : ctlNext a k = some k') : stepG P main (G (b.at a k) cs) w = .go (G (b.at a k') cs) w := by
  unfold ctlNext at h
  split at h
  · cases h; exact stepG_seq
  · cases h; exact stepG_skip
  · cases h; exact stepG_block
  · exact stepG_exit h
  · split at h
    · next e => cases h; exact (stepG_cond e).trans (by simp)
    · next e => cases h; exact (stepG_cond e).trans (by simp)
    · cases h
  · cases h; exact stepG_inBlock
  · cases h; exact stepG_region_end
  · cases h
theorem Walk.c (h : ctlNext a k = some k') (hw : Walk P main (DR V) Stop (G (b.at a k') cs) w) : Walk P main (DR V) Stop (G (b.at a k) cs) w := Walk.ctl rfl (fun _ => ctl_next h) hw
theorem Walk.cReg (hw : Walk P main (DR V) Stop (G (b.at a (.inRegion ops (List.range ops.size) :: k)) cs) w) : Walk P main (DR V) Stop (G (b.at a (.code (.region id ops false) :: k)) cs) w := Walk.ctl rfl (fun _ => stepG_region) hw
theorem Walk.cRet (hw : Walk P main (DR V) Stop (G { b.at a (.code .ret :: k) with mode := .returning } cs) w) : Walk P main (DR V) Stop (G (b.at a (.code .ret :: k)) cs) w := Walk.ctl rfl (fun _ => stepG_ret') hw
theorem Walk.cEnd (hw : Walk P main (DR V) Stop (G { b.at a [] with mode := .returning } cs) w) : Walk P main (DR V) Stop (G (b.at a []) cs) w := Walk.ctl rfl (fun _ => stepG_end) hw
def rgA : List Nat → Code → Array Oper
  | 0 :: l, .seq a _ => rgA l a
  | _ :: l, .seq _ b => rgA l b
  | 0 :: l, .cond _ a _ => rgA l a
  | _ :: l, .cond _ _ b => rgA l b
  | _ :: l, .block _ a => rgA l a
  | _ :: l, .loop a => rgA l a
  | [], .region _ ops _ => ops
  | _, _ => #[]
def rg (c : Option Code) (l : List Nat) : Array Oper := match c with | some c => rgA l c | _ => #[]
theorem ez : (∀ (l : List Value), l.toArray.size = l.length) ∧ (∀ (a : Value) (l : List Value), (a :: l).length = l.length + 1) ∧ (([] : List Value).length = 0) ∧ (∀ (n : Nat) (a : Value), Array.replicate (n + 1) a = (Array.replicate n a).push a) ∧ (∀ (a : Value), Array.replicate 0 a = #[]) ∧ (∀ (l : List Value) (a : Value), l.toArray.push a = (l ++ [a]).toArray) ∧ (∀ (l m : List Value), l.toArray ++ m.toArray = (l ++ m).toArray) ∧ (∀ (l : List Value), [] ++ l = l) ∧ (∀ (a : Value) (l m : List Value), (a :: l) ++ m = a :: (l ++ m)) := by
  refine ⟨?_, ?_, ?_, ?_, ?_, ?_, ?_, ?_, ?_⟩ <;> intros <;> simp [Array.replicate_succ]
def ctlG (b : Frame) (a : Act) (k : List Item) (cs : List Frame) : Option Goroutine := match ctlNext a k with | some k' => some (G (b.at a k') cs) | none => match k with | .code .ret :: k => some (G { b.at a (.code .ret :: k) with mode := .returning } cs) | [] => some (G { b.at a [] with mode := .returning } cs) | _ => none
theorem Walk.cx {g : Goroutine} (hw : Walk P main (DR V) Stop g w) (h : ctlG b a k cs = some g := by rfl) : Walk P main (DR V) Stop (G (b.at a k) cs) w := by
  unfold ctlG at h
  split at h
  · rename_i k' e
    cases h
    exact Walk.c e hw
  · split at h
    · cases h
      exact Walk.cRet hw
    · cases h
      exact Walk.cEnd hw
    · cases h
end
def nth : List Oper → Nat → Oper
  | [], _ => { dst := none, op := .nilCheck (.tmp 0), type := 0, pos := "", after := #[], guard := none }
  | x :: _, 0 => x
  | _ :: l, n + 1 => nth l n
theorem ho_of {ops : Array Oper} {i : Nat} {o : Oper} (hn : nth ops.toList i = o) (hs : ops[i]? = some (nth ops.toList i)) : ops[i]? = some o := hs.trans (congrArg some hn)
section
variable {P : Program} {main : Bool} {V : Nat → Option Wait} {Stop : Goroutine → World → Prop} {w : World} {b : Frame} {a a' : Act} {k : List Item} {cs : List Frame} {ops : Array Oper} {i id : Nat} {rest l : List Nat} {o : Oper}
theorem Walk.oq (h : Walk P main (DR V) Stop (G (b.at a' (.inRegion ops rest :: k)) cs) w) (ho : ops[i]? = some o := by exact ho_of (by conv => lhs; whnf) (by kernel_rfl)) (hw : Region.wanted o (yielded ops a.tmps) = true := by rfl) (hk : b.kind ≠ .early := by decide)
    (he : ∀ d, ∀ e ∈ (execOp a.eval o).events P (w.at d) #[], EvR V e := by intro dd e he; simp [go_sem, *] at he; first | done | (subst he; exact evR_read _ _))
    (hr : ∀ d, ∀ K : Act → World → Prop, K a' (w.at d) → uponK o a K ((execOp a.eval o).run P (w.at d)) := by intro dd K hK; go_simp; exact hK) : Walk P main (DR V) Stop (G (b.at a (.inRegion ops (i :: rest) :: k)) cs) w :=
  Walk.opq ho hw hk he fun d K hK => hr d K (hK a' h)
theorem Walk.un (h : Walk P main (DR V) Stop (G (b.at (a.put o.dst undef) (.inRegion ops rest :: k)) cs) w) (ho : ops[i]? = some o := by exact ho_of (by conv => lhs; whnf) (by kernel_rfl)) (hw : Region.wanted o (yielded ops a.tmps) = false := by rfl) : Walk P main (DR V) Stop (G (b.at a (.inRegion ops (i :: rest) :: k)) cs) w :=
  Walk.ctl rfl (fun _ => stepG_unwanted ho hw) h
theorem Walk.oa {ob : Obj} (h : Walk P main (DR V) Stop (G (b.at a' (.inRegion ops rest :: k)) cs) (w.alloc ob)) (ho : ops[i]? = some o := by exact ho_of (by conv => lhs; whnf) (by kernel_rfl)) (hw : Region.wanted o (yielded ops a.tmps) = true := by rfl) (hk : b.kind ≠ .early := by decide)
    (he : ∀ d, ∀ e ∈ (execOp a.eval o).events P (w.at d) #[], EvR V e := by intro dd e he; simp [go_sem, *] at he; done)
    (hr : ∀ d, ∀ K : Act → World → Prop, K a' ((w.alloc ob).at d) → uponK o a K ((execOp a.eval o).run P (w.at d)) := by intro dd K hK; go_simp; simp only [alloc_at', setCell_at']; exact hK) : Walk P main (DR V) Stop (G (b.at a (.inRegion ops (i :: rest) :: k)) cs) w :=
  Walk.opw ho hw hk he (fun _ _ hes => DR.alloc' _ _ hes) fun d K hK => hr d K (hK a' h)
theorem Walk.os {A : Addr} {x y : Value} (hf : Free V A) (hc : w.cell? A = some y) (h : Walk P main (DR V) Stop (G (b.at a' (.inRegion ops rest :: k)) cs) (w.setCell A x)) (ho : ops[i]? = some o := by exact ho_of (by conv => lhs; whnf) (by kernel_rfl)) (hw : Region.wanted o (yielded ops a.tmps) = true := by rfl) (hk : b.kind ≠ .early := by decide)
    (he : ∀ d, ∀ e ∈ (execOp a.eval o).events P (w.at d) #[], EvR V e := by intro dd e he; simp [go_sem, storedEv, ev_store_bool, ev_store_int, ev_store_slice, ev_store_pointer, *] at he; subst he; exact evR_write _ _ (by assumption))
    (hr : ∀ d, ∀ K : Act → World → Prop, K a' ((w.setCell A x).at d) → uponK o a K ((execOp a.eval o).run P (w.at d)) := by intro dd K hK; go_simp; simp only [alloc_at', setCell_at']; exact hK) : Walk P main (DR V) Stop (G (b.at a (.inRegion ops (i :: rest) :: k)) cs) w :=
  Walk.opw ho hw hk he (fun _ _ hes => DR.set' hf hc _ _ hes) fun d K hK => hr d K (hK a' h)
theorem Walk.cR (h : Walk P main (DR V) Stop (G (b.at a (.inRegion ops l :: k)) cs) w) (hl : List.range ops.size = l := by (simp only [List.size_toArray, List.length_cons, List.length_nil, Nat.reduceAdd, Nat.zero_add, List.range, List.range.loop]; first | done | rfl)) : Walk P main (DR V) Stop (G (b.at a (.code (.region id ops false) :: k)) cs) w := Walk.cReg (hl ▸ h)
end
end
section
open Go.Conc Go.RowKit
section
variable {P : Program} (w : World)
theorem events_max_ints (ts : Array TypeId) (t : TypeId) (k k' : IntKind) (x y : Int) (es : Array Event) : (Builtin.max_ ts t #[.int k x, .int k' y]).events P w es = es := by
  simp [Builtin.max_, Builtin.max2]
theorem events_min_ints (ts : Array TypeId) (t : TypeId) (k k' : IntKind) (x y : Int) (es : Array Event) : (Builtin.min_ ts t #[.int k x, .int k' y]).events P w es = es := by
  simp [Builtin.min_, Builtin.min2]
theorem ev_store_bool (P : Program) (es : Array Event) (a : Addr) (x : Bool) (m : Mode) : (store a (.bool x) m).events P w es = storedEv P w es a (.bool x) m := events_store P w es a _ m rfl
theorem ev_store_int (P : Program) (es : Array Event) (a : Addr) (k : IntKind) (x : Int) (m : Mode) : (store a (.int k x) m).events P w es = storedEv P w es a (.int k x) m := events_store P w es a _ m rfl
theorem ev_store_slice (P : Program) (es : Array Event) (a : Addr) (b : Option Addr) (n c : Nat) (m : Mode) : (store a (.slice b n c) m).events P w es = storedEv P w es a (.slice b n c) m := events_store P w es a _ m rfl
theorem ev_store_pointer (P : Program) (es : Array Event) (a : Addr) (b : Option Addr) (m : Mode) : (store a (.pointer b) m).events P w es = storedEv P w es a (.pointer b) m := events_store P w es a _ m rfl
theorem cell_lt {a : Addr} {v : Value} (h : w.cell? a = some v) : a.block < w.heap.size := by
  unfold World.cell? at h
  split at h
  · rename_i h'; exact (Array.getElem?_eq_some_iff.1 h').1
  · cases h
theorem cell_alloc {a : Addr} {v : Value} (o : Obj) (h : w.cell? a = some v) : (w.alloc o).cell? a = some v := (World.cell?_alloc_lt _ _ _ (cell_lt w h)).trans h
theorem frozen_alloc {a : Addr} {v : Value} {x : Bool} (o : Obj) (h : w.cell? a = some v) (hz : w.frozen? a = x) : (w.alloc o).frozen? a = x := by
  have hlt := cell_lt w h
  rw [← hz]
  unfold World.frozen?
  rw [Below.heap_alloc _ _ _ hlt]
end
end
section
open Go.Conc Go.RowKit
section
variable {P : Program} {main : Bool} {V : Nat → Option Wait} {Stop : Goroutine → World → Prop} {w : World} {b fr c : Frame} {a : Act} {k : List Item} {cs : List Frame} {ops : Array Oper} {i : Nat} {rest : List Nat} {o : Oper}
theorem stepG_raise {x : Value} (ho : ops[i]? = some o) (hw : Region.wanted o (yielded ops a.tmps) = true) (hk : b.kind ≠ .early) (hr : (execOp a.eval o).run P w = .halt (.panic x) w) (he : (execOp a.eval o).events P w #[] = #[]) :
    stepG P main (G (b.at a (.inRegion ops (i :: rest) :: k)) cs) w = .go (G { b.at a (.inRegion ops (i :: rest) :: k) with mode := .panicking [{ v := x, recovered := false }] } cs) w := by
  have hk' : (b.kind == CallKind.early) = false := by simpa using hk
  rw [stepG_oper ho hw]
  simp [stepG.apply, hr, he, G, Frame.at, Frame.raise, hk', GStep.after, seen_none]
theorem stepG_pop {chain : List PanicEntry} (hm : fr.mode = .panicking chain) (hd : fr.defers = []) (hc : fr.catches P = false) : stepG P main (G fr (c :: cs)) w = .go (G (c.raise chain) cs) w := by
  simp [G, stepG, unwind, hm, hd, hc]
theorem stepG_deferred {d : Deferred} {ds : List Deferred} {f : FuncId} {fn : Func} {cap : Array Value} (hm : fr.mode ≠ .run) (hd : fr.defers = d :: ds) (ht : d.target = .fn (.func f) cap) (hf : P.funcs[f]? = some fn)
    (hname : (fn.name == "runtime.NumGoroutine") = false) (hb : fn.body.isNone = false) :
    stepG P main (G fr cs) w = .go (G (Frame.enter P f (d.args ++ cap) .deferred) ({ fr with defers := ds } :: cs)) w := by
  have h1 : ¬ fn.name = "runtime.NumGoroutine" := by simpa using hname
  have h2 : ¬ fn.body = none := by cases hx : fn.body <;> simp_all
  obtain ⟨t, ars⟩ := d
  subst ht
  have hs : stepG P main (G fr cs) w = unwind P main fr cs none w := by
    cases hmm : fr.mode <;> simp_all [G, stepG]
  rw [hs]
  simp [unwind, hd, callDeferred, invoke, callFunc, hf, h1, h2, GStep.after, seen_none, G]
theorem stepG_recover {v : Value} {older : List PanicEntry} {ats : Array TypeId} (ho : ops[i]? = some o) (hw : Region.wanted o (yielded ops a.tmps) = true) (hk : b.kind = .deferred) (hop : o.op = .call { callee := .builtin .recover, args := #[], argTypes := ats })
    (hc : c.mode = .panicking ({ v, recovered := false, goexit := false } :: older)) :
    stepG P main (G (b.at a (.inRegion ops (i :: rest) :: k)) (c :: cs)) w = .go (G (b.at (a.put o.dst v) (.inRegion ops rest :: k)) ({ c with mode := .panicking ({ v, recovered := true } :: older) } :: cs)) w := by
  have hrun : (execOp a.eval o).run P w = .ok .recover w := by
    unfold execOp
    simp [hop, resolve, invoke, builtin]
  have hev : (execOp a.eval o).events P w #[] = #[] := by
    unfold execOp
    simp [hop, resolve, invoke, builtin]
  have hfin : (b.at a (.inRegion ops (i :: rest) :: k)).finish v = b.at (a.put o.dst v) (.inRegion ops rest :: k) := by rw [Frame.finish_at, ho]; rfl
  rw [stepG_oper ho hw, ← hfin]
  simp [stepG.apply, hrun, hev, G, Frame.at, hk, GStep.after, seen_none, tryRecover, hc]
theorem stepG_recoverNone {ats : Array TypeId} (ho : ops[i]? = some o) (hw : Region.wanted o (yielded ops a.tmps) = true) (hk : b.kind = .deferred) (hop : o.op = .call { callee := .builtin .recover, args := #[], argTypes := ats })
    (hc : c.mode = .returning) :
    stepG P main (G (b.at a (.inRegion ops (i :: rest) :: k)) (c :: cs)) w = .go (G (b.at (a.put o.dst .nilIface) (.inRegion ops rest :: k)) (c :: cs)) w := by
  have hrun : (execOp a.eval o).run P w = .ok .recover w := by
    unfold execOp
    simp [hop, resolve, invoke, builtin]
  have hev : (execOp a.eval o).events P w #[] = #[] := by
    unfold execOp
    simp [hop, resolve, invoke, builtin]
  have hfin : (b.at a (.inRegion ops (i :: rest) :: k)).finish .nilIface = b.at (a.put o.dst .nilIface) (.inRegion ops rest :: k) := by rw [Frame.finish_at, ho]; rfl
  rw [stepG_oper ho hw, ← hfin]
  simp [stepG.apply, hrun, hev, G, Frame.at, hk, GStep.after, seen_none, tryRecover, hc]
theorem stepG_leaveRecovered {todo : List Item} {fn : Func} {v x : Value} (hn : b.kind = .deferred) (hd : a.defers = []) (hf : P.funcs[b.fn]? = some fn) (hr : (results fn a.tmps).run P w = .ok x w) (he : (results fn a.tmps).events P w #[] = #[])
    (hc : c.mode = .panicking [{ v, recovered := true }]) :
    stepG P main (G { b.at a todo with mode := .returning } (c :: cs)) w = .go (G { c with mode := .returning } cs) w := by
  simp [G, stepG, unwind, doReturn, Frame.at, hn, hd, hf, hr, he, hc, seen, GStep.after]
theorem stepG_leaveReturning {todo : List Item} {fn : Func} {x : Value} (hn : b.kind = .deferred) (hd : a.defers = []) (hf : P.funcs[b.fn]? = some fn) (hr : (results fn a.tmps).run P w = .ok x w) (he : (results fn a.tmps).events P w #[] = #[]) (hc : c.mode = .returning) :
    stepG P main (G { b.at a todo with mode := .returning } (c :: cs)) w = .go (G c cs) w := by
  simp [G, stepG, unwind, doReturn, Frame.at, hn, hd, hf, hr, he, hc, seen, GStep.after]
theorem stepG_deferClose {ds : List Deferred} {ats : Array TypeId} {t : TypeId} {cons : Array Bool} {ch : Nat} {kk : Nat} (hm : fr.mode = .returning) (hd : fr.defers = { target := .builtin .close ats t cons, args := #[.chan (some ch)] } :: ds)
    (hq : (P.funcs[fr.fn]?).any (·.norace) = false) (hc : w.heap[ch]? = some (.chan 0 #[] false kk kk false)) :
    stepG P main (G fr cs) w = .go (G { fr with defers := ds } cs) (w.setChan ch 0 #[] true kk kk false) (closeEvents ch) := by
  have hr : (invoke (.builtin .close ats t cons) #[.chan (some ch)]).run P w = .ok (.value (.tuple #[])) (w.setChan ch 0 #[] true kk kk false) := by
    simp [invoke, builtin, run_close_open _ _ hc, World.setChan]
  have he : (invoke (.builtin .close ats t cons) #[.chan (some ch)]).events P w #[] = closeEvents ch := by
    simp [invoke, builtin, events_close_open _ _ hc, closeEvents]
  have hs : seen P fr.fn (closeEvents ch) = closeEvents ch := seen_eq hq (by intro e he f; simp only [closeEvents, List.mem_toArray, List.mem_cons, List.not_mem_nil, or_false] at he; rcases he with rfl | rfl <;> simp)
  simp [G, stepG, unwind, hm, hd, callDeferred, hr, he, hs, GStep.after]
theorem stepG_deferOp {d : Deferred} (ho : ops[i]? = some o) (hw : Region.wanted o (yielded ops a.tmps) = true) (hk : b.kind ≠ .early) (hr : (execOp a.eval o).run P w = .ok (.defer d) w) (he : (execOp a.eval o).events P w #[] = #[]) :
    stepG P main (G (b.at a (.inRegion ops (i :: rest) :: k)) cs) w = .go (G (b.at (Act.put ⟨a.tmps, d :: a.defers⟩ o.dst undef) (.inRegion ops rest :: k)) cs) w #[] := by
  have hfin : (b.at ⟨a.tmps, d :: a.defers⟩ (.inRegion ops (i :: rest) :: k)).finish undef = b.at (Act.put ⟨a.tmps, d :: a.defers⟩ o.dst undef) (.inRegion ops rest :: k) := by rw [Frame.finish_at, ho]; rfl
  have hk' : (b.kind == CallKind.early) = false := by simpa using hk
  rw [stepG_oper ho hw, ← hfin]
  simp [stepG.apply, hr, he, G, Frame.at, hk', GStep.after, seen_none]
theorem stepG_callValue {f : FuncId} {fn : Func} {x : Operand} {args : Array Operand} {ats : Array TypeId} {first cap : Array Value} (ho : ops[i]? = some o) (hw : Region.wanted o (yielded ops a.tmps) = true) (hk : b.kind ≠ .early)
    (hop : o.op = .call { callee := .value x, args, argTypes := ats }) (hx : a.eval x = .func (.func f) first cap) (hf : P.funcs[f]? = some fn) (hname : (fn.name == "runtime.NumGoroutine") = false) (hb : fn.body.isNone = false) :
    stepG P main (G (b.at a (.inRegion ops (i :: rest) :: k)) cs) w = .go (G (Frame.enter P f (first ++ args.map a.eval ++ cap) .normal) (b.at a (.inRegion ops (i :: rest) :: k) :: cs)) w := by
  have h1 : ¬ fn.name = "runtime.NumGoroutine" := by simpa using hname
  have h2 : ¬ fn.body = none := by cases hx : fn.body <;> simp_all
  have hr : (execOp a.eval o).run P w = .ok (.enter f (first ++ args.map a.eval ++ cap)) w := by
    unfold execOp
    simp [hop, resolve, Deferred.ofValue, invoke, callFunc, hf, h1, h2, hx]
  have he : (execOp a.eval o).events P w #[] = #[] := by
    unfold execOp
    simp [hop, resolve, Deferred.ofValue, invoke, callFunc, hf, h1, h2, hx]
  rw [stepG_enter ho hw hk hr]
  have : listed P b.fn a o w = #[] := by unfold listed; rw [he]; exact seen_none P _
  rw [this]
theorem run_assert_same (t s : TypeId) (v : Value) {u : TypeDesc} (hu : P.underlying t = some u) (h : ∀ ms, u ≠ .interface ms) : (Instr.typeAssert (.iface t v) s t true).run P w = .ok (.tuple #[v, .bool true]) w := by
  cases u <;> first | (exact absurd rfl (h _)) | simp [Instr.typeAssert, run_underlying hu]
theorem run_assert_other (t t' s : TypeId) (v z : Value) {u : TypeDesc} (hu : P.underlying t = some u) (h : ∀ ms, u ≠ .interface ms) (ht : t' ≠ t) (hz : (zeroValue t).run P w = .ok z w) : (Instr.typeAssert (.iface t' v) s t true).run P w = .ok (.tuple #[z, .bool false]) w := by
  cases u <;> first | (exact absurd rfl (h _)) | simp [Instr.typeAssert, run_underlying hu, ht, hz]
theorem ev_assert_same (t s : TypeId) (v : Value) (es : Array Event) {u : TypeDesc} (hu : P.underlying t = some u) (h : ∀ ms, u ≠ .interface ms) : (Instr.typeAssert (.iface t v) s t true).events P w es = es := by
  cases u <;> first | (exact absurd rfl (h _)) | simp [Instr.typeAssert, run_underlying hu]
theorem ev_assert_other (t t' s : TypeId) (v : Value) (es : Array Event) {u : TypeDesc} (hu : P.underlying t = some u) (h : ∀ ms, u ≠ .interface ms) (ht : t' ≠ t) (hze : (zeroValue t).events P w es = es) : (Instr.typeAssert (.iface t' v) s t true).events P w es = es := by
  cases u <;> first | (exact absurd rfl (h _)) | simp [Instr.typeAssert, run_underlying hu, ht, hze]
theorem stepG_leaveF {fn : Func} {v : Value} (hm : fr.mode = .returning) (hn : fr.kind = .normal) (hd : fr.defers = []) (hf : P.funcs[fr.fn]? = some fn) (hr : (results fn fr.tmps).run P w = .ok v w) :
    stepG P main (G fr (c :: cs)) w = .go (G (c.finish v) cs) w (seen P fr.fn ((results fn fr.tmps).events P w #[])) := by
  simp [G, stepG, unwind, doReturn, hm, hn, hd, hf, hr, GStep.after]
theorem Walk.evs {g g' : Goroutine} (E : Nat → Array Event) (hr : g.status = .running) (hs : ∀ d, stepG P main g (w.at d) = .go g' (w.at d) (E d)) (he : ∀ d, ∀ e ∈ E d, EvR V e) (h : Walk P main (DR V) Stop g' w) : Walk P main (DR V) Stop g w :=
  .step hr (fun _ => g') (fun d => w.at d) E hs (fun d => DR.quiet (he d)) fun d => h.back d
theorem run_eqIn_func (d : Nat) (t : TypeId) (f : Fn) (x y : Array Value) {a b c} (hu : P.underlying t = some (.func a b c)) : (Op.equalIn (d + 1) t (.func f x y) .nilFunc).run P w = .ok false w := by simp [Op.equalIn, run_underlying hu]
theorem ev_eqIn_func (d : Nat) (t : TypeId) (f : Fn) (x y : Array Value) (es : Array Event) {a b c} (hu : P.underlying t = some (.func a b c)) : (Op.equalIn (d + 1) t (.func f x y) .nilFunc).events P w es = es := by simp [Op.equalIn, run_underlying hu]
theorem run_neq_func (t : TypeId) (f : Fn) (x y : Array Value) {a b c} (hu : P.underlying t = some (.func a b c)) : (binOp .neq t (.func f x y) .nilFunc).run P w = .ok (.bool true) w := by
  simp only [binOp]
  simp [Op.equal, Op.maxDepth, run_eqIn_func (w := w) 9999 t f x y hu]
theorem ev_neq_func (t : TypeId) (f : Fn) (x y : Array Value) (es : Array Event) {a b c} (hu : P.underlying t = some (.func a b c)) : (binOp .neq t (.func f x y) .nilFunc).events P w es = es := by
  simp only [binOp]
  simp [Op.equal, Op.maxDepth, run_eqIn_func (w := w) 9999 t f x y hu, ev_eqIn_func (w := w) 9999 t f x y es hu]
theorem run_eqIn_nilFunc (d : Nat) (t : TypeId)  {a b c} (hu : P.underlying t = some (.func a b c)) : (Op.equalIn (d + 1) t .nilFunc .nilFunc).run P w = .ok true w := by simp [Op.equalIn, run_underlying hu]
theorem ev_eqIn_nilFunc (d : Nat) (t : TypeId)  (es : Array Event) {a b c} (hu : P.underlying t = some (.func a b c)) : (Op.equalIn (d + 1) t .nilFunc .nilFunc).events P w es = es := by simp [Op.equalIn, run_underlying hu]
theorem run_neq_nilFunc (t : TypeId)  {a b c} (hu : P.underlying t = some (.func a b c)) : (binOp .neq t .nilFunc .nilFunc).run P w = .ok (.bool false) w := by
  simp only [binOp]
  simp [Op.equal, Op.maxDepth, run_eqIn_nilFunc (w := w) 9999 t  hu]
theorem ev_neq_nilFunc (t : TypeId)  (es : Array Event) {a b c} (hu : P.underlying t = some (.func a b c)) : (binOp .neq t .nilFunc .nilFunc).events P w es = es := by
  simp only [binOp]
  simp [Op.equal, Op.maxDepth, run_eqIn_nilFunc (w := w) 9999 t  hu, ev_eqIn_nilFunc (w := w) 9999 t  es hu]
theorem run_eqIn_iface (d : Nat) (t : TypeId) (s : TypeId) (x : Value) {ms} (hu : P.underlying t = some (.interface ms)) : (Op.equalIn (d + 1) t (.iface s x) .nilIface).run P w = .ok false w := by simp [Op.equalIn, run_underlying hu]
theorem ev_eqIn_iface (d : Nat) (t : TypeId) (s : TypeId) (x : Value) (es : Array Event) {ms} (hu : P.underlying t = some (.interface ms)) : (Op.equalIn (d + 1) t (.iface s x) .nilIface).events P w es = es := by simp [Op.equalIn, run_underlying hu]
theorem run_neq_iface (t : TypeId) (s : TypeId) (x : Value) {ms} (hu : P.underlying t = some (.interface ms)) : (binOp .neq t (.iface s x) .nilIface).run P w = .ok (.bool true) w := by
  simp only [binOp]
  simp [Op.equal, Op.maxDepth, run_eqIn_iface (w := w) 9999 t s x hu]
theorem ev_neq_iface (t : TypeId) (s : TypeId) (x : Value) (es : Array Event) {ms} (hu : P.underlying t = some (.interface ms)) : (binOp .neq t (.iface s x) .nilIface).events P w es = es := by
  simp only [binOp]
  simp [Op.equal, Op.maxDepth, run_eqIn_iface (w := w) 9999 t s x hu, ev_eqIn_iface (w := w) 9999 t s x es hu]
theorem run_eqIn_nilIface (d : Nat) (t : TypeId)  {ms} (hu : P.underlying t = some (.interface ms)) : (Op.equalIn (d + 1) t .nilIface .nilIface).run P w = .ok true w := by simp [Op.equalIn, run_underlying hu]
theorem ev_eqIn_nilIface (d : Nat) (t : TypeId)  (es : Array Event) {ms} (hu : P.underlying t = some (.interface ms)) : (Op.equalIn (d + 1) t .nilIface .nilIface).events P w es = es := by simp [Op.equalIn, run_underlying hu]
theorem run_neq_nilIface (t : TypeId)  {ms} (hu : P.underlying t = some (.interface ms)) : (binOp .neq t .nilIface .nilIface).run P w = .ok (.bool false) w := by
  simp only [binOp]
  simp [Op.equal, Op.maxDepth, run_eqIn_nilIface (w := w) 9999 t  hu]
theorem ev_neq_nilIface (t : TypeId)  (es : Array Event) {ms} (hu : P.underlying t = some (.interface ms)) : (binOp .neq t .nilIface .nilIface).events P w es = es := by
  simp only [binOp]
  simp [Op.equal, Op.maxDepth, run_eqIn_nilIface (w := w) 9999 t  hu, ev_eqIn_nilIface (w := w) 9999 t  es hu]
end
end
end Go.Relay
