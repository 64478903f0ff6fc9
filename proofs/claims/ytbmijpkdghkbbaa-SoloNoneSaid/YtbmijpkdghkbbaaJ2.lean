/- Part 2. -/
import Derived.Test.YtbmijpkdghkbbaaJ1
set_option linter.unusedSimpArgs false
set_option linter.unusedVariables false
set_option maxHeartbeats 8000000
set_option maxRecDepth 100000
namespace Go.Relay
section
open Go.Conc
open Go.ConcN (sumTo upd sumTo_upd upd_ne upd_same)
def Then (P : Program) (V : Nat → Option Wait) (h : Nat) (but : Nat → Prop) (g : Goroutine) (w : World) : Option Wait → Prop
  | none => 0 < h ∧ ∃ k, QuitsD P k 0 g
  | some v => v.K w ∧ (∃ k, w.heap[v.ch]? = some (.chan 0 #[] false k k false)) ∧ (∀ i u, ¬ but i → V i = some u → u.ch ≠ v.ch) ∧ ∃ B k, Waits P (h == 0) B v k g
theorem Then.low {P : Program} {V : Nat → Option Wait} {h : Nat} {but : Nat → Prop} {g : Goroutine} {w : World} {new : Option Wait} (H : Then P V h but g w new) :
    ∃ B k, ∀ B', B ≤ B' → ∀ T, Deaf T h = 0 → Idles P B' T h k g new ∧ ∀ v, new = some v → v.ch < B' := by
  cases new with
  | none =>
    obtain ⟨h0, k, hq⟩ := H
    exact ⟨0, k, fun B' _ T hT => ⟨⟨h0, by rw [hT]; exact hq⟩, fun v e => by cases e⟩⟩
  | some v =>
    obtain ⟨_, _, _, B, k, hW⟩ := H
    exact ⟨max B (v.ch + 1), k, fun B' hB T _ => ⟨hW.mono (by omega), fun v' e => by cases e; omega⟩⟩
section
variable {P : Program} {V : Nat → Option Wait} {T : Trace} {gs : Array Goroutine} {w : World} {q : Nat → Nat} {B h j n : Nat}
def after (V : Nat → Option Wait) (h j : Nat) (new : Option Wait) : Nat → Option Wait := upd (upd V h new) j none
theorem after_h {new : Option Wait} (hjh : j ≠ h) : after V h j new h = new := by unfold after; rw [upd_ne _ _ (Ne.symm hjh), upd_same]
theorem after_j {new : Option Wait} : after V h j new j = none := upd_same _ _ _
theorem after_o {new : Option Wait} {x : Nat} (hx : x ≠ h) (hxj : x ≠ j) : after V h j new x = V x := by unfold after; rw [upd_ne _ _ hxj, upd_ne _ _ hx]
theorem after_some {new : Option Wait} {x : Nat} {u : Wait} (e : after V h j new x = some u) : x ≠ j ∧ ((x = h ∧ new = some u) ∨ (x ≠ h ∧ V x = some u)) := by
  by_cases ej : x = j
  · subst ej; rw [after_j] at e; cases e
  · refine ⟨ej, ?_⟩
    by_cases eh : x = h
    · subst eh; rw [after_h (Ne.symm ej)] at e; exact .inl ⟨rfl, e⟩
    · rw [after_o eh ej] at e; exact .inr ⟨eh, e⟩
theorem after_inj {new : Option Wait} {g : Goroutine} (hT : Then P V h (· = j) g w new) (hinj : ∀ i i' v v', V i = some v → V i' = some v' → v.ch = v'.ch → i = i') :
    ∀ i i' v v', after V h j new i = some v → after V h j new i' = some v' → v.ch = v'.ch → i = i' := by
  intro i i' v v' e e' ec
  obtain ⟨n1, c1⟩ := after_some e
  obtain ⟨n2, c2⟩ := after_some e'
  rcases c1 with ⟨rfl, z1⟩ | ⟨_, z1⟩ <;> rcases c2 with ⟨rfl, z2⟩ | ⟨_, z2⟩
  · rfl
  · subst z1; exact absurd ec.symm (hT.2.2.1 i' v' n2 z2)
  · subst z2; exact absurd ec (hT.2.2.1 i v n1 z1)
  · exact hinj i i' v v' z1 z2 ec
theorem rsto_after {new : Option Wait} (g : Nat) (l : Loc) (hjh : j ≠ h) : RSof (after V h j new) g l ↔ RSto (RSof V) h j (fun l => ∃ v, new = some v ∧ v.S l) g l := by
  constructor
  · rintro ⟨v, e, hl⟩
    obtain ⟨nj, c⟩ := after_some e
    rcases c with ⟨rfl, z⟩ | ⟨nh, z⟩
    · exact .inl ⟨rfl, v, z, hl⟩
    · exact .inr ⟨nh, nj, v, z, hl⟩
  · rintro (⟨rfl, v, z, hl⟩ | ⟨nh, nj, v, z, hl⟩)
    · exact ⟨v, by rw [after_h hjh]; exact z, hl⟩
    · exact ⟨v, by rw [after_o nh nj]; exact z, hl⟩
theorem At.give {a a₂ : Goroutine} {m : Machine} (A : At P V h n a w m T) {v : Wait} (hjh : j ≠ h) (hjn : j < n) (hj : V j = some v) (hrun : a.status = .running) {x z' : Value} {es : Array Event}
    (hsend : ∀ d, stepG P (h == 0) a (w.at d) = .comm a₂ #[scase v.ch x z'] true .send (w.at d) es) (hes : ∀ e ∈ es, EvR V e) {new : Option Wait} (hnew : Then P V h (· = j) (Go.Conc.served a₂ undef) w new) :
    Comes P (fun m' T' => ∃ g₂ d k, v.home g₂ ∧ w.heap[v.ch]? = some (.chan 0 #[] false k k false) ∧ At P (after V h j new) j n (Go.Conc.served g₂ (recvd v.ok x true)) ((w.at d).setChan v.ch 0 #[] false (k + 1) (k + 1) false) m' T') m T := by
  obtain ⟨gs, sl, q, B₀, rfl, hsz, ha, hV, C₀⟩ := A
  obtain ⟨B₁, hB₁⟩ := low_all es
  obtain ⟨B₂, nh, hB₂⟩ := hnew.low
  have C₁ : Core P (max B₀ (max B₁ B₂)) (fun t => Knows t h) V (· = h) (fun _ => False) T gs w q := C₀.mono (Nat.le_max_left _ _)
  generalize hBB : max B₀ (max B₁ B₂) = B at C₁
  have hes' : ∀ e ∈ es, (MemAct.ofEvent e).low B := fun e he => MemAct.low_mono (by omega) (hB₁ e he)
  obtain ⟨k, hc⟩ := C₁.chan j v (fun z => z) hj
  have hcB := C₁.low j v hj
  have key : ∀ μ (gs : Array Goroutine) (d : Nat) (sl : Option (Nat × Nat)) (q : Nat → Nat) (T : Trace) (pk : Bool), sumTo gs.size q + (if pk then 0 else 1) = μ → gs.size = n → gs[h]? = some (if pk then parked a₂ #[scase v.ch x z'] .send else a) →
      (pk = true → 0 < q j) → Core P B (fun t => Knows t h) V (· = h) (fun _ => False) T gs (w.at d) q →
      Comes P (fun m' T' => ∃ g₂ d k, v.home g₂ ∧ w.heap[v.ch]? = some (.chan 0 #[] false k k false) ∧ At P (after V h j new) j n (Go.Conc.served g₂ (recvd v.ok x true)) ((w.at d).setChan v.ch 0 #[] false (k + 1) (k + 1) false) m' T') (crowd gs (w.at d) sl) T := by
    intro μ
    induction μ using Nat.strongRecOn with
    | _ μ ih =>
      intro gs d sl q T pk hμ hsz ha hpk C
      obtain ⟨gj, hgj⟩ : ∃ gj, gs[j]? = some gj := ⟨gs[j]'(by omega), Array.getElem?_eq_getElem (by omega)⟩
      have hlth : h < gs.size := (Array.getElem?_eq_some_iff.1 ha).1
      have hSj : Waits P (j == 0) B v (q j) gj := by have := C.idle j gj hjh hgj; rwa [hj] at this
      have hjst := Sits.status (C.stays j v hj) hSj
      have hsome : ∃ (i : Nat) (g : Goroutine), gs[i]? = some g ∧ g.status = .running := by
        cases pk with
        | false => exact ⟨h, a, ha, hrun⟩
        | true => exact ⟨j, gj, hgj, hjst.elim (·.1) (fun z => by have := hpk rfl; omega)⟩
      obtain ⟨i, g, d', sl', hi, hg, hst⟩ := crowd_pick (P := P) (w := w.at d) (sl := sl) (C.awake ha (by cases pk <;> simp [hrun, parked])) hsome
      rw [at_at'] at hst
      have Cd : Core P B (fun t => Knows t h) V (· = h) (fun _ => False) T gs (w.at d') q := C.at d'
      have hcd : (w.at d').heap[v.ch]? = some (.chan 0 #[] false k k false) := hc
      have fin : ∀ (gs' : Array Goroutine) (ops₀ : Array MemOp) (g₂ : Goroutine), gs'.size = gs.size → (∀ y, y ≠ h → y ≠ j → gs'[y]? = gs[y]?) → gs'[h]? = some (Go.Conc.served a₂ undef) → gs'[j]? = some (Go.Conc.served g₂ (recvd v.ok x true)) → v.home g₂ →
          PastR (RSof V) (fun g => g = h ∨ (V g).isSome = true) B (Knows (T ++ ops₀) h) (T ++ ops₀) → (∀ y, Deaf (T ++ ops₀) y = Deaf T y) →
          Comes P (fun m' T' => ∃ g₂ d k, v.home g₂ ∧ w.heap[v.ch]? = some (.chan 0 #[] false k k false) ∧ At P (after V h j new) j n (Go.Conc.served g₂ (recvd v.ok x true)) ((w.at d).setChan v.ch 0 #[] false (k + 1) (k + 1) false) m' T')
            (crowd gs' ((w.at d').setChan v.ch 0 #[] false (k + 1) (k + 1) false) sl') (T ++ (ops₀ ++ met h j a₂.frame.fn a₂.frame.place g₂.frame.fn g₂.frame.place v.ch k 0)) := by
        intro gs' ops₀ g₂ hsz' hoth hH hJ hhome p1 hD0
        have hD : ∀ y, Deaf (T ++ (ops₀ ++ met h j a₂.frame.fn a₂.frame.place g₂.frame.fn g₂.frame.place v.ch k 0)) y = Deaf T y := fun y => by rw [← Array.append_assoc, Deaf_quiet (met_quiet _ _ _ _ _ _ _ _ _ y), hD0]
        have p2 := p1.give hjh (.inl rfl) (.inr (by rw [hj]; rfl)) (fun l ⟨u, e, _⟩ => by rw [hV] at e; cases e) (S := fun l => ∃ v, new = some v ∧ v.S l) (fun l ⟨u, _, hl⟩ => Wait.S_mem hl) a₂.frame.fn a₂.frame.place g₂.frame.fn g₂.frame.place k 0 hcB
        rw [Array.append_assoc] at p2
        have hnB := hB₂ B (by omega)
        have hdh : Deaf T h = 0 := C.past.hears h (.inl rfl)
        refine .now ⟨g₂, d', k, hhome, hc, gs', sl', upd q h nh, B, rfl, hsz'.trans hsz, hJ, after_j, ?_⟩
        refine ⟨fun y gy hy hgy => ?_, fun y u _ e => ?_, fun _ _ z => z.elim, after_inj hnew C.inj, fun y hy => by rw [hD]; exact C.above y (by omega), fun y u e => ?_, fun y u e => ?_, ?_⟩
        · by_cases ey : y = h
          · subst ey
            rw [hH] at hgy; cases hgy
            rw [upd_same, after_h hjh]
            exact (hnB _ (by rw [hD]; exact hdh)).1
          · rw [hoth y ey hy] at hgy
            rw [upd_ne q nh ey, after_o ey hy]
            have hid := C.idle y gy ey hgy
            revert hid
            cases V y with
            | none => exact fun hid => ⟨hid.1, by rw [hD]; exact hid.2⟩
            | some u => exact id
        · obtain ⟨nj, c⟩ := after_some e
          by_cases ec : v.ch = u.ch
          · exact ⟨k + 1, by rw [← ec]; exact heap_setChan_self _ hcd _ _ _ _ _ _⟩
          · rw [heap_setChan_ne _ _ _ _ _ _ _ ec]
            rcases c with ⟨_, z⟩ | ⟨_, z⟩
            · subst z; exact hnew.2.1
            · exact C.chan y u (fun z => z) z
        · obtain ⟨_, c⟩ := after_some e
          rcases c with ⟨_, z⟩ | ⟨_, z⟩
          · exact (hnB T hdh).2 u z
          · exact C.low y u z
        · obtain ⟨_, c⟩ := after_some e
          refine Wait.K_setChan ?_ hcd _ _ _ _ _ _
          rcases c with ⟨_, z⟩ | ⟨_, z⟩
          · subst z; exact hnew.1
          · exact C.stays y u z
        · refine p2.turn (fun _ _ _ z => z) (fun i b g _ _ _ hR => .inr ((rsto_after g _ hjh).2 hR)) (fun i b g hb hw hR => p2.wrote i b g hb hw ((rsto_after g _ hjh).1 hR)) (fun g hg => p2.hears g ?_)
          rcases hg with rfl | hg
          · exact .inr (by rw [hj]; rfl)
          · obtain ⟨u, e⟩ := Option.isSome_iff_exists.1 hg
            obtain ⟨_, c⟩ := after_some e
            rcases c with ⟨z, _⟩ | ⟨_, z⟩
            · exact .inl z
            · exact .inr (by rw [z]; rfl)
      by_cases e : i = h
      ·
        subst e
        cases pk with
        | true => rw [ha] at hi; cases hi; cases hg
        | false =>
          obtain rfl : g = a := by rw [ha] at hi; exact (Option.some.inj hi).symm
          obtain ⟨h1, h2, h3, h4⟩ := evR_ops (h := i) (fn := g.frame.fn) (pos := g.frame.place) hes hes'
          have p1 := C.past.own h1 h2 (h4 T i) h3
          have hoff : ∀ (y : Nat) (gy : Goroutine), y ≠ j → (gs.setIfInBounds i ph)[y]? = some gy → offersAt gy v.ch false = [] := by
            intro y gy hyj hy
            rcases getElem?_stand gs i y gy hy with ⟨_, rfl⟩ | ⟨hx, hy'⟩
            · exact offersAt_ph _ _
            · exact Cd.noRecv hx hy' fun u hu hch => hyj (C.inj y j u v hu hj hch)
          rcases id hSj with hway | ⟨_, g₀, g₂, rfl, hat⟩
          · have hjr : gj.status = .running := hjst.elim (·.1) (fun z => by obtain ⟨k', _, hn', _⟩ := hway; omega)
            have hp : partners (gs.setIfInBounds i ph) v.ch false = [] := partners_nil fun y gy hy => by
              by_cases hyj : y = j
              · subst hyj
                rw [stand_get hjh hgj] at hy; cases hy
                exact offersAt_of_not_blocked (by rw [hjr]; simp) _ _
              · exact hoff y gy hyj hy
            have hw : ∀ cc ∈ #[scase v.ch x z'], NoWays (w.at d') (gs.setIfInBounds i ph) cc := by
              intro cc hcc
              have : cc = scase v.ch x z' := by simpa using hcc
              subst this
              exact ways_send_none hcd (Nat.le_refl _) hp
            refine .next (hst.trans (crowd_waits (sl := sl') hi (hsend d') hw)) (ih (sumTo gs.size q + 0) (by simp at hμ; omega) _ d' sl' q _ true (by simp) (by simpa using hsz) (Array.getElem?_setIfInBounds_self_of_lt hlth) (fun _ => by obtain ⟨k', _, hn', _⟩ := hway; omega) ?_)
            refine ⟨fun y gy hy hgy => ?_, Cd.chan, fun _ _ z => z.elim, C.inj, fun y hy => by rw [h4]; exact C.above y (by simpa using hy), C.low, Cd.stays, p1⟩
            rw [Array.getElem?_setIfInBounds_ne (fun z => hy z.symm)] at hgy
            have hid := C.idle y gy hy hgy
            revert hid
            cases V y with
            | none => exact fun hid => ⟨hid.1, by rw [h4]; exact hid.2⟩
            | some u => exact id
          · have hp : partners (gs.setIfInBounds i ph) v.ch false = [(j, 0)] := by
              rw [partners_one (stand_get hjh hgj) fun y gy hyj hy => hoff y gy hyj hy]
              have := offersAt_parked_recv g₂ v.ch v.z (.recv v.ok) v.ch
              rw [if_pos rfl] at this
              exact congrArg (List.map fun k => (j, k)) this
            refine .next (hst.trans (crowd_send_meets (sl := sl') hi (hsend d') hcd hjh hgj hp)) (fin _ _ g₂ (by simp) (fun y hy hyj => by rw [Array.getElem?_setIfInBounds_ne (fun z => hy z.symm), Array.getElem?_setIfInBounds_ne (fun z => hyj z.symm)]) (Array.getElem?_setIfInBounds_self_of_lt (by simpa using hlth))
              (by rw [Array.getElem?_setIfInBounds_ne (fun z => hjh z.symm), Array.getElem?_setIfInBounds_self_of_lt (by omega)]; exact congrArg some (finishComm_recv P g₂ _ v.ok 0 x true)) hat.2.2.2.2.1 p1 (h4 T))
      · by_cases ej : i = j ∧ pk = true ∧ ∃ g₂, AtIn P (i == 0) v.K v.S B v.seat g g₂
        ·
          obtain ⟨rfl, rfl, g₂, hat⟩ := ej
          obtain ⟨_, _, _, _, hhome, esj, hesj, hstp⟩ := hat
          obtain ⟨hops, hr, hl, hd⟩ := evC_ops (i := i) (fn := g.frame.fn) (pos := g.frame.place) hesj
          have hp : partners (gs.setIfInBounds i ph) v.ch true = [(h, 0)] := by
            rw [partners_one (stand_get (Ne.symm hjh) ha) fun y gy hyh hy => by
              rcases getElem?_stand gs i y gy hy with ⟨_, rfl⟩ | ⟨_, hy'⟩
              · exact offersAt_ph _ _
              · exact Cd.noSend hyh hy' _]
            simp [offersAt_parked_send]
          have hD1 : ∀ y, Deaf (T ++ MemOp.ofEvents i g.frame.fn g.frame.place esj) y = Deaf T y := fun y => by
            by_cases ey : y = i
            · subst ey; exact hd T
            · exact Deaf_other T (fun z => ey z.symm) _ hops
          refine .next (hst.trans (crowd_recv_meets (sl := sl') hi (hstp _ (Cd.stays i v hj)) hcd (Ne.symm hjh) ha hp)) (fin _ _ g₂ (by simp) (fun y hy hyj => by rw [Array.getElem?_setIfInBounds_ne (fun z => hyj z.symm), Array.getElem?_setIfInBounds_ne (fun z => hy z.symm)])
            (by rw [Array.getElem?_setIfInBounds_ne hjh, Array.getElem?_setIfInBounds_self_of_lt hlth, finishComm_send]) (by rw [Array.getElem?_setIfInBounds_self_of_lt (by simp; omega)]; exact congrArg some (finishComm_recv P g₂ _ v.ok 0 x true)) hhome
            (C.past.reads (fun _ => Knows.app _) hops (fun op hop b hb => ⟨(hr op hop b hb).1, v, hj, (hr op hop b hb).2⟩) (hd T) hl) hD1)
        ·
          obtain ⟨gs', ops, q', hrt, hsz', hsp, hqo, hq0, C', hlt⟩ := Cd.byStep (sl := sl') (fun t u i => Knows.app u) hi e hg
            (fun y gy hy hgy => by
              subst hy; rw [ha] at hgy; cases hgy
              cases pk with
              | false => exact again_of_running (.inl hrun) _
              | true => exact again_send_open hcd) (fun z => z.elim)
            (fun u g₂ hu hat => ⟨fun z => z, fun y gy hy hgy => by
              subst hy; rw [ha] at hgy; cases hgy
              cases pk with
              | false => exact offersAt_of_not_blocked (by simp [hrun]) _ _
              | true =>
                simp only [if_true]
                rw [offersAt_parked_send, if_neg]
                intro ec
                have hij : i = j := C.inj i j u v hu hj ec.symm
                subst hij
                rw [hj] at hu; cases hu
                exact ej ⟨rfl, rfl, g₂, hat⟩⟩)
          refine .next (hst.trans hrt) (ih _ (by rw [hsz']; omega) gs' d' sl' q' _ pk rfl (by omega) (by rw [hsp h rfl]; exact ha) (fun hp => ?_) C')
          subst hp
          by_cases hij : j = i
          · subst hij
            rcases Nat.eq_zero_or_pos (q' j) with h0 | h0
            · obtain ⟨g₂, hat⟩ := hq0 v hj h0
              exact absurd ⟨rfl, rfl, g₂, hat⟩ ej
            · exact h0
          · rw [hqo j hij]; exact hpk rfl
  exact key _ gs w.drawn sl q T false rfl hsz ha (fun z => by cases z) C₁
end
end
section
open Go.Conc
open Go.ConcN (sumTo upd sumTo_upd upd_ne upd_same)
section
variable {P : Program} {V : Nat → Option Wait} {T : Trace} {w : World} {h j n : Nat}
theorem upd_some {new : Option Wait} {x : Nat} {u : Wait} (e : upd V h new x = some u) : (x = h ∧ new = some u) ∨ (x ≠ h ∧ V x = some u) := by
  by_cases eh : x = h
  · subst eh; rw [upd_same] at e; exact .inl ⟨rfl, e⟩
  · rw [upd_ne _ _ eh] at e; exact .inr ⟨eh, e⟩
theorem upd_inj {new : Option Wait} {g : Goroutine} (hT : Then P V h (fun _ => False) g w new) (hinj : ∀ i i' v v', V i = some v → V i' = some v' → v.ch = v'.ch → i = i') :
    ∀ i i' v v', upd V h new i = some v → upd V h new i' = some v' → v.ch = v'.ch → i = i' := by
  intro i i' v v' e e' ec
  rcases upd_some e with ⟨rfl, z1⟩ | ⟨_, z1⟩ <;> rcases upd_some e' with ⟨rfl, z2⟩ | ⟨_, z2⟩
  · rfl
  · subst z1; exact absurd ec.symm (hT.2.2.1 i' v' (fun z => z) z2)
  · subst z2; exact absurd ec (hT.2.2.1 i v (fun z => z) z1)
  · exact hinj i i' v v' z1 z2 ec
theorem Waits.closed {B : Nat} {v : Wait} {k : Nat} {g : Goroutine} {W : World} {main : Bool} (hK : v.K W) (hc : W.heap[v.ch]? = some (.chan 0 #[] true k k false)) {q : Nat} (h : Waits P main B v q g) :
    ∃ q', Waits P main B v q' (g.again W) ∧ (g.again W).status = .running := by
  rcases h with hway | ⟨_, g₀, g₂, rfl, hat⟩
  · have hr : g.status = .running := (Sits.status hK (.inl hway)).elim (·.1) (fun z => by obtain ⟨k', _, hn', _⟩ := hway; omega)
    rw [again_of_running (.inl hr)]
    exact ⟨q, .inl hway, hr⟩
  · have e : (parked g₂ v.seat.cases v.seat.shape).again W = { parked g₂ v.seat.cases v.seat.shape with status := .running } := again_recv_closed (g := g₂) (z := v.z) (sh := .recv v.ok) hc
    rw [e]
    exact ⟨1, .inl ⟨0, W, rfl, fun _ _ => ⟨g₂, hat.tries _ _⟩⟩, rfl⟩
theorem At.shut {a a' : Goroutine} {m : Machine} (A : At P V h n a w m T) {v : Wait} (hjh : j ≠ h) (hjn : j < n) (hj : V j = some v) (hrun : a.status = .running) (hwake : mayWake P a = true) (ha' : a'.status = .running)
    (hclose : ∀ d k, w.heap[v.ch]? = some (.chan 0 #[] false k k false) → stepG P (h == 0) a (w.at d) = .go a' ((w.at d).setChan v.ch 0 #[] true k k false) (closeEvents v.ch)) {new : Option Wait} (hnew : Then P V h (fun _ => False) a' w new) :
    Comes P (fun m' T' => ∃ g₂ d k, v.home g₂ ∧ At P (after V h j new) j n (Go.Conc.served g₂ (recvd v.ok v.z false)) ((w.at d).setChan v.ch 0 #[] true k k false) m' T') m T := by
  refine (A.picked hrun).bind ?_
  rintro m₁ T₁ ⟨gs, sl, sl', q, B₀, d, d', rfl, hst, hsz, ha, hV, C₀⟩
  obtain ⟨B₂, nh, hB₂⟩ := hnew.low
  have C : Core P (max B₀ B₂) (fun t => Knows t h) V (· = h) (fun _ => False) T₁ gs (w.at d') q := C₀.mono (Nat.le_max_left _ _)
  generalize hBB : max B₀ B₂ = B at C
  obtain ⟨k, hc⟩ := C.chan j v (fun z => z) hj
  have hcB := C.low j v hj
  have hlth : h < gs.size := (Array.getElem?_eq_some_iff.1 ha).1
  obtain ⟨gj, hgj⟩ : ∃ gj, gs[j]? = some gj := ⟨gs[j]'(by omega), Array.getElem?_eq_getElem (by omega)⟩
  have hSj : Waits P (j == 0) B v (q j) gj := by have := C.idle j gj hjh hgj; rwa [hj] at this
  have hrt := runT_crowd_go (P := P) (sl := sl') ha (hclose d' k hc)
  generalize hW : (w.at d').setChan v.ch 0 #[] true k k false = W at hrt
  have hcW : W.heap[v.ch]? = some (.chan 0 #[] true k k false) := by rw [← hW]; exact heap_setChan_self (w.at d') hc _ _ _ _ _ _
  have hKW : ∀ u : Wait, u.K w → u.K W := fun u hu => by rw [← hW]; exact Wait.K_setChan (w := w.at d') hu hc _ _ _ _ _ _
  have hother : ∀ u : Wait, u.ch ≠ v.ch → (∃ k, w.heap[u.ch]? = some (.chan 0 #[] false k k false)) → ∃ k, W.heap[u.ch]? = some (.chan 0 #[] false k k false) := fun u hne ⟨k', hk'⟩ => ⟨k', by rw [← hW, heap_setChan_ne _ _ _ _ _ _ _ (fun e => hne e.symm)]; exact hk'⟩
  have hwk : ∀ y, woken P a a' W y = y.again W := by intro y; simp [woken, hwake, ha']
  obtain ⟨qj, hSj', hjr⟩ := hSj.closed (hKW v (C.stays j v hj)) hcW
  have hcl : ∀ e ∈ closeEvents v.ch, EvR V e := by
    intro e he
    simp only [closeEvents, List.mem_toArray, List.mem_cons, List.not_mem_nil, or_false] at he
    rcases he with rfl | rfl
    · exact ⟨fun x hx hw => (by simp only [MemAct.ofEvent, MemAct.touch?, Option.some.injEq] at hx; subst hx; cases hw), by simp, by simp⟩
    · exact ⟨fun x hx => by simp [MemAct.ofEvent, MemAct.touch?] at hx, by simp, by simp⟩
  have hcll : ∀ e ∈ closeEvents v.ch, (MemAct.ofEvent e).low B := by
    intro e he
    simp only [closeEvents, List.mem_toArray, List.mem_cons, List.not_mem_nil, or_false] at he
    rcases he with rfl | rfl <;> exact hcB
  obtain ⟨o1, o2, o3, o4⟩ := evR_ops (h := h) (fn := a.frame.fn) (pos := a.frame.place) hcl hcll
  have p1 := C.past.own o1 o2 (o4 T₁ h) o3
  have hm : (T₁ ++ MemOp.ofEvents h a.frame.fn a.frame.place (closeEvents v.ch))[T₁.size + 1]? = some { g := h, fn := a.frame.fn, pos := a.frame.place, act := .close v.ch } := by rw [at_new, closeOps]; rfl
  have p2 := p1.shut hm rfl (by rw [closeOps]; simp) (fun l ⟨u, e, _⟩ => by rw [hV] at e; cases e) (S := fun l => ∃ v, new = some v ∧ v.S l) (fun l ⟨u, _, hl⟩ => Wait.S_mem hl)
  have hca : ClosedAt v.ch (T₁.size + 1) (T₁ ++ MemOp.ofEvents h a.frame.fn a.frame.place (closeEvents v.ch)) := by
    refine ⟨act?_of hm, h, g?_of hm, ?_⟩
    rw [deaf_quiet (fun op hop dd => by
      rw [closeOps] at hop
      simp only [List.mem_toArray, List.mem_cons, List.not_mem_nil, or_false] at hop
      rcases hop with rfl | rfl <;> rfl) 1 (by rw [closeOps]; simp)]
    exact C.past.hears h (.inl rfl)
  have hnB := hB₂ B (by omega)
  have hdh : Deaf T₁ h = 0 := C.past.hears h (.inl rfl)
  have Cl : Core P B (fun t i => Before t i (T₁.size + 1)) (upd V h new) (fun _ => False) (· = j) (T₁ ++ MemOp.ofEvents h a.frame.fn a.frame.place (closeEvents v.ch)) ((gs.map (woken P a a' W)).setIfInBounds h a') W (upd (upd q h nh) j qj) := by
    refine ⟨fun x y _ hy => ?_, fun x u hx e => ?_, fun x y hx hy => ?_, upd_inj hnew C.inj, fun x hx => by rw [o4]; exact C.above x (by simpa using hx), fun x u e => ?_, fun x u e => ?_, ?_⟩
    · by_cases ex : x = h
      · subst ex
        rw [Array.getElem?_setIfInBounds_self_of_lt (by simpa using hlth)] at hy; cases hy
        rw [upd_ne _ qj (Ne.symm hjh), upd_same, upd_same]
        exact (hnB _ (by rw [o4]; exact hdh)).1
      · rw [Array.getElem?_setIfInBounds_ne (fun z => ex z.symm), Array.getElem?_map] at hy
        obtain ⟨y₀, hy₀, rfl⟩ := Option.map_eq_some_iff.1 hy
        rw [upd_ne V new ex, hwk]
        by_cases exj : x = j
        · subst exj
          rw [hgj] at hy₀; cases hy₀
          rw [upd_same, hj]
          exact hSj'
        · rw [upd_ne _ qj exj, upd_ne q nh ex]
          have hid := C.idle x y₀ ex hy₀
          cases e : V x with
          | none =>
            rw [e] at hid
            rw [again_of_running hid.2.status]
            exact ⟨hid.1, by rw [o4]; exact hid.2⟩
          | some u =>
            rw [e] at hid
            obtain ⟨k', hk'⟩ := hother u (fun ec => exj (C.inj x j u v e hj ec)) (C.chan x u (fun z => z) e)
            rw [Sits.again (hKW u (C.stays x u e)) hid (Seat.one_wf _ _ _ _) fun c hc => by rw [Seat.one_has.1 hc]; exact ⟨_, _, _, _, _, hk'⟩]
            exact hid
    · rcases upd_some e with ⟨_, z⟩ | ⟨hxh, z⟩
      · subst z; exact hother u (fun ec => hnew.2.2.1 j v (fun z => z) hj ec.symm) hnew.2.1
      · exact hother u (fun ec => hx (C.inj x j u v z hj ec)) (C.chan x u (fun z => z) z)
    · subst hx
      rw [Array.getElem?_setIfInBounds_ne (fun z => hjh z.symm), Array.getElem?_map, hgj] at hy
      cases hy
      rw [hwk]; exact hjr
    · rcases upd_some e with ⟨_, z⟩ | ⟨_, z⟩
      · exact (hnB T₁ hdh).2 u z
      · exact C.low x u z
    · rcases upd_some e with ⟨_, z⟩ | ⟨_, z⟩
      · subst z; exact hKW u hnew.1
      · exact hKW u (C.stays x u z)
    · refine p2.turn (fun _ _ _ z => z) (fun i b g _ _ _ hR => .inr ?_) (fun i b g hb hw hR => p2.wrote i b g hb hw ?_) (fun g hg => p2.hears g ?_)
      · rcases hR with ⟨rfl, u, z, hl⟩ | ⟨u, z, hl⟩
        · exact ⟨u, by rw [upd_same]; exact z, hl⟩
        · refine ⟨u, ?_, hl⟩
          by_cases eg : g = h
          · subst eg; rw [hV] at z; cases z
          · rw [upd_ne _ _ eg]; exact z
      · obtain ⟨u, z, hl⟩ := hR
        rcases upd_some z with ⟨e1, z⟩ | ⟨_, z⟩
        · exact .inl ⟨e1, u, z, hl⟩
        · exact .inr ⟨u, z, hl⟩
      · rcases hg with hg | hg
        · exact hg.elim
        · obtain ⟨u, z⟩ := Option.isSome_iff_exists.1 hg
          rcases upd_some z with ⟨e1, _⟩ | ⟨_, z⟩
          · exact .inl e1
          · exact .inr (by rw [z]; rfl)
  have hVj : upd V h new j = some v := by rw [upd_ne _ _ hjh]; exact hj
  have key : ∀ μ (gs : Array Goroutine) (d : Nat) (sl : Option (Nat × Nat)) (q : Nat → Nat) (T : Trace), sumTo gs.size q = μ → gs.size = n → Core P B (fun t i => Before t i (T₁.size + 1)) (upd V h new) (fun _ => False) (· = j) T gs (W.at d) q → ClosedAt v.ch (T₁.size + 1) T →
      Comes P (fun m' T' => ∃ g₂ d k, v.home g₂ ∧ At P (after V h j new) j n (Go.Conc.served g₂ (recvd v.ok v.z false)) ((w.at d).setChan v.ch 0 #[] true k k false) m' T') (crowd gs (W.at d) sl) T := by
    intro μ
    induction μ using Nat.strongRecOn with
    | _ μ ih =>
      intro gs d sl q T hμ hsz C ca
      obtain ⟨gj, hgj⟩ : ∃ gj, gs[j]? = some gj := ⟨gs[j]'(by omega), Array.getElem?_eq_getElem (by omega)⟩
      have haw : ∀ g ∈ gs, Go.Conc.awake g := by
        intro g hg
        obtain ⟨i, hi, rfl⟩ := Array.mem_iff_getElem.1 hg
        exact awake_of (C.status (fun z => z) (Array.getElem?_eq_getElem hi))
      obtain ⟨i, g, d', sl', hi, hg, hst⟩ := crowd_pick (P := P) (w := W.at d) (sl := sl) haw ⟨j, gj, hgj, C.live j gj rfl hgj⟩
      rw [at_at'] at hst
      have Cd : Core P B (fun t i => Before t i (T₁.size + 1)) (upd V h new) (fun _ => False) (· = j) T gs (W.at d') q := C.at d'
      by_cases ej : i = j ∧ ∃ g₂, AtIn P (i == 0) v.K v.S B v.seat g g₂
      · obtain ⟨rfl, g₂, _, _, _, _, hhome, esj, hesj, hstp⟩ := ej
        obtain ⟨hops, hr, hl, hd⟩ := evC_ops (i := i) (fn := g.frame.fn) (pos := g.frame.place) hesj
        have hp : partners (gs.setIfInBounds i ph) v.ch true = [] := partners_nil fun x y hy => by
          rcases getElem?_stand gs i x y hy with ⟨_, rfl⟩ | ⟨_, hy'⟩
          · exact offersAt_ph _ _
          · exact Cd.noSend (fun z => z) hy' _
        have hD : ∀ y, Deaf (T ++ (MemOp.ofEvents i g.frame.fn g.frame.place esj ++ #[{ g := i, fn := g₂.frame.fn, pos := g₂.frame.place, act := .recvClosed v.ch }])) y = Deaf T y := fun y => by
          rw [← Array.append_assoc, Deaf_quiet (fun op hop dd => by
            have : op = { g := i, fn := g₂.frame.fn, pos := g₂.frame.place, act := .recvClosed v.ch } := by simpa using hop
            subst this; rfl)]
          by_cases ey : y = i
          · subst ey; exact hd T
          · exact Deaf_other T (fun z => ey z.symm) _ hops
        have p3 := (C.past.reads (K' := fun k => Before (T ++ MemOp.ofEvents i g.frame.fn g.frame.place esj) k (T₁.size + 1)) (fun _ => Before.app _) hops (fun op hop b hb => ⟨(hr op hop b hb).1, v, hVj, (hr op hop b hb).2⟩) (hd T) hl).take (ca.app _) (.inr (by rw [hVj]; rfl)) g₂.frame.fn g₂.frame.place (C.low i v hVj)
        rw [Array.append_assoc] at p3
        refine .next (hst.trans (crowd_recv_closed (sl := sl') hi (hstp _ (Cd.stays i v hVj)) hcW hp)) (.now ⟨g₂, d', k, hhome, gs.setIfInBounds i (g₂.finishComm P #[rcase v.ch v.z] (.recv v.ok) 0 v.z false), sl', q, B, by rw [← hW]; rfl, by simpa using hsz, by rw [Array.getElem?_setIfInBounds_self_of_lt (by omega)]; exact congrArg some (finishComm_recv P g₂ _ v.ok 0 v.z false), after_j, ?_⟩)
        have hsub : ∀ x u, after V h i new x = some u → x ≠ i ∧ upd V h new x = some u := fun x u e => by
          obtain ⟨nj, c⟩ := after_some e
          exact ⟨nj, by rcases c with ⟨rfl, z⟩ | ⟨nh, z⟩
                        · rw [upd_same]; exact z
                        · rw [upd_ne _ _ nh]; exact z⟩
        have heq : (w.at d').setChan v.ch 0 #[] true k k false = W.at d' := by rw [← hW]; rfl
        rw [heq]
        refine ⟨fun x y hx hy => ?_, fun x u _ e => Cd.chan x u (hsub x u e).1 (hsub x u e).2, fun _ _ z => z.elim, fun x x' u u' e e' => C.inj x x' u u' (hsub _ _ e).2 (hsub _ _ e').2, fun x hx => by rw [hD]; exact C.above x (by simpa using hx),
          fun x u e => C.low x u (hsub x u e).2, fun x u e => Cd.stays x u (hsub x u e).2, ?_⟩
        · rw [Array.getElem?_setIfInBounds_ne (fun z => hx z.symm)] at hy
          have hid := Cd.idle x y (fun z => z) hy
          have : after V h i new x = upd V h new x := by unfold after; rw [upd_ne _ _ hx]
          rw [this]
          revert hid
          cases upd V h new x with
          | none => exact fun hid => ⟨hid.1, by rw [hD]; exact hid.2⟩
          | some u => exact id
        · refine p3.turn (fun _ _ _ z => z) (fun y b g _ _ _ hR => .inr ?_) (fun y b g hb hw hR => p3.wrote y b g hb hw ?_) (fun g hg => p3.hears g ?_)
          · obtain ⟨ng, u, z, hl⟩ := hR
            exact ⟨u, by unfold after; rw [upd_ne _ _ ng]; exact z, hl⟩
          · obtain ⟨u, z, hl⟩ := hR
            exact ⟨(hsub g u z).1, u, (hsub g u z).2, hl⟩
          · rcases hg with rfl | hg
            · exact .inr (by rw [hVj]; rfl)
            · obtain ⟨u, z⟩ := Option.isSome_iff_exists.1 hg
              exact .inr (by rw [(hsub g u z).2]; rfl)
      · obtain ⟨gs', ops, q', hrt, hsz', _, _, _, C', hlt⟩ := Cd.byStep (sl := sl') (fun t u i => Before.app u) hi (fun z => z) hg (fun _ _ z => z.elim) (fun hD => by subst hD; rw [hVj]; simp)
          (fun u g₂ hu hat => ⟨fun hD => by subst hD; rw [hVj] at hu; cases hu; exact ej ⟨rfl, g₂, hat⟩, fun _ _ z => z.elim⟩)
        exact .next (hst.trans hrt) (ih _ (by rw [hsz']; omega) gs' d' sl' q' _ rfl (by omega) C' (ca.app ops))
  exact .next (hst.trans hrt) (key _ _ W.drawn sl' _ _ rfl (by simpa using hsz) Cl hca) (by rw [← hW]; exact ⟨rfl, rfl⟩)
theorem At.hire {a a' child : Goroutine} {m : Machine} (A : At P V h n a w m T) (hrun : a.status = .running) {es : Array Event} (hgo : ∀ d, stepG P (h == 0) a (w.at d) = .spawn a' child (w.at d) es) (hes : ∀ e ∈ es, EvR V e)
    (hn : ∀ i, n ≤ i → V i = none) {new : Option Wait} (hnew : Then P V h (fun _ => False) a' w new) :
    Comes P (fun m' T' => ∃ d, At P (upd V h new) n (n + 1) child (w.at d) m' T') m T := by
  refine (A.picked hrun).bind ?_
  rintro m₁ T₁ ⟨gs, sl, sl', q, B₀, d, d', rfl, hst, hsz, ha, hV, C₀⟩
  obtain ⟨B₁, hB₁⟩ := low_all es
  obtain ⟨B₂, nh, hB₂⟩ := hnew.low
  have C : Core P (max B₀ (max B₁ B₂)) (fun t => Knows t h) V (· = h) (fun _ => False) T₁ gs (w.at d') q := C₀.mono (Nat.le_max_left _ _)
  generalize hBB : max B₀ (max B₁ B₂) = B at C
  have hlth : h < gs.size := (Array.getElem?_eq_some_iff.1 ha).1
  obtain ⟨o1, o2, o3, o4⟩ := evR_ops (h := h) (fn := a.frame.fn) (pos := a.frame.place) hes (fun e he => MemAct.low_mono (by omega : B₁ ≤ B) (hB₁ e he))
  have hrt := runT_crowd_spawn (P := P) (sl := sl') ha (hgo d')
  have hpush : ((MemOp.ofEvents h a.frame.fn a.frame.place es).push { g := h, fn := a.frame.fn, pos := a.frame.place, act := .go gs.size } |>.push { g := gs.size, fn := child.frame.fn, pos := a.frame.place, act := .start }) =
      MemOp.ofEvents h a.frame.fn a.frame.place es ++ #[{ g := h, fn := a.frame.fn, pos := a.frame.place, act := .go gs.size }, { g := gs.size, fn := child.frame.fn, pos := a.frame.place, act := .start }] := by
    apply Array.ext'; simp
  rw [hpush] at hrt
  have p1 := C.past.own o1 o2 (o4 T₁ h) o3
  have hnone : V gs.size = none := hn _ (by omega)
  have p2 := p1.hireGive (c := gs.size) (by omega) (.inl rfl) (by rw [o4]; exact C.above _ (Nat.le_refl _)) (fun l ⟨u, e, _⟩ => by rw [hV] at e; cases e) (fun l ⟨u, e, _⟩ => by rw [hnone] at e; cases e) (S := fun l => ∃ v, new = some v ∧ v.S l) (fun l ⟨u, _, hl⟩ => Wait.S_mem hl) a.frame.fn a.frame.place child.frame.fn
  rw [Array.append_assoc] at p2
  have hD : ∀ x, Deaf (T₁ ++ (MemOp.ofEvents h a.frame.fn a.frame.place es ++ #[{ g := h, fn := a.frame.fn, pos := a.frame.place, act := .go gs.size }, { g := gs.size, fn := child.frame.fn, pos := a.frame.place, act := .start }])) x = Deaf T₁ x := fun x => by
    rw [← Array.append_assoc, Deaf_quiet (fun op hop d => by
      simp only [List.mem_toArray, List.mem_cons, List.not_mem_nil, or_false] at hop
      rcases hop with rfl | rfl <;> rfl), o4]
  have hnB := hB₂ B (by omega)
  have hdh : Deaf T₁ h = 0 := C.past.hears h (.inl rfl)
  have hVn : upd V h new gs.size = none := by rw [upd_ne _ _ (by omega)]; exact hnone
  refine .next (hst.trans hrt) (.now ⟨d', _, sl', upd q h nh, B, rfl, by simp [hsz], by rw [← hsz, Array.getElem?_push, if_pos (by simp)], by rw [← hsz]; exact hVn, ?_⟩)
  rw [← hsz]
  refine ⟨fun x y hx hy => ?_, fun x u _ e => ?_, fun _ _ z => z.elim, upd_inj hnew C.inj, fun x hx => by rw [hD]; exact C.above x (by simp at hx; omega), fun x u e => ?_, fun x u e => ?_, ?_⟩
  · have hxl : x < gs.size := by
      have := (Array.getElem?_eq_some_iff.1 hy).1
      simp at this; omega
    rw [Array.getElem?_push, if_neg (by simp; omega)] at hy
    by_cases ex : x = h
    · subst ex
      rw [Array.getElem?_setIfInBounds_self_of_lt hlth] at hy; cases hy
      rw [upd_same, upd_same]
      exact (hnB _ (by rw [hD]; exact hdh)).1
    · rw [Array.getElem?_setIfInBounds_ne (fun z => ex z.symm)] at hy
      rw [upd_ne q nh ex, upd_ne V new ex]
      have hid := C.idle x y ex hy
      revert hid
      cases V x with
      | none => exact fun hid => ⟨hid.1, by rw [hD]; exact hid.2⟩
      | some u => exact id
  · rcases upd_some e with ⟨_, z⟩ | ⟨_, z⟩
    · subst z; exact hnew.2.1
    · exact C.chan x u (fun z => z) z
  · rcases upd_some e with ⟨_, z⟩ | ⟨_, z⟩
    · exact (hnB T₁ hdh).2 u z
    · exact C.low x u z
  · rcases upd_some e with ⟨_, z⟩ | ⟨_, z⟩
    · subst z; exact hnew.1
    · exact C.stays x u z
  · refine p2.turn (fun _ _ _ z => z) (fun y b g _ _ _ hR => .inr ?_) (fun y b g hb hw hR => p2.wrote y b g hb hw ?_) (fun g hg => p2.hears g ?_)
    · rcases hR with ⟨rfl, u, z, hl⟩ | ⟨ng, _, u, z, hl⟩
      · exact ⟨u, by rw [upd_same]; exact z, hl⟩
      · exact ⟨u, by rw [upd_ne _ _ ng]; exact z, hl⟩
    · obtain ⟨u, z, hl⟩ := hR
      rcases upd_some z with ⟨e1, z⟩ | ⟨ng, z⟩
      · exact .inl ⟨e1, u, z, hl⟩
      · exact .inr ⟨ng, fun e => (by rw [e, hnone] at z; cases z), u, z, hl⟩
    · rcases hg with rfl | hg
      · exact .inr rfl
      · obtain ⟨u, z⟩ := Option.isSome_iff_exists.1 hg
        rcases upd_some z with ⟨e1, _⟩ | ⟨_, z⟩
        · exact .inl (.inl e1)
        · exact .inl (.inr (by rw [z]; rfl))
theorem at_begin {gs : Array Goroutine} {a : Goroutine} {sl : Option (Nat × Nat)} {q : Nat → Nat} {B : Nat} (h0 : gs[0]? = some a) (hL : Leavers P T gs q) (hP : Past (fun _ => False) B T) : At P (fun _ => none) 0 gs.size a w (crowd gs w sl) T :=
  ⟨gs, sl, q, B, rfl, rfl, h0, rfl, fun i g hi hg => ⟨by omega, hL.old i g (by omega) hg⟩, fun _ _ _ e => (by cases e), fun _ _ z => z.elim, fun _ _ _ _ e => (by cases e), hL.above, fun _ _ e => (by cases e), fun _ _ e => (by cases e),
    (PastR.ofPast hP).turn (fun _ _ _ z => z) (fun _ _ _ _ _ _ z => z.elim) (fun _ _ _ _ _ ⟨_, e, _⟩ => (by cases e)) (fun g hg => by
      rcases hg with rfl | hg
      · exact hP.hears
      · cases hg)⟩
theorem At.ends {a : Goroutine} {m : Machine} (A : At P V 0 n a w m T) (hV : ∀ i, V i = none) : ∃ gs sl q B, m = crowd gs w sl ∧ gs.size = n ∧ gs[0]? = some a ∧ Leavers P T gs q ∧ Past (fun _ => False) B T := by
  obtain ⟨gs, sl, q, B, rfl, hsz, ha, _, C⟩ := A
  refine ⟨gs, sl, q, B, rfl, hsz, ha, ⟨fun i g hi hg => ?_, C.above⟩, C.past.toPast (.inl rfl) fun g l ⟨u, e, _⟩ => by rw [hV] at e; cases e⟩
  have hid := C.idle i g (by omega) hg
  rw [hV] at hid
  exact hid.2
end
end
end Go.Relay
