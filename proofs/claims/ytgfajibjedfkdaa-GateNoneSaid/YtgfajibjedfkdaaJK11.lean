/- Part 11. -/
import Derived.Test.YtgfajibjedfkdaaJK2
import Derived.Test.YtgfajibjedfkdaaJK3
import Derived.Test.YtgfajibjedfkdaaJK4
import Derived.Test.YtgfajibjedfkdaaJK10
set_option linter.unusedSimpArgs false
set_option linter.unusedVariables false
set_option maxHeartbeats 8000000
set_option maxRecDepth 100000
namespace Go.Proofs.Ytgfajibjedfkdaa
open Go.Conc Go.RowKit Go.Relay
open Go.ConcN (upd upd_ne upd_same)
section
noncomputable def reg78_0 := rg Try.f78.body [0]
noncomputable def reg78_1 := rg Try.f78.body [1, 0]
theorem z78 : List.range reg78_0.size = [0, 1] ∧ List.range reg78_1.size = [0, 1] := by refine ⟨?_, ?_⟩ <;> kernel_rfl
theorem code78_is : Try.f78.body = some (.seq (.region 0 reg78_0 false) (.cond (.tmp 3 ) (.region 1 reg78_1 false) (.skip))) := by kernel_rfl
theorem undStepper : ∃ ms, Try.prog.underlying 113 = some (.interface ms) := by
  have h : (match Try.prog.underlying 113 with | some (.interface _) => true | _ => false) = true := by kernel_rfl
  revert h
  cases Try.prog.underlying 113 with
  | none => simp
  | some d =>
    cases d with
    | interface fs => exact fun _ => ⟨fs, rfl⟩
    | _ => simp
structure EC (L : La) (g : OG) (S : Stile) (i : Nat) where
  τ : Tn L
  N : Nat
  w : World
  y : L.Gh
  s : L.Sg
  ans : List Ans
  hd : Value
  le : L.le τ.y y
  size : τ.w.heap.size ≤ w.heap.size
  frame : ∀ b, b < τ.w.heap.size → ¬ τ.M b → ¬ L.sh τ.y b → b ≠ g.A → w.heap[b]? = τ.w.heap[b]?
  pub : ∀ b, L.sh y b → L.sh τ.y b ∨ τ.M b ∨ τ.w.heap.size ≤ b
  rely : ∃ hd0, Rely L g i τ.V τ.y τ.w hd0 τ.M
  an : AnT g i τ.w w hd
  row : RowA g.w0.heap.size (ownT τ y w) hd ans w
  inv : L.I y s w
structure OC where
  left : List OpV
  ans : List Ans
  hd : Value
  K : Nat → Prop
  wK : World
structure EO (L : La) (g : OG) (S : Stile) (i : Nat) (c : OC) extends EC L g S i where
  tgt : L.Sg × (Ans ⊕ L.D)
  eqA : ans = c.ans
  eqH : hd = c.hd
  goal : τ.goal = landO L (i : Nat) tgt c.left ans
  Kown : ∀ b, c.K b → ownT τ y w b
  kept : ∀ b, c.K b → w.heap[b]? = c.wK.heap[b]?
  rowK : RowA g.w0.heap.size c.K hd ans w
section
variable {L : La} {g : OG} {S : Stile} {i : Nat} {c : OC}
theorem EC.lo (e : EC L g S i) {b : Nat} (h : ownT e.τ e.y e.w b) : g.w0.heap.size ≤ b ∧ b < e.w.heap.size := by
  obtain ⟨hd0, r⟩ := e.rely
  have := e.size
  rcases h.1 with h | h
  · have := r.lo b h; omega
  · have := r.size; omega
theorem EC.noA (e : EC L g S i) {b : Nat} (h : ownT e.τ e.y e.w b) : ¬ L.sh e.y b ∧ b ≠ g.A := by
  obtain ⟨hd0, r⟩ := e.rely
  have h1 := e.lo h
  exact ⟨h.2, fun h => by have := r.alo; omega⟩
theorem EC.shb (e : EC L g S i) {b : Nat} (h : L.sh e.y b) : b ≠ g.A ∧ (b < g.w0.heap.size → g.sh b) := by
  obtain ⟨hd0, r⟩ := e.rely
  rcases e.pub b h with h | h | h
  · exact ⟨(r.shlo b h).1, (r.shlo b h).2.2⟩
  · have := r.lo b h; have := r.alo; exact ⟨by omega, fun _ => by omega⟩
  · have := r.alo; have := r.size; exact ⟨by omega, fun _ => by omega⟩
theorem EC.apart (e : EC L g S i) {b : Nat} (h : b < g.w0.heap.size ∨ ownT e.τ e.y e.w b ∨ e.w.heap.size ≤ b ∨ L.sh e.y b) : Apart e.τ.V b := by
  obtain ⟨hd0, r⟩ := e.rely
  have := e.size
  refine r.apart b ?_
  rcases h with h | h | h | h
  · exact .inl h
  · rcases h.1 with h | h
    · exact .inr (.inl h)
    · exact .inr (.inr (.inl h.1))
  · exact .inr (.inr (.inl (by omega)))
  · rcases e.pub b h with h | h | h
    · exact .inr (.inr (.inr h))
    · exact .inr (.inl h)
    · exact .inr (.inr (.inl h))
theorem EC.hdo (e : EC L g S i) : ∀ b, e.hd.ownBlock = some b → ownT e.τ e.y e.w b := e.row.hdo
def crewB (L : La) (g : OG) (S : Stile) (i : Nat) (c : OC) : Lb L where
  main := false
  E := EO L g S i c
  V := fun e => e.τ.V
  Stop := fun e => StopT L g S i (Cont L g S i e.N) e.τ
  bot := fun e => e.τ.f :: e.τ.fs
  w := fun e => e.w
  s := fun e => e.s
  gh := fun e => e.y
  tgt := fun e => e.tgt
  fuel := fun e => e.N
  mine := fun e b => ownT e.τ e.y e.w b ∧ ¬ c.K b
theorem EO.mg (e : EO L g S i c) (y' : L.Gh) (s' : L.Sg) (w' : World) (hle : L.le e.y y') (hs : e.w.heap.size ≤ w'.heap.size) (hsame : ∀ b, b < e.w.heap.size → ¬ (ownT e.τ e.y e.w b ∧ ¬ c.K b) → ¬ L.sh e.y b → w'.heap[b]? = e.w.heap[b]?) (hI : L.I y' s' w')
    (hpub : ∀ b, L.sh y' b → L.sh e.y b ∨ (ownT e.τ e.y e.w b ∧ ¬ c.K b) ∨ e.w.heap.size ≤ b) : ∃ e' : EO L g S i c, Mg (crewB L g S i c) e e' y' s' w' := by
  obtain ⟨hd0, r⟩ := e.rely
  have hK : ∀ b, c.K b → w'.heap[b]? = e.w.heap[b]? := fun b h => hsame b (e.lo (e.Kown b h)).2 (fun x => x.2 h) (e.noA (e.Kown b h)).1
  have hA : w'.heap[g.A]? = e.w.heap[g.A]? := hsame _ (by have := r.alo; have := r.size; have := e.size; omega) (fun x => by have := (e.lo x.1).1; have := r.alo; omega) (fun h => (e.shb h).1 rfl)
  have hKn : ∀ b, c.K b → ¬ L.sh y' b := fun b h hs => by
    rcases hpub b hs with h1 | h1 | h1
    · exact (e.noA (e.Kown b h)).1 h1
    · exact h1.2 h
    · have := (e.lo (e.Kown b h)).2; omega
  have hown : ∀ b, ownT e.τ e.y e.w b → ¬ L.sh y' b → ownT e.τ y' w' b := fun b h hn => ⟨h.1.imp id fun h => ⟨h.1, by omega⟩, hn⟩
  have hKo : ∀ b, c.K b → ownT e.τ y' w' b := fun b h => hown b (e.Kown b h) (hKn b h)
  refine ⟨{ τ := e.τ, N := e.N, w := w', y := y', s := s', ans := e.ans, hd := e.hd, le := L.trans e.le hle, size := Nat.le_trans e.size hs, frame := fun b h1 h2 h3 h4 => ?_, pub := fun b h => ?_, rely := e.rely, an := ?_, row := (e.rowK.same hK).imp hKo, inv := hI, tgt := e.tgt, eqA := e.eqA, eqH := e.eqH, goal := e.goal, Kown := hKo, kept := fun b h => (hK b h).trans (e.kept b h), rowK := e.rowK.same hK }, ⟨rfl, rfl, rfl, rfl, rfl, rfl, rfl, rfl, fun b => ?_⟩⟩
  · refine (hsame b (Nat.lt_of_lt_of_le h1 e.size) (fun x => ?_) (fun x => ?_)).trans (e.frame b h1 h2 h3 h4)
    · rcases x.1.1 with h | h
      · exact h2 h
      · have := h.1; omega
    · rcases e.pub b x with h | h | h
      · exact h3 h
      · exact h2 h
      · omega
  · rcases hpub b h with h | h | h
    · exact e.pub b h
    · rcases h.1.1 with h | h
      · exact .inr (.inl h)
      · exact .inr (.inr h.1)
    · exact .inr (.inr (Nat.le_trans e.size h))
  · obtain ⟨arr, arr', h1, h2, h3⟩ := e.an
    exact ⟨arr, arr', h1, hA.trans h2, h3⟩
  · show (ownT e.τ y' w' b ∧ ¬ c.K b) ↔ ((ownT e.τ e.y e.w b ∧ ¬ c.K b) ∨ (e.w.heap.size ≤ b ∧ b < w'.heap.size)) ∧ ¬ L.sh y' b
    constructor
    · rintro ⟨⟨h | h, hn⟩, hk⟩
      · exact ⟨.inl ⟨⟨.inl h, fun hs => hn (L.mono hle hs)⟩, hk⟩, hn⟩
      · refine ⟨?_, hn⟩
        by_cases hb : b < e.w.heap.size
        · exact .inl ⟨⟨.inr ⟨h.1, hb⟩, fun hs => hn (L.mono hle hs)⟩, hk⟩
        · exact .inr ⟨by omega, h.2⟩
    · rintro ⟨⟨h, hk⟩ | h, hn⟩
      · exact ⟨hown b h hn, hk⟩
      · exact ⟨⟨.inr ⟨Nat.le_trans e.size h.1, h.2⟩, hn⟩, fun hk => by have := (e.lo (e.Kown b hk)).2; omega⟩
theorem EO.step (e : EO L g S i c) (d : L.D) (ht : e.tgt = (e.s, .inr d)) (fr : Frame) (l : List Frame) (hp : Plain fr) (hl : ∀ f ∈ l, Plain f) (hk : ∀ e' : EO L g S i c, Aft (crewB L g S i c) e d e' → LW (crewB L g S i c) e' (G (fr.finish (.tuple #[])) (l ++ e'.τ.f :: e'.τ.fs))) :
    LW (crewB L g S i c) e (G (Frame.enter Try.prog 78 #[.iface 230 (.pointer (some ⟨S.p i, 0, none⟩))] .normal) (fr :: (l ++ e.τ.f :: e.τ.fs))) := by
  obtain ⟨ms, hu⟩ := undStepper
  have hn1 := fun w => run_neq_iface (P := Try.prog) (w := w) 113 230 (.pointer (some ⟨S.p i, 0, none⟩)) hu
  have hn2 := fun w es => ev_neq_iface (P := Try.prog) (w := w) 113 230 (.pointer (some ⟨S.p i, 0, none⟩)) es hu
  unfold LW
  show Walk Try.prog false (DR e.τ.V) (StopT L g S i (Cont L g S i e.N) e.τ) _ e.w
  rw [enter_at _ Try.func78 code78_is]
  simp only [Try.ntmps78, ez, Nat.reduceAdd, Nat.reduceSub]
  repeat (first | refine Walk.cx ?_ | (refine Walk.cReg ?_; simp only [z78]) | (refine Walk.oq ?_; try walk_nrm) | (refine Walk.un ?_; walk_nrm))
  refine Walk.invokeStep (S.p i) (ho_of (by conv => lhs; whnf) (by kernel_rfl)) (by rfl) (by decide) rfl rfl ?_
  generalize hX : Frame.at _ _ _ = X
  have hgoal : e.τ.goal = (e.s, ⟨c.left, some d, e.ans⟩) := by rw [e.goal, ht]; rfl
  refine .stop fun dr => ⟨e.y, e.le, e.size, e.frame, ?_, e.pub, e.hd, e.an, ?_, .inr ⟨X :: fr :: l, ?_, by simp, ?_, ?_, rfl⟩⟩
  · rw [hgoal]; exact L.stable e.inv fun _ _ => rfl
  · rw [hgoal]; exact e.row.same fun _ _ => rfl
  · rw [hgoal]; rfl
  · intro x hx
    rcases List.mem_cons.1 hx with rfl | hx
    · subst hX; exact ⟨rfl, rfl, _, Try.func78⟩
    · rcases List.mem_cons.1 hx with rfl | hx
      · exact hp
      · exact hl x hx
  · rw [hgoal]
    have hN : ∀ N', e.N = N' → Cont L g S i N' ⟨c.left, some d, e.ans⟩ (X :: fr :: l) e.y e.hd (ownT e.τ e.y (e.w.at dr)) (e.w.at dr) := fun N' hN' => by
      cases N' with
      | zero => trivial
      | succ n =>
        intro V f fs y' w' s' c1 l' d' h0 h1 h2 h3 h4 h5 h6
        obtain rfl : d = d' := Option.some.inj h5
        obtain ⟨rfl, rfl⟩ := List.cons.inj h6
        rw [← hX, Frame.finish_at]
        repeat (first | (refine Walk.oq ?_; try walk_nrm) | (refine Walk.un ?_; walk_nrm))
        repeat (first | refine Walk.cx ?_ | (refine Walk.cReg ?_; simp only [z78]) | (refine Walk.oq ?_; try walk_nrm) | (refine Walk.un ?_; walk_nrm))
        refine Walk.on0 rfl rfl Try.func78 rfl ?_
        have hKo : ∀ b, c.K b → ownT (⟨V, f, fs, w', y', ownT e.τ e.y e.w, landO L (i : Nat) (L.act s' d) c.left e.ans⟩ : Tn L) y' w' b := fun b h => ⟨.inl (e.Kown b h), (h3.lo b (e.Kown b h)).2.2⟩
        have hKs : ∀ b, c.K b → w'.heap[b]? = e.w.heap[b]? := fun b h => h2 b (e.Kown b h)
        refine hk { τ := ⟨V, f, fs, w', y', ownT e.τ e.y e.w, landO L (i : Nat) (L.act s' d) c.left e.ans⟩, N := n, w := w', y := y', s := s', ans := e.ans, hd := e.hd, le := L.refl _, size := Nat.le_refl _, frame := fun _ _ _ _ _ => rfl, pub := fun b h => .inl h, rely := ⟨e.hd, h3⟩, an := ?_, row := (e.rowK.same hKs).imp hKo, inv := h4, tgt := L.act s' d, eqA := e.eqA, eqH := e.eqH, goal := rfl, Kown := hKo, kept := fun b h => (hKs b h).trans (e.kept b h), rowK := e.rowK.same hKs } ⟨rfl, ?_, h0, h1, fun b hb => ⟨⟨⟨.inl hb.1, (h3.lo b hb.1).2.2⟩, hb.2⟩, h2 b hb.1⟩⟩
        · obtain ⟨arr, ha, hb⟩ := h3.an
          exact ⟨arr, arr, ha, ha, rfl, hb, fun _ _ => rfl⟩
        · show n < e.N
          omega
    exact hN e.N rfl
def crewL (L : La) (g : OG) (S : Stile) (i : Nat) (c : OC) : Lg L (.iface 230 (.pointer (some ⟨S.p i, 0, none⟩))) where
  toLb := crewB L g S i c
  one := rfl
  inv := fun e => e.inv
  shA := fun e b h => e.apart (.inr (.inr (.inr h)))
  mineA := fun e b h => ⟨e.apart (.inr (.inl h.1)), (e.noA h.1).1, (e.lo h.1).2⟩
  newA := fun e b h => e.apart (.inr (.inr (.inl h)))
  mg := fun e y' s' w' h0 h1 h2 h3 h4 => EO.mg e y' s' w' h0 h1 h2 h3 h4
  step := fun e d ht fr l hp hl hk => EO.step e d ht fr l hp hl hk
end
end
section
section
variable {L : La} {sv : Value}
def FzE (K : Lg L sv) (e0 : K.E) : Type := { e : K.E // ∀ b, K.mine e0 b → K.mine e b ∧ (K.w e).heap[b]? = (K.w e0).heap[b]? }
def FzB (K : Lg L sv) (e0 : K.E) : Lb L where
  main := K.main
  E := FzE K e0
  V := fun e => K.V e.1
  Stop := fun e => K.Stop e.1
  bot := fun e => K.bot e.1
  w := fun e => K.w e.1
  s := fun e => K.s e.1
  gh := fun e => K.gh e.1
  tgt := fun e => K.tgt e.1
  fuel := fun e => K.fuel e.1
  mine := fun e b => K.mine e.1 b ∧ ¬ K.mine e0 b
def Fz (K : Lg L sv) (e0 : K.E) : Lg L sv where
  toLb := FzB K e0
  inv := fun e => K.inv e.1
  shA := fun e => K.shA e.1
  mineA := fun e b h => K.mineA e.1 b h.1
  newA := fun e => K.newA e.1
  one := K.one
  mg := fun e y' s' w' h0 h1 h2 h3 h4 => by
    have hz : ∀ b, K.mine e0 b → b < (K.w e.1).heap.size ∧ w'.heap[b]? = (K.w e.1).heap[b]? := fun b h => by
      have hm := K.mineA e.1 b (e.2 b h).1
      exact ⟨hm.2.2, h2 b hm.2.2 (fun x => x.2 h) hm.2.1⟩
    have hn : ∀ b, K.mine e0 b → ¬ L.sh y' b := fun b h hs => by
      have hm := K.mineA e.1 b (e.2 b h).1
      rcases h4 b hs with x | x | x
      · exact hm.2.1 x
      · exact x.2 h
      · have : (K.w e.1).heap.size ≤ b := x
        have := hm.2.2; omega
    obtain ⟨e', m⟩ := K.mg e.1 y' s' w' h0 h1 (fun b hb hn hs => h2 b hb (fun x => hn x.1) hs) h3 (fun b h => (h4 b h).imp id fun x => x.imp (fun x => x.1) id)
    refine ⟨⟨e', fun b h => ⟨(m.mine b).2 ⟨.inl (e.2 b h).1, hn b h⟩, ?_⟩⟩, m.V, m.Stop, m.bot, m.w, m.s, m.gh, m.tgt, m.fuel, fun b => ?_⟩
    · rw [m.w]; exact (hz b h).2.trans (e.2 b h).2
    · show (K.mine e' b ∧ ¬ K.mine e0 b) ↔ ((K.mine e.1 b ∧ ¬ K.mine e0 b) ∨ ((K.w e.1).heap.size ≤ b ∧ b < w'.heap.size)) ∧ ¬ L.sh y' b
      rw [m.mine]
      constructor
      · rintro ⟨⟨h | h, hs⟩, hn⟩
        · exact ⟨.inl ⟨h, hn⟩, hs⟩
        · exact ⟨.inr h, hs⟩
      · rintro ⟨⟨h, hn⟩ | h, hs⟩
        · exact ⟨⟨.inl h, hs⟩, hn⟩
        · exact ⟨⟨.inr h, hs⟩, fun hn => by have := (hz b hn).1; omega⟩
  step := fun e d ht fr l hp hl hk => by
    refine K.step e.1 d ht fr l hp hl fun e' ha => ?_
    refine hk ⟨e', fun b h => ?_⟩ ⟨ha.tgt, ha.fuel, ha.le, ha.size, fun b hb => ⟨⟨(ha.mine b hb.1).1, hb.2⟩, (ha.mine b hb.1).2⟩⟩
    have hm := ha.mine b (e.2 b h).1
    exact ⟨hm.1, hm.2.trans (e.2 b h).2⟩
def fz0 (K : Lg L sv) (e : K.E) : (Fz K e).E := ⟨e, fun _ h => ⟨h, rfl⟩⟩
def Kept (K : Lg L sv) (e e' : K.E) : Prop := ∀ b, K.mine e b → K.mine e' b ∧ (K.w e').heap[b]? = (K.w e).heap[b]?
theorem SCall.fz (K : Lg L sv) {e : K.E} {f : FuncId} {args : Array Value} {Q : Value → (Fz K e).E → Prop} (h : SCall (Fz K e).toLb f args (fz0 K e) Q) : SCall K.toLb f args e (fun v e' => ∃ h : Kept K e e', Q v ⟨e', h⟩) := fun fr l hp hl hk =>
  h fr l hp hl fun v e' hq => hk v e'.1 ⟨e'.2, hq⟩
theorem Mv.new {K : Lg L sv} {e e' : K.E} {s' : L.Sg} {w' : World} (m : Mv K.toLb e e' s' w') {b : Nat} (h1 : (K.w e).heap.size ≤ b) (h2 : b < w'.heap.size) : K.mine e' b := (m.mine b).2 (.inr ⟨h1, h2⟩)
theorem Lg.grow (K : Lg L sv) (e : K.E) {w' : World} (hs : (K.w e).heap.size ≤ w'.heap.size) (hb : ∀ b, b < (K.w e).heap.size → w'.heap[b]? = (K.w e).heap[b]?) : ∃ e', Mv K.toLb e e' (K.s e) w' :=
  K.mv e (K.s e) w' hs (fun b h _ _ => hb b h) (L.stable (K.inv e) fun b h => hb b (L.lt (K.inv e) h))
theorem Lg.own (K : Lg L sv) (e : K.E) {w' : World} (hs : (K.w e).heap.size ≤ w'.heap.size) (hb : ∀ b, b < (K.w e).heap.size → ¬ K.mine e b → w'.heap[b]? = (K.w e).heap[b]?) : ∃ e', Mv K.toLb e e' (K.s e) w' :=
  K.mv e (K.s e) w' hs (fun b h hm _ => hb b h hm) (L.stable (K.inv e) fun b h => hb b (L.lt (K.inv e) h) fun hm => (K.mineA e b hm).2.1 h)
theorem at_slots {b : Frame} {A : Array Value} {todo : List Item} {cs : List Frame} {F : (Nat → Value) → Goroutine} (h : G (b.at ⟨A, []⟩ todo) cs = F (fun k => A.getD k undef)) : ∃ u, G (b.at ⟨A, []⟩ todo) cs = F u := ⟨_, h⟩
theorem slots_walk {P : Program} {main : Bool} {D : World → World → Array Event → Prop} {Stop : Goroutine → World → Prop} {b : Frame} {A : Array Value} {todo : List Item} {cs : List Frame} {w : World} {F : (Nat → Value) → Goroutine} (h : ∀ u, Walk P main D Stop (F u) w) (e : G (b.at ⟨A, []⟩ todo) cs = F (fun k => A.getD k undef)) : Walk P main D Stop (G (b.at ⟨A, []⟩ todo) cs) w := e ▸ h _
theorem Walk.finish {P : Program} {main : Bool} {D : World → World → Array Event → Prop} {Stop : Goroutine → World → Prop} {w : World} {b : Frame} {a : Act} {k : List Item} {cs : List Frame} {ops : Array Oper} {i : Nat} {rest : List Nat} {o : Oper} {v : Value} (ho : ops[i]? = some o)
    (h : Walk P main D Stop (G (b.at (a.put o.dst v) (.inRegion ops rest :: k)) cs) w) : Walk P main D Stop (G ((b.at a (.inRegion ops (i :: rest) :: k)).finish v) cs) w := by
  rw [Frame.finish_at, ho]
  exact h
theorem LW.to {K : Lb L} {e e' : K.E} {s' : L.Sg} {w' : World} {fr : Frame} {l : List Frame} (m : Mv K e e' s' w') (h : LW K e' (G fr (l ++ K.bot e'))) : Walk Try.prog K.main (DR (K.V e)) (K.Stop e) (G fr (l ++ K.bot e)) w' := by
  rw [m.bot] at h
  exact LW.mv m h
end
end
section
theorem structT (t : TypeId) (h : (match Try.prog.underlying t with | some (.struct _) => true | _ => false) = true) : ∃ fs, Try.prog.underlying t = some (.struct fs) := by
  revert h
  cases Try.prog.underlying t with
  | none => simp
  | some d =>
    cases d with
    | struct fs => exact fun _ => ⟨fs, rfl⟩
    | _ => simp
section
variable {P : Program} {w : World}
theorem run_eql_func (t : TypeId) (f : Fn) (x y : Array Value) {a b c} (hu : P.underlying t = some (.func a b c)) : (binOp .eql t (.func f x y) .nilFunc).run P w = .ok (.bool false) w := by
  simp only [binOp]
  simp [Op.equal, Op.maxDepth, run_eqIn_func (w := w) 9999 t f x y hu]
theorem ev_eql_func (t : TypeId) (f : Fn) (x y : Array Value) (es : Array Event) {a b c} (hu : P.underlying t = some (.func a b c)) : (binOp .eql t (.func f x y) .nilFunc).events P w es = es := by
  simp only [binOp]
  simp [Op.equal, Op.maxDepth, run_eqIn_func (w := w) 9999 t f x y hu, ev_eqIn_func (w := w) 9999 t f x y es hu]
end
section
variable {P : Program} {w : World}
theorem run_eqIn_nilSlice (d : Nat) (t : TypeId) {e} (hu : P.underlying t = some (.slice e)) : (Op.equalIn (d + 1) t (.slice none 0 0) (.slice none 0 0)).run P w = .ok true w := by simp [Op.equalIn, run_underlying hu]
theorem ev_eqIn_nilSlice (d : Nat) (t : TypeId) (es : Array Event) {e} (hu : P.underlying t = some (.slice e)) : (Op.equalIn (d + 1) t (.slice none 0 0) (.slice none 0 0)).events P w es = es := by simp [Op.equalIn, run_underlying hu]
theorem run_eql_nilSlice (t : TypeId) {e} (hu : P.underlying t = some (.slice e)) : (binOp .eql t (.slice none 0 0) (.slice none 0 0)).run P w = .ok (.bool true) w := by
  simp only [binOp]
  simp [Op.equal, Op.maxDepth, run_eqIn_nilSlice (w := w) 9999 t hu]
theorem ev_eql_nilSlice (t : TypeId) (es : Array Event) {e} (hu : P.underlying t = some (.slice e)) : (binOp .eql t (.slice none 0 0) (.slice none 0 0)).events P w es = es := by
  simp only [binOp]
  simp [Op.equal, Op.maxDepth, run_eqIn_nilSlice (w := w) 9999 t hu, ev_eqIn_nilSlice (w := w) 9999 t es hu]
end
theorem results_cell {fn : Func} {tmps : Array Value} {t : Tmp} {ty tt : TypeId} {T : Nat} {cells : Array Value} {w : World} {V : Nat → Option Wait} (hr : fn.results = #[.cell t ty]) (h8 : tmps.getD t undef = .pointer (some ⟨T, 0, none⟩)) (hT : w.heap[T]? = some (.cells cells tt (0, 0)))
    {fs} (hu : Try.prog.underlying ty = some (.struct fs)) (hi : (Try.prog.info? ty).map (·.size) = some cells.size) :
    (results fn tmps).run Try.prog w = .ok (.agg cells) w ∧ ∀ e ∈ (results fn tmps).events Try.prog w #[], EvR V e := by
  have hl := run_loadVar_row (P := Try.prog) w T tt ty cells (0, 0) _ hT hu rfl hi
  have he := events_loadVar_reads (P := Try.prog) w ⟨T, 0, none⟩ ty hu rfl hi
  simp only [Array.getD_eq_getD_getElem?] at h8
  constructor
  · simp only [results, hr]
    simp [h8, asAddr, hl]
  · intro e hm
    refine evR_isRead (he e ?_)
    simp only [results, hr] at hm
    simpa [h8, asAddr, hl] using hm
theorem Walk.onCell {main : Bool} {V : Nat → Option Wait} {Stop : Goroutine → World → Prop} {fr c : Frame} {cs : List Frame} {w : World} {fn : Func} {t : Tmp} {ty tt : TypeId} {T : Nat} {cells : Array Value} (hm : fr.mode = .returning) (hn : fr.kind = .normal) (hd : fr.defers = []) (hf : Try.prog.funcs[fr.fn]? = some fn)
    (hr : fn.results = #[.cell t ty]) (h8 : fr.tmps.getD t undef = .pointer (some ⟨T, 0, none⟩)) (hT : w.heap[T]? = some (.cells cells tt (0, 0))) (hs : (match Try.prog.underlying ty with | some (.struct _) => true | _ => false) = true) (hi : (Try.prog.info? ty).map (·.size) = some cells.size)
    (h : Walk Try.prog main (DR V) Stop (G (c.finish (.agg cells)) cs) w) : Walk Try.prog main (DR V) Stop (G fr (c :: cs)) w := by
  obtain ⟨fs, hu⟩ := structT ty hs
  exact Walk.evs (fun x => seen Try.prog fr.fn ((results fn fr.tmps).events Try.prog (w.at x) #[])) rfl (fun x => stepG_leaveF hm hn hd hf (results_cell (V := V) (w := w.at x) hr h8 hT hu hi).1)
    (fun x e he => (results_cell (V := V) (w := w.at x) hr h8 hT hu hi).2 e (mem_seen he)) h
section
variable {P : Program}
theorem run_eqIn_someSlice (d : Nat) (t : TypeId) {e} (hu : P.underlying t = some (.slice e)) (a : Addr) (n c : Nat) (w : World) (es : Array Event) : (Op.equalIn (d + 1) t (.slice (some a) n c) (.slice none 0 0)).run P w = .ok false w ∧ (Op.equalIn (d + 1) t (.slice (some a) n c) (.slice none 0 0)).events P w es = es := by
  constructor <;> simp [Op.equalIn, run_underlying hu]
theorem run_eql_someSlice (t : TypeId) {e} (hu : P.underlying t = some (.slice e)) (a : Addr) (n c : Nat) (w : World) : (binOp .eql t (.slice (some a) n c) (.slice none 0 0)).run P w = .ok (.bool false) w := by
  simp only [binOp]
  simp [Op.equal, Op.maxDepth, (run_eqIn_someSlice 9999 t hu a n c w #[]).1]
theorem ev_eql_someSlice (t : TypeId) {e} (hu : P.underlying t = some (.slice e)) (a : Addr) (n c : Nat) (w : World) (es : Array Event) : (binOp .eql t (.slice (some a) n c) (.slice none 0 0)).events P w es = es := by
  simp only [binOp]
  simp [Op.equal, Op.maxDepth, (run_eqIn_someSlice 9999 t hu a n c w #[]).1, (run_eqIn_someSlice 9999 t hu a n c w es).2]
theorem run_app0 {t e : TypeId} {ti : TypeInfo} (hu : P.underlying t = some (.slice e)) (hi : P.info? e = some ti) (ty : TypeId) (a : Addr) (x : Option Addr) (c : Nat) (w : World) (es : Array Event) : (Builtin.append_ #[t, t] ty #[.slice (some a) 0 0, .slice x 0 c]).run P w = .ok (.slice (some a) 0 0) w ∧ (Builtin.append_ #[t, t] ty #[.slice (some a) 0 0, .slice x 0 c]).events P w es = es := by
  constructor <;> cases x <;> simp [Builtin.append_, run_underlying hu, sizeOf, typeInfo, hi, Builtin.lenOf, Builtin.firstCells, loadCells] <;> rfl
end
section
variable {main : Bool} {V : Nat → Option Wait}
noncomputable def reg134_0 := rg Try.f134.body [0]
noncomputable def reg134_1 := rg Try.f134.body [1, 0, 0]
noncomputable def reg134_2 := rg Try.f134.body [1, 0, 1, 0, 0]
noncomputable def reg134_3 := rg Try.f134.body [1, 1, 0]
theorem z134 : List.range reg134_0.size = [0] ∧ List.range reg134_1.size = [0, 1] ∧ List.range reg134_2.size = [0] ∧ List.range reg134_3.size = [0, 1, 2, 3] := by refine ⟨?_, ?_, ?_, ?_⟩ <;> kernel_rfl
theorem code134_is : Try.f134.body = some (.seq (.region 0 reg134_0 false) (.seq (.seq (.region 1 reg134_1 false) (.cond (.tmp 4 ) (.seq (.region 2 reg134_2 false) (.ret)) (.skip))) (.seq (.region 3 reg134_3 false) (.ret)))) := by kernel_rfl
theorem huI64s : Try.prog.underlying 28 = some (.slice 2) := by kernel_rfl
theorem clone_nil (w : World) : CallV Try.prog main V 134 #[.slice none 0 0] w (.slice none 0 0) w := by
  have hn1 := fun w => run_eql_nilSlice (P := Try.prog) (w := w) 28 huI64s
  have hn2 := fun w es => ev_eql_nilSlice (P := Try.prog) (w := w) 28 es huI64s
  refine callW_in Try.func134 code134_is fun fr cs => ?_
  simp only [Try.ntmps134, ez, Nat.reduceAdd, Nat.reduceSub]
  repeat (first | refine Walk.cx ?_ | (refine Walk.cReg ?_; simp only [z134]) | (refine Walk.oq ?_; try walk_nrm) | (refine Walk.un ?_; walk_nrm))
  exact Walk.ret1 rfl rfl Try.func134 rfl fun d => ⟨rfl, d, rfl⟩
theorem clone_some (w : World) (a : Addr) (c : Nat) (l : List Int) (h63 : l.length ≤ 1048576) (hA : ∀ b, w.heap.size ≤ b → Apart V b) (hcells : ∀ (j : Nat) (z : Int), l[j]? = some z → ∃ b off, some a = some ⟨b, off, none⟩ ∧ w.cell? ⟨b, off + j, none⟩ = some (.int .i64 z)) :
    CallW Try.prog main V 134 #[.slice (some a) l.length c] w (fun v w' => LsAt w.heap.size (fun b => w.heap.size ≤ b ∧ b < w'.heap.size) v l w' ∧ w.heap.size ≤ w'.heap.size ∧ ∀ b, b < w.heap.size → w'.heap[b]? = w.heap[b]?) := by
  have hi1 := Option.some_get (show (Try.prog.info? 2).isSome = true by kernel_rfl)
  have hn1 := fun w => run_eql_someSlice (P := Try.prog) 28 huI64s a l.length c w
  have hn2 := fun w es => ev_eql_someSlice (P := Try.prog) 28 huI64s a l.length c w es
  refine callW_in Try.func134 code134_is fun fr cs => ?_
  simp only [Try.ntmps134, ez, Nat.reduceAdd, Nat.reduceSub]
  repeat (first | refine Walk.cx ?_ | (refine Walk.cReg ?_; simp only [z134]) | (refine Walk.oq ?_; try walk_nrm) | (refine Walk.un ?_; walk_nrm))
  (refine Walk.oa ?_; try walk_nrm)
  have s1 : (w.alloc (.cells #[] 2)).heap.size = w.heap.size + 1 := by simp
  have o1 : ∀ b, b < w.heap.size → (w.alloc (.cells #[] 2)).heap[b]? = w.heap[b]? := fun b hb => heap_new_lt _ _ hb
  have hown : (w.alloc (.cells #[] 2)).ownsRow w.heap.size 2 1 (.slice (some ⟨w.heap.size, 0, none⟩) 0 0) 0 [] := World.ownsRow_made w #[] 0 (Nat.le_refl _) (by decide) (by simp)
  have hap := hA w.heap.size (Nat.le_refl _)
  have hcells1 : ∀ (j : Nat) (z : Int), l[j]? = some z → ∃ b off, a = ⟨b, off, none⟩ ∧ (w.alloc (.cells #[] 2)).cell? ⟨b, off + j, none⟩ = some (.int .i64 z) := fun j z hj => by
    obtain ⟨b, off, e, h⟩ := hcells j z hj
    exact ⟨b, off, Option.some.inj e, cell_alloc w _ h⟩
  generalize w.alloc (.cells #[] 2) = w1 at *
  generalize hT : w.heap.size = T at *
  cases l with
  | nil =>
    have hz := fun w es => run_app0 huI64s hi1.symm 28 ⟨T, 0, none⟩ (some a) c w es
    have hz1 := fun w => (hz w #[]).1
    have hz2 := fun w es => (hz w es).2
    clear hz
    repeat (first | refine Walk.cx ?_ | (refine Walk.cReg ?_; simp only [z134]) | (refine Walk.oq ?_; try walk_nrm) | (refine Walk.un ?_; walk_nrm))
    refine Walk.ret1 rfl rfl Try.func134 rfl fun d => ⟨⟨some ⟨T, 0, none⟩, 0, rfl, Nat.zero_le _, fun _ => ⟨row_same hown fun _ _ => rfl, fun b hb => ?_⟩⟩, ?_, o1⟩
    · have hb : some T = some b := hb
      obtain rfl := Option.some.inj hb
      exact ⟨Nat.le_refl _, show T < w1.heap.size by omega⟩
    · show T ≤ w1.heap.size
      omega
  | cons z l =>
    obtain ⟨b, off, rfl, _⟩ := hcells1 0 z rfl
    repeat (first | refine Walk.cx ?_ | (refine Walk.cReg ?_; simp only [z134]) | (refine Walk.oq ?_; try walk_nrm) | (refine Walk.un ?_; walk_nrm))
    refine Walk.append (.tmp 5) (.tmp 6) 28 (ho_of (by conv => lhs; whnf) (by kernel_rfl)) (by rfl) (by decide) rfl T 2 _ (.int .i64 0) 1 8 huI64s hi1.symm (by rfl) (by rfl) (by rfl) (by rfl) (by decide) (.slice (some ⟨T, 0, none⟩) 0 0) 0 [] rfl hown ⟨b, off, none⟩ (z :: l).length c ((z :: l).map fun z => .int .i64 z) rfl (by simp) (fun j u hu => ?_) (fun u hu => ?_) (by simp) (by simp only [maxLen]; omega) (by omega) (by omega) (fun g hg => ?_) (fun g cap w' hown' hgr hat hlt => ?_)
    · rw [List.getElem?_map, Option.map_eq_some_iff] at hu
      obtain ⟨y, hy, rfl⟩ := hu
      obtain ⟨b', off', e, h⟩ := hcells1 j y hy
      obtain ⟨rfl, rfl, _⟩ := Addr.mk.inj e
      rw [add_none]; exact h
    · obtain ⟨y, _, rfl⟩ := List.mem_map.1 hu
      rfl
    · simp only [Value.ownBlock, Option.some.injEq] at hg
      rw [← hg]; exact hap
    · walk_nrm
      repeat (first | refine Walk.cx ?_ | (refine Walk.cReg ?_; simp only [z134]) | (refine Walk.oq ?_; try walk_nrm) | (refine Walk.un ?_; walk_nrm))
      have hgT : T ≤ g := by
        rcases hat with h | h
        · simp only [Value.ownBlock, Option.some.injEq] at h
          omega
        · omega
      refine Walk.ret1 rfl rfl Try.func134 rfl fun d => ⟨⟨some ⟨g, 0, none⟩, cap, by simp, h63, fun _ => ⟨?_, fun b' hb' => ?_⟩⟩, ?_, fun b' hb' => ?_⟩
      · have h := hown'
        simp only [Nat.zero_add, List.nil_append] at h
        exact row_same h fun _ _ => rfl
      · have hb' : some g = some b' := hb'
        obtain rfl := Option.some.inj hb'
        exact ⟨hgT, hlt⟩
      · show T ≤ w'.heap.size
        have := hgr.size; omega
      · exact (hgr.block b' (by omega) (by simp [Value.ownBlock]; omega)).trans (o1 b' hb')
theorem clone_w (w : World) (sl : Value) (l : List Int) (hl : LsR sl l w) (h63 : l.length ≤ 1048576) (hA : ∀ b, w.heap.size ≤ b → Apart V b) :
    CallW Try.prog main V 134 #[sl] w (fun v w' => LsAt w.heap.size (fun b => w.heap.size ≤ b ∧ b < w'.heap.size) v l w' ∧ w.heap.size ≤ w'.heap.size ∧ ∀ b, b < w.heap.size → w'.heap[b]? = w.heap[b]?) := by
  obtain ⟨a, c, rfl, hc, hn, hcells⟩ := hl
  cases a with
  | none =>
    obtain rfl := hn rfl
    have h0 : l.length = 0 := Nat.le_zero.1 hc
    rw [h0]
    intro fr cs
    refine (clone_nil w fr cs).mono ?_
    rintro g w' ⟨v, ⟨rfl, d, rfl⟩, rfl⟩
    exact ⟨_, ⟨⟨none, 0, by rw [h0], by omega, fun _ => ⟨by rw [List.eq_nil_of_length_eq_zero h0]; exact ⟨rfl, .inl ⟨rfl, rfl⟩⟩, fun b h => by simp [Value.ownBlock] at h⟩⟩, Nat.le_refl _, fun _ _ => rfl⟩, rfl⟩
  | some a => exact clone_some w a c l h63 hA hcells
end
theorem setRow_self {w : World} {g : Nat} {old cells : Array Value} {tt : TypeId} {fr : Nat × Nat} (h : w.heap[g]? = some (.cells old tt fr)) : (w.setRow g cells).heap[g]? = some (.cells cells tt fr) := setRow_heap w g old cells tt fr h
theorem setRow_other (w : World) {g b : Nat} (cells : Array Value) (h : b ≠ g) : (w.setRow g cells).heap[b]? = w.heap[b]? := by
  unfold World.setRow
  simp only [Array.getElem?_modify]
  rw [if_neg (Ne.symm h)]
theorem setRow_size (w : World) (g : Nat) (cells : Array Value) : (w.setRow g cells).heap.size = w.heap.size := by
  unfold World.setRow
  simp
end
section
def runN (L : La) : Nat → L.Sg × (Ans ⊕ L.D) → Option (L.Sg × Ans)
  | _, (s, .inl a) => some (s, a)
  | 0, (_, .inr _) => none
  | n + 1, (s, .inr d) => runN L n (L.act s d)
theorem runN_inl (L : La) (n : Nat) (s : L.Sg) (a : Ans) : runN L n (s, .inl a) = some (s, a) := by cases n <;> rfl
theorem undStepperN : ∃ ms, Try.prog.underlying 113 = some (.interface ms) := by
  have h : (match Try.prog.underlying 113 with | some (.interface _) => true | _ => false) = true := by kernel_rfl
  revert h
  cases Try.prog.underlying 113 with
  | none => simp
  | some d =>
    cases d with
    | interface fs => exact fun _ => ⟨fs, rfl⟩
    | _ => simp
structure NilE (L : La) (y0 : L.Gh) (base : World) (R : L.Sg × Ans) where
  w : World
  y : L.Gh
  s : L.Sg
  tgt : L.Sg × (Ans ⊕ L.D)
  fuel : Nat
  le : L.le y0 y
  inv : L.I y s w
  size : base.heap.size ≤ w.heap.size
  old : ∀ b, b < base.heap.size → ¬ L.sh y0 b → w.heap[b]? = base.heap[b]?
  pub : ∀ b, L.sh y b → b < base.heap.size → L.sh y0 b
  run : runN L fuel tgt = some R
section
variable {L : La} {main : Bool} {V : Nat → Option Wait} {Stop : Goroutine → World → Prop} {cs : List Frame} {y0 : L.Gh} {base : World} {R : L.Sg × Ans}
def nilB (main : Bool) (V : Nat → Option Wait) (Stop : Goroutine → World → Prop) (cs : List Frame) (y0 : L.Gh) (base : World) (R : L.Sg × Ans) : Lb L where
  main := main
  E := NilE L y0 base R
  V := fun _ => V
  Stop := fun _ => Stop
  bot := fun _ => cs
  w := fun e => e.w
  s := fun e => e.s
  gh := fun e => e.y
  tgt := fun e => e.tgt
  fuel := fun e => e.fuel
  mine := fun e b => (base.heap.size ≤ b ∧ b < e.w.heap.size) ∧ ¬ L.sh e.y b
theorem nil_step (e : NilE L y0 base R) (d : L.D) (ht : e.tgt = (e.s, .inr d)) (fr : Frame) (l : List Frame) (hk : ∀ e' : NilE L y0 base R, Aft (nilB main V Stop cs y0 base R) e d e' → LW (nilB main V Stop cs y0 base R) e' (G (fr.finish (.tuple #[])) (l ++ cs))) :
    LW (nilB main V Stop cs y0 base R) e (G (Frame.enter Try.prog 78 #[.nilIface] .normal) (fr :: (l ++ cs))) := by
  obtain ⟨ms, hu⟩ := undStepperN
  have hn1 := fun w => run_neq_nilIface (P := Try.prog) (w := w) 113 hu
  have hn2 := fun w es => ev_neq_nilIface (P := Try.prog) (w := w) 113 es hu
  obtain ⟨n, hn, hr⟩ : ∃ n, e.fuel = n + 1 ∧ runN L n (L.act e.s d) = some R := by
    have h := e.run
    rw [ht] at h
    cases hf : e.fuel with
    | zero => rw [hf] at h; cases h
    | succ n => rw [hf] at h; exact ⟨n, rfl, h⟩
  have hh := hk { w := e.w, y := e.y, s := e.s, tgt := L.act e.s d, fuel := n, le := e.le, inv := e.inv, size := e.size, old := e.old, pub := e.pub, run := hr } ⟨rfl, show n < e.fuel by omega, L.refl _, Nat.le_refl _, fun b h => ⟨h, rfl⟩⟩
  unfold LW at hh ⊢
  show Walk Try.prog main (DR V) Stop _ e.w
  replace hh : Walk Try.prog main (DR V) Stop (G (fr.finish (.tuple #[])) (l ++ cs)) e.w := hh
  rw [enter_at _ Try.func78 code78_is]
  simp only [Try.ntmps78, ez, Nat.reduceAdd, Nat.reduceSub]
  repeat (first | refine Walk.cx ?_ | (refine Walk.cReg ?_; simp only [z78]) | (refine Walk.oq ?_; try walk_nrm) | (refine Walk.un ?_; walk_nrm))
  exact Walk.on0 rfl rfl Try.func78 rfl hh
theorem nil_mine {y0 y' : L.Gh} {base : World} {e : NilE L y0 base R} {w' : World} {b : Nat} (hle : L.le e.y y') (hs : e.w.heap.size ≤ w'.heap.size) : ((base.heap.size ≤ b ∧ b < w'.heap.size) ∧ ¬ L.sh y' b) ↔ ((((base.heap.size ≤ b ∧ b < e.w.heap.size) ∧ ¬ L.sh e.y b) ∨ (e.w.heap.size ≤ b ∧ b < w'.heap.size)) ∧ ¬ L.sh y' b) := by
  have := e.size
  constructor
  · rintro ⟨⟨a, b'⟩, hn⟩
    refine ⟨?_, hn⟩
    by_cases hb : b < e.w.heap.size
    · exact .inl ⟨⟨a, hb⟩, fun h => hn (L.mono hle h)⟩
    · exact .inr ⟨by omega, b'⟩
  · rintro ⟨⟨⟨a, b'⟩, _⟩ | ⟨a, b'⟩, hn⟩
    · exact ⟨⟨a, by omega⟩, hn⟩
    · exact ⟨⟨by omega, b'⟩, hn⟩
def nilL (hA : ∀ b, Apart V b) (main : Bool) (Stop : Goroutine → World → Prop) (cs : List Frame) (y0 : L.Gh) (base : World) (R : L.Sg × Ans) : Lg L .nilIface where
  toLb := nilB main V Stop cs y0 base R
  one := rfl
  inv := fun e => e.inv
  shA := fun _ b _ => hA b
  mineA := fun e b h => ⟨hA b, h.2, h.1.2⟩
  newA := fun _ b _ => hA b
  mg := fun e y' s' w' h0 h1 h2 h3 h4 => ⟨{ w := w', y := y', s := s', tgt := e.tgt, fuel := e.fuel, le := L.trans e.le h0, inv := h3, size := Nat.le_trans e.size h1, old := fun b hb hs => (h2 b (Nat.lt_of_lt_of_le hb e.size) (fun hm => by have := hm.1.1; omega) (fun hm => hs (e.pub b hm hb))).trans (e.old b hb hs), pub := fun b hb hlt => (h4 b hb).elim (fun h => e.pub b h hlt) fun h => h.elim (fun h => absurd h.1.1 (Nat.not_le_of_lt hlt)) fun h => absurd (Nat.le_trans e.size h) (Nat.not_le_of_lt hlt), run := e.run }, rfl, rfl, rfl, rfl, rfl, rfl, rfl, rfl, fun b => nil_mine h0 h1⟩
  step := fun e d ht fr l _ _ hk => nil_step e d ht fr l hk
structure Lone (L : La) (y0 : L.Gh) (w : World) (R : L.Sg × Ans) (w' : World) (y : L.Gh) : Prop where
  le : L.le y0 y
  I : L.I y R.1 w'
  size : w.heap.size ≤ w'.heap.size
  old : ∀ b, b < w.heap.size → ¬ L.sh y0 b → w'.heap[b]? = w.heap[b]?
  pub : ∀ b, L.sh y b → b < w.heap.size → L.sh y0 b
variable {b : Frame} {a : Act} {k : List Item} {ops : Array Oper} {i : Nat} {rest : List Nat} {o : Oper} {w : World}
theorem Walk.callLone {f : FuncId} {fn : Func} {args : Array Operand} {ats : Array TypeId} {Rel : Value → Ans → World → (Nat → Prop) → Prop} (N : Nat) (y0 : L.Gh) (s : L.Sg) (r0 : Ans ⊕ L.D) (hA : ∀ b, Apart V b) (hI : L.I y0 s w) (hrun : runN L N (s, r0) = some R)
    (hc : ∀ (K : Lg L .nilIface) (e : K.E), K.tgt e = (K.s e, r0) → SCall K.toLb f (args.map a.eval) e (fun v e' => ∃ x, Rel v x (K.w e') (K.mine e') ∧ K.tgt e' = (K.s e', .inl x)))
    (ho : ops[i]? = some o) (hw : Region.wanted o (yielded ops a.tmps) = true) (hk : b.kind ≠ .early) (hop : o.op = .call { callee := .value (.func f), args, argTypes := ats })
    (hf : Try.prog.funcs[f]? = some fn) (hname : (fn.name == "runtime.NumGoroutine") = false) (hb : fn.body.isNone = false) (hp : Plain (b.at a (.inRegion ops (i :: rest) :: k)))
    (h : ∀ v w' y, Rel v R.2 w' (fun b => (w.heap.size ≤ b ∧ b < w'.heap.size) ∧ ¬ L.sh y b) → Lone L y0 w R w' y → Walk Try.prog main (DR V) Stop (G (b.at (a.put o.dst v) (.inRegion ops rest :: k)) cs) w') :
    Walk Try.prog main (DR V) Stop (G (b.at a (.inRegion ops (i :: rest) :: k)) cs) w := by
  refine Walk.callE ho hw hk hop hf hname hb ?_
  have key := hc (nilL (V := V) hA main Stop cs y0 w R) { w := w, y := y0, s := s, tgt := (s, r0), fuel := N, le := L.refl _, inv := hI, size := Nat.le_refl _, old := fun _ _ _ => rfl, pub := fun _ h _ => h, run := hrun } rfl (b.at a (.inRegion ops (i :: rest) :: k)) [] hp (fun _ h => by cases h) ?_
  · exact key
  · rintro v e' ⟨x, hr, ht⟩
    have hrn := e'.run
    have ht : e'.tgt = (e'.s, .inl x) := ht
    rw [ht, runN_inl] at hrn
    have hR := Option.some.inj hrn
    have r1 : R.1 = e'.s := (congrArg Prod.fst hR).symm
    have r2 : R.2 = x := (congrArg Prod.snd hR).symm
    have := h v e'.w e'.y (by rw [r2]; exact hr) ⟨e'.le, by rw [r1]; exact e'.inv, e'.size, e'.old, e'.pub⟩
    rw [Frame.finish_at, ho]
    exact this
end
end
section
def CallP (main : Bool) (V : Nat → Option Wait) (f : FuncId) (args : Array Value) (w : World) (Post : Value → World → Prop) : Prop :=
  ∀ (c : Frame) (cs : List Frame), Plain c → Walk Try.prog main (DR V) (fun g w' => ∃ v, Post v w' ∧ g = G (c.finish v) cs) (G (Frame.enter Try.prog f args .normal) (c :: cs)) w
section
variable {main : Bool} {V : Nat → Option Wait} {Stop : Goroutine → World → Prop} {w : World} {b : Frame} {a : Act} {k : List Item} {cs : List Frame} {ops : Array Oper} {i : Nat} {rest : List Nat} {o : Oper}
theorem CallP.mono {f : FuncId} {args : Array Value} {Post Post' : Value → World → Prop} (h : CallP main V f args w Post) (hP : ∀ v w', Post v w' → Post' v w') : CallP main V f args w Post' :=
  fun c cs hp => (h c cs hp).mono fun g w' ⟨v, hv, e⟩ => ⟨v, hP v w' hv, e⟩
theorem Walk.callP {f : FuncId} {fn : Func} {args : Array Operand} {ats : Array TypeId} {Post : Value → World → Prop} (hc : CallP main V f (args.map a.eval) w Post) (ho : ops[i]? = some o) (hw : Region.wanted o (yielded ops a.tmps) = true) (hk : b.kind ≠ .early) (hop : o.op = .call { callee := .value (.func f), args, argTypes := ats })
    (hf : Try.prog.funcs[f]? = some fn) (hname : (fn.name == "runtime.NumGoroutine") = false) (hb : fn.body.isNone = false) (hp : Plain (b.at a (.inRegion ops (i :: rest) :: k)))
    (h : ∀ v w', Post v w' → Walk Try.prog main (DR V) Stop (G (b.at (a.put o.dst v) (.inRegion ops rest :: k)) cs) w') : Walk Try.prog main (DR V) Stop (G (b.at a (.inRegion ops (i :: rest) :: k)) cs) w := by
  refine Walk.callE ho hw hk hop hf hname hb ((hc _ cs hp).then ?_)
  rintro _ w' ⟨v, hv, rfl⟩
  rw [Frame.finish_at, ho]
  exact h v w' hv
theorem CallP.lone {L : La} {f : FuncId} {args : Array Value} {Rel : Value → Ans → World → (Nat → Prop) → Prop} {R : L.Sg × Ans} (N : Nat) (y0 : L.Gh) (s : L.Sg) (r0 : Ans ⊕ L.D) (hat : ∀ v x w' P d, Rel v x w' P → Rel v x (w'.at d) P) (hA : ∀ b, Apart V b) (hI : L.I y0 s w) (hrun : runN L N (s, r0) = some R)
    (hc : ∀ (K : Lg L .nilIface) (e : K.E), K.w e = w → K.tgt e = (K.s e, r0) → SCall K.toLb f args e (fun v e' => ∃ x, Rel v x (K.w e') (K.mine e') ∧ K.tgt e' = (K.s e', .inl x))) :
    CallP main V f args w (fun v w' => ∃ y, Rel v R.2 w' (fun b => (w.heap.size ≤ b ∧ b < w'.heap.size) ∧ ¬ L.sh y b) ∧ Lone L y0 w R w' y) := by
  intro c cs hp
  have key := hc (nilL (V := V) hA main (fun g w' => ∃ v, (∃ y, Rel v R.2 w' (fun b => (w.heap.size ≤ b ∧ b < w'.heap.size) ∧ ¬ L.sh y b) ∧ Lone L y0 w R w' y) ∧ g = G (c.finish v) cs) cs y0 w R) { w := w, y := y0, s := s, tgt := (s, r0), fuel := N, le := L.refl _, inv := hI, size := Nat.le_refl _, old := fun _ _ _ => rfl, pub := fun _ h _ => h, run := hrun } rfl rfl c [] hp (fun _ h => by cases h) ?_
  · exact key
  · rintro v e' ⟨x, hr, ht⟩
    have hrn := e'.run
    have ht : e'.tgt = (e'.s, .inl x) := ht
    rw [ht, runN_inl] at hrn
    have hR := Option.some.inj hrn
    have r1 : R.1 = e'.s := (congrArg Prod.fst hR).symm
    have r2 : R.2 = x := (congrArg Prod.snd hR).symm
    refine .stop fun d => ⟨v, ⟨e'.y, ?_, ⟨e'.le, ?_, e'.size, fun b h1 h2 => e'.old b h1 h2, e'.pub⟩⟩, rfl⟩
    · rw [r2]
      exact hat _ _ _ _ d hr
    · rw [r1]; exact L.stable e'.inv fun _ _ => rfl
end
end
section
def DoOK (L : La) (f : FuncId) (first cap : Array Value) : Prop := ∀ (sv : Value) (K : Lg L sv) (e : K.E) (th : Int) (op : OpV), K.tgt e = L.enter (K.s e) th op →
  SCall K.toLb f (first ++ #[sv, .int .i64 th, opVal op] ++ cap) e (fun v e' => ∃ a sl, K.tgt e' = (K.s e', .inl a) ∧ v = ansV a sl ∧ LsR sl a.l (K.w e') ∧ a.l.length ≤ 1048576)
noncomputable def reg110_0 := rg Try.f110.body [0]
noncomputable def reg110_1 := rg Try.f110.body [1, 0, 0]
noncomputable def reg110_2 := rg Try.f110.body [1, 0, 1, 0, 0]
noncomputable def reg110_3 := rg Try.f110.body [1, 1, 0]
noncomputable def reg110_4 := rg Try.f110.body [1, 1, 1, 0]
noncomputable def reg110_5 := rg Try.f110.body [1, 1, 1, 1, 0]
theorem z110 : List.range reg110_0.size = [0, 1] ∧ List.range reg110_1.size = [0, 1] ∧ List.range reg110_2.size = [0, 1] ∧ List.range reg110_3.size = [0, 1, 2, 3, 4, 5, 6] ∧ List.range reg110_4.size = [0, 1, 2, 3, 4] ∧ List.range reg110_5.size = [0, 1] := by refine ⟨?_, ?_, ?_, ?_, ?_, ?_⟩ <;> kernel_rfl
theorem code110_is : Try.f110.body = some (.seq (.region 0 reg110_0 false) (.seq (.seq (.region 1 reg110_1 false) (.cond (.tmp 11 ) (.seq (.region 2 reg110_2 false) (.ret)) (.skip))) (.seq (.region 3 reg110_3 false) (.seq (.region 4 reg110_4 false) (.seq (.region 5 reg110_5 false) (.ret)))))) := by kernel_rfl
section
variable {L : La} {sv : Value}
theorem doOne_s (K : Lg L sv) (e : K.E) (op : OpV) (th : Int) (f : FuncId) (fn : Func) (first cap : Array Value) (hf : Try.prog.funcs[f]? = some fn) (hname : (fn.name == "runtime.NumGoroutine") = false) (hb : fn.body.isNone = false) (hdo : DoOK L f first cap) (ht : K.tgt e = L.enter (K.s e) th op) :
    SCall K.toLb 110 #[.func (.func f) first cap, sv, .int .i64 th, opVal op] e (fun v e' => ∃ a sl, K.tgt e' = (K.s e', .inl a) ∧ v = ansV a sl ∧ LsAt (K.w e).heap.size (K.mine e') sl a.l (K.w e')) := by
  intro fr l hp hl hk
  obtain ⟨fsO, huO⟩ := structT 84 (by kernel_rfl)
  obtain ⟨fsA, huA⟩ := structT 81 (by kernel_rfl)
  have hn1 := fun w => run_eql_func (P := Try.prog) (w := w) 119 (.func f) first cap (by kernel_rfl : Try.prog.underlying 119 = some (.func #[113, 3, 84] #[81] false))
  have hn2 := fun w es => ev_eql_func (P := Try.prog) (w := w) 119 (.func f) first cap es (by kernel_rfl : Try.prog.underlying 119 = some (.func #[113, 3, 84] #[81] false))
  unfold LW
  obtain ⟨ok, oa, ob, oc⟩ := op
  simp only [opVal] at *
  rw [enter_at _ Try.func110 code110_is]
  simp only [Try.ntmps110, ez, Nat.reduceAdd, Nat.reduceSub]
  repeat (first | refine Walk.cx ?_ | (refine Walk.cReg ?_; simp only [z110]) | (refine Walk.oq ?_; try walk_nrm) | (refine Walk.un ?_; walk_nrm))
  (refine Walk.oa ?_; try walk_nrm)
  (refine Walk.oa ?_; try walk_nrm)
  repeat (first | refine Walk.cx ?_ | (refine Walk.cReg ?_; simp only [z110]) | (refine Walk.oq ?_; try walk_nrm) | (refine Walk.un ?_; walk_nrm))
  have hsz : (((K.w e).alloc (.cells #[.int .i64 ok, .int .i64 oa, .int .i64 ob, .int .i64 oc] 84)).alloc (.cells #[.bool false, .int .i64 0, .slice none 0 0] 81)).heap.size = (K.w e).heap.size + 2 := by simp
  have hA1 : ((K.w e).alloc (.cells #[.int .i64 ok, .int .i64 oa, .int .i64 ob, .int .i64 oc] 84)).heap.size = (K.w e).heap.size + 1 := by simp
  have c1 : (((K.w e).alloc (.cells #[.int .i64 ok, .int .i64 oa, .int .i64 ob, .int .i64 oc] 84)).alloc (.cells #[.bool false, .int .i64 0, .slice none 0 0] 81)).heap[(K.w e).heap.size]? = some (.cells #[.int .i64 ok, .int .i64 oa, .int .i64 ob, .int .i64 oc] 84) := by
    rw [heap_new_lt _ _ (by omega)]
    exact heap_alloc_new _ _
  have c2 : (((K.w e).alloc (.cells #[.int .i64 ok, .int .i64 oa, .int .i64 ob, .int .i64 oc] 84)).alloc (.cells #[.bool false, .int .i64 0, .slice none 0 0] 81)).heap[(K.w e).heap.size + 1]? = some (.cells #[.bool false, .int .i64 0, .slice none 0 0] 81) := by
    have := heap_alloc_new ((K.w e).alloc (.cells #[.int .i64 ok, .int .i64 oa, .int .i64 ob, .int .i64 oc] 84)) (.cells #[.bool false, .int .i64 0, .slice none 0 0] 81)
    rwa [hA1] at this
  obtain ⟨e1, m1⟩ := K.grow e (w' := ((K.w e).alloc (.cells #[.int .i64 ok, .int .i64 oa, .int .i64 ob, .int .i64 oc] 84)).alloc (.cells #[.bool false, .int .i64 0, .slice none 0 0] 81)) (by omega) (fun b hb' => by
    rw [heap_new_lt _ _ (by omega)]
    exact heap_new_lt _ _ hb')
  try simp only [hA1]
  generalize hw2 : ((K.w e).alloc (.cells #[.int .i64 ok, .int .i64 oa, .int .i64 ob, .int .i64 oc] 84)).alloc (.cells #[.bool false, .int .i64 0, .slice none 0 0] 81) = w2 at *
  generalize hN : (K.w e).heap.size = N at *
  refine Walk.loadS 84 (.tmp 7) (ho_of (by conv => lhs; whnf) (by kernel_rfl)) (by rfl) (by decide) rfl N 0 [.int .i64 ok, .int .i64 oa, .int .i64 ob, .int .i64 oc] (.struct fsO) rfl (fun j v hj => ?_) huO rfl (by kernel_rfl) ?_
  · rw [Nat.zero_add, cell_of c1]
    simpa using hj
  walk_nrm
  repeat (first | refine Walk.cx ?_ | (refine Walk.cReg ?_; simp only [z110]) | (refine Walk.oq ?_; try walk_nrm) | (refine Walk.un ?_; walk_nrm))
  refine Walk.ctl rfl (fun w' => stepG_callValue (ho_of (by conv => lhs; whnf) (by kernel_rfl)) (by rfl) (by decide) rfl rfl hf hname hb) ?_
  walk_nrm
  generalize hX : Frame.at _ _ _ = X
  refine LW.to (l := X :: fr :: l) m1 ?_
  have hpX : Plain X := by subst hX; exact ⟨rfl, rfl, _, Try.func110⟩
  have hpl : ∀ x ∈ fr :: l, Plain x := fun x hx => by
    rcases List.mem_cons.1 hx with rfl | hx
    · exact hp
    · exact hl x hx
  refine (SCall.fz K (hdo sv (Fz K e1) (fz0 K e1) th ⟨ok, oa, ob, oc⟩ (by show K.tgt e1 = L.enter (K.s e1) _ _; rw [m1.tgt, m1.s, ht]))) X (fr :: l) hpX hpl ?_
  rintro v e2 ⟨hkept, a, sl, ht2, rfl, hls, hlsn⟩
  replace hls : LsR sl a.l (K.w e2) := hls
  obtain ⟨hm2, hb2⟩ := hkept (N + 1) (m1.new (by omega) (by omega))
  rw [m1.w, c2] at hb2
  have hap2 := (K.mineA e2 _ hm2).1
  have hlt2 := (K.mineA e2 _ hm2).2.2
  rw [← hX]
  clear hX hpX
  unfold LW
  simp only [ansV]
  refine Walk.finish (ho_of (by conv => lhs; whnf) (by kernel_rfl)) ?_
  walk_nrm
  (refine Walk.oa ?_; try walk_nrm)
  have hap3 := K.newA e2 _ (Nat.le_refl (K.w e2).heap.size)
  have c3 := heap_alloc_new (K.w e2) (.cells #[.bool false, .int .i64 0, .slice none 0 0] 81)
  have c4 : ((K.w e2).alloc (.cells #[.bool false, .int .i64 0, .slice none 0 0] 81)).heap[N + 1]? = _ := (heap_new_lt _ _ hlt2).trans hb2
  have hs3 : ((K.w e2).alloc (.cells #[.bool false, .int .i64 0, .slice none 0 0] 81)).heap.size = (K.w e2).heap.size + 1 := by simp
  have o3 : ∀ b, b < (K.w e2).heap.size → ((K.w e2).alloc (.cells #[.bool false, .int .i64 0, .slice none 0 0] 81)).heap[b]? = (K.w e2).heap[b]? := fun b hb' => heap_new_lt _ _ hb'
  generalize hM : (K.w e2).heap.size = M at *
  generalize (K.w e2).alloc (.cells #[.bool false, .int .i64 0, .slice none 0 0] 81) = w3 at *
  refine Walk.storeS 81 (.tmp 9) (.tmp 17) (ho_of (by conv => lhs; whnf) (by kernel_rfl)) (by rfl) (by decide) rfl M #[.bool a.ok, .int .i64 a.n, sl] _ 81 rfl rfl c3 (by kernel_rfl) (by rfl) (by rcases hls with ⟨_, _, rfl, _⟩; simp [Value.oneCell']) hap3 ?_
  have c5 := setRow_self (cells := #[.bool a.ok, .int .i64 a.n, sl]) c3
  have c6 : (w3.setRow M #[.bool a.ok, .int .i64 a.n, sl]).heap[N + 1]? = _ := (setRow_other w3 _ (show N + 1 ≠ M by omega)).trans c4
  have hs4 := setRow_size w3 M #[.bool a.ok, .int .i64 a.n, sl]
  have o4 : ∀ b, b < M → (w3.setRow M #[.bool a.ok, .int .i64 a.n, sl]).heap[b]? = (K.w e2).heap[b]? := fun b hb' => (setRow_other w3 _ (show b ≠ M by omega)).trans (o3 b hb')
  generalize w3.setRow M #[.bool a.ok, .int .i64 a.n, sl] = w4 at *
  have hle3 := hls.same (w' := w4) (fun b hb' => o4 b (by omega))
  have d2 := cell_of c5 2
  have z2 := frozen_of c5 2
  simp only [List.getElem?_toArray, List.getElem?_cons_succ, List.getElem?_cons_zero] at d2
  have hs4' : w4.heap.size = M + 1 := by omega
  walk_nrm
  repeat (first | refine Walk.cx ?_ | (refine Walk.cReg ?_; simp only [z110]) | (refine Walk.oq ?_; try walk_nrm) | (refine Walk.un ?_; walk_nrm))
  refine Walk.callW (Post := fun v w' => LsAt w4.heap.size (fun b => w4.heap.size ≤ b ∧ b < w'.heap.size) v a.l w' ∧ w4.heap.size ≤ w'.heap.size ∧ ∀ b, b < w4.heap.size → w'.heap[b]? = w4.heap[b]?) ?_ (ho_of (by conv => lhs; whnf) (by kernel_rfl)) (by rfl) (by decide) rfl Try.func134 (by kernel_rfl) (by rfl) ?_
  · walk_nrm
    exact clone_w w4 sl a.l hle3 hlsn (fun b hb => K.newA e2 b (by omega))
  rintro sl' w4' ⟨hls', hs4'', o4''⟩
  obtain ⟨sa, sc, rfl⟩ : ∃ sa sc, sl' = .slice sa a.l.length sc := by
    obtain ⟨x, y, h, _⟩ := hls'
    exact ⟨x, y, h⟩
  have c5' := (o4'' M (by omega)).trans c5
  have d2' := cell_of c5' 2
  have z2' := frozen_of c5' 2
  simp only [List.getElem?_toArray, List.getElem?_cons_succ, List.getElem?_cons_zero] at d2'
  clear d2 z2
  have d2 := d2'
  have z2 := z2'
  clear d2' z2'
  walk_nrm
  repeat (first | refine Walk.cx ?_ | (refine Walk.cReg ?_; simp only [z110]) | (refine Walk.oq ?_; try walk_nrm) | (refine Walk.un ?_; walk_nrm))
  (have hfr := hap3.1 ⟨M, 2, none⟩ rfl; refine Walk.os hfr d2 ?_; clear hfr; try walk_nrm)
  have c7 : (w4'.setCell ⟨M, 2, none⟩ (.slice sa a.l.length sc)).heap[M]? = some (.cells #[.bool a.ok, .int .i64 a.n, (.slice sa a.l.length sc)] 81) := by
    rw [heap_set_self _ _ c5']
    simp
  have c8 : (w4'.setCell ⟨M, 2, none⟩ (.slice sa a.l.length sc)).heap[N + 1]? = _ := (heap_set_other w4' _ _ _ (show N + 1 ≠ M by omega)).trans ((o4'' _ (by omega)).trans c6)
  have hs5 := size_set w4' ⟨M, 2, none⟩ (.slice sa a.l.length sc)
  have o5 : ∀ b, b < M → (w4'.setCell ⟨M, 2, none⟩ (.slice sa a.l.length sc)).heap[b]? = (K.w e2).heap[b]? := fun b hb' => (heap_set_other w4' _ _ _ (show b ≠ M by omega)).trans ((o4'' b (by omega)).trans (o4 b hb'))
  have hls5 := hls'.same (w' := w4'.setCell ⟨M, 2, none⟩ (.slice sa a.l.length sc)) (fun b hb' => heap_set_other w4' _ _ _ (show b ≠ M by omega))
  generalize w4'.setCell ⟨M, 2, none⟩ (.slice sa a.l.length sc) = w5 at *
  repeat (first | refine Walk.cx ?_ | (refine Walk.cReg ?_; simp only [z110]) | (refine Walk.oq ?_; try walk_nrm) | (refine Walk.un ?_; walk_nrm))
  refine Walk.loadS 81 (.tmp 9) (ho_of (by conv => lhs; whnf) (by kernel_rfl)) (by rfl) (by decide) rfl M 0 [.bool a.ok, .int .i64 a.n, (.slice sa a.l.length sc)] (.struct fsA) rfl (fun j v hj => ?_) huA rfl (by kernel_rfl) ?_
  · rw [Nat.zero_add, cell_of c7]
    simpa using hj
  walk_nrm
  refine Walk.storeS 81 (.tmp 8) (.tmp 22) (ho_of (by conv => lhs; whnf) (by kernel_rfl)) (by rfl) (by decide) rfl (N + 1) #[.bool a.ok, .int .i64 a.n, (.slice sa a.l.length sc)] _ 81 rfl rfl c8 (by kernel_rfl) (by rfl) (by simp [Value.oneCell']) hap2 ?_
  have c9 := setRow_self (cells := #[.bool a.ok, .int .i64 a.n, (.slice sa a.l.length sc)]) c8
  have hls6 := hls5.same (w' := w5.setRow (N + 1) #[.bool a.ok, .int .i64 a.n, (.slice sa a.l.length sc)]) (fun b hb' => setRow_other w5 _ (show b ≠ N + 1 by omega))
  obtain ⟨e3, m3⟩ := K.own e2 (w' := w5.setRow (N + 1) #[.bool a.ok, .int .i64 a.n, (.slice sa a.l.length sc)]) (by rw [setRow_size]; omega) (fun b hb' hbm => (setRow_other w5 _ (fun he : b = N + 1 => hbm (by rw [he]; exact hm2))).trans (o5 b (by omega)))
  have hnew : ∀ b, (w4.heap.size ≤ b ∧ b < w4'.heap.size) → K.mine e3 b := fun b hb => (m3.mine b).2 (.inr ⟨by omega, by rw [setRow_size]; omega⟩)
  generalize w5.setRow (N + 1) #[.bool a.ok, .int .i64 a.n, (.slice sa a.l.length sc)] = w6 at *
  walk_nrm
  repeat (first | refine Walk.cx ?_ | (refine Walk.cReg ?_; simp only [z110]) | (refine Walk.oq ?_; try walk_nrm) | (refine Walk.un ?_; walk_nrm))
  refine Walk.onCell (T := N + 1) rfl rfl rfl Try.func110 rfl (by rfl) c9 (by kernel_rfl) (by kernel_rfl) ?_
  refine LW.to m3 (hk _ e3 ⟨a, (.slice sa a.l.length sc), ?_, rfl, ?_⟩)
  · rw [m3.tgt, m3.s]
    exact ht2
  · rw [m3.w]
    exact (hls6.imp hnew).low (by omega)
end
end
end Go.Proofs.Ytgfajibjedfkdaa
