/- Part 10. -/
import Derived.Test.YtcdcnmphjhfbpaaJ3
import Derived.Test.YtcdcnmphjhfbpaaJ9
set_option linter.unusedSimpArgs false
set_option linter.unusedVariables false
set_option maxHeartbeats 8000000
set_option maxRecDepth 100000
namespace Go.Proofs.Ytcdcnmphjhfbpaa
open Go.Conc Go.RowKit Go.Relay
open Go.ConcN (upd upd_ne upd_same)
section
noncomputable def reg120_0 := rk Try.f120.body 0
noncomputable def reg120_1 := rk Try.f120.body 1
theorem z120 : reg120_0.size = 2 /\ reg120_1.size = 2 := by and_intros <;> kernel_rfl
theorem code120_is : Try.f120.body = some (.seq (.region 0 reg120_0 false) (.cond (.tmp 3 ) (.region 1 reg120_1 false) (.skip))) := by kernel_rfl
theorem undStepper : ∃ ms, Try.prog.underlying 137 = some (.interface ms) := by
 have h : (match Try.prog.underlying 137 with | some (.interface _) => true | _ => false) = true := by kernel_rfl
 revert h
 cases Try.prog.underlying 137 with
 | none => simp
 | some d =>
  cases d with
  | interface fs => exact fun _ => ⟨fs, rfl⟩
  | _ => simp
structure EC (L : La) (g : OG) (S : Stile) (i : Nat) where
 τ : Tn L
 N : Nat
 w : World
 y : L.Gh
 s : L.Sg
 ans : List Ans
 hd : Value
 le : L.le τ.y y
 size : τ.w.heap.size <= w.heap.size
 frame : ∀ b, b < τ.w.heap.size -> ¬ τ.M b -> ¬ L.sh τ.y b -> b ≠ g.A -> w.heap[b]? = τ.w.heap[b]?
 pub : ∀ b, L.sh y b -> L.sh τ.y b ∨ τ.M b ∨ τ.w.heap.size <= b
 rely : ∃ hd0, Rely L g i τ.V τ.y τ.w hd0 τ.M
 an : AnT g i τ.w w hd
 row : RowA g.w0.heap.size (Cq τ y w) hd ans w
 inv : L.I y s w
structure OC where
 left : List OpV
 ans : List Ans
 hd : Value
 K : Nat -> Prop
 wK : World
structure EO (L : La) (g : OG) (S : Stile) (i : Nat) (c : OC) extends EC L g S i where
 tgt : L.Sg × (Ans ⊕ L.D)
 eqA : ans = c.ans
 eqH : hd = c.hd
 goal : τ.goal = Ch L (i : Nat) tgt c.left ans
 Kown : ∀ b, c.K b -> Cq τ y w b
 kept : ∀ b, c.K b -> w.heap[b]? = c.wK.heap[b]?
 rowK : RowA g.w0.heap.size c.K hd ans w
section
variable {L : La} {g : OG} {S : Stile} {i : Nat} {c : OC}
theorem EC.lo (e : EC L g S i) {b : Nat} (h : Cq e.τ e.y e.w b) : g.w0.heap.size <= b /\ b < e.w.heap.size := by
 obtain ⟨hd0, r⟩ := e.rely
 have := e.size
 rcases h.1 with h | h
 ·have := r.lo b h; omega
 ·have := r.size; omega
theorem EC.noA (e : EC L g S i) {b : Nat} (h : Cq e.τ e.y e.w b) : ¬ L.sh e.y b /\ b ≠ g.A := by
 obtain ⟨hd0, r⟩ := e.rely
 have h1 := e.lo h
 exact ⟨h.2, fun h => by have := r.alo; omega⟩
theorem EC.shb (e : EC L g S i) {b : Nat} (h : L.sh e.y b) : b ≠ g.A /\ (b < g.w0.heap.size -> g.sh b) := by
 obtain ⟨hd0, r⟩ := e.rely
 rcases e.pub b h with h | h | h
 ·exact ⟨(r.shlo b h).1, (r.shlo b h).2.2⟩
 ·have := r.lo b h; have := r.alo; exact ⟨by omega, fun _ => by omega⟩
 ·have := r.alo; have := r.size; exact ⟨by omega, fun _ => by omega⟩
theorem EC.apart (e : EC L g S i) {b : Nat} (h : b < g.w0.heap.size ∨ Cq e.τ e.y e.w b ∨ e.w.heap.size <= b ∨ L.sh e.y b) : Bd e.τ.V b := by
 obtain ⟨hd0, r⟩ := e.rely
 have := e.size
 refine r.apart b ?_
 rcases h with h | h | h | h
 ·exact .inl h
 ·rcases h.1 with h | h
  ·exact .inr (.inl h)
  ·exact .inr (.inr (.inl h.1))
 ·exact .inr (.inr (.inl (by omega)))
 ·rcases e.pub b h with h | h | h
  ·exact .inr (.inr (.inr h))
  ·exact .inr (.inl h)
  ·exact .inr (.inr (.inl h))
theorem EC.hdo (e : EC L g S i) : ∀ b, e.hd.ownBlock = some b -> Cq e.τ e.y e.w b := e.row.hdo
def Ku (L : La) (g : OG) (S : Stile) (i : Nat) (c : OC) : Lb L where
 main := false
 E := EO L g S i c
 V := fun e => e.τ.V
 Stop := fun e => StopT L g S i (Cont L g S i e.N) e.τ
 bot := fun e => e.τ.f :: e.τ.fs
 w := fun e => e.w
 s := fun e => e.s
 gh := fun e => e.y
 tgt := fun e => e.tgt
 fuel := fun e => e.N
 mine := fun e b => Cq e.τ e.y e.w b /\ ¬ c.K b
theorem EO.mg (e : EO L g S i c) (y' : L.Gh) (s' : L.Sg) (w' : World) (hle : L.le e.y y') (hs : e.w.heap.size <= w'.heap.size) (hsame : ∀ b, b < e.w.heap.size -> ¬ (Cq e.τ e.y e.w b /\ ¬ c.K b) -> ¬ L.sh e.y b -> w'.heap[b]? = e.w.heap[b]?) (hI : L.I y' s' w')
  (hpub : ∀ b, L.sh y' b -> L.sh e.y b ∨ (Cq e.τ e.y e.w b /\ ¬ c.K b) ∨ e.w.heap.size <= b) : ∃ e' : EO L g S i c, Mg (Ku L g S i c) e e' y' s' w' := by
 obtain ⟨hd0, r⟩ := e.rely
 have hK : ∀ b, c.K b -> w'.heap[b]? = e.w.heap[b]? := fun b h => hsame b (e.lo (e.Kown b h)).2 (fun x => x.2 h) (e.noA (e.Kown b h)).1
 have hA : w'.heap[g.A]? = e.w.heap[g.A]? := hsame _ (by have := r.alo; have := r.size; have := e.size; omega) (fun x => by have := (e.lo x.1).1; have := r.alo; omega) (fun h => (e.shb h).1 rfl)
 have hKn : ∀ b, c.K b -> ¬ L.sh y' b := fun b h hs => by
  rcases hpub b hs with h1 | h1 | h1
  ·exact (e.noA (e.Kown b h)).1 h1
  ·exact h1.2 h
  ·have := (e.lo (e.Kown b h)).2; omega
 have hown : ∀ b, Cq e.τ e.y e.w b -> ¬ L.sh y' b -> Cq e.τ y' w' b := fun b h hn => ⟨h.1.imp id fun h => ⟨h.1, by omega⟩, hn⟩
 have hKo : ∀ b, c.K b -> Cq e.τ y' w' b := fun b h => hown b (e.Kown b h) (hKn b h)
 refine ⟨{ τ := e.τ, N := e.N, w := w', y := y', s := s', ans := e.ans, hd := e.hd, le := L.trans e.le hle, size := Nat.le_trans e.size hs, frame := fun b h1 h2 h3 h4 => ?_, pub := fun b h => ?_, rely := e.rely, an := ?_, row := (e.rowK.same hK).imp hKo, inv := hI, tgt := e.tgt, eqA := e.eqA, eqH := e.eqH, goal := e.goal, Kown := hKo, kept := fun b h => (hK b h).trans (e.kept b h), rowK := e.rowK.same hK }, ⟨rfl, rfl, rfl, rfl, rfl, rfl, rfl, rfl, fun b => ?_⟩⟩
 ·refine (hsame b (Nat.lt_of_lt_of_le h1 e.size) (fun x => ?_) (fun x => ?_)).trans (e.frame b h1 h2 h3 h4)
  ·rcases x.1.1 with h | h
   ·exact h2 h
   ·have := h.1; omega
  ·rcases e.pub b x with h | h | h
   ·exact h3 h
   ·exact h2 h
   ·omega
 ·rcases hpub b h with h | h | h
  ·exact e.pub b h
  ·rcases h.1.1 with h | h
   ·exact .inr (.inl h)
   ·exact .inr (.inr h.1)
  ·exact .inr (.inr (Nat.le_trans e.size h))
 ·obtain ⟨arr, arr', h1, h2, h3⟩ := e.an
  exact ⟨arr, arr', h1, hA.trans h2, h3⟩
 ·show (Cq e.τ y' w' b /\ ¬ c.K b) ↔ ((Cq e.τ e.y e.w b /\ ¬ c.K b) ∨ (e.w.heap.size <= b /\ b < w'.heap.size)) /\ ¬ L.sh y' b
  constructor
  ·rintro ⟨⟨h | h, hn⟩, hk⟩
   ·exact ⟨.inl ⟨⟨.inl h, fun hs => hn (L.mono hle hs)⟩, hk⟩, hn⟩
   ·refine ⟨?_, hn⟩
    by_cases hb : b < e.w.heap.size
    ·exact .inl ⟨⟨.inr ⟨h.1, hb⟩, fun hs => hn (L.mono hle hs)⟩, hk⟩
    ·exact .inr ⟨by omega, h.2⟩
  ·rintro ⟨⟨h, hk⟩ | h, hn⟩
   ·exact ⟨hown b h hn, hk⟩
   ·exact ⟨⟨.inr ⟨Nat.le_trans e.size h.1, h.2⟩, hn⟩, fun hk => by have := (e.lo (e.Kown b hk)).2; omega⟩
theorem EO.step (e : EO L g S i c) (d : L.D) (ht : e.tgt = (e.s, .inr d)) (fr : Frame) (l : List Frame) (hp : Cf fr) (hl : ∀ f ∈ l, Cf f) (hk : ∀ e' : EO L g S i c, Aft (Ku L g S i c) e d e' -> LW (Ku L g S i c) e' (G (fr.finish (.tuple #[])) (l ++ e'.τ.f :: e'.τ.fs))) :
  LW (Ku L g S i c) e (G (Frame.enter Try.prog 120 #[.iface 259 (.pointer (some ⟨S.p i, 0, none⟩))] .normal) (fr :: (l ++ e.τ.f :: e.τ.fs))) := by
 obtain ⟨ms, hu⟩ := undStepper
 have hn1 := fun w => Fv (P := Try.prog) (w := w) 137 259 (.pointer (some ⟨S.p i, 0, none⟩)) hu
 have hn2 := fun w es => Gs (P := Try.prog) (w := w) 137 259 (.pointer (some ⟨S.p i, 0, none⟩)) es hu
 unfold LW
 show Walk Try.prog false (DR e.τ.V) (StopT L g S i (Cont L g S i e.N) e.τ) _ e.w
 rw [enter_at _ Try.func120 code120_is]
 simp only [Try.ntmps120, ez, Nat.reduceAdd, Nat.reduceSub]
 refine Aa z120 ?_
 refine Walk.invokeStep (S.p i) Aj (by rfl) (by decide) rfl rfl ?_
 generalize hX : Frame.at _ _ _ = X
 have hgoal : e.τ.goal = (e.s, ⟨c.left, some d, e.ans⟩) := by rw [e.goal, ht]; rfl
 refine .stop fun dr => ⟨e.y, e.le, e.size, e.frame, ?_, e.pub, e.hd, e.an, ?_, .inr ⟨X :: fr :: l, ?_, by simp, ?_, ?_, rfl⟩⟩
 ·rw [hgoal]; exact L.stable e.inv fun _ _ => rfl
 ·rw [hgoal]; exact e.row.same fun _ _ => rfl
 ·rw [hgoal]; rfl
 ·intro x hx
  rcases List.mem_cons.1 hx with rfl | hx
  ·subst hX; exact ⟨rfl, rfl, _, Try.func120⟩
  ·rcases List.mem_cons.1 hx with rfl | hx
   ·exact hp
   ·exact hl x hx
 ·rw [hgoal]
  have hN : ∀ N', e.N = N' -> Cont L g S i N' ⟨c.left, some d, e.ans⟩ (X :: fr :: l) e.y e.hd (Cq e.τ e.y (e.w.at dr)) (e.w.at dr) := fun N' hN' => by
   cases N' with
   | zero => trivial
   | succ n =>
    intro V f fs y' w' s' c1 l' d' h0 h1 h2 h3 h4 h5 h6
    obtain rfl : d = d' := Option.some.inj h5
    obtain ⟨rfl, rfl⟩ := List.cons.inj h6
    rw [<- hX, Frame.finish_at]
    repeat (first | (refine Walk.oq ?_; try walk_nrm) | (refine Bn ?_; walk_nrm))
    refine Aa z120 ?_
    refine Ar rfl rfl Try.func120 rfl ?_
    have hKo : ∀ b, c.K b -> Cq (⟨V, f, fs, w', y', Cq e.τ e.y e.w, Ch L (i : Nat) (L.act s' d) c.left e.ans⟩ : Tn L) y' w' b := fun b h => ⟨.inl (e.Kown b h), (h3.lo b (e.Kown b h)).2.2⟩
    have hKs : ∀ b, c.K b -> w'.heap[b]? = e.w.heap[b]? := fun b h => h2 b (e.Kown b h)
    refine hk { τ := ⟨V, f, fs, w', y', Cq e.τ e.y e.w, Ch L (i : Nat) (L.act s' d) c.left e.ans⟩, N := n, w := w', y := y', s := s', ans := e.ans, hd := e.hd, le := L.refl _, size := Nat.le_refl _, frame := fun _ _ _ _ _ => rfl, pub := fun b h => .inl h, rely := ⟨e.hd, h3⟩, an := ?_, row := (e.rowK.same hKs).imp hKo, inv := h4, tgt := L.act s' d, eqA := e.eqA, eqH := e.eqH, goal := rfl, Kown := hKo, kept := fun b h => (hKs b h).trans (e.kept b h), rowK := e.rowK.same hKs } ⟨rfl, ?_, h0, h1, fun b hb => ⟨⟨⟨.inl hb.1, (h3.lo b hb.1).2.2⟩, hb.2⟩, h2 b hb.1⟩⟩
    ·obtain ⟨arr, ha, hb⟩ := h3.an
     exact ⟨arr, arr, ha, ha, rfl, hb, fun _ _ => rfl⟩
    ·show n < e.N
     omega
  exact hN e.N rfl
def crewL (L : La) (g : OG) (S : Stile) (i : Nat) (c : OC) : Lg L (.iface 259 (.pointer (some ⟨S.p i, 0, none⟩))) where
 toLb := Ku L g S i c
 one := rfl
 inv := fun e => e.inv
 shA := fun e b h => e.apart (.inr (.inr (.inr h)))
 mineA := fun e b h => ⟨e.apart (.inr (.inl h.1)), (e.noA h.1).1, (e.lo h.1).2⟩
 newA := fun e b h => e.apart (.inr (.inr (.inl h)))
 mg := fun e y' s' w' h0 h1 h2 h3 h4 => EO.mg e y' s' w' h0 h1 h2 h3 h4
 step := fun e d ht fr l hp hl hk => EO.step e d ht fr l hp hl hk
end
end
section
section
variable {L : La} {sv : Value}
def FzE (K : Lg L sv) (e0 : K.E) : Type := { e : K.E // ∀ b, K.mine e0 b -> K.mine e b /\ (K.w e).heap[b]? = (K.w e0).heap[b]? }
def FzB (K : Lg L sv) (e0 : K.E) : Lb L where
 main := K.main
 E := FzE K e0
 V := fun e => K.V e.1
 Stop := fun e => K.Stop e.1
 bot := fun e => K.bot e.1
 w := fun e => K.w e.1
 s := fun e => K.s e.1
 gh := fun e => K.gh e.1
 tgt := fun e => K.tgt e.1
 fuel := fun e => K.fuel e.1
 mine := fun e b => K.mine e.1 b /\ ¬ K.mine e0 b
def Fz (K : Lg L sv) (e0 : K.E) : Lg L sv where
 toLb := FzB K e0
 inv := fun e => K.inv e.1
 shA := fun e => K.shA e.1
 mineA := fun e b h => K.mineA e.1 b h.1
 newA := fun e => K.newA e.1
 one := K.one
 mg := fun e y' s' w' h0 h1 h2 h3 h4 => by
  have hz : ∀ b, K.mine e0 b -> b < (K.w e.1).heap.size /\ w'.heap[b]? = (K.w e.1).heap[b]? := fun b h => by
   have hm := K.mineA e.1 b (e.2 b h).1
   exact ⟨hm.2.2, h2 b hm.2.2 (fun x => x.2 h) hm.2.1⟩
  have hn : ∀ b, K.mine e0 b -> ¬ L.sh y' b := fun b h hs => by
   have hm := K.mineA e.1 b (e.2 b h).1
   rcases h4 b hs with x | x | x
   ·exact hm.2.1 x
   ·exact x.2 h
   ·have : (K.w e.1).heap.size <= b := x
    have := hm.2.2; omega
  obtain ⟨e', m⟩ := K.mg e.1 y' s' w' h0 h1 (fun b hb hn hs => h2 b hb (fun x => hn x.1) hs) h3 (fun b h => (h4 b h).imp id fun x => x.imp (fun x => x.1) id)
  refine ⟨⟨e', fun b h => ⟨(m.mine b).2 ⟨.inl (e.2 b h).1, hn b h⟩, ?_⟩⟩, m.V, m.Stop, m.bot, m.w, m.s, m.gh, m.tgt, m.fuel, fun b => ?_⟩
  ·rw [m.w]; exact (hz b h).2.trans (e.2 b h).2
  ·show (K.mine e' b /\ ¬ K.mine e0 b) ↔ ((K.mine e.1 b /\ ¬ K.mine e0 b) ∨ ((K.w e.1).heap.size <= b /\ b < w'.heap.size)) /\ ¬ L.sh y' b
   rw [m.mine]
   constructor
   ·rintro ⟨⟨h | h, hs⟩, hn⟩
    ·exact ⟨.inl ⟨h, hn⟩, hs⟩
    ·exact ⟨.inr h, hs⟩
   ·rintro ⟨⟨h, hn⟩ | h, hs⟩
    ·exact ⟨⟨.inl h, hs⟩, hn⟩
    ·exact ⟨⟨.inr h, hs⟩, fun hn => by have := (hz b hn).1; omega⟩
 step := fun e d ht fr l hp hl hk => by
  refine K.step e.1 d ht fr l hp hl fun e' ha => ?_
  refine hk ⟨e', fun b h => ?_⟩ ⟨ha.tgt, ha.fuel, ha.le, ha.size, fun b hb => ⟨⟨(ha.mine b hb.1).1, hb.2⟩, (ha.mine b hb.1).2⟩⟩
  have hm := ha.mine b (e.2 b h).1
  exact ⟨hm.1, hm.2.trans (e.2 b h).2⟩
def fz0 (K : Lg L sv) (e : K.E) : (Fz K e).E := ⟨e, fun _ h => ⟨h, rfl⟩⟩
def Kept (K : Lg L sv) (e e' : K.E) : Prop := ∀ b, K.mine e b -> K.mine e' b /\ (K.w e').heap[b]? = (K.w e).heap[b]?
theorem Fi (K : Lg L sv) {e : K.E} {f : FuncId} {args : Array Value} {Q : Value -> (Fz K e).E -> Prop} (h : SCall (Fz K e).toLb f args (fz0 K e) Q) : SCall K.toLb f args e (fun v e' => ∃ h : Kept K e e', Q v ⟨e', h⟩) := fun fr l hp hl hk =>
 h fr l hp hl fun v e' hq => hk v e'.1 ⟨e'.2, hq⟩
theorem Mv.new {K : Lg L sv} {e e' : K.E} {s' : L.Sg} {w' : World} (m : Mv K.toLb e e' s' w') {b : Nat} (h1 : (K.w e).heap.size <= b) (h2 : b < w'.heap.size) : K.mine e' b := (m.mine b).2 (.inr ⟨h1, h2⟩)
theorem Lg.grow (K : Lg L sv) (e : K.E) {w' : World} (hs : (K.w e).heap.size <= w'.heap.size) (hb : ∀ b, b < (K.w e).heap.size -> w'.heap[b]? = (K.w e).heap[b]?) : ∃ e', Mv K.toLb e e' (K.s e) w' :=
 K.mv e (K.s e) w' hs (fun b h _ _ => hb b h) (L.stable (K.inv e) fun b h => hb b (L.lt (K.inv e) h))
theorem Lg.own (K : Lg L sv) (e : K.E) {w' : World} (hs : (K.w e).heap.size <= w'.heap.size) (hb : ∀ b, b < (K.w e).heap.size -> ¬ K.mine e b -> w'.heap[b]? = (K.w e).heap[b]?) : ∃ e', Mv K.toLb e e' (K.s e) w' :=
 K.mv e (K.s e) w' hs (fun b h hm _ => hb b h hm) (L.stable (K.inv e) fun b h => hb b (L.lt (K.inv e) h) fun hm => (K.mineA e b hm).2.1 h)
theorem Ak {b : Frame} {A : Array Value} {todo : List Item} {cs : List Frame} {F : (Nat -> Value) -> Goroutine} (h : G (b.at ⟨A, []⟩ todo) cs = F (fun k => A.getD k undef)) : ∃ u, G (b.at ⟨A, []⟩ todo) cs = F u := ⟨_, h⟩
theorem Fd {P : Program} {main : Bool} {D : World -> World -> Array Event -> Prop} {Stop : Goroutine -> World -> Prop} {b : Frame} {A : Array Value} {todo : List Item} {cs : List Frame} {w : World} {F : (Nat -> Value) -> Goroutine} (h : ∀ u, Walk P main D Stop (F u) w) (e : G (b.at ⟨A, []⟩ todo) cs = F (fun k => A.getD k undef)) : Walk P main D Stop (G (b.at ⟨A, []⟩ todo) cs) w := e ▸ h _
theorem Walk.finish {P : Program} {main : Bool} {D : World -> World -> Array Event -> Prop} {Stop : Goroutine -> World -> Prop} {w : World} {b : Frame} {a : Act} {k : List Item} {cs : List Frame} {ops : Array Oper} {i : Nat} {rest : List Nat} {o : Oper} {v : Value} (ho : ops[i]? = some o)
  (h : Walk P main D Stop (G (b.at (a.put o.dst v) (.inRegion ops rest :: k)) cs) w) : Walk P main D Stop (G ((b.at a (.inRegion ops (i :: rest) :: k)).finish v) cs) w := by
 rw [Frame.finish_at, ho]
 exact h
theorem Jr {K : Lb L} {e e' : K.E} {s' : L.Sg} {w' : World} {fr : Frame} {l : List Frame} (m : Mv K e e' s' w') (h : LW K e' (G fr (l ++ K.bot e'))) : Walk Try.prog K.main (DR (K.V e)) (K.Stop e) (G fr (l ++ K.bot e)) w' := by
 rw [m.bot] at h
 exact LW.mv m h
end
end
section
theorem Co (t : TypeId) (h : (match Try.prog.underlying t with | some (.struct _) => true | _ => false) = true) : ∃ fs, Try.prog.underlying t = some (.struct fs) := by
 revert h
 cases Try.prog.underlying t with
 | none => simp
 | some d =>
  cases d with
  | struct fs => exact fun _ => ⟨fs, rfl⟩
  | _ => simp
section
variable {P : Program} {w : World}
theorem run_eql_func (t : TypeId) (f : Fn) (x y : Array Value) {a b c} (hu : P.underlying t = some (.func a b c)) : (binOp .eql t (.func f x y) .nilFunc).run P w = .ok (.bool false) w := by
 simp only [binOp]
 simp [Op.equal, Op.maxDepth, Em (w := w) 9999 t f x y hu]
theorem ev_eql_func (t : TypeId) (f : Fn) (x y : Array Value) (es : Array Event) {a b c} (hu : P.underlying t = some (.func a b c)) : (binOp .eql t (.func f x y) .nilFunc).events P w es = es := by
 simp only [binOp]
 simp [Op.equal, Op.maxDepth, Em (w := w) 9999 t f x y hu, Jh (w := w) 9999 t f x y es hu]
end
section
variable {P : Program} {w : World}
theorem Fl (d : Nat) (t : TypeId) {e} (hu : P.underlying t = some (.slice e)) : (Op.equalIn (d + 1) t (.slice none 0 0) (.slice none 0 0)).run P w = .ok true w := by simp [Op.equalIn, run_underlying hu]
theorem ev_eqIn_nilSlice (d : Nat) (t : TypeId) (es : Array Event) {e} (hu : P.underlying t = some (.slice e)) : (Op.equalIn (d + 1) t (.slice none 0 0) (.slice none 0 0)).events P w es = es := by simp [Op.equalIn, run_underlying hu]
theorem run_eql_nilSlice (t : TypeId) {e} (hu : P.underlying t = some (.slice e)) : (binOp .eql t (.slice none 0 0) (.slice none 0 0)).run P w = .ok (.bool true) w := by
 simp only [binOp]
 simp [Op.equal, Op.maxDepth, Fl (w := w) 9999 t hu]
theorem ev_eql_nilSlice (t : TypeId) (es : Array Event) {e} (hu : P.underlying t = some (.slice e)) : (binOp .eql t (.slice none 0 0) (.slice none 0 0)).events P w es = es := by
 simp only [binOp]
 simp [Op.equal, Op.maxDepth, Fl (w := w) 9999 t hu, ev_eqIn_nilSlice (w := w) 9999 t es hu]
end
theorem Ja {fn : Func} {tmps : Array Value} {t : Tmp} {ty tt : TypeId} {T : Nat} {cells : Array Value} {w : World} {V : Nat -> Option Wait} (hr : fn.results = #[.cell t ty]) (h8 : tmps.getD t undef = .pointer (some ⟨T, 0, none⟩)) (hT : w.heap[T]? = some (.cells cells tt (0, 0)))
  {fs} (hu : Try.prog.underlying ty = some (.struct fs)) (hi : (Try.prog.info? ty).map (·.size) = some cells.size) :
  (results fn tmps).run Try.prog w = .ok (.agg cells) w /\ ∀ e ∈ (results fn tmps).events Try.prog w #[], Ig V e := by
 have hl := run_loadVar_row (P := Try.prog) w T tt ty cells (0, 0) _ hT hu rfl hi
 have he := Da (P := Try.prog) w ⟨T, 0, none⟩ ty hu rfl hi
 simp only [Array.getD_eq_getD_getElem?] at h8
 constructor
 ·simp only [results, hr]
  simp [h8, asAddr, hl]
 ·intro e hm
  refine Fg (he e ?_)
  simp only [results, hr] at hm
  simpa [h8, asAddr, hl] using hm
theorem Cj {main : Bool} {V : Nat -> Option Wait} {Stop : Goroutine -> World -> Prop} {fr c : Frame} {cs : List Frame} {w : World} {fn : Func} {t : Tmp} {ty tt : TypeId} {T : Nat} {cells : Array Value} (hm : fr.mode = .returning) (hn : fr.kind = .normal) (hd : fr.defers = []) (hf : Try.prog.funcs[fr.fn]? = some fn)
  (hr : fn.results = #[.cell t ty]) (h8 : fr.tmps.getD t undef = .pointer (some ⟨T, 0, none⟩)) (hT : w.heap[T]? = some (.cells cells tt (0, 0))) (hs : (match Try.prog.underlying ty with | some (.struct _) => true | _ => false) = true) (hi : (Try.prog.info? ty).map (·.size) = some cells.size)
  (h : Walk Try.prog main (DR V) Stop (G (c.finish (.agg cells)) cs) w) : Walk Try.prog main (DR V) Stop (G fr (c :: cs)) w := by
 obtain ⟨fs, hu⟩ := Co ty hs
 exact Mx (fun x => seen Try.prog fr.fn ((results fn fr.tmps).events Try.prog (w.at x) #[])) rfl (fun x => Iw hm hn hd hf (Ja (V := V) (w := w.at x) hr h8 hT hu hi).1)
  (fun x e he => (Ja (V := V) (w := w.at x) hr h8 hT hu hi).2 e (mem_seen he)) h
section
variable {P : Program}
theorem Dp (d : Nat) (t : TypeId) {e} (hu : P.underlying t = some (.slice e)) (a : Addr) (n c : Nat) (w : World) (es : Array Event) : (Op.equalIn (d + 1) t (.slice (some a) n c) (.slice none 0 0)).run P w = .ok false w /\ (Op.equalIn (d + 1) t (.slice (some a) n c) (.slice none 0 0)).events P w es = es := by
 constructor <;> simp [Op.equalIn, run_underlying hu]
theorem Iz (t : TypeId) {e} (hu : P.underlying t = some (.slice e)) (a : Addr) (n c : Nat) (w : World) : (binOp .eql t (.slice (some a) n c) (.slice none 0 0)).run P w = .ok (.bool false) w := by
 simp only [binOp]
 simp [Op.equal, Op.maxDepth, (Dp 9999 t hu a n c w #[]).1]
theorem ev_eql_someSlice (t : TypeId) {e} (hu : P.underlying t = some (.slice e)) (a : Addr) (n c : Nat) (w : World) (es : Array Event) : (binOp .eql t (.slice (some a) n c) (.slice none 0 0)).events P w es = es := by
 simp only [binOp]
 simp [Op.equal, Op.maxDepth, (Dp 9999 t hu a n c w #[]).1, (Dp 9999 t hu a n c w es).2]
theorem run_app0 {t e : TypeId} {ti : TypeInfo} (hu : P.underlying t = some (.slice e)) (hi : P.info? e = some ti) (ty : TypeId) (a : Addr) (x : Option Addr) (c : Nat) (w : World) (es : Array Event) : (Builtin.append_ #[t, t] ty #[.slice (some a) 0 0, .slice x 0 c]).run P w = .ok (.slice (some a) 0 0) w /\ (Builtin.append_ #[t, t] ty #[.slice (some a) 0 0, .slice x 0 c]).events P w es = es := by
 constructor <;> cases x <;> simp [Builtin.append_, run_underlying hu, sizeOf, typeInfo, hi, Builtin.lenOf, Builtin.firstCells, loadCells] <;> rfl
end
section
variable {main : Bool} {V : Nat -> Option Wait}
noncomputable def reg166_0 := rk Try.f166.body 0
noncomputable def reg166_1 := rk Try.f166.body 1
noncomputable def reg166_2 := rk Try.f166.body 2
noncomputable def reg166_3 := rk Try.f166.body 3
theorem z166 : reg166_0.size = 1 /\ reg166_1.size = 2 /\ reg166_2.size = 1 /\ reg166_3.size = 4 := by and_intros <;> kernel_rfl
theorem code166_is : Try.f166.body = some (.seq (.region 0 reg166_0 false) (.seq (.seq (.region 1 reg166_1 false) (.cond (.tmp 4 ) (.seq (.region 2 reg166_2 false) (.ret)) (.skip))) (.seq (.region 3 reg166_3 false) (.ret)))) := by kernel_rfl
theorem Gr : Try.prog.underlying 22 = some (.slice 2) := by kernel_rfl
theorem clone_nil (w : World) : As Try.prog main V 166 #[.slice none 0 0] w (.slice none 0 0) w := by
 have hn1 := fun w => run_eql_nilSlice (P := Try.prog) (w := w) 22 Gr
 have hn2 := fun w es => ev_eql_nilSlice (P := Try.prog) (w := w) 22 es Gr
 refine Ap Try.func166 code166_is fun fr cs => ?_
 simp only [Try.ntmps166, ez, Nat.reduceAdd, Nat.reduceSub]
 refine Aa z166 ?_
 exact An rfl rfl Try.func166 rfl fun d => ⟨rfl, d, rfl⟩
theorem clone_some (w : World) (a : Addr) (c : Nat) (l : List Int) (h63 : l.length <= 1048576) (hA : ∀ b, w.heap.size <= b -> Bd V b) (hcells : ∀ (j : Nat) (z : Int), l[j]? = some z -> ∃ b off, some a = some ⟨b, off, none⟩ /\ w.cell? ⟨b, off + j, none⟩ = some (.int .i64 z)) :
  CallW Try.prog main V 166 #[.slice (some a) l.length c] w (fun v w' => LsAt w.heap.size (fun b => w.heap.size <= b /\ b < w'.heap.size) v l w' /\ w.heap.size <= w'.heap.size /\ ∀ b, b < w.heap.size -> w'.heap[b]? = w.heap[b]?) := by
 have hi1 := Option.some_get (show (Try.prog.info? 2).isSome = true by kernel_rfl)
 have hn1 := fun w => Iz (P := Try.prog) 22 Gr a l.length c w
 have hn2 := fun w es => ev_eql_someSlice (P := Try.prog) 22 Gr a l.length c w es
 refine Ap Try.func166 code166_is fun fr cs => ?_
 simp only [Try.ntmps166, ez, Nat.reduceAdd, Nat.reduceSub]
 refine Aa z166 ?_
 (refine Walk.oa ?_; try walk_nrm)
 have s1 : (w.alloc (.cells #[] 2)).heap.size = w.heap.size + 1 := by simp
 have o1 : ∀ b, b < w.heap.size -> (w.alloc (.cells #[] 2)).heap[b]? = w.heap[b]? := fun b hb => Ad _ _ hb
 have hown : (w.alloc (.cells #[] 2)).ownsRow w.heap.size 2 1 (.slice (some ⟨w.heap.size, 0, none⟩) 0 0) 0 [] := World.ownsRow_made w #[] 0 (Nat.le_refl _) (by decide) (by simp)
 have hap := hA w.heap.size (Nat.le_refl _)
 have hcells1 : ∀ (j : Nat) (z : Int), l[j]? = some z -> ∃ b off, a = ⟨b, off, none⟩ /\ (w.alloc (.cells #[] 2)).cell? ⟨b, off + j, none⟩ = some (.int .i64 z) := fun j z hj => by
  obtain ⟨b, off, e, h⟩ := hcells j z hj
  exact ⟨b, off, Option.some.inj e, Ai w _ h⟩
 generalize w.alloc (.cells #[] 2) = w1 at *
 generalize hT : w.heap.size = T at *
 cases l with
 | nil =>
  have hz := fun w es => run_app0 Gr hi1.symm 22 ⟨T, 0, none⟩ (some a) c w es
  have hz1 := fun w => (hz w #[]).1
  have hz2 := fun w es => (hz w es).2
  clear hz
  refine Aa z166 ?_
  refine An rfl rfl Try.func166 rfl fun d => ⟨⟨some ⟨T, 0, none⟩, 0, rfl, Nat.zero_le _, fun _ => ⟨Ao hown fun _ _ => rfl, fun b hb => ?_⟩⟩, ?_, o1⟩
  ·have hb : some T = some b := hb
   obtain rfl := Option.some.inj hb
   exact ⟨Nat.le_refl _, show T < w1.heap.size by omega⟩
  ·show T <= w1.heap.size
   omega
 | cons z l =>
  obtain ⟨b, off, rfl, _⟩ := hcells1 0 z rfl
  refine Aa z166 ?_
  refine Walk.append (.tmp 5) (.tmp 6) 22 Aj (by rfl) (by decide) rfl T 2 _ (.int .i64 0) 1 8 Gr hi1.symm (by rfl) (by rfl) (by rfl) (by rfl) (by decide) (.slice (some ⟨T, 0, none⟩) 0 0) 0 [] rfl hown ⟨b, off, none⟩ (z :: l).length c ((z :: l).map fun z => .int .i64 z) rfl (by simp) (fun j u hu => ?_) (fun u hu => ?_) (by simp) (by simp only [maxLen]; omega) (by omega) (by omega) (fun g hg => ?_) (fun g cap w' hown' hgr hat hlt => ?_)
  ·rw [List.getElem?_map, Option.map_eq_some_iff] at hu
   obtain ⟨y, hy, rfl⟩ := hu
   obtain ⟨b', off', e, h⟩ := hcells1 j y hy
   obtain ⟨rfl, rfl, _⟩ := Addr.mk.inj e
   rw [Bm]; exact h
  ·obtain ⟨y, _, rfl⟩ := List.mem_map.1 hu
   rfl
  ·simp only [Value.ownBlock, Option.some.injEq] at hg
   rw [<- hg]; exact hap
  ·walk_nrm
   refine Aa z166 ?_
   have hgT : T <= g := by
    rcases hat with h | h
    ·simp only [Value.ownBlock, Option.some.injEq] at h
     omega
    ·omega
   refine An rfl rfl Try.func166 rfl fun d => ⟨⟨some ⟨g, 0, none⟩, cap, by simp, h63, fun _ => ⟨?_, fun b' hb' => ?_⟩⟩, ?_, fun b' hb' => ?_⟩
   ·have h := hown'
    simp only [Nat.zero_add, List.nil_append] at h
    exact Ao h fun _ _ => rfl
   ·have hb' : some g = some b' := hb'
    obtain rfl := Option.some.inj hb'
    exact ⟨hgT, hlt⟩
   ·show T <= w'.heap.size
    have := hgr.size; omega
   ·exact (hgr.block b' (by omega) (by simp [Value.ownBlock]; omega)).trans (o1 b' hb')
theorem clone_w (w : World) (sl : Value) (l : List Int) (hl : LsR sl l w) (h63 : l.length <= 1048576) (hA : ∀ b, w.heap.size <= b -> Bd V b) :
  CallW Try.prog main V 166 #[sl] w (fun v w' => LsAt w.heap.size (fun b => w.heap.size <= b /\ b < w'.heap.size) v l w' /\ w.heap.size <= w'.heap.size /\ ∀ b, b < w.heap.size -> w'.heap[b]? = w.heap[b]?) := by
 obtain ⟨a, c, rfl, hc, hn, hcells⟩ := hl
 cases a with
 | none =>
  obtain rfl := hn rfl
  have h0 : l.length = 0 := Nat.le_zero.1 hc
  rw [h0]
  intro fr cs
  refine (clone_nil w fr cs).mono ?_
  rintro g w' ⟨v, ⟨rfl, d, rfl⟩, rfl⟩
  exact ⟨_, ⟨⟨none, 0, by rw [h0], by omega, fun _ => ⟨by rw [List.eq_nil_of_length_eq_zero h0]; exact ⟨rfl, .inl ⟨rfl, rfl⟩⟩, fun b h => by simp [Value.ownBlock] at h⟩⟩, Nat.le_refl _, fun _ _ => rfl⟩, rfl⟩
 | some a => exact clone_some w a c l h63 hA hcells
end
theorem Bk {w : World} {g : Nat} {old cells : Array Value} {tt : TypeId} {fr : Nat × Nat} (h : w.heap[g]? = some (.cells old tt fr)) : (w.setRow g cells).heap[g]? = some (.cells cells tt fr) := setRow_heap w g old cells tt fr h
theorem Av (w : World) {g b : Nat} (cells : Array Value) (h : b ≠ g) : (w.setRow g cells).heap[b]? = w.heap[b]? := by
 unfold World.setRow
 simp only [Array.getElem?_modify]
 rw [if_neg (Ne.symm h)]
theorem Bg (w : World) (g : Nat) (cells : Array Value) : (w.setRow g cells).heap.size = w.heap.size := by
 unfold World.setRow
 simp
end
section
def DoOK (L : La) (f : FuncId) (first cap : Array Value) : Prop := ∀ (sv : Value) (K : Lg L sv) (e : K.E) (th : Int) (op : OpV), K.tgt e = L.enter (K.s e) th op ->
 SCall K.toLb f (first ++ #[sv, .int .i64 th, Ko op] ++ cap) e (fun v e' => ∃ a sl, K.tgt e' = (K.s e', .inl a) /\ v = Cu a sl /\ LsR sl a.l (K.w e') /\ a.l.length <= 1048576)
noncomputable def reg142_0 := rk Try.f142.body 0
noncomputable def reg142_1 := rk Try.f142.body 1
noncomputable def reg142_2 := rk Try.f142.body 2
noncomputable def reg142_3 := rk Try.f142.body 3
noncomputable def reg142_4 := rk Try.f142.body 4
noncomputable def reg142_5 := rk Try.f142.body 5
theorem z142 : reg142_0.size = 2 /\ reg142_1.size = 2 /\ reg142_2.size = 2 /\ reg142_3.size = 7 /\ reg142_4.size = 5 /\ reg142_5.size = 2 := by and_intros <;> kernel_rfl
theorem code142_is : Try.f142.body = some (.seq (.region 0 reg142_0 false) (.seq (.seq (.region 1 reg142_1 false) (.cond (.tmp 11 ) (.seq (.region 2 reg142_2 false) (.ret)) (.skip))) (.seq (.region 3 reg142_3 false) (.seq (.region 4 reg142_4 false) (.seq (.region 5 reg142_5 false) (.ret)))))) := by kernel_rfl
section
variable {L : La} {sv : Value}
theorem doOne_s (K : Lg L sv) (e : K.E) (op : OpV) (th : Int) (f : FuncId) (fn : Func) (first cap : Array Value) (hf : Try.prog.funcs[f]? = some fn) (hname : (fn.name == "runtime.NumGoroutine") = false) (hb : fn.body.isNone = false) (hdo : DoOK L f first cap) (ht : K.tgt e = L.enter (K.s e) th op) :
  SCall K.toLb 142 #[.func (.func f) first cap, sv, .int .i64 th, Ko op] e (fun v e' => ∃ a sl, K.tgt e' = (K.s e', .inl a) /\ v = Cu a sl /\ LsAt (K.w e).heap.size (K.mine e') sl a.l (K.w e')) := by
 intro fr l hp hl hk
 obtain ⟨fsO, huO⟩ := Co 49 (by kernel_rfl)
 obtain ⟨fsA, huA⟩ := Co 46 (by kernel_rfl)
 have hn1 := fun w => run_eql_func (P := Try.prog) (w := w) 126 (.func f) first cap (by kernel_rfl : Try.prog.underlying 126 = some (.func #[137, 3, 49] #[46] false))
 have hn2 := fun w es => ev_eql_func (P := Try.prog) (w := w) 126 (.func f) first cap es (by kernel_rfl : Try.prog.underlying 126 = some (.func #[137, 3, 49] #[46] false))
 unfold LW
 obtain ⟨ok, oa, ob, oc⟩ := op
 simp only [Ko] at *
 rw [enter_at _ Try.func142 code142_is]
 simp only [Try.ntmps142, ez, Nat.reduceAdd, Nat.reduceSub]
 refine Aa z142 ?_
 (refine Walk.oa ?_; try walk_nrm)
 (refine Walk.oa ?_; try walk_nrm)
 refine Aa z142 ?_
 have hsz : (((K.w e).alloc (.cells #[.int .i64 ok, .int .i64 oa, .int .i64 ob, .int .i64 oc] 49)).alloc (.cells #[.bool false, .int .i64 0, .slice none 0 0] 46)).heap.size = (K.w e).heap.size + 2 := by simp
 have hA1 : ((K.w e).alloc (.cells #[.int .i64 ok, .int .i64 oa, .int .i64 ob, .int .i64 oc] 49)).heap.size = (K.w e).heap.size + 1 := by simp
 have c1 : (((K.w e).alloc (.cells #[.int .i64 ok, .int .i64 oa, .int .i64 ob, .int .i64 oc] 49)).alloc (.cells #[.bool false, .int .i64 0, .slice none 0 0] 46)).heap[(K.w e).heap.size]? = some (.cells #[.int .i64 ok, .int .i64 oa, .int .i64 ob, .int .i64 oc] 49) := by
  rw [Ad _ _ (by omega)]
  exact heap_alloc_new _ _
 have c2 : (((K.w e).alloc (.cells #[.int .i64 ok, .int .i64 oa, .int .i64 ob, .int .i64 oc] 49)).alloc (.cells #[.bool false, .int .i64 0, .slice none 0 0] 46)).heap[(K.w e).heap.size + 1]? = some (.cells #[.bool false, .int .i64 0, .slice none 0 0] 46) := by
  have := heap_alloc_new ((K.w e).alloc (.cells #[.int .i64 ok, .int .i64 oa, .int .i64 ob, .int .i64 oc] 49)) (.cells #[.bool false, .int .i64 0, .slice none 0 0] 46)
  rwa [hA1] at this
 obtain ⟨e1, m1⟩ := K.grow e (w' := ((K.w e).alloc (.cells #[.int .i64 ok, .int .i64 oa, .int .i64 ob, .int .i64 oc] 49)).alloc (.cells #[.bool false, .int .i64 0, .slice none 0 0] 46)) (by omega) (fun b hb' => by
  rw [Ad _ _ (by omega)]
  exact Ad _ _ hb')
 try simp only [hA1]
 generalize hw2 : ((K.w e).alloc (.cells #[.int .i64 ok, .int .i64 oa, .int .i64 ob, .int .i64 oc] 49)).alloc (.cells #[.bool false, .int .i64 0, .slice none 0 0] 46) = w2 at *
 generalize hN : (K.w e).heap.size = N at *
 refine Walk.loadS 49 (.tmp 7) Aj (by rfl) (by decide) rfl N 0 [.int .i64 ok, .int .i64 oa, .int .i64 ob, .int .i64 oc] (.struct fsO) rfl (fun j v hj => ?_) huO rfl (by kernel_rfl) ?_
 ·rw [Nat.zero_add, Ac c1]
  simpa using hj
 walk_nrm
 refine Aa z142 ?_
 refine Walk.ctl rfl (fun w' => Dm Aj (by rfl) (by decide) rfl rfl hf hname hb) ?_
 walk_nrm
 generalize hX : Frame.at _ _ _ = X
 refine Jr (l := X :: fr :: l) m1 ?_
 have hpX : Cf X := by subst hX; exact ⟨rfl, rfl, _, Try.func142⟩
 have hpl : ∀ x ∈ fr :: l, Cf x := fun x hx => by
  rcases List.mem_cons.1 hx with rfl | hx
  ·exact hp
  ·exact hl x hx
 refine (Fi K (hdo sv (Fz K e1) (fz0 K e1) th ⟨ok, oa, ob, oc⟩ (by show K.tgt e1 = L.enter (K.s e1) _ _; rw [m1.tgt, m1.s, ht]))) X (fr :: l) hpX hpl ?_
 rintro v e2 ⟨hkept, a, sl, ht2, rfl, hls, hlsn⟩
 replace hls : LsR sl a.l (K.w e2) := hls
 obtain ⟨hm2, hb2⟩ := hkept (N + 1) (m1.new (by omega) (by omega))
 rw [m1.w, c2] at hb2
 have hap2 := (K.mineA e2 _ hm2).1
 have hlt2 := (K.mineA e2 _ hm2).2.2
 rw [<- hX]
 clear hX hpX
 unfold LW
 simp only [Cu]
 refine Walk.finish Aj ?_
 walk_nrm
 (refine Walk.oa ?_; try walk_nrm)
 have hap3 := K.newA e2 _ (Nat.le_refl (K.w e2).heap.size)
 have c3 := heap_alloc_new (K.w e2) (.cells #[.bool false, .int .i64 0, .slice none 0 0] 46)
 have c4 : ((K.w e2).alloc (.cells #[.bool false, .int .i64 0, .slice none 0 0] 46)).heap[N + 1]? = _ := (Ad _ _ hlt2).trans hb2
 have hs3 : ((K.w e2).alloc (.cells #[.bool false, .int .i64 0, .slice none 0 0] 46)).heap.size = (K.w e2).heap.size + 1 := by simp
 have o3 : ∀ b, b < (K.w e2).heap.size -> ((K.w e2).alloc (.cells #[.bool false, .int .i64 0, .slice none 0 0] 46)).heap[b]? = (K.w e2).heap[b]? := fun b hb' => Ad _ _ hb'
 generalize hM : (K.w e2).heap.size = M at *
 generalize (K.w e2).alloc (.cells #[.bool false, .int .i64 0, .slice none 0 0] 46) = w3 at *
 refine Az 46 (.tmp 9) (.tmp 17) Aj (by rfl) (by decide) rfl M #[.bool a.ok, .int .i64 a.n, sl] _ 46 rfl rfl c3 (by kernel_rfl) (by rfl) (by rcases hls with ⟨_, _, rfl, _⟩; simp [Value.oneCell']) hap3 ?_
 have c5 := Bk (cells := #[.bool a.ok, .int .i64 a.n, sl]) c3
 have c6 : (w3.setRow M #[.bool a.ok, .int .i64 a.n, sl]).heap[N + 1]? = _ := (Av w3 _ (show N + 1 ≠ M by omega)).trans c4
 have hs4 := Bg w3 M #[.bool a.ok, .int .i64 a.n, sl]
 have o4 : ∀ b, b < M -> (w3.setRow M #[.bool a.ok, .int .i64 a.n, sl]).heap[b]? = (K.w e2).heap[b]? := fun b hb' => (Av w3 _ (show b ≠ M by omega)).trans (o3 b hb')
 generalize w3.setRow M #[.bool a.ok, .int .i64 a.n, sl] = w4 at *
 have hle3 := hls.same (w' := w4) (fun b hb' => o4 b (by omega))
 have d2 := Ac c5 2
 have z2 := Aq c5 2
 simp only [List.getElem?_toArray, List.getElem?_cons_succ, List.getElem?_cons_zero] at d2
 have hs4' : w4.heap.size = M + 1 := by omega
 walk_nrm
 refine Aa z142 ?_
 refine Ah (Post := fun v w' => LsAt w4.heap.size (fun b => w4.heap.size <= b /\ b < w'.heap.size) v a.l w' /\ w4.heap.size <= w'.heap.size /\ ∀ b, b < w4.heap.size -> w'.heap[b]? = w4.heap[b]?) ?_ Aj (by rfl) (by decide) rfl Try.func166 (by kernel_rfl) (by rfl) ?_
 ·walk_nrm
  exact clone_w w4 sl a.l hle3 hlsn (fun b hb => K.newA e2 b (by omega))
 rintro sl' w4' ⟨hls', hs4'', o4''⟩
 obtain ⟨sa, sc, rfl⟩ : ∃ sa sc, sl' = .slice sa a.l.length sc := by
  obtain ⟨x, y, h, _⟩ := hls'
  exact ⟨x, y, h⟩
 have c5' := (o4'' M (by omega)).trans c5
 have d2' := Ac c5' 2
 have z2' := Aq c5' 2
 simp only [List.getElem?_toArray, List.getElem?_cons_succ, List.getElem?_cons_zero] at d2'
 clear d2 z2
 have d2 := d2'
 have z2 := z2'
 clear d2' z2'
 walk_nrm
 refine Aa z142 ?_
 (have hfr := hap3.1 ⟨M, 2, none⟩ rfl; refine Walk.os hfr d2 ?_; clear hfr; try walk_nrm)
 have c7 : (w4'.setCell ⟨M, 2, none⟩ (.slice sa a.l.length sc)).heap[M]? = some (.cells #[.bool a.ok, .int .i64 a.n, (.slice sa a.l.length sc)] 46) := by
  rw [Am _ _ c5']
  simp
 have c8 : (w4'.setCell ⟨M, 2, none⟩ (.slice sa a.l.length sc)).heap[N + 1]? = _ := (Ab w4' _ _ _ (show N + 1 ≠ M by omega)).trans ((o4'' _ (by omega)).trans c6)
 have hs5 := Af w4' ⟨M, 2, none⟩ (.slice sa a.l.length sc)
 have o5 : ∀ b, b < M -> (w4'.setCell ⟨M, 2, none⟩ (.slice sa a.l.length sc)).heap[b]? = (K.w e2).heap[b]? := fun b hb' => (Ab w4' _ _ _ (show b ≠ M by omega)).trans ((o4'' b (by omega)).trans (o4 b hb'))
 have hls5 := hls'.same (w' := w4'.setCell ⟨M, 2, none⟩ (.slice sa a.l.length sc)) (fun b hb' => Ab w4' _ _ _ (show b ≠ M by omega))
 generalize w4'.setCell ⟨M, 2, none⟩ (.slice sa a.l.length sc) = w5 at *
 refine Aa z142 ?_
 refine Walk.loadS 46 (.tmp 9) Aj (by rfl) (by decide) rfl M 0 [.bool a.ok, .int .i64 a.n, (.slice sa a.l.length sc)] (.struct fsA) rfl (fun j v hj => ?_) huA rfl (by kernel_rfl) ?_
 ·rw [Nat.zero_add, Ac c7]
  simpa using hj
 walk_nrm
 refine Az 46 (.tmp 8) (.tmp 22) Aj (by rfl) (by decide) rfl (N + 1) #[.bool a.ok, .int .i64 a.n, (.slice sa a.l.length sc)] _ 46 rfl rfl c8 (by kernel_rfl) (by rfl) (by simp [Value.oneCell']) hap2 ?_
 have c9 := Bk (cells := #[.bool a.ok, .int .i64 a.n, (.slice sa a.l.length sc)]) c8
 have hls6 := hls5.same (w' := w5.setRow (N + 1) #[.bool a.ok, .int .i64 a.n, (.slice sa a.l.length sc)]) (fun b hb' => Av w5 _ (show b ≠ N + 1 by omega))
 obtain ⟨e3, m3⟩ := K.own e2 (w' := w5.setRow (N + 1) #[.bool a.ok, .int .i64 a.n, (.slice sa a.l.length sc)]) (by rw [Bg]; omega) (fun b hb' hbm => (Av w5 _ (fun he : b = N + 1 => hbm (by rw [he]; exact hm2))).trans (o5 b (by omega)))
 have hnew : ∀ b, (w4.heap.size <= b /\ b < w4'.heap.size) -> K.mine e3 b := fun b hb => (m3.mine b).2 (.inr ⟨by omega, by rw [Bg]; omega⟩)
 generalize w5.setRow (N + 1) #[.bool a.ok, .int .i64 a.n, (.slice sa a.l.length sc)] = w6 at *
 walk_nrm
 refine Aa z142 ?_
 refine Cj (T := N + 1) rfl rfl rfl Try.func142 rfl (by rfl) c9 (by kernel_rfl) (by kernel_rfl) ?_
 refine Jr m3 (hk _ e3 ⟨a, (.slice sa a.l.length sc), ?_, rfl, ?_⟩)
 ·rw [m3.tgt, m3.s]
  exact ht2
 ·rw [m3.w]
  exact (hls6.imp hnew).low (by omega)
end
end
section
noncomputable def reg141_0 := rk Try.f141.body 0
noncomputable def reg141_1 := rk Try.f141.body 1
noncomputable def reg141_2 := rk Try.f141.body 2
noncomputable def reg141_3 := rk Try.f141.body 3
theorem size141_3 : reg141_3.size = 15 := by kernel_rfl
noncomputable def reg141_4 := rk Try.f141.body 4
theorem z141 : reg141_0.size = 3 /\ reg141_1.size = 1 /\ reg141_2.size = 4 /\ reg141_3.size = 15 /\ reg141_4.size = 2 := by and_intros <;> kernel_rfl
theorem code141_is : Try.f141.body = some (.seq (.region 0 reg141_0 false) (.block 0 (.loop (.seq (.region 1 reg141_1 false) (.seq (.cond (.tmp 11 ) (.skip) (.exit 0)) (.seq (.block 1 (.seq (.region 2 reg141_2 false) (.region 3 reg141_3 true))) (.region 4 reg141_4 false))))))) := by kernel_rfl
def Ej (w1 : World) (a : Ans) (sl : Value) : World := w1.alloc (.cells #[.bool a.ok, .int .i64 a.n, sl] 46)
structure AppO (g : OG) (w1 : World) (a : Ans) (sl : Value) (hd : Value) (z : List (Ans × Value)) (gb gcap : Nat) (w3 : World) : Prop where
 own : w3.ownsRow g.w0.heap.size 46 3 (.slice (some ⟨gb, 0, none⟩) (z.length + 1) gcap) (z.length + 1) (Cv z ++ [.bool a.ok, .int .i64 a.n, sl])
 grown : (Ej w1 a sl).grownBy w3 hd.ownBlock
 hat : hd.ownBlock = some gb ∨ gb = (Ej w1 a sl).heap.size
 hlt : gb < w3.heap.size
structure ThS (L : La) (g : OG) (i pO pA pI pD acap : Nat) (oa : Option Addr) (oc : Nat) (dv : Value) : Prop where
 hi : i < g.n
 n64 : g.n <= 64
 len : (g.ops i).length <= 65536
 cO : g.w0.cell? ⟨pO, 0, none⟩ = some (.slice oa (g.ops i).length oc)
 cA : g.w0.cell? ⟨pA, 0, none⟩ = some (.slice (some ⟨g.A, 0, none⟩) g.n acap)
 cI : g.w0.cell? ⟨pI, 0, none⟩ = some (.int .i64 (i : Nat))
 cD : g.w0.cell? ⟨pD, 0, none⟩ = some dv
 nO : ¬ g.sh pO /\ pO ≠ g.A
 nA : ¬ g.sh pA /\ pA ≠ g.A
 nI : ¬ g.sh pI /\ pI ≠ g.A
 nD : ¬ g.sh pD /\ pD ≠ g.A
 ops : ∀ (j : Nat) (o : OpV), (g.ops i)[j]? = some o -> ∃ b off, oa = some ⟨b, off, none⟩ /\ ¬ g.sh b /\ b ≠ g.A /\ g.w0.cell? ⟨b, off + j * 4, none⟩ = some (.int .i64 o.k) /\ g.w0.cell? ⟨b, off + j * 4 + 1, none⟩ = some (.int .i64 o.a) /\ g.w0.cell? ⟨b, off + j * 4 + 2, none⟩ = some (.int .i64 o.b) /\ g.w0.cell? ⟨b, off + j * 4 + 3, none⟩ = some (.int .i64 o.c)
structure ClO (g : OG) (i pA pI pD acap : Nat) (dv hd : Value) (w : World) : Prop where
 hA : w.cell? ⟨pA, 0, none⟩ = some (.slice (some ⟨g.A, 0, none⟩) g.n acap)
 hI : w.cell? ⟨pI, 0, none⟩ = some (.int .i64 (i : Nat))
 hD : w.cell? ⟨pD, 0, none⟩ = some dv
 hH : w.cell? ⟨g.A, i, none⟩ = some hd
 hHz : w.frozen? ⟨g.A, i, none⟩ = false
section
variable {L : La} {g : OG} {S : Stile} {i : Nat}
theorem EC.ro (e : EC L g S i) {b : Nat} (h : b < g.w0.heap.size) (h1 : ¬ g.sh b) (h2 : b ≠ g.A) : e.w.heap[b]? = g.w0.heap[b]? := by
 obtain ⟨hd0, r⟩ := e.rely
 exact (e.frame b (Nat.lt_of_lt_of_le h r.size) (fun hm => by have := (r.lo b hm).1; omega) (fun hs => h1 ((r.shlo b hs).2.2 h)) h2).trans (r.old b h h1 h2)
theorem EC.cell (e : EC L g S i) {b j : Nat} {v : Value} (h : g.w0.cell? ⟨b, j, none⟩ = some v) (h1 : ¬ g.sh b /\ b ≠ g.A) : e.w.cell? ⟨b, j, none⟩ = some v :=
 (World.cell?_of_block (a := ⟨b, j, none⟩) (e.ro (Aw h) h1.1 h1.2)).trans h
theorem EC.apA (e : EC L g S i) : ∀ a : Addr, a.block = g.A -> Di e.τ.V a := (e.apart (b := g.A) (.inl (by obtain ⟨hd0, r⟩ := e.rely; exact r.alo))).1
variable {pO pA pI pD acap : Nat} {oa : Option Addr} {oc : Nat} {dv hd : Value}
theorem ThS.cl (T : ThS L g i pO pA pI pD acap oa oc dv) (e : EC L g S i) (h : e.hd = hd) : ClO g i pA pI pD acap dv hd e.w := by
 obtain ⟨arr, arr', h1, h2, h3, h4, h5⟩ := e.an
 exact ⟨e.cell T.cA T.nA, e.cell T.cI T.nI, e.cell T.cD T.nD, (Ac h2 i).trans (h ▸ h4), Aq h2 i⟩
theorem ClO.new {w : World} (h : ClO g i pA pI pD acap dv hd w) (a : Ans) (sl : Value) : ClO g i pA pI pD acap dv hd (Ej w a sl) :=
 ⟨Ai w _ h.hA, Ai w _ h.hI, Ai w _ h.hD, Ai w _ h.hH, Br w _ h.hH h.hHz⟩
theorem ThS.app (T : ThS L g i pO pA pI pD acap oa oc dv) (e : EC L g S i) {a : Ans} {sl : Value} {z : List (Ans × Value)} {gb gcap : Nat} {w3 : World} (h : AppO g e.w a sl e.hd z gb gcap w3) (hc : ClO g i pA pI pD acap dv hd (Ej e.w a sl)) : ClO g i pA pI pD acap dv hd w3 := by
 obtain ⟨hd0, r⟩ := e.rely
 have far : ∀ b, b < g.w0.heap.size -> some b ≠ e.hd.ownBlock := fun b hb he => by have := (e.lo (e.hdo b he.symm)).1; omega
 have f1 : ∀ {b j : Nat} {v : Value}, b < g.w0.heap.size -> (Ej e.w a sl).cell? ⟨b, j, none⟩ = some v -> w3.cell? ⟨b, j, none⟩ = some v := fun {b j v} hb hv =>
  (h.grown.cell_far _ (Ci _ hv) (far b hb)).trans hv
 exact ⟨f1 (Aw T.cA) hc.hA, f1 (Aw T.cI) hc.hI, f1 (Aw T.cD) hc.hD, f1 r.alo hc.hH, (h.grown.frozen_far _ (Ci _ hc.hH) (far _ r.alo)).trans hc.hHz⟩
structure RowZ (g : OG) (P : Nat -> Prop) (hd : Value) (z : List (Ans × Value)) (w : World) : Prop where
 sl : ∃ ta tc, hd = .slice ta z.length tc
 own : w.ownsRow g.w0.heap.size 46 3 hd z.length (Cv z)
 hdo : ∀ b, hd.ownBlock = some b -> P b
 ls : ∀ p ∈ z, LsAt g.w0.heap.size P p.2 p.1.l w
theorem RowA.z {g : OG} {P : Nat -> Prop} {hd : Value} {ans : List Ans} {w : World} (h : RowA g.w0.heap.size P hd ans w) : ∃ z, z.map Prod.fst = ans /\ RowZ g P hd z w := by
 obtain ⟨ta, tc, z, h1, h2, h3, h4, h5⟩ := h
 have : z.length = ans.length := by rw [<- h1, List.length_map]
 exact ⟨z, h1, ⟨ta, tc, by rw [this]; exact h2⟩, by rw [this]; exact h3, h4, h5⟩
def Ph (L : La) (g : OG) (S : Stile) (i : Nat) (o : OpV) (rest' : List OpV) (X : Nat) (f : Nat -> Bool) (u : Nat -> Value) (e : EC L g S i) (w' : World) : Prop :=
 (f 10 = false /\ e.τ.goal = Ch L (i : Nat) (L.enter e.s (i : Nat) o) rest' e.ans /\ e.w.heap[X]? = some (.cells #[.int .i64 o.k, .int .i64 o.a, .int .i64 o.b, .int .i64 o.c] 49) /\ ∃ d, w' = e.w.at d) ∨
 (f 10 = true /\ ∃ a sl, u 24 = Cu a sl /\ LsAt g.w0.heap.size (Cq e.τ e.y e.w) sl a.l e.w /\ e.τ.goal = Bc L (i : Nat) e.s rest' (e.ans ++ [a]) /\
  ((f 11 = false /\ f 12 = false /\ f 14 = false /\ ∃ d, w' = e.w.at d) ∨
   (f 11 = true /\ f 12 = false /\ f 14 = false /\ u 25 = .slice (some ⟨e.w.heap.size, 0, none⟩) 1 1 /\ ∃ d, w' = (Ej e.w a sl).at d) ∨
   (f 11 = true /\ f 12 = true /\ ∃ z gb gcap w3, z.map Prod.fst = e.ans /\ RowZ g (Cq e.τ e.y e.w) e.hd z e.w /\ AppO g e.w a sl e.hd z gb gcap w3 /\ u 26 = .slice (some ⟨gb, 0, none⟩) (e.ans.length + 1) gcap /\
    ((f 14 = false /\ ∃ d, w' = w3.at d) ∨ (f 14 = true /\ ∃ d, w' = (w3.setCell ⟨g.A, i, none⟩ (u 26)).at d)))))
variable {o : OpV} {rest' : List OpV} {X : Nat} {f : Nat -> Bool} {u : Nat -> Value} {e : EC L g S i} {w' : World}
theorem Ph.quiet {j d : Nat} {v : Value} (h : Ph L g S i o rest' X f u e w') (hj : j ≠ 10 /\ j ≠ 11 /\ j ≠ 12 /\ j ≠ 14) (hd : d ≠ 24 /\ d ≠ 25 /\ d ≠ 26) : Ph L g S i o rest' X (upd f j true) (upd u d v) e w' := by
 unfold Ph
 rw [upd_ne f true (Ne.symm hj.1), upd_ne f true (Ne.symm hj.2.1), upd_ne f true (Ne.symm hj.2.2.1), upd_ne f true (Ne.symm hj.2.2.2), upd_ne u v (Ne.symm hd.1), upd_ne u v (Ne.symm hd.2.1), upd_ne u v (Ne.symm hd.2.2)]
 exact h
theorem Ph.early (h : Ph L g S i o rest' X f u e w') (h10 : f 10 = false) : w'.heap[X]? = some (.cells #[.int .i64 o.k, .int .i64 o.a, .int .i64 o.b, .int .i64 o.c] 49) := by
 rcases h with ⟨_, _, h, d, rfl⟩ | ⟨h, _⟩
 ·exact h
 ·rw [h10] at h; cases h
theorem Ph.callAt (h : Ph L g S i o rest' X f u e w') (h10 : f 10 = false) : e.τ.goal = Ch L (i : Nat) (L.enter e.s (i : Nat) o) rest' e.ans /\ ∃ d, w' = e.w.at d := by
 rcases h with ⟨_, h, _, h2⟩ | ⟨h, _⟩
 ·exact ⟨h, h2⟩
 ·rw [h10] at h; cases h
theorem Ph.newAt (h : Ph L g S i o rest' X f u e w') (h10 : f 10 = true) (h11 : f 11 = false) : ∃ a sl, u 24 = Cu a sl /\ LsAt g.w0.heap.size (Cq e.τ e.y e.w) sl a.l e.w /\ e.τ.goal = Bc L (i : Nat) e.s rest' (e.ans ++ [a]) /\ f 12 = false /\ ∃ d, w' = e.w.at d := by
 rcases h with ⟨h, _⟩ | ⟨_, a, sl, h1, hl, h2, ⟨_, h12, _, h⟩ | ⟨h, _⟩ | ⟨h, _⟩⟩
 ·rw [h10] at h; cases h
 ·exact ⟨a, sl, h1, hl, h2, h12, h⟩
 ·rw [h11] at h; cases h
 ·rw [h11] at h; cases h
theorem Ph.appAt (h : Ph L g S i o rest' X f u e w') (h10 : f 10 = true) (h11 : f 11 = true) (h12 : f 12 = false) : ∃ a sl, u 24 = Cu a sl /\ LsAt g.w0.heap.size (Cq e.τ e.y e.w) sl a.l e.w /\ e.τ.goal = Bc L (i : Nat) e.s rest' (e.ans ++ [a]) /\ u 25 = .slice (some ⟨e.w.heap.size, 0, none⟩) 1 1 /\ ∃ d, w' = (Ej e.w a sl).at d := by
 rcases h with ⟨h, _⟩ | ⟨_, a, sl, h1, hl, h2, ⟨h, _⟩ | ⟨_, _, _, h25, h⟩ | ⟨_, h, _⟩⟩
 ·rw [h10] at h; cases h
 ·rw [h11] at h; cases h
 ·exact ⟨a, sl, h1, hl, h2, h25, h⟩
 ·rw [h12] at h; cases h
theorem Ph.stAt (h : Ph L g S i o rest' X f u e w') (h10 : f 10 = true) (h11 : f 11 = true) (h12 : f 12 = true) (h14 : f 14 = false) : ∃ a sl, u 24 = Cu a sl /\ LsAt g.w0.heap.size (Cq e.τ e.y e.w) sl a.l e.w /\ e.τ.goal = Bc L (i : Nat) e.s rest' (e.ans ++ [a]) /\ ∃ z gb gcap w3, z.map Prod.fst = e.ans /\ RowZ g (Cq e.τ e.y e.w) e.hd z e.w /\ AppO g e.w a sl e.hd z gb gcap w3 /\ u 26 = .slice (some ⟨gb, 0, none⟩) (e.ans.length + 1) gcap /\ ∃ d, w' = w3.at d := by
 rcases h with ⟨h, _⟩ | ⟨_, a, sl, h1, hl, h2, ⟨h, _⟩ | ⟨_, h, _⟩ | ⟨_, _, z, gb, gcap, w3, hz, hZ, hA, h26, ⟨_, h⟩ | ⟨h, _⟩⟩⟩
 ·rw [h10] at h; cases h
 ·rw [h11] at h; cases h
 ·rw [h12] at h; cases h
 ·exact ⟨a, sl, h1, hl, h2, z, gb, gcap, w3, hz, hZ, hA, h26, h⟩
 ·rw [h14] at h; cases h
theorem Ph.endAt (h : Ph L g S i o rest' X f u e w') (h10 : f 10 = true) (h12 : f 12 = true) (h14 : f 14 = true) : ∃ a sl, LsAt g.w0.heap.size (Cq e.τ e.y e.w) sl a.l e.w /\ e.τ.goal = Bc L (i : Nat) e.s rest' (e.ans ++ [a]) /\ ∃ z gb gcap w3, z.map Prod.fst = e.ans /\ RowZ g (Cq e.τ e.y e.w) e.hd z e.w /\ AppO g e.w a sl e.hd z gb gcap w3 /\ ∃ d, w' = (w3.setCell ⟨g.A, i, none⟩ (.slice (some ⟨gb, 0, none⟩) (e.ans.length + 1) gcap)).at d := by
 rcases h with ⟨h, _⟩ | ⟨_, a, sl, h1, hl, h2, ⟨_, h, _⟩ | ⟨_, h, _⟩ | ⟨_, _, z, gb, gcap, w3, hz, hZ, hA, h26, ⟨h, _⟩ | ⟨_, h⟩⟩⟩
 ·rw [h10] at h; cases h
 ·rw [h12] at h; cases h
 ·rw [h12] at h; cases h
 ·rw [h14] at h; cases h
 ·rw [h26] at h
  exact ⟨a, sl, hl, h2, z, gb, gcap, w3, hz, hZ, hA, h⟩
theorem Hw {dsts : List Nat} {vals : List Value} {f : Nat -> Bool} {u : Nat -> Value} (F : Facts dsts vals f u) {d : Nat} {v : Value} (hd : d ∉ dsts) : Facts dsts vals f (upd u d v) := by
 intro j d' v' hf hd' hv'
 have hne : d' ≠ d := fun e => hd (by rw [<- e]; exact List.mem_of_getElem? hd')
 rw [upd_ne _ _ hne]
 exact F j d' v' hf hd' hv'
theorem LsAt.far {base : Nat} {P : Nat -> Prop} {sl : Value} {l : List Int} {w w' : World} (h : LsAt base P sl l w) (hb : ∀ b cur fr, P b -> w.heap[b]? = some (.cells cur 2 fr) -> w'.heap[b]? = w.heap[b]?) : LsAt base P sl l w' := by
 obtain ⟨a, c, e, hn, hr⟩ := h
 refine ⟨a, c, e, hn, fun hl => ⟨Ao (hr hl).1 fun b hb' => ?_, (hr hl).2⟩⟩
 rcases (hr hl).1.2 with ⟨h1, _⟩ | ⟨g, cap, cur, h1, _, h3, _⟩
 ·rw [h1] at hb'; cases hb'
 ·have : g = b := by rw [h1] at hb'; exact Option.some.inj hb'
  subst this
  exact hb _ _ _ ((hr hl).2 _ hb') h3
theorem RowZ.kind {g : OG} {P : Nat -> Prop} {hd : Value} {z : List (Ans × Value)} {w : World} (h : RowZ g P hd z w) {b : Nat} (hb : hd.ownBlock = some b) {cur : Array Value} {fr : Nat × Nat} : w.heap[b]? ≠ some (.cells cur 2 fr) := by
 intro hc
 rcases h.own.2 with ⟨h1, _⟩ | ⟨g', cap, cur', h1, _, h3, _⟩
 ·rw [h1] at hb; cases hb
 ·have : g' = b := by rw [h1] at hb; exact Option.some.inj hb
  subst this
  rw [h3] at hc
  simp at hc
theorem EC.told (e : EC L g S i) {a : Ans} {sl : Value} {z : List (Ans × Value)} {gb gcap : Nat} {w3 : World} (hl : LsAt g.w0.heap.size (Cq e.τ e.y e.w) sl a.l e.w) (hz : z.map Prod.fst = e.ans) (hZ : RowZ g (Cq e.τ e.y e.w) e.hd z e.w) (h : AppO g e.w a sl e.hd z gb gcap w3) : ∃ e' : EC L g S i, e'.τ = e.τ /\ e'.N = e.N /\ e'.s = e.s /\ e'.ans = e.ans ++ [a] /\ e'.w = w3.setCell ⟨g.A, i, none⟩ (.slice (some ⟨gb, 0, none⟩) (e.ans.length + 1) gcap) := by
 obtain ⟨hd0, r⟩ := e.rely
 obtain ⟨arr, arr', a1, a2, a3, a4, a5⟩ := e.an
 have hzl : z.length = e.ans.length := by rw [<- hz, List.length_map]
 have hsz1 : (Ej e.w a sl).heap.size = e.w.heap.size + 1 := by simp [Ej]
 have hs3 := h.grown.size
 have hold : ∀ b, b < e.w.heap.size -> some b ≠ e.hd.ownBlock -> w3.heap[b]? = e.w.heap[b]? := fun b hb hne => (h.grown.block b (by omega) hne).trans (Ad _ _ hb)
 have hAo : some g.A ≠ e.hd.ownBlock := fun he => by have := (e.lo (e.hdo _ he.symm)).1; have := r.alo; omega
 have hAl : g.A < e.w.heap.size := by have := r.alo; have := r.size; have := e.size; omega
 have hA3 : w3.heap[g.A]? = some (.cells arr' 44) := (hold _ hAl hAo).trans a2
 have hgo : Cq e.τ e.y e.w gb ∨ e.w.heap.size <= gb := by
  rcases h.hat with h | h
  ·exact .inl (e.hdo _ h)
  ·exact .inr (by omega)
 have hgA : gb ≠ g.A := fun he => by
  rcases hgo with h | h
  ·exact (e.noA h).2 he
  ·omega
 have hset : ∀ b, b ≠ g.A -> (w3.setCell ⟨g.A, i, none⟩ (.slice (some ⟨gb, 0, none⟩) (e.ans.length + 1) gcap)).heap[b]? = w3.heap[b]? := fun b hb => Ab _ _ _ _ hb
 have hil : i < arr'.size := (Array.getElem?_eq_some_iff.1 a4).1
 have hown' : ∀ b, Cq e.τ e.y e.w b -> Cq e.τ e.y (w3.setCell ⟨g.A, i, none⟩ (.slice (some ⟨gb, 0, none⟩) (e.ans.length + 1) gcap)) b := fun b hb => ⟨hb.1.imp id fun h => ⟨h.1, by rw [Af]; omega⟩, hb.2⟩
 have hgn : ¬ L.sh e.y gb := fun hs => by
  rcases hgo with h | h
  ·exact h.2 hs
  ·have := L.lt e.inv hs; omega
 refine ⟨{ τ := e.τ, N := e.N, w := w3.setCell ⟨g.A, i, none⟩ (.slice (some ⟨gb, 0, none⟩) (e.ans.length + 1) gcap), y := e.y, s := e.s, ans := e.ans ++ [a], hd := .slice (some ⟨gb, 0, none⟩) (e.ans.length + 1) gcap, le := e.le, size := by rw [Af]; have := e.size; omega, frame := fun b h1 h2 h3 h4 => (hset b h4).trans ((hold b (Nat.lt_of_lt_of_le h1 e.size) fun he => ?_).trans (e.frame b h1 h2 h3 h4)), pub := e.pub, rely := e.rely, an := ⟨arr, arr'.setIfInBounds i (.slice (some ⟨gb, 0, none⟩) (e.ans.length + 1) gcap), a1, Am _ _ hA3, by simp [a3], by simp [hil], fun j hj => ?_⟩, row := ⟨some ⟨gb, 0, none⟩, gcap, z ++ [(a, sl)], by simp [hz], by simp, ?_, fun b hb => ?_, fun p hp => ?_⟩, inv := L.stable e.inv fun b hb => ?_ }, rfl, rfl, rfl, rfl, rfl⟩
 ·rcases (e.hdo b he.symm).1 with h | h
  ·exact h2 h
  ·have := h.1; omega
 ·rw [Array.getElem?_setIfInBounds_ne (Ne.symm hj)]; exact a5 j hj
 ·rw [Kv, List.length_append, List.length_singleton, <- hzl]
  refine Ao h.own fun b hb => ?_
  rw [hzl]
  refine hset b fun he => ?_
  simp only [Value.ownBlock, Option.some.injEq] at hb
  exact hgA (hb.trans he)
 ·simp only [Value.ownBlock, Option.some.injEq] at hb
  subst hb
  refine ⟨?_, hgn⟩
  rcases hgo with hg | hg
  ·exact (hown' _ hg).1
  ·exact .inr ⟨Nat.le_trans e.size hg, by rw [Af]; exact h.hlt⟩
 ·have hp' : LsAt g.w0.heap.size (Cq e.τ e.y e.w) p.2 p.1.l e.w := by
   rcases List.mem_append.1 hp with hp | hp
   ·exact hZ.ls p hp
   ·rw [List.mem_singleton.1 hp]; exact hl
  refine (hp'.far fun b cur fr hb hc => ?_).imp hown'
  refine (hset b (e.noA hb).2).trans (hold b (e.lo hb).2 fun he => hZ.kind he.symm hc)
 ·have h1 := e.shb hb
  exact (hset b h1.1).trans (hold b (L.lt e.inv hb) fun he => (e.noA (e.hdo b he.symm)).1 hb)
end
end
end Go.Proofs.Ytcdcnmphjhfbpaa
