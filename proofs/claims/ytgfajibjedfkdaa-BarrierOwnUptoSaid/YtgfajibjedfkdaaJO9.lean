/- Part 9. -/
import Derived.Test.YtgfajibjedfkdaaJO3
import Derived.Test.YtgfajibjedfkdaaJO4
import Derived.Test.YtgfajibjedfkdaaJO5
import Derived.Test.YtgfajibjedfkdaaJO8
import Derived.Test.YtgfajibjedfkdaaProg
import Derived.KernelRfl
import Derived.Handy
import Derived.Conc.AtomicLaws2
set_option linter.unusedSimpArgs false
set_option linter.unusedVariables false
set_option maxHeartbeats 8000000
set_option maxRecDepth 100000
namespace Go.Proofs.Ytgfajibjedfkdaa
open Go.Conc Go.RowKit Go.Relay
open Go.ConcN (upd upd_ne upd_same)
section
noncomputable def reg78_0 := rg Try.f78.body [0]
noncomputable def reg78_1 := rg Try.f78.body [1, 0]
theorem z78 : List.range reg78_0.size = [0, 1] ∧ List.range reg78_1.size = [0, 1] := by refine ⟨?_, ?_⟩ <;> kernel_rfl
theorem code78_is : Try.f78.body = some (.seq (.region 0 reg78_0 false) (.cond (.tmp 3 ) (.region 1 reg78_1 false) (.skip))) := by kernel_rfl
theorem undStepper : ∃ ms, Try.prog.underlying 113 = some (.interface ms) := by
  have h : (match Try.prog.underlying 113 with | some (.interface _) => true | _ => false) = true := by kernel_rfl
  revert h
  cases Try.prog.underlying 113 with
  | none => simp
  | some d =>
    cases d with
    | interface fs => exact fun _ => ⟨fs, rfl⟩
    | _ => simp
structure EC (L : La) (g : OG) (S : Stile) (i : Nat) where
  τ : Tn L
  N : Nat
  w : World
  y : L.Gh
  s : L.Sg
  ans : List Ans
  hd : Value
  le : L.le τ.y y
  size : τ.w.heap.size ≤ w.heap.size
  frame : ∀ b, b < τ.w.heap.size → ¬ τ.M b → ¬ L.sh τ.y b → b ≠ g.A → w.heap[b]? = τ.w.heap[b]?
  pub : ∀ b, L.sh y b → L.sh τ.y b ∨ τ.M b ∨ τ.w.heap.size ≤ b
  rely : ∃ hd0, Rely L g i τ.V τ.y τ.w hd0 τ.M
  an : AnT g i τ.w w hd
  row : RowA g.w0.heap.size (ownT τ y w) hd ans w
  inv : L.I y s w
structure OC where
  left : List OpV
  ans : List Ans
  hd : Value
  K : Nat → Prop
  wK : World
structure EO (L : La) (g : OG) (S : Stile) (i : Nat) (c : OC) extends EC L g S i where
  tgt : L.Sg × (Ans ⊕ L.D)
  eqA : ans = c.ans
  eqH : hd = c.hd
  goal : τ.goal = landO L (i : Nat) tgt c.left ans
  Kown : ∀ b, c.K b → ownT τ y w b
  kept : ∀ b, c.K b → w.heap[b]? = c.wK.heap[b]?
  rowK : RowA g.w0.heap.size c.K hd ans w
section
variable {L : La} {g : OG} {S : Stile} {i : Nat} {c : OC}
theorem EC.lo (e : EC L g S i) {b : Nat} (h : ownT e.τ e.y e.w b) : g.w0.heap.size ≤ b ∧ b < e.w.heap.size := by
  obtain ⟨hd0, r⟩ := e.rely
  have := e.size
  rcases h.1 with h | h
  · have := r.lo b h; omega
  · have := r.size; omega
theorem EC.noA (e : EC L g S i) {b : Nat} (h : ownT e.τ e.y e.w b) : ¬ L.sh e.y b ∧ b ≠ g.A := by
  obtain ⟨hd0, r⟩ := e.rely
  have h1 := e.lo h
  exact ⟨h.2, fun h => by have := r.alo; omega⟩
theorem EC.shb (e : EC L g S i) {b : Nat} (h : L.sh e.y b) : b ≠ g.A ∧ (b < g.w0.heap.size → g.sh b) := by
  obtain ⟨hd0, r⟩ := e.rely
  rcases e.pub b h with h | h | h
  · exact ⟨(r.shlo b h).1, (r.shlo b h).2.2⟩
  · have := r.lo b h; have := r.alo; exact ⟨by omega, fun _ => by omega⟩
  · have := r.alo; have := r.size; exact ⟨by omega, fun _ => by omega⟩
theorem EC.apart (e : EC L g S i) {b : Nat} (h : b < g.w0.heap.size ∨ ownT e.τ e.y e.w b ∨ e.w.heap.size ≤ b ∨ L.sh e.y b) : Apart e.τ.V b := by
  obtain ⟨hd0, r⟩ := e.rely
  have := e.size
  refine r.apart b ?_
  rcases h with h | h | h | h
  · exact .inl h
  · rcases h.1 with h | h
    · exact .inr (.inl h)
    · exact .inr (.inr (.inl h.1))
  · exact .inr (.inr (.inl (by omega)))
  · rcases e.pub b h with h | h | h
    · exact .inr (.inr (.inr h))
    · exact .inr (.inl h)
    · exact .inr (.inr (.inl h))
theorem EC.hdo (e : EC L g S i) : ∀ b, e.hd.ownBlock = some b → ownT e.τ e.y e.w b := e.row.hdo
def crewB (L : La) (g : OG) (S : Stile) (i : Nat) (c : OC) : Lb L where
  main := false
  E := EO L g S i c
  V := fun e => e.τ.V
  Stop := fun e => StopT L g S i (Cont L g S i e.N) e.τ
  bot := fun e => e.τ.f :: e.τ.fs
  w := fun e => e.w
  s := fun e => e.s
  gh := fun e => e.y
  tgt := fun e => e.tgt
  fuel := fun e => e.N
  mine := fun e b => ownT e.τ e.y e.w b ∧ ¬ c.K b
theorem EO.mg (e : EO L g S i c) (y' : L.Gh) (s' : L.Sg) (w' : World) (hle : L.le e.y y') (hs : e.w.heap.size ≤ w'.heap.size) (hsame : ∀ b, b < e.w.heap.size → ¬ (ownT e.τ e.y e.w b ∧ ¬ c.K b) → ¬ L.sh e.y b → w'.heap[b]? = e.w.heap[b]?) (hI : L.I y' s' w')
    (hpub : ∀ b, L.sh y' b → L.sh e.y b ∨ (ownT e.τ e.y e.w b ∧ ¬ c.K b) ∨ e.w.heap.size ≤ b) : ∃ e' : EO L g S i c, Mg (crewB L g S i c) e e' y' s' w' := by
  obtain ⟨hd0, r⟩ := e.rely
  have hK : ∀ b, c.K b → w'.heap[b]? = e.w.heap[b]? := fun b h => hsame b (e.lo (e.Kown b h)).2 (fun x => x.2 h) (e.noA (e.Kown b h)).1
  have hA : w'.heap[g.A]? = e.w.heap[g.A]? := hsame _ (by have := r.alo; have := r.size; have := e.size; omega) (fun x => by have := (e.lo x.1).1; have := r.alo; omega) (fun h => (e.shb h).1 rfl)
  have hKn : ∀ b, c.K b → ¬ L.sh y' b := fun b h hs => by
    rcases hpub b hs with h1 | h1 | h1
    · exact (e.noA (e.Kown b h)).1 h1
    · exact h1.2 h
    · have := (e.lo (e.Kown b h)).2; omega
  have hown : ∀ b, ownT e.τ e.y e.w b → ¬ L.sh y' b → ownT e.τ y' w' b := fun b h hn => ⟨h.1.imp id fun h => ⟨h.1, by omega⟩, hn⟩
  have hKo : ∀ b, c.K b → ownT e.τ y' w' b := fun b h => hown b (e.Kown b h) (hKn b h)
  refine ⟨{ τ := e.τ, N := e.N, w := w', y := y', s := s', ans := e.ans, hd := e.hd, le := L.trans e.le hle, size := Nat.le_trans e.size hs, frame := fun b h1 h2 h3 h4 => ?_, pub := fun b h => ?_, rely := e.rely, an := ?_, row := (e.rowK.same hK).imp hKo, inv := hI, tgt := e.tgt, eqA := e.eqA, eqH := e.eqH, goal := e.goal, Kown := hKo, kept := fun b h => (hK b h).trans (e.kept b h), rowK := e.rowK.same hK }, ⟨rfl, rfl, rfl, rfl, rfl, rfl, rfl, rfl, fun b => ?_⟩⟩
  · refine (hsame b (Nat.lt_of_lt_of_le h1 e.size) (fun x => ?_) (fun x => ?_)).trans (e.frame b h1 h2 h3 h4)
    · rcases x.1.1 with h | h
      · exact h2 h
      · have := h.1; omega
    · rcases e.pub b x with h | h | h
      · exact h3 h
      · exact h2 h
      · omega
  · rcases hpub b h with h | h | h
    · exact e.pub b h
    · rcases h.1.1 with h | h
      · exact .inr (.inl h)
      · exact .inr (.inr h.1)
    · exact .inr (.inr (Nat.le_trans e.size h))
  · obtain ⟨arr, arr', h1, h2, h3⟩ := e.an
    exact ⟨arr, arr', h1, hA.trans h2, h3⟩
  · show (ownT e.τ y' w' b ∧ ¬ c.K b) ↔ ((ownT e.τ e.y e.w b ∧ ¬ c.K b) ∨ (e.w.heap.size ≤ b ∧ b < w'.heap.size)) ∧ ¬ L.sh y' b
    constructor
    · rintro ⟨⟨h | h, hn⟩, hk⟩
      · exact ⟨.inl ⟨⟨.inl h, fun hs => hn (L.mono hle hs)⟩, hk⟩, hn⟩
      · refine ⟨?_, hn⟩
        by_cases hb : b < e.w.heap.size
        · exact .inl ⟨⟨.inr ⟨h.1, hb⟩, fun hs => hn (L.mono hle hs)⟩, hk⟩
        · exact .inr ⟨by omega, h.2⟩
    · rintro ⟨⟨h, hk⟩ | h, hn⟩
      · exact ⟨hown b h hn, hk⟩
      · exact ⟨⟨.inr ⟨Nat.le_trans e.size h.1, h.2⟩, hn⟩, fun hk => by have := (e.lo (e.Kown b hk)).2; omega⟩
theorem EO.step (e : EO L g S i c) (d : L.D) (ht : e.tgt = (e.s, .inr d)) (fr : Frame) (l : List Frame) (hp : Plain fr) (hl : ∀ f ∈ l, Plain f) (hk : ∀ e' : EO L g S i c, Aft (crewB L g S i c) e d e' → LW (crewB L g S i c) e' (G (fr.finish (.tuple #[])) (l ++ e'.τ.f :: e'.τ.fs))) :
    LW (crewB L g S i c) e (G (Frame.enter Try.prog 78 #[.iface 230 (.pointer (some ⟨S.p i, 0, none⟩))] .normal) (fr :: (l ++ e.τ.f :: e.τ.fs))) := by
  obtain ⟨ms, hu⟩ := undStepper
  have hn1 := fun w => run_neq_iface (P := Try.prog) (w := w) 113 230 (.pointer (some ⟨S.p i, 0, none⟩)) hu
  have hn2 := fun w es => ev_neq_iface (P := Try.prog) (w := w) 113 230 (.pointer (some ⟨S.p i, 0, none⟩)) es hu
  unfold LW
  show Walk Try.prog false (DR e.τ.V) (StopT L g S i (Cont L g S i e.N) e.τ) _ e.w
  rw [enter_at _ Try.func78 code78_is]
  simp only [Try.ntmps78, ez, Nat.reduceAdd, Nat.reduceSub]
  repeat (first | refine Walk.cx ?_ | (refine Walk.cReg ?_; simp only [z78]) | (refine Walk.oq ?_; try walk_nrm) | (refine Walk.un ?_; walk_nrm))
  refine Walk.invokeStep (S.p i) (ho_of (by conv => lhs; whnf) (by kernel_rfl)) (by rfl) (by decide) rfl rfl ?_
  generalize hX : Frame.at _ _ _ = X
  have hgoal : e.τ.goal = (e.s, ⟨c.left, some d, e.ans⟩) := by rw [e.goal, ht]; rfl
  refine .stop fun dr => ⟨e.y, e.le, e.size, e.frame, ?_, e.pub, e.hd, e.an, ?_, .inr ⟨X :: fr :: l, ?_, by simp, ?_, ?_, rfl⟩⟩
  · rw [hgoal]; exact L.stable e.inv fun _ _ => rfl
  · rw [hgoal]; exact e.row.same fun _ _ => rfl
  · rw [hgoal]; rfl
  · intro x hx
    rcases List.mem_cons.1 hx with rfl | hx
    · subst hX; exact ⟨rfl, rfl, _, Try.func78⟩
    · rcases List.mem_cons.1 hx with rfl | hx
      · exact hp
      · exact hl x hx
  · rw [hgoal]
    have hN : ∀ N', e.N = N' → Cont L g S i N' ⟨c.left, some d, e.ans⟩ (X :: fr :: l) e.y e.hd (ownT e.τ e.y (e.w.at dr)) (e.w.at dr) := fun N' hN' => by
      cases N' with
      | zero => trivial
      | succ n =>
        intro V f fs y' w' s' c1 l' d' h0 h1 h2 h3 h4 h5 h6
        obtain rfl : d = d' := Option.some.inj h5
        obtain ⟨rfl, rfl⟩ := List.cons.inj h6
        rw [← hX, Frame.finish_at]
        repeat (first | (refine Walk.oq ?_; try walk_nrm) | (refine Walk.un ?_; walk_nrm))
        repeat (first | refine Walk.cx ?_ | (refine Walk.cReg ?_; simp only [z78]) | (refine Walk.oq ?_; try walk_nrm) | (refine Walk.un ?_; walk_nrm))
        refine Walk.on0 rfl rfl Try.func78 rfl ?_
        have hKo : ∀ b, c.K b → ownT (⟨V, f, fs, w', y', ownT e.τ e.y e.w, landO L (i : Nat) (L.act s' d) c.left e.ans⟩ : Tn L) y' w' b := fun b h => ⟨.inl (e.Kown b h), (h3.lo b (e.Kown b h)).2.2⟩
        have hKs : ∀ b, c.K b → w'.heap[b]? = e.w.heap[b]? := fun b h => h2 b (e.Kown b h)
        refine hk { τ := ⟨V, f, fs, w', y', ownT e.τ e.y e.w, landO L (i : Nat) (L.act s' d) c.left e.ans⟩, N := n, w := w', y := y', s := s', ans := e.ans, hd := e.hd, le := L.refl _, size := Nat.le_refl _, frame := fun _ _ _ _ _ => rfl, pub := fun b h => .inl h, rely := ⟨e.hd, h3⟩, an := ?_, row := (e.rowK.same hKs).imp hKo, inv := h4, tgt := L.act s' d, eqA := e.eqA, eqH := e.eqH, goal := rfl, Kown := hKo, kept := fun b h => (hKs b h).trans (e.kept b h), rowK := e.rowK.same hKs } ⟨rfl, ?_, h0, h1, fun b hb => ⟨⟨⟨.inl hb.1, (h3.lo b hb.1).2.2⟩, hb.2⟩, h2 b hb.1⟩⟩
        · obtain ⟨arr, ha, hb⟩ := h3.an
          exact ⟨arr, arr, ha, ha, rfl, hb, fun _ _ => rfl⟩
        · show n < e.N
          omega
    exact hN e.N rfl
end
end
section
section
variable {L : La} {sv : Value}
theorem Mv.new {K : Lg L sv} {e e' : K.E} {s' : L.Sg} {w' : World} (m : Mv K.toLb e e' s' w') {b : Nat} (h1 : (K.w e).heap.size ≤ b) (h2 : b < w'.heap.size) : K.mine e' b := (m.mine b).2 (.inr ⟨h1, h2⟩)
theorem Lg.grow (K : Lg L sv) (e : K.E) {w' : World} (hs : (K.w e).heap.size ≤ w'.heap.size) (hb : ∀ b, b < (K.w e).heap.size → w'.heap[b]? = (K.w e).heap[b]?) : ∃ e', Mv K.toLb e e' (K.s e) w' :=
  K.mv e (K.s e) w' hs (fun b h _ _ => hb b h) (L.stable (K.inv e) fun b h => hb b (L.lt (K.inv e) h))
theorem Lg.own (K : Lg L sv) (e : K.E) {w' : World} (hs : (K.w e).heap.size ≤ w'.heap.size) (hb : ∀ b, b < (K.w e).heap.size → ¬ K.mine e b → w'.heap[b]? = (K.w e).heap[b]?) : ∃ e', Mv K.toLb e e' (K.s e) w' :=
  K.mv e (K.s e) w' hs (fun b h hm _ => hb b h hm) (L.stable (K.inv e) fun b h => hb b (L.lt (K.inv e) h) fun hm => (K.mineA e b hm).2.1 h)
theorem at_slots {b : Frame} {A : Array Value} {todo : List Item} {cs : List Frame} {F : (Nat → Value) → Goroutine} (h : G (b.at ⟨A, []⟩ todo) cs = F (fun k => A.getD k undef)) : ∃ u, G (b.at ⟨A, []⟩ todo) cs = F u := ⟨_, h⟩
theorem Walk.finish {P : Program} {main : Bool} {D : World → World → Array Event → Prop} {Stop : Goroutine → World → Prop} {w : World} {b : Frame} {a : Act} {k : List Item} {cs : List Frame} {ops : Array Oper} {i : Nat} {rest : List Nat} {o : Oper} {v : Value} (ho : ops[i]? = some o)
    (h : Walk P main D Stop (G (b.at (a.put o.dst v) (.inRegion ops rest :: k)) cs) w) : Walk P main D Stop (G ((b.at a (.inRegion ops (i :: rest) :: k)).finish v) cs) w := by
  rw [Frame.finish_at, ho]
  exact h
end
end
section
section
variable {P : Program}
theorem run_app0 {t e : TypeId} {ti : TypeInfo} (hu : P.underlying t = some (.slice e)) (hi : P.info? e = some ti) (ty : TypeId) (a : Addr) (x : Option Addr) (c : Nat) (w : World) (es : Array Event) : (Builtin.append_ #[t, t] ty #[.slice (some a) 0 0, .slice x 0 c]).run P w = .ok (.slice (some a) 0 0) w ∧ (Builtin.append_ #[t, t] ty #[.slice (some a) 0 0, .slice x 0 c]).events P w es = es := by
  constructor <;> cases x <;> simp [Builtin.append_, run_underlying hu, sizeOf, typeInfo, hi, Builtin.lenOf, Builtin.firstCells, loadCells] <;> rfl
end
theorem setRow_self {w : World} {g : Nat} {old cells : Array Value} {tt : TypeId} {fr : Nat × Nat} (h : w.heap[g]? = some (.cells old tt fr)) : (w.setRow g cells).heap[g]? = some (.cells cells tt fr) := setRow_heap w g old cells tt fr h
theorem setRow_other (w : World) {g b : Nat} (cells : Array Value) (h : b ≠ g) : (w.setRow g cells).heap[b]? = w.heap[b]? := by
  unfold World.setRow
  simp only [Array.getElem?_modify]
  rw [if_neg (Ne.symm h)]
theorem setRow_size (w : World) (g : Nat) (cells : Array Value) : (w.setRow g cells).heap.size = w.heap.size := by
  unfold World.setRow
  simp
end
section
def runN (L : La) : Nat → L.Sg × (Ans ⊕ L.D) → Option (L.Sg × Ans)
  | _, (s, .inl a) => some (s, a)
  | 0, (_, .inr _) => none
  | n + 1, (s, .inr d) => runN L n (L.act s d)
theorem runN_inl (L : La) (n : Nat) (s : L.Sg) (a : Ans) : runN L n (s, .inl a) = some (s, a) := by cases n <;> rfl
theorem undStepperN : ∃ ms, Try.prog.underlying 113 = some (.interface ms) := by
  have h : (match Try.prog.underlying 113 with | some (.interface _) => true | _ => false) = true := by kernel_rfl
  revert h
  cases Try.prog.underlying 113 with
  | none => simp
  | some d =>
    cases d with
    | interface fs => exact fun _ => ⟨fs, rfl⟩
    | _ => simp
structure NilE (L : La) (y0 : L.Gh) (base : World) (R : L.Sg × Ans) where
  w : World
  y : L.Gh
  s : L.Sg
  tgt : L.Sg × (Ans ⊕ L.D)
  fuel : Nat
  le : L.le y0 y
  inv : L.I y s w
  size : base.heap.size ≤ w.heap.size
  old : ∀ b, b < base.heap.size → ¬ L.sh y0 b → w.heap[b]? = base.heap[b]?
  pub : ∀ b, L.sh y b → b < base.heap.size → L.sh y0 b
  run : runN L fuel tgt = some R
section
variable {L : La} {main : Bool} {V : Nat → Option Wait} {Stop : Goroutine → World → Prop} {cs : List Frame} {y0 : L.Gh} {base : World} {R : L.Sg × Ans}
def nilB (main : Bool) (V : Nat → Option Wait) (Stop : Goroutine → World → Prop) (cs : List Frame) (y0 : L.Gh) (base : World) (R : L.Sg × Ans) : Lb L where
  main := main
  E := NilE L y0 base R
  V := fun _ => V
  Stop := fun _ => Stop
  bot := fun _ => cs
  w := fun e => e.w
  s := fun e => e.s
  gh := fun e => e.y
  tgt := fun e => e.tgt
  fuel := fun e => e.fuel
  mine := fun e b => (base.heap.size ≤ b ∧ b < e.w.heap.size) ∧ ¬ L.sh e.y b
theorem nil_step (e : NilE L y0 base R) (d : L.D) (ht : e.tgt = (e.s, .inr d)) (fr : Frame) (l : List Frame) (hk : ∀ e' : NilE L y0 base R, Aft (nilB main V Stop cs y0 base R) e d e' → LW (nilB main V Stop cs y0 base R) e' (G (fr.finish (.tuple #[])) (l ++ cs))) :
    LW (nilB main V Stop cs y0 base R) e (G (Frame.enter Try.prog 78 #[.nilIface] .normal) (fr :: (l ++ cs))) := by
  obtain ⟨ms, hu⟩ := undStepperN
  have hn1 := fun w => run_neq_nilIface (P := Try.prog) (w := w) 113 hu
  have hn2 := fun w es => ev_neq_nilIface (P := Try.prog) (w := w) 113 es hu
  obtain ⟨n, hn, hr⟩ : ∃ n, e.fuel = n + 1 ∧ runN L n (L.act e.s d) = some R := by
    have h := e.run
    rw [ht] at h
    cases hf : e.fuel with
    | zero => rw [hf] at h; cases h
    | succ n => rw [hf] at h; exact ⟨n, rfl, h⟩
  have hh := hk { w := e.w, y := e.y, s := e.s, tgt := L.act e.s d, fuel := n, le := e.le, inv := e.inv, size := e.size, old := e.old, pub := e.pub, run := hr } ⟨rfl, show n < e.fuel by omega, L.refl _, Nat.le_refl _, fun b h => ⟨h, rfl⟩⟩
  unfold LW at hh ⊢
  show Walk Try.prog main (DR V) Stop _ e.w
  replace hh : Walk Try.prog main (DR V) Stop (G (fr.finish (.tuple #[])) (l ++ cs)) e.w := hh
  rw [enter_at _ Try.func78 code78_is]
  simp only [Try.ntmps78, ez, Nat.reduceAdd, Nat.reduceSub]
  repeat (first | refine Walk.cx ?_ | (refine Walk.cReg ?_; simp only [z78]) | (refine Walk.oq ?_; try walk_nrm) | (refine Walk.un ?_; walk_nrm))
  exact Walk.on0 rfl rfl Try.func78 rfl hh
theorem nil_mine {y0 y' : L.Gh} {base : World} {e : NilE L y0 base R} {w' : World} {b : Nat} (hle : L.le e.y y') (hs : e.w.heap.size ≤ w'.heap.size) : ((base.heap.size ≤ b ∧ b < w'.heap.size) ∧ ¬ L.sh y' b) ↔ ((((base.heap.size ≤ b ∧ b < e.w.heap.size) ∧ ¬ L.sh e.y b) ∨ (e.w.heap.size ≤ b ∧ b < w'.heap.size)) ∧ ¬ L.sh y' b) := by
  have := e.size
  constructor
  · rintro ⟨⟨a, b'⟩, hn⟩
    refine ⟨?_, hn⟩
    by_cases hb : b < e.w.heap.size
    · exact .inl ⟨⟨a, hb⟩, fun h => hn (L.mono hle h)⟩
    · exact .inr ⟨by omega, b'⟩
  · rintro ⟨⟨⟨a, b'⟩, _⟩ | ⟨a, b'⟩, hn⟩
    · exact ⟨⟨a, by omega⟩, hn⟩
    · exact ⟨⟨by omega, b'⟩, hn⟩
def nilL (hA : ∀ b, Apart V b) (main : Bool) (Stop : Goroutine → World → Prop) (cs : List Frame) (y0 : L.Gh) (base : World) (R : L.Sg × Ans) : Lg L .nilIface where
  toLb := nilB main V Stop cs y0 base R
  one := rfl
  inv := fun e => e.inv
  shA := fun _ b _ => hA b
  mineA := fun e b h => ⟨hA b, h.2, h.1.2⟩
  newA := fun _ b _ => hA b
  mg := fun e y' s' w' h0 h1 h2 h3 h4 => ⟨{ w := w', y := y', s := s', tgt := e.tgt, fuel := e.fuel, le := L.trans e.le h0, inv := h3, size := Nat.le_trans e.size h1, old := fun b hb hs => (h2 b (Nat.lt_of_lt_of_le hb e.size) (fun hm => by have := hm.1.1; omega) (fun hm => hs (e.pub b hm hb))).trans (e.old b hb hs), pub := fun b hb hlt => (h4 b hb).elim (fun h => e.pub b h hlt) fun h => h.elim (fun h => absurd h.1.1 (Nat.not_le_of_lt hlt)) fun h => absurd (Nat.le_trans e.size h) (Nat.not_le_of_lt hlt), run := e.run }, rfl, rfl, rfl, rfl, rfl, rfl, rfl, rfl, fun b => nil_mine h0 h1⟩
  step := fun e d ht fr l _ _ hk => nil_step e d ht fr l hk
structure Lone (L : La) (y0 : L.Gh) (w : World) (R : L.Sg × Ans) (w' : World) (y : L.Gh) : Prop where
  le : L.le y0 y
  I : L.I y R.1 w'
  size : w.heap.size ≤ w'.heap.size
  old : ∀ b, b < w.heap.size → ¬ L.sh y0 b → w'.heap[b]? = w.heap[b]?
  pub : ∀ b, L.sh y b → b < w.heap.size → L.sh y0 b
variable {b : Frame} {a : Act} {k : List Item} {ops : Array Oper} {i : Nat} {rest : List Nat} {o : Oper} {w : World}
end
end
section
section
variable {main : Bool} {V : Nat → Option Wait}
theorem Walk.turn {P : Program} {Stop : Goroutine → World → Prop} {g g' : Goroutine} {w W : World} {es : Array Event} (hr : g.status = .running) (hs : ∀ d, stepG P main g (w.at d) = .go g' (W.at d) es) (hd : ∀ d, DR V (w.at d) (W.at d) es) (h : Walk P main (DR V) Stop g' W) : Walk P main (DR V) Stop g w :=
  Walk.step hr (fun _ => g') (fun d => W.at d) (fun _ => es) hs hd (fun d => h.back d)
end
structure Wd (L : La) where
  on : L.Gh → Prop
  up : ∀ {y y' : L.Gh}, L.le y y' → on y → on y'
  b : Nat
  q : Nat
  get : L.Sg → Int
  put : L.Sg → Int → L.Sg
  ok : Int → Prop
  sh : ∀ y, on y → L.sh y b
  rd : ∀ y s w, on y → L.I y s w → w.cell? ⟨b, q, none⟩ = some (.int .i64 (get s)) ∧ w.frozen? ⟨b, q, none⟩ = false
  wr : ∀ y s w v, on y → ok v → L.I y s w → L.I y (put s v) (w.setCell ⟨b, q, none⟩ (.int .i64 v))
def Wd.p {L : La} (W : Wd L) : Value := .pointer (some ⟨W.b, W.q, none⟩)
section
variable {L : La} {sv : Value}
structure Wrote (K : Lg L sv) (e : K.E) (d : L.D) (s : L.Sg) (s' : L.Sg) (e' : K.E) : Prop where
  tgt : K.tgt e' = L.act s d
  fuel : K.fuel e' < K.fuel e
  le : L.le (K.gh e) (K.gh e')
  s : K.s e' = s'
  size : (K.w e).heap.size ≤ (K.w e').heap.size
  mine : ∀ b, K.mine e b → K.mine e' b ∧ (K.w e').heap[b]? = (K.w e).heap[b]?
theorem Wrote.same {K : Lg L sv} {e e1 : K.E} {d : L.D} (ha : Aft K.toLb e d e1) : Wrote K e d (K.s e1) (K.s e1) e1 := ⟨ha.tgt, ha.fuel, ha.le, rfl, ha.size, ha.mine⟩
end
end
end Go.Proofs.Ytgfajibjedfkdaa
