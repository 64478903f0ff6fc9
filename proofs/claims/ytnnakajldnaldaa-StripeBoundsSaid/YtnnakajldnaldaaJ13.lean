/- Part 13. -/
import Derived.Test.YtnnakajldnaldaaJ3
import Derived.Test.YtnnakajldnaldaaJ4
import Derived.Test.YtnnakajldnaldaaJ12
set_option linter.unusedSimpArgs false
set_option linter.unusedVariables false
set_option maxHeartbeats 8000000
set_option maxRecDepth 100000
namespace Go.Proofs.Ytnnakajldnaldaa
open Go.Conc Go.RowKit Go.Relay
open Go.ConcN (upd upd_ne upd_same)
section
noncomputable def reg55_0 := rg Try.f55.body [0]
noncomputable def reg55_1 := rg Try.f55.body [1, 0]
theorem z55 : List.range reg55_0.size = [0, 1] ∧ List.range reg55_1.size = [0, 1] := by refine ⟨?_, ?_⟩ <;> kernel_rfl
theorem code55_is : Try.f55.body = some (.seq (.region 0 reg55_0 false) (.cond (.tmp 3 ) (.region 1 reg55_1 false) (.skip))) := by kernel_rfl
theorem undStepper : ∃ ms, Try.prog.underlying 84 = some (.interface ms) := by
  have h : (match Try.prog.underlying 84 with | some (.interface _) => true | _ => false) = true := by kernel_rfl
  revert h
  cases Try.prog.underlying 84 with
  | none => simp
  | some d =>
    cases d with
    | interface fs => exact fun _ => ⟨fs, rfl⟩
    | _ => simp
structure EC (L : La) (g : OG) (S : Stile) (i : Nat) where
  τ : Tn L
  N : Nat
  w : World
  s : L.Sg
  ans : List Ans
  hd : Value
  size : τ.w.heap.size ≤ w.heap.size
  frame : ∀ b, b < τ.w.heap.size → ¬ τ.M b → ¬ L.sh b → b ≠ g.A → w.heap[b]? = τ.w.heap[b]?
  rely : ∃ hd0, Rely L g i τ.V τ.w hd0 τ.M
  an : AnT g i τ.w w hd
  row : RowO g hd ans w
  hdo : ∀ b, hd.ownBlock = some b → ownT τ w b
  inv : L.I s w
structure OC where
  left : List OpV
  ans : List Ans
  hd : Value
  K : Nat → Prop
  wK : World
structure EO (L : La) (g : OG) (S : Stile) (i : Nat) (c : OC) extends EC L g S i where
  tgt : L.Sg × (Ans ⊕ L.D)
  eqA : ans = c.ans
  eqH : hd = c.hd
  goal : τ.goal = landO L tgt c.left ans
  Kown : ∀ b, c.K b → ownT τ w b
  kept : ∀ b, c.K b → w.heap[b]? = c.wK.heap[b]?
  hdK : ∀ b, hd.ownBlock = some b → c.K b
section
variable {L : La} {g : OG} {S : Stile} {i : Nat} {c : OC}
theorem EC.lo (e : EC L g S i) {b : Nat} (h : ownT e.τ e.w b) : g.w0.heap.size ≤ b ∧ b < e.w.heap.size := by
  obtain ⟨hd0, r⟩ := e.rely
  have := e.size
  rcases h with h | h
  · have := r.lo b h; omega
  · have := r.size; omega
theorem EC.noA (e : EC L g S i) {b : Nat} (h : ownT e.τ e.w b) : ¬ L.sh b ∧ b ≠ g.A := by
  obtain ⟨hd0, r⟩ := e.rely
  have h1 := e.lo h
  exact ⟨fun h => by have := (r.shlo b h).1; omega, fun h => by have := r.alo; omega⟩
theorem EC.apart (e : EC L g S i) {b : Nat} (h : b < g.w0.heap.size ∨ ownT e.τ e.w b ∨ e.w.heap.size ≤ b) : Apart e.τ.V b := by
  obtain ⟨hd0, r⟩ := e.rely
  have := e.size
  refine r.apart b ?_
  rcases h with h | (h | h) | h
  · exact .inl h
  · exact .inr (.inl h)
  · exact .inr (.inr h.1)
  · exact .inr (.inr (by omega))
def crewB (L : La) (g : OG) (S : Stile) (i : Nat) (c : OC) : Lb L where
  main := false
  E := EO L g S i c
  V := fun e => e.τ.V
  Stop := fun e => StopT L g S i (Cont L g S i e.N) e.τ
  bot := fun e => e.τ.f :: e.τ.fs
  w := fun e => e.w
  s := fun e => e.s
  tgt := fun e => e.tgt
  fuel := fun e => e.N
  mine := fun e b => ownT e.τ e.w b ∧ ¬ c.K b
theorem EO.mv (e : EO L g S i c) (s' : L.Sg) (w' : World) (hs : e.w.heap.size ≤ w'.heap.size) (hsame : ∀ b, b < e.w.heap.size → ¬ (ownT e.τ e.w b ∧ ¬ c.K b) → ¬ L.sh b → w'.heap[b]? = e.w.heap[b]?) (hI : L.I s' w') : ∃ e' : EO L g S i c, Mv (crewB L g S i c) e e' s' w' := by
  obtain ⟨hd0, r⟩ := e.rely
  have hK : ∀ b, c.K b → w'.heap[b]? = e.w.heap[b]? := fun b h => hsame b (e.lo (e.Kown b h)).2 (fun x => x.2 h) (e.noA (e.Kown b h)).1
  have hA : w'.heap[g.A]? = e.w.heap[g.A]? := hsame _ (by have := r.alo; have := r.size; have := e.size; omega) (fun x => by have := (e.lo x.1).1; have := r.alo; omega) (fun h => (r.shlo _ h).2 rfl)
  have hown : ∀ b, ownT e.τ e.w b → ownT e.τ w' b := fun b h => h.imp id fun h => ⟨h.1, by omega⟩
  refine ⟨{ τ := e.τ, N := e.N, w := w', s := s', ans := e.ans, hd := e.hd, size := Nat.le_trans e.size hs, frame := fun b h1 h2 h3 h4 => (hsame b (Nat.lt_of_lt_of_le h1 e.size) (fun x => ?_) h3).trans (e.frame b h1 h2 h3 h4), rely := e.rely, an := ?_, row := e.row.same fun b h => hK b (e.hdK b h), hdo := fun b h => hown b (e.hdo b h), inv := hI, tgt := e.tgt, eqA := e.eqA, eqH := e.eqH, goal := e.goal, Kown := fun b h => hown b (e.Kown b h), kept := fun b h => (hK b h).trans (e.kept b h), hdK := e.hdK }, ⟨rfl, rfl, rfl, rfl, rfl, rfl, rfl, fun b => ?_⟩⟩
  · rcases x.1 with h | h
    · exact h2 h
    · have := h.1; omega
  · obtain ⟨arr, arr', h1, h2, h3⟩ := e.an
    exact ⟨arr, arr', h1, hA.trans h2, h3⟩
  · show (ownT e.τ w' b ∧ ¬ c.K b) ↔ ((ownT e.τ e.w b ∧ ¬ c.K b) ∨ (e.w.heap.size ≤ b ∧ b < w'.heap.size))
    constructor
    · rintro ⟨h | h, hk⟩
      · exact .inl ⟨.inl h, hk⟩
      · by_cases hb : b < e.w.heap.size
        · exact .inl ⟨.inr ⟨h.1, hb⟩, hk⟩
        · exact .inr ⟨by omega, h.2⟩
    · rintro (⟨h, hk⟩ | h)
      · exact ⟨hown b h, hk⟩
      · exact ⟨.inr ⟨Nat.le_trans e.size h.1, h.2⟩, fun hk => by have := (e.lo (e.Kown b hk)).2; omega⟩
theorem EO.step (e : EO L g S i c) (d : L.D) (ht : e.tgt = (e.s, .inr d)) (fr : Frame) (l : List Frame) (hp : Plain fr) (hl : ∀ f ∈ l, Plain f) (hk : ∀ e' : EO L g S i c, Aft (crewB L g S i c) e d e' → LW (crewB L g S i c) e' (G (fr.finish (.tuple #[])) (l ++ e'.τ.f :: e'.τ.fs))) :
    LW (crewB L g S i c) e (G (Frame.enter Try.prog 55 #[.iface 140 (.pointer (some ⟨S.p i, 0, none⟩))] .normal) (fr :: (l ++ e.τ.f :: e.τ.fs))) := by
  obtain ⟨ms, hu⟩ := undStepper
  have hn1 := fun w => run_neq_iface (P := Try.prog) (w := w) 84 140 (.pointer (some ⟨S.p i, 0, none⟩)) hu
  have hn2 := fun w es => ev_neq_iface (P := Try.prog) (w := w) 84 140 (.pointer (some ⟨S.p i, 0, none⟩)) es hu
  unfold LW
  show Walk Try.prog false (DR e.τ.V) (StopT L g S i (Cont L g S i e.N) e.τ) _ e.w
  rw [enter_at _ Try.func55 code55_is]
  simp only [Try.ntmps55, ez, Nat.reduceAdd, Nat.reduceSub]
  repeat (first | refine Walk.cx ?_ | (refine Walk.cReg ?_; simp only [z55]) | (refine Walk.oq ?_; try walk_nrm) | (refine Walk.un ?_; walk_nrm))
  refine Walk.invokeStep (S.p i) (ho_of (by conv => lhs; whnf) (by kernel_rfl)) (by rfl) (by decide) rfl rfl ?_
  generalize hX : Frame.at _ _ _ = X
  have hgoal : e.τ.goal = (e.s, ⟨c.left, some d, e.ans⟩) := by rw [e.goal, ht]; rfl
  obtain ⟨hd0, r⟩ := e.rely
  refine .stop fun dr => ⟨e.size, e.frame, ?_, e.hd, e.an, ?_, e.hdo, .inr ⟨X :: fr :: l, ?_, by simp, ?_, ?_, rfl⟩⟩
  · rw [hgoal]; exact L.stable e.inv fun _ _ => rfl
  · rw [hgoal]; exact e.row.same fun _ _ => rfl
  · rw [hgoal]; rfl
  · intro x hx
    rcases List.mem_cons.1 hx with rfl | hx
    · subst hX; exact ⟨rfl, rfl, _, Try.func55⟩
    · rcases List.mem_cons.1 hx with rfl | hx
      · exact hp
      · exact hl x hx
  · rw [hgoal]
    have hN : ∀ N', e.N = N' → Cont L g S i N' ⟨c.left, some d, e.ans⟩ (X :: fr :: l) e.hd (ownT e.τ (e.w.at dr)) (e.w.at dr) := fun N' hN' => by
      cases N' with
      | zero => trivial
      | succ n =>
        intro V f fs w' s' c1 l' d' h1 h2 h3 h4 h5 h6
        obtain rfl : d = d' := Option.some.inj h5
        obtain ⟨rfl, rfl⟩ := List.cons.inj h6
        rw [← hX, Frame.finish_at]
        repeat (first | (refine Walk.oq ?_; try walk_nrm) | (refine Walk.un ?_; walk_nrm))
        repeat (first | refine Walk.cx ?_ | (refine Walk.cReg ?_; simp only [z55]) | (refine Walk.oq ?_; try walk_nrm) | (refine Walk.un ?_; walk_nrm))
        refine Walk.on0 rfl rfl Try.func55 rfl ?_
        refine hk { τ := ⟨V, f, fs, w', ownT e.τ e.w, landO L (L.act s' d) c.left e.ans⟩, N := n, w := w', s := s', ans := e.ans, hd := e.hd, size := Nat.le_refl _, frame := fun _ _ _ _ _ => rfl, rely := ⟨e.hd, h3⟩, an := ?_, row := e.row.same fun b h => h2 b (e.hdo b h), hdo := fun b h => .inl (e.hdo b h), inv := h4, tgt := L.act s' d, eqA := e.eqA, eqH := e.eqH, goal := rfl, Kown := fun b h => .inl (e.Kown b h), kept := fun b h => (h2 b (e.Kown b h)).trans (e.kept b h), hdK := e.hdK } ⟨rfl, ?_, h1, fun b hb => ⟨⟨.inl hb.1, hb.2⟩, h2 b hb.1⟩⟩
        · obtain ⟨arr, ha, hb⟩ := h3.an
          exact ⟨arr, arr, ha, ha, rfl, hb, fun _ _ => rfl⟩
        · show n < e.N
          omega
    exact hN e.N rfl
def crewL (L : La) (g : OG) (S : Stile) (i : Nat) (c : OC) : Lg L (.iface 140 (.pointer (some ⟨S.p i, 0, none⟩))) where
  toLb := crewB L g S i c
  one := rfl
  inv := fun e => e.inv
  shA := fun e b h => e.apart (.inl (by obtain ⟨hd0, r⟩ := e.rely; exact (r.shlo b h).1))
  mineA := fun e b h => ⟨e.apart (.inr (.inl h.1)), (e.noA h.1).1, (e.lo h.1).2⟩
  newA := fun e b h => e.apart (.inr (.inr h))
  mv := fun e s' w' h1 h2 h3 => by
    exact EO.mv e s' w' h1 h2 h3
  step := fun e d ht fr l hp hl hk => EO.step e d ht fr l hp hl hk
end
end
section
section
variable {L : La} {sv : Value}
def FzE (K : Lg L sv) (e0 : K.E) : Type := { e : K.E // ∀ b, K.mine e0 b → K.mine e b ∧ (K.w e).heap[b]? = (K.w e0).heap[b]? }
def FzB (K : Lg L sv) (e0 : K.E) : Lb L where
  main := K.main
  E := FzE K e0
  V := fun e => K.V e.1
  Stop := fun e => K.Stop e.1
  bot := fun e => K.bot e.1
  w := fun e => K.w e.1
  s := fun e => K.s e.1
  tgt := fun e => K.tgt e.1
  fuel := fun e => K.fuel e.1
  mine := fun e b => K.mine e.1 b ∧ ¬ K.mine e0 b
def Fz (K : Lg L sv) (e0 : K.E) : Lg L sv where
  toLb := FzB K e0
  inv := fun e => K.inv e.1
  shA := fun e => K.shA e.1
  mineA := fun e b h => K.mineA e.1 b h.1
  newA := fun e => K.newA e.1
  one := K.one
  mv := fun e s' w' h1 h2 h3 => by
    have hz : ∀ b, K.mine e0 b → b < (K.w e.1).heap.size ∧ w'.heap[b]? = (K.w e.1).heap[b]? := fun b h => by
      have hm := K.mineA e.1 b (e.2 b h).1
      exact ⟨hm.2.2, h2 b hm.2.2 (fun x => x.2 h) hm.2.1⟩
    obtain ⟨e', m⟩ := K.mv e.1 s' w' h1 (fun b hb hn hs => h2 b hb (fun x => hn x.1) hs) h3
    refine ⟨⟨e', fun b h => ⟨(m.mine b).2 (.inl (e.2 b h).1), ?_⟩⟩, m.V, m.Stop, m.bot, m.w, m.s, m.tgt, m.fuel, fun b => ?_⟩
    · rw [m.w]; exact (hz b h).2.trans (e.2 b h).2
    · show (K.mine e' b ∧ ¬ K.mine e0 b) ↔ ((K.mine e.1 b ∧ ¬ K.mine e0 b) ∨ ((K.w e.1).heap.size ≤ b ∧ b < w'.heap.size))
      rw [m.mine]
      constructor
      · rintro ⟨h | h, hn⟩
        · exact .inl ⟨h, hn⟩
        · exact .inr h
      · rintro (⟨h, hn⟩ | h)
        · exact ⟨.inl h, hn⟩
        · exact ⟨.inr h, fun hn => by have := (hz b hn).1; omega⟩
  step := fun e d ht fr l hp hl hk => by
    refine K.step e.1 d ht fr l hp hl fun e' ha => ?_
    refine hk ⟨e', fun b h => ?_⟩ ⟨ha.tgt, ha.fuel, ha.size, fun b hb => ⟨⟨(ha.mine b hb.1).1, hb.2⟩, (ha.mine b hb.1).2⟩⟩
    have hm := ha.mine b (e.2 b h).1
    exact ⟨hm.1, hm.2.trans (e.2 b h).2⟩
def fz0 (K : Lg L sv) (e : K.E) : (Fz K e).E := ⟨e, fun _ h => ⟨h, rfl⟩⟩
def Kept (K : Lg L sv) (e e' : K.E) : Prop := ∀ b, K.mine e b → K.mine e' b ∧ (K.w e').heap[b]? = (K.w e).heap[b]?
theorem SCall.fz (K : Lg L sv) {e : K.E} {f : FuncId} {args : Array Value} {Q : Value → (Fz K e).E → Prop} (h : SCall (Fz K e).toLb f args (fz0 K e) Q) : SCall K.toLb f args e (fun v e' => ∃ h : Kept K e e', Q v ⟨e', h⟩) := fun fr l hp hl hk =>
  h fr l hp hl fun v e' hq => hk v e'.1 ⟨e'.2, hq⟩
theorem Mv.new {K : Lg L sv} {e e' : K.E} {s' : L.Sg} {w' : World} (m : Mv K.toLb e e' s' w') {b : Nat} (h1 : (K.w e).heap.size ≤ b) (h2 : b < w'.heap.size) : K.mine e' b := (m.mine b).2 (.inr ⟨h1, h2⟩)
theorem Lg.grow (K : Lg L sv) (e : K.E) {w' : World} (hs : (K.w e).heap.size ≤ w'.heap.size) (hb : ∀ b, b < (K.w e).heap.size → w'.heap[b]? = (K.w e).heap[b]?) : ∃ e', Mv K.toLb e e' (K.s e) w' :=
  K.mv e (K.s e) w' hs (fun b h _ _ => hb b h) (L.stable (K.inv e) fun b h => hb b (L.lt (K.inv e) h))
theorem Lg.own (K : Lg L sv) (e : K.E) {w' : World} (hs : (K.w e).heap.size ≤ w'.heap.size) (hb : ∀ b, b < (K.w e).heap.size → ¬ K.mine e b → w'.heap[b]? = (K.w e).heap[b]?) : ∃ e', Mv K.toLb e e' (K.s e) w' :=
  K.mv e (K.s e) w' hs (fun b h hm _ => hb b h hm) (L.stable (K.inv e) fun b h => hb b (L.lt (K.inv e) h) fun hm => (K.mineA e b hm).2.1 h)
theorem at_slots {b : Frame} {A : Array Value} {todo : List Item} {cs : List Frame} {F : (Nat → Value) → Goroutine} (h : G (b.at ⟨A, []⟩ todo) cs = F (fun k => A.getD k undef)) : ∃ u, G (b.at ⟨A, []⟩ todo) cs = F u := ⟨_, h⟩
theorem slots_walk {P : Program} {main : Bool} {D : World → World → Array Event → Prop} {Stop : Goroutine → World → Prop} {b : Frame} {A : Array Value} {todo : List Item} {cs : List Frame} {w : World} {F : (Nat → Value) → Goroutine} (h : ∀ u, Walk P main D Stop (F u) w) (e : G (b.at ⟨A, []⟩ todo) cs = F (fun k => A.getD k undef)) : Walk P main D Stop (G (b.at ⟨A, []⟩ todo) cs) w := e ▸ h _
theorem Walk.finish {P : Program} {main : Bool} {D : World → World → Array Event → Prop} {Stop : Goroutine → World → Prop} {w : World} {b : Frame} {a : Act} {k : List Item} {cs : List Frame} {ops : Array Oper} {i : Nat} {rest : List Nat} {o : Oper} {v : Value} (ho : ops[i]? = some o)
    (h : Walk P main D Stop (G (b.at (a.put o.dst v) (.inRegion ops rest :: k)) cs) w) : Walk P main D Stop (G ((b.at a (.inRegion ops (i :: rest) :: k)).finish v) cs) w := by
  rw [Frame.finish_at, ho]
  exact h
theorem LW.to {K : Lb L} {e e' : K.E} {s' : L.Sg} {w' : World} {fr : Frame} {l : List Frame} (m : Mv K e e' s' w') (h : LW K e' (G fr (l ++ K.bot e'))) : Walk Try.prog K.main (DR (K.V e)) (K.Stop e) (G fr (l ++ K.bot e)) w' := by
  rw [m.bot] at h
  exact LW.mv m h
end
end
section
theorem structT (t : TypeId) (h : (match Try.prog.underlying t with | some (.struct _) => true | _ => false) = true) : ∃ fs, Try.prog.underlying t = some (.struct fs) := by
  revert h
  cases Try.prog.underlying t with
  | none => simp
  | some d =>
    cases d with
    | struct fs => exact fun _ => ⟨fs, rfl⟩
    | _ => simp
section
variable {P : Program} {w : World}
theorem run_eql_func (t : TypeId) (f : Fn) (x y : Array Value) {a b c} (hu : P.underlying t = some (.func a b c)) : (binOp .eql t (.func f x y) .nilFunc).run P w = .ok (.bool false) w := by
  simp only [binOp]
  simp [Op.equal, Op.maxDepth, run_eqIn_func (w := w) 9999 t f x y hu]
theorem ev_eql_func (t : TypeId) (f : Fn) (x y : Array Value) (es : Array Event) {a b c} (hu : P.underlying t = some (.func a b c)) : (binOp .eql t (.func f x y) .nilFunc).events P w es = es := by
  simp only [binOp]
  simp [Op.equal, Op.maxDepth, run_eqIn_func (w := w) 9999 t f x y hu, ev_eqIn_func (w := w) 9999 t f x y es hu]
end
section
variable {P : Program} {w : World}
theorem run_eqIn_nilSlice (d : Nat) (t : TypeId) {e} (hu : P.underlying t = some (.slice e)) : (Op.equalIn (d + 1) t (.slice none 0 0) (.slice none 0 0)).run P w = .ok true w := by simp [Op.equalIn, run_underlying hu]
theorem ev_eqIn_nilSlice (d : Nat) (t : TypeId) (es : Array Event) {e} (hu : P.underlying t = some (.slice e)) : (Op.equalIn (d + 1) t (.slice none 0 0) (.slice none 0 0)).events P w es = es := by simp [Op.equalIn, run_underlying hu]
theorem run_eql_nilSlice (t : TypeId) {e} (hu : P.underlying t = some (.slice e)) : (binOp .eql t (.slice none 0 0) (.slice none 0 0)).run P w = .ok (.bool true) w := by
  simp only [binOp]
  simp [Op.equal, Op.maxDepth, run_eqIn_nilSlice (w := w) 9999 t hu]
theorem ev_eql_nilSlice (t : TypeId) (es : Array Event) {e} (hu : P.underlying t = some (.slice e)) : (binOp .eql t (.slice none 0 0) (.slice none 0 0)).events P w es = es := by
  simp only [binOp]
  simp [Op.equal, Op.maxDepth, run_eqIn_nilSlice (w := w) 9999 t hu, ev_eqIn_nilSlice (w := w) 9999 t es hu]
end
theorem results_cell {fn : Func} {tmps : Array Value} {t : Tmp} {ty tt : TypeId} {T : Nat} {cells : Array Value} {w : World} {V : Nat → Option Wait} (hr : fn.results = #[.cell t ty]) (h8 : tmps.getD t undef = .pointer (some ⟨T, 0, none⟩)) (hT : w.heap[T]? = some (.cells cells tt (0, 0)))
    {fs} (hu : Try.prog.underlying ty = some (.struct fs)) (hi : (Try.prog.info? ty).map (·.size) = some cells.size) :
    (results fn tmps).run Try.prog w = .ok (.agg cells) w ∧ ∀ e ∈ (results fn tmps).events Try.prog w #[], EvR V e := by
  have hl := run_loadVar_row (P := Try.prog) w T tt ty cells (0, 0) _ hT hu rfl hi
  have he := events_loadVar_reads (P := Try.prog) w ⟨T, 0, none⟩ ty hu rfl hi
  simp only [Array.getD_eq_getD_getElem?] at h8
  constructor
  · simp only [results, hr]
    simp [h8, asAddr, hl]
  · intro e hm
    refine evR_isRead (he e ?_)
    simp only [results, hr] at hm
    simpa [h8, asAddr, hl] using hm
theorem Walk.onCell {main : Bool} {V : Nat → Option Wait} {Stop : Goroutine → World → Prop} {fr c : Frame} {cs : List Frame} {w : World} {fn : Func} {t : Tmp} {ty tt : TypeId} {T : Nat} {cells : Array Value} (hm : fr.mode = .returning) (hn : fr.kind = .normal) (hd : fr.defers = []) (hf : Try.prog.funcs[fr.fn]? = some fn)
    (hr : fn.results = #[.cell t ty]) (h8 : fr.tmps.getD t undef = .pointer (some ⟨T, 0, none⟩)) (hT : w.heap[T]? = some (.cells cells tt (0, 0))) (hs : (match Try.prog.underlying ty with | some (.struct _) => true | _ => false) = true) (hi : (Try.prog.info? ty).map (·.size) = some cells.size)
    (h : Walk Try.prog main (DR V) Stop (G (c.finish (.agg cells)) cs) w) : Walk Try.prog main (DR V) Stop (G fr (c :: cs)) w := by
  obtain ⟨fs, hu⟩ := structT ty hs
  exact Walk.evs (fun x => seen Try.prog fr.fn ((results fn fr.tmps).events Try.prog (w.at x) #[])) rfl (fun x => stepG_leaveF hm hn hd hf (results_cell (V := V) (w := w.at x) hr h8 hT hu hi).1)
    (fun x e he => (results_cell (V := V) (w := w.at x) hr h8 hT hu hi).2 e (mem_seen he)) h
section
variable {main : Bool} {V : Nat → Option Wait}
noncomputable def reg75_0 := rg Try.f75.body [0]
noncomputable def reg75_1 := rg Try.f75.body [1, 0, 0]
noncomputable def reg75_2 := rg Try.f75.body [1, 0, 1, 0, 0]
noncomputable def reg75_3 := rg Try.f75.body [1, 1, 0]
theorem z75 : List.range reg75_0.size = [0] ∧ List.range reg75_1.size = [0, 1] ∧ List.range reg75_2.size = [0] ∧ List.range reg75_3.size = [0, 1, 2, 3] := by refine ⟨?_, ?_, ?_, ?_⟩ <;> kernel_rfl
theorem code75_is : Try.f75.body = some (.seq (.region 0 reg75_0 false) (.seq (.seq (.region 1 reg75_1 false) (.cond (.tmp 4 ) (.seq (.region 2 reg75_2 false) (.ret)) (.skip))) (.seq (.region 3 reg75_3 false) (.ret)))) := by kernel_rfl
theorem clone_nil (w : World) : CallV Try.prog main V 75 #[.slice none 0 0] w (.slice none 0 0) w := by
  have hn1 := fun w => run_eql_nilSlice (P := Try.prog) (w := w) 22 (by kernel_rfl : Try.prog.underlying 22 = some (.slice 2))
  have hn2 := fun w es => ev_eql_nilSlice (P := Try.prog) (w := w) 22 es (by kernel_rfl : Try.prog.underlying 22 = some (.slice 2))
  refine callW_in Try.func75 code75_is fun fr cs => ?_
  simp only [Try.ntmps75, ez, Nat.reduceAdd, Nat.reduceSub]
  repeat (first | refine Walk.cx ?_ | (refine Walk.cReg ?_; simp only [z75]) | (refine Walk.oq ?_; try walk_nrm) | (refine Walk.un ?_; walk_nrm))
  exact Walk.ret1 rfl rfl Try.func75 rfl fun d => ⟨rfl, d, rfl⟩
end
theorem setRow_self {w : World} {g : Nat} {old cells : Array Value} {tt : TypeId} {fr : Nat × Nat} (h : w.heap[g]? = some (.cells old tt fr)) : (w.setRow g cells).heap[g]? = some (.cells cells tt fr) := setRow_heap w g old cells tt fr h
theorem setRow_other (w : World) {g b : Nat} (cells : Array Value) (h : b ≠ g) : (w.setRow g cells).heap[b]? = w.heap[b]? := by
  unfold World.setRow
  simp only [Array.getElem?_modify]
  rw [if_neg (Ne.symm h)]
theorem setRow_size (w : World) (g : Nat) (cells : Array Value) : (w.setRow g cells).heap.size = w.heap.size := by
  unfold World.setRow
  simp
end
section
def DoOK (L : La) (f : FuncId) (first cap : Array Value) : Prop := ∀ (sv : Value) (K : Lg L sv) (e : K.E) (th : Int) (op : OpV), K.tgt e = L.enter (K.s e) op →
  SCall K.toLb f (first ++ #[sv, .int .i64 th, opVal op] ++ cap) e (fun v e' => ∃ a, K.tgt e' = (K.s e', .inl a) ∧ v = ansVal a)
noncomputable def reg60_0 := rg Try.f60.body [0]
noncomputable def reg60_1 := rg Try.f60.body [1, 0, 0]
noncomputable def reg60_2 := rg Try.f60.body [1, 0, 1, 0, 0]
noncomputable def reg60_3 := rg Try.f60.body [1, 1, 0]
noncomputable def reg60_4 := rg Try.f60.body [1, 1, 1, 0]
noncomputable def reg60_5 := rg Try.f60.body [1, 1, 1, 1, 0]
theorem z60 : List.range reg60_0.size = [0, 1] ∧ List.range reg60_1.size = [0, 1] ∧ List.range reg60_2.size = [0, 1] ∧ List.range reg60_3.size = [0, 1, 2, 3, 4, 5, 6] ∧ List.range reg60_4.size = [0, 1, 2, 3, 4] ∧ List.range reg60_5.size = [0, 1] := by refine ⟨?_, ?_, ?_, ?_, ?_, ?_⟩ <;> kernel_rfl
theorem code60_is : Try.f60.body = some (.seq (.region 0 reg60_0 false) (.seq (.seq (.region 1 reg60_1 false) (.cond (.tmp 11 ) (.seq (.region 2 reg60_2 false) (.ret)) (.skip))) (.seq (.region 3 reg60_3 false) (.seq (.region 4 reg60_4 false) (.seq (.region 5 reg60_5 false) (.ret)))))) := by kernel_rfl
section
variable {L : La} {sv : Value}
theorem doOne_s (K : Lg L sv) (e : K.E) (op : OpV) (th : Int) (f : FuncId) (fn : Func) (first cap : Array Value) (hf : Try.prog.funcs[f]? = some fn) (hname : (fn.name == "runtime.NumGoroutine") = false) (hb : fn.body.isNone = false) (hdo : DoOK L f first cap) (ht : K.tgt e = L.enter (K.s e) op) :
    SCall K.toLb 60 #[.func (.func f) first cap, sv, .int .i64 th, opVal op] e (fun v e' => ∃ a, K.tgt e' = (K.s e', .inl a) ∧ v = ansVal a) := by
  intro fr l hp hl hk
  obtain ⟨fsO, huO⟩ := structT 46 (by kernel_rfl)
  obtain ⟨fsA, huA⟩ := structT 43 (by kernel_rfl)
  have hn1 := fun w => run_eql_func (P := Try.prog) (w := w) 79 (.func f) first cap (by kernel_rfl : Try.prog.underlying 79 = some (.func #[84, 3, 46] #[43] false))
  have hn2 := fun w es => ev_eql_func (P := Try.prog) (w := w) 79 (.func f) first cap es (by kernel_rfl : Try.prog.underlying 79 = some (.func #[84, 3, 46] #[43] false))
  unfold LW
  obtain ⟨ok, oa, ob, oc⟩ := op
  simp only [opVal] at *
  rw [enter_at _ Try.func60 code60_is]
  simp only [Try.ntmps60, ez, Nat.reduceAdd, Nat.reduceSub]
  repeat (first | refine Walk.cx ?_ | (refine Walk.cReg ?_; simp only [z60]) | (refine Walk.oq ?_; try walk_nrm) | (refine Walk.un ?_; walk_nrm))
  (refine Walk.oa ?_; try walk_nrm)
  (refine Walk.oa ?_; try walk_nrm)
  repeat (first | refine Walk.cx ?_ | (refine Walk.cReg ?_; simp only [z60]) | (refine Walk.oq ?_; try walk_nrm) | (refine Walk.un ?_; walk_nrm))
  have hsz : (((K.w e).alloc (.cells #[.int .i64 ok, .int .i64 oa, .int .i64 ob, .int .i64 oc] 46)).alloc (.cells #[.bool false, .int .i64 0, .slice none 0 0] 43)).heap.size = (K.w e).heap.size + 2 := by simp
  have hA1 : ((K.w e).alloc (.cells #[.int .i64 ok, .int .i64 oa, .int .i64 ob, .int .i64 oc] 46)).heap.size = (K.w e).heap.size + 1 := by simp
  have c1 : (((K.w e).alloc (.cells #[.int .i64 ok, .int .i64 oa, .int .i64 ob, .int .i64 oc] 46)).alloc (.cells #[.bool false, .int .i64 0, .slice none 0 0] 43)).heap[(K.w e).heap.size]? = some (.cells #[.int .i64 ok, .int .i64 oa, .int .i64 ob, .int .i64 oc] 46) := by
    rw [heap_new_lt _ _ (by omega)]
    exact heap_alloc_new _ _
  have c2 : (((K.w e).alloc (.cells #[.int .i64 ok, .int .i64 oa, .int .i64 ob, .int .i64 oc] 46)).alloc (.cells #[.bool false, .int .i64 0, .slice none 0 0] 43)).heap[(K.w e).heap.size + 1]? = some (.cells #[.bool false, .int .i64 0, .slice none 0 0] 43) := by
    have := heap_alloc_new ((K.w e).alloc (.cells #[.int .i64 ok, .int .i64 oa, .int .i64 ob, .int .i64 oc] 46)) (.cells #[.bool false, .int .i64 0, .slice none 0 0] 43)
    rwa [hA1] at this
  obtain ⟨e1, m1⟩ := K.grow e (w' := ((K.w e).alloc (.cells #[.int .i64 ok, .int .i64 oa, .int .i64 ob, .int .i64 oc] 46)).alloc (.cells #[.bool false, .int .i64 0, .slice none 0 0] 43)) (by omega) (fun b hb' => by
    rw [heap_new_lt _ _ (by omega)]
    exact heap_new_lt _ _ hb')
  try simp only [hA1]
  generalize hw2 : ((K.w e).alloc (.cells #[.int .i64 ok, .int .i64 oa, .int .i64 ob, .int .i64 oc] 46)).alloc (.cells #[.bool false, .int .i64 0, .slice none 0 0] 43) = w2 at *
  generalize hN : (K.w e).heap.size = N at *
  refine Walk.loadS 46 (.tmp 7) (ho_of (by conv => lhs; whnf) (by kernel_rfl)) (by rfl) (by decide) rfl N 0 [.int .i64 ok, .int .i64 oa, .int .i64 ob, .int .i64 oc] (.struct fsO) rfl (fun j v hj => ?_) huO rfl (by kernel_rfl) ?_
  · rw [Nat.zero_add, cell_of c1]
    simpa using hj
  walk_nrm
  repeat (first | refine Walk.cx ?_ | (refine Walk.cReg ?_; simp only [z60]) | (refine Walk.oq ?_; try walk_nrm) | (refine Walk.un ?_; walk_nrm))
  refine Walk.ctl rfl (fun w' => stepG_callValue (ho_of (by conv => lhs; whnf) (by kernel_rfl)) (by rfl) (by decide) rfl rfl hf hname hb) ?_
  walk_nrm
  generalize hX : Frame.at _ _ _ = X
  refine LW.to (l := X :: fr :: l) m1 ?_
  have hpX : Plain X := by subst hX; exact ⟨rfl, rfl, _, Try.func60⟩
  have hpl : ∀ x ∈ fr :: l, Plain x := fun x hx => by
    rcases List.mem_cons.1 hx with rfl | hx
    · exact hp
    · exact hl x hx
  refine (SCall.fz K (hdo sv (Fz K e1) (fz0 K e1) th ⟨ok, oa, ob, oc⟩ (by show K.tgt e1 = L.enter (K.s e1) _; rw [m1.tgt, m1.s, ht]))) X (fr :: l) hpX hpl ?_
  rintro v e2 ⟨hkept, a, ht2, rfl⟩
  obtain ⟨hm2, hb2⟩ := hkept (N + 1) (m1.new (by omega) (by omega))
  rw [m1.w, c2] at hb2
  have hap2 := (K.mineA e2 _ hm2).1
  have hlt2 := (K.mineA e2 _ hm2).2.2
  rw [← hX]
  clear hX hpX
  unfold LW
  simp only [ansVal]
  refine Walk.finish (ho_of (by conv => lhs; whnf) (by kernel_rfl)) ?_
  walk_nrm
  (refine Walk.oa ?_; try walk_nrm)
  have hap3 := K.newA e2 _ (Nat.le_refl (K.w e2).heap.size)
  have c3 := heap_alloc_new (K.w e2) (.cells #[.bool false, .int .i64 0, .slice none 0 0] 43)
  have c4 : ((K.w e2).alloc (.cells #[.bool false, .int .i64 0, .slice none 0 0] 43)).heap[N + 1]? = _ := (heap_new_lt _ _ hlt2).trans hb2
  have hs3 : ((K.w e2).alloc (.cells #[.bool false, .int .i64 0, .slice none 0 0] 43)).heap.size = (K.w e2).heap.size + 1 := by simp
  have o3 : ∀ b, b < (K.w e2).heap.size → ((K.w e2).alloc (.cells #[.bool false, .int .i64 0, .slice none 0 0] 43)).heap[b]? = (K.w e2).heap[b]? := fun b hb' => heap_new_lt _ _ hb'
  generalize hM : (K.w e2).heap.size = M at *
  generalize (K.w e2).alloc (.cells #[.bool false, .int .i64 0, .slice none 0 0] 43) = w3 at *
  refine Walk.storeS 43 (.tmp 9) (.tmp 17) (ho_of (by conv => lhs; whnf) (by kernel_rfl)) (by rfl) (by decide) rfl M #[.bool a.1, .int .i64 a.2, .slice none 0 0] _ 43 rfl rfl c3 (by kernel_rfl) (by rfl) (by simp [Value.oneCell']) hap3 ?_
  have c5 := setRow_self (cells := #[.bool a.1, .int .i64 a.2, .slice none 0 0]) c3
  have c6 : (w3.setRow M #[.bool a.1, .int .i64 a.2, .slice none 0 0]).heap[N + 1]? = _ := (setRow_other w3 _ (show N + 1 ≠ M by omega)).trans c4
  have hs4 := setRow_size w3 M #[.bool a.1, .int .i64 a.2, .slice none 0 0]
  have o4 : ∀ b, b < M → (w3.setRow M #[.bool a.1, .int .i64 a.2, .slice none 0 0]).heap[b]? = (K.w e2).heap[b]? := fun b hb' => (setRow_other w3 _ (show b ≠ M by omega)).trans (o3 b hb')
  generalize w3.setRow M #[.bool a.1, .int .i64 a.2, .slice none 0 0] = w4 at *
  have d2 := cell_of c5 2
  have z2 := frozen_of c5 2
  simp only [List.getElem?_toArray, List.getElem?_cons_succ, List.getElem?_cons_zero] at d2
  walk_nrm
  repeat (first | refine Walk.cx ?_ | (refine Walk.cReg ?_; simp only [z60]) | (refine Walk.oq ?_; try walk_nrm) | (refine Walk.un ?_; walk_nrm))
  refine Walk.callV (x := .slice none 0 0) (W := w4) ?_ (ho_of (by conv => lhs; whnf) (by kernel_rfl)) (by rfl) (by decide) rfl Try.func75 (by kernel_rfl) (by rfl) ?_
  · walk_nrm
    exact clone_nil w4
  walk_nrm
  repeat (first | refine Walk.cx ?_ | (refine Walk.cReg ?_; simp only [z60]) | (refine Walk.oq ?_; try walk_nrm) | (refine Walk.un ?_; walk_nrm))
  (have hfr := hap3.1 ⟨M, 2, none⟩ rfl; refine Walk.os hfr d2 ?_; clear hfr; try walk_nrm)
  have c7 : (w4.setCell ⟨M, 2, none⟩ (.slice none 0 0)).heap[M]? = some (.cells #[.bool a.1, .int .i64 a.2, .slice none 0 0] 43) := by
    rw [heap_set_self _ _ c5]
    simp
  have c8 : (w4.setCell ⟨M, 2, none⟩ (.slice none 0 0)).heap[N + 1]? = _ := (heap_set_other w4 _ _ _ (show N + 1 ≠ M by omega)).trans c6
  have hs5 := size_set w4 ⟨M, 2, none⟩ (.slice none 0 0)
  have o5 : ∀ b, b < M → (w4.setCell ⟨M, 2, none⟩ (.slice none 0 0)).heap[b]? = (K.w e2).heap[b]? := fun b hb' => (heap_set_other w4 _ _ _ (show b ≠ M by omega)).trans (o4 b hb')
  generalize w4.setCell ⟨M, 2, none⟩ (.slice none 0 0) = w5 at *
  repeat (first | refine Walk.cx ?_ | (refine Walk.cReg ?_; simp only [z60]) | (refine Walk.oq ?_; try walk_nrm) | (refine Walk.un ?_; walk_nrm))
  refine Walk.loadS 43 (.tmp 9) (ho_of (by conv => lhs; whnf) (by kernel_rfl)) (by rfl) (by decide) rfl M 0 [.bool a.1, .int .i64 a.2, .slice none 0 0] (.struct fsA) rfl (fun j v hj => ?_) huA rfl (by kernel_rfl) ?_
  · rw [Nat.zero_add, cell_of c7]
    simpa using hj
  walk_nrm
  refine Walk.storeS 43 (.tmp 8) (.tmp 22) (ho_of (by conv => lhs; whnf) (by kernel_rfl)) (by rfl) (by decide) rfl (N + 1) #[.bool a.1, .int .i64 a.2, .slice none 0 0] _ 43 rfl rfl c8 (by kernel_rfl) (by rfl) (by simp [Value.oneCell']) hap2 ?_
  have c9 := setRow_self (cells := #[.bool a.1, .int .i64 a.2, .slice none 0 0]) c8
  obtain ⟨e3, m3⟩ := K.own e2 (w' := w5.setRow (N + 1) #[.bool a.1, .int .i64 a.2, .slice none 0 0]) (by rw [setRow_size]; omega) (fun b hb' hbm => (setRow_other w5 _ (fun he : b = N + 1 => hbm (by rw [he]; exact hm2))).trans (o5 b (by omega)))
  generalize w5.setRow (N + 1) #[.bool a.1, .int .i64 a.2, .slice none 0 0] = w6 at *
  walk_nrm
  repeat (first | refine Walk.cx ?_ | (refine Walk.cReg ?_; simp only [z60]) | (refine Walk.oq ?_; try walk_nrm) | (refine Walk.un ?_; walk_nrm))
  refine Walk.onCell (T := N + 1) rfl rfl rfl Try.func60 rfl (by rfl) c9 (by kernel_rfl) (by kernel_rfl) ?_
  refine LW.to m3 (hk _ e3 ⟨a, ?_, rfl⟩)
  rw [m3.tgt, m3.s]
  exact ht2
end
end
section
noncomputable def reg59_0 := rg Try.f59.body [0]
noncomputable def reg59_1 := rg Try.f59.body [1, 0, 0, 0]
noncomputable def reg59_2 := rg Try.f59.body [1, 0, 0, 1, 1, 0, 0, 0]
noncomputable def reg59_3 := rg Try.f59.body [1, 0, 0, 1, 1, 0, 0, 1]
theorem size59_3 : reg59_3.size = 15 := by kernel_rfl
noncomputable def reg59_4 := rg Try.f59.body [1, 0, 0, 1, 1, 1]
theorem z59 : List.range reg59_0.size = [0, 1, 2] ∧ List.range reg59_1.size = [0] ∧ List.range reg59_2.size = [0, 1, 2, 3] ∧ List.range reg59_3.size = [0, 1, 2, 3, 4, 5, 6, 7, 8, 9, 10, 11, 12, 13, 14] ∧ List.range reg59_4.size = [0, 1] := by refine ⟨?_, ?_, ?_, ?_, ?_⟩ <;> kernel_rfl
theorem code59_is : Try.f59.body = some (.seq (.region 0 reg59_0 false) (.block 0 (.loop (.seq (.region 1 reg59_1 false) (.seq (.cond (.tmp 11 ) (.skip) (.exit 0)) (.seq (.block 1 (.seq (.region 2 reg59_2 false) (.region 3 reg59_3 true))) (.region 4 reg59_4 false))))))) := by kernel_rfl
def ansA (w1 : World) (a : Ans) : World := w1.alloc (.cells #[.bool a.1, .int .i64 a.2, .slice none 0 0] 43)
structure AppO (g : OG) (w1 : World) (a : Ans) (hd : Value) (ans : List Ans) (gb gcap : Nat) (w3 : World) : Prop where
  own : w3.ownsRow g.w0.heap.size 43 3 (.slice (some ⟨gb, 0, none⟩) (ans.length + 1) gcap) (ans.length + 1) (ansRow ans ++ [.bool a.1, .int .i64 a.2, .slice none 0 0])
  grown : (ansA w1 a).grownBy w3 hd.ownBlock
  hat : hd.ownBlock = some gb ∨ gb = (ansA w1 a).heap.size
  hlt : gb < w3.heap.size
structure ThS (L : La) (g : OG) (i pO pA pI pD acap : Nat) (oa : Option Addr) (oc : Nat) (dv : Value) : Prop where
  hi : i < g.n
  n64 : g.n ≤ 64
  len : (g.ops i).length ≤ 65536
  cO : g.w0.cell? ⟨pO, 0, none⟩ = some (.slice oa (g.ops i).length oc)
  cA : g.w0.cell? ⟨pA, 0, none⟩ = some (.slice (some ⟨g.A, 0, none⟩) g.n acap)
  cI : g.w0.cell? ⟨pI, 0, none⟩ = some (.int .i64 (i : Nat))
  cD : g.w0.cell? ⟨pD, 0, none⟩ = some dv
  nO : ¬ L.sh pO ∧ pO ≠ g.A
  nA : ¬ L.sh pA ∧ pA ≠ g.A
  nI : ¬ L.sh pI ∧ pI ≠ g.A
  nD : ¬ L.sh pD ∧ pD ≠ g.A
  ops : ∀ (j : Nat) (o : OpV), (g.ops i)[j]? = some o → ∃ b off, oa = some ⟨b, off, none⟩ ∧ ¬ L.sh b ∧ b ≠ g.A ∧ g.w0.cell? ⟨b, off + j * 4, none⟩ = some (.int .i64 o.k) ∧ g.w0.cell? ⟨b, off + j * 4 + 1, none⟩ = some (.int .i64 o.a) ∧ g.w0.cell? ⟨b, off + j * 4 + 2, none⟩ = some (.int .i64 o.b) ∧ g.w0.cell? ⟨b, off + j * 4 + 3, none⟩ = some (.int .i64 o.c)
structure ClO (g : OG) (i pA pI pD acap : Nat) (dv hd : Value) (w : World) : Prop where
  hA : w.cell? ⟨pA, 0, none⟩ = some (.slice (some ⟨g.A, 0, none⟩) g.n acap)
  hI : w.cell? ⟨pI, 0, none⟩ = some (.int .i64 (i : Nat))
  hD : w.cell? ⟨pD, 0, none⟩ = some dv
  hH : w.cell? ⟨g.A, i, none⟩ = some hd
  hHz : w.frozen? ⟨g.A, i, none⟩ = false
section
variable {L : La} {g : OG} {S : Stile} {i : Nat}
theorem EC.ro (e : EC L g S i) {b : Nat} (h : b < g.w0.heap.size) (h1 : ¬ L.sh b) (h2 : b ≠ g.A) : e.w.heap[b]? = g.w0.heap[b]? := by
  obtain ⟨hd0, r⟩ := e.rely
  exact (e.frame b (Nat.lt_of_lt_of_le h r.size) (fun hm => by have := (r.lo b hm).1; omega) h1 h2).trans (r.old b h h1 h2)
theorem EC.cell (e : EC L g S i) {b j : Nat} {v : Value} (h : g.w0.cell? ⟨b, j, none⟩ = some v) (h1 : ¬ L.sh b ∧ b ≠ g.A) : e.w.cell? ⟨b, j, none⟩ = some v :=
  (World.cell?_of_block (a := ⟨b, j, none⟩) (e.ro (cell_lt' h) h1.1 h1.2)).trans h
theorem EC.apA (e : EC L g S i) : ∀ a : Addr, a.block = g.A → Free e.τ.V a := (e.apart (b := g.A) (.inl (by obtain ⟨hd0, r⟩ := e.rely; exact r.alo))).1
variable {pO pA pI pD acap : Nat} {oa : Option Addr} {oc : Nat} {dv hd : Value}
theorem ThS.cl (T : ThS L g i pO pA pI pD acap oa oc dv) (e : EC L g S i) (h : e.hd = hd) : ClO g i pA pI pD acap dv hd e.w := by
  obtain ⟨arr, arr', h1, h2, h3, h4, h5⟩ := e.an
  exact ⟨e.cell T.cA T.nA, e.cell T.cI T.nI, e.cell T.cD T.nD, (cell_of h2 i).trans (h ▸ h4), frozen_of h2 i⟩
theorem ClO.new {w : World} (h : ClO g i pA pI pD acap dv hd w) (a : Ans) : ClO g i pA pI pD acap dv hd (ansA w a) :=
  ⟨cell_alloc w _ h.hA, cell_alloc w _ h.hI, cell_alloc w _ h.hD, cell_alloc w _ h.hH, frozen_alloc w _ h.hH h.hHz⟩
theorem ThS.app (T : ThS L g i pO pA pI pD acap oa oc dv) (e : EC L g S i) {a : Ans} {gb gcap : Nat} {w3 : World} (h : AppO g e.w a e.hd e.ans gb gcap w3) (hc : ClO g i pA pI pD acap dv hd (ansA e.w a)) : ClO g i pA pI pD acap dv hd w3 := by
  obtain ⟨hd0, r⟩ := e.rely
  have far : ∀ b, b < g.w0.heap.size → some b ≠ e.hd.ownBlock := fun b hb he => by have := (e.lo (e.hdo b he.symm)).1; omega
  have f1 : ∀ {b j : Nat} {v : Value}, b < g.w0.heap.size → (ansA e.w a).cell? ⟨b, j, none⟩ = some v → w3.cell? ⟨b, j, none⟩ = some v := fun {b j v} hb hv =>
    (h.grown.cell_far _ (cell_lt _ hv) (far b hb)).trans hv
  exact ⟨f1 (cell_lt' T.cA) hc.hA, f1 (cell_lt' T.cI) hc.hI, f1 (cell_lt' T.cD) hc.hD, f1 r.alo hc.hH, (h.grown.frozen_far _ (cell_lt _ hc.hH) (far _ r.alo)).trans hc.hHz⟩
def Ph (L : La) (g : OG) (S : Stile) (i : Nat) (o : OpV) (rest' : List OpV) (X : Nat) (f : Nat → Bool) (u : Nat → Value) (e : EC L g S i) (w' : World) : Prop :=
  (f 10 = false ∧ e.τ.goal = landO L (L.enter e.s o) rest' e.ans ∧ e.w.heap[X]? = some (.cells #[.int .i64 o.k, .int .i64 o.a, .int .i64 o.b, .int .i64 o.c] 46) ∧ ∃ d, w' = e.w.at d) ∨
  (f 10 = true ∧ ∃ a, u 24 = ansVal a ∧ e.τ.goal = settleO L e.s rest' (e.ans ++ [a]) ∧
    ((f 11 = false ∧ f 12 = false ∧ f 14 = false ∧ ∃ d, w' = e.w.at d) ∨
     (f 11 = true ∧ f 12 = false ∧ f 14 = false ∧ u 25 = .slice (some ⟨e.w.heap.size, 0, none⟩) 1 1 ∧ ∃ d, w' = (ansA e.w a).at d) ∨
     (f 11 = true ∧ f 12 = true ∧ ∃ gb gcap w3, AppO g e.w a e.hd e.ans gb gcap w3 ∧ u 26 = .slice (some ⟨gb, 0, none⟩) (e.ans.length + 1) gcap ∧
       ((f 14 = false ∧ ∃ d, w' = w3.at d) ∨ (f 14 = true ∧ ∃ d, w' = (w3.setCell ⟨g.A, i, none⟩ (u 26)).at d)))))
variable {o : OpV} {rest' : List OpV} {X : Nat} {f : Nat → Bool} {u : Nat → Value} {e : EC L g S i} {w' : World}
theorem Ph.quiet {j d : Nat} {v : Value} (h : Ph L g S i o rest' X f u e w') (hj : j ≠ 10 ∧ j ≠ 11 ∧ j ≠ 12 ∧ j ≠ 14) (hd : d ≠ 24 ∧ d ≠ 25 ∧ d ≠ 26) : Ph L g S i o rest' X (upd f j true) (upd u d v) e w' := by
  unfold Ph
  rw [upd_ne f true (Ne.symm hj.1), upd_ne f true (Ne.symm hj.2.1), upd_ne f true (Ne.symm hj.2.2.1), upd_ne f true (Ne.symm hj.2.2.2), upd_ne u v (Ne.symm hd.1), upd_ne u v (Ne.symm hd.2.1), upd_ne u v (Ne.symm hd.2.2)]
  exact h
theorem Ph.early (h : Ph L g S i o rest' X f u e w') (h10 : f 10 = false) : w'.heap[X]? = some (.cells #[.int .i64 o.k, .int .i64 o.a, .int .i64 o.b, .int .i64 o.c] 46) := by
  rcases h with ⟨_, _, h, d, rfl⟩ | ⟨h, _⟩
  · exact h
  · rw [h10] at h; cases h
theorem Ph.callAt (h : Ph L g S i o rest' X f u e w') (h10 : f 10 = false) : e.τ.goal = landO L (L.enter e.s o) rest' e.ans ∧ ∃ d, w' = e.w.at d := by
  rcases h with ⟨_, h, _, h2⟩ | ⟨h, _⟩
  · exact ⟨h, h2⟩
  · rw [h10] at h; cases h
theorem Ph.newAt (h : Ph L g S i o rest' X f u e w') (h10 : f 10 = true) (h11 : f 11 = false) : ∃ a, u 24 = ansVal a ∧ e.τ.goal = settleO L e.s rest' (e.ans ++ [a]) ∧ f 12 = false ∧ ∃ d, w' = e.w.at d := by
  rcases h with ⟨h, _⟩ | ⟨_, a, h1, h2, ⟨_, h12, _, h⟩ | ⟨h, _⟩ | ⟨h, _⟩⟩
  · rw [h10] at h; cases h
  · exact ⟨a, h1, h2, h12, h⟩
  · rw [h11] at h; cases h
  · rw [h11] at h; cases h
theorem Ph.appAt (h : Ph L g S i o rest' X f u e w') (h10 : f 10 = true) (h11 : f 11 = true) (h12 : f 12 = false) : ∃ a, u 24 = ansVal a ∧ e.τ.goal = settleO L e.s rest' (e.ans ++ [a]) ∧ u 25 = .slice (some ⟨e.w.heap.size, 0, none⟩) 1 1 ∧ ∃ d, w' = (ansA e.w a).at d := by
  rcases h with ⟨h, _⟩ | ⟨_, a, h1, h2, ⟨h, _⟩ | ⟨_, _, _, h25, h⟩ | ⟨_, h, _⟩⟩
  · rw [h10] at h; cases h
  · rw [h11] at h; cases h
  · exact ⟨a, h1, h2, h25, h⟩
  · rw [h12] at h; cases h
theorem Ph.stAt (h : Ph L g S i o rest' X f u e w') (h10 : f 10 = true) (h11 : f 11 = true) (h12 : f 12 = true) (h14 : f 14 = false) : ∃ a, u 24 = ansVal a ∧ e.τ.goal = settleO L e.s rest' (e.ans ++ [a]) ∧ ∃ gb gcap w3, AppO g e.w a e.hd e.ans gb gcap w3 ∧ u 26 = .slice (some ⟨gb, 0, none⟩) (e.ans.length + 1) gcap ∧ ∃ d, w' = w3.at d := by
  rcases h with ⟨h, _⟩ | ⟨_, a, h1, h2, ⟨h, _⟩ | ⟨_, h, _⟩ | ⟨_, _, gb, gcap, w3, hA, h26, ⟨_, h⟩ | ⟨h, _⟩⟩⟩
  · rw [h10] at h; cases h
  · rw [h11] at h; cases h
  · rw [h12] at h; cases h
  · exact ⟨a, h1, h2, gb, gcap, w3, hA, h26, h⟩
  · rw [h14] at h; cases h
theorem Ph.endAt (h : Ph L g S i o rest' X f u e w') (h10 : f 10 = true) (h12 : f 12 = true) (h14 : f 14 = true) : ∃ a, e.τ.goal = settleO L e.s rest' (e.ans ++ [a]) ∧ ∃ gb gcap w3, AppO g e.w a e.hd e.ans gb gcap w3 ∧ ∃ d, w' = (w3.setCell ⟨g.A, i, none⟩ (.slice (some ⟨gb, 0, none⟩) (e.ans.length + 1) gcap)).at d := by
  rcases h with ⟨h, _⟩ | ⟨_, a, h1, h2, ⟨_, h, _⟩ | ⟨_, h, _⟩ | ⟨_, _, gb, gcap, w3, hA, h26, ⟨h, _⟩ | ⟨_, h⟩⟩⟩
  · rw [h10] at h; cases h
  · rw [h12] at h; cases h
  · rw [h12] at h; cases h
  · rw [h14] at h; cases h
  · rw [h26] at h
    exact ⟨a, h2, gb, gcap, w3, hA, h⟩
theorem Facts.other {dsts : List Nat} {vals : List Value} {f : Nat → Bool} {u : Nat → Value} (F : Facts dsts vals f u) {d : Nat} {v : Value} (hd : d ∉ dsts) : Facts dsts vals f (upd u d v) := by
  intro j d' v' hf hd' hv'
  have hne : d' ≠ d := fun e => hd (by rw [← e]; exact List.mem_of_getElem? hd')
  rw [upd_ne _ _ hne]
  exact F j d' v' hf hd' hv'
theorem EC.told (e : EC L g S i) {a : Ans} {gb gcap : Nat} {w3 : World} (h : AppO g e.w a e.hd e.ans gb gcap w3) : ∃ e' : EC L g S i, e'.τ = e.τ ∧ e'.N = e.N ∧ e'.s = e.s ∧ e'.ans = e.ans ++ [a] ∧ e'.w = w3.setCell ⟨g.A, i, none⟩ (.slice (some ⟨gb, 0, none⟩) (e.ans.length + 1) gcap) := by
  obtain ⟨hd0, r⟩ := e.rely
  obtain ⟨arr, arr', a1, a2, a3, a4, a5⟩ := e.an
  have hsz1 : (ansA e.w a).heap.size = e.w.heap.size + 1 := by simp [ansA]
  have hs3 := h.grown.size
  have hold : ∀ b, b < e.w.heap.size → some b ≠ e.hd.ownBlock → w3.heap[b]? = e.w.heap[b]? := fun b hb hne => (h.grown.block b (by omega) hne).trans (heap_new_lt _ _ hb)
  have hAo : some g.A ≠ e.hd.ownBlock := fun he => by have := (e.lo (e.hdo _ he.symm)).1; have := r.alo; omega
  have hAl : g.A < e.w.heap.size := by have := r.alo; have := r.size; have := e.size; omega
  have hA3 : w3.heap[g.A]? = some (.cells arr' 41) := (hold _ hAl hAo).trans a2
  have hgo : ownT e.τ e.w gb ∨ e.w.heap.size ≤ gb := by
    rcases h.hat with h | h
    · exact .inl (e.hdo _ h)
    · exact .inr (by omega)
  have hgA : gb ≠ g.A := fun he => by
    rcases hgo with h | h
    · exact (e.noA h).2 he
    · omega
  have hset : ∀ b, b ≠ g.A → (w3.setCell ⟨g.A, i, none⟩ (.slice (some ⟨gb, 0, none⟩) (e.ans.length + 1) gcap)).heap[b]? = w3.heap[b]? := fun b hb => heap_set_other _ _ _ _ hb
  have hil : i < arr'.size := (Array.getElem?_eq_some_iff.1 a4).1
  refine ⟨{ τ := e.τ, N := e.N, w := w3.setCell ⟨g.A, i, none⟩ (.slice (some ⟨gb, 0, none⟩) (e.ans.length + 1) gcap), s := e.s, ans := e.ans ++ [a], hd := .slice (some ⟨gb, 0, none⟩) (e.ans.length + 1) gcap, size := by rw [size_set]; have := e.size; omega, frame := fun b h1 h2 h3 h4 => (hset b h4).trans ((hold b (Nat.lt_of_lt_of_le h1 e.size) fun he => ?_).trans (e.frame b h1 h2 h3 h4)), rely := e.rely, an := ⟨arr, arr'.setIfInBounds i (.slice (some ⟨gb, 0, none⟩) (e.ans.length + 1) gcap), a1, heap_set_self _ _ hA3, by simp [a3], by simp [hil], fun j hj => ?_⟩, row := ⟨some ⟨gb, 0, none⟩, gcap, by simp, ?_⟩, hdo := fun b hb => ?_, inv := L.stable e.inv fun b hb => ?_ }, rfl, rfl, rfl, rfl, rfl⟩
  · rcases e.hdo b he.symm with h | h
    · exact h2 h
    · have := h.1; omega
  · rw [Array.getElem?_setIfInBounds_ne (Ne.symm hj)]; exact a5 j hj
  · rw [ansRow_snoc, List.length_append, List.length_singleton]
    exact row_same h.own fun b hb => hset b fun he => by
      simp only [Value.ownBlock, Option.some.injEq] at hb
      exact hgA (hb.trans he)
  · simp only [Value.ownBlock, Option.some.injEq] at hb
    subst hb
    rcases hgo with hg | hg
    · rcases hg with hg | hg
      · exact .inl hg
      · exact .inr ⟨hg.1, by rw [size_set]; exact h.hlt⟩
    · exact .inr ⟨Nat.le_trans e.size hg, by rw [size_set]; exact h.hlt⟩
  · have h1 := r.shlo b hb
    exact (hset b h1.2).trans (hold b (by have := r.size; have := e.size; omega) fun he => by have := (e.lo (e.hdo b he.symm)).1; omega)
end
end
end Go.Proofs.Ytnnakajldnaldaa
