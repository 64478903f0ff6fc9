/- Part 9. -/
import Derived.Test.YtgfajibjedfkdaaJL8
set_option linter.unusedSimpArgs false
set_option linter.unusedVariables false
set_option maxHeartbeats 8000000
set_option maxRecDepth 100000
namespace Go.Proofs.Ytgfajibjedfkdaa
open Go.Conc Go.RowKit Go.Relay
open Go.ConcN (upd upd_ne upd_same)
section
structure OSt (L : La) (g : OG) (S : Stile) : Prop where
  n : S.n = g.n
  alo : g.A < g.w0.heap.size
  tbs : ¬ g.sh S.tb ∧ S.tb ≠ g.A
  tb : ∀ i, i < g.n → g.w0.cell? ⟨S.tb, i, none⟩ = some (S.F i)
  sch : ∀ (j : Nat) (z : Int), S.sl[j]? = some z → ∃ s so, S.sa = some ⟨s, so, none⟩ ∧ g.w0.cell? ⟨s, so + j, none⟩ = some (.int .i64 z) ∧ ¬ g.sh s ∧ s ≠ g.A
def t0 (L : La) : Tst L := ⟨[], none, []⟩
structure OInv (L : La) (g : OG) (S : Stile) (k : Nat) (o : Nat → Option Role) (x : OX L) (cs : Nat → List Frame) (w : World) (pr : Nat → Option Nat) (hd : Nat → Value) (y : L.Gh) : Prop where
  st : OSt L g S
  kn : k ≤ g.n
  size : g.w0.heap.size ≤ w.heap.size
  base : ∀ b, b < g.w0.heap.size → o b = none
  old : ∀ b, b < g.w0.heap.size → ¬ g.sh b → b ≠ g.A → w.heap[b]? = g.w0.heap[b]?
  prl : ∀ b i, pr b = some i → g.w0.heap.size ≤ b ∧ b < w.heap.size ∧ o b = none ∧ ¬ L.sh y b
  shl : ∀ b, L.sh y b → o b = none ∧ b ≠ g.A ∧ b < w.heap.size ∧ (b < g.w0.heap.size → g.sh b)
  I : L.I y x.s w
  an : ∃ arr : Array Value, w.heap[g.A]? = some (.cells arr 79) ∧ arr.size = g.n ∧ ∀ i, i < g.n → arr[i]? = some (hd i)
  row : ∀ i, i < g.n → RowA g.w0.heap.size (fun b => pr b = some i) (hd i) (x.th i).ans w
  cont : ∀ i, i < k → i < g.n → x.out i = none → (x.th i).d.isSome = true ∧ cs i ≠ [] ∧ (∀ f ∈ cs i, Plain f) ∧ Cont L g S i (1048577 - x.cnt) (x.th i) (cs i) y (hd i) (fun b => pr b = some i) w
  fresh : ∀ i, k ≤ i → i < g.n → x.th i = t0 L
theorem cell_lt' {w : World} {b i : Nat} {v : Value} (h : w.cell? ⟨b, i, none⟩ = some v) : b < w.heap.size := by
  unfold World.cell? at h
  split at h
  · rename_i h'; exact (Array.getElem?_eq_some_iff.1 h').1
  · cases h
section
variable {L : La} {g : OG} {S : Stile} {k : Nat} {o o' : Nat → Option Role} {x : OX L} {cs : Nat → List Frame} {w w' : World} {pr : Nat → Option Nat} {hd : Nat → Value} {y yb : L.Gh}
theorem OInv.cell (P : OInv L g S k o x cs w pr hd y) {b i : Nat} {v : Value} (h : g.w0.cell? ⟨b, i, none⟩ = some v) (hs : ¬ g.sh b) (hA : b ≠ g.A) : w.cell? ⟨b, i, none⟩ = some v :=
  (World.cell?_of_block (a := ⟨b, i, none⟩) (P.old b (cell_lt' h) hs hA)).trans h
theorem OInv.rely (P : OInv L g S k o x cs w pr hd y) {V : Nat → Option Wait} {i : Nat} (hi : i < g.n) (hA : ∀ b, o b = none → Apart V b) (hlt : ∀ b r, o b = some r → b < w.heap.size) : Rely L g i V y w (hd i) (fun b => pr b = some i) := by
  refine ⟨P.size, P.old, ?_, fun b e => ⟨(P.prl b i e).1, (P.prl b i e).2.1, (P.prl b i e).2.2.2⟩, fun b e => hA b ?_, fun b h => (P.shl b h).2, P.st.alo, (P.row i hi).hdo⟩
  · obtain ⟨arr, ha, hz, hr⟩ := P.an
    exact ⟨arr, ha, hr i hi⟩
  · rcases e with e | e | e | e
    · exact P.base b e
    · exact (P.prl b i e).2.2.1
    · cases ho : o b with
      | none => rfl
      | some r => have := hlt b r ho; omega
    · exact (P.shl b e).1
end
end
section
noncomputable def reg78_0 : Array Oper := match Try.f78.body with | some (.seq (.region _ ops _) _) => ops | _ => #[]
theorem size78_0 : reg78_0.size = 2 := by kernel_rfl
noncomputable def reg78_1 : Array Oper := match Try.f78.body with | some (.seq _ (.cond _ (.region _ ops _) _)) => ops | _ => #[]
theorem size78_1 : reg78_1.size = 2 := by kernel_rfl
theorem code78_is : Try.f78.body = some (.seq (.region 0 reg78_0 false) (.cond (.tmp 3 ) (.region 1 reg78_1 false) (.skip))) := by kernel_rfl
theorem undStepper : ∃ ms, Try.prog.underlying 113 = some (.interface ms) := by
  have h : (match Try.prog.underlying 113 with | some (.interface _) => true | _ => false) = true := by kernel_rfl
  revert h
  cases Try.prog.underlying 113 with
  | none => simp
  | some d =>
    cases d with
    | interface fs => exact fun _ => ⟨fs, rfl⟩
    | _ => simp
structure EC (L : La) (g : OG) (S : Stile) (i : Nat) where
  τ : Tn L
  N : Nat
  w : World
  y : L.Gh
  s : L.Sg
  ans : List Ans
  hd : Value
  le : L.le τ.y y
  size : τ.w.heap.size ≤ w.heap.size
  frame : ∀ b, b < τ.w.heap.size → ¬ τ.M b → ¬ L.sh τ.y b → b ≠ g.A → w.heap[b]? = τ.w.heap[b]?
  pub : ∀ b, L.sh y b → L.sh τ.y b ∨ τ.M b ∨ τ.w.heap.size ≤ b
  rely : ∃ hd0, Rely L g i τ.V τ.y τ.w hd0 τ.M
  an : AnT g i τ.w w hd
  row : RowA g.w0.heap.size (ownT τ y w) hd ans w
  inv : L.I y s w
structure OC where
  left : List OpV
  ans : List Ans
  hd : Value
  K : Nat → Prop
  wK : World
structure EO (L : La) (g : OG) (S : Stile) (i : Nat) (c : OC) extends EC L g S i where
  tgt : L.Sg × (Ans ⊕ L.D)
  eqA : ans = c.ans
  eqH : hd = c.hd
  goal : τ.goal = landO L (i : Nat) tgt c.left ans
  Kown : ∀ b, c.K b → ownT τ y w b
  kept : ∀ b, c.K b → w.heap[b]? = c.wK.heap[b]?
  rowK : RowA g.w0.heap.size c.K hd ans w
section
variable {L : La} {g : OG} {S : Stile} {i : Nat} {c : OC}
theorem EC.lo (e : EC L g S i) {b : Nat} (h : ownT e.τ e.y e.w b) : g.w0.heap.size ≤ b ∧ b < e.w.heap.size := by
  obtain ⟨hd0, r⟩ := e.rely
  have := e.size
  rcases h.1 with h | h
  · have := r.lo b h; omega
  · have := r.size; omega
theorem EC.noA (e : EC L g S i) {b : Nat} (h : ownT e.τ e.y e.w b) : ¬ L.sh e.y b ∧ b ≠ g.A := by
  obtain ⟨hd0, r⟩ := e.rely
  have h1 := e.lo h
  exact ⟨h.2, fun h => by have := r.alo; omega⟩
theorem EC.shb (e : EC L g S i) {b : Nat} (h : L.sh e.y b) : b ≠ g.A ∧ (b < g.w0.heap.size → g.sh b) := by
  obtain ⟨hd0, r⟩ := e.rely
  rcases e.pub b h with h | h | h
  · exact ⟨(r.shlo b h).1, (r.shlo b h).2.2⟩
  · have := r.lo b h; have := r.alo; exact ⟨by omega, fun _ => by omega⟩
  · have := r.alo; have := r.size; exact ⟨by omega, fun _ => by omega⟩
theorem EC.apart (e : EC L g S i) {b : Nat} (h : b < g.w0.heap.size ∨ ownT e.τ e.y e.w b ∨ e.w.heap.size ≤ b ∨ L.sh e.y b) : Apart e.τ.V b := by
  obtain ⟨hd0, r⟩ := e.rely
  have := e.size
  refine r.apart b ?_
  rcases h with h | h | h | h
  · exact .inl h
  · rcases h.1 with h | h
    · exact .inr (.inl h)
    · exact .inr (.inr (.inl h.1))
  · exact .inr (.inr (.inl (by omega)))
  · rcases e.pub b h with h | h | h
    · exact .inr (.inr (.inr h))
    · exact .inr (.inl h)
    · exact .inr (.inr (.inl h))
theorem EC.hdo (e : EC L g S i) : ∀ b, e.hd.ownBlock = some b → ownT e.τ e.y e.w b := e.row.hdo
def crewB (L : La) (g : OG) (S : Stile) (i : Nat) (c : OC) : Lb L where
  main := false
  E := EO L g S i c
  V := fun e => e.τ.V
  Stop := fun e => StopT L g S i (Cont L g S i e.N) e.τ
  bot := fun e => e.τ.f :: e.τ.fs
  w := fun e => e.w
  s := fun e => e.s
  gh := fun e => e.y
  tgt := fun e => e.tgt
  fuel := fun e => e.N
  mine := fun e b => ownT e.τ e.y e.w b ∧ ¬ c.K b
theorem EO.mg (e : EO L g S i c) (y' : L.Gh) (s' : L.Sg) (w' : World) (hle : L.le e.y y') (hs : e.w.heap.size ≤ w'.heap.size) (hsame : ∀ b, b < e.w.heap.size → ¬ (ownT e.τ e.y e.w b ∧ ¬ c.K b) → ¬ L.sh e.y b → w'.heap[b]? = e.w.heap[b]?) (hI : L.I y' s' w')
    (hpub : ∀ b, L.sh y' b → L.sh e.y b ∨ (ownT e.τ e.y e.w b ∧ ¬ c.K b) ∨ e.w.heap.size ≤ b) : ∃ e' : EO L g S i c, Mg (crewB L g S i c) e e' y' s' w' := by
  obtain ⟨hd0, r⟩ := e.rely
  have hK : ∀ b, c.K b → w'.heap[b]? = e.w.heap[b]? := fun b h => hsame b (e.lo (e.Kown b h)).2 (fun x => x.2 h) (e.noA (e.Kown b h)).1
  have hA : w'.heap[g.A]? = e.w.heap[g.A]? := hsame _ (by have := r.alo; have := r.size; have := e.size; omega) (fun x => by have := (e.lo x.1).1; have := r.alo; omega) (fun h => (e.shb h).1 rfl)
  have hKn : ∀ b, c.K b → ¬ L.sh y' b := fun b h hs => by
    rcases hpub b hs with h1 | h1 | h1
    · exact (e.noA (e.Kown b h)).1 h1
    · exact h1.2 h
    · have := (e.lo (e.Kown b h)).2; omega
  have hown : ∀ b, ownT e.τ e.y e.w b → ¬ L.sh y' b → ownT e.τ y' w' b := fun b h hn => ⟨h.1.imp id fun h => ⟨h.1, by omega⟩, hn⟩
  have hKo : ∀ b, c.K b → ownT e.τ y' w' b := fun b h => hown b (e.Kown b h) (hKn b h)
  refine ⟨{ τ := e.τ, N := e.N, w := w', y := y', s := s', ans := e.ans, hd := e.hd, le := L.trans e.le hle, size := Nat.le_trans e.size hs, frame := fun b h1 h2 h3 h4 => ?_, pub := fun b h => ?_, rely := e.rely, an := ?_, row := (e.rowK.same hK).imp hKo, inv := hI, tgt := e.tgt, eqA := e.eqA, eqH := e.eqH, goal := e.goal, Kown := hKo, kept := fun b h => (hK b h).trans (e.kept b h), rowK := e.rowK.same hK }, ⟨rfl, rfl, rfl, rfl, rfl, rfl, rfl, rfl, fun b => ?_⟩⟩
  · refine (hsame b (Nat.lt_of_lt_of_le h1 e.size) (fun x => ?_) (fun x => ?_)).trans (e.frame b h1 h2 h3 h4)
    · rcases x.1.1 with h | h
      · exact h2 h
      · have := h.1; omega
    · rcases e.pub b x with h | h | h
      · exact h3 h
      · exact h2 h
      · omega
  · rcases hpub b h with h | h | h
    · exact e.pub b h
    · rcases h.1.1 with h | h
      · exact .inr (.inl h)
      · exact .inr (.inr h.1)
    · exact .inr (.inr (Nat.le_trans e.size h))
  · obtain ⟨arr, arr', h1, h2, h3⟩ := e.an
    exact ⟨arr, arr', h1, hA.trans h2, h3⟩
  · show (ownT e.τ y' w' b ∧ ¬ c.K b) ↔ ((ownT e.τ e.y e.w b ∧ ¬ c.K b) ∨ (e.w.heap.size ≤ b ∧ b < w'.heap.size)) ∧ ¬ L.sh y' b
    constructor
    · rintro ⟨⟨h | h, hn⟩, hk⟩
      · exact ⟨.inl ⟨⟨.inl h, fun hs => hn (L.mono hle hs)⟩, hk⟩, hn⟩
      · refine ⟨?_, hn⟩
        by_cases hb : b < e.w.heap.size
        · exact .inl ⟨⟨.inr ⟨h.1, hb⟩, fun hs => hn (L.mono hle hs)⟩, hk⟩
        · exact .inr ⟨by omega, h.2⟩
    · rintro ⟨⟨h, hk⟩ | h, hn⟩
      · exact ⟨hown b h hn, hk⟩
      · exact ⟨⟨.inr ⟨Nat.le_trans e.size h.1, h.2⟩, hn⟩, fun hk => by have := (e.lo (e.Kown b hk)).2; omega⟩
theorem EO.step (e : EO L g S i c) (d : L.D) (ht : e.tgt = (e.s, .inr d)) (fr : Frame) (l : List Frame) (hp : Plain fr) (hl : ∀ f ∈ l, Plain f) (hk : ∀ e' : EO L g S i c, Aft (crewB L g S i c) e d e' → LW (crewB L g S i c) e' (G (fr.finish (.tuple #[])) (l ++ e'.τ.f :: e'.τ.fs))) :
    LW (crewB L g S i c) e (G (Frame.enter Try.prog 78 #[.iface 230 (.pointer (some ⟨S.p i, 0, none⟩))] .normal) (fr :: (l ++ e.τ.f :: e.τ.fs))) := by
  obtain ⟨ms, hu⟩ := undStepper
  have hn1 := fun w => run_neq_iface (P := Try.prog) (w := w) 113 230 (.pointer (some ⟨S.p i, 0, none⟩)) hu
  have hn2 := fun w es => ev_neq_iface (P := Try.prog) (w := w) 113 230 (.pointer (some ⟨S.p i, 0, none⟩)) es hu
  unfold LW
  show Walk Try.prog false (DR e.τ.V) (StopT L g S i (Cont L g S i e.N) e.τ) _ e.w
  rw [enter_at _ Try.func78 code78_is]
  simp only [Try.ntmps78, List.size_toArray, List.length_cons, List.length_nil, Nat.reduceAdd, Nat.reduceSub, Array.replicate_succ, Array.replicate_zero, List.push_toArray, List.append_toArray, List.nil_append, List.cons_append]
  repeat (first | refine Walk.c rfl ?_ | refine Walk.cRet ?_ | refine Walk.cEnd ?_ | (refine Walk.cReg ?_; simp only [size78_0, size78_1, List.range, List.range.loop]) | (refine Walk.oq ?_; try walk_nrm) | (refine Walk.un ?_; walk_nrm))
  refine Walk.invokeStep (S.p i) (ho_of (by conv => lhs; whnf) (by kernel_rfl)) (by rfl) (by decide) rfl rfl ?_
  generalize hX : Frame.at _ _ _ = X
  have hgoal : e.τ.goal = (e.s, ⟨c.left, some d, e.ans⟩) := by rw [e.goal, ht]; rfl
  refine .stop fun dr => ⟨e.y, e.le, e.size, e.frame, ?_, e.pub, e.hd, e.an, ?_, .inr ⟨X :: fr :: l, ?_, by simp, ?_, ?_, rfl⟩⟩
  · rw [hgoal]; exact L.stable e.inv fun _ _ => rfl
  · rw [hgoal]; exact e.row.same fun _ _ => rfl
  · rw [hgoal]; rfl
  · intro x hx
    rcases List.mem_cons.1 hx with rfl | hx
    · subst hX; exact ⟨rfl, rfl, _, Try.func78⟩
    · rcases List.mem_cons.1 hx with rfl | hx
      · exact hp
      · exact hl x hx
  · rw [hgoal]
    have hN : ∀ N', e.N = N' → Cont L g S i N' ⟨c.left, some d, e.ans⟩ (X :: fr :: l) e.y e.hd (ownT e.τ e.y (e.w.at dr)) (e.w.at dr) := fun N' hN' => by
      cases N' with
      | zero => trivial
      | succ n =>
        intro V f fs y' w' s' c1 l' d' h0 h1 h2 h3 h4 h5 h6
        obtain rfl : d = d' := Option.some.inj h5
        obtain ⟨rfl, rfl⟩ := List.cons.inj h6
        rw [← hX, Frame.finish_at]
        repeat (first | (refine Walk.oq ?_; try walk_nrm) | (refine Walk.un ?_; walk_nrm))
        repeat (first | refine Walk.c rfl ?_ | refine Walk.cRet ?_ | refine Walk.cEnd ?_ | (refine Walk.cReg ?_; simp only [size78_0, size78_1, List.range, List.range.loop]) | (refine Walk.oq ?_; try walk_nrm) | (refine Walk.un ?_; walk_nrm))
        refine Walk.on0 rfl rfl Try.func78 rfl ?_
        have hKo : ∀ b, c.K b → ownT (⟨V, f, fs, w', y', ownT e.τ e.y e.w, landO L (i : Nat) (L.act s' d) c.left e.ans⟩ : Tn L) y' w' b := fun b h => ⟨.inl (e.Kown b h), (h3.lo b (e.Kown b h)).2.2⟩
        have hKs : ∀ b, c.K b → w'.heap[b]? = e.w.heap[b]? := fun b h => h2 b (e.Kown b h)
        refine hk { τ := ⟨V, f, fs, w', y', ownT e.τ e.y e.w, landO L (i : Nat) (L.act s' d) c.left e.ans⟩, N := n, w := w', y := y', s := s', ans := e.ans, hd := e.hd, le := L.refl _, size := Nat.le_refl _, frame := fun _ _ _ _ _ => rfl, pub := fun b h => .inl h, rely := ⟨e.hd, h3⟩, an := ?_, row := (e.rowK.same hKs).imp hKo, inv := h4, tgt := L.act s' d, eqA := e.eqA, eqH := e.eqH, goal := rfl, Kown := hKo, kept := fun b h => (hKs b h).trans (e.kept b h), rowK := e.rowK.same hKs } ⟨rfl, ?_, h0, h1, fun b hb => ⟨⟨⟨.inl hb.1, (h3.lo b hb.1).2.2⟩, hb.2⟩, h2 b hb.1⟩⟩
        · obtain ⟨arr, ha, hb⟩ := h3.an
          exact ⟨arr, arr, ha, ha, rfl, hb, fun _ _ => rfl⟩
        · show n < e.N
          omega
    exact hN e.N rfl
end
end
section
section
variable {L : La} {sv : Value}
theorem Mv.new {K : Lg L sv} {e e' : K.E} {s' : L.Sg} {w' : World} (m : Mv K.toLb e e' s' w') {b : Nat} (h1 : (K.w e).heap.size ≤ b) (h2 : b < w'.heap.size) : K.mine e' b := (m.mine b).2 (.inr ⟨h1, h2⟩)
theorem Lg.grow (K : Lg L sv) (e : K.E) {w' : World} (hs : (K.w e).heap.size ≤ w'.heap.size) (hb : ∀ b, b < (K.w e).heap.size → w'.heap[b]? = (K.w e).heap[b]?) : ∃ e', Mv K.toLb e e' (K.s e) w' :=
  K.mv e (K.s e) w' hs (fun b h _ _ => hb b h) (L.stable (K.inv e) fun b h => hb b (L.lt (K.inv e) h))
theorem Lg.own (K : Lg L sv) (e : K.E) {w' : World} (hs : (K.w e).heap.size ≤ w'.heap.size) (hb : ∀ b, b < (K.w e).heap.size → ¬ K.mine e b → w'.heap[b]? = (K.w e).heap[b]?) : ∃ e', Mv K.toLb e e' (K.s e) w' :=
  K.mv e (K.s e) w' hs (fun b h hm _ => hb b h hm) (L.stable (K.inv e) fun b h => hb b (L.lt (K.inv e) h) fun hm => (K.mineA e b hm).2.1 h)
theorem at_slots {b : Frame} {A : Array Value} {todo : List Item} {cs : List Frame} {F : (Nat → Value) → Goroutine} (h : G (b.at ⟨A, []⟩ todo) cs = F (fun k => A.getD k undef)) : ∃ u, G (b.at ⟨A, []⟩ todo) cs = F u := ⟨_, h⟩
theorem Walk.finish {P : Program} {main : Bool} {D : World → World → Array Event → Prop} {Stop : Goroutine → World → Prop} {w : World} {b : Frame} {a : Act} {k : List Item} {cs : List Frame} {ops : Array Oper} {i : Nat} {rest : List Nat} {o : Oper} {v : Value} (ho : ops[i]? = some o)
    (h : Walk P main D Stop (G (b.at (a.put o.dst v) (.inRegion ops rest :: k)) cs) w) : Walk P main D Stop (G ((b.at a (.inRegion ops (i :: rest) :: k)).finish v) cs) w := by
  rw [Frame.finish_at, ho]
  exact h
end
end
theorem setRow_self {w : World} {g : Nat} {old cells : Array Value} {tt : TypeId} {fr : Nat × Nat} (h : w.heap[g]? = some (.cells old tt fr)) : (w.setRow g cells).heap[g]? = some (.cells cells tt fr) := setRow_heap w g old cells tt fr h
theorem setRow_other (w : World) {g b : Nat} (cells : Array Value) (h : b ≠ g) : (w.setRow g cells).heap[b]? = w.heap[b]? := by
  unfold World.setRow
  simp only [Array.getElem?_modify]
  rw [if_neg (Ne.symm h)]
theorem setRow_size (w : World) (g : Nat) (cells : Array Value) : (w.setRow g cells).heap.size = w.heap.size := by
  unfold World.setRow
  simp
end Go.Proofs.Ytgfajibjedfkdaa
