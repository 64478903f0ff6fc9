/- Part 10. -/
import Derived.Test.YtgfajibjedfkdaaJL9
import Derived.Conc.AtomicLaws2
set_option linter.unusedSimpArgs false
set_option linter.unusedVariables false
set_option maxHeartbeats 8000000
set_option maxRecDepth 100000
namespace Go.Proofs.Ytgfajibjedfkdaa
open Go.Conc Go.RowKit Go.Relay
open Go.ConcN (upd upd_ne upd_same)
section
def runN (L : La) : Nat → L.Sg × (Ans ⊕ L.D) → Option (L.Sg × Ans)
  | _, (s, .inl a) => some (s, a)
  | 0, (_, .inr _) => none
  | n + 1, (s, .inr d) => runN L n (L.act s d)
theorem runN_inl (L : La) (n : Nat) (s : L.Sg) (a : Ans) : runN L n (s, .inl a) = some (s, a) := by cases n <;> rfl
theorem undStepperN : ∃ ms, Try.prog.underlying 113 = some (.interface ms) := by
  have h : (match Try.prog.underlying 113 with | some (.interface _) => true | _ => false) = true := by kernel_rfl
  revert h
  cases Try.prog.underlying 113 with
  | none => simp
  | some d =>
    cases d with
    | interface fs => exact fun _ => ⟨fs, rfl⟩
    | _ => simp
structure NilE (L : La) (y0 : L.Gh) (base : World) (R : L.Sg × Ans) where
  w : World
  y : L.Gh
  s : L.Sg
  tgt : L.Sg × (Ans ⊕ L.D)
  fuel : Nat
  le : L.le y0 y
  inv : L.I y s w
  size : base.heap.size ≤ w.heap.size
  old : ∀ b, b < base.heap.size → ¬ L.sh y0 b → w.heap[b]? = base.heap[b]?
  pub : ∀ b, L.sh y b → b < base.heap.size → L.sh y0 b
  run : runN L fuel tgt = some R
section
variable {L : La} {main : Bool} {V : Nat → Option Wait} {Stop : Goroutine → World → Prop} {cs : List Frame} {y0 : L.Gh} {base : World} {R : L.Sg × Ans}
def nilB (main : Bool) (V : Nat → Option Wait) (Stop : Goroutine → World → Prop) (cs : List Frame) (y0 : L.Gh) (base : World) (R : L.Sg × Ans) : Lb L where
  main := main
  E := NilE L y0 base R
  V := fun _ => V
  Stop := fun _ => Stop
  bot := fun _ => cs
  w := fun e => e.w
  s := fun e => e.s
  gh := fun e => e.y
  tgt := fun e => e.tgt
  fuel := fun e => e.fuel
  mine := fun e b => (base.heap.size ≤ b ∧ b < e.w.heap.size) ∧ ¬ L.sh e.y b
theorem nil_step (e : NilE L y0 base R) (d : L.D) (ht : e.tgt = (e.s, .inr d)) (fr : Frame) (l : List Frame) (hk : ∀ e' : NilE L y0 base R, Aft (nilB main V Stop cs y0 base R) e d e' → LW (nilB main V Stop cs y0 base R) e' (G (fr.finish (.tuple #[])) (l ++ cs))) :
    LW (nilB main V Stop cs y0 base R) e (G (Frame.enter Try.prog 78 #[.nilIface] .normal) (fr :: (l ++ cs))) := by
  obtain ⟨ms, hu⟩ := undStepperN
  have hn1 := fun w => run_neq_nilIface (P := Try.prog) (w := w) 113 hu
  have hn2 := fun w es => ev_neq_nilIface (P := Try.prog) (w := w) 113 es hu
  obtain ⟨n, hn, hr⟩ : ∃ n, e.fuel = n + 1 ∧ runN L n (L.act e.s d) = some R := by
    have h := e.run
    rw [ht] at h
    cases hf : e.fuel with
    | zero => rw [hf] at h; cases h
    | succ n => rw [hf] at h; exact ⟨n, rfl, h⟩
  have hh := hk { w := e.w, y := e.y, s := e.s, tgt := L.act e.s d, fuel := n, le := e.le, inv := e.inv, size := e.size, old := e.old, pub := e.pub, run := hr } ⟨rfl, show n < e.fuel by omega, L.refl _, Nat.le_refl _, fun b h => ⟨h, rfl⟩⟩
  unfold LW at hh ⊢
  show Walk Try.prog main (DR V) Stop _ e.w
  replace hh : Walk Try.prog main (DR V) Stop (G (fr.finish (.tuple #[])) (l ++ cs)) e.w := hh
  rw [enter_at _ Try.func78 code78_is]
  simp only [Try.ntmps78, List.size_toArray, List.length_cons, List.length_nil, Nat.reduceAdd, Nat.reduceSub, Array.replicate_succ, Array.replicate_zero, List.push_toArray, List.append_toArray, List.nil_append, List.cons_append]
  repeat (first | refine Walk.c rfl ?_ | refine Walk.cRet ?_ | refine Walk.cEnd ?_ | (refine Walk.cReg ?_; simp only [size78_0, size78_1, List.range, List.range.loop]) | (refine Walk.oq ?_; try walk_nrm) | (refine Walk.un ?_; walk_nrm))
  exact Walk.on0 rfl rfl Try.func78 rfl hh
theorem nil_mine {y0 y' : L.Gh} {base : World} {e : NilE L y0 base R} {w' : World} {b : Nat} (hle : L.le e.y y') (hs : e.w.heap.size ≤ w'.heap.size) : ((base.heap.size ≤ b ∧ b < w'.heap.size) ∧ ¬ L.sh y' b) ↔ ((((base.heap.size ≤ b ∧ b < e.w.heap.size) ∧ ¬ L.sh e.y b) ∨ (e.w.heap.size ≤ b ∧ b < w'.heap.size)) ∧ ¬ L.sh y' b) := by
  have := e.size
  constructor
  · rintro ⟨⟨a, b'⟩, hn⟩
    refine ⟨?_, hn⟩
    by_cases hb : b < e.w.heap.size
    · exact .inl ⟨⟨a, hb⟩, fun h => hn (L.mono hle h)⟩
    · exact .inr ⟨by omega, b'⟩
  · rintro ⟨⟨⟨a, b'⟩, _⟩ | ⟨a, b'⟩, hn⟩
    · exact ⟨⟨a, by omega⟩, hn⟩
    · exact ⟨⟨by omega, b'⟩, hn⟩
def nilL (hA : ∀ b, Apart V b) (main : Bool) (Stop : Goroutine → World → Prop) (cs : List Frame) (y0 : L.Gh) (base : World) (R : L.Sg × Ans) : Lg L .nilIface where
  toLb := nilB main V Stop cs y0 base R
  one := rfl
  inv := fun e => e.inv
  shA := fun _ b _ => hA b
  mineA := fun e b h => ⟨hA b, h.2, h.1.2⟩
  newA := fun _ b _ => hA b
  mg := fun e y' s' w' h0 h1 h2 h3 h4 => ⟨{ w := w', y := y', s := s', tgt := e.tgt, fuel := e.fuel, le := L.trans e.le h0, inv := h3, size := Nat.le_trans e.size h1, old := fun b hb hs => (h2 b (Nat.lt_of_lt_of_le hb e.size) (fun hm => by have := hm.1.1; omega) (fun hm => hs (e.pub b hm hb))).trans (e.old b hb hs), pub := fun b hb hlt => (h4 b hb).elim (fun h => e.pub b h hlt) fun h => h.elim (fun h => absurd h.1.1 (Nat.not_le_of_lt hlt)) fun h => absurd (Nat.le_trans e.size h) (Nat.not_le_of_lt hlt), run := e.run }, rfl, rfl, rfl, rfl, rfl, rfl, rfl, rfl, fun b => nil_mine h0 h1⟩
  step := fun e d ht fr l _ _ hk => nil_step e d ht fr l hk
structure Lone (L : La) (y0 : L.Gh) (w : World) (R : L.Sg × Ans) (w' : World) (y : L.Gh) : Prop where
  le : L.le y0 y
  I : L.I y R.1 w'
  size : w.heap.size ≤ w'.heap.size
  old : ∀ b, b < w.heap.size → ¬ L.sh y0 b → w'.heap[b]? = w.heap[b]?
  pub : ∀ b, L.sh y b → b < w.heap.size → L.sh y0 b
variable {b : Frame} {a : Act} {k : List Item} {ops : Array Oper} {i : Nat} {rest : List Nat} {o : Oper} {w : World}
end
end
section
section
variable {main : Bool} {V : Nat → Option Wait}
theorem Walk.turn {P : Program} {Stop : Goroutine → World → Prop} {g g' : Goroutine} {w W : World} {es : Array Event} (hr : g.status = .running) (hs : ∀ d, stepG P main g (w.at d) = .go g' (W.at d) es) (hd : ∀ d, DR V (w.at d) (W.at d) es) (h : Walk P main (DR V) Stop g' W) : Walk P main (DR V) Stop g w :=
  Walk.step hr (fun _ => g') (fun d => W.at d) (fun _ => es) hs hd (fun d => h.back d)
theorem evR_rw {ad : Addr} (hf : Free V ad) : ∀ e ∈ (#[⟨.cell ad, false, true⟩, ⟨.cell ad, true, true⟩] : Array Event), EvR V e := by
  intro e he
  simp only [List.mem_toArray, List.mem_cons, List.not_mem_nil, or_false] at he
  rcases he with rfl | rfl
  · exact evR_read _ _
  · exact evR_write _ _ hf
end
structure Wd (L : La) where
  on : L.Gh → Prop
  up : ∀ {y y' : L.Gh}, L.le y y' → on y → on y'
  b : Nat
  q : Nat
  get : L.Sg → Int
  put : L.Sg → Int → L.Sg
  ok : Int → Prop
  sh : ∀ y, on y → L.sh y b
  rd : ∀ y s w, on y → L.I y s w → w.cell? ⟨b, q, none⟩ = some (.int .i64 (get s)) ∧ w.frozen? ⟨b, q, none⟩ = false
  wr : ∀ y s w v, on y → ok v → L.I y s w → L.I y (put s v) (w.setCell ⟨b, q, none⟩ (.int .i64 v))
def Wd.p {L : La} (W : Wd L) : Value := .pointer (some ⟨W.b, W.q, none⟩)
section
variable {L : La} {sv : Value}
structure Wrote (K : Lg L sv) (e : K.E) (d : L.D) (s : L.Sg) (s' : L.Sg) (e' : K.E) : Prop where
  tgt : K.tgt e' = L.act s d
  fuel : K.fuel e' < K.fuel e
  le : L.le (K.gh e) (K.gh e')
  s : K.s e' = s'
  size : (K.w e).heap.size ≤ (K.w e').heap.size
  mine : ∀ b, K.mine e b → K.mine e' b ∧ (K.w e').heap[b]? = (K.w e).heap[b]?
theorem Wrote.same {K : Lg L sv} {e e1 : K.E} {d : L.D} (ha : Aft K.toLb e d e1) : Wrote K e d (K.s e1) (K.s e1) e1 := ⟨ha.tgt, ha.fuel, ha.le, rfl, ha.size, ha.mine⟩
end
end
section
structure RX where
  base : World
  p : Nat
  k : Nat
  rb : Nat → Nat
  la : Nat → Option Addr
  ls : Nat → List Int
  lc : Nat → Nat
  bb : Nat
  g : Nat
  sa : Option Addr
  sc : Nat
def srcV (r : Nat) : Value := .iface 27 (.pointer (some ⟨r, 0, none⟩))
def cntV (p : Nat) : Value := .iface 35 (.pointer (some ⟨p, 0, none⟩))
def alV (b : Bool) : Int := if b then 1 else 0
structure RI (X : RX) (s : Rs) (w : World) : Prop where
  cnt : w.heap[X.p]? = some (.cells #[.int .i64 (s.n : Nat)] 37)
  src : ∀ i, i < X.k → w.heap[X.rb i]? = some (.cells #[.slice (X.la i) (X.ls i).length (X.lc i), .int .i64 (s.ld i : Nat)] 30)
  num : ∀ i, i < X.k → X.ls i ≠ [] → ∃ (b : Nat) (arr : Array Value), X.la i = some ⟨b, 0, none⟩ ∧ w.heap[b]? = some (.cells arr 2) ∧ ∀ (j : Nat) (z : Int), (X.ls i)[j]? = some z → arr[j]? = some (.int .i64 z)
  inj : ∀ i j, i < X.k → j < X.k → X.rb i = X.rb j → i = j
  bar : w.heap[X.bb]? = some (.cells #[.slice X.sa X.k X.sc, .int .u32 (alV s.al)] 54)
  srcs : 0 < X.k → X.sa = some ⟨X.g, 0, none⟩ ∧ ∃ arr : Array Value, w.heap[X.g]? = some (.cells arr 32) ∧ ∀ i, i < X.k → arr[i]? = some (srcV (X.rb i))
  cap : X.k ≤ X.sc
  old : ∀ b, b < X.base.heap.size → w.heap[b]? = X.base.heap[b]?
  lo : X.base.heap.size ≤ X.p ∧ X.base.heap.size ≤ X.bb ∧ ∀ i, i < X.k → X.base.heap.size ≤ X.rb i
  size : X.base.heap.size ≤ w.heap.size
theorem RI.same {X : RX} {s : Rs} {w w' : World} (I : RI X s w) (h : ∀ b, b < w.heap.size → w'.heap[b]? = w.heap[b]?) (hs : w.heap.size ≤ w'.heap.size) : RI X s w' := by
  have lt : ∀ {b : Nat} {o : Obj}, w.heap[b]? = some o → w'.heap[b]? = some o := fun {b o} e => (h b (Array.getElem?_eq_some_iff.1 e).1).trans e
  have hz := I.size
  refine ⟨lt I.cnt, fun i hi => lt (I.src i hi), fun i hi hn => ?_, I.inj, lt I.bar, fun hk => ?_, I.cap, fun b hb => (h b (by omega)).trans (I.old b hb), I.lo, by omega⟩
  · obtain ⟨b, arr, e, h1, h2⟩ := I.num i hi hn
    exact ⟨b, arr, e, lt h1, h2⟩
  · obtain ⟨e, arr, h1, h2⟩ := I.srcs hk
    exact ⟨e, arr, lt h1, h2⟩
theorem RI.at {X : RX} {s : Rs} {w : World} (I : RI X s w) (d : Nat) : RI X s (w.at d) := I.same (fun _ _ => rfl) (Nat.le_refl _)
theorem ne_of_ty {w : World} {b c : Nat} {x y : Array Value} {t u : TypeId} (h1 : w.heap[b]? = some (.cells x t)) (h2 : w.heap[c]? = some (.cells y u)) (h : t ≠ u) : b ≠ c := fun e => by
  subst e
  rw [h1] at h2
  injection h2 with h2
  injection h2 with _ h2
  exact h h2
theorem RI.cntSet {X : RX} {s : Rs} {w : World} (I : RI X s w) (dl : Nat) : RI X (s.tick dl) (w.setCell ⟨X.p, 0, none⟩ (.int .i64 ((s.n + dl : Nat) : Int))) := by
  have ot : ∀ {b : Nat} {x : Array Value} {t : TypeId}, w.heap[b]? = some (.cells x t) → t ≠ 37 → (w.setCell ⟨X.p, 0, none⟩ (.int .i64 ((s.n + dl : Nat) : Int))).heap[b]? = some (.cells x t) := fun {b x t} h ht => (heap_set_other _ _ _ _ (ne_of_ty h I.cnt ht)).trans h
  refine ⟨?_, fun i hi => ot (I.src i hi) (by decide), fun i hi hn => ?_, I.inj, ot I.bar (by decide), fun hk => ?_, I.cap, fun b hb => (heap_set_other _ _ _ _ (fun e : b = X.p => by have := I.lo.1; omega)).trans (I.old b hb), I.lo, by rw [size_set]; exact I.size⟩
  · rw [heap_set_self _ _ I.cnt]
    rfl
  · obtain ⟨b, arr, e, h1, h2⟩ := I.num i hi hn
    exact ⟨b, arr, e, ot h1 (by decide), h2⟩
  · obtain ⟨e, arr, h1, h2⟩ := I.srcs hk
    exact ⟨e, arr, ot h1 (by decide), h2⟩
theorem RI.ldSet {X : RX} {s : Rs} {w : World} (I : RI X s w) (j : Nat) (hj : j < X.k) : RI X ⟨s.n, upd s.ld j (s.ld j + 1), s.al⟩ (w.setCell ⟨X.rb j, 1, none⟩ (.int .i64 ((s.ld j + 1 : Nat) : Int))) := by
  have ot : ∀ {b : Nat} {x : Array Value} {t : TypeId}, w.heap[b]? = some (.cells x t) → t ≠ 30 → (w.setCell ⟨X.rb j, 1, none⟩ (.int .i64 ((s.ld j + 1 : Nat) : Int))).heap[b]? = some (.cells x t) := fun {b x t} h ht => (heap_set_other _ _ _ _ (ne_of_ty h (I.src j hj) ht)).trans h
  refine ⟨ot I.cnt (by decide), fun i hi => ?_, fun i hi hn => ?_, I.inj, ot I.bar (by decide), fun hk => ?_, I.cap, fun b hb => (heap_set_other _ _ _ _ (fun e : b = X.rb j => by have := I.lo.2.2 j hj; omega)).trans (I.old b hb), I.lo, by rw [size_set]; exact I.size⟩
  · by_cases e : i = j
    · subst e
      rw [heap_set_self _ _ (I.src i hi)]
      simp [upd_same]
    · rw [heap_set_other _ _ _ _ (fun h => e (I.inj i j hi hj h)), I.src i hi]
      simp [upd_ne _ _ e]
  · obtain ⟨b, arr, e, h1, h2⟩ := I.num i hi hn
    exact ⟨b, arr, e, ot h1 (by decide), h2⟩
  · obtain ⟨e, arr, h1, h2⟩ := I.srcs hk
    exact ⟨e, arr, ot h1 (by decide), h2⟩
theorem RI.alSet {X : RX} {s : Rs} {w : World} (I : RI X s w) (v : Bool) : RI X ⟨s.n, s.ld, v⟩ (w.setCell ⟨X.bb, 1, none⟩ (.int .u32 (alV v))) := by
  have ot : ∀ {b : Nat} {x : Array Value} {t : TypeId}, w.heap[b]? = some (.cells x t) → t ≠ 54 → (w.setCell ⟨X.bb, 1, none⟩ (.int .u32 (alV v))).heap[b]? = some (.cells x t) := fun {b x t} h ht => (heap_set_other _ _ _ _ (ne_of_ty h I.bar ht)).trans h
  refine ⟨ot I.cnt (by decide), fun i hi => ot (I.src i hi) (by decide), fun i hi hn => ?_, I.inj, ?_, fun hk => ?_, I.cap, fun b hb => (heap_set_other _ _ _ _ (fun e : b = X.bb => by have := I.lo.2.1; omega)).trans (I.old b hb), I.lo, by rw [size_set]; exact I.size⟩
  · obtain ⟨b, arr, e, h1, h2⟩ := I.num i hi hn
    exact ⟨b, arr, e, ot h1 (by decide), h2⟩
  · rw [heap_set_self _ _ I.bar]
    rfl
  · obtain ⟨e, arr, h1, h2⟩ := I.srcs hk
    exact ⟨e, arr, ot h1 (by decide), h2⟩
def Tk (X : RX) (sv : Value) (dl : Nat) : Prop := (sv = cntV X.p ∧ dl = 1) ∨ (sv = .nilIface ∧ dl = 0)
theorem und15s : Try.prog.underlying 35 = some (.pointer 37) := by kernel_rfl
theorem und15r : Try.prog.underlying 27 = some (.pointer 30) := by kernel_rfl
theorem undABool : Try.prog.underlying 152 = some (.pointer 50) := by kernel_rfl
theorem undFlag : Try.prog.underlying 150 = some (.pointer 52) := by kernel_rfl
theorem undBarr : Try.prog.underlying 33 = some (.pointer 54) := by kernel_rfl
theorem row15s : rowM 35 "Step" 169 = true := by kernel_rfl
theorem row15r : rowM 27 "Load" 168 = true := by kernel_rfl
theorem rowABool : rowM 152 "Load" 174 = true := by kernel_rfl
noncomputable def reg169_0 : Array Oper := match Try.f169.body with | some (.region _ ops _) => ops | _ => #[]
theorem size169_0 : reg169_0.size = 8 := by kernel_rfl
theorem code169_is : Try.f169.body = some (.region 0 reg169_0 false) := by kernel_rfl
noncomputable def reg168_0 : Array Oper := match Try.f168.body with | some (.seq (.region _ ops _) _) => ops | _ => #[]
theorem size168_0 : reg168_0.size = 1 := by kernel_rfl
noncomputable def reg168_1 : Array Oper := match Try.f168.body with | some (.seq _ (.seq (.seq (.region _ ops _) _) _)) => ops | _ => #[]
theorem size168_1 : reg168_1.size = 2 := by kernel_rfl
noncomputable def reg168_2 : Array Oper := match Try.f168.body with | some (.seq _ (.seq (.seq _ (.cond _ (.region _ ops _) _)) _)) => ops | _ => #[]
theorem size168_2 : reg168_2.size = 2 := by kernel_rfl
noncomputable def reg168_3 : Array Oper := match Try.f168.body with | some (.seq _ (.seq _ (.seq (.region _ ops _) _))) => ops | _ => #[]
theorem size168_3 : reg168_3.size = 8 := by kernel_rfl
noncomputable def reg168_4 : Array Oper := match Try.f168.body with | some (.seq _ (.seq _ (.seq _ (.seq (.seq (.region _ ops _) _) _)))) => ops | _ => #[]
theorem size168_4 : reg168_4.size = 6 := by kernel_rfl
noncomputable def reg168_5 : Array Oper := match Try.f168.body with | some (.seq _ (.seq _ (.seq _ (.seq (.seq _ (.cond _ (.seq (.region _ ops _) _) _)) _)))) => ops | _ => #[]
theorem size168_5 : reg168_5.size = 1 := by kernel_rfl
noncomputable def reg168_6 : Array Oper := match Try.f168.body with | some (.seq _ (.seq _ (.seq _ (.seq _ (.seq (.region _ ops _) _))))) => ops | _ => #[]
theorem size168_6 : reg168_6.size = 18 := by kernel_rfl
theorem code168_is : Try.f168.body = some (.seq (.region 0 reg168_0 false) (.seq (.seq (.region 1 reg168_1 false) (.cond (.tmp 6 ) (.region 2 reg168_2 false) (.skip))) (.seq (.region 3 reg168_3 false) (.seq (.seq (.region 4 reg168_4 false) (.cond (.tmp 21 ) (.seq (.region 5 reg168_5 false) (.ret)) (.skip))) (.seq (.region 6 reg168_6 true) (.ret)))))) := by kernel_rfl
noncomputable def reg174_0 : Array Oper := match Try.f174.body with | some (.seq (.region _ ops _) _) => ops | _ => #[]
theorem size174_0 : reg174_0.size = 1 := by kernel_rfl
noncomputable def reg174_1 : Array Oper := match Try.f174.body with | some (.seq _ (.seq (.region _ ops _) _)) => ops | _ => #[]
theorem size174_1 : reg174_1.size = 6 := by kernel_rfl
theorem code174_is : Try.f174.body = some (.seq (.region 0 reg174_0 false) (.seq (.region 1 reg174_1 false) (.ret))) := by kernel_rfl
noncomputable def reg79_0 : Array Oper := match Try.f79.body with | some (.seq (.region _ ops _) _) => ops | _ => #[]
theorem size79_0 : reg79_0.size = 1 := by kernel_rfl
noncomputable def reg79_1 : Array Oper := match Try.f79.body with | some (.seq _ (.seq (.region _ ops _) _)) => ops | _ => #[]
theorem size79_1 : reg79_1.size = 8 := by kernel_rfl
theorem code79_is : Try.f79.body = some (.seq (.region 0 reg79_0 false) (.seq (.region 1 reg79_1 true) (.ret))) := by kernel_rfl
noncomputable def reg107_0 : Array Oper := match Try.f107.body with | some (.seq (.region _ ops _) _) => ops | _ => #[]
theorem size107_0 : reg107_0.size = 1 := by kernel_rfl
noncomputable def reg107_1 : Array Oper := match Try.f107.body with | some (.seq _ (.seq (.seq (.region _ ops _) _) _)) => ops | _ => #[]
theorem size107_1 : reg107_1.size = 1 := by kernel_rfl
noncomputable def reg107_2 : Array Oper := match Try.f107.body with | some (.seq _ (.seq (.seq _ (.cond _ (.seq (.region _ ops _) _) _)) _)) => ops | _ => #[]
theorem size107_2 : reg107_2.size = 1 := by kernel_rfl
noncomputable def reg107_3 : Array Oper := match Try.f107.body with | some (.seq _ (.seq _ (.seq (.region _ ops _) _))) => ops | _ => #[]
theorem size107_3 : reg107_3.size = 1 := by kernel_rfl
theorem code107_is : Try.f107.body = some (.seq (.region 0 reg107_0 false) (.seq (.seq (.region 1 reg107_1 false) (.cond (.tmp 3 ) (.seq (.region 2 reg107_2 false) (.ret)) (.skip))) (.seq (.region 3 reg107_3 false) (.ret)))) := by kernel_rfl
noncomputable def reg77_0 : Array Oper := match Try.f77.body with | some (.seq (.region _ ops _) _) => ops | _ => #[]
theorem size77_0 : reg77_0.size = 1 := by kernel_rfl
noncomputable def reg77_1 : Array Oper := match Try.f77.body with | some (.seq _ (.seq (.region _ ops _) _)) => ops | _ => #[]
theorem size77_1 : reg77_1.size = 2 := by kernel_rfl
noncomputable def reg77_2 : Array Oper := match Try.f77.body with | some (.seq _ (.seq _ (.seq (.region _ ops _) _))) => ops | _ => #[]
theorem size77_2 : reg77_2.size = 4 := by kernel_rfl
theorem code77_is : Try.f77.body = some (.seq (.region 0 reg77_0 false) (.seq (.region 1 reg77_1 false) (.seq (.region 2 reg77_2 false) (.ret)))) := by kernel_rfl
noncomputable def reg44_0 : Array Oper := match Try.f44.body with | some (.seq (.region _ ops _) _) => ops | _ => #[]
theorem size44_0 : reg44_0.size = 1 := by kernel_rfl
noncomputable def reg44_1 : Array Oper := match Try.f44.body with | some (.seq _ (.seq (.seq (.region _ ops _) _) _)) => ops | _ => #[]
theorem size44_1 : reg44_1.size = 2 := by kernel_rfl
noncomputable def reg44_2 : Array Oper := match Try.f44.body with | some (.seq _ (.seq (.seq _ (.cond _ (.seq (.region _ ops _) _) _)) _)) => ops | _ => #[]
theorem size44_2 : reg44_2.size = 1 := by kernel_rfl
noncomputable def reg44_3 : Array Oper := match Try.f44.body with | some (.seq _ (.seq _ (.seq (.region _ ops _) _))) => ops | _ => #[]
theorem size44_3 : reg44_3.size = 6 := by kernel_rfl
theorem code44_is : Try.f44.body = some (.seq (.region 0 reg44_0 false) (.seq (.seq (.region 1 reg44_1 false) (.cond (.tmp 6 ) (.seq (.region 2 reg44_2 false) (.ret)) (.skip))) (.seq (.region 3 reg44_3 false) (.ret)))) := by kernel_rfl
noncomputable def reg45_0 : Array Oper := match Try.f45.body with | some (.seq (.region _ ops _) _) => ops | _ => #[]
theorem size45_0 : reg45_0.size = 1 := by kernel_rfl
noncomputable def reg45_1 : Array Oper := match Try.f45.body with | some (.seq _ (.seq (.seq (.region _ ops _) _) _)) => ops | _ => #[]
theorem size45_1 : reg45_1.size = 2 := by kernel_rfl
noncomputable def reg45_2 : Array Oper := match Try.f45.body with | some (.seq _ (.seq (.seq _ (.cond _ (.seq (.region _ ops _) _) _)) _)) => ops | _ => #[]
theorem size45_2 : reg45_2.size = 1 := by kernel_rfl
noncomputable def reg45_3 : Array Oper := match Try.f45.body with | some (.seq _ (.seq _ (.seq (.region _ ops _) _))) => ops | _ => #[]
theorem size45_3 : reg45_3.size = 2 := by kernel_rfl
noncomputable def reg45_4 : Array Oper := match Try.f45.body with | some (.seq _ (.seq _ (.seq _ (.seq (.region _ ops _) _)))) => ops | _ => #[]
theorem size45_4 : reg45_4.size = 6 := by kernel_rfl
theorem code45_is : Try.f45.body = some (.seq (.region 0 reg45_0 false) (.seq (.seq (.region 1 reg45_1 false) (.cond (.tmp 6 ) (.seq (.region 2 reg45_2 false) (.ret)) (.skip))) (.seq (.region 3 reg45_3 false) (.seq (.region 4 reg45_4 false) (.ret))))) := by kernel_rfl
noncomputable def reg46_0 : Array Oper := match Try.f46.body with | some (.seq (.region _ ops _) _) => ops | _ => #[]
theorem size46_0 : reg46_0.size = 1 := by kernel_rfl
noncomputable def reg46_1 : Array Oper := match Try.f46.body with | some (.seq _ (.seq (.seq (.region _ ops _) _) _)) => ops | _ => #[]
theorem size46_1 : reg46_1.size = 2 := by kernel_rfl
noncomputable def reg46_2 : Array Oper := match Try.f46.body with | some (.seq _ (.seq (.seq _ (.cond _ (.seq (.region _ ops _) _) _)) _)) => ops | _ => #[]
theorem size46_2 : reg46_2.size = 1 := by kernel_rfl
noncomputable def reg46_3 : Array Oper := match Try.f46.body with | some (.seq _ (.seq _ (.seq (.region _ ops _) _))) => ops | _ => #[]
theorem size46_3 : reg46_3.size = 2 := by kernel_rfl
noncomputable def reg46_4 : Array Oper := match Try.f46.body with | some (.seq _ (.seq _ (.seq _ (.seq (.region _ ops _) _)))) => ops | _ => #[]
theorem size46_4 : reg46_4.size = 5 := by kernel_rfl
theorem code46_is : Try.f46.body = some (.seq (.region 0 reg46_0 false) (.seq (.seq (.region 1 reg46_1 false) (.cond (.tmp 6 ) (.seq (.region 2 reg46_2 false) (.ret)) (.skip))) (.seq (.region 3 reg46_3 false) (.seq (.region 4 reg46_4 false) (.ret))))) := by kernel_rfl
section
variable {main : Bool} {V : Nat → Option Wait} {X : RX} {s : Rs} {w : World} {sv : Value} {dl : Nat}
theorem cnt15_w (hA : ∀ b, Apart V b) (I : RI X s w) (hb : s.n < 1152921504606846976) :
    CallW Try.prog main V 169 #[.pointer (some ⟨X.p, 0, none⟩)] w (fun v w' => v = .tuple #[] ∧ RI X (s.tick 1) w') := by
  have h1 : w.cell? ⟨X.p, 0, none⟩ = some (.int .i64 (s.n : Nat)) := (cell_of I.cnt 0).trans rfl
  have hz : w.frozen? ⟨X.p, 0, none⟩ = false := frozen_of I.cnt 0
  have hw1 : IntKind.wrap .i64 ((s.n : Int) + 1) = (s.n : Int) + 1 := by rw [IntKind.wrap_i64]; omega
  have hf' : Free V ⟨X.p, 0, none⟩ := (hA X.p).1 _ rfl
  have I' := I.cntSet 1
  rw [show ((s.n + 1 : Nat) : Int) = (s.n : Int) + 1 by simp] at I'
  generalize (s.n : Int) = z at *
  generalize s.tick 1 = s' at *
  clear I hb hA
  refine callW_in Try.func169 code169_is fun fr cs => ?_
  simp only [Try.ntmps169, List.size_toArray, List.length_cons, List.length_nil, Nat.reduceAdd, Nat.reduceSub, Array.replicate_succ, Array.replicate_zero, List.push_toArray, List.append_toArray, List.nil_append, List.cons_append]
  repeat (first | refine Walk.c rfl ?_ | refine Walk.cRet ?_ | refine Walk.cEnd ?_ | (refine Walk.cReg ?_; simp only [size169_0, List.range, List.range.loop]) | (refine Walk.oq ?_; try walk_nrm) | (refine Walk.un ?_; walk_nrm))
  (refine Walk.os hf' h1 ?_; try walk_nrm)
  repeat (first | refine Walk.c rfl ?_ | refine Walk.cRet ?_ | refine Walk.cEnd ?_ | (refine Walk.cReg ?_; simp only [size169_0, List.range, List.range.loop]) | (refine Walk.oq ?_; try walk_nrm) | (refine Walk.un ?_; walk_nrm))
  exact Walk.ret0 rfl rfl Try.func169 rfl fun d => ⟨rfl, I'.at d⟩
theorem step15_c (hA : ∀ b, Apart V b) (I : RI X s w) (hb : s.n < 1152921504606846976) :
    CallW Try.prog main V 78 #[cntV X.p] w (fun v w' => v = .tuple #[] ∧ RI X (s.tick 1) w') := by
  obtain ⟨ms, hu⟩ := undStepperN
  have hc := cnt15_w (main := main) hA I hb
  clear I hb hA
  unfold cntV
  have hn1 := fun w => run_neq_iface (P := Try.prog) (w := w) 113 35 (.pointer (some ⟨X.p, 0, none⟩)) hu
  have hn2 := fun w es => ev_neq_iface (P := Try.prog) (w := w) 113 35 (.pointer (some ⟨X.p, 0, none⟩)) es hu
  refine callW_in Try.func78 code78_is fun fr cs => ?_
  simp only [Try.ntmps78, List.size_toArray, List.length_cons, List.length_nil, Nat.reduceAdd, Nat.reduceSub, Array.replicate_succ, Array.replicate_zero, List.push_toArray, List.append_toArray, List.nil_append, List.cons_append]
  repeat (first | refine Walk.c rfl ?_ | refine Walk.cRet ?_ | refine Walk.cEnd ?_ | (refine Walk.cReg ?_; simp only [size78_0, size78_1, List.range, List.range.loop]) | (refine Walk.oq ?_; try walk_nrm) | (refine Walk.un ?_; walk_nrm))
  refine Walk.invokeM und15s row15s X.p 0 (Post := fun v w' => v = .tuple #[] ∧ RI X (s.tick 1) w') ?_ (ho_of (by conv => lhs; whnf) (by kernel_rfl)) (by rfl) (by decide) rfl rfl Try.func169 (by kernel_rfl) (by rfl) ?_
  · try walk_nrm
    exact hc
  rintro v w' ⟨rfl, I'⟩
  clear hc
  walk_nrm
  repeat (first | refine Walk.c rfl ?_ | refine Walk.cRet ?_ | refine Walk.cEnd ?_ | (refine Walk.cReg ?_; simp only [size78_0, size78_1, List.range, List.range.loop]) | (refine Walk.oq ?_; try walk_nrm) | (refine Walk.un ?_; walk_nrm))
  exact Walk.ret0 rfl rfl Try.func78 rfl fun d => ⟨rfl, I'.at d⟩
theorem step15_n (w : World) : CallV Try.prog main V 78 #[.nilIface] w (.tuple #[]) w := by
  obtain ⟨ms, hu⟩ := undStepperN
  have hn1 := fun w => run_neq_nilIface (P := Try.prog) (w := w) 113 hu
  have hn2 := fun w es => ev_neq_nilIface (P := Try.prog) (w := w) 113 es hu
  refine callW_in Try.func78 code78_is fun fr cs => ?_
  simp only [Try.ntmps78, List.size_toArray, List.length_cons, List.length_nil, Nat.reduceAdd, Nat.reduceSub, Array.replicate_succ, Array.replicate_zero, List.push_toArray, List.append_toArray, List.nil_append, List.cons_append]
  repeat (first | refine Walk.c rfl ?_ | refine Walk.cRet ?_ | refine Walk.cEnd ?_ | (refine Walk.cReg ?_; simp only [size78_0, size78_1, List.range, List.range.loop]) | (refine Walk.oq ?_; try walk_nrm) | (refine Walk.un ?_; walk_nrm))
  exact Walk.ret0 rfl rfl Try.func78 rfl fun d => ⟨rfl, d, rfl⟩
theorem step15 (hA : ∀ b, Apart V b) (I : RI X s w) (hb : s.n < 1152921504606846976) (hT : Tk X sv dl) :
    CallW Try.prog main V 78 #[sv] w (fun v w' => v = .tuple #[] ∧ RI X (s.tick dl) w') := by
  rcases hT with ⟨rfl, rfl⟩ | ⟨rfl, rfl⟩
  · exact step15_c hA I hb
  · intro fr cs
    refine (step15_n w fr cs).mono ?_
    rintro _ _ ⟨v, ⟨rfl, d, rfl⟩, rfl⟩
    exact ⟨_, ⟨rfl, I.at d⟩, rfl⟩
theorem rvl_mem {l : List Int} {a : Nat} (hl : l ≠ []) : l[min (a + 1) l.length - 1]? = some (rvl l a) := by
  have hp := List.length_pos_iff.2 hl
  unfold rvl
  rw [if_neg hl, List.getElem?_eq_getElem (by omega), List.getD_eq_getElem?_getD, List.getElem?_eq_getElem (by omega)]
  rfl
theorem rld_ce (hA : ∀ b, Apart V b) (I : RI X s w) (hb : s.n < 1152921504606846976) (i : Nat) (hi : i < X.k) (hl : s.ld i < 1152921504606846976) (he : X.ls i = []) :
    CallW Try.prog main V 168 #[.pointer (some ⟨X.rb i, 0, none⟩), cntV X.p] w (fun v w' => v = .int .i64 (rvl (X.ls i) (s.ld i)) ∧ RI X (s.load 1 i) w') := by
  obtain ⟨ms, hu⟩ := undStepperN
  have hf' : Free V ⟨X.rb i, 1, none⟩ := (hA (X.rb i)).1 _ rfl
  have hw1 : IntKind.wrap .i64 ((s.ld i : Int) + 1) = (s.ld i : Int) + 1 := by rw [IntKind.wrap_i64]; omega
  have hc := cnt15_w (main := main) hA I hb
  clear I
  unfold cntV
  have hn1 := fun w => run_neq_iface (P := Try.prog) (w := w) 113 35 (.pointer (some ⟨X.p, 0, none⟩)) hu
  have hn2 := fun w es => ev_neq_iface (P := Try.prog) (w := w) 113 35 (.pointer (some ⟨X.p, 0, none⟩)) es hu
  refine callW_in Try.func168 code168_is fun fr cs => ?_
  simp only [Try.ntmps168, List.size_toArray, List.length_cons, List.length_nil, Nat.reduceAdd, Nat.reduceSub, Array.replicate_succ, Array.replicate_zero, List.push_toArray, List.append_toArray, List.nil_append, List.cons_append]
  repeat (first | refine Walk.c rfl ?_ | refine Walk.cRet ?_ | refine Walk.cEnd ?_ | (refine Walk.cReg ?_; simp only [size168_0, size168_1, size168_2, size168_3, size168_4, size168_5, size168_6, List.range, List.range.loop]) | (refine Walk.oq ?_; try walk_nrm) | (refine Walk.un ?_; walk_nrm))
  refine Walk.invokeM und15s row15s X.p 0 (Post := fun v w' => v = .tuple #[] ∧ RI X (s.tick 1) w') ?_ (ho_of (by conv => lhs; whnf) (by kernel_rfl)) (by rfl) (by decide) rfl rfl Try.func169 (by kernel_rfl) (by rfl) ?_
  · try walk_nrm
    exact hc
  rintro v w1 ⟨rfl, I1⟩
  clear hc hn1 hn2
  walk_nrm
  have c1 : w1.cell? ⟨X.rb i, 1, none⟩ = some (.int .i64 (s.ld i : Nat)) := (cell_of (I1.src i hi) 1).trans rfl
  have z1 : w1.frozen? ⟨X.rb i, 1, none⟩ = false := frozen_of (I1.src i hi) 1
  have I2 : RI X (s.load 1 i) (w1.setCell ⟨X.rb i, 1, none⟩ (.int .i64 ((s.ld i + 1 : Nat) : Int))) := I1.ldSet i hi
  rw [show ((s.ld i + 1 : Nat) : Int) = (s.ld i : Int) + 1 by simp] at I2
  have d0 : (w1.setCell ⟨X.rb i, 1, none⟩ (.int .i64 ((s.ld i : Int) + 1))).cell? ⟨X.rb i, 0, none⟩ = some (.slice (X.la i) (X.ls i).length (X.lc i)) := (cell_of (I2.src i hi) 0).trans rfl
  have d1 : (w1.setCell ⟨X.rb i, 1, none⟩ (.int .i64 ((s.ld i : Int) + 1))).cell? ⟨X.rb i, 1, none⟩ = some (.int .i64 ((s.ld i : Int) + 1)) := (cell_of (I2.src i hi) 1).trans (by simp [Rs.load, upd_same])
  have hr : rvl (X.ls i) (s.ld i) = 0 := by unfold rvl; rw [if_pos he]
  rw [he, List.length_nil] at d0
  rw [hr]
  clear hr he I1 hb hl hi
  generalize s.load 1 i = s' at *
  generalize (s.ld i : Int) = a at *
  repeat (first | refine Walk.c rfl ?_ | refine Walk.cRet ?_ | refine Walk.cEnd ?_ | (refine Walk.cReg ?_; simp only [size168_0, size168_1, size168_2, size168_3, size168_4, size168_5, size168_6, List.range, List.range.loop]) | (refine Walk.oq ?_; try walk_nrm) | (refine Walk.un ?_; walk_nrm))
  (refine Walk.os hf' c1 ?_; try walk_nrm)
  generalize w1.setCell ⟨X.rb i, 1, none⟩ (.int .i64 (a + 1)) = w2 at *
  clear c1 z1
  repeat (first | refine Walk.c rfl ?_ | refine Walk.cRet ?_ | refine Walk.cEnd ?_ | (refine Walk.cReg ?_; simp only [size168_0, size168_1, size168_2, size168_3, size168_4, size168_5, size168_6, List.range, List.range.loop]) | (refine Walk.oq ?_; try walk_nrm) | (refine Walk.un ?_; walk_nrm))
  exact Walk.on1 rfl rfl Try.func168 rfl (.stop fun d => ⟨_, ⟨rfl, I2.at d⟩, rfl⟩)
theorem rld_cm (hA : ∀ b, Apart V b) (I : RI X s w) (hb : s.n < 1152921504606846976) (i : Nat) (hi : i < X.k) (hl : s.ld i < 1152921504606846976) (he : X.ls i ≠ []) :
    CallW Try.prog main V 168 #[.pointer (some ⟨X.rb i, 0, none⟩), cntV X.p] w (fun v w' => v = .int .i64 (rvl (X.ls i) (s.ld i)) ∧ RI X (s.load 1 i) w') := by
  obtain ⟨ms, hu⟩ := undStepperN
  have hf' : Free V ⟨X.rb i, 1, none⟩ := (hA (X.rb i)).1 _ rfl
  have hw1 : IntKind.wrap .i64 ((s.ld i : Int) + 1) = (s.ld i : Int) + 1 := by rw [IntKind.wrap_i64]; omega
  have hc := cnt15_w (main := main) hA I hb
  clear I
  unfold cntV
  have hn1 := fun w => run_neq_iface (P := Try.prog) (w := w) 113 35 (.pointer (some ⟨X.p, 0, none⟩)) hu
  have hn2 := fun w es => ev_neq_iface (P := Try.prog) (w := w) 113 35 (.pointer (some ⟨X.p, 0, none⟩)) es hu
  refine callW_in Try.func168 code168_is fun fr cs => ?_
  simp only [Try.ntmps168, List.size_toArray, List.length_cons, List.length_nil, Nat.reduceAdd, Nat.reduceSub, Array.replicate_succ, Array.replicate_zero, List.push_toArray, List.append_toArray, List.nil_append, List.cons_append]
  repeat (first | refine Walk.c rfl ?_ | refine Walk.cRet ?_ | refine Walk.cEnd ?_ | (refine Walk.cReg ?_; simp only [size168_0, size168_1, size168_2, size168_3, size168_4, size168_5, size168_6, List.range, List.range.loop]) | (refine Walk.oq ?_; try walk_nrm) | (refine Walk.un ?_; walk_nrm))
  refine Walk.invokeM und15s row15s X.p 0 (Post := fun v w' => v = .tuple #[] ∧ RI X (s.tick 1) w') ?_ (ho_of (by conv => lhs; whnf) (by kernel_rfl)) (by rfl) (by decide) rfl rfl Try.func169 (by kernel_rfl) (by rfl) ?_
  · try walk_nrm
    exact hc
  rintro v w1 ⟨rfl, I1⟩
  clear hc hn1 hn2
  walk_nrm
  have c1 : w1.cell? ⟨X.rb i, 1, none⟩ = some (.int .i64 (s.ld i : Nat)) := (cell_of (I1.src i hi) 1).trans rfl
  have z1 : w1.frozen? ⟨X.rb i, 1, none⟩ = false := frozen_of (I1.src i hi) 1
  have I2 : RI X (s.load 1 i) (w1.setCell ⟨X.rb i, 1, none⟩ (.int .i64 ((s.ld i + 1 : Nat) : Int))) := I1.ldSet i hi
  rw [show ((s.ld i + 1 : Nat) : Int) = (s.ld i : Int) + 1 by simp] at I2
  have d0 : (w1.setCell ⟨X.rb i, 1, none⟩ (.int .i64 ((s.ld i : Int) + 1))).cell? ⟨X.rb i, 0, none⟩ = some (.slice (X.la i) (X.ls i).length (X.lc i)) := (cell_of (I2.src i hi) 0).trans rfl
  have d1 : (w1.setCell ⟨X.rb i, 1, none⟩ (.int .i64 ((s.ld i : Int) + 1))).cell? ⟨X.rb i, 1, none⟩ = some (.int .i64 ((s.ld i : Int) + 1)) := (cell_of (I2.src i hi) 1).trans (by simp [Rs.load, upd_same])
  obtain ⟨b, arr, e, x1, x2⟩ := I2.num i hi he
  have hp := List.length_pos_iff.2 he
  have d2 := (cell_of x1 _).trans (x2 _ _ (rvl_mem (a := s.ld i) he))
  obtain ⟨j, hj⟩ : ∃ j, min (s.ld i + 1) (X.ls i).length - 1 = j := ⟨_, rfl⟩
  rw [hj] at d2
  have hmn := @events_min_ints Try.prog
  have hmin : min ((s.ld i : Int) + 1) ((X.ls i).length : Int) = (j : Int) + 1 := by omega
  have hw2 : IntKind.wrap .i64 (j : Int) = j := by rw [IntKind.wrap_i64]; omega
  have hj0 : (0 : Int) ≤ j := by omega
  have hjL : (j : Int) < (X.ls i).length := by omega
  have hjn : j < (X.ls i).length := by omega
  have hL0 : (((X.ls i).length : Int) == 0) = false := by rw [beq_eq_false_iff_ne]; omega
  rw [e] at d0
  generalize rvl (X.ls i) (s.ld i) = z at *
  generalize (X.ls i).length = L at *
  clear hp hj x1 x2 e I1 hb hl hi he
  generalize s.load 1 i = s' at *
  generalize (s.ld i : Int) = a at *
  repeat (first | refine Walk.c rfl ?_ | refine Walk.cRet ?_ | refine Walk.cEnd ?_ | (refine Walk.cReg ?_; simp only [size168_0, size168_1, size168_2, size168_3, size168_4, size168_5, size168_6, List.range, List.range.loop]) | (refine Walk.oq ?_; try walk_nrm) | (refine Walk.un ?_; walk_nrm))
  (refine Walk.os hf' c1 ?_; try walk_nrm)
  generalize w1.setCell ⟨X.rb i, 1, none⟩ (.int .i64 (a + 1)) = w2 at *
  clear c1 z1
  repeat (first | refine Walk.c rfl ?_ | refine Walk.cRet ?_ | refine Walk.cEnd ?_ | (refine Walk.cReg ?_; simp only [size168_0, size168_1, size168_2, size168_3, size168_4, size168_5, size168_6, List.range, List.range.loop]) | (refine Walk.oq ?_; try walk_nrm) | (refine Walk.un ?_; walk_nrm))
  (refine Walk.drawnC (by kernel_rfl) size168_6 (by kernel_rfl) (by kernel_rfl) (by decide) ?_; simp only [List.range, List.range.loop]; repeat (first | (refine Cm.opqA (ho_of (by conv => lhs; whnf) (by kernel_rfl)) (by rfl) (fun dd e he => ?_) ?_; (· (simp [go_sem, *] at he; try (subst he; exact evR_read _ _))); apply Exists.intro; apply And.intro; (· (intro dd K hK; go_simp; exact hK))) | (refine Cm.unw (ho_of (by conv => lhs; whnf) (by kernel_rfl)) (by rfl) ?_; walk_nrm)))
  refine Cm.done ?_
  try walk_nrm
  repeat (first | refine Walk.c rfl ?_ | refine Walk.cRet ?_ | refine Walk.cEnd ?_ | (refine Walk.cReg ?_; simp only [size168_0, size168_1, size168_2, size168_3, size168_4, size168_5, size168_6, List.range, List.range.loop]) | (refine Walk.oq ?_; try walk_nrm) | (refine Walk.un ?_; walk_nrm))
  exact Walk.on1 rfl rfl Try.func168 rfl (.stop fun d => ⟨_, ⟨rfl, I2.at d⟩, rfl⟩)
theorem rld_ne (hA : ∀ b, Apart V b) (I : RI X s w) (hb : s.n < 1152921504606846976) (i : Nat) (hi : i < X.k) (hl : s.ld i < 1152921504606846976) (he : X.ls i = []) :
    CallW Try.prog main V 168 #[.pointer (some ⟨X.rb i, 0, none⟩), .nilIface] w (fun v w' => v = .int .i64 (rvl (X.ls i) (s.ld i)) ∧ RI X (s.load 0 i) w') := by
  obtain ⟨ms, hu⟩ := undStepperN
  have hf' : Free V ⟨X.rb i, 1, none⟩ := (hA (X.rb i)).1 _ rfl
  have hw1 : IntKind.wrap .i64 ((s.ld i : Int) + 1) = (s.ld i : Int) + 1 := by rw [IntKind.wrap_i64]; omega
  have hn1 := fun w => run_neq_nilIface (P := Try.prog) (w := w) 113 hu
  have hn2 := fun w es => ev_neq_nilIface (P := Try.prog) (w := w) 113 es hu
  have I1 : RI X (s.tick 0) w := I
  clear I
  refine callW_in Try.func168 code168_is fun fr cs => ?_
  simp only [Try.ntmps168, List.size_toArray, List.length_cons, List.length_nil, Nat.reduceAdd, Nat.reduceSub, Array.replicate_succ, Array.replicate_zero, List.push_toArray, List.append_toArray, List.nil_append, List.cons_append]
  repeat (first | refine Walk.c rfl ?_ | refine Walk.cRet ?_ | refine Walk.cEnd ?_ | (refine Walk.cReg ?_; simp only [size168_0, size168_1, size168_2, size168_3, size168_4, size168_5, size168_6, List.range, List.range.loop]) | (refine Walk.oq ?_; try walk_nrm) | (refine Walk.un ?_; walk_nrm))
  clear hn1 hn2
  generalize w = w1 at *
  have c1 : w1.cell? ⟨X.rb i, 1, none⟩ = some (.int .i64 (s.ld i : Nat)) := (cell_of (I1.src i hi) 1).trans rfl
  have z1 : w1.frozen? ⟨X.rb i, 1, none⟩ = false := frozen_of (I1.src i hi) 1
  have I2 : RI X (s.load 0 i) (w1.setCell ⟨X.rb i, 1, none⟩ (.int .i64 ((s.ld i + 1 : Nat) : Int))) := I1.ldSet i hi
  rw [show ((s.ld i + 1 : Nat) : Int) = (s.ld i : Int) + 1 by simp] at I2
  have d0 : (w1.setCell ⟨X.rb i, 1, none⟩ (.int .i64 ((s.ld i : Int) + 1))).cell? ⟨X.rb i, 0, none⟩ = some (.slice (X.la i) (X.ls i).length (X.lc i)) := (cell_of (I2.src i hi) 0).trans rfl
  have d1 : (w1.setCell ⟨X.rb i, 1, none⟩ (.int .i64 ((s.ld i : Int) + 1))).cell? ⟨X.rb i, 1, none⟩ = some (.int .i64 ((s.ld i : Int) + 1)) := (cell_of (I2.src i hi) 1).trans (by simp [Rs.load, upd_same])
  have hr : rvl (X.ls i) (s.ld i) = 0 := by unfold rvl; rw [if_pos he]
  rw [he, List.length_nil] at d0
  rw [hr]
  clear hr he I1 hb hl hi
  generalize s.load 0 i = s' at *
  generalize (s.ld i : Int) = a at *
  repeat (first | refine Walk.c rfl ?_ | refine Walk.cRet ?_ | refine Walk.cEnd ?_ | (refine Walk.cReg ?_; simp only [size168_0, size168_1, size168_2, size168_3, size168_4, size168_5, size168_6, List.range, List.range.loop]) | (refine Walk.oq ?_; try walk_nrm) | (refine Walk.un ?_; walk_nrm))
  (refine Walk.os hf' c1 ?_; try walk_nrm)
  generalize w1.setCell ⟨X.rb i, 1, none⟩ (.int .i64 (a + 1)) = w2 at *
  clear c1 z1
  repeat (first | refine Walk.c rfl ?_ | refine Walk.cRet ?_ | refine Walk.cEnd ?_ | (refine Walk.cReg ?_; simp only [size168_0, size168_1, size168_2, size168_3, size168_4, size168_5, size168_6, List.range, List.range.loop]) | (refine Walk.oq ?_; try walk_nrm) | (refine Walk.un ?_; walk_nrm))
  exact Walk.on1 rfl rfl Try.func168 rfl (.stop fun d => ⟨_, ⟨rfl, I2.at d⟩, rfl⟩)
theorem rld_nm (hA : ∀ b, Apart V b) (I : RI X s w) (hb : s.n < 1152921504606846976) (i : Nat) (hi : i < X.k) (hl : s.ld i < 1152921504606846976) (he : X.ls i ≠ []) :
    CallW Try.prog main V 168 #[.pointer (some ⟨X.rb i, 0, none⟩), .nilIface] w (fun v w' => v = .int .i64 (rvl (X.ls i) (s.ld i)) ∧ RI X (s.load 0 i) w') := by
  obtain ⟨ms, hu⟩ := undStepperN
  have hf' : Free V ⟨X.rb i, 1, none⟩ := (hA (X.rb i)).1 _ rfl
  have hw1 : IntKind.wrap .i64 ((s.ld i : Int) + 1) = (s.ld i : Int) + 1 := by rw [IntKind.wrap_i64]; omega
  have hn1 := fun w => run_neq_nilIface (P := Try.prog) (w := w) 113 hu
  have hn2 := fun w es => ev_neq_nilIface (P := Try.prog) (w := w) 113 es hu
  have I1 : RI X (s.tick 0) w := I
  clear I
  refine callW_in Try.func168 code168_is fun fr cs => ?_
  simp only [Try.ntmps168, List.size_toArray, List.length_cons, List.length_nil, Nat.reduceAdd, Nat.reduceSub, Array.replicate_succ, Array.replicate_zero, List.push_toArray, List.append_toArray, List.nil_append, List.cons_append]
  repeat (first | refine Walk.c rfl ?_ | refine Walk.cRet ?_ | refine Walk.cEnd ?_ | (refine Walk.cReg ?_; simp only [size168_0, size168_1, size168_2, size168_3, size168_4, size168_5, size168_6, List.range, List.range.loop]) | (refine Walk.oq ?_; try walk_nrm) | (refine Walk.un ?_; walk_nrm))
  clear hn1 hn2
  generalize w = w1 at *
  have c1 : w1.cell? ⟨X.rb i, 1, none⟩ = some (.int .i64 (s.ld i : Nat)) := (cell_of (I1.src i hi) 1).trans rfl
  have z1 : w1.frozen? ⟨X.rb i, 1, none⟩ = false := frozen_of (I1.src i hi) 1
  have I2 : RI X (s.load 0 i) (w1.setCell ⟨X.rb i, 1, none⟩ (.int .i64 ((s.ld i + 1 : Nat) : Int))) := I1.ldSet i hi
  rw [show ((s.ld i + 1 : Nat) : Int) = (s.ld i : Int) + 1 by simp] at I2
  have d0 : (w1.setCell ⟨X.rb i, 1, none⟩ (.int .i64 ((s.ld i : Int) + 1))).cell? ⟨X.rb i, 0, none⟩ = some (.slice (X.la i) (X.ls i).length (X.lc i)) := (cell_of (I2.src i hi) 0).trans rfl
  have d1 : (w1.setCell ⟨X.rb i, 1, none⟩ (.int .i64 ((s.ld i : Int) + 1))).cell? ⟨X.rb i, 1, none⟩ = some (.int .i64 ((s.ld i : Int) + 1)) := (cell_of (I2.src i hi) 1).trans (by simp [Rs.load, upd_same])
  obtain ⟨b, arr, e, x1, x2⟩ := I2.num i hi he
  have hp := List.length_pos_iff.2 he
  have d2 := (cell_of x1 _).trans (x2 _ _ (rvl_mem (a := s.ld i) he))
  obtain ⟨j, hj⟩ : ∃ j, min (s.ld i + 1) (X.ls i).length - 1 = j := ⟨_, rfl⟩
  rw [hj] at d2
  have hmn := @events_min_ints Try.prog
  have hmin : min ((s.ld i : Int) + 1) ((X.ls i).length : Int) = (j : Int) + 1 := by omega
  have hw2 : IntKind.wrap .i64 (j : Int) = j := by rw [IntKind.wrap_i64]; omega
  have hj0 : (0 : Int) ≤ j := by omega
  have hjL : (j : Int) < (X.ls i).length := by omega
  have hjn : j < (X.ls i).length := by omega
  have hL0 : (((X.ls i).length : Int) == 0) = false := by rw [beq_eq_false_iff_ne]; omega
  rw [e] at d0
  generalize rvl (X.ls i) (s.ld i) = z at *
  generalize (X.ls i).length = L at *
  clear hp hj x1 x2 e I1 hb hl hi he
  generalize s.load 0 i = s' at *
  generalize (s.ld i : Int) = a at *
  repeat (first | refine Walk.c rfl ?_ | refine Walk.cRet ?_ | refine Walk.cEnd ?_ | (refine Walk.cReg ?_; simp only [size168_0, size168_1, size168_2, size168_3, size168_4, size168_5, size168_6, List.range, List.range.loop]) | (refine Walk.oq ?_; try walk_nrm) | (refine Walk.un ?_; walk_nrm))
  (refine Walk.os hf' c1 ?_; try walk_nrm)
  generalize w1.setCell ⟨X.rb i, 1, none⟩ (.int .i64 (a + 1)) = w2 at *
  clear c1 z1
  repeat (first | refine Walk.c rfl ?_ | refine Walk.cRet ?_ | refine Walk.cEnd ?_ | (refine Walk.cReg ?_; simp only [size168_0, size168_1, size168_2, size168_3, size168_4, size168_5, size168_6, List.range, List.range.loop]) | (refine Walk.oq ?_; try walk_nrm) | (refine Walk.un ?_; walk_nrm))
  (refine Walk.drawnC (by kernel_rfl) size168_6 (by kernel_rfl) (by kernel_rfl) (by decide) ?_; simp only [List.range, List.range.loop]; repeat (first | (refine Cm.opqA (ho_of (by conv => lhs; whnf) (by kernel_rfl)) (by rfl) (fun dd e he => ?_) ?_; (· (simp [go_sem, *] at he; try (subst he; exact evR_read _ _))); apply Exists.intro; apply And.intro; (· (intro dd K hK; go_simp; exact hK))) | (refine Cm.unw (ho_of (by conv => lhs; whnf) (by kernel_rfl)) (by rfl) ?_; walk_nrm)))
  refine Cm.done ?_
  try walk_nrm
  repeat (first | refine Walk.c rfl ?_ | refine Walk.cRet ?_ | refine Walk.cEnd ?_ | (refine Walk.cReg ?_; simp only [size168_0, size168_1, size168_2, size168_3, size168_4, size168_5, size168_6, List.range, List.range.loop]) | (refine Walk.oq ?_; try walk_nrm) | (refine Walk.un ?_; walk_nrm))
  exact Walk.on1 rfl rfl Try.func168 rfl (.stop fun d => ⟨_, ⟨rfl, I2.at d⟩, rfl⟩)
theorem rload15 (hA : ∀ b, Apart V b) (I : RI X s w) (hb : s.n < 1152921504606846976) (i : Nat) (hi : i < X.k) (hl : s.ld i < 1152921504606846976) (hT : Tk X sv dl) :
    CallW Try.prog main V 168 #[.pointer (some ⟨X.rb i, 0, none⟩), sv] w (fun v w' => v = .int .i64 (rvl (X.ls i) (s.ld i)) ∧ RI X (s.load dl i) w') := by
  rcases hT with ⟨rfl, rfl⟩ | ⟨rfl, rfl⟩
  · by_cases he : X.ls i = []
    · exact rld_ce hA I hb i hi hl he
    · exact rld_cm hA I hb i hi hl he
  · by_cases he : X.ls i = []
    · exact rld_ne hA I hb i hi hl he
    · exact rld_nm hA I hb i hi hl he
end
end
end Go.Proofs.Ytgfajibjedfkdaa
