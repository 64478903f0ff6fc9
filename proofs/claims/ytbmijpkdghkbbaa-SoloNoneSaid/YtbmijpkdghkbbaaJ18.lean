/- Part 18. -/
import Derived.Test.YtbmijpkdghkbbaaJ3
import Derived.Test.YtbmijpkdghkbbaaJ4
import Derived.Test.YtbmijpkdghkbbaaJ14
import Derived.Test.YtbmijpkdghkbbaaJ15
set_option linter.unusedSimpArgs false
set_option linter.unusedVariables false
set_option linter.unusedVariables false
set_option maxHeartbeats 8000000
set_option maxRecDepth 100000
namespace Go.Proofs.Ytbmijpkdghkbbaa
open Go.Conc Go.RowKit Go.Relay
open Go.ConcN (upd upd_ne upd_same)
section
structure OSt (L : La) (g : OG) (S : Stile) : Prop where
  n : S.n = g.n
  alo : g.A < g.w0.heap.size
  tbs : ¬ g.sh S.tb ∧ S.tb ≠ g.A
  tb : ∀ i, i < g.n → g.w0.cell? ⟨S.tb, i, none⟩ = some (S.F i)
  sch : ∀ (j : Nat) (z : Int), S.sl[j]? = some z → ∃ s so, S.sa = some ⟨s, so, none⟩ ∧ g.w0.cell? ⟨s, so + j, none⟩ = some (.int .i64 z) ∧ ¬ g.sh s ∧ s ≠ g.A
def t0 (L : La) : Tst L := ⟨[], none, []⟩
structure OInv (L : La) (g : OG) (S : Stile) (k : Nat) (o : Nat → Option Role) (x : OX L) (cs : Nat → List Frame) (w : World) (pr : Nat → Option Nat) (hd : Nat → Value) (y : L.Gh) : Prop where
  st : OSt L g S
  kn : k ≤ g.n
  size : g.w0.heap.size ≤ w.heap.size
  base : ∀ b, b < g.w0.heap.size → o b = none
  old : ∀ b, b < g.w0.heap.size → ¬ g.sh b → b ≠ g.A → w.heap[b]? = g.w0.heap[b]?
  prl : ∀ b i, pr b = some i → g.w0.heap.size ≤ b ∧ b < w.heap.size ∧ o b = none ∧ ¬ L.sh y b
  shl : ∀ b, L.sh y b → o b = none ∧ b ≠ g.A ∧ b < w.heap.size ∧ (b < g.w0.heap.size → g.sh b)
  I : L.I y x.s w
  an : ∃ arr : Array Value, w.heap[g.A]? = some (.cells arr 44) ∧ arr.size = g.n ∧ ∀ i, i < g.n → arr[i]? = some (hd i)
  row : ∀ i, i < g.n → RowA g.w0.heap.size (fun b => pr b = some i) (hd i) (x.th i).ans w
  cont : ∀ i, i < k → i < g.n → x.out i = none → (x.th i).d.isSome = true ∧ cs i ≠ [] ∧ (∀ f ∈ cs i, Plain f) ∧ Cont L g S i (1048577 - x.cnt) (x.th i) (cs i) y (hd i) (fun b => pr b = some i) w
  fresh : ∀ i, k ≤ i → i < g.n → x.th i = t0 L
def invO (L : La) (g : OG) (S : Stile) (yb : L.Gh) (k : Nat) (o : Nat → Option Role) (x : OX L) (cs : Nat → List Frame) (w : World) : Prop := ∃ pr hd y, L.le yb y ∧ OInv L g S k o x cs w pr hd y
theorem cell_lt' {w : World} {b i : Nat} {v : Value} (h : w.cell? ⟨b, i, none⟩ = some v) : b < w.heap.size := by
  unfold World.cell? at h
  split at h
  · rename_i h'; exact (Array.getElem?_eq_some_iff.1 h').1
  · cases h
section
variable {L : La} {g : OG} {S : Stile} {k : Nat} {o o' : Nat → Option Role} {x : OX L} {cs : Nat → List Frame} {w w' : World} {pr : Nat → Option Nat} {hd : Nat → Value} {y yb : L.Gh}
theorem OInv.cell (P : OInv L g S k o x cs w pr hd y) {b i : Nat} {v : Value} (h : g.w0.cell? ⟨b, i, none⟩ = some v) (hs : ¬ g.sh b) (hA : b ≠ g.A) : w.cell? ⟨b, i, none⟩ = some v :=
  (World.cell?_of_block (a := ⟨b, i, none⟩) (P.old b (cell_lt' h) hs hA)).trans h
theorem invO_keep (h : invO L g S yb k o x cs w) (K : Keeps o o' w w') : invO L g S yb k o' x cs w' := by
  obtain ⟨pr, hd, y, hy, P⟩ := h
  have hb : ∀ b, b < g.w0.heap.size → o' b = none ∧ w'.heap[b]? = w.heap[b]? := fun b h => K.same b (Nat.lt_of_lt_of_le h P.size) (P.base b h)
  have hp : ∀ b i, pr b = some i → o' b = none ∧ w'.heap[b]? = w.heap[b]? := fun b i h => K.same b (P.prl b i h).2.1 (P.prl b i h).2.2.1
  have hsh : ∀ b, L.sh y b → o' b = none ∧ w'.heap[b]? = w.heap[b]? := fun b h => K.same b (P.shl b h).2.2.1 (P.shl b h).1
  refine ⟨pr, hd, y, hy, ⟨P.st, P.kn, Nat.le_trans P.size K.size, fun b h => (hb b h).1, fun b h h1 h2 => (hb b h).2.trans (P.old b h h1 h2), fun b i h => ⟨(P.prl b i h).1, Nat.lt_of_lt_of_le (P.prl b i h).2.1 K.size, (hp b i h).1, (P.prl b i h).2.2.2⟩, fun b h => ⟨(hsh b h).1, (P.shl b h).2.1, Nat.lt_of_lt_of_le (P.shl b h).2.2.1 K.size, (P.shl b h).2.2.2⟩, L.stable P.I fun b h => (hsh b h).2, ?_, fun i hi => (P.row i hi).same fun b e => (hp b i e).2, fun i hi hin ho => ?_, P.fresh⟩⟩
  · obtain ⟨arr, ha, hz, hr⟩ := P.an
    exact ⟨arr, (hb _ P.st.alo).2.trans ha, hz, hr⟩
  · obtain ⟨h1, h2, h3, h4⟩ := P.cont i hi hin ho
    exact ⟨h1, h2, h3, h4.keep (L.refl _) K.size fun b e => (hp b i e).2⟩
theorem OInv.rely (P : OInv L g S k o x cs w pr hd y) {V : Nat → Option Wait} {i : Nat} (hi : i < g.n) (hA : ∀ b, o b = none → Apart V b) (hlt : ∀ b r, o b = some r → b < w.heap.size) : Rely L g i V y w (hd i) (fun b => pr b = some i) := by
  refine ⟨P.size, P.old, ?_, fun b e => ⟨(P.prl b i e).1, (P.prl b i e).2.1, (P.prl b i e).2.2.2⟩, fun b e => hA b ?_, fun b h => (P.shl b h).2, P.st.alo, (P.row i hi).hdo⟩
  · obtain ⟨arr, ha, hz, hr⟩ := P.an
    exact ⟨arr, ha, hr i hi⟩
  · rcases e with e | e | e | e
    · exact P.base b e
    · exact (P.prl b i e).2.2.1
    · cases ho : o b with
      | none => rfl
      | some r => have := hlt b r ho; omega
    · exact (P.shl b e).1
theorem fin_of_stop {V : Nat → Option Wait} {f : Frame} {fs : List Frame} {i k' cnt' : Nat} {r : L.Sg × Tst L} {g' : Goroutine} (hy : L.le yb y) (P : OInv L g S k o x cs w pr hd y) (hi : i < g.n) (hik : i < k') (hkk : ∀ j, j < k' → j ≠ i → j < k) (hkf : k ≤ k') (hkn : k' ≤ g.n) (hc : x.cnt ≤ cnt')
    (hlt : ∀ b r, o b = some r → b < w.heap.size) (hS : StopT L g S i (Cont L g S i (1048577 - cnt')) ⟨V, f, fs, w, y, fun b => pr b = some i, r⟩ g' w') : Fin (invO L g S yb) OX.out S k' o (putO x i r cnt') cs i f fs w g' w' := by
  obtain ⟨y', hyy, hsz, hfr, hI, hpub, hd', ⟨arr, arr', ha, ha', hasz, hai, haj⟩, hrow, hend⟩ := hS
  dsimp only at hyy hsz hfr hI hpub hrow hend ha ha' hasz hai haj
  let new : Nat → Option Nat := fun b => if w.heap.size ≤ b ∧ b < w'.heap.size then some i else pr b
  obtain ⟨pr', hpr1, hpr2⟩ : ∃ pr' : Nat → Option Nat, (∀ b, L.sh y' b → pr' b = none) ∧ ∀ b, ¬ L.sh y' b → pr' b = new b := ⟨fun b => @ite _ (L.sh y' b) (Classical.propDecidable _) none (new b), fun b h => if_pos h, fun b h => if_neg h⟩
  have hMi : (fun b => pr' b = some i) = ownT (⟨V, f, fs, w, y, fun b => pr b = some i, r⟩ : Tn L) y' w' := by
    funext b
    refine propext ⟨fun h => ?_, fun h => ?_⟩
    · have hs : ¬ L.sh y' b := fun hs => by
        have h : pr' b = some i := h
        rw [hpr1 b hs] at h; cases h
      refine ⟨?_, hs⟩
      have h : pr' b = some i := h
      rw [hpr2 b hs] at h
      by_cases e : w.heap.size ≤ b ∧ b < w'.heap.size
      · exact .inr e
      · have h : (if w.heap.size ≤ b ∧ b < w'.heap.size then some i else pr b) = some i := h
        rw [if_neg e] at h
        exact .inl h
    · show pr' b = some i
      rw [hpr2 b h.2]
      show (if w.heap.size ≤ b ∧ b < w'.heap.size then some i else pr b) = some i
      rcases h.1 with h | h
      · split
        · rfl
        · exact h
      · rw [if_pos h]
  have hMj : ∀ j, j ≠ i → ∀ b, pr' b = some j ↔ pr b = some j := fun j hj b => by
    by_cases hs : L.sh y' b
    · rw [hpr1 b hs]
      refine ⟨fun h => (by cases h), fun h => ?_⟩
      have h1 := P.prl b j h
      rcases hpub b hs with h2 | h2 | h2
      · exact absurd h2 h1.2.2.2
      · rw [h] at h2; exact absurd (Option.some.inj h2) hj
      · omega
    · rw [hpr2 b hs]
      show (if w.heap.size ≤ b ∧ b < w'.heap.size then some i else pr b) = some j ↔ pr b = some j
      by_cases e : w.heap.size ≤ b ∧ b < w'.heap.size
      · rw [if_pos e]
        refine ⟨fun h => absurd (Option.some.inj h).symm hj, fun h => ?_⟩
        have := (P.prl b j h).2.1
        omega
      · rw [if_neg e]
  have hother : ∀ j b, j ≠ i → pr b = some j → w'.heap[b]? = w.heap[b]? := fun j b hj h => by
    have h1 := P.prl b j h
    refine hfr b h1.2.1 (fun e => hj ?_) h1.2.2.2 (fun e => ?_)
    · rw [h] at e; exact Option.some.inj e
    · have := P.st.alo; omega
  have hown : ∀ b, (pr b = some i ∨ (w.heap.size ≤ b ∧ b < w'.heap.size)) → g.w0.heap.size ≤ b ∧ b < w'.heap.size ∧ o b = none := fun b h => by
    rcases h with h | h
    · have := P.prl b i h
      exact ⟨this.1, by omega, this.2.2.1⟩
    · refine ⟨Nat.le_trans P.size h.1, h.2, ?_⟩
      cases ho : o b with
      | none => rfl
      | some z => have := hlt b z ho; have h1 : w.heap.size ≤ b := h.1; omega
  have harr : arr.size = arr'.size := hasz.symm
  obtain ⟨arr0, ha0, hz0, hr0⟩ := P.an
  rw [ha] at ha0
  have harr0 : arr0 = arr := by cases ha0; rfl
  subst harr0
  have hth : ∀ j, j ≠ i → (putO x i r cnt').th j = x.th j := fun j hj => upd_ne _ _ hj
  have hthi : (putO x i r cnt').th i = r.2 := upd_same _ _ _
  have hinv : ∀ l, (r.2.d.isSome = true → l ≠ [] ∧ (∀ f ∈ l, Plain f) ∧ Cont L g S i (1048577 - cnt') r.2 l y' hd' (fun b => pr' b = some i) w') → invO L g S yb k' o (putO x i r cnt') (upd cs i l) w' := fun l hl => by
    refine ⟨pr', upd hd i hd', y', L.trans hy hyy, ⟨P.st, hkn, Nat.le_trans P.size hsz, P.base, fun b hb h1 h2 => (hfr b (Nat.lt_of_lt_of_le hb P.size) (fun e => by have := (P.prl b i e).1; omega) (fun e => h1 ((P.shl b e).2.2.2 hb)) h2).trans (P.old b hb h1 h2), fun b j h => ?_, fun b h => ?_, hI, ⟨arr', ha', by rw [hasz]; exact hz0, fun j hj => ?_⟩, fun j hj => ?_, fun j hj hjn ho => ?_, fun j hj hjn => ?_⟩⟩
    · have hs : ¬ L.sh y' b := fun hs => by rw [hpr1 b hs] at h; cases h
      by_cases e : j = i
      · subst e
        have h0 : ownT (⟨V, f, fs, w, y, fun b => pr b = some j, r⟩ : Tn L) y' w' b := by rw [← hMi]; exact h
        have h1 := hown b h0.1
        exact ⟨h1.1, h1.2.1, h1.2.2, hs⟩
      · have := P.prl b j ((hMj j e b).1 h)
        exact ⟨this.1, by omega, this.2.2.1, hs⟩
    · have hl' := L.lt hI h
      rcases hpub b h with h1 | h1 | h1
      · have := P.shl b h1
        exact ⟨this.1, this.2.1, hl', this.2.2.2⟩
      · have h2 := hown b (.inl h1)
        exact ⟨h2.2.2, fun e => (by have := P.st.alo; omega), hl', fun e => (by omega)⟩
      · have h2 := hown b (.inr ⟨h1, hl'⟩)
        exact ⟨h2.2.2, fun e => (by have := P.st.alo; omega), hl', fun e => (by omega)⟩
    · by_cases e : j = i
      · subst e; rw [upd_same]; exact hai
      · rw [upd_ne _ _ e, haj j e]; exact hr0 j hj
    · by_cases e : j = i
      · subst e; rw [upd_same, hthi, hMi]; exact hrow
      · rw [upd_ne _ _ e, hth j e]
        have hM : (fun b => pr' b = some j) = (fun b => pr b = some j) := funext fun b => propext (hMj j e b)
        rw [hM]
        exact (P.row j hj).same fun b hb => hother j b e hb
    · by_cases e : j = i
      · subst e
        rw [hthi, upd_same, upd_same]
        have ho : upd x.out j (match r.2.d with | none => some false | some _ => none) j = none := ho
        rw [upd_same] at ho
        have hs : r.2.d.isSome = true := by
          cases hd : r.2.d with
          | none => rw [hd] at ho; cases ho
          | some d => rfl
        exact ⟨hs, hl hs⟩
      · have ho : upd x.out i (match r.2.d with | none => some false | some _ => none) j = none := ho
        rw [upd_ne _ _ e] at ho
        rw [hth j e, upd_ne _ _ e, upd_ne _ _ e]
        obtain ⟨h1, h2, h3, h4⟩ := P.cont j (hkk j hj e) hjn ho
        refine ⟨h1, h2, h3, ?_⟩
        have hM : (fun b => pr' b = some j) = (fun b => pr b = some j) := funext fun b => propext (hMj j e b)
        rw [hM]
        refine (h4.le (Nat.sub_le_sub_left hc _)).keep hyy hsz fun b hb => hother j b e hb
    · have e : j ≠ i := by omega
      rw [hth j e]
      exact P.fresh j (by omega) hjn
  refine ⟨hsz, fun b z hb => hfr b (hlt b z hb) (fun e => by rw [(P.prl b i e).2.2.1] at hb; cases hb) (fun e => by rw [(P.shl b e).1] at hb; cases hb) (fun e => by rw [P.base b (e ▸ P.st.alo)] at hb; cases hb), ?_⟩
  have hout : (putO x i r cnt').out i = match r.2.d with | none => some false | some _ => none := upd_same _ _ _
  rcases hend with ⟨h1, rfl⟩ | ⟨l, h1, h2, h3, h4, rfl⟩
  · refine ⟨[], hinv [] (fun h => by rw [h1] at h; cases h), .inr (.inl ⟨?_, rfl⟩)⟩
    show (putO x i r cnt').out i = some false
    rw [hout, h1]
  · refine ⟨l, hinv l (fun _ => ⟨h2, h3, by rw [hMi]; exact h4⟩), .inl ⟨?_, rfl⟩⟩
    show (putO x i r cnt').out i = none
    rw [hout]
    cases hd : r.2.d with
    | none => rw [hd] at h1; cases h1
    | some d => rfl
theorem goO {V : Nat → Option Wait} {i : Nat} {c : Frame} {l : List Frame} (f : Frame) (fs : List Frame) (h : invO L g S yb k o x cs w) (hik : i < k) (hout : x.out i = none) (hcs : cs i = c :: l) (hc : x.cnt < 1048576) (hA : ∀ b, o b = none → Apart V b) (hlt : ∀ b r, o b = some r → b < w.heap.size) :
    Walk Try.prog false (DR V) (Fin (invO L g S yb) OX.out S k o (nextO x i) cs i f fs w) (G (c.finish (.tuple #[])) (l ++ f :: fs)) w := by
  obtain ⟨pr, hd, y, hy, P⟩ := h
  have hi : i < g.n := Nat.lt_of_lt_of_le hik P.kn
  obtain ⟨h1, h2, h3, h4⟩ := P.cont i hik hi hout
  obtain ⟨d, hdd⟩ := Option.isSome_iff_exists.1 h1
  rw [show 1048577 - x.cnt = (1048577 - (x.cnt + 1)) + 1 from by omega] at h4
  have hn : nextO x i = putO x i (landO L (i : Nat) (L.act x.s d) (x.th i).left (x.th i).ans) (x.cnt + 1) := by
    unfold nextO; rw [hdd]
  rw [hn]
  exact (h4 V f fs y w x.s c l d (L.refl _) (Nat.le_refl _) (fun _ _ => rfl) (P.rely hi hA hlt) P.I hdd hcs).mono fun g' w' hS => fin_of_stop hy P hi hik (fun j hj _ => hj) (Nat.le_refl _) P.kn (Nat.le_succ _) hlt hS
theorem invO_shape {i : Nat} (h : invO L g S yb k o x cs w) (hik : i < k) (hout : x.out i = none) : (∃ c l, cs i = c :: l) ∧ ∀ f ∈ cs i, Plain f := by
  obtain ⟨pr, hd, y, hy, P⟩ := h
  obtain ⟨h1, h2, h3, h4⟩ := P.cont i hik (Nat.lt_of_lt_of_le hik P.kn) hout
  refine ⟨?_, h3⟩
  cases hc : cs i with
  | nil => exact absurd hc h2
  | cons c l => exact ⟨c, l, rfl⟩
theorem invO_thr {i : Nat} (h : invO L g S yb k o x cs w) (hi : i < S.n) : w.cell? ⟨S.tb, i, none⟩ = some (S.F i) := by
  obtain ⟨pr, hd, y, hy, P⟩ := h
  exact P.cell (P.st.tb i (P.st.n ▸ hi)) P.st.tbs.1 P.st.tbs.2
theorem invO_sch {j : Nat} {z : Int} (h : invO L g S yb k o x cs w) (hz : S.sl[j]? = some z) : ∃ s so, S.sa = some ⟨s, so, none⟩ ∧ w.cell? ⟨s, so + j, none⟩ = some (.int .i64 z) := by
  obtain ⟨pr, hd, y, hy, P⟩ := h
  obtain ⟨s, so, e, hc, h1, h2⟩ := P.st.sch j z hz
  exact ⟨s, so, e, P.cell hc h1 h2⟩
end
end
section
noncomputable def reg101_0 := rg Try.f101.body [0]
noncomputable def reg101_1 := rg Try.f101.body [1, 0]
theorem z101 : List.range reg101_0.size = [0, 1] ∧ List.range reg101_1.size = [0, 1] := by refine ⟨?_, ?_⟩ <;> kernel_rfl
theorem code101_is : Try.f101.body = some (.seq (.region 0 reg101_0 false) (.cond (.tmp 3 ) (.region 1 reg101_1 false) (.skip))) := by kernel_rfl
theorem undStepper : ∃ ms, Try.prog.underlying 134 = some (.interface ms) := by
  have h : (match Try.prog.underlying 134 with | some (.interface _) => true | _ => false) = true := by kernel_rfl
  revert h
  cases Try.prog.underlying 134 with
  | none => simp
  | some d =>
    cases d with
    | interface fs => exact fun _ => ⟨fs, rfl⟩
    | _ => simp
structure EC (L : La) (g : OG) (S : Stile) (i : Nat) where
  τ : Tn L
  N : Nat
  w : World
  y : L.Gh
  s : L.Sg
  ans : List Ans
  hd : Value
  le : L.le τ.y y
  size : τ.w.heap.size ≤ w.heap.size
  frame : ∀ b, b < τ.w.heap.size → ¬ τ.M b → ¬ L.sh τ.y b → b ≠ g.A → w.heap[b]? = τ.w.heap[b]?
  pub : ∀ b, L.sh y b → L.sh τ.y b ∨ τ.M b ∨ τ.w.heap.size ≤ b
  rely : ∃ hd0, Rely L g i τ.V τ.y τ.w hd0 τ.M
  an : AnT g i τ.w w hd
  row : RowA g.w0.heap.size (ownT τ y w) hd ans w
  inv : L.I y s w
structure OC where
  left : List OpV
  ans : List Ans
  hd : Value
  K : Nat → Prop
  wK : World
structure EO (L : La) (g : OG) (S : Stile) (i : Nat) (c : OC) extends EC L g S i where
  tgt : L.Sg × (Ans ⊕ L.D)
  eqA : ans = c.ans
  eqH : hd = c.hd
  goal : τ.goal = landO L (i : Nat) tgt c.left ans
  Kown : ∀ b, c.K b → ownT τ y w b
  kept : ∀ b, c.K b → w.heap[b]? = c.wK.heap[b]?
  rowK : RowA g.w0.heap.size c.K hd ans w
section
variable {L : La} {g : OG} {S : Stile} {i : Nat} {c : OC}
theorem EC.lo (e : EC L g S i) {b : Nat} (h : ownT e.τ e.y e.w b) : g.w0.heap.size ≤ b ∧ b < e.w.heap.size := by
  obtain ⟨hd0, r⟩ := e.rely
  have := e.size
  rcases h.1 with h | h
  · have := r.lo b h; omega
  · have := r.size; omega
theorem EC.noA (e : EC L g S i) {b : Nat} (h : ownT e.τ e.y e.w b) : ¬ L.sh e.y b ∧ b ≠ g.A := by
  obtain ⟨hd0, r⟩ := e.rely
  have h1 := e.lo h
  exact ⟨h.2, fun h => by have := r.alo; omega⟩
theorem EC.shb (e : EC L g S i) {b : Nat} (h : L.sh e.y b) : b ≠ g.A ∧ (b < g.w0.heap.size → g.sh b) := by
  obtain ⟨hd0, r⟩ := e.rely
  rcases e.pub b h with h | h | h
  · exact ⟨(r.shlo b h).1, (r.shlo b h).2.2⟩
  · have := r.lo b h; have := r.alo; exact ⟨by omega, fun _ => by omega⟩
  · have := r.alo; have := r.size; exact ⟨by omega, fun _ => by omega⟩
theorem EC.apart (e : EC L g S i) {b : Nat} (h : b < g.w0.heap.size ∨ ownT e.τ e.y e.w b ∨ e.w.heap.size ≤ b ∨ L.sh e.y b) : Apart e.τ.V b := by
  obtain ⟨hd0, r⟩ := e.rely
  have := e.size
  refine r.apart b ?_
  rcases h with h | h | h | h
  · exact .inl h
  · rcases h.1 with h | h
    · exact .inr (.inl h)
    · exact .inr (.inr (.inl h.1))
  · exact .inr (.inr (.inl (by omega)))
  · rcases e.pub b h with h | h | h
    · exact .inr (.inr (.inr h))
    · exact .inr (.inl h)
    · exact .inr (.inr (.inl h))
theorem EC.hdo (e : EC L g S i) : ∀ b, e.hd.ownBlock = some b → ownT e.τ e.y e.w b := e.row.hdo
def crewB (L : La) (g : OG) (S : Stile) (i : Nat) (c : OC) : Lb L where
  main := false
  E := EO L g S i c
  V := fun e => e.τ.V
  Stop := fun e => StopT L g S i (Cont L g S i e.N) e.τ
  bot := fun e => e.τ.f :: e.τ.fs
  w := fun e => e.w
  s := fun e => e.s
  gh := fun e => e.y
  tgt := fun e => e.tgt
  fuel := fun e => e.N
  mine := fun e b => ownT e.τ e.y e.w b ∧ ¬ c.K b
theorem EO.mg (e : EO L g S i c) (y' : L.Gh) (s' : L.Sg) (w' : World) (hle : L.le e.y y') (hs : e.w.heap.size ≤ w'.heap.size) (hsame : ∀ b, b < e.w.heap.size → ¬ (ownT e.τ e.y e.w b ∧ ¬ c.K b) → ¬ L.sh e.y b → w'.heap[b]? = e.w.heap[b]?) (hI : L.I y' s' w')
    (hpub : ∀ b, L.sh y' b → L.sh e.y b ∨ (ownT e.τ e.y e.w b ∧ ¬ c.K b) ∨ e.w.heap.size ≤ b) : ∃ e' : EO L g S i c, Mg (crewB L g S i c) e e' y' s' w' := by
  obtain ⟨hd0, r⟩ := e.rely
  have hK : ∀ b, c.K b → w'.heap[b]? = e.w.heap[b]? := fun b h => hsame b (e.lo (e.Kown b h)).2 (fun x => x.2 h) (e.noA (e.Kown b h)).1
  have hA : w'.heap[g.A]? = e.w.heap[g.A]? := hsame _ (by have := r.alo; have := r.size; have := e.size; omega) (fun x => by have := (e.lo x.1).1; have := r.alo; omega) (fun h => (e.shb h).1 rfl)
  have hKn : ∀ b, c.K b → ¬ L.sh y' b := fun b h hs => by
    rcases hpub b hs with h1 | h1 | h1
    · exact (e.noA (e.Kown b h)).1 h1
    · exact h1.2 h
    · have := (e.lo (e.Kown b h)).2; omega
  have hown : ∀ b, ownT e.τ e.y e.w b → ¬ L.sh y' b → ownT e.τ y' w' b := fun b h hn => ⟨h.1.imp id fun h => ⟨h.1, by omega⟩, hn⟩
  have hKo : ∀ b, c.K b → ownT e.τ y' w' b := fun b h => hown b (e.Kown b h) (hKn b h)
  refine ⟨{ τ := e.τ, N := e.N, w := w', y := y', s := s', ans := e.ans, hd := e.hd, le := L.trans e.le hle, size := Nat.le_trans e.size hs, frame := fun b h1 h2 h3 h4 => ?_, pub := fun b h => ?_, rely := e.rely, an := ?_, row := (e.rowK.same hK).imp hKo, inv := hI, tgt := e.tgt, eqA := e.eqA, eqH := e.eqH, goal := e.goal, Kown := hKo, kept := fun b h => (hK b h).trans (e.kept b h), rowK := e.rowK.same hK }, ⟨rfl, rfl, rfl, rfl, rfl, rfl, rfl, rfl, fun b => ?_⟩⟩
  · refine (hsame b (Nat.lt_of_lt_of_le h1 e.size) (fun x => ?_) (fun x => ?_)).trans (e.frame b h1 h2 h3 h4)
    · rcases x.1.1 with h | h
      · exact h2 h
      · have := h.1; omega
    · rcases e.pub b x with h | h | h
      · exact h3 h
      · exact h2 h
      · omega
  · rcases hpub b h with h | h | h
    · exact e.pub b h
    · rcases h.1.1 with h | h
      · exact .inr (.inl h)
      · exact .inr (.inr h.1)
    · exact .inr (.inr (Nat.le_trans e.size h))
  · obtain ⟨arr, arr', h1, h2, h3⟩ := e.an
    exact ⟨arr, arr', h1, hA.trans h2, h3⟩
  · show (ownT e.τ y' w' b ∧ ¬ c.K b) ↔ ((ownT e.τ e.y e.w b ∧ ¬ c.K b) ∨ (e.w.heap.size ≤ b ∧ b < w'.heap.size)) ∧ ¬ L.sh y' b
    constructor
    · rintro ⟨⟨h | h, hn⟩, hk⟩
      · exact ⟨.inl ⟨⟨.inl h, fun hs => hn (L.mono hle hs)⟩, hk⟩, hn⟩
      · refine ⟨?_, hn⟩
        by_cases hb : b < e.w.heap.size
        · exact .inl ⟨⟨.inr ⟨h.1, hb⟩, fun hs => hn (L.mono hle hs)⟩, hk⟩
        · exact .inr ⟨by omega, h.2⟩
    · rintro ⟨⟨h, hk⟩ | h, hn⟩
      · exact ⟨hown b h hn, hk⟩
      · exact ⟨⟨.inr ⟨Nat.le_trans e.size h.1, h.2⟩, hn⟩, fun hk => by have := (e.lo (e.Kown b hk)).2; omega⟩
theorem EO.step (e : EO L g S i c) (d : L.D) (ht : e.tgt = (e.s, .inr d)) (fr : Frame) (l : List Frame) (hp : Plain fr) (hl : ∀ f ∈ l, Plain f) (hk : ∀ e' : EO L g S i c, Aft (crewB L g S i c) e d e' → LW (crewB L g S i c) e' (G (fr.finish (.tuple #[])) (l ++ e'.τ.f :: e'.τ.fs))) :
    LW (crewB L g S i c) e (G (Frame.enter Try.prog 101 #[.iface 224 (.pointer (some ⟨S.p i, 0, none⟩))] .normal) (fr :: (l ++ e.τ.f :: e.τ.fs))) := by
  obtain ⟨ms, hu⟩ := undStepper
  have hn1 := fun w => run_neq_iface (P := Try.prog) (w := w) 134 224 (.pointer (some ⟨S.p i, 0, none⟩)) hu
  have hn2 := fun w es => ev_neq_iface (P := Try.prog) (w := w) 134 224 (.pointer (some ⟨S.p i, 0, none⟩)) es hu
  unfold LW
  show Walk Try.prog false (DR e.τ.V) (StopT L g S i (Cont L g S i e.N) e.τ) _ e.w
  rw [enter_at _ Try.func101 code101_is]
  simp only [Try.ntmps101, ez, Nat.reduceAdd, Nat.reduceSub]
  repeat (first | refine Walk.cx ?_ | (refine Walk.cReg ?_; simp only [z101]) | (refine Walk.oq ?_; try walk_nrm) | (refine Walk.un ?_; walk_nrm))
  refine Walk.invokeStep (S.p i) (ho_of (by conv => lhs; whnf) (by kernel_rfl)) (by rfl) (by decide) rfl rfl ?_
  generalize hX : Frame.at _ _ _ = X
  have hgoal : e.τ.goal = (e.s, ⟨c.left, some d, e.ans⟩) := by rw [e.goal, ht]; rfl
  refine .stop fun dr => ⟨e.y, e.le, e.size, e.frame, ?_, e.pub, e.hd, e.an, ?_, .inr ⟨X :: fr :: l, ?_, by simp, ?_, ?_, rfl⟩⟩
  · rw [hgoal]; exact L.stable e.inv fun _ _ => rfl
  · rw [hgoal]; exact e.row.same fun _ _ => rfl
  · rw [hgoal]; rfl
  · intro x hx
    rcases List.mem_cons.1 hx with rfl | hx
    · subst hX; exact ⟨rfl, rfl, _, Try.func101⟩
    · rcases List.mem_cons.1 hx with rfl | hx
      · exact hp
      · exact hl x hx
  · rw [hgoal]
    have hN : ∀ N', e.N = N' → Cont L g S i N' ⟨c.left, some d, e.ans⟩ (X :: fr :: l) e.y e.hd (ownT e.τ e.y (e.w.at dr)) (e.w.at dr) := fun N' hN' => by
      cases N' with
      | zero => trivial
      | succ n =>
        intro V f fs y' w' s' c1 l' d' h0 h1 h2 h3 h4 h5 h6
        obtain rfl : d = d' := Option.some.inj h5
        obtain ⟨rfl, rfl⟩ := List.cons.inj h6
        rw [← hX, Frame.finish_at]
        repeat (first | (refine Walk.oq ?_; try walk_nrm) | (refine Walk.un ?_; walk_nrm))
        repeat (first | refine Walk.cx ?_ | (refine Walk.cReg ?_; simp only [z101]) | (refine Walk.oq ?_; try walk_nrm) | (refine Walk.un ?_; walk_nrm))
        refine Walk.on0 rfl rfl Try.func101 rfl ?_
        have hKo : ∀ b, c.K b → ownT (⟨V, f, fs, w', y', ownT e.τ e.y e.w, landO L (i : Nat) (L.act s' d) c.left e.ans⟩ : Tn L) y' w' b := fun b h => ⟨.inl (e.Kown b h), (h3.lo b (e.Kown b h)).2.2⟩
        have hKs : ∀ b, c.K b → w'.heap[b]? = e.w.heap[b]? := fun b h => h2 b (e.Kown b h)
        refine hk { τ := ⟨V, f, fs, w', y', ownT e.τ e.y e.w, landO L (i : Nat) (L.act s' d) c.left e.ans⟩, N := n, w := w', y := y', s := s', ans := e.ans, hd := e.hd, le := L.refl _, size := Nat.le_refl _, frame := fun _ _ _ _ _ => rfl, pub := fun b h => .inl h, rely := ⟨e.hd, h3⟩, an := ?_, row := (e.rowK.same hKs).imp hKo, inv := h4, tgt := L.act s' d, eqA := e.eqA, eqH := e.eqH, goal := rfl, Kown := hKo, kept := fun b h => (hKs b h).trans (e.kept b h), rowK := e.rowK.same hKs } ⟨rfl, ?_, h0, h1, fun b hb => ⟨⟨⟨.inl hb.1, (h3.lo b hb.1).2.2⟩, hb.2⟩, h2 b hb.1⟩⟩
        · obtain ⟨arr, ha, hb⟩ := h3.an
          exact ⟨arr, arr, ha, ha, rfl, hb, fun _ _ => rfl⟩
        · show n < e.N
          omega
    exact hN e.N rfl
def crewL (L : La) (g : OG) (S : Stile) (i : Nat) (c : OC) : Lg L (.iface 224 (.pointer (some ⟨S.p i, 0, none⟩))) where
  toLb := crewB L g S i c
  one := rfl
  inv := fun e => e.inv
  shA := fun e b h => e.apart (.inr (.inr (.inr h)))
  mineA := fun e b h => ⟨e.apart (.inr (.inl h.1)), (e.noA h.1).1, (e.lo h.1).2⟩
  newA := fun e b h => e.apart (.inr (.inr (.inl h)))
  mg := fun e y' s' w' h0 h1 h2 h3 h4 => EO.mg e y' s' w' h0 h1 h2 h3 h4
  step := fun e d ht fr l hp hl hk => EO.step e d ht fr l hp hl hk
end
end
section
def runN (L : La) : Nat → L.Sg × (Ans ⊕ L.D) → Option (L.Sg × Ans)
  | _, (s, .inl a) => some (s, a)
  | 0, (_, .inr _) => none
  | n + 1, (s, .inr d) => runN L n (L.act s d)
theorem runN_inl (L : La) (n : Nat) (s : L.Sg) (a : Ans) : runN L n (s, .inl a) = some (s, a) := by cases n <;> rfl
theorem undStepperN : ∃ ms, Try.prog.underlying 134 = some (.interface ms) := by
  have h : (match Try.prog.underlying 134 with | some (.interface _) => true | _ => false) = true := by kernel_rfl
  revert h
  cases Try.prog.underlying 134 with
  | none => simp
  | some d =>
    cases d with
    | interface fs => exact fun _ => ⟨fs, rfl⟩
    | _ => simp
structure NilE (L : La) (y0 : L.Gh) (base : World) (R : L.Sg × Ans) where
  w : World
  y : L.Gh
  s : L.Sg
  tgt : L.Sg × (Ans ⊕ L.D)
  fuel : Nat
  le : L.le y0 y
  inv : L.I y s w
  size : base.heap.size ≤ w.heap.size
  old : ∀ b, b < base.heap.size → ¬ L.sh y0 b → w.heap[b]? = base.heap[b]?
  pub : ∀ b, L.sh y b → b < base.heap.size → L.sh y0 b
  run : runN L fuel tgt = some R
section
variable {L : La} {main : Bool} {V : Nat → Option Wait} {Stop : Goroutine → World → Prop} {cs : List Frame} {y0 : L.Gh} {base : World} {R : L.Sg × Ans}
def nilB (main : Bool) (V : Nat → Option Wait) (Stop : Goroutine → World → Prop) (cs : List Frame) (y0 : L.Gh) (base : World) (R : L.Sg × Ans) : Lb L where
  main := main
  E := NilE L y0 base R
  V := fun _ => V
  Stop := fun _ => Stop
  bot := fun _ => cs
  w := fun e => e.w
  s := fun e => e.s
  gh := fun e => e.y
  tgt := fun e => e.tgt
  fuel := fun e => e.fuel
  mine := fun e b => (base.heap.size ≤ b ∧ b < e.w.heap.size) ∧ ¬ L.sh e.y b
theorem nil_step (e : NilE L y0 base R) (d : L.D) (ht : e.tgt = (e.s, .inr d)) (fr : Frame) (l : List Frame) (hk : ∀ e' : NilE L y0 base R, Aft (nilB main V Stop cs y0 base R) e d e' → LW (nilB main V Stop cs y0 base R) e' (G (fr.finish (.tuple #[])) (l ++ cs))) :
    LW (nilB main V Stop cs y0 base R) e (G (Frame.enter Try.prog 101 #[.nilIface] .normal) (fr :: (l ++ cs))) := by
  obtain ⟨ms, hu⟩ := undStepperN
  have hn1 := fun w => run_neq_nilIface (P := Try.prog) (w := w) 134 hu
  have hn2 := fun w es => ev_neq_nilIface (P := Try.prog) (w := w) 134 es hu
  obtain ⟨n, hn, hr⟩ : ∃ n, e.fuel = n + 1 ∧ runN L n (L.act e.s d) = some R := by
    have h := e.run
    rw [ht] at h
    cases hf : e.fuel with
    | zero => rw [hf] at h; cases h
    | succ n => rw [hf] at h; exact ⟨n, rfl, h⟩
  have hh := hk { w := e.w, y := e.y, s := e.s, tgt := L.act e.s d, fuel := n, le := e.le, inv := e.inv, size := e.size, old := e.old, pub := e.pub, run := hr } ⟨rfl, show n < e.fuel by omega, L.refl _, Nat.le_refl _, fun b h => ⟨h, rfl⟩⟩
  unfold LW at hh ⊢
  show Walk Try.prog main (DR V) Stop _ e.w
  replace hh : Walk Try.prog main (DR V) Stop (G (fr.finish (.tuple #[])) (l ++ cs)) e.w := hh
  rw [enter_at _ Try.func101 code101_is]
  simp only [Try.ntmps101, ez, Nat.reduceAdd, Nat.reduceSub]
  repeat (first | refine Walk.cx ?_ | (refine Walk.cReg ?_; simp only [z101]) | (refine Walk.oq ?_; try walk_nrm) | (refine Walk.un ?_; walk_nrm))
  exact Walk.on0 rfl rfl Try.func101 rfl hh
theorem nil_mine {y0 y' : L.Gh} {base : World} {e : NilE L y0 base R} {w' : World} {b : Nat} (hle : L.le e.y y') (hs : e.w.heap.size ≤ w'.heap.size) : ((base.heap.size ≤ b ∧ b < w'.heap.size) ∧ ¬ L.sh y' b) ↔ ((((base.heap.size ≤ b ∧ b < e.w.heap.size) ∧ ¬ L.sh e.y b) ∨ (e.w.heap.size ≤ b ∧ b < w'.heap.size)) ∧ ¬ L.sh y' b) := by
  have := e.size
  constructor
  · rintro ⟨⟨a, b'⟩, hn⟩
    refine ⟨?_, hn⟩
    by_cases hb : b < e.w.heap.size
    · exact .inl ⟨⟨a, hb⟩, fun h => hn (L.mono hle h)⟩
    · exact .inr ⟨by omega, b'⟩
  · rintro ⟨⟨⟨a, b'⟩, _⟩ | ⟨a, b'⟩, hn⟩
    · exact ⟨⟨a, by omega⟩, hn⟩
    · exact ⟨⟨by omega, b'⟩, hn⟩
def nilL (hA : ∀ b, Apart V b) (main : Bool) (Stop : Goroutine → World → Prop) (cs : List Frame) (y0 : L.Gh) (base : World) (R : L.Sg × Ans) : Lg L .nilIface where
  toLb := nilB main V Stop cs y0 base R
  one := rfl
  inv := fun e => e.inv
  shA := fun _ b _ => hA b
  mineA := fun e b h => ⟨hA b, h.2, h.1.2⟩
  newA := fun _ b _ => hA b
  mg := fun e y' s' w' h0 h1 h2 h3 h4 => ⟨{ w := w', y := y', s := s', tgt := e.tgt, fuel := e.fuel, le := L.trans e.le h0, inv := h3, size := Nat.le_trans e.size h1, old := fun b hb hs => (h2 b (Nat.lt_of_lt_of_le hb e.size) (fun hm => by have := hm.1.1; omega) (fun hm => hs (e.pub b hm hb))).trans (e.old b hb hs), pub := fun b hb hlt => (h4 b hb).elim (fun h => e.pub b h hlt) fun h => h.elim (fun h => absurd h.1.1 (Nat.not_le_of_lt hlt)) fun h => absurd (Nat.le_trans e.size h) (Nat.not_le_of_lt hlt), run := e.run }, rfl, rfl, rfl, rfl, rfl, rfl, rfl, rfl, fun b => nil_mine h0 h1⟩
  step := fun e d ht fr l _ _ hk => nil_step e d ht fr l hk
structure Lone (L : La) (y0 : L.Gh) (w : World) (R : L.Sg × Ans) (w' : World) (y : L.Gh) : Prop where
  le : L.le y0 y
  I : L.I y R.1 w'
  size : w.heap.size ≤ w'.heap.size
  old : ∀ b, b < w.heap.size → ¬ L.sh y0 b → w'.heap[b]? = w.heap[b]?
  pub : ∀ b, L.sh y b → b < w.heap.size → L.sh y0 b
variable {b : Frame} {a : Act} {k : List Item} {ops : Array Oper} {i : Nat} {rest : List Nat} {o : Oper} {w : World}
theorem Walk.callLone {f : FuncId} {fn : Func} {args : Array Operand} {ats : Array TypeId} {Rel : Value → Ans → World → (Nat → Prop) → Prop} (N : Nat) (y0 : L.Gh) (s : L.Sg) (r0 : Ans ⊕ L.D) (hA : ∀ b, Apart V b) (hI : L.I y0 s w) (hrun : runN L N (s, r0) = some R)
    (hc : ∀ (K : Lg L .nilIface) (e : K.E), K.tgt e = (K.s e, r0) → SCall K.toLb f (args.map a.eval) e (fun v e' => ∃ x, Rel v x (K.w e') (K.mine e') ∧ K.tgt e' = (K.s e', .inl x)))
    (ho : ops[i]? = some o) (hw : Region.wanted o (yielded ops a.tmps) = true) (hk : b.kind ≠ .early) (hop : o.op = .call { callee := .value (.func f), args, argTypes := ats })
    (hf : Try.prog.funcs[f]? = some fn) (hname : (fn.name == "runtime.NumGoroutine") = false) (hb : fn.body.isNone = false) (hp : Plain (b.at a (.inRegion ops (i :: rest) :: k)))
    (h : ∀ v w' y, Rel v R.2 w' (fun b => (w.heap.size ≤ b ∧ b < w'.heap.size) ∧ ¬ L.sh y b) → Lone L y0 w R w' y → Walk Try.prog main (DR V) Stop (G (b.at (a.put o.dst v) (.inRegion ops rest :: k)) cs) w') :
    Walk Try.prog main (DR V) Stop (G (b.at a (.inRegion ops (i :: rest) :: k)) cs) w := by
  refine Walk.callE ho hw hk hop hf hname hb ?_
  have key := hc (nilL (V := V) hA main Stop cs y0 w R) { w := w, y := y0, s := s, tgt := (s, r0), fuel := N, le := L.refl _, inv := hI, size := Nat.le_refl _, old := fun _ _ _ => rfl, pub := fun _ h _ => h, run := hrun } rfl (b.at a (.inRegion ops (i :: rest) :: k)) [] hp (fun _ h => by cases h) ?_
  · exact key
  · rintro v e' ⟨x, hr, ht⟩
    have hrn := e'.run
    have ht : e'.tgt = (e'.s, .inl x) := ht
    rw [ht, runN_inl] at hrn
    have hR := Option.some.inj hrn
    have r1 : R.1 = e'.s := (congrArg Prod.fst hR).symm
    have r2 : R.2 = x := (congrArg Prod.snd hR).symm
    have := h v e'.w e'.y (by rw [r2]; exact hr) ⟨e'.le, by rw [r1]; exact e'.inv, e'.size, e'.old, e'.pub⟩
    rw [Frame.finish_at, ho]
    exact this
end
end
end Go.Proofs.Ytbmijpkdghkbbaa
