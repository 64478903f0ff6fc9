/- Part 12. -/
import Derived.Test.YtflcclneedldoaaJ2
import Derived.Test.YtflcclneedldoaaJ3
import Derived.Test.YtflcclneedldoaaJ9
import Derived.Test.YtflcclneedldoaaJ10
import Derived.Test.YtflcclneedldoaaJ11
set_option linter.unusedSimpArgs false
set_option linter.unusedVariables false
set_option maxHeartbeats 8000000
set_option maxRecDepth 100000
namespace Go.Proofs.Ytflcclneedldoaa
open Go.Conc Go.RowKit Go.Relay Try
open Go.ConcN (upd upd_ne upd_same)
structure OSt (L : La) (g : OG) (S : Stile) : Prop where
 n : S.n = g.n
 alo : g.A < g.w0.heap.size
 tbs : ¬ g.sh S.tb /\ S.tb ≠ g.A
 tb : ∀ i, i < g.n -> g.w0.cell? ⟨S.tb, i, none⟩ = some (S.F i)
 sch : ∀ (j : Nat) (z : Int), S.sl[j]? = some z -> ∃ s so, S.sa = some ⟨s, so, none⟩ /\ g.w0.cell? ⟨s, so + j, none⟩ = some (.int .i64 z) /\ ¬ g.sh s /\ s ≠ g.A
def t0 (L : La) : Tst L := ⟨[], none, []⟩
structure OInv (L : La) (g : OG) (S : Stile) (k : Nat) (o : Nat -> Option Role) (x : OX L) (cs : Nat -> List Frame) (w : World) (pr : Nat -> Option Nat) (hd : Nat -> Value) (y : L.Gh) : Prop where
 st : OSt L g S
 kn : k <= g.n
 size : g.w0.heap.size <= w.heap.size
 base : ∀ b, b < g.w0.heap.size -> o b = none
 old : ∀ b, b < g.w0.heap.size -> ¬ g.sh b -> b ≠ g.A -> w.heap[b]? = g.w0.heap[b]?
 prl : ∀ b i, pr b = some i -> g.w0.heap.size <= b /\ b < w.heap.size /\ o b = none /\ ¬ L.sh y b
 shl : ∀ b, L.sh y b -> o b = none /\ b ≠ g.A /\ b < w.heap.size /\ (b < g.w0.heap.size -> g.sh b)
 I : L.I y x.s w
 an : ∃ arr : Array Value, w.heap[g.A]? = some (.cells arr 40) /\ arr.size = g.n /\ ∀ i, i < g.n -> arr[i]? = some (hd i)
 row : ∀ i, i < g.n -> RowA g.w0.heap.size (fun b => pr b = some i) (hd i) (x.th i).ans w
 cont : ∀ i, i < k -> i < g.n -> x.out i = none -> (x.th i).d.isSome = true /\ cs i ≠ [] /\ (∀ f ∈ cs i, Cf f) /\ Cont L g S i (1048577 - x.cnt) (x.th i) (cs i) y (hd i) (fun b => pr b = some i) w
 fresh : ∀ i, k <= i -> i < g.n -> x.th i = t0 L
def Of (L : La) (g : OG) (S : Stile) (yb : L.Gh) (k : Nat) (o : Nat -> Option Role) (x : OX L) (cs : Nat -> List Frame) (w : World) : Prop := ∃ pr hd y, L.le yb y /\ OInv L g S k o x cs w pr hd y
theorem Al {w : World} {b i : Nat} {v : Value} (h : w.cell? ⟨b, i, none⟩ = some v) : b < w.heap.size := by
 unfold World.cell? at h
 split at h
 ·rename_i h'; exact (aEs h').1
 ·cases h
section
variable {L : La} {g : OG} {S : Stile} {k : Nat} {o o' : Nat -> Option Role} {x : OX L} {cs : Nat -> List Frame} {w w' : World} {pr : Nat -> Option Nat} {hd : Nat -> Value} {y yb : L.Gh}
theorem OInv.cell (P : OInv L g S k o x cs w pr hd y) {b i : Nat} {v : Value} (h : g.w0.cell? ⟨b, i, none⟩ = some v) (hs : ¬ g.sh b) (hA : b ≠ g.A) : w.cell? ⟨b, i, none⟩ = some v :=
 (cBk (a := ⟨b, i, none⟩) (P.old b (Al h) hs hA)).trans h
theorem invO_keep (h : Of L g S yb k o x cs w) (K : Keeps o o' w w') : Of L g S yb k o' x cs w' := by
 obtain ⟨pr, hd, y, hy, P⟩ := h
 have hb : ∀ b, b < g.w0.heap.size -> o' b = none /\ w'.heap[b]? = w.heap[b]? := fun b h => K.same b (Nat.lt_of_lt_of_le h P.size) (P.base b h)
 have hp : ∀ b i, pr b = some i -> o' b = none /\ w'.heap[b]? = w.heap[b]? := fun b i h => K.same b (P.prl b i h).2.1 (P.prl b i h).2.2.1
 have hsh : ∀ b, L.sh y b -> o' b = none /\ w'.heap[b]? = w.heap[b]? := fun b h => K.same b (P.shl b h).2.2.1 (P.shl b h).1
 refine ⟨pr, hd, y, hy, ⟨P.st, P.kn, Nat.le_trans P.size K.size, fun b h => (hb b h).1, fun b h h1 h2 => (hb b h).2.trans (P.old b h h1 h2), fun b i h => ⟨(P.prl b i h).1, Nat.lt_of_lt_of_le (P.prl b i h).2.1 K.size, (hp b i h).1, (P.prl b i h).2.2.2⟩, fun b h => ⟨(hsh b h).1, (P.shl b h).2.1, Nat.lt_of_lt_of_le (P.shl b h).2.2.1 K.size, (P.shl b h).2.2.2⟩, L.stable P.I fun b h => (hsh b h).2, ?_, fun i hi => (P.row i hi).same fun b e => (hp b i e).2, fun i hi hin ho => ?_, P.fresh⟩⟩
 ·obtain ⟨arr, ha, hz, hr⟩ := P.an
  exact ⟨arr, (hb _ P.st.alo).2.trans ha, hz, hr⟩
 ·obtain ⟨h1, h2, h3, h4⟩ := P.cont i hi hin ho
  exact ⟨h1, h2, h3, h4.keep (L.refl _) K.size fun b e => (hp b i e).2⟩
theorem OInv.rely (P : OInv L g S k o x cs w pr hd y) {V : Nat -> Option Wait} {i : Nat} (hi : i < g.n) (hA : ∀ b, o b = none -> Az V b) (hlt : ∀ b r, o b = some r -> b < w.heap.size) : Rely L g i V y w (hd i) (fun b => pr b = some i) := by
 refine ⟨P.size, P.old, ?_, fun b e => ⟨(P.prl b i e).1, (P.prl b i e).2.1, (P.prl b i e).2.2.2⟩, fun b e => hA b ?_, fun b h => (P.shl b h).2, P.st.alo, (P.row i hi).hdo⟩
 ·obtain ⟨arr, ha, hz, hr⟩ := P.an
  exact ⟨arr, ha, hr i hi⟩
 ·rcases e with e | e | e | e
  ·exact P.base b e
  ·exact (P.prl b i e).2.2.1
  ·cases ho : o b with
   | none => rfl
   | some r => have := hlt b r ho; omega
  ·exact (P.shl b e).1
theorem Me {V : Nat -> Option Wait} {f : Frame} {fs : List Frame} {i k' cnt' : Nat} {r : L.Sg × Tst L} {g' : Goroutine} (hy : L.le yb y) (P : OInv L g S k o x cs w pr hd y) (hi : i < g.n) (hik : i < k') (hkk : ∀ j, j < k' -> j ≠ i -> j < k) (hkf : k <= k') (hkn : k' <= g.n) (hc : x.cnt <= cnt')
  (hlt : ∀ b r, o b = some r -> b < w.heap.size) (hS : StopT L g S i (Cont L g S i (1048577 - cnt')) ⟨V, f, fs, w, y, fun b => pr b = some i, r⟩ g' w') : Fin (Of L g S yb) OX.out S k' o (Ge x i r cnt') cs i f fs w g' w' := by
 obtain ⟨y', hyy, hsz, hfr, hI, hpub, hd', ⟨arr, arr', ha, ha', hasz, hai, haj⟩, hrow, hend⟩ := hS
 dsimp only at hyy hsz hfr hI hpub hrow hend ha ha' hasz hai haj
 let new : Nat -> Option Nat := fun b => if w.heap.size <= b /\ b < w'.heap.size then some i else pr b
 obtain ⟨pr', hpr1, hpr2⟩ : ∃ pr' : Nat -> Option Nat, (∀ b, L.sh y' b -> pr' b = none) /\ ∀ b, ¬ L.sh y' b -> pr' b = new b := ⟨fun b => @ite _ (L.sh y' b) (Classical.propDecidable _) none (new b), fun b h => if_pos h, fun b h => if_neg h⟩
 have hMi : (fun b => pr' b = some i) = Cu (⟨V, f, fs, w, y, fun b => pr b = some i, r⟩ : Tn L) y' w' := by
  funext b
  refine propext ⟨fun h => ?_, fun h => ?_⟩
  ·have hs : ¬ L.sh y' b := fun hs => by
    have h : pr' b = some i := h
    rw [hpr1 b hs] at h; cases h
   refine ⟨?_, hs⟩
   have h : pr' b = some i := h
   rw [hpr2 b hs] at h
   by_cases e : w.heap.size <= b /\ b < w'.heap.size
   ·exact .inr e
   ·have h : (if w.heap.size <= b /\ b < w'.heap.size then some i else pr b) = some i := h
    rw [if_neg e] at h
    exact .inl h
  ·show pr' b = some i
   rw [hpr2 b h.2]
   show (if w.heap.size <= b /\ b < w'.heap.size then some i else pr b) = some i
   rcases h.1 with h | h
   ·split
    ·rfl
    ·exact h
   ·rw [if_pos h]
 have hMj : ∀ j, j ≠ i -> ∀ b, pr' b = some j ↔ pr b = some j := fun j hj b => by
  by_cases hs : L.sh y' b
  ·rw [hpr1 b hs]
   refine ⟨fun h => (by cases h), fun h => ?_⟩
   have h1 := P.prl b j h
   rcases hpub b hs with h2 | h2 | h2
   ·exact absurd h2 h1.2.2.2
   ·rw [h] at h2; exact absurd (Option.some.inj h2) hj
   ·omega
  ·rw [hpr2 b hs]
   show (if w.heap.size <= b /\ b < w'.heap.size then some i else pr b) = some j ↔ pr b = some j
   by_cases e : w.heap.size <= b /\ b < w'.heap.size
   ·rw [if_pos e]
    refine ⟨fun h => absurd (Option.some.inj h).symm hj, fun h => ?_⟩
    have := (P.prl b j h).2.1
    omega
   ·rw [if_neg e]
 have hother : ∀ j b, j ≠ i -> pr b = some j -> w'.heap[b]? = w.heap[b]? := fun j b hj h => by
  have h1 := P.prl b j h
  refine hfr b h1.2.1 (fun e => hj ?_) h1.2.2.2 (fun e => ?_)
  ·rw [h] at e; exact Option.some.inj e
  ·have := P.st.alo; omega
 have hown : ∀ b, (pr b = some i ∨ (w.heap.size <= b /\ b < w'.heap.size)) -> g.w0.heap.size <= b /\ b < w'.heap.size /\ o b = none := fun b h => by
  rcases h with h | h
  ·have := P.prl b i h
   exact ⟨this.1, by omega, this.2.2.1⟩
  ·refine ⟨Nat.le_trans P.size h.1, h.2, ?_⟩
   cases ho : o b with
   | none => rfl
   | some z => have := hlt b z ho; have h1 : w.heap.size <= b := h.1; omega
 have harr : arr.size = arr'.size := hasz.symm
 obtain ⟨arr0, ha0, hz0, hr0⟩ := P.an
 rw [ha] at ha0
 have harr0 : arr0 = arr := by cases ha0; rfl
 subst harr0
 have hth : ∀ j, j ≠ i -> (Ge x i r cnt').th j = x.th j := fun j hj => upd_ne _ _ hj
 have hthi : (Ge x i r cnt').th i = r.2 := upd_same _ _ _
 have hinv : ∀ l, (r.2.d.isSome = true -> l ≠ [] /\ (∀ f ∈ l, Cf f) /\ Cont L g S i (1048577 - cnt') r.2 l y' hd' (fun b => pr' b = some i) w') -> Of L g S yb k' o (Ge x i r cnt') (upd cs i l) w' := fun l hl => by
  refine ⟨pr', upd hd i hd', y', L.trans hy hyy, ⟨P.st, hkn, Nat.le_trans P.size hsz, P.base, fun b hb h1 h2 => (hfr b (Nat.lt_of_lt_of_le hb P.size) (fun e => by have := (P.prl b i e).1; omega) (fun e => h1 ((P.shl b e).2.2.2 hb)) h2).trans (P.old b hb h1 h2), fun b j h => ?_, fun b h => ?_, hI, ⟨arr', ha', by rw [hasz]; exact hz0, fun j hj => ?_⟩, fun j hj => ?_, fun j hj hjn ho => ?_, fun j hj hjn => ?_⟩⟩
  ·have hs : ¬ L.sh y' b := fun hs => by rw [hpr1 b hs] at h; cases h
   by_cases e : j = i
   ·subst e
    have h0 : Cu (⟨V, f, fs, w, y, fun b => pr b = some j, r⟩ : Tn L) y' w' b := by rw [<- hMi]; exact h
    have h1 := hown b h0.1
    exact ⟨h1.1, h1.2.1, h1.2.2, hs⟩
   ·have := P.prl b j ((hMj j e b).1 h)
    exact ⟨this.1, by omega, this.2.2.1, hs⟩
  ·have hl' := L.lt hI h
   rcases hpub b h with h1 | h1 | h1
   ·have := P.shl b h1
    exact ⟨this.1, this.2.1, hl', this.2.2.2⟩
   ·have h2 := hown b (.inl h1)
    exact ⟨h2.2.2, fun e => (by have := P.st.alo; omega), hl', fun e => (by omega)⟩
   ·have h2 := hown b (.inr ⟨h1, hl'⟩)
    exact ⟨h2.2.2, fun e => (by have := P.st.alo; omega), hl', fun e => (by omega)⟩
  ·by_cases e : j = i
   ·subst e; rw [upd_same]; exact hai
   ·rw [upd_ne _ _ e, haj j e]; exact hr0 j hj
  ·by_cases e : j = i
   ·subst e; rw [upd_same, hthi, hMi]; exact hrow
   ·rw [upd_ne _ _ e, hth j e]
    have hM : (fun b => pr' b = some j) = (fun b => pr b = some j) := funext fun b => propext (hMj j e b)
    rw [hM]
    exact (P.row j hj).same fun b hb => hother j b e hb
  ·by_cases e : j = i
   ·subst e
    rw [hthi, upd_same, upd_same]
    have ho : upd x.out j (match r.2.d with | none => some false | some _ => none) j = none := ho
    rw [upd_same] at ho
    have hs : r.2.d.isSome = true := by
     cases hd : r.2.d with
     | none => rw [hd] at ho; cases ho
     | some d => rfl
    exact ⟨hs, hl hs⟩
   ·have ho : upd x.out i (match r.2.d with | none => some false | some _ => none) j = none := ho
    rw [upd_ne _ _ e] at ho
    rw [hth j e, upd_ne _ _ e, upd_ne _ _ e]
    obtain ⟨h1, h2, h3, h4⟩ := P.cont j (hkk j hj e) hjn ho
    refine ⟨h1, h2, h3, ?_⟩
    have hM : (fun b => pr' b = some j) = (fun b => pr b = some j) := funext fun b => propext (hMj j e b)
    rw [hM]
    refine (h4.le (Nat.sub_le_sub_left hc _)).keep hyy hsz fun b hb => hother j b e hb
  ·have e : j ≠ i := by omega
   rw [hth j e]
   exact P.fresh j (by omega) hjn
 refine ⟨hsz, fun b z hb => hfr b (hlt b z hb) (fun e => by rw [(P.prl b i e).2.2.1] at hb; cases hb) (fun e => by rw [(P.shl b e).1] at hb; cases hb) (fun e => by rw [P.base b (e ▸ P.st.alo)] at hb; cases hb), ?_⟩
 have hout : (Ge x i r cnt').out i = match r.2.d with | none => some false | some _ => none := upd_same _ _ _
 rcases hend with ⟨h1, rfl⟩ | ⟨l, h1, h2, h3, h4, rfl⟩
 ·refine ⟨[], hinv [] (fun h => by rw [h1] at h; cases h), .inr (.inl ⟨?_, rfl⟩)⟩
  show (Ge x i r cnt').out i = some false
  rw [hout, h1]
 ·refine ⟨l, hinv l (fun _ => ⟨h2, h3, by rw [hMi]; exact h4⟩), .inl ⟨?_, rfl⟩⟩
  show (Ge x i r cnt').out i = none
  rw [hout]
  cases hd : r.2.d with
  | none => rw [hd] at h1; cases h1
  | some d => rfl
theorem goO {V : Nat -> Option Wait} {i : Nat} {c : Frame} {l : List Frame} (f : Frame) (fs : List Frame) (h : Of L g S yb k o x cs w) (hik : i < k) (hout : x.out i = none) (hcs : cs i = c :: l) (hc : x.cnt < 1048576) (hA : ∀ b, o b = none -> Az V b) (hlt : ∀ b r, o b = some r -> b < w.heap.size) :
  Walk prog false (DR V) (Fin (Of L g S yb) OX.out S k o (Cz x i) cs i f fs w) (G (c.finish (.tuple #[])) (l ++ f :: fs)) w := by
 obtain ⟨pr, hd, y, hy, P⟩ := h
 have hi : i < g.n := Nat.lt_of_lt_of_le hik P.kn
 obtain ⟨h1, h2, h3, h4⟩ := P.cont i hik hi hout
 obtain ⟨d, hdd⟩ := Option.isSome_iff_exists.1 h1
 rw [show 1048577 - x.cnt = (1048577 - (x.cnt + 1)) + 1 from by omega] at h4
 have hn : Cz x i = Ge x i (Ei L (i : Nat) (L.act x.s d) (x.th i).left (x.th i).ans) (x.cnt + 1) := by
  unfold Cz; rw [hdd]
 rw [hn]
 exact (h4 V f fs y w x.s c l d (L.refl _) (Nat.le_refl _) (fun _ _ => rfl) (P.rely hi hA hlt) P.I hdd hcs).mono fun g' w' hS => Me hy P hi hik (fun j hj _ => hj) (Nat.le_refl _) P.kn (Nat.le_succ _) hlt hS
theorem invO_shape {i : Nat} (h : Of L g S yb k o x cs w) (hik : i < k) (hout : x.out i = none) : (∃ c l, cs i = c :: l) /\ ∀ f ∈ cs i, Cf f := by
 obtain ⟨pr, hd, y, hy, P⟩ := h
 obtain ⟨h1, h2, h3, h4⟩ := P.cont i hik (Nat.lt_of_lt_of_le hik P.kn) hout
 refine ⟨?_, h3⟩
 cases hc : cs i with
 | nil => exact absurd hc h2
 | cons c l => exact ⟨c, l, rfl⟩
theorem invO_thr {i : Nat} (h : Of L g S yb k o x cs w) (hi : i < S.n) : w.cell? ⟨S.tb, i, none⟩ = some (S.F i) := by
 obtain ⟨pr, hd, y, hy, P⟩ := h
 exact P.cell (P.st.tb i (P.st.n ▸ hi)) P.st.tbs.1 P.st.tbs.2
theorem invO_sch {j : Nat} {z : Int} (h : Of L g S yb k o x cs w) (hz : S.sl[j]? = some z) : ∃ s so, S.sa = some ⟨s, so, none⟩ /\ w.cell? ⟨s, so + j, none⟩ = some (.int .i64 z) := by
 obtain ⟨pr, hd, y, hy, P⟩ := h
 obtain ⟨s, so, e, hc, h1, h2⟩ := P.st.sch j z hz
 exact ⟨s, so, e, P.cell hc h1 h2⟩
end
noncomputable def reg112_0 := rk f112.body 0
noncomputable def reg112_1 := rk f112.body 1
theorem z112 : reg112_0.size = 2 /\ reg112_1.size = 2 := by and_intros <;> kernel_rfl
theorem code112_is : f112.body = some (.seq (.region 0 reg112_0 false) (.cond (.tmp 3 ) (.region 1 reg112_1 false) (.skip))) := by kernel_rfl
theorem undStepper : ∃ ms, prog.underlying 130 = some (.interface ms) := by
 have h : (match prog.underlying 130 with | some (.interface _) => true | _ => false) = true := by kernel_rfl
 revert h
 cases prog.underlying 130 with
 | none => simp
 | some d =>
  cases d with
  | interface fs => exact fun _ => ⟨fs, rfl⟩
  | _ => simp
structure EC (L : La) (g : OG) (S : Stile) (i : Nat) where
 τ : Tn L
 N : Nat
 w : World
 y : L.Gh
 s : L.Sg
 ans : List Ans
 hd : Value
 le : L.le τ.y y
 size : τ.w.heap.size <= w.heap.size
 frame : ∀ b, b < τ.w.heap.size -> ¬ τ.M b -> ¬ L.sh τ.y b -> b ≠ g.A -> w.heap[b]? = τ.w.heap[b]?
 pub : ∀ b, L.sh y b -> L.sh τ.y b ∨ τ.M b ∨ τ.w.heap.size <= b
 rely : ∃ hd0, Rely L g i τ.V τ.y τ.w hd0 τ.M
 an : AnT g i τ.w w hd
 row : RowA g.w0.heap.size (Cu τ y w) hd ans w
 inv : L.I y s w
structure OC where
 left : List OpV
 ans : List Ans
 hd : Value
 K : Nat -> Prop
 wK : World
structure EO (L : La) (g : OG) (S : Stile) (i : Nat) (c : OC) extends EC L g S i where
 tgt : L.Sg × (Ans ⊕ L.D)
 eqA : ans = c.ans
 eqH : hd = c.hd
 goal : τ.goal = Ei L (i : Nat) tgt c.left ans
 Kown : ∀ b, c.K b -> Cu τ y w b
 kept : ∀ b, c.K b -> w.heap[b]? = c.wK.heap[b]?
 rowK : RowA g.w0.heap.size c.K hd ans w
section
variable {L : La} {g : OG} {S : Stile} {i : Nat} {c : OC}
theorem EC.lo (e : EC L g S i) {b : Nat} (h : Cu e.τ e.y e.w b) : g.w0.heap.size <= b /\ b < e.w.heap.size := by
 obtain ⟨hd0, r⟩ := e.rely
 have := e.size
 rcases h.1 with h | h
 ·have := r.lo b h; omega
 ·have := r.size; omega
theorem EC.noA (e : EC L g S i) {b : Nat} (h : Cu e.τ e.y e.w b) : ¬ L.sh e.y b /\ b ≠ g.A := by
 obtain ⟨hd0, r⟩ := e.rely
 have h1 := e.lo h
 exact ⟨h.2, fun h => by have := r.alo; omega⟩
theorem EC.shb (e : EC L g S i) {b : Nat} (h : L.sh e.y b) : b ≠ g.A /\ (b < g.w0.heap.size -> g.sh b) := by
 obtain ⟨hd0, r⟩ := e.rely
 rcases e.pub b h with h | h | h
 ·exact ⟨(r.shlo b h).1, (r.shlo b h).2.2⟩
 ·have := r.lo b h; have := r.alo; exact ⟨by omega, fun _ => by omega⟩
 ·have := r.alo; have := r.size; exact ⟨by omega, fun _ => by omega⟩
theorem EC.apart (e : EC L g S i) {b : Nat} (h : b < g.w0.heap.size ∨ Cu e.τ e.y e.w b ∨ e.w.heap.size <= b ∨ L.sh e.y b) : Az e.τ.V b := by
 obtain ⟨hd0, r⟩ := e.rely
 have := e.size
 refine r.apart b ?_
 rcases h with h | h | h | h
 ·exact .inl h
 ·rcases h.1 with h | h
  ·exact .inr (.inl h)
  ·exact .inr (.inr (.inl h.1))
 ·exact .inr (.inr (.inl (by omega)))
 ·rcases e.pub b h with h | h | h
  ·exact .inr (.inr (.inr h))
  ·exact .inr (.inl h)
  ·exact .inr (.inr (.inl h))
theorem EC.hdo (e : EC L g S i) : ∀ b, e.hd.ownBlock = some b -> Cu e.τ e.y e.w b := e.row.hdo
def Mf (L : La) (g : OG) (S : Stile) (i : Nat) (c : OC) : Lb L where
 main := false
 E := EO L g S i c
 V := fun e => e.τ.V
 Stop := fun e => StopT L g S i (Cont L g S i e.N) e.τ
 bot := fun e => e.τ.f :: e.τ.fs
 w := fun e => e.w
 s := fun e => e.s
 gh := fun e => e.y
 tgt := fun e => e.tgt
 fuel := fun e => e.N
 mine := fun e b => Cu e.τ e.y e.w b /\ ¬ c.K b
theorem EO.mg (e : EO L g S i c) (y' : L.Gh) (s' : L.Sg) (w' : World) (hle : L.le e.y y') (hs : e.w.heap.size <= w'.heap.size) (hsame : ∀ b, b < e.w.heap.size -> ¬ (Cu e.τ e.y e.w b /\ ¬ c.K b) -> ¬ L.sh e.y b -> w'.heap[b]? = e.w.heap[b]?) (hI : L.I y' s' w')
  (hpub : ∀ b, L.sh y' b -> L.sh e.y b ∨ (Cu e.τ e.y e.w b /\ ¬ c.K b) ∨ e.w.heap.size <= b) : ∃ e' : EO L g S i c, Mg (Mf L g S i c) e e' y' s' w' := by
 obtain ⟨hd0, r⟩ := e.rely
 have hK : ∀ b, c.K b -> w'.heap[b]? = e.w.heap[b]? := fun b h => hsame b (e.lo (e.Kown b h)).2 (fun x => x.2 h) (e.noA (e.Kown b h)).1
 have hA : w'.heap[g.A]? = e.w.heap[g.A]? := hsame _ (by have := r.alo; have := r.size; have := e.size; omega) (fun x => by have := (e.lo x.1).1; have := r.alo; omega) (fun h => (e.shb h).1 rfl)
 have hKn : ∀ b, c.K b -> ¬ L.sh y' b := fun b h hs => by
  rcases hpub b hs with h1 | h1 | h1
  ·exact (e.noA (e.Kown b h)).1 h1
  ·exact h1.2 h
  ·have := (e.lo (e.Kown b h)).2; omega
 have hown : ∀ b, Cu e.τ e.y e.w b -> ¬ L.sh y' b -> Cu e.τ y' w' b := fun b h hn => ⟨h.1.imp id fun h => ⟨h.1, by omega⟩, hn⟩
 have hKo : ∀ b, c.K b -> Cu e.τ y' w' b := fun b h => hown b (e.Kown b h) (hKn b h)
 refine ⟨{ τ := e.τ, N := e.N, w := w', y := y', s := s', ans := e.ans, hd := e.hd, le := L.trans e.le hle, size := Nat.le_trans e.size hs, frame := fun b h1 h2 h3 h4 => ?_, pub := fun b h => ?_, rely := e.rely, an := ?_, row := (e.rowK.same hK).imp hKo, inv := hI, tgt := e.tgt, eqA := e.eqA, eqH := e.eqH, goal := e.goal, Kown := hKo, kept := fun b h => (hK b h).trans (e.kept b h), rowK := e.rowK.same hK }, ⟨rfl, rfl, rfl, rfl, rfl, rfl, rfl, rfl, fun b => ?_⟩⟩
 ·refine (hsame b (Nat.lt_of_lt_of_le h1 e.size) (fun x => ?_) (fun x => ?_)).trans (e.frame b h1 h2 h3 h4)
  ·rcases x.1.1 with h | h
   ·exact h2 h
   ·have := h.1; omega
  ·rcases e.pub b x with h | h | h
   ·exact h3 h
   ·exact h2 h
   ·omega
 ·rcases hpub b h with h | h | h
  ·exact e.pub b h
  ·rcases h.1.1 with h | h
   ·exact .inr (.inl h)
   ·exact .inr (.inr h.1)
  ·exact .inr (.inr (Nat.le_trans e.size h))
 ·obtain ⟨arr, arr', h1, h2, h3⟩ := e.an
  exact ⟨arr, arr', h1, hA.trans h2, h3⟩
 ·show (Cu e.τ y' w' b /\ ¬ c.K b) ↔ ((Cu e.τ e.y e.w b /\ ¬ c.K b) ∨ (e.w.heap.size <= b /\ b < w'.heap.size)) /\ ¬ L.sh y' b
  constructor
  ·rintro ⟨⟨h | h, hn⟩, hk⟩
   ·exact ⟨.inl ⟨⟨.inl h, fun hs => hn (L.mono hle hs)⟩, hk⟩, hn⟩
   ·refine ⟨?_, hn⟩
    by_cases hb : b < e.w.heap.size
    ·exact .inl ⟨⟨.inr ⟨h.1, hb⟩, fun hs => hn (L.mono hle hs)⟩, hk⟩
    ·exact .inr ⟨by omega, h.2⟩
  ·rintro ⟨⟨h, hk⟩ | h, hn⟩
   ·exact ⟨hown b h hn, hk⟩
   ·exact ⟨⟨.inr ⟨Nat.le_trans e.size h.1, h.2⟩, hn⟩, fun hk => by have := (e.lo (e.Kown b hk)).2; omega⟩
theorem EO.step (e : EO L g S i c) (d : L.D) (ht : e.tgt = (e.s, .inr d)) (fr : Frame) (l : List Frame) (hp : Cf fr) (hl : ∀ f ∈ l, Cf f) (hk : ∀ e' : EO L g S i c, Aft (Mf L g S i c) e d e' -> LW (Mf L g S i c) e' (G (fr.finish (.tuple #[])) (l ++ e'.τ.f :: e'.τ.fs))) :
  LW (Mf L g S i c) e (G (Frame.enter prog 112 #[.iface 286 (.pointer (some ⟨S.p i, 0, none⟩))] .normal) (fr :: (l ++ e.τ.f :: e.τ.fs))) := by
 obtain ⟨ms, hu⟩ := undStepper
 have hn1 := fun w => Es (P := prog) (w := w) 130 286 (.pointer (some ⟨S.p i, 0, none⟩)) hu
 have hn2 := fun w es => Ff (P := prog) (w := w) 130 286 (.pointer (some ⟨S.p i, 0, none⟩)) es hu
 unfold LW
 show Walk prog false (DR e.τ.V) (StopT L g S i (Cont L g S i e.N) e.τ) _ e.w
 rw [enter_at _ func112 code112_is]
 simp only [ntmps112, ez, Nat.reduceAdd, Nat.reduceSub]
 refine Aa z112 ?_
 refine Walk.invokeStep (S.p i) Ah (by rfl) (by decide) rfl rfl ?_
 generalize hX : Frame.at _ _ _ = X
 have hgoal : e.τ.goal = (e.s, ⟨c.left, some d, e.ans⟩) := by rw [e.goal, ht]; rfl
 refine .stop fun dr => ⟨e.y, e.le, e.size, e.frame, ?_, e.pub, e.hd, e.an, ?_, .inr ⟨X :: fr :: l, ?_, by simp, ?_, ?_, rfl⟩⟩
 ·rw [hgoal]; exact L.stable e.inv fun _ _ => rfl
 ·rw [hgoal]; exact e.row.same fun _ _ => rfl
 ·rw [hgoal]; rfl
 ·intro x hx
  rcases List.mem_cons.1 hx with rfl | hx
  ·subst hX; exact ⟨rfl, rfl, _, func112⟩
  ·rcases List.mem_cons.1 hx with rfl | hx
   ·exact hp
   ·exact hl x hx
 ·rw [hgoal]
  have hN : ∀ N', e.N = N' -> Cont L g S i N' ⟨c.left, some d, e.ans⟩ (X :: fr :: l) e.y e.hd (Cu e.τ e.y (e.w.at dr)) (e.w.at dr) := fun N' hN' => by
   cases N' with
   | zero => trivial
   | succ n =>
    intro V f fs y' w' s' c1 l' d' h0 h1 h2 h3 h4 h5 h6
    obtain rfl : d = d' := Option.some.inj h5
    obtain ⟨rfl, rfl⟩ := List.cons.inj h6
    rw [<- hX, Frame.finish_at]
    repeat (first | (refine Wq ?_; try walk_nrm) | (refine Bh ?_; walk_nrm))
    refine Aa z112 ?_
    refine Au rfl rfl func112 rfl ?_
    have hKo : ∀ b, c.K b -> Cu (⟨V, f, fs, w', y', Cu e.τ e.y e.w, Ei L (i : Nat) (L.act s' d) c.left e.ans⟩ : Tn L) y' w' b := fun b h => ⟨.inl (e.Kown b h), (h3.lo b (e.Kown b h)).2.2⟩
    have hKs : ∀ b, c.K b -> w'.heap[b]? = e.w.heap[b]? := fun b h => h2 b (e.Kown b h)
    refine hk { τ := ⟨V, f, fs, w', y', Cu e.τ e.y e.w, Ei L (i : Nat) (L.act s' d) c.left e.ans⟩, N := n, w := w', y := y', s := s', ans := e.ans, hd := e.hd, le := L.refl _, size := Nat.le_refl _, frame := fun _ _ _ _ _ => rfl, pub := fun b h => .inl h, rely := ⟨e.hd, h3⟩, an := ?_, row := (e.rowK.same hKs).imp hKo, inv := h4, tgt := L.act s' d, eqA := e.eqA, eqH := e.eqH, goal := rfl, Kown := hKo, kept := fun b h => (hKs b h).trans (e.kept b h), rowK := e.rowK.same hKs } ⟨rfl, ?_, h0, h1, fun b hb => ⟨⟨⟨.inl hb.1, (h3.lo b hb.1).2.2⟩, hb.2⟩, h2 b hb.1⟩⟩
    ·obtain ⟨arr, ha, hb⟩ := h3.an
     exact ⟨arr, arr, ha, ha, rfl, hb, fun _ _ => rfl⟩
    ·show n < e.N
     omega
  exact hN e.N rfl
def crewL (L : La) (g : OG) (S : Stile) (i : Nat) (c : OC) : Lg L (.iface 286 (.pointer (some ⟨S.p i, 0, none⟩))) where
 toLb := Mf L g S i c
 one := rfl
 inv := fun e => e.inv
 shA := fun e b h => e.apart (.inr (.inr (.inr h)))
 mineA := fun e b h => ⟨e.apart (.inr (.inl h.1)), (e.noA h.1).1, (e.lo h.1).2⟩
 newA := fun e b h => e.apart (.inr (.inr (.inl h)))
 mg := fun e y' s' w' h0 h1 h2 h3 h4 => EO.mg e y' s' w' h0 h1 h2 h3 h4
 step := fun e d ht fr l hp hl hk => EO.step e d ht fr l hp hl hk
end
def runN (L : La) : Nat -> L.Sg × (Ans ⊕ L.D) -> Option (L.Sg × Ans)
 | _, (s, .inl a) => some (s, a)
 | 0, (_, .inr _) => none
 | n + 1, (s, .inr d) => runN L n (L.act s d)
theorem Gl (L : La) (n : Nat) (s : L.Sg) (a : Ans) : runN L n (s, .inl a) = some (s, a) := by cases n <;> rfl
theorem Hs : ∃ ms, prog.underlying 130 = some (.interface ms) := by
 have h : (match prog.underlying 130 with | some (.interface _) => true | _ => false) = true := by kernel_rfl
 revert h
 cases prog.underlying 130 with
 | none => simp
 | some d =>
  cases d with
  | interface fs => exact fun _ => ⟨fs, rfl⟩
  | _ => simp
structure NilE (L : La) (y0 : L.Gh) (base : World) (R : L.Sg × Ans) where
 w : World
 y : L.Gh
 s : L.Sg
 tgt : L.Sg × (Ans ⊕ L.D)
 fuel : Nat
 le : L.le y0 y
 inv : L.I y s w
 size : base.heap.size <= w.heap.size
 old : ∀ b, b < base.heap.size -> ¬ L.sh y0 b -> w.heap[b]? = base.heap[b]?
 pub : ∀ b, L.sh y b -> b < base.heap.size -> L.sh y0 b
 run : runN L fuel tgt = some R
section
variable {L : La} {main : Bool} {V : Nat -> Option Wait} {Stop : Goroutine -> World -> Prop} {cs : List Frame} {y0 : L.Gh} {base : World} {R : L.Sg × Ans}
def nilB (main : Bool) (V : Nat -> Option Wait) (Stop : Goroutine -> World -> Prop) (cs : List Frame) (y0 : L.Gh) (base : World) (R : L.Sg × Ans) : Lb L where
 main := main
 E := NilE L y0 base R
 V := fun _ => V
 Stop := fun _ => Stop
 bot := fun _ => cs
 w := fun e => e.w
 s := fun e => e.s
 gh := fun e => e.y
 tgt := fun e => e.tgt
 fuel := fun e => e.fuel
 mine := fun e b => (base.heap.size <= b /\ b < e.w.heap.size) /\ ¬ L.sh e.y b
theorem nil_step (e : NilE L y0 base R) (d : L.D) (ht : e.tgt = (e.s, .inr d)) (fr : Frame) (l : List Frame) (hk : ∀ e' : NilE L y0 base R, Aft (nilB main V Stop cs y0 base R) e d e' -> LW (nilB main V Stop cs y0 base R) e' (G (fr.finish (.tuple #[])) (l ++ cs))) :
  LW (nilB main V Stop cs y0 base R) e (G (Frame.enter prog 112 #[.nilIface] .normal) (fr :: (l ++ cs))) := by
 obtain ⟨ms, hu⟩ := Hs
 have hn1 := fun w => Dj (P := prog) (w := w) 130 hu
 have hn2 := fun w es => Dt (P := prog) (w := w) 130 es hu
 obtain ⟨n, hn, hr⟩ : ∃ n, e.fuel = n + 1 /\ runN L n (L.act e.s d) = some R := by
  have h := e.run
  rw [ht] at h
  cases hf : e.fuel with
  | zero => rw [hf] at h; cases h
  | succ n => rw [hf] at h; exact ⟨n, rfl, h⟩
 have hh := hk { w := e.w, y := e.y, s := e.s, tgt := L.act e.s d, fuel := n, le := e.le, inv := e.inv, size := e.size, old := e.old, pub := e.pub, run := hr } ⟨rfl, show n < e.fuel by omega, L.refl _, Nat.le_refl _, fun b h => ⟨h, rfl⟩⟩
 unfold LW at hh ⊢
 show Walk prog main (DR V) Stop _ e.w
 replace hh : Walk prog main (DR V) Stop (G (fr.finish (.tuple #[])) (l ++ cs)) e.w := hh
 rw [enter_at _ func112 code112_is]
 simp only [ntmps112, ez, Nat.reduceAdd, Nat.reduceSub]
 refine Aa z112 ?_
 exact Au rfl rfl func112 rfl hh
theorem nil_mine {y0 y' : L.Gh} {base : World} {e : NilE L y0 base R} {w' : World} {b : Nat} (hle : L.le e.y y') (hs : e.w.heap.size <= w'.heap.size) : ((base.heap.size <= b /\ b < w'.heap.size) /\ ¬ L.sh y' b) ↔ ((((base.heap.size <= b /\ b < e.w.heap.size) /\ ¬ L.sh e.y b) ∨ (e.w.heap.size <= b /\ b < w'.heap.size)) /\ ¬ L.sh y' b) := by
 have := e.size
 constructor
 ·rintro ⟨⟨a, b'⟩, hn⟩
  refine ⟨?_, hn⟩
  by_cases hb : b < e.w.heap.size
  ·exact .inl ⟨⟨a, hb⟩, fun h => hn (L.mono hle h)⟩
  ·exact .inr ⟨by omega, b'⟩
 ·rintro ⟨⟨⟨a, b'⟩, _⟩ | ⟨a, b'⟩, hn⟩
  ·exact ⟨⟨a, by omega⟩, hn⟩
  ·exact ⟨⟨by omega, b'⟩, hn⟩
def nilL (hA : ∀ b, Az V b) (main : Bool) (Stop : Goroutine -> World -> Prop) (cs : List Frame) (y0 : L.Gh) (base : World) (R : L.Sg × Ans) : Lg L .nilIface where
 toLb := nilB main V Stop cs y0 base R
 one := rfl
 inv := fun e => e.inv
 shA := fun _ b _ => hA b
 mineA := fun e b h => ⟨hA b, h.2, h.1.2⟩
 newA := fun _ b _ => hA b
 mg := fun e y' s' w' h0 h1 h2 h3 h4 => ⟨{ w := w', y := y', s := s', tgt := e.tgt, fuel := e.fuel, le := L.trans e.le h0, inv := h3, size := Nat.le_trans e.size h1, old := fun b hb hs => (h2 b (Nat.lt_of_lt_of_le hb e.size) (fun hm => by have := hm.1.1; omega) (fun hm => hs (e.pub b hm hb))).trans (e.old b hb hs), pub := fun b hb hlt => (h4 b hb).elim (fun h => e.pub b h hlt) fun h => h.elim (fun h => absurd h.1.1 (Nat.not_le_of_lt hlt)) fun h => absurd (Nat.le_trans e.size h) (Nat.not_le_of_lt hlt), run := e.run }, rfl, rfl, rfl, rfl, rfl, rfl, rfl, rfl, fun b => nil_mine h0 h1⟩
 step := fun e d ht fr l _ _ hk => nil_step e d ht fr l hk
structure Lone (L : La) (y0 : L.Gh) (w : World) (R : L.Sg × Ans) (w' : World) (y : L.Gh) : Prop where
 le : L.le y0 y
 I : L.I y R.1 w'
 size : w.heap.size <= w'.heap.size
 old : ∀ b, b < w.heap.size -> ¬ L.sh y0 b -> w'.heap[b]? = w.heap[b]?
 pub : ∀ b, L.sh y b -> b < w.heap.size -> L.sh y0 b
variable {b : Frame} {a : Act} {k : List Item} {ops : Array Oper} {i : Nat} {rest : List Nat} {o : Oper} {w : World}
theorem Walk.callLone {f : FuncId} {fn : Func} {args : Array Operand} {ats : Array TypeId} {Rel : Value -> Ans -> World -> (Nat -> Prop) -> Prop} (N : Nat) (y0 : L.Gh) (s : L.Sg) (r0 : Ans ⊕ L.D) (hA : ∀ b, Az V b) (hI : L.I y0 s w) (hrun : runN L N (s, r0) = some R)
  (hc : ∀ (K : Lg L .nilIface) (e : K.E), K.tgt e = (K.s e, r0) -> SCall K.toLb f (args.map a.eval) e (fun v e' => ∃ x, Rel v x (K.w e') (K.mine e') /\ K.tgt e' = (K.s e', .inl x)))
  (ho : ops[i]? = some o) (hw : Region.wanted o (yielded ops a.tmps) = true) (hk : b.kind ≠ .early) (hop : o.op = .call { callee := .value (.func f), args, argTypes := ats })
  (hf : prog.funcs[f]? = some fn) (hname : (fn.name == "runtime.NumGoroutine") = false) (hb : fn.body.isNone = false) (hp : Cf (b.at a (.inRegion ops (i :: rest) :: k)))
  (h : ∀ v w' y, Rel v R.2 w' (fun b => (w.heap.size <= b /\ b < w'.heap.size) /\ ¬ L.sh y b) -> Lone L y0 w R w' y -> Walk prog main (DR V) Stop (G (b.at (a.put o.dst v) (.inRegion ops rest :: k)) cs) w') :
  Walk prog main (DR V) Stop (G (b.at a (.inRegion ops (i :: rest) :: k)) cs) w := by
 refine Walk.callE ho hw hk hop hf hname hb ?_
 have key := hc (nilL (V := V) hA main Stop cs y0 w R) { w := w, y := y0, s := s, tgt := (s, r0), fuel := N, le := L.refl _, inv := hI, size := Nat.le_refl _, old := fun _ _ _ => rfl, pub := fun _ h _ => h, run := hrun } rfl (b.at a (.inRegion ops (i :: rest) :: k)) [] hp (fun _ h => by cases h) ?_
 ·exact key
 ·rintro v e' ⟨x, hr, ht⟩
  have hrn := e'.run
  have ht : e'.tgt = (e'.s, .inl x) := ht
  rw [ht, Gl] at hrn
  have hR := Option.some.inj hrn
  have r1 : R.1 = e'.s := (congrArg Prod.fst hR).symm
  have r2 : R.2 = x := (congrArg Prod.snd hR).symm
  have := h v e'.w e'.y (by rw [r2]; exact hr) ⟨e'.le, by rw [r1]; exact e'.inv, e'.size, e'.old, e'.pub⟩
  rw [Frame.finish_at, ho]
  exact this
end
section
variable {rb sb n : Nat} {sv : Value}
theorem gaD_snoc (a m v : Int) (ls : List Int) : gaD n a m (ls ++ [v]) = if (ls.length : Int) + 1 < m /\ good (a + ls.length + 1) then .inr (.a1 (a + ls.length + 1) m (ls ++ [v])) else .inl ⟨true, 0, ls ++ [v]⟩ := by
 have e : ((ls ++ [v]).length : Int) = (ls.length : Int) + 1 := by simp
 unfold gaD
 rw [e, <- Int.add_assoc]
theorem ga_refused (K : Lg (Br rb sb n) sv) (a mo m : Int) (ha : good a) (hmo : min mo n = m) (fr : Frame) (l : List Frame) (hk : ∀ x e', Oy K x e' -> LW K.toLb e' (G (fr.finish x) (l ++ K.bot e'))) (sl : Value) (ls : List Int) (e : K.E) (u : Nat -> Value) (hm : (ls.length : Int) < m) (hls : ls ≠ []) (hg : ¬ good (a + ls.length)) (h6 : ls.length <= 65536) (hL : GatL K e sl ls) (ht : K.tgt e = (K.s e, .inl ⟨true, 0, ls⟩)) : LW K.toLb e (G (hdGa rb sv sl a mo u) (fr :: (l ++ K.bot e))) := by
 have hmn := @By prog
 have hkk := hk (.tuple #[sl, .int .i64 0]) e ⟨sl, 0, ls, rfl, hL, h6, ht⟩
 have hsz := Gw (main := K.main) (V := K.V e) (K.w e) (K.inv e)
 have hget := get_no (main := K.main) (V := K.V e) (.pointer (some ⟨rb, 0, none⟩)) sv (a + ls.length) hg (K.w e)
 obtain ⟨⟨sa, sc, rfl⟩, _, _⟩ := hL
 have h0 : ls.length ≠ 0 := fun h => hls (List.eq_nil_of_length_eq_zero h)
 have h1 : decide ((ls.length : Int) < m) = true := by simp [hm]
 have h2 : ((ls.length : Int) == 0) = false := by simp [h0, hls]
 have h3 : (ls.length == 0) = false := by simp [h0, hls]
 have ha1 := ha.1
 have ha2 := ha.2
 have hw : IntKind.wrap .i64 (a + (ls.length : Int)) = a + ls.length := by rw [IntKind.wrap_i64]; omega
 clear hls hg ht
 generalize ls.length = j at *
 unfold LW at hkk ⊢
 unfold hdGa
 refine Aa z61 ?_
 refine qV (x := .int .i64 (n : Nat)) (W := K.w e) func17 ?_ ?_
 ·walk_nrm
  exact hsz
 walk_nrm
 refine Aa z61 ?_
 refine qV (x := .tuple #[.int .i64 0, .int .i64 1]) (W := K.w e) func54 ?_ ?_
 ·walk_nrm
  exact hget
 walk_nrm
 refine Aa z61 ?_
 exact Cb rfl rfl func61 rfl hkk
theorem ga_round (K : Lg (Br rb sb n) sv) (a mo m : Int) (ha : good a) (hmo : min mo n = m) (fr : Frame) (l : List Frame) (hp : Cf fr) (hl : ∀ f ∈ l, Cf f) (hk : ∀ x e', Oy K x e' -> LW K.toLb e' (G (fr.finish x) (l ++ K.bot e'))) (sl : Value) (ls : List Int) (e : K.E) (u : Nat -> Value) (hm : (ls.length : Int) < m) (hg : good (a + ls.length)) (h6 : ls.length <= 65536) (hL : GatL K e sl ls) (ht : K.tgt e = (K.s e, .inr (.a1 (a + ls.length) m ls)))
  (ih : ∀ (e' : K.E) (u' : Nat -> Value) (sl' : Value) (v : Int), GatL K e' sl' (ls ++ [v]) -> K.tgt e' = (K.s e', gaD n a m (ls ++ [v])) -> LW K.toLb e' (G (hdGa rb sv sl' a mo u') (fr :: (l ++ K.bot e')))) :
  LW K.toLb e (G (hdGa rb sv sl a mo u) (fr :: (l ++ K.bot e))) := by
 have hmn := @By prog
 have hiI := Option.some_get (show (prog.info? 2).isSome = true by kernel_rfl)
 have hsz := Gw (main := K.main) (V := K.V e) (K.w e) (K.inv e)
 have hget := Db K (get_s (Fz K e) (fz0 K e) (a + ls.length) hg (.a1 (a + ls.length) m ls) (.a2 (a + ls.length) m ls) (fun v => .a3 (a + ls.length) m ls v) (.inl (Gg ls 6)) (.inl (Gg ls 10)) (fun v => gaD n a m (ls ++ [v])) (fun _ => rfl) (fun _ => rfl) (fun s v => by rw [gaD_snoc]; rfl) ht)
 have h1 : decide ((ls.length : Int) < m) = true := by simp [hm]
 have ha1 := ha.1
 have ha2 := ha.2
 have hw : IntKind.wrap .i64 (a + (ls.length : Int)) = a + ls.length := by rw [IntKind.wrap_i64]; omega
 have h0 : ls = [] ↔ ls.length = 0 := ⟨fun h => by rw [h]; rfl, List.eq_nil_of_length_eq_zero⟩
 obtain ⟨⟨sa, sc, rfl⟩, hrow, hmine⟩ := hL
 have hlm : (ls.map fun z => Value.int .i64 z).length = ls.length := by simp
 clear ht
 unfold LW hdGa
 generalize hj : ls.length = j at *
 refine Aa z61 ?_
 refine qV (x := .int .i64 (n : Nat)) (W := K.w e) func17 ?_ ?_
 ·walk_nrm
  exact hsz
 walk_nrm
 clear hsz
 refine Aa z61 ?_
 refine Bi (K := K.toLb) (e := e) (l := fr :: l) (f := 54) (Q := fun x e' => ∃ h : Ml K e e', GetOut (Fz K e) (.inl (Gg ls 6)) (.inl (Gg ls 10)) (fun v => gaD n a m (ls ++ [v])) x ⟨e', h⟩) ?_ Ah (by rfl) (by decide) rfl func54 (by kernel_rfl) (by rfl) ⟨rfl, rfl, _, func61⟩ (Bc hp hl) ?_
 ·walk_nrm
  exact hget
 rintro x e2 ⟨hkept, v, er, rfl, hcase⟩
 clear hget
 have hrow2 := As hrow (w' := K.w e2) fun b hb => (hkept b (hmine b hb)).2
 have hmine2 : ∀ b, (Value.slice sa j sc).ownBlock = some b -> K.mine e2 b := fun b hb => (hkept b (hmine b hb)).1
 have hcase' : (er ≠ 0 /\ K.tgt e2 = (K.s e2, .inl (Gg ls er))) ∨ (er = 0 /\ K.tgt e2 = (K.s e2, gaD n a m (ls ++ [v]))) := by
  rcases hcase with ⟨h, h'⟩ | ⟨h, h'⟩ | ⟨h, h'⟩
  ·exact .inl ⟨by omega, by rw [h]; exact h'⟩
  ·exact .inl ⟨by omega, by rw [h]; exact h'⟩
  ·exact .inr ⟨h, h'⟩
 clear hcase hrow hmine hkept
 rcases hcase' with ⟨her, t2⟩ | ⟨rfl, t2⟩
 ·have hb1 : (er == 0) = false := by simp [her]
  by_cases hls : ls = []
  ·have hj0 := h0.1 hls
   subst hj0
   subst hls
   have hkk := hk (.tuple #[.slice none 0 0, .int .i64 er]) e2 ⟨.slice none 0 0, er, [], rfl, ⟨⟨_, _, rfl⟩, ⟨rfl, .inl ⟨rfl, rfl⟩⟩, fun b h => by simp [Value.ownBlock] at h⟩, by simp, by rw [hb1]; exact t2⟩
   clear ih hk
   unfold LW at hkk ⊢
   walk_nrm
   refine Aa z61 ?_
   exact Cb rfl rfl func61 rfl hkk
  ·have hj0 : j ≠ 0 := fun h => hls (h0.2 h)
   have hkk := hk (.tuple #[.slice sa j sc, .int .i64 0]) e2 ⟨.slice sa j sc, 0, ls, rfl, ⟨⟨sa, sc, by rw [hj]⟩, by rw [hj]; exact hrow2, hmine2⟩, by omega, by rw [t2]; unfold Gg; rw [if_neg hls]; rfl⟩
   have hb2 : ((j : Int) == 0) = false := by simp [hj0]
   have hb3 : (j == 0) = false := by simp [hj0]
   clear ih hk
   unfold LW at hkk ⊢
   walk_nrm
   refine Aa z61 ?_
   exact Cb rfl rfl func61 rfl hkk
 ·clear hk
  unfold LW
  walk_nrm
  refine Aa z61 ?_
  (refine Wa ?_; try walk_nrm)
  have s1 : ((K.w e2).alloc (.cells #[.int .i64 v] 2)).heap.size = (K.w e2).heap.size + 1 := by simp
  have o1 : ∀ b, b < (K.w e2).heap.size -> ((K.w e2).alloc (.cells #[.int .i64 v] 2)).heap[b]? = (K.w e2).heap[b]? := fun b hb => Ad _ _ hb
  have d1 := hAw (K.w e2) (.cells #[.int .i64 v] 2)
  have r1 := As hrow2 (w' := (K.w e2).alloc (.cells #[.int .i64 v] 2)) fun b hb => o1 b (hrow2.lt b hb).2
  generalize hw1 : (K.w e2).alloc (.cells #[.int .i64 v] 2) = w1 at *
  repeat (first | (refine Wq ?_; try walk_nrm) | (refine Bh ?_; walk_nrm))
  refine Walk.append (.tmp 38) (.tmp 40) 31 Ah (by rfl) (by decide) rfl 0 2 _ (.int .i64 0) 1 8 (by kernel_rfl) hiI.symm (by rfl) (by rfl) (by rfl) (by rfl) (by decide) (.slice sa j sc) j (ls.map fun z => .int .i64 z) rfl r1 ⟨(K.w e2).heap.size, 0, none⟩ 1 1 [.int .i64 v] rfl (by rfl) (fun i x hx => ?_) (by simp [Value.oneCell']) (by decide) (by simp [maxLen]; omega) (by omega) (by omega) (fun g hg => (K.mineA e2 g (hmine2 g hg)).1) (fun g cap w4 r4 hg4 at4 lt4 => ?_)
  ·rw [Bs, Nat.zero_add]
   refine (Ab d1 i).trans ?_
   simpa using hx
  have z4 := hg4.size
  obtain ⟨e3, m3⟩ := K.own e2 (w' := w4) (by omega) (fun b hb hbm => (hg4.block b (by omega) fun h => hbm (hmine2 b h.symm)).trans (o1 b hb))
  have hL3 : GatL K e3 (.slice (some ⟨g, 0, none⟩) (j + 1) cap) (ls ++ [v]) := by
   have hl : (ls ++ [v]).length = j + 1 := by simp [hj]
   refine ⟨⟨_, _, by rw [hl]⟩, ?_, fun b hb => ?_⟩
   ·rw [hl, m3.w, List.map_append]
    exact r4
   ·have hb : some g = some b := hb
    cases hb
    rcases at4 with h | h
    ·exact (m3.mine g).2 (.inl (hmine2 g h))
    ·exact (m3.mine g).2 (.inr ⟨by omega, lt4⟩)
  have t3 : K.tgt e3 = (K.s e3, gaD n a m (ls ++ [v])) := by rw [m3.tgt, m3.s]; exact t2
  have hih := fun u => ih e3 u _ v hL3 t3
  clear ih hL3 t3 t2 r4 r1 d1 o1 hrow2
  refine Gb (l := fr :: l) m3 ?_
  unfold LW at hih ⊢
  walk_nrm
  refine Aa z61 ?_
  refine cIL ?_
  refine Fm (F := fun u => G (hdGa rb sv (.slice (some ⟨g, 0, none⟩) (j + 1) cap) a mo u) (fr :: (l ++ K.bot e3))) hih ?_
  simp only [hdGa]
  rfl
end
section
variable {rb sb n : Nat} {sv : Value}
theorem ga_loop (K : Lg (Br rb sb n) sv) (a mo m : Int) (ha : good a) (hmo : min mo n = m) (hn : n <= 65536) (fr : Frame) (l : List Frame) (hp : Cf fr) (hl : ∀ f ∈ l, Cf f) (hk : ∀ x e', Oy K x e' -> LW K.toLb e' (G (fr.finish x) (l ++ K.bot e'))) :
  ∀ (r : Nat) (ls : List Int) (sl : Value) (e : K.E) (u : Nat -> Value), (m - ls.length).toNat = r -> ls.length <= 65536 -> GatL K e sl ls -> K.tgt e = (K.s e, gaD n a m ls) -> LW K.toLb e (G (hdGa rb sv sl a mo u) (fr :: (l ++ K.bot e))) := by
 intro r
 induction r with
 | zero =>
  intro ls sl e u hr h6 hL ht
  unfold gaD at ht
  rw [if_neg (by omega)] at ht
  exact ga_out K a mo m hmo fr l hk sl ls e u (by omega) h6 hL ht
 | succ r ih =>
  intro ls sl e u hr h6 hL ht
  have hm : (ls.length : Int) < m := by omega
  by_cases hg : good (a + ls.length)
  ·have ht2 := ht
   unfold gaD at ht2
   rw [if_pos ⟨hm, hg⟩] at ht2
   refine ga_round K a mo m ha hmo fr l hp hl hk sl ls e u hm hg h6 hL ht2 fun e' u' sl' v hL' ht' => ?_
   have hlen : (ls ++ [v]).length = ls.length + 1 := by simp
   exact ih (ls ++ [v]) sl' e' u' (by rw [hlen]; omega) (by rw [hlen]; omega) hL' ht'
  ·unfold gaD at ht
   rw [if_neg fun h => hg h.2] at ht
   refine ga_refused K a mo m ha hmo fr l hk sl ls e u hm (fun h => ?_) hg h6 hL ht
   subst h
   exact hg (by simpa using ha)
def gbD (n : Nat) (a b : Int) : Ans ⊕ RD := if good a then (if min b n <= 0 then .inl ⟨true, 0, []⟩ else .inr (.a1 a (min b n) [])) else .inl ⟨false, 1, []⟩
theorem gbD_is {n : Nat} {a b : Int} (ha : good a) : gbD n a b = gaD n a (min b n) [] := by
 have h0 : a + (([] : List Int).length : Int) = a := by simp
 unfold gbD gaD
 rw [if_pos ha, h0]
 by_cases h : min b (n : Int) <= 0
 ·rw [if_pos h, if_neg (by simp only [List.length_nil]; omega)]
 ·rw [if_neg h, if_pos ⟨by simp only [List.length_nil]; omega, ha⟩]
theorem gather_s (K : Lg (Br rb sb n) sv) (e : K.E) (a b : Int) (ht : K.tgt e = (K.s e, gbD n a b)) : SCall K.toLb 61 #[.pointer (some ⟨rb, 0, none⟩), sv, .int .i64 a, .int .i64 b] e (Oy K) := by
 intro fr l hp hl hk
 have hn := (K.inv e).pos
 have hyes := Fg (main := K.main) (V := K.V e) (K.w e) (K.inv e) a
 have hno := Fq (main := K.main) (V := K.V e) (.pointer (some ⟨rb, 0, none⟩)) (K.w e) a
 have hL0 : GatL K e (.slice none 0 0) [] := ⟨⟨_, _, rfl⟩, ⟨rfl, .inl ⟨rfl, rfl⟩⟩, fun b h => by simp [Value.ownBlock] at h⟩
 unfold LW
 rw [enter_at _ func61 code61_is]
 simp only [ntmps61, ez, Nat.reduceAdd, Nat.reduceSub]
 refine Aa z61 ?_
 by_cases h2 : good a
 ·rw [gbD_is h2] at ht
  have hlp := fun u => ga_loop K a b (min b n) h2 rfl hn.2 fr l hp hl hk _ [] (.slice none 0 0) e u rfl (by simp) hL0 ht
  refine qV (x := .bool true) (W := K.w e) func62 ?_ ?_
  ·walk_nrm
   exact hyes h2
  walk_nrm
  clear hyes hno hL0 ht
  refine Aa z61 ?_
  refine cLp ?_
  unfold LW at hlp
  refine Fm (F := fun u => G (hdGa rb sv (.slice none 0 0) a b u) (fr :: (l ++ K.bot e))) hlp ?_
  simp only [hdGa]
  rfl
 ·unfold gbD at ht
  rw [if_neg h2] at ht
  have hkk := hk (.tuple #[.slice none 0 0, .int .i64 1]) e ⟨.slice none 0 0, 1, [], rfl, hL0, by simp, ht⟩
  refine qV (x := .bool false) (W := K.w e) func62 ?_ ?_
  ·walk_nrm
   exact hno h2
  walk_nrm
  clear hyes hno hL0 ht
  unfold LW at hkk
  refine Aa z61 ?_
  exact Cb rfl rfl func61 rfl hkk
end
def DoOK (L : La) (f : FuncId) (first cap : Array Value) : Prop := ∀ (sv : Value) (K : Lg L sv) (e : K.E) (th : Int) (op : OpV), K.tgt e = L.enter (K.s e) th op ->
 SCall K.toLb f (first ++ #[sv, .int .i64 th, Eh op] ++ cap) e (fun v e' => ∃ a sl, K.tgt e' = (K.s e', .inl a) /\ v = Bo a sl /\ LsR sl a.l (K.w e') /\ a.l.length <= 1048576)
noncomputable def reg166_0 := rk f166.body 0
noncomputable def reg166_1 := rk f166.body 1
noncomputable def reg166_2 := rk f166.body 2
noncomputable def reg166_3 := rk f166.body 3
noncomputable def reg166_4 := rk f166.body 4
noncomputable def reg166_5 := rk f166.body 5
theorem z166 : reg166_0.size = 2 /\ reg166_1.size = 2 /\ reg166_2.size = 2 /\ reg166_3.size = 7 /\ reg166_4.size = 5 /\ reg166_5.size = 2 := by and_intros <;> kernel_rfl
theorem code166_is : f166.body = some (.seq (.region 0 reg166_0 false) (.seq (.seq (.region 1 reg166_1 false) (.cond (.tmp 11 ) (.seq (.region 2 reg166_2 false) (.ret)) (.skip))) (.seq (.region 3 reg166_3 false) (.seq (.region 4 reg166_4 false) (.seq (.region 5 reg166_5 false) (.ret)))))) := by kernel_rfl
section
variable {L : La} {sv : Value}
theorem doOne_s (K : Lg L sv) (e : K.E) (op : OpV) (th : Int) (f : FuncId) (fn : Func) (first cap : Array Value) (hf : prog.funcs[f]? = some fn) (hname : (fn.name == "runtime.NumGoroutine") = false) (hb : fn.body.isNone = false) (hdo : DoOK L f first cap) (ht : K.tgt e = L.enter (K.s e) th op) :
  SCall K.toLb 166 #[.func (.func f) first cap, sv, .int .i64 th, Eh op] e (fun v e' => ∃ a sl, K.tgt e' = (K.s e', .inl a) /\ v = Bo a sl /\ LsAt (K.w e).heap.size (K.mine e') sl a.l (K.w e')) := by
 intro fr l hp hl hk
 obtain ⟨fsO, huO⟩ := Ci 45 (by kernel_rfl)
 obtain ⟨fsA, huA⟩ := Ci 42 (by kernel_rfl)
 have hn1 := fun w => run_eql_func (P := prog) (w := w) 151 (.func f) first cap (by kernel_rfl : prog.underlying 151 = some (.func #[130, 3, 45] #[42] false))
 have hn2 := fun w es => ev_eql_func (P := prog) (w := w) 151 (.func f) first cap es (by kernel_rfl : prog.underlying 151 = some (.func #[130, 3, 45] #[42] false))
 unfold LW
 obtain ⟨ok, oa, ob, oc⟩ := op
 simp only [Eh] at *
 rw [enter_at _ func166 code166_is]
 simp only [ntmps166, ez, Nat.reduceAdd, Nat.reduceSub]
 refine Aa z166 ?_
 (refine Wa ?_; try walk_nrm)
 (refine Wa ?_; try walk_nrm)
 refine Aa z166 ?_
 have hsz : (((K.w e).alloc (.cells #[.int .i64 ok, .int .i64 oa, .int .i64 ob, .int .i64 oc] 45)).alloc (.cells #[.bool false, .int .i64 0, .slice none 0 0] 42)).heap.size = (K.w e).heap.size + 2 := by simp
 have hA1 : ((K.w e).alloc (.cells #[.int .i64 ok, .int .i64 oa, .int .i64 ob, .int .i64 oc] 45)).heap.size = (K.w e).heap.size + 1 := by simp
 have c1 : (((K.w e).alloc (.cells #[.int .i64 ok, .int .i64 oa, .int .i64 ob, .int .i64 oc] 45)).alloc (.cells #[.bool false, .int .i64 0, .slice none 0 0] 42)).heap[(K.w e).heap.size]? = some (.cells #[.int .i64 ok, .int .i64 oa, .int .i64 ob, .int .i64 oc] 45) := by
  rw [Ad _ _ (by omega)]
  exact hAw _ _
 have c2 : (((K.w e).alloc (.cells #[.int .i64 ok, .int .i64 oa, .int .i64 ob, .int .i64 oc] 45)).alloc (.cells #[.bool false, .int .i64 0, .slice none 0 0] 42)).heap[(K.w e).heap.size + 1]? = some (.cells #[.bool false, .int .i64 0, .slice none 0 0] 42) := by
  have := hAw ((K.w e).alloc (.cells #[.int .i64 ok, .int .i64 oa, .int .i64 ob, .int .i64 oc] 45)) (.cells #[.bool false, .int .i64 0, .slice none 0 0] 42)
  rwa [hA1] at this
 obtain ⟨e1, m1⟩ := K.grow e (w' := ((K.w e).alloc (.cells #[.int .i64 ok, .int .i64 oa, .int .i64 ob, .int .i64 oc] 45)).alloc (.cells #[.bool false, .int .i64 0, .slice none 0 0] 42)) (by omega) (fun b hb' => by
  rw [Ad _ _ (by omega)]
  exact Ad _ _ hb')
 try simp only [hA1]
 generalize hw2 : ((K.w e).alloc (.cells #[.int .i64 ok, .int .i64 oa, .int .i64 ob, .int .i64 oc] 45)).alloc (.cells #[.bool false, .int .i64 0, .slice none 0 0] 42) = w2 at *
 generalize hN : (K.w e).heap.size = N at *
 refine Walk.loadS 45 (.tmp 7) Ah (by rfl) (by decide) rfl N 0 [.int .i64 ok, .int .i64 oa, .int .i64 ob, .int .i64 oc] (.struct fsO) rfl (fun j v hj => ?_) huO rfl (by kernel_rfl) ?_
 ·rw [Nat.zero_add, Ab c1]
  simpa using hj
 walk_nrm
 refine Aa z166 ?_
 refine Walk.ctl rfl (fun w' => Ds Ah (by rfl) (by decide) rfl rfl hf hname hb) ?_
 walk_nrm
 generalize hX : Frame.at _ _ _ = X
 refine Gb (l := X :: fr :: l) m1 ?_
 have hpX : Cf X := by subst hX; exact ⟨rfl, rfl, _, func166⟩
 have hpl : ∀ x ∈ fr :: l, Cf x := fun x hx => by
  rcases List.mem_cons.1 hx with rfl | hx
  ·exact hp
  ·exact hl x hx
 refine (Db K (hdo sv (Fz K e1) (fz0 K e1) th ⟨ok, oa, ob, oc⟩ (by show K.tgt e1 = L.enter (K.s e1) _ _; rw [m1.tgt, m1.s, ht]))) X (fr :: l) hpX hpl ?_
 rintro v e2 ⟨hkept, a, sl, ht2, rfl, hls, hlsn⟩
 replace hls : LsR sl a.l (K.w e2) := hls
 obtain ⟨hm2, hb2⟩ := hkept (N + 1) (m1.new (by omega) (by omega))
 rw [m1.w, c2] at hb2
 have hap2 := (K.mineA e2 _ hm2).1
 have hlt2 := (K.mineA e2 _ hm2).2.2
 rw [<- hX]
 clear hX hpX
 unfold LW
 simp only [Bo]
 refine Walk.finish Ah ?_
 walk_nrm
 (refine Wa ?_; try walk_nrm)
 have hap3 := K.newA e2 _ (Nat.le_refl (K.w e2).heap.size)
 have c3 := hAw (K.w e2) (.cells #[.bool false, .int .i64 0, .slice none 0 0] 42)
 have c4 : ((K.w e2).alloc (.cells #[.bool false, .int .i64 0, .slice none 0 0] 42)).heap[N + 1]? = _ := (Ad _ _ hlt2).trans hb2
 have hs3 : ((K.w e2).alloc (.cells #[.bool false, .int .i64 0, .slice none 0 0] 42)).heap.size = (K.w e2).heap.size + 1 := by simp
 have o3 : ∀ b, b < (K.w e2).heap.size -> ((K.w e2).alloc (.cells #[.bool false, .int .i64 0, .slice none 0 0] 42)).heap[b]? = (K.w e2).heap[b]? := fun b hb' => Ad _ _ hb'
 generalize hM : (K.w e2).heap.size = M at *
 generalize (K.w e2).alloc (.cells #[.bool false, .int .i64 0, .slice none 0 0] 42) = w3 at *
 refine Am 42 (.tmp 9) (.tmp 17) Ah (by rfl) (by decide) rfl M #[.bool a.ok, .int .i64 a.n, sl] _ 42 rfl rfl c3 (by kernel_rfl) (by rfl) (by rcases hls with ⟨_, _, rfl, _⟩; simp [Value.oneCell']) hap3 ?_
 have c5 := Ba (cells := #[.bool a.ok, .int .i64 a.n, sl]) c3
 have c6 : (w3.setRow M #[.bool a.ok, .int .i64 a.n, sl]).heap[N + 1]? = _ := (Ap w3 _ (show N + 1 ≠ M by omega)).trans c4
 have hs4 := Ay w3 M #[.bool a.ok, .int .i64 a.n, sl]
 have o4 : ∀ b, b < M -> (w3.setRow M #[.bool a.ok, .int .i64 a.n, sl]).heap[b]? = (K.w e2).heap[b]? := fun b hb' => (Ap w3 _ (show b ≠ M by omega)).trans (o3 b hb')
 generalize w3.setRow M #[.bool a.ok, .int .i64 a.n, sl] = w4 at *
 have hle3 := hls.same (w' := w4) (fun b hb' => o4 b (by omega))
 have d2 := Ab c5 2
 have z2 := Av c5 2
 simp only [List.getElem?_toArray, List.getElem?_cons_succ, List.getElem?_cons_zero] at d2
 have hs4' : w4.heap.size = M + 1 := by omega
 walk_nrm
 refine Aa z166 ?_
 refine qW (Post := fun v w' => LsAt w4.heap.size (fun b => w4.heap.size <= b /\ b < w'.heap.size) v a.l w' /\ w4.heap.size <= w'.heap.size /\ ∀ b, b < w4.heap.size -> w'.heap[b]? = w4.heap[b]?) func200 ?_ ?_
 ·walk_nrm
  exact clone_w w4 sl a.l hle3 hlsn (fun b hb => K.newA e2 b (by omega))
 rintro sl' w4' ⟨hls', hs4'', o4''⟩
 obtain ⟨sa, sc, rfl⟩ : ∃ sa sc, sl' = .slice sa a.l.length sc := by
  obtain ⟨x, y, h, _⟩ := hls'
  exact ⟨x, y, h⟩
 have c5' := (o4'' M (by omega)).trans c5
 have d2' := Ab c5' 2
 have z2' := Av c5' 2
 simp only [List.getElem?_toArray, List.getElem?_cons_succ, List.getElem?_cons_zero] at d2'
 clear d2 z2
 have d2 := d2'
 have z2 := z2'
 clear d2' z2'
 walk_nrm
 refine Aa z166 ?_
 (have hfr := hap3.1 ⟨M, 2, none⟩ rfl; refine Ws hfr d2 ?_; clear hfr; try walk_nrm)
 have c7 : (w4'.setCell ⟨M, 2, none⟩ (.slice sa a.l.length sc)).heap[M]? = some (.cells #[.bool a.ok, .int .i64 a.n, (.slice sa a.l.length sc)] 42) := by
  rw [Ao _ _ c5']
  simp
 have c8 : (w4'.setCell ⟨M, 2, none⟩ (.slice sa a.l.length sc)).heap[N + 1]? = _ := (Ac w4' _ _ _ (show N + 1 ≠ M by omega)).trans ((o4'' _ (by omega)).trans c6)
 have hs5 := Ai w4' ⟨M, 2, none⟩ (.slice sa a.l.length sc)
 have o5 : ∀ b, b < M -> (w4'.setCell ⟨M, 2, none⟩ (.slice sa a.l.length sc)).heap[b]? = (K.w e2).heap[b]? := fun b hb' => (Ac w4' _ _ _ (show b ≠ M by omega)).trans ((o4'' b (by omega)).trans (o4 b hb'))
 have hls5 := hls'.same (w' := w4'.setCell ⟨M, 2, none⟩ (.slice sa a.l.length sc)) (fun b hb' => Ac w4' _ _ _ (show b ≠ M by omega))
 generalize w4'.setCell ⟨M, 2, none⟩ (.slice sa a.l.length sc) = w5 at *
 refine Aa z166 ?_
 refine Walk.loadS 42 (.tmp 9) Ah (by rfl) (by decide) rfl M 0 [.bool a.ok, .int .i64 a.n, (.slice sa a.l.length sc)] (.struct fsA) rfl (fun j v hj => ?_) huA rfl (by kernel_rfl) ?_
 ·rw [Nat.zero_add, Ab c7]
  simpa using hj
 walk_nrm
 refine Am 42 (.tmp 8) (.tmp 22) Ah (by rfl) (by decide) rfl (N + 1) #[.bool a.ok, .int .i64 a.n, (.slice sa a.l.length sc)] _ 42 rfl rfl c8 (by kernel_rfl) (by rfl) (by simp [Value.oneCell']) hap2 ?_
 have c9 := Ba (cells := #[.bool a.ok, .int .i64 a.n, (.slice sa a.l.length sc)]) c8
 have hls6 := hls5.same (w' := w5.setRow (N + 1) #[.bool a.ok, .int .i64 a.n, (.slice sa a.l.length sc)]) (fun b hb' => Ap w5 _ (show b ≠ N + 1 by omega))
 obtain ⟨e3, m3⟩ := K.own e2 (w' := w5.setRow (N + 1) #[.bool a.ok, .int .i64 a.n, (.slice sa a.l.length sc)]) (by rw [Ay]; omega) (fun b hb' hbm => (Ap w5 _ (fun he : b = N + 1 => hbm (by rw [he]; exact hm2))).trans (o5 b (by omega)))
 have hnew : ∀ b, (w4.heap.size <= b /\ b < w4'.heap.size) -> K.mine e3 b := fun b hb => (m3.mine b).2 (.inr ⟨by omega, by rw [Ay]; omega⟩)
 generalize w5.setRow (N + 1) #[.bool a.ok, .int .i64 a.n, (.slice sa a.l.length sc)] = w6 at *
 walk_nrm
 refine Aa z166 ?_
 refine Bv (T := N + 1) rfl rfl rfl func166 rfl (by rfl) c9 (by kernel_rfl) (by kernel_rfl) ?_
 refine Gb m3 (hk _ e3 ⟨a, (.slice sa a.l.length sc), ?_, rfl, ?_⟩)
 ·rw [m3.tgt, m3.s]
  exact ht2
 ·rw [m3.w]
  exact (hls6.imp hnew).low (by omega)
end
end Go.Proofs.Ytflcclneedldoaa
