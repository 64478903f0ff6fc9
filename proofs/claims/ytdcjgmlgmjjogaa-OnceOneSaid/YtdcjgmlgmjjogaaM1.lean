/- Part 1. -/
import Derived.Test.YtdcjgmlgmjjogaaJ1
import Derived.Test.YtdcjgmlgmjjogaaJ2
import Derived.Test.YtdcjgmlgmjjogaaJ3
import Derived.Test.YtdcjgmlgmjjogaaJ4
import Derived.Test.YtdcjgmlgmjjogaaJ5
import Derived.Test.YtdcjgmlgmjjogaaJ6
import Derived.Test.YtdcjgmlgmjjogaaJ8
import Derived.Test.YtdcjgmlgmjjogaaJ11
import Derived.Test.YtdcjgmlgmjjogaaJ12
import Derived.Test.YtdcjgmlgmjjogaaJ13
import Derived.Test.YtdcjgmlgmjjogaaJ15
import Derived.Test.YtdcjgmlgmjjogaaJ16
import Derived.Test.YtdcjgmlgmjjogaaJ17
import Derived.Test.YtdcjgmlgmjjogaaJ18
import Derived.Test.YtdcjgmlgmjjogaaJ20
import Derived.Test.YtdcjgmlgmjjogaaJ22
import Derived.Test.YtdcjgmlgmjjogaaJ23
import Derived.Test.YtdcjgmlgmjjogaaJ24
import Derived.Test.YtdcjgmlgmjjogaaJ25
set_option linter.unusedSimpArgs false
set_option linter.unusedVariables false
set_option maxHeartbeats 8000000
set_option maxRecDepth 100000
namespace Go.Proofs.Ytdcjgmlgmjjogaa
open Go.Conc Go.RowKit Go.Relay
open Go.ConcN (upd upd_ne upd_same)
section
section
variable {X : Type}
theorem bornsA_inv (C : Abs X) (PB : Nat → X → Prop) (N : Nat) (hb : ∀ k x, k < N → PB k x → PB (k + 1) (C.born x k)) : ∀ (n k : Nat) (x : X), k + n = N → PB k x → PB N (bornsA C n k x)
  | 0, k, x, h, hp => by
    have : k = N := by omega
    exact this ▸ hp
  | n + 1, k, x, h, hp => bornsA_inv C PB N hb n (k + 1) _ (by omega) (hb k x (by omega) hp)
variable {C : Abs X} {P : X → List Nat → Prop}
theorem stepA_inv (hn : ∀ (x : X) (l : List Nat) (i : Nat), P x l → i < C.n → C.out x i = none → (l.length : Int) < C.most → P (C.next x i) (l ++ [i])) {st : X × List Nat} (z : Int) (h : P st.1 st.2) : P (stepA C st z).1 (stepA C st z).2 := by
  unfold stepA
  split
  · rename_i hc
    obtain ⟨h1, h2, h3, h4⟩ := hc
    simp only [overA, Bool.or_eq_false_iff, decide_eq_false_iff_not] at h1
    exact hn _ _ _ h (by omega) h4 (by omega)
  · exact h
theorem foldA_inv (hn : ∀ (x : X) (l : List Nat) (i : Nat), P x l → i < C.n → C.out x i = none → (l.length : Int) < C.most → P (C.next x i) (l ++ [i])) : ∀ (l : List Int) {st : X × List Nat}, P st.1 st.2 → P (l.foldl (stepA C) st).1 (l.foldl (stepA C) st).2
  | [], _, h => h
  | z :: l, st, h => foldA_inv hn l (stepA_inv hn z h)
theorem roundA_inv (hn : ∀ (x : X) (l : List Nat) (i : Nat), P x l → i < C.n → C.out x i = none → (l.length : Int) < C.most → P (C.next x i) (l ++ [i])) {st : X × List Nat} (h : P st.1 st.2) : P (roundA C st).1 (roundA C st).2 := by
  unfold roundA
  generalize List.range C.n = l
  induction l generalizing st with
  | nil => exact h
  | cons i l ih => exact ih (stepA_inv hn _ h)
theorem restA_inv (hn : ∀ (x : X) (l : List Nat) (i : Nat), P x l → i < C.n → C.out x i = none → (l.length : Int) < C.most → P (C.next x i) (l ++ [i])) : ∀ (f : Nat) {st : X × List Nat}, P st.1 st.2 → P (restA C f st).1 (restA C f st).2
  | 0, _, h => h
  | f + 1, st, h => by
    unfold restA
    split
    · exact h
    · exact restA_inv hn f (roundA_inv hn h)
theorem runA_inv (PB : Nat → X → Prop) (x0 : X) (h0 : PB 0 x0) (hb : ∀ k x, k < C.n → PB k x → PB (k + 1) (C.born x k)) (hs : ∀ x, PB C.n x → P x [])
    (hn : ∀ (x : X) (l : List Nat) (i : Nat), P x l → i < C.n → C.out x i = none → (l.length : Int) < C.most → P (C.next x i) (l ++ [i])) (sl : List Int) : P (runA C x0 sl).1 (runA C x0 sl).2 := by
  unfold runA followA
  exact restA_inv hn _ (foldA_inv hn sl (hs _ (bornsA_inv C PB C.n hb C.n 0 x0 (by omega) h0)))
end
theorem playO_inv {L : La} (s0 : L.Sg) (ops : Nat → List OpV) (n : Nat) (most : Int) (sl : List Int) (PB : Nat → OX L → Prop) (P : OX L → List Nat → Prop) (h0 : PB 0 (x0O L s0)) (hb : ∀ k x, k < n → PB k x → PB (k + 1) (bornO ops x k)) (hs : ∀ x, PB n x → P x [])
    (hn : ∀ (x : OX L) (l : List Nat) (i : Nat), P x l → i < n → x.out i = none → (l.length : Int) < min (max most 0) 1048576 → P (nextO x i) (l ++ [i])) : P (playO L s0 ops n most sl).1 (playO L s0 ops n most sl).2 := by
  unfold playO
  exact runA_inv (C := absO L n (min (max most 0) 1048576) ops) (P := P) PB (x0O L s0) h0 hb hs hn sl
end
end Go.Proofs.Ytdcjgmlgmjjogaa
