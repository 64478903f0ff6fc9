/- Part 15. -/
import Derived.Test.YtnnakajldnaldaaK14
set_option linter.unusedSimpArgs false
set_option linter.unusedVariables false
set_option maxHeartbeats 8000000
set_option maxRecDepth 100000
namespace Go.Proofs.Ytnnakajldnaldaa
open Go.Conc Go.RowKit Go.Relay
open Go.ConcN (upd upd_ne upd_same)
section
section
variable {main : Bool}
theorem rnew_w (xa : Option Addr) (xs : List Int) (xc : Nat) (hxn : xs.length ≤ 17592186044416) (T : Nat → R5) (w : World) (hx : SlIn xa xs w) : CallW Try.prog main (fun _ => none) 33 #[.slice xa xs.length xc] w (NewR xs T w) := by
  intro c cs
  refine (new_in xa xs.length xc (c :: cs) w).then ?_
  rintro _ _ ⟨u, w1, rfl, I, d, rfl⟩
  refine Walk.back ?_ d
  by_cases h0 : xs.length = 0
  · have hnil : xs = [] := List.eq_nil_of_length_eq_zero h0
    subst hnil
    refine (new_end0 xa xc w.heap.size T w w1 rfl I u c cs).mono ?_
    rintro g w' ⟨rfl, cg, cc, I2, hC⟩
    exact ⟨_, ⟨rfl, cg, cc, I2, hC⟩, rfl⟩
  · have loop : ∀ (r j : Nat) (cv : Value) (w2 : World) (u : Nat → Value), j + r = min xs.length 64 → NwI w.heap.size xs j cv w w2 →
        Walk Try.prog main (DR (fun _ => none)) (fun g w' => g = G (c.finish (.pointer (some ⟨w.heap.size, 0, none⟩))) cs ∧ ∃ cg cc, M5 w.heap.size w.heap.size cg cc 0 0 0 (stN xs.length) none (spJ xs (min xs.length 64)) T w' ∧ Chg (fun _ => False) w w') (G (hdNew5 (.slice xa xs.length xc) w.heap.size j u) (c :: cs)) w2 := by
      intro r
      induction r with
      | zero =>
        intro j cv w2 u hj I2
        have hj' : j = min xs.length 64 := hj
        have := new_end1 (main := main) xa xs xc j w.heap.size T cv hj' (by omega) w w2 rfl I2 u c cs
        rw [hj'] at this ⊢
        exact this
      | succ r ih =>
        intro j cv w2 u hj I2
        refine (new_go xa xs xc j w.heap.size cv (by omega) (by omega) hxn w w2 rfl hx I2 u (c :: cs)).then ?_
        rintro _ _ ⟨u3, w3, cv', rfl, I3, d, rfl⟩
        exact Walk.back (ih (j + 1) cv' w3 u3 (by omega) I3) d
    refine (loop (min xs.length 64) 0 (.slice none 0 0) w1 u (by omega) ⟨I.hd, by simpa using I.row, I.old, I.lt⟩).mono ?_
    rintro g w' ⟨rfl, cg, cc, I2, hC⟩
    exact ⟨_, ⟨rfl, cg, cc, I2, hC⟩, rfl⟩
end
end
end Go.Proofs.Ytnnakajldnaldaa
