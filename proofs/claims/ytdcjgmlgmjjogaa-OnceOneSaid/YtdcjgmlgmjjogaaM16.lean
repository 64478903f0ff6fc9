/- Part 16. -/
import Derived.Test.YtdcjgmlgmjjogaaM15
set_option linter.unusedSimpArgs false
set_option linter.unusedVariables false
set_option maxHeartbeats 8000000
set_option maxRecDepth 100000
namespace Go.Proofs.Ytdcjgmlgmjjogaa
open Go.Conc Go.RowKit Go.Relay
open Go.ConcN (upd upd_ne upd_same)
structure Closing (f : FuncId) (t : Tmp) (v : Value) (g : Goroutine) : Prop where
  all : ∃ fr, g = G fr [] ∧ fr.mode = .returning ∧ fr.kind = .normal ∧ fr.defers = [] ∧ fr.fn = f ∧ fr.tmps.getD t undef = v
theorem q5 {α β γ δ ε : Type} {a a' : α} {b b' : β} {c c' : γ} {d d' : δ} {e e' : ε} (h : (a, b, c, d, e) = (a', b', c', d', e')) : a = a' ∧ b = b' ∧ c = c' ∧ d = d' ∧ e = e' := by simpa using h
theorem sets_run (c : Frame) (cs : List Frame) (w : World) : Runs (fun g w' => g = G (c.finish (.bool true)) cs ∧ (∀ b, b < w.heap.size → w'.heap[b]? = w.heap[b]?) ∧ w.heap.size ≤ w'.heap.size) (G (Frame.enter Try.prog 9 #[] .normal) (c :: cs)) w := by
  refine Runs.walk (sets_in c cs w) ?_
  rintro _ w1 ⟨fr, rfl, O1, Z1, I1, hs1, hB⟩
  refine Runs.then (oplay_any 1 (.slice (some ⟨w.heap.size + 2, 0, none⟩) 2 2) 100 (some ⟨w.heap.size + 2, 0, none⟩) (w.heap.size + 2) 0 2 2 (fun _ => rfl) (by decide) (seOa w.heap.size) (fun _ => 1) (fun _ => 1) seOps (some ⟨w.heap.size + 3, 0, none⟩) 5 seSl (by decide) fr (c :: cs) w1 I1 (fun j z hz => ⟨_, _, rfl, hs1 j z hz⟩) fun w' _ => firstOps_some (some ⟨w.heap.size + 2, 0, none⟩) 2 2 w' (Nat.le_refl _) (.inr ⟨_, rfl⟩)) ?_
  rintro _ w2 ⟨cells, H, rfl⟩
  have O2 := H.old
  have Z2 := H.size
  have hT := H.tr
  rw [cellsN1] at hT
  obtain ⟨e1, e2, e3, e4, e5⟩ := q5 (se_run (w1.heap.size + 1))
  unfold sePlay at e1 e2 e3 e4 e5
  rw [e1, e2] at hT
  refine Runs.walk (hB cells _ _ w2 hT e3 e4 e5) ?_
  rintro _ w3 ⟨rfl, O3, Z3⟩
  exact .now ⟨rfl, fun b hb => (O3 b (by omega)).trans ((O2 b (by omega)).trans (O1 b hb)), by omega⟩
end Go.Proofs.Ytdcjgmlgmjjogaa
