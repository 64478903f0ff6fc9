/- Part 5. -/
import Derived.Test.YtnnakajldnaldaaK1
set_option linter.unusedSimpArgs false
set_option linter.unusedVariables false
set_option maxHeartbeats 8000000
set_option maxRecDepth 100000
namespace Go.Proofs.Ytnnakajldnaldaa
open Go.Conc Go.RowKit Go.Relay
open Go.ConcN (upd upd_ne upd_same)
theorem size17_0 : reg17_0.size = 1 := by kernel_rfl
theorem size17_1 : reg17_1.size = 2 := by kernel_rfl
theorem size17_2 : reg17_2.size = 1 := by kernel_rfl
theorem size17_3 : reg17_3.size = 7 := by kernel_rfl
end Go.Proofs.Ytnnakajldnaldaa
