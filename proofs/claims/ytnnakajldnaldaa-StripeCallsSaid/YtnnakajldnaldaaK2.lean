/- Part 2. -/
import Derived.Test.YtnnakajldnaldaaK1
set_option linter.unusedSimpArgs false
set_option linter.unusedVariables false
set_option maxHeartbeats 8000000
set_option maxRecDepth 100000
namespace Go.Proofs.Ytnnakajldnaldaa
open Go.Conc Go.RowKit Go.Relay
open Go.ConcN (upd upd_ne upd_same)
theorem size55_0 : reg55_0.size = 2 := by kernel_rfl
theorem size55_1 : reg55_1.size = 2 := by kernel_rfl
end Go.Proofs.Ytnnakajldnaldaa
