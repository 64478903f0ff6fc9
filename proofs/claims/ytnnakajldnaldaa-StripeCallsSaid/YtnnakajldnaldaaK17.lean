/- Part 17. -/
import Derived.Test.YtnnakajldnaldaaK1
import Derived.Test.YtnnakajldnaldaaK2
import Derived.Test.YtnnakajldnaldaaK5
import Derived.Test.YtnnakajldnaldaaK9
import Derived.Test.YtnnakajldnaldaaK16
set_option linter.unusedSimpArgs false
set_option linter.unusedVariables false
set_option maxHeartbeats 8000000
set_option maxRecDepth 100000
namespace Go.Proofs.Ytnnakajldnaldaa
open Go.Conc Go.RowKit Go.Relay
open Go.ConcN (upd upd_ne upd_same)
structure Closing (f : FuncId) (t : Tmp) (v : Value) (g : Goroutine) : Prop where
  all : ∃ fr, g = G fr [] ∧ fr.mode = .returning ∧ fr.kind = .normal ∧ fr.defers = [] ∧ fr.fn = f ∧ fr.tmps.getD t undef = v
end Go.Proofs.Ytnnakajldnaldaa
