/- Part 12. -/
import Derived.Test.YtdcjgmlgmjjogaaJ1
import Derived.Test.YtdcjgmlgmjjogaaJ2
import Derived.Test.YtdcjgmlgmjjogaaJ3
import Derived.Test.YtdcjgmlgmjjogaaJ4
import Derived.Test.YtdcjgmlgmjjogaaJ5
import Derived.Test.YtdcjgmlgmjjogaaJ6
import Derived.Test.YtdcjgmlgmjjogaaJ8
import Derived.Test.YtdcjgmlgmjjogaaJ11
import Derived.Test.YtdcjgmlgmjjogaaJ12
import Derived.Test.YtdcjgmlgmjjogaaJ13
import Derived.Test.YtdcjgmlgmjjogaaJ15
import Derived.Test.YtdcjgmlgmjjogaaJ16
import Derived.Test.YtdcjgmlgmjjogaaJ17
import Derived.Test.YtdcjgmlgmjjogaaJ18
import Derived.Test.YtdcjgmlgmjjogaaJ20
import Derived.Test.YtdcjgmlgmjjogaaJ22
import Derived.Test.YtdcjgmlgmjjogaaJ23
import Derived.Test.YtdcjgmlgmjjogaaJ24
import Derived.Test.YtdcjgmlgmjjogaaJ25
set_option linter.unusedSimpArgs false
set_option linter.unusedVariables false
set_option maxHeartbeats 8000000
set_option maxRecDepth 100000
namespace Go.Proofs.Ytdcjgmlgmjjogaa
open Go.Conc Go.RowKit Go.Relay
open Go.ConcN (upd upd_ne upd_same)
structure OwI (W w : World) (l : List OpV) (oa : Option Addr) (oc : Nat) : Prop where
  row : w.ownsRow W.heap.size 34 4 (.slice oa l.length oc) l.length (opRow l)
  old : ∀ b, b < W.heap.size → w.heap[b]? = W.heap[b]?
  size : W.heap.size ≤ w.heap.size
end Go.Proofs.Ytdcjgmlgmjjogaa
