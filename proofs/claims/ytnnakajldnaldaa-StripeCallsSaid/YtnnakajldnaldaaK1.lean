/- Part 1. -/
import Derived.Test.YtnnakajldnaldaaJ1
import Derived.Test.YtnnakajldnaldaaJ2
import Derived.Test.YtnnakajldnaldaaJ3
import Derived.Test.YtnnakajldnaldaaJ4
import Derived.Test.YtnnakajldnaldaaJ5
import Derived.Test.YtnnakajldnaldaaJ6
import Derived.Test.YtnnakajldnaldaaJ8
import Derived.Test.YtnnakajldnaldaaJ10
import Derived.Test.YtnnakajldnaldaaJ11
import Derived.Test.YtnnakajldnaldaaJ12
import Derived.Test.YtnnakajldnaldaaJ13
import Derived.Test.YtnnakajldnaldaaJ14
import Derived.Test.YtnnakajldnaldaaJ15
import Derived.Test.YtnnakajldnaldaaJ16
import Derived.Test.YtnnakajldnaldaaJ17
import Derived.Test.YtnnakajldnaldaaJ18
import Derived.Test.YtnnakajldnaldaaJ21
import Derived.Test.YtnnakajldnaldaaJ22
import Derived.Test.YtnnakajldnaldaaJ23
import Derived.Test.YtnnakajldnaldaaJ24
import Derived.Test.YtnnakajldnaldaaJ26
import Derived.Test.YtnnakajldnaldaaJ27
import Derived.Test.YtnnakajldnaldaaJ28
import Derived.Test.YtnnakajldnaldaaJ30
import Derived.Conc.CompanyMem
import Derived.Conc.TokenWords
set_option linter.unusedSimpArgs false
set_option linter.unusedVariables false
set_option maxHeartbeats 8000000
set_option maxRecDepth 100000
namespace Go.Relay
section
open Go.Conc Go.RowKit
open Go.ConcN (upd)
section
variable {P : Program} {main : Bool} {V : Nat → Option Wait} {Stop Stop' : Goroutine → World → Prop} {g : Goroutine} {w w' : World} {es : Array Event}
variable {b : Frame} {a : Act} {k : List Item} {cs : List Frame} {ops : Array Oper} {i : Nat} {rest : List Nat} {o : Oper}
theorem Walk.ret0 {fn : Func} {todo : List Item} {c : Frame} {Post : Value → World → Prop} (hn : b.kind = .normal) (hd : a.defers = []) (hf : P.funcs[b.fn]? = some fn) (hr : fn.results = #[]) (h : ∀ d, Post (.tuple #[]) (w.at d)) :
    Walk P main (DR V) (fun g w' => ∃ v, Post v w' ∧ g = G (c.finish v) cs) (G { b.at a todo with mode := .returning } (c :: cs)) w :=
  Walk.ctl rfl (fun w => stepG_leave hn hd hf (results_none hr _ P w) (events_results_none hr _ _)) (.stop fun d => ⟨_, h d, rfl⟩)
end
end
end Go.Relay
