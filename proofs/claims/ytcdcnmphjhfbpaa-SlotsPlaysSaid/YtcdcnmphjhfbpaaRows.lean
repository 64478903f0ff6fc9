/-
  No cell of these rows narrows 'for every input' (looked for: loops, veiled, ifaces, maps, wideKeys, modest, calm, conditions, laid).
  DERIVED. THE GIVEN ROWS OF THIS SEAT. 10 by the template 'for every input the law returns true; each argument reads behind the call as it read before'; 0 by the template 'total and deterministic' (their statements: YtcdcnmphjhfbpaaTotals.lean).
  GIVEN WITH THE SEED: the statements are not yours to turn. If you find one false, say at which input.
  Laid BY PROGRAM, IN A SANDBOX (cutbox-rows.mjs): the forced cells as the released guide's own fill.sh prints them over the translation 3f90ff9193558eda… (all of the seat's roots in one cut). By AI agents, Wed Nov 11 2026. No macro, syntax, notation, axiom, sorry.
-/
import Derived.Test.YtcdcnmphjhfbpaaChecked
import GoSem.Claim
import GoSem.ClaimJoined
import GoSem.ClaimMapViews
import Derived.JoinedTies
import Derived.KernelRfl
namespace Go.Proofs.Ytcdcnmphjhfbpaa
/- THE CELL 'sum', in the pinned program and in every row, IS THE sha256 OF THE DUMP (.gsa) THAT YtcdcnmphjhfbpaaProg.lean LOADS. Nothing in Lean hashes anything: it is a label: what it is worth is what the hold of that sum in a sandbox is worth. -/
noncomputable def Try.pinned : Pinned := { name := "ytcdcnmphjhfbpaa", sum := "3f90ff9193558edad7ec0abaf7480b72887b5a33a570b2ace49cdfa130324c36", checked := Try.checked }
namespace Rows
def none {H : Type} : Left H := { results := [], args := [] }

/-- 'carillonlaw11.SlotsPlays': WHATEVER THE INPUT: true; the input reads as it did. -/
def slotsPlaysSpec : ChangeSpec := { name := "slotsPlays", fn := fun _ => fun
  | [d] => { results := [.lit (.bool true)], args := [d] }
  | _ => none }
def slotsPlaysRow : OpenClaim := { program := "ytcdcnmphjhfbpaa", sum := "3f90ff9193558edad7ec0abaf7480b72887b5a33a570b2ace49cdfa130324c36", func := "carillon/carillonlaw11.SlotsPlays", spec := "slotsPlays", inPlace := ["sync/atomic.StoreInt64"], unfollowed := true, recurses := true, leaving := true, apart := false }
def SlotsPlaysSaid : Prop := slotsPlaysRow.holds Try.pinned (OpenSpec.ofChange slotsPlaysSpec)

/-- ITS FALSE NEIGHBOUR: 'it returns false'. Refute it at one input. -/
def slotsPlaysWrong : ChangeSpec := { name := "slotsPlays", fn := fun _ => fun
  | [d] => { results := [.lit (.bool false)], args := [d] }
  | _ => none }
def SlotsPlaysWrongFalsely : Prop := slotsPlaysRow.holds Try.pinned (OpenSpec.ofChange slotsPlaysWrong)

/-- 'carillonlaw11.SlotsCalls': WHATEVER THE INPUT: true; the input reads as it did. -/
def slotsCallsSpec : ChangeSpec := { name := "slotsCalls", fn := fun _ => fun
  | [d1, d2] => { results := [.lit (.bool true)], args := [d1, d2] }
  | _ => none }
def slotsCallsRow : OpenClaim := { program := "ytcdcnmphjhfbpaa", sum := "3f90ff9193558edad7ec0abaf7480b72887b5a33a570b2ace49cdfa130324c36", func := "carillon/carillonlaw11.SlotsCalls", spec := "slotsCalls", inPlace := ["sync/atomic.StoreInt64"], unfollowed := true, recurses := true, leaving := true, apart := false }
def SlotsCallsSaid : Prop := slotsCallsRow.holds Try.pinned (OpenSpec.ofChange slotsCallsSpec)

/-- ITS FALSE NEIGHBOUR: 'it returns false'. Refute it at one input. -/
def slotsCallsWrong : ChangeSpec := { name := "slotsCalls", fn := fun _ => fun
  | [d1, d2] => { results := [.lit (.bool false)], args := [d1, d2] }
  | _ => none }
def SlotsCallsWrongFalsely : Prop := slotsCallsRow.holds Try.pinned (OpenSpec.ofChange slotsCallsWrong)

/-- 'carillonlaw11.SlotsTrue': WHATEVER THE INPUT: true; the input reads as it did. -/
def slotsTrueSpec : ChangeSpec := { name := "slotsTrue", fn := fun _ => fun
  | [d1, d2, d3, d4] => { results := [.lit (.bool true)], args := [d1, d2, d3, d4] }
  | _ => none }
def slotsTrueRow : OpenClaim := { program := "ytcdcnmphjhfbpaa", sum := "3f90ff9193558edad7ec0abaf7480b72887b5a33a570b2ace49cdfa130324c36", func := "carillon/carillonlaw11.SlotsTrue", spec := "slotsTrue", inPlace := ["sync/atomic.StoreInt64", "(*sync.WaitGroup).Go", "(*sync.WaitGroup).Add", "internal/race.ReleaseMerge", "internal/race.Disable", "internal/race.Enable", "internal/synctest.IsInBubble", "internal/synctest.Associate[sync.WaitGroup]", "sync.fatal", "sync/atomic.OrUint64", "sync/atomic.AddUint64", "internal/race.Read", "sync/atomic.LoadUint64", "sync/atomic.StoreUint64", "internal/synctest.Disassociate[sync.WaitGroup]", "sync.runtime_Semrelease", "(*sync.WaitGroup).Go$1", "(*sync.WaitGroup).Go$1$1", "(*sync.WaitGroup).Done", "(*sync.WaitGroup).Wait", "internal/race.Acquire", "internal/synctest.IsAssociated[sync.WaitGroup]", "sync/atomic.CompareAndSwapUint64", "internal/race.Write", "sync.runtime_SemacquireWaitGroup"], unfollowed := true, recurses := true, leaving := true, apart := false }
def SlotsTrueSaid : Prop := slotsTrueRow.holds Try.pinned (OpenSpec.ofChange slotsTrueSpec)

/-- ITS FALSE NEIGHBOUR: 'it returns false'. Refute it at one input. -/
def slotsTrueWrong : ChangeSpec := { name := "slotsTrue", fn := fun _ => fun
  | [d1, d2, d3, d4] => { results := [.lit (.bool false)], args := [d1, d2, d3, d4] }
  | _ => none }
def SlotsTrueWrongFalsely : Prop := slotsTrueRow.holds Try.pinned (OpenSpec.ofChange slotsTrueWrong)

/-- 'carillonlaw12.SoloPlays': WHATEVER THE INPUT: true; the input reads as it did. -/
def soloPlaysSpec : ChangeSpec := { name := "soloPlays", fn := fun _ => fun
  | [d] => { results := [.lit (.bool true)], args := [d] }
  | _ => none }
def soloPlaysRow : OpenClaim := { program := "ytcdcnmphjhfbpaa", sum := "3f90ff9193558edad7ec0abaf7480b72887b5a33a570b2ace49cdfa130324c36", func := "carillon/carillonlaw12.SoloPlays", spec := "soloPlays", inPlace := ["sync/atomic.StoreInt64"], unfollowed := true, recurses := true, leaving := true, apart := false }
def SoloPlaysSaid : Prop := soloPlaysRow.holds Try.pinned (OpenSpec.ofChange soloPlaysSpec)

/-- ITS FALSE NEIGHBOUR: 'it returns false'. Refute it at one input. -/
def soloPlaysWrong : ChangeSpec := { name := "soloPlays", fn := fun _ => fun
  | [d] => { results := [.lit (.bool false)], args := [d] }
  | _ => none }
def SoloPlaysWrongFalsely : Prop := soloPlaysRow.holds Try.pinned (OpenSpec.ofChange soloPlaysWrong)

/-- 'carillonlaw12.SoloRuns': WHATEVER THE INPUT: true; the input reads as it did. -/
def soloRunsSpec : ChangeSpec := { name := "soloRuns", fn := fun _ => fun
  | [d] => { results := [.lit (.bool true)], args := [d] }
  | _ => none }
def soloRunsRow : OpenClaim := { program := "ytcdcnmphjhfbpaa", sum := "3f90ff9193558edad7ec0abaf7480b72887b5a33a570b2ace49cdfa130324c36", func := "carillon/carillonlaw12.SoloRuns", spec := "soloRuns", inPlace := ["sync/atomic.StoreInt64"], unfollowed := true, recurses := true, leaving := true, apart := false }
def SoloRunsSaid : Prop := soloRunsRow.holds Try.pinned (OpenSpec.ofChange soloRunsSpec)

/-- ITS FALSE NEIGHBOUR: 'it returns false'. Refute it at one input. -/
def soloRunsWrong : ChangeSpec := { name := "soloRuns", fn := fun _ => fun
  | [d] => { results := [.lit (.bool false)], args := [d] }
  | _ => none }
def SoloRunsWrongFalsely : Prop := soloRunsRow.holds Try.pinned (OpenSpec.ofChange soloRunsWrong)

/-- 'carillonlaw12.SoloStops': WHATEVER THE INPUT: true; the input reads as it did. -/
def soloStopsSpec : ChangeSpec := { name := "soloStops", fn := fun _ => fun
  | [d1, d2] => { results := [.lit (.bool true)], args := [d1, d2] }
  | _ => none }
def soloStopsRow : OpenClaim := { program := "ytcdcnmphjhfbpaa", sum := "3f90ff9193558edad7ec0abaf7480b72887b5a33a570b2ace49cdfa130324c36", func := "carillon/carillonlaw12.SoloStops", spec := "soloStops", inPlace := ["sync/atomic.StoreInt64"], unfollowed := true, recurses := true, leaving := true, apart := false }
def SoloStopsSaid : Prop := soloStopsRow.holds Try.pinned (OpenSpec.ofChange soloStopsSpec)

/-- ITS FALSE NEIGHBOUR: 'it returns false'. Refute it at one input. -/
def soloStopsWrong : ChangeSpec := { name := "soloStops", fn := fun _ => fun
  | [d1, d2] => { results := [.lit (.bool false)], args := [d1, d2] }
  | _ => none }
def SoloStopsWrongFalsely : Prop := soloStopsRow.holds Try.pinned (OpenSpec.ofChange soloStopsWrong)

/-- 'carillonlaw12.SoloPlain': WHATEVER THE INPUT: true; the input reads as it did. -/
def soloPlainSpec : ChangeSpec := { name := "soloPlain", fn := fun _ => fun
  | [d1, d2, d3] => { results := [.lit (.bool true)], args := [d1, d2, d3] }
  | _ => none }
def soloPlainRow : OpenClaim := { program := "ytcdcnmphjhfbpaa", sum := "3f90ff9193558edad7ec0abaf7480b72887b5a33a570b2ace49cdfa130324c36", func := "carillon/carillonlaw12.SoloPlain", spec := "soloPlain", inPlace := ["sync/atomic.StoreInt64"], unfollowed := true, recurses := true, leaving := true, apart := false }
def SoloPlainSaid : Prop := soloPlainRow.holds Try.pinned (OpenSpec.ofChange soloPlainSpec)

/-- ITS FALSE NEIGHBOUR: 'it returns false'. Refute it at one input. -/
def soloPlainWrong : ChangeSpec := { name := "soloPlain", fn := fun _ => fun
  | [d1, d2, d3] => { results := [.lit (.bool false)], args := [d1, d2, d3] }
  | _ => none }
def SoloPlainWrongFalsely : Prop := soloPlainRow.holds Try.pinned (OpenSpec.ofChange soloPlainWrong)

/-- 'carillonlaw13.MultiNil': WHATEVER THE INPUT: true; the input reads as it did. -/
def multiNilSpec : ChangeSpec := { name := "multiNil", fn := fun _ => fun
  | [d1, d2] => { results := [.lit (.bool true)], args := [d1, d2] }
  | _ => none }
def multiNilRow : OpenClaim := { program := "ytcdcnmphjhfbpaa", sum := "3f90ff9193558edad7ec0abaf7480b72887b5a33a570b2ace49cdfa130324c36", func := "carillon/carillonlaw13.MultiNil", spec := "multiNil", inPlace := ["sync/atomic.StoreInt64", "sync/atomic.CompareAndSwapInt64"], unfollowed := true, recurses := true, leaving := true, apart := false }
def MultiNilSaid : Prop := multiNilRow.holds Try.pinned (OpenSpec.ofChange multiNilSpec)

/-- ITS FALSE NEIGHBOUR: 'it returns false'. Refute it at one input. -/
def multiNilWrong : ChangeSpec := { name := "multiNil", fn := fun _ => fun
  | [d1, d2] => { results := [.lit (.bool false)], args := [d1, d2] }
  | _ => none }
def MultiNilWrongFalsely : Prop := multiNilRow.holds Try.pinned (OpenSpec.ofChange multiNilWrong)

/-- 'carillonlaw13.MultiRuns': WHATEVER THE INPUT: true; the input reads as it did. -/
def multiRunsSpec : ChangeSpec := { name := "multiRuns", fn := fun _ => fun
  | [d1, d2, d3, d4, d5] => { results := [.lit (.bool true)], args := [d1, d2, d3, d4, d5] }
  | _ => none }
def multiRunsRow : OpenClaim := { program := "ytcdcnmphjhfbpaa", sum := "3f90ff9193558edad7ec0abaf7480b72887b5a33a570b2ace49cdfa130324c36", func := "carillon/carillonlaw13.MultiRuns", spec := "multiRuns", inPlace := ["sync/atomic.StoreInt64", "sync/atomic.CompareAndSwapInt64"], unfollowed := true, recurses := true, leaving := true, apart := false }
def MultiRunsSaid : Prop := multiRunsRow.holds Try.pinned (OpenSpec.ofChange multiRunsSpec)

/-- ITS FALSE NEIGHBOUR: 'it returns false'. Refute it at one input. -/
def multiRunsWrong : ChangeSpec := { name := "multiRuns", fn := fun _ => fun
  | [d1, d2, d3, d4, d5] => { results := [.lit (.bool false)], args := [d1, d2, d3, d4, d5] }
  | _ => none }
def MultiRunsWrongFalsely : Prop := multiRunsRow.holds Try.pinned (OpenSpec.ofChange multiRunsWrong)

/-- 'carillonlaw13.MultiSlow': WHATEVER THE INPUT: true; the input reads as it did. -/
def multiSlowSpec : ChangeSpec := { name := "multiSlow", fn := fun _ => fun
  | [d1, d2] => { results := [.lit (.bool true)], args := [d1, d2] }
  | _ => none }
def multiSlowRow : OpenClaim := { program := "ytcdcnmphjhfbpaa", sum := "3f90ff9193558edad7ec0abaf7480b72887b5a33a570b2ace49cdfa130324c36", func := "carillon/carillonlaw13.MultiSlow", spec := "multiSlow", inPlace := ["sync/atomic.StoreInt64", "sync/atomic.CompareAndSwapInt64"], unfollowed := true, recurses := true, leaving := true, apart := false }
def MultiSlowSaid : Prop := multiSlowRow.holds Try.pinned (OpenSpec.ofChange multiSlowSpec)

/-- ITS FALSE NEIGHBOUR: 'it returns false'. Refute it at one input. -/
def multiSlowWrong : ChangeSpec := { name := "multiSlow", fn := fun _ => fun
  | [d1, d2] => { results := [.lit (.bool false)], args := [d1, d2] }
  | _ => none }
def MultiSlowWrongFalsely : Prop := multiSlowRow.holds Try.pinned (OpenSpec.ofChange multiSlowWrong)

/- THE SECOND FORM. 'bulk': how many values and letters a reading holds, each counted each time it is reached (what is shared counts as often as it is met; a slice's spare places count too). A statement '..UptoSaid' is the law's where the arguments, and the package variables that the reading takes, are together of bulk at most 1048576: NARROWER than '..Said'. Prove '..Said' where nothing that the law and all that it calls make is longer than what came in: it says more and counts as full. Else prove '..UptoSaid'. A law counts once. -/
mutual
def uptoBulk {H : Type} : DataW H → Nat
  | .lit (.string bytes) => bytes.length + 1
  | .lit _ => 1
  | .nil => 1
  | .ptr d => uptoBulk d + 1
  | .slice elems spare => uptoBulkAll elems + uptoBulkAll spare + 1
  | .agg parts => uptoBulkAll parts + 1
  | .iface _ d => uptoBulk d + 1
  | .map entries => uptoBulkEntries entries + 1
  | .held _ => 1
def uptoBulkAll {H : Type} : List (DataW H) → Nat
  | [] => 0
  | d :: r => uptoBulk d + uptoBulkAll r
def uptoBulkEntries {H : Type} : List (Lit × DataW H) → Nat
  | [] => 0
  | x :: r => uptoBulkEntry x + uptoBulkEntries r
def uptoBulkEntry {H : Type} : Lit × DataW H → Nat
  | (.string bytes, d) => bytes.length + uptoBulk d + 1
  | (_, d) => uptoBulk d + 1
 end
def uptoSmall : (H : Type) → List (DataW H) → Bool := fun _ ds => decide (uptoBulkAll ds ≤ 1048576)
def OpenSpec.upto (s : _root_.Go.ChangeSpec) : _root_.Go.OpenSpec := { _root_.Go.OpenSpec.ofChange s with cond := some uptoSmall }

/-- 'carillonlaw11.SlotsPlays', WHERE WHAT IT READS IS OF BULK AT MOST 1048576: true; the input reads as it did. -/
def slotsPlaysUptoRow : OpenClaim := { program := "ytcdcnmphjhfbpaa", sum := "3f90ff9193558edad7ec0abaf7480b72887b5a33a570b2ace49cdfa130324c36", func := "carillon/carillonlaw11.SlotsPlays", spec := "slotsPlays", inPlace := ["sync/atomic.StoreInt64"], unfollowed := true, recurses := true, leaving := true, apart := false, narrowed := true }
def SlotsPlaysUptoSaid : Prop := slotsPlaysUptoRow.holds Try.pinned (OpenSpec.upto slotsPlaysSpec)

/-- 'carillonlaw11.SlotsCalls', WHERE WHAT IT READS IS OF BULK AT MOST 1048576: true; the input reads as it did. -/
def slotsCallsUptoRow : OpenClaim := { program := "ytcdcnmphjhfbpaa", sum := "3f90ff9193558edad7ec0abaf7480b72887b5a33a570b2ace49cdfa130324c36", func := "carillon/carillonlaw11.SlotsCalls", spec := "slotsCalls", inPlace := ["sync/atomic.StoreInt64"], unfollowed := true, recurses := true, leaving := true, apart := false, narrowed := true }
def SlotsCallsUptoSaid : Prop := slotsCallsUptoRow.holds Try.pinned (OpenSpec.upto slotsCallsSpec)

/-- 'carillonlaw11.SlotsTrue', WHERE WHAT IT READS IS OF BULK AT MOST 1048576: true; the input reads as it did. -/
def slotsTrueUptoRow : OpenClaim := { program := "ytcdcnmphjhfbpaa", sum := "3f90ff9193558edad7ec0abaf7480b72887b5a33a570b2ace49cdfa130324c36", func := "carillon/carillonlaw11.SlotsTrue", spec := "slotsTrue", inPlace := ["sync/atomic.StoreInt64", "(*sync.WaitGroup).Go", "(*sync.WaitGroup).Add", "internal/race.ReleaseMerge", "internal/race.Disable", "internal/race.Enable", "internal/synctest.IsInBubble", "internal/synctest.Associate[sync.WaitGroup]", "sync.fatal", "sync/atomic.OrUint64", "sync/atomic.AddUint64", "internal/race.Read", "sync/atomic.LoadUint64", "sync/atomic.StoreUint64", "internal/synctest.Disassociate[sync.WaitGroup]", "sync.runtime_Semrelease", "(*sync.WaitGroup).Go$1", "(*sync.WaitGroup).Go$1$1", "(*sync.WaitGroup).Done", "(*sync.WaitGroup).Wait", "internal/race.Acquire", "internal/synctest.IsAssociated[sync.WaitGroup]", "sync/atomic.CompareAndSwapUint64", "internal/race.Write", "sync.runtime_SemacquireWaitGroup"], unfollowed := true, recurses := true, leaving := true, apart := false, narrowed := true }
def SlotsTrueUptoSaid : Prop := slotsTrueUptoRow.holds Try.pinned (OpenSpec.upto slotsTrueSpec)

/-- 'carillonlaw12.SoloPlays', WHERE WHAT IT READS IS OF BULK AT MOST 1048576: true; the input reads as it did. -/
def soloPlaysUptoRow : OpenClaim := { program := "ytcdcnmphjhfbpaa", sum := "3f90ff9193558edad7ec0abaf7480b72887b5a33a570b2ace49cdfa130324c36", func := "carillon/carillonlaw12.SoloPlays", spec := "soloPlays", inPlace := ["sync/atomic.StoreInt64"], unfollowed := true, recurses := true, leaving := true, apart := false, narrowed := true }
def SoloPlaysUptoSaid : Prop := soloPlaysUptoRow.holds Try.pinned (OpenSpec.upto soloPlaysSpec)

/-- 'carillonlaw12.SoloRuns', WHERE WHAT IT READS IS OF BULK AT MOST 1048576: true; the input reads as it did. -/
def soloRunsUptoRow : OpenClaim := { program := "ytcdcnmphjhfbpaa", sum := "3f90ff9193558edad7ec0abaf7480b72887b5a33a570b2ace49cdfa130324c36", func := "carillon/carillonlaw12.SoloRuns", spec := "soloRuns", inPlace := ["sync/atomic.StoreInt64"], unfollowed := true, recurses := true, leaving := true, apart := false, narrowed := true }
def SoloRunsUptoSaid : Prop := soloRunsUptoRow.holds Try.pinned (OpenSpec.upto soloRunsSpec)

/-- 'carillonlaw12.SoloStops', WHERE WHAT IT READS IS OF BULK AT MOST 1048576: true; the input reads as it did. -/
def soloStopsUptoRow : OpenClaim := { program := "ytcdcnmphjhfbpaa", sum := "3f90ff9193558edad7ec0abaf7480b72887b5a33a570b2ace49cdfa130324c36", func := "carillon/carillonlaw12.SoloStops", spec := "soloStops", inPlace := ["sync/atomic.StoreInt64"], unfollowed := true, recurses := true, leaving := true, apart := false, narrowed := true }
def SoloStopsUptoSaid : Prop := soloStopsUptoRow.holds Try.pinned (OpenSpec.upto soloStopsSpec)

/-- 'carillonlaw12.SoloPlain', WHERE WHAT IT READS IS OF BULK AT MOST 1048576: true; the input reads as it did. -/
def soloPlainUptoRow : OpenClaim := { program := "ytcdcnmphjhfbpaa", sum := "3f90ff9193558edad7ec0abaf7480b72887b5a33a570b2ace49cdfa130324c36", func := "carillon/carillonlaw12.SoloPlain", spec := "soloPlain", inPlace := ["sync/atomic.StoreInt64"], unfollowed := true, recurses := true, leaving := true, apart := false, narrowed := true }
def SoloPlainUptoSaid : Prop := soloPlainUptoRow.holds Try.pinned (OpenSpec.upto soloPlainSpec)

/-- 'carillonlaw13.MultiNil', WHERE WHAT IT READS IS OF BULK AT MOST 1048576: true; the input reads as it did. -/
def multiNilUptoRow : OpenClaim := { program := "ytcdcnmphjhfbpaa", sum := "3f90ff9193558edad7ec0abaf7480b72887b5a33a570b2ace49cdfa130324c36", func := "carillon/carillonlaw13.MultiNil", spec := "multiNil", inPlace := ["sync/atomic.StoreInt64", "sync/atomic.CompareAndSwapInt64"], unfollowed := true, recurses := true, leaving := true, apart := false, narrowed := true }
def MultiNilUptoSaid : Prop := multiNilUptoRow.holds Try.pinned (OpenSpec.upto multiNilSpec)

/-- 'carillonlaw13.MultiRuns', WHERE WHAT IT READS IS OF BULK AT MOST 1048576: true; the input reads as it did. -/
def multiRunsUptoRow : OpenClaim := { program := "ytcdcnmphjhfbpaa", sum := "3f90ff9193558edad7ec0abaf7480b72887b5a33a570b2ace49cdfa130324c36", func := "carillon/carillonlaw13.MultiRuns", spec := "multiRuns", inPlace := ["sync/atomic.StoreInt64", "sync/atomic.CompareAndSwapInt64"], unfollowed := true, recurses := true, leaving := true, apart := false, narrowed := true }
def MultiRunsUptoSaid : Prop := multiRunsUptoRow.holds Try.pinned (OpenSpec.upto multiRunsSpec)

/-- 'carillonlaw13.MultiSlow', WHERE WHAT IT READS IS OF BULK AT MOST 1048576: true; the input reads as it did. -/
def multiSlowUptoRow : OpenClaim := { program := "ytcdcnmphjhfbpaa", sum := "3f90ff9193558edad7ec0abaf7480b72887b5a33a570b2ace49cdfa130324c36", func := "carillon/carillonlaw13.MultiSlow", spec := "multiSlow", inPlace := ["sync/atomic.StoreInt64", "sync/atomic.CompareAndSwapInt64"], unfollowed := true, recurses := true, leaving := true, apart := false, narrowed := true }
def MultiSlowUptoSaid : Prop := multiSlowUptoRow.holds Try.pinned (OpenSpec.upto multiSlowSpec)

end Rows
end Go.Proofs.Ytcdcnmphjhfbpaa
