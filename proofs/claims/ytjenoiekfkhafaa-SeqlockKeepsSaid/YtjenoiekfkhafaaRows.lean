/-
  No cell of these rows narrows 'for every input' (looked for: loops, veiled, ifaces, maps, wideKeys, modest, calm, conditions, laid).
  DERIVED. THE GIVEN ROWS OF THIS SEAT. 9 by the template 'for every input the law returns true; each argument reads behind the call as it read before'; 0 by the template 'total and deterministic' (their statements: YtjenoiekfkhafaaTotals.lean).
  GIVEN WITH THE SEED: the statements are not yours to turn. If you find one false, say at which input.
  Laid BY PROGRAM, IN A SANDBOX (cutbox-rows.mjs): the forced cells as the released guide's own fill.sh prints them over the translation 3c315304de05f56b… (all of the seat's roots in one cut). By AI agents, Wed Nov 11 2026. No macro, syntax, notation, axiom, sorry.
-/
import Derived.Test.YtjenoiekfkhafaaChecked
import GoSem.Claim
import GoSem.ClaimJoined
import GoSem.ClaimMapViews
import Derived.JoinedTies
import Derived.KernelRfl
namespace Go.Proofs.Ytjenoiekfkhafaa
/- THE CELL 'sum', in the pinned program and in every row, IS THE sha256 OF THE DUMP (.gsa) THAT YtjenoiekfkhafaaProg.lean LOADS. Nothing in Lean hashes anything: it is a label: what it is worth is what the hold of that sum in a sandbox is worth. -/
noncomputable def Try.pinned : Pinned := { name := "ytjenoiekfkhafaa", sum := "3c315304de05f56b2251cd41d6e0400652236a06f4e5b4124a0a171674880b1b", checked := Try.checked }
namespace Rows
def none {H : Type} : Left H := { results := [], args := [] }

/-- 'carillonlaw08.SeqlockPlays': WHATEVER THE INPUT: true; the input reads as it did. -/
def seqlockPlaysSpec : ChangeSpec := { name := "seqlockPlays", fn := fun _ => fun
  | [d] => { results := [.lit (.bool true)], args := [d] }
  | _ => none }
def seqlockPlaysRow : OpenClaim := { program := "ytjenoiekfkhafaa", sum := "3c315304de05f56b2251cd41d6e0400652236a06f4e5b4124a0a171674880b1b", func := "carillon/carillonlaw08.SeqlockPlays", spec := "seqlockPlays", inPlace := ["sync/atomic.StoreInt64", "sync/atomic.CompareAndSwapInt64", "sync/atomic.AddInt64"], unfollowed := true, recurses := true, leaving := true, apart := false }
def SeqlockPlaysSaid : Prop := seqlockPlaysRow.holds Try.pinned (OpenSpec.ofChange seqlockPlaysSpec)

/-- ITS FALSE NEIGHBOUR: 'it returns false'. Refute it at one input. -/
def seqlockPlaysWrong : ChangeSpec := { name := "seqlockPlays", fn := fun _ => fun
  | [d] => { results := [.lit (.bool false)], args := [d] }
  | _ => none }
def SeqlockPlaysWrongFalsely : Prop := seqlockPlaysRow.holds Try.pinned (OpenSpec.ofChange seqlockPlaysWrong)

/-- 'carillonlaw08.SeqlockCalls': WHATEVER THE INPUT: true; the input reads as it did. -/
def seqlockCallsSpec : ChangeSpec := { name := "seqlockCalls", fn := fun _ => fun
  | [d1, d2] => { results := [.lit (.bool true)], args := [d1, d2] }
  | _ => none }
def seqlockCallsRow : OpenClaim := { program := "ytjenoiekfkhafaa", sum := "3c315304de05f56b2251cd41d6e0400652236a06f4e5b4124a0a171674880b1b", func := "carillon/carillonlaw08.SeqlockCalls", spec := "seqlockCalls", inPlace := ["sync/atomic.StoreInt64", "sync/atomic.CompareAndSwapInt64", "sync/atomic.AddInt64"], unfollowed := true, recurses := true, leaving := true, apart := false }
def SeqlockCallsSaid : Prop := seqlockCallsRow.holds Try.pinned (OpenSpec.ofChange seqlockCallsSpec)

/-- ITS FALSE NEIGHBOUR: 'it returns false'. Refute it at one input. -/
def seqlockCallsWrong : ChangeSpec := { name := "seqlockCalls", fn := fun _ => fun
  | [d1, d2] => { results := [.lit (.bool false)], args := [d1, d2] }
  | _ => none }
def SeqlockCallsWrongFalsely : Prop := seqlockCallsRow.holds Try.pinned (OpenSpec.ofChange seqlockCallsWrong)

/-- 'carillonlaw08.SeqlockShort': WHATEVER THE INPUT: true; the input reads as it did. -/
def seqlockShortSpec : ChangeSpec := { name := "seqlockShort", fn := fun _ => fun
  | [d1, d2, d3] => { results := [.lit (.bool true)], args := [d1, d2, d3] }
  | _ => none }
def seqlockShortRow : OpenClaim := { program := "ytjenoiekfkhafaa", sum := "3c315304de05f56b2251cd41d6e0400652236a06f4e5b4124a0a171674880b1b", func := "carillon/carillonlaw08.SeqlockShort", spec := "seqlockShort", inPlace := ["sync/atomic.StoreInt64", "sync/atomic.CompareAndSwapInt64", "sync/atomic.AddInt64"], unfollowed := true, recurses := true, leaving := true, apart := false }
def SeqlockShortSaid : Prop := seqlockShortRow.holds Try.pinned (OpenSpec.ofChange seqlockShortSpec)

/-- ITS FALSE NEIGHBOUR: 'it returns false'. Refute it at one input. -/
def seqlockShortWrong : ChangeSpec := { name := "seqlockShort", fn := fun _ => fun
  | [d1, d2, d3] => { results := [.lit (.bool false)], args := [d1, d2, d3] }
  | _ => none }
def SeqlockShortWrongFalsely : Prop := seqlockShortRow.holds Try.pinned (OpenSpec.ofChange seqlockShortWrong)

/-- 'carillonlaw08.SeqlockWhole': WHATEVER THE INPUT: true; the input reads as it did. -/
def seqlockWholeSpec : ChangeSpec := { name := "seqlockWhole", fn := fun _ => fun
  | [d1, d2, d3, d4] => { results := [.lit (.bool true)], args := [d1, d2, d3, d4] }
  | _ => none }
def seqlockWholeRow : OpenClaim := { program := "ytjenoiekfkhafaa", sum := "3c315304de05f56b2251cd41d6e0400652236a06f4e5b4124a0a171674880b1b", func := "carillon/carillonlaw08.SeqlockWhole", spec := "seqlockWhole", inPlace := ["sync/atomic.StoreInt64", "sync/atomic.CompareAndSwapInt64", "sync/atomic.AddInt64", "(*sync.WaitGroup).Go", "(*sync.WaitGroup).Add", "internal/race.ReleaseMerge", "internal/race.Disable", "internal/race.Enable", "internal/synctest.IsInBubble", "internal/synctest.Associate[sync.WaitGroup]", "sync.fatal", "sync/atomic.OrUint64", "sync/atomic.AddUint64", "internal/race.Read", "sync/atomic.LoadUint64", "sync/atomic.StoreUint64", "internal/synctest.Disassociate[sync.WaitGroup]", "sync.runtime_Semrelease", "(*sync.WaitGroup).Go$1", "(*sync.WaitGroup).Go$1$1", "(*sync.WaitGroup).Done", "(*sync.WaitGroup).Wait", "internal/race.Acquire", "internal/synctest.IsAssociated[sync.WaitGroup]", "sync/atomic.CompareAndSwapUint64", "internal/race.Write", "sync.runtime_SemacquireWaitGroup"], unfollowed := true, recurses := true, leaving := true, apart := false }
def SeqlockWholeSaid : Prop := seqlockWholeRow.holds Try.pinned (OpenSpec.ofChange seqlockWholeSpec)

/-- ITS FALSE NEIGHBOUR: 'it returns false'. Refute it at one input. -/
def seqlockWholeWrong : ChangeSpec := { name := "seqlockWhole", fn := fun _ => fun
  | [d1, d2, d3, d4] => { results := [.lit (.bool false)], args := [d1, d2, d3, d4] }
  | _ => none }
def SeqlockWholeWrongFalsely : Prop := seqlockWholeRow.holds Try.pinned (OpenSpec.ofChange seqlockWholeWrong)

/-- 'carillonlaw08.SeqlockAdds': WHATEVER THE INPUT: true; the input reads as it did. -/
def seqlockAddsSpec : ChangeSpec := { name := "seqlockAdds", fn := fun _ => fun
  | [d1, d2, d3] => { results := [.lit (.bool true)], args := [d1, d2, d3] }
  | _ => none }
def seqlockAddsRow : OpenClaim := { program := "ytjenoiekfkhafaa", sum := "3c315304de05f56b2251cd41d6e0400652236a06f4e5b4124a0a171674880b1b", func := "carillon/carillonlaw08.SeqlockAdds", spec := "seqlockAdds", inPlace := ["sync/atomic.StoreInt64", "sync/atomic.CompareAndSwapInt64", "sync/atomic.AddInt64", "(*sync.WaitGroup).Go", "(*sync.WaitGroup).Add", "internal/race.ReleaseMerge", "internal/race.Disable", "internal/race.Enable", "internal/synctest.IsInBubble", "internal/synctest.Associate[sync.WaitGroup]", "sync.fatal", "sync/atomic.OrUint64", "sync/atomic.AddUint64", "internal/race.Read", "sync/atomic.LoadUint64", "sync/atomic.StoreUint64", "internal/synctest.Disassociate[sync.WaitGroup]", "sync.runtime_Semrelease", "(*sync.WaitGroup).Go$1", "(*sync.WaitGroup).Go$1$1", "(*sync.WaitGroup).Done", "(*sync.WaitGroup).Wait", "internal/race.Acquire", "internal/synctest.IsAssociated[sync.WaitGroup]", "sync/atomic.CompareAndSwapUint64", "internal/race.Write", "sync.runtime_SemacquireWaitGroup"], unfollowed := true, recurses := true, leaving := true, apart := false }
def SeqlockAddsSaid : Prop := seqlockAddsRow.holds Try.pinned (OpenSpec.ofChange seqlockAddsSpec)

/-- ITS FALSE NEIGHBOUR: 'it returns false'. Refute it at one input. -/
def seqlockAddsWrong : ChangeSpec := { name := "seqlockAdds", fn := fun _ => fun
  | [d1, d2, d3] => { results := [.lit (.bool false)], args := [d1, d2, d3] }
  | _ => none }
def SeqlockAddsWrongFalsely : Prop := seqlockAddsRow.holds Try.pinned (OpenSpec.ofChange seqlockAddsWrong)

/-- 'carillonlaw08.SeqlockStorm': WHATEVER THE INPUT: true; the input reads as it did. -/
def seqlockStormSpec : ChangeSpec := { name := "seqlockStorm", fn := fun _ => fun
  | [d1, d2] => { results := [.lit (.bool true)], args := [d1, d2] }
  | _ => none }
def seqlockStormRow : OpenClaim := { program := "ytjenoiekfkhafaa", sum := "3c315304de05f56b2251cd41d6e0400652236a06f4e5b4124a0a171674880b1b", func := "carillon/carillonlaw08.SeqlockStorm", spec := "seqlockStorm", inPlace := ["sync/atomic.StoreInt64", "sync/atomic.CompareAndSwapInt64", "sync/atomic.AddInt64", "(*sync.WaitGroup).Go", "(*sync.WaitGroup).Add", "internal/race.ReleaseMerge", "internal/race.Disable", "internal/race.Enable", "internal/synctest.IsInBubble", "internal/synctest.Associate[sync.WaitGroup]", "sync.fatal", "sync/atomic.OrUint64", "sync/atomic.AddUint64", "internal/race.Read", "sync/atomic.LoadUint64", "sync/atomic.StoreUint64", "internal/synctest.Disassociate[sync.WaitGroup]", "sync.runtime_Semrelease", "(*sync.WaitGroup).Go$1", "(*sync.WaitGroup).Go$1$1", "(*sync.WaitGroup).Done", "(*sync.WaitGroup).Wait", "internal/race.Acquire", "internal/synctest.IsAssociated[sync.WaitGroup]", "sync/atomic.CompareAndSwapUint64", "internal/race.Write", "sync.runtime_SemacquireWaitGroup"], unfollowed := true, recurses := true, leaving := true, apart := false }
def SeqlockStormSaid : Prop := seqlockStormRow.holds Try.pinned (OpenSpec.ofChange seqlockStormSpec)

/-- ITS FALSE NEIGHBOUR: 'it returns false'. Refute it at one input. -/
def seqlockStormWrong : ChangeSpec := { name := "seqlockStorm", fn := fun _ => fun
  | [d1, d2] => { results := [.lit (.bool false)], args := [d1, d2] }
  | _ => none }
def SeqlockStormWrongFalsely : Prop := seqlockStormRow.holds Try.pinned (OpenSpec.ofChange seqlockStormWrong)

/-- 'carillonlaw08.SeqlockStorms': WHATEVER THE INPUT: true; the input reads as it did. -/
def seqlockStormsSpec : ChangeSpec := { name := "seqlockStorms", fn := fun _ => fun
  | [] => { results := [.lit (.bool true)], args := [] }
  | _ => none }
def seqlockStormsRow : OpenClaim := { program := "ytjenoiekfkhafaa", sum := "3c315304de05f56b2251cd41d6e0400652236a06f4e5b4124a0a171674880b1b", func := "carillon/carillonlaw08.SeqlockStorms", spec := "seqlockStorms", inPlace := ["sync/atomic.StoreInt64", "sync/atomic.CompareAndSwapInt64", "sync/atomic.AddInt64", "(*sync.WaitGroup).Go", "(*sync.WaitGroup).Add", "internal/race.ReleaseMerge", "internal/race.Disable", "internal/race.Enable", "internal/synctest.IsInBubble", "internal/synctest.Associate[sync.WaitGroup]", "sync.fatal", "sync/atomic.OrUint64", "sync/atomic.AddUint64", "internal/race.Read", "sync/atomic.LoadUint64", "sync/atomic.StoreUint64", "internal/synctest.Disassociate[sync.WaitGroup]", "sync.runtime_Semrelease", "(*sync.WaitGroup).Go$1", "(*sync.WaitGroup).Go$1$1", "(*sync.WaitGroup).Done", "(*sync.WaitGroup).Wait", "internal/race.Acquire", "internal/synctest.IsAssociated[sync.WaitGroup]", "sync/atomic.CompareAndSwapUint64", "internal/race.Write", "sync.runtime_SemacquireWaitGroup"], unfollowed := true, recurses := true, leaving := true, apart := false }
def SeqlockStormsSaid : Prop := seqlockStormsRow.holds Try.pinned (OpenSpec.ofChange seqlockStormsSpec)

/-- ITS FALSE NEIGHBOUR: 'it returns false'. Refute it at one input. -/
def seqlockStormsWrong : ChangeSpec := { name := "seqlockStorms", fn := fun _ => fun
  | [] => { results := [.lit (.bool false)], args := [] }
  | _ => none }
def SeqlockStormsWrongFalsely : Prop := seqlockStormsRow.holds Try.pinned (OpenSpec.ofChange seqlockStormsWrong)

/-- 'carillonlaw08.SeqlockNone': WHATEVER THE INPUT: true; the input reads as it did. -/
def seqlockNoneSpec : ChangeSpec := { name := "seqlockNone", fn := fun _ => fun
  | [d] => { results := [.lit (.bool true)], args := [d] }
  | _ => none }
def seqlockNoneRow : OpenClaim := { program := "ytjenoiekfkhafaa", sum := "3c315304de05f56b2251cd41d6e0400652236a06f4e5b4124a0a171674880b1b", func := "carillon/carillonlaw08.SeqlockNone", spec := "seqlockNone", inPlace := ["sync/atomic.StoreInt64", "sync/atomic.CompareAndSwapInt64", "sync/atomic.AddInt64"], unfollowed := true, recurses := true, leaving := true, apart := false }
def SeqlockNoneSaid : Prop := seqlockNoneRow.holds Try.pinned (OpenSpec.ofChange seqlockNoneSpec)

/-- ITS FALSE NEIGHBOUR: 'it returns false'. Refute it at one input. -/
def seqlockNoneWrong : ChangeSpec := { name := "seqlockNone", fn := fun _ => fun
  | [d] => { results := [.lit (.bool false)], args := [d] }
  | _ => none }
def SeqlockNoneWrongFalsely : Prop := seqlockNoneRow.holds Try.pinned (OpenSpec.ofChange seqlockNoneWrong)

/-- 'carillonlaw08.SeqlockKeeps': WHATEVER THE INPUT: true; the input reads as it did. -/
def seqlockKeepsSpec : ChangeSpec := { name := "seqlockKeeps", fn := fun _ => fun
  | [d1, d2] => { results := [.lit (.bool true)], args := [d1, d2] }
  | _ => none }
def seqlockKeepsRow : OpenClaim := { program := "ytjenoiekfkhafaa", sum := "3c315304de05f56b2251cd41d6e0400652236a06f4e5b4124a0a171674880b1b", func := "carillon/carillonlaw08.SeqlockKeeps", spec := "seqlockKeeps", inPlace := ["sync/atomic.StoreInt64", "sync/atomic.CompareAndSwapInt64", "sync/atomic.AddInt64"], unfollowed := true, recurses := true, leaving := true, apart := false }
def SeqlockKeepsSaid : Prop := seqlockKeepsRow.holds Try.pinned (OpenSpec.ofChange seqlockKeepsSpec)

/-- ITS FALSE NEIGHBOUR: 'it returns false'. Refute it at one input. -/
def seqlockKeepsWrong : ChangeSpec := { name := "seqlockKeeps", fn := fun _ => fun
  | [d1, d2] => { results := [.lit (.bool false)], args := [d1, d2] }
  | _ => none }
def SeqlockKeepsWrongFalsely : Prop := seqlockKeepsRow.holds Try.pinned (OpenSpec.ofChange seqlockKeepsWrong)

/- THE SECOND FORM. 'bulk': how many values and letters a reading holds, each counted each time it is reached (what is shared counts as often as it is met; a slice's spare places count too). A statement '..UptoSaid' is the law's where the arguments, and the package variables that the reading takes, are together of bulk at most 1048576: NARROWER than '..Said'. Prove '..Said' where nothing that the law and all that it calls make is longer than what came in: it says more and counts as full. Else prove '..UptoSaid'. A law counts once. -/
mutual
def uptoBulk {H : Type} : DataW H → Nat
  | .lit (.string bytes) => bytes.length + 1
  | .lit _ => 1
  | .nil => 1
  | .ptr d => uptoBulk d + 1
  | .slice elems spare => uptoBulkAll elems + uptoBulkAll spare + 1
  | .agg parts => uptoBulkAll parts + 1
  | .iface _ d => uptoBulk d + 1
  | .map entries => uptoBulkEntries entries + 1
  | .held _ => 1
def uptoBulkAll {H : Type} : List (DataW H) → Nat
  | [] => 0
  | d :: r => uptoBulk d + uptoBulkAll r
def uptoBulkEntries {H : Type} : List (Lit × DataW H) → Nat
  | [] => 0
  | x :: r => uptoBulkEntry x + uptoBulkEntries r
def uptoBulkEntry {H : Type} : Lit × DataW H → Nat
  | (.string bytes, d) => bytes.length + uptoBulk d + 1
  | (_, d) => uptoBulk d + 1
 end
def uptoSmall : (H : Type) → List (DataW H) → Bool := fun _ ds => decide (uptoBulkAll ds ≤ 1048576)
def OpenSpec.upto (s : _root_.Go.ChangeSpec) : _root_.Go.OpenSpec := { _root_.Go.OpenSpec.ofChange s with cond := some uptoSmall }

/-- 'carillonlaw08.SeqlockPlays', WHERE WHAT IT READS IS OF BULK AT MOST 1048576: true; the input reads as it did. -/
def seqlockPlaysUptoRow : OpenClaim := { program := "ytjenoiekfkhafaa", sum := "3c315304de05f56b2251cd41d6e0400652236a06f4e5b4124a0a171674880b1b", func := "carillon/carillonlaw08.SeqlockPlays", spec := "seqlockPlays", inPlace := ["sync/atomic.StoreInt64", "sync/atomic.CompareAndSwapInt64", "sync/atomic.AddInt64"], unfollowed := true, recurses := true, leaving := true, apart := false, narrowed := true }
def SeqlockPlaysUptoSaid : Prop := seqlockPlaysUptoRow.holds Try.pinned (OpenSpec.upto seqlockPlaysSpec)

/-- 'carillonlaw08.SeqlockCalls', WHERE WHAT IT READS IS OF BULK AT MOST 1048576: true; the input reads as it did. -/
def seqlockCallsUptoRow : OpenClaim := { program := "ytjenoiekfkhafaa", sum := "3c315304de05f56b2251cd41d6e0400652236a06f4e5b4124a0a171674880b1b", func := "carillon/carillonlaw08.SeqlockCalls", spec := "seqlockCalls", inPlace := ["sync/atomic.StoreInt64", "sync/atomic.CompareAndSwapInt64", "sync/atomic.AddInt64"], unfollowed := true, recurses := true, leaving := true, apart := false, narrowed := true }
def SeqlockCallsUptoSaid : Prop := seqlockCallsUptoRow.holds Try.pinned (OpenSpec.upto seqlockCallsSpec)

/-- 'carillonlaw08.SeqlockShort', WHERE WHAT IT READS IS OF BULK AT MOST 1048576: true; the input reads as it did. -/
def seqlockShortUptoRow : OpenClaim := { program := "ytjenoiekfkhafaa", sum := "3c315304de05f56b2251cd41d6e0400652236a06f4e5b4124a0a171674880b1b", func := "carillon/carillonlaw08.SeqlockShort", spec := "seqlockShort", inPlace := ["sync/atomic.StoreInt64", "sync/atomic.CompareAndSwapInt64", "sync/atomic.AddInt64"], unfollowed := true, recurses := true, leaving := true, apart := false, narrowed := true }
def SeqlockShortUptoSaid : Prop := seqlockShortUptoRow.holds Try.pinned (OpenSpec.upto seqlockShortSpec)

/-- 'carillonlaw08.SeqlockWhole', WHERE WHAT IT READS IS OF BULK AT MOST 1048576: true; the input reads as it did. -/
def seqlockWholeUptoRow : OpenClaim := { program := "ytjenoiekfkhafaa", sum := "3c315304de05f56b2251cd41d6e0400652236a06f4e5b4124a0a171674880b1b", func := "carillon/carillonlaw08.SeqlockWhole", spec := "seqlockWhole", inPlace := ["sync/atomic.StoreInt64", "sync/atomic.CompareAndSwapInt64", "sync/atomic.AddInt64", "(*sync.WaitGroup).Go", "(*sync.WaitGroup).Add", "internal/race.ReleaseMerge", "internal/race.Disable", "internal/race.Enable", "internal/synctest.IsInBubble", "internal/synctest.Associate[sync.WaitGroup]", "sync.fatal", "sync/atomic.OrUint64", "sync/atomic.AddUint64", "internal/race.Read", "sync/atomic.LoadUint64", "sync/atomic.StoreUint64", "internal/synctest.Disassociate[sync.WaitGroup]", "sync.runtime_Semrelease", "(*sync.WaitGroup).Go$1", "(*sync.WaitGroup).Go$1$1", "(*sync.WaitGroup).Done", "(*sync.WaitGroup).Wait", "internal/race.Acquire", "internal/synctest.IsAssociated[sync.WaitGroup]", "sync/atomic.CompareAndSwapUint64", "internal/race.Write", "sync.runtime_SemacquireWaitGroup"], unfollowed := true, recurses := true, leaving := true, apart := false, narrowed := true }
def SeqlockWholeUptoSaid : Prop := seqlockWholeUptoRow.holds Try.pinned (OpenSpec.upto seqlockWholeSpec)

/-- 'carillonlaw08.SeqlockAdds', WHERE WHAT IT READS IS OF BULK AT MOST 1048576: true; the input reads as it did. -/
def seqlockAddsUptoRow : OpenClaim := { program := "ytjenoiekfkhafaa", sum := "3c315304de05f56b2251cd41d6e0400652236a06f4e5b4124a0a171674880b1b", func := "carillon/carillonlaw08.SeqlockAdds", spec := "seqlockAdds", inPlace := ["sync/atomic.StoreInt64", "sync/atomic.CompareAndSwapInt64", "sync/atomic.AddInt64", "(*sync.WaitGroup).Go", "(*sync.WaitGroup).Add", "internal/race.ReleaseMerge", "internal/race.Disable", "internal/race.Enable", "internal/synctest.IsInBubble", "internal/synctest.Associate[sync.WaitGroup]", "sync.fatal", "sync/atomic.OrUint64", "sync/atomic.AddUint64", "internal/race.Read", "sync/atomic.LoadUint64", "sync/atomic.StoreUint64", "internal/synctest.Disassociate[sync.WaitGroup]", "sync.runtime_Semrelease", "(*sync.WaitGroup).Go$1", "(*sync.WaitGroup).Go$1$1", "(*sync.WaitGroup).Done", "(*sync.WaitGroup).Wait", "internal/race.Acquire", "internal/synctest.IsAssociated[sync.WaitGroup]", "sync/atomic.CompareAndSwapUint64", "internal/race.Write", "sync.runtime_SemacquireWaitGroup"], unfollowed := true, recurses := true, leaving := true, apart := false, narrowed := true }
def SeqlockAddsUptoSaid : Prop := seqlockAddsUptoRow.holds Try.pinned (OpenSpec.upto seqlockAddsSpec)

/-- 'carillonlaw08.SeqlockStorm', WHERE WHAT IT READS IS OF BULK AT MOST 1048576: true; the input reads as it did. -/
def seqlockStormUptoRow : OpenClaim := { program := "ytjenoiekfkhafaa", sum := "3c315304de05f56b2251cd41d6e0400652236a06f4e5b4124a0a171674880b1b", func := "carillon/carillonlaw08.SeqlockStorm", spec := "seqlockStorm", inPlace := ["sync/atomic.StoreInt64", "sync/atomic.CompareAndSwapInt64", "sync/atomic.AddInt64", "(*sync.WaitGroup).Go", "(*sync.WaitGroup).Add", "internal/race.ReleaseMerge", "internal/race.Disable", "internal/race.Enable", "internal/synctest.IsInBubble", "internal/synctest.Associate[sync.WaitGroup]", "sync.fatal", "sync/atomic.OrUint64", "sync/atomic.AddUint64", "internal/race.Read", "sync/atomic.LoadUint64", "sync/atomic.StoreUint64", "internal/synctest.Disassociate[sync.WaitGroup]", "sync.runtime_Semrelease", "(*sync.WaitGroup).Go$1", "(*sync.WaitGroup).Go$1$1", "(*sync.WaitGroup).Done", "(*sync.WaitGroup).Wait", "internal/race.Acquire", "internal/synctest.IsAssociated[sync.WaitGroup]", "sync/atomic.CompareAndSwapUint64", "internal/race.Write", "sync.runtime_SemacquireWaitGroup"], unfollowed := true, recurses := true, leaving := true, apart := false, narrowed := true }
def SeqlockStormUptoSaid : Prop := seqlockStormUptoRow.holds Try.pinned (OpenSpec.upto seqlockStormSpec)

/-- 'carillonlaw08.SeqlockStorms', WHERE WHAT IT READS IS OF BULK AT MOST 1048576: true; the input reads as it did. -/
def seqlockStormsUptoRow : OpenClaim := { program := "ytjenoiekfkhafaa", sum := "3c315304de05f56b2251cd41d6e0400652236a06f4e5b4124a0a171674880b1b", func := "carillon/carillonlaw08.SeqlockStorms", spec := "seqlockStorms", inPlace := ["sync/atomic.StoreInt64", "sync/atomic.CompareAndSwapInt64", "sync/atomic.AddInt64", "(*sync.WaitGroup).Go", "(*sync.WaitGroup).Add", "internal/race.ReleaseMerge", "internal/race.Disable", "internal/race.Enable", "internal/synctest.IsInBubble", "internal/synctest.Associate[sync.WaitGroup]", "sync.fatal", "sync/atomic.OrUint64", "sync/atomic.AddUint64", "internal/race.Read", "sync/atomic.LoadUint64", "sync/atomic.StoreUint64", "internal/synctest.Disassociate[sync.WaitGroup]", "sync.runtime_Semrelease", "(*sync.WaitGroup).Go$1", "(*sync.WaitGroup).Go$1$1", "(*sync.WaitGroup).Done", "(*sync.WaitGroup).Wait", "internal/race.Acquire", "internal/synctest.IsAssociated[sync.WaitGroup]", "sync/atomic.CompareAndSwapUint64", "internal/race.Write", "sync.runtime_SemacquireWaitGroup"], unfollowed := true, recurses := true, leaving := true, apart := false, narrowed := true }
def SeqlockStormsUptoSaid : Prop := seqlockStormsUptoRow.holds Try.pinned (OpenSpec.upto seqlockStormsSpec)

/-- 'carillonlaw08.SeqlockNone', WHERE WHAT IT READS IS OF BULK AT MOST 1048576: true; the input reads as it did. -/
def seqlockNoneUptoRow : OpenClaim := { program := "ytjenoiekfkhafaa", sum := "3c315304de05f56b2251cd41d6e0400652236a06f4e5b4124a0a171674880b1b", func := "carillon/carillonlaw08.SeqlockNone", spec := "seqlockNone", inPlace := ["sync/atomic.StoreInt64", "sync/atomic.CompareAndSwapInt64", "sync/atomic.AddInt64"], unfollowed := true, recurses := true, leaving := true, apart := false, narrowed := true }
def SeqlockNoneUptoSaid : Prop := seqlockNoneUptoRow.holds Try.pinned (OpenSpec.upto seqlockNoneSpec)

/-- 'carillonlaw08.SeqlockKeeps', WHERE WHAT IT READS IS OF BULK AT MOST 1048576: true; the input reads as it did. -/
def seqlockKeepsUptoRow : OpenClaim := { program := "ytjenoiekfkhafaa", sum := "3c315304de05f56b2251cd41d6e0400652236a06f4e5b4124a0a171674880b1b", func := "carillon/carillonlaw08.SeqlockKeeps", spec := "seqlockKeeps", inPlace := ["sync/atomic.StoreInt64", "sync/atomic.CompareAndSwapInt64", "sync/atomic.AddInt64"], unfollowed := true, recurses := true, leaving := true, apart := false, narrowed := true }
def SeqlockKeepsUptoSaid : Prop := seqlockKeepsUptoRow.holds Try.pinned (OpenSpec.upto seqlockKeepsSpec)

end Rows
end Go.Proofs.Ytjenoiekfkhafaa
