/-
  No cell of these rows narrows 'for every input' (looked for: loops, veiled, ifaces, maps, wideKeys, modest, calm, conditions, laid).
  DERIVED. THE GIVEN ROWS OF THIS SEAT. 8 by the template 'for every input the law returns true; each argument reads behind the call as it read before'; 0 by the template 'total and deterministic' (their statements: YtdmpmoggacjgcaaTotals.lean).
  GIVEN WITH THE SEED: the statements are not yours to turn. If you find one false, say at which input.
  Laid BY PROGRAM, IN A SANDBOX (cutbox-rows.mjs): the forced cells as the released guide's own fill.sh prints them over the translation 3691cde154f54955… (all of the seat's roots in one cut). By AI agents, Wed Nov 11 2026. No macro, syntax, notation, axiom, sorry.
-/
import Derived.Test.YtdmpmoggacjgcaaChecked
import GoSem.Claim
import GoSem.ClaimJoined
import GoSem.ClaimMapViews
import Derived.JoinedTies
import Derived.KernelRfl
namespace Go.Proofs.Ytdmpmoggacjgcaa
/- THE CELL 'sum', in the pinned program and in every row, IS THE sha256 OF THE DUMP (.gsa) THAT YtdmpmoggacjgcaaProg.lean LOADS. Nothing in Lean hashes anything: it is a label: what it is worth is what the hold of that sum in a sandbox is worth. -/
noncomputable def Try.pinned : Pinned := { name := "ytdmpmoggacjgcaa", sum := "3691cde154f54955b5cd280ebc948d325eac5bc7e4bcba6b4eca5a9d6b20f9c3", checked := Try.checked }
namespace Rows
def none {H : Type} : Left H := { results := [], args := [] }

/-- 'carillonlaw06.StackClassic': WHATEVER THE INPUT: true; the input reads as it did. -/
def stackClassicSpec : ChangeSpec := { name := "stackClassic", fn := fun _ => fun
  | [] => { results := [.lit (.bool true)], args := [] }
  | _ => none }
def stackClassicRow : OpenClaim := { program := "ytdmpmoggacjgcaa", sum := "3691cde154f54955b5cd280ebc948d325eac5bc7e4bcba6b4eca5a9d6b20f9c3", func := "carillon/carillonlaw06.StackClassic", spec := "stackClassic", inPlace := ["sync/atomic.StoreInt64", "sync/atomic.CompareAndSwapInt64"], unfollowed := true, recurses := true, leaving := true, apart := false }
def StackClassicSaid : Prop := stackClassicRow.holds Try.pinned (OpenSpec.ofChange stackClassicSpec)

/-- ITS FALSE NEIGHBOUR: 'it returns false'. Refute it at one input. -/
def stackClassicWrong : ChangeSpec := { name := "stackClassic", fn := fun _ => fun
  | [] => { results := [.lit (.bool false)], args := [] }
  | _ => none }
def StackClassicWrongFalsely : Prop := stackClassicRow.holds Try.pinned (OpenSpec.ofChange stackClassicWrong)

/-- 'carillonlaw06.StackPlays': WHATEVER THE INPUT: true; the input reads as it did. -/
def stackPlaysSpec : ChangeSpec := { name := "stackPlays", fn := fun _ => fun
  | [d1, d2, d3, d4, d5] => { results := [.lit (.bool true)], args := [d1, d2, d3, d4, d5] }
  | _ => none }
def stackPlaysRow : OpenClaim := { program := "ytdmpmoggacjgcaa", sum := "3691cde154f54955b5cd280ebc948d325eac5bc7e4bcba6b4eca5a9d6b20f9c3", func := "carillon/carillonlaw06.StackPlays", spec := "stackPlays", inPlace := ["sync/atomic.StoreInt64", "sync/atomic.CompareAndSwapInt64"], unfollowed := true, recurses := true, leaving := true, apart := false }
def StackPlaysSaid : Prop := stackPlaysRow.holds Try.pinned (OpenSpec.ofChange stackPlaysSpec)

/-- ITS FALSE NEIGHBOUR: 'it returns false'. Refute it at one input. -/
def stackPlaysWrong : ChangeSpec := { name := "stackPlays", fn := fun _ => fun
  | [d1, d2, d3, d4, d5] => { results := [.lit (.bool false)], args := [d1, d2, d3, d4, d5] }
  | _ => none }
def StackPlaysWrongFalsely : Prop := stackPlaysRow.holds Try.pinned (OpenSpec.ofChange stackPlaysWrong)

/-- 'carillonlaw06.StackAlone': WHATEVER THE INPUT: true; the input reads as it did. -/
def stackAloneSpec : ChangeSpec := { name := "stackAlone", fn := fun _ => fun
  | [d1, d2] => { results := [.lit (.bool true)], args := [d1, d2] }
  | _ => none }
def stackAloneRow : OpenClaim := { program := "ytdmpmoggacjgcaa", sum := "3691cde154f54955b5cd280ebc948d325eac5bc7e4bcba6b4eca5a9d6b20f9c3", func := "carillon/carillonlaw06.StackAlone", spec := "stackAlone", inPlace := ["sync/atomic.StoreInt64", "sync/atomic.CompareAndSwapInt64"], unfollowed := true, recurses := true, leaving := true, apart := false }
def StackAloneSaid : Prop := stackAloneRow.holds Try.pinned (OpenSpec.ofChange stackAloneSpec)

/-- ITS FALSE NEIGHBOUR: 'it returns false'. Refute it at one input. -/
def stackAloneWrong : ChangeSpec := { name := "stackAlone", fn := fun _ => fun
  | [d1, d2] => { results := [.lit (.bool false)], args := [d1, d2] }
  | _ => none }
def StackAloneWrongFalsely : Prop := stackAloneRow.holds Try.pinned (OpenSpec.ofChange stackAloneWrong)

/-- 'carillonlaw06.StackRight': WHATEVER THE INPUT: true; the input reads as it did. -/
def stackRightSpec : ChangeSpec := { name := "stackRight", fn := fun _ => fun
  | [d1, d2, d3, d4] => { results := [.lit (.bool true)], args := [d1, d2, d3, d4] }
  | _ => none }
def stackRightRow : OpenClaim := { program := "ytdmpmoggacjgcaa", sum := "3691cde154f54955b5cd280ebc948d325eac5bc7e4bcba6b4eca5a9d6b20f9c3", func := "carillon/carillonlaw06.StackRight", spec := "stackRight", inPlace := ["sync/atomic.StoreInt64", "sync/atomic.CompareAndSwapInt64"], unfollowed := true, recurses := true, leaving := true, apart := false }
def StackRightSaid : Prop := stackRightRow.holds Try.pinned (OpenSpec.ofChange stackRightSpec)

/-- ITS FALSE NEIGHBOUR: 'it returns false'. Refute it at one input. -/
def stackRightWrong : ChangeSpec := { name := "stackRight", fn := fun _ => fun
  | [d1, d2, d3, d4] => { results := [.lit (.bool false)], args := [d1, d2, d3, d4] }
  | _ => none }
def StackRightWrongFalsely : Prop := stackRightRow.holds Try.pinned (OpenSpec.ofChange stackRightWrong)

/-- 'carillonlaw06.StackFree': WHATEVER THE INPUT: true; the input reads as it did. -/
def stackFreeSpec : ChangeSpec := { name := "stackFree", fn := fun _ => fun
  | [d1, d2] => { results := [.lit (.bool true)], args := [d1, d2] }
  | _ => none }
def stackFreeRow : OpenClaim := { program := "ytdmpmoggacjgcaa", sum := "3691cde154f54955b5cd280ebc948d325eac5bc7e4bcba6b4eca5a9d6b20f9c3", func := "carillon/carillonlaw06.StackFree", spec := "stackFree", inPlace := ["sync/atomic.StoreInt64", "sync/atomic.CompareAndSwapInt64", "(*sync.WaitGroup).Go", "(*sync.WaitGroup).Add", "internal/race.ReleaseMerge", "internal/race.Disable", "internal/race.Enable", "internal/synctest.IsInBubble", "internal/synctest.Associate[sync.WaitGroup]", "sync.fatal", "sync/atomic.OrUint64", "sync/atomic.AddUint64", "internal/race.Read", "sync/atomic.LoadUint64", "sync/atomic.StoreUint64", "internal/synctest.Disassociate[sync.WaitGroup]", "sync.runtime_Semrelease", "(*sync.WaitGroup).Go$1", "(*sync.WaitGroup).Go$1$1", "(*sync.WaitGroup).Done", "(*sync.WaitGroup).Wait", "internal/race.Acquire", "internal/synctest.IsAssociated[sync.WaitGroup]", "sync/atomic.CompareAndSwapUint64", "internal/race.Write", "sync.runtime_SemacquireWaitGroup"], unfollowed := true, recurses := true, leaving := true, apart := false }
def StackFreeSaid : Prop := stackFreeRow.holds Try.pinned (OpenSpec.ofChange stackFreeSpec)

/-- ITS FALSE NEIGHBOUR: 'it returns false'. Refute it at one input. -/
def stackFreeWrong : ChangeSpec := { name := "stackFree", fn := fun _ => fun
  | [d1, d2] => { results := [.lit (.bool false)], args := [d1, d2] }
  | _ => none }
def StackFreeWrongFalsely : Prop := stackFreeRow.holds Try.pinned (OpenSpec.ofChange stackFreeWrong)

/-- 'carillonlaw06.StackStorm': WHATEVER THE INPUT: true; the input reads as it did. -/
def stackStormSpec : ChangeSpec := { name := "stackStorm", fn := fun _ => fun
  | [d1, d2, d3] => { results := [.lit (.bool true)], args := [d1, d2, d3] }
  | _ => none }
def stackStormRow : OpenClaim := { program := "ytdmpmoggacjgcaa", sum := "3691cde154f54955b5cd280ebc948d325eac5bc7e4bcba6b4eca5a9d6b20f9c3", func := "carillon/carillonlaw06.StackStorm", spec := "stackStorm", inPlace := ["sync/atomic.StoreInt64", "sync/atomic.CompareAndSwapInt64", "(*sync.WaitGroup).Go", "(*sync.WaitGroup).Add", "internal/race.ReleaseMerge", "internal/race.Disable", "internal/race.Enable", "internal/synctest.IsInBubble", "internal/synctest.Associate[sync.WaitGroup]", "sync.fatal", "sync/atomic.OrUint64", "sync/atomic.AddUint64", "internal/race.Read", "sync/atomic.LoadUint64", "sync/atomic.StoreUint64", "internal/synctest.Disassociate[sync.WaitGroup]", "sync.runtime_Semrelease", "(*sync.WaitGroup).Go$1", "(*sync.WaitGroup).Go$1$1", "(*sync.WaitGroup).Done", "(*sync.WaitGroup).Wait", "internal/race.Acquire", "internal/synctest.IsAssociated[sync.WaitGroup]", "sync/atomic.CompareAndSwapUint64", "internal/race.Write", "sync.runtime_SemacquireWaitGroup"], unfollowed := true, recurses := true, leaving := true, apart := false }
def StackStormSaid : Prop := stackStormRow.holds Try.pinned (OpenSpec.ofChange stackStormSpec)

/-- ITS FALSE NEIGHBOUR: 'it returns false'. Refute it at one input. -/
def stackStormWrong : ChangeSpec := { name := "stackStorm", fn := fun _ => fun
  | [d1, d2, d3] => { results := [.lit (.bool false)], args := [d1, d2, d3] }
  | _ => none }
def StackStormWrongFalsely : Prop := stackStormRow.holds Try.pinned (OpenSpec.ofChange stackStormWrong)

/-- 'carillonlaw06.StackCrowd': WHATEVER THE INPUT: true; the input reads as it did. -/
def stackCrowdSpec : ChangeSpec := { name := "stackCrowd", fn := fun _ => fun
  | [] => { results := [.lit (.bool true)], args := [] }
  | _ => none }
def stackCrowdRow : OpenClaim := { program := "ytdmpmoggacjgcaa", sum := "3691cde154f54955b5cd280ebc948d325eac5bc7e4bcba6b4eca5a9d6b20f9c3", func := "carillon/carillonlaw06.StackCrowd", spec := "stackCrowd", inPlace := ["sync/atomic.StoreInt64", "sync/atomic.CompareAndSwapInt64", "(*sync.WaitGroup).Go", "(*sync.WaitGroup).Add", "internal/race.ReleaseMerge", "internal/race.Disable", "internal/race.Enable", "internal/synctest.IsInBubble", "internal/synctest.Associate[sync.WaitGroup]", "sync.fatal", "sync/atomic.OrUint64", "sync/atomic.AddUint64", "internal/race.Read", "sync/atomic.LoadUint64", "sync/atomic.StoreUint64", "internal/synctest.Disassociate[sync.WaitGroup]", "sync.runtime_Semrelease", "(*sync.WaitGroup).Go$1", "(*sync.WaitGroup).Go$1$1", "(*sync.WaitGroup).Done", "(*sync.WaitGroup).Wait", "internal/race.Acquire", "internal/synctest.IsAssociated[sync.WaitGroup]", "sync/atomic.CompareAndSwapUint64", "internal/race.Write", "sync.runtime_SemacquireWaitGroup"], unfollowed := true, recurses := true, leaving := true, apart := false }
def StackCrowdSaid : Prop := stackCrowdRow.holds Try.pinned (OpenSpec.ofChange stackCrowdSpec)

/-- ITS FALSE NEIGHBOUR: 'it returns false'. Refute it at one input. -/
def stackCrowdWrong : ChangeSpec := { name := "stackCrowd", fn := fun _ => fun
  | [] => { results := [.lit (.bool false)], args := [] }
  | _ => none }
def StackCrowdWrongFalsely : Prop := stackCrowdRow.holds Try.pinned (OpenSpec.ofChange stackCrowdWrong)

/-- 'carillonlaw06.StackNone': WHATEVER THE INPUT: true; the input reads as it did. -/
def stackNoneSpec : ChangeSpec := { name := "stackNone", fn := fun _ => fun
  | [d1, d2] => { results := [.lit (.bool true)], args := [d1, d2] }
  | _ => none }
def stackNoneRow : OpenClaim := { program := "ytdmpmoggacjgcaa", sum := "3691cde154f54955b5cd280ebc948d325eac5bc7e4bcba6b4eca5a9d6b20f9c3", func := "carillon/carillonlaw06.StackNone", spec := "stackNone", inPlace := ["sync/atomic.StoreInt64", "sync/atomic.CompareAndSwapInt64"], unfollowed := true, recurses := true, leaving := true, apart := false }
def StackNoneSaid : Prop := stackNoneRow.holds Try.pinned (OpenSpec.ofChange stackNoneSpec)

/-- ITS FALSE NEIGHBOUR: 'it returns false'. Refute it at one input. -/
def stackNoneWrong : ChangeSpec := { name := "stackNone", fn := fun _ => fun
  | [d1, d2] => { results := [.lit (.bool false)], args := [d1, d2] }
  | _ => none }
def StackNoneWrongFalsely : Prop := stackNoneRow.holds Try.pinned (OpenSpec.ofChange stackNoneWrong)

/- THE SECOND FORM. 'bulk': how many values and letters a reading holds, each counted each time it is reached (what is shared counts as often as it is met; a slice's spare places count too). A statement '..UptoSaid' is the law's where the arguments, and the package variables that the reading takes, are together of bulk at most 1048576: NARROWER than '..Said'. Prove '..Said' where nothing that the law and all that it calls make is longer than what came in: it says more and counts as full. Else prove '..UptoSaid'. A law counts once. -/
mutual
def uptoBulk {H : Type} : DataW H → Nat
  | .lit (.string bytes) => bytes.length + 1
  | .lit _ => 1
  | .nil => 1
  | .ptr d => uptoBulk d + 1
  | .slice elems spare => uptoBulkAll elems + uptoBulkAll spare + 1
  | .agg parts => uptoBulkAll parts + 1
  | .iface _ d => uptoBulk d + 1
  | .map entries => uptoBulkEntries entries + 1
  | .held _ => 1
def uptoBulkAll {H : Type} : List (DataW H) → Nat
  | [] => 0
  | d :: r => uptoBulk d + uptoBulkAll r
def uptoBulkEntries {H : Type} : List (Lit × DataW H) → Nat
  | [] => 0
  | x :: r => uptoBulkEntry x + uptoBulkEntries r
def uptoBulkEntry {H : Type} : Lit × DataW H → Nat
  | (.string bytes, d) => bytes.length + uptoBulk d + 1
  | (_, d) => uptoBulk d + 1
 end
def uptoSmall : (H : Type) → List (DataW H) → Bool := fun _ ds => decide (uptoBulkAll ds ≤ 1048576)
def OpenSpec.upto (s : _root_.Go.ChangeSpec) : _root_.Go.OpenSpec := { _root_.Go.OpenSpec.ofChange s with cond := some uptoSmall }

/-- 'carillonlaw06.StackClassic', WHERE WHAT IT READS IS OF BULK AT MOST 1048576: true; the input reads as it did. -/
def stackClassicUptoRow : OpenClaim := { program := "ytdmpmoggacjgcaa", sum := "3691cde154f54955b5cd280ebc948d325eac5bc7e4bcba6b4eca5a9d6b20f9c3", func := "carillon/carillonlaw06.StackClassic", spec := "stackClassic", inPlace := ["sync/atomic.StoreInt64", "sync/atomic.CompareAndSwapInt64"], unfollowed := true, recurses := true, leaving := true, apart := false, narrowed := true }
def StackClassicUptoSaid : Prop := stackClassicUptoRow.holds Try.pinned (OpenSpec.upto stackClassicSpec)

/-- 'carillonlaw06.StackPlays', WHERE WHAT IT READS IS OF BULK AT MOST 1048576: true; the input reads as it did. -/
def stackPlaysUptoRow : OpenClaim := { program := "ytdmpmoggacjgcaa", sum := "3691cde154f54955b5cd280ebc948d325eac5bc7e4bcba6b4eca5a9d6b20f9c3", func := "carillon/carillonlaw06.StackPlays", spec := "stackPlays", inPlace := ["sync/atomic.StoreInt64", "sync/atomic.CompareAndSwapInt64"], unfollowed := true, recurses := true, leaving := true, apart := false, narrowed := true }
def StackPlaysUptoSaid : Prop := stackPlaysUptoRow.holds Try.pinned (OpenSpec.upto stackPlaysSpec)

/-- 'carillonlaw06.StackAlone', WHERE WHAT IT READS IS OF BULK AT MOST 1048576: true; the input reads as it did. -/
def stackAloneUptoRow : OpenClaim := { program := "ytdmpmoggacjgcaa", sum := "3691cde154f54955b5cd280ebc948d325eac5bc7e4bcba6b4eca5a9d6b20f9c3", func := "carillon/carillonlaw06.StackAlone", spec := "stackAlone", inPlace := ["sync/atomic.StoreInt64", "sync/atomic.CompareAndSwapInt64"], unfollowed := true, recurses := true, leaving := true, apart := false, narrowed := true }
def StackAloneUptoSaid : Prop := stackAloneUptoRow.holds Try.pinned (OpenSpec.upto stackAloneSpec)

/-- 'carillonlaw06.StackRight', WHERE WHAT IT READS IS OF BULK AT MOST 1048576: true; the input reads as it did. -/
def stackRightUptoRow : OpenClaim := { program := "ytdmpmoggacjgcaa", sum := "3691cde154f54955b5cd280ebc948d325eac5bc7e4bcba6b4eca5a9d6b20f9c3", func := "carillon/carillonlaw06.StackRight", spec := "stackRight", inPlace := ["sync/atomic.StoreInt64", "sync/atomic.CompareAndSwapInt64"], unfollowed := true, recurses := true, leaving := true, apart := false, narrowed := true }
def StackRightUptoSaid : Prop := stackRightUptoRow.holds Try.pinned (OpenSpec.upto stackRightSpec)

/-- 'carillonlaw06.StackFree', WHERE WHAT IT READS IS OF BULK AT MOST 1048576: true; the input reads as it did. -/
def stackFreeUptoRow : OpenClaim := { program := "ytdmpmoggacjgcaa", sum := "3691cde154f54955b5cd280ebc948d325eac5bc7e4bcba6b4eca5a9d6b20f9c3", func := "carillon/carillonlaw06.StackFree", spec := "stackFree", inPlace := ["sync/atomic.StoreInt64", "sync/atomic.CompareAndSwapInt64", "(*sync.WaitGroup).Go", "(*sync.WaitGroup).Add", "internal/race.ReleaseMerge", "internal/race.Disable", "internal/race.Enable", "internal/synctest.IsInBubble", "internal/synctest.Associate[sync.WaitGroup]", "sync.fatal", "sync/atomic.OrUint64", "sync/atomic.AddUint64", "internal/race.Read", "sync/atomic.LoadUint64", "sync/atomic.StoreUint64", "internal/synctest.Disassociate[sync.WaitGroup]", "sync.runtime_Semrelease", "(*sync.WaitGroup).Go$1", "(*sync.WaitGroup).Go$1$1", "(*sync.WaitGroup).Done", "(*sync.WaitGroup).Wait", "internal/race.Acquire", "internal/synctest.IsAssociated[sync.WaitGroup]", "sync/atomic.CompareAndSwapUint64", "internal/race.Write", "sync.runtime_SemacquireWaitGroup"], unfollowed := true, recurses := true, leaving := true, apart := false, narrowed := true }
def StackFreeUptoSaid : Prop := stackFreeUptoRow.holds Try.pinned (OpenSpec.upto stackFreeSpec)

/-- 'carillonlaw06.StackStorm', WHERE WHAT IT READS IS OF BULK AT MOST 1048576: true; the input reads as it did. -/
def stackStormUptoRow : OpenClaim := { program := "ytdmpmoggacjgcaa", sum := "3691cde154f54955b5cd280ebc948d325eac5bc7e4bcba6b4eca5a9d6b20f9c3", func := "carillon/carillonlaw06.StackStorm", spec := "stackStorm", inPlace := ["sync/atomic.StoreInt64", "sync/atomic.CompareAndSwapInt64", "(*sync.WaitGroup).Go", "(*sync.WaitGroup).Add", "internal/race.ReleaseMerge", "internal/race.Disable", "internal/race.Enable", "internal/synctest.IsInBubble", "internal/synctest.Associate[sync.WaitGroup]", "sync.fatal", "sync/atomic.OrUint64", "sync/atomic.AddUint64", "internal/race.Read", "sync/atomic.LoadUint64", "sync/atomic.StoreUint64", "internal/synctest.Disassociate[sync.WaitGroup]", "sync.runtime_Semrelease", "(*sync.WaitGroup).Go$1", "(*sync.WaitGroup).Go$1$1", "(*sync.WaitGroup).Done", "(*sync.WaitGroup).Wait", "internal/race.Acquire", "internal/synctest.IsAssociated[sync.WaitGroup]", "sync/atomic.CompareAndSwapUint64", "internal/race.Write", "sync.runtime_SemacquireWaitGroup"], unfollowed := true, recurses := true, leaving := true, apart := false, narrowed := true }
def StackStormUptoSaid : Prop := stackStormUptoRow.holds Try.pinned (OpenSpec.upto stackStormSpec)

/-- 'carillonlaw06.StackCrowd', WHERE WHAT IT READS IS OF BULK AT MOST 1048576: true; the input reads as it did. -/
def stackCrowdUptoRow : OpenClaim := { program := "ytdmpmoggacjgcaa", sum := "3691cde154f54955b5cd280ebc948d325eac5bc7e4bcba6b4eca5a9d6b20f9c3", func := "carillon/carillonlaw06.StackCrowd", spec := "stackCrowd", inPlace := ["sync/atomic.StoreInt64", "sync/atomic.CompareAndSwapInt64", "(*sync.WaitGroup).Go", "(*sync.WaitGroup).Add", "internal/race.ReleaseMerge", "internal/race.Disable", "internal/race.Enable", "internal/synctest.IsInBubble", "internal/synctest.Associate[sync.WaitGroup]", "sync.fatal", "sync/atomic.OrUint64", "sync/atomic.AddUint64", "internal/race.Read", "sync/atomic.LoadUint64", "sync/atomic.StoreUint64", "internal/synctest.Disassociate[sync.WaitGroup]", "sync.runtime_Semrelease", "(*sync.WaitGroup).Go$1", "(*sync.WaitGroup).Go$1$1", "(*sync.WaitGroup).Done", "(*sync.WaitGroup).Wait", "internal/race.Acquire", "internal/synctest.IsAssociated[sync.WaitGroup]", "sync/atomic.CompareAndSwapUint64", "internal/race.Write", "sync.runtime_SemacquireWaitGroup"], unfollowed := true, recurses := true, leaving := true, apart := false, narrowed := true }
def StackCrowdUptoSaid : Prop := stackCrowdUptoRow.holds Try.pinned (OpenSpec.upto stackCrowdSpec)

/-- 'carillonlaw06.StackNone', WHERE WHAT IT READS IS OF BULK AT MOST 1048576: true; the input reads as it did. -/
def stackNoneUptoRow : OpenClaim := { program := "ytdmpmoggacjgcaa", sum := "3691cde154f54955b5cd280ebc948d325eac5bc7e4bcba6b4eca5a9d6b20f9c3", func := "carillon/carillonlaw06.StackNone", spec := "stackNone", inPlace := ["sync/atomic.StoreInt64", "sync/atomic.CompareAndSwapInt64"], unfollowed := true, recurses := true, leaving := true, apart := false, narrowed := true }
def StackNoneUptoSaid : Prop := stackNoneUptoRow.holds Try.pinned (OpenSpec.upto stackNoneSpec)

end Rows
end Go.Proofs.Ytdmpmoggacjgcaa
