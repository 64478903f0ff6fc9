/-
  No cell of these rows narrows 'for every input' (looked for: loops, veiled, ifaces, maps, wideKeys, modest, calm, conditions, laid).
  DERIVED. THE GIVEN ROWS OF THIS SEAT. 10 by the template 'for every input the law returns true; each argument reads behind the call as it read before'; 0 by the template 'total and deterministic' (their statements: YtflcclneedldoaaTotals.lean).
  GIVEN WITH THE SEED: the statements are not yours to turn. If you find one false, say at which input.
  Laid BY PROGRAM, IN A SANDBOX (cutbox-rows.mjs): the forced cells as the released guide's own fill.sh prints them over the translation eb5e2bf10c949b0f… (all of the seat's roots in one cut). By AI agents, Wed Nov 11 2026. No macro, syntax, notation, axiom, sorry.
-/
import Derived.Test.YtflcclneedldoaaChecked
import GoSem.Claim
import GoSem.ClaimJoined
import GoSem.ClaimMapViews
import Derived.JoinedTies
import Derived.KernelRfl
namespace Go.Proofs.Ytflcclneedldoaa
/- THE CELL 'sum', in the pinned program and in every row, IS THE sha256 OF THE DUMP (.gsa) THAT YtflcclneedldoaaProg.lean LOADS. Nothing in Lean hashes anything: it is a label: what it is worth is what the hold of that sum in a sandbox is worth. -/
noncomputable def Try.pinned : Pinned := { name := "ytflcclneedldoaa", sum := "eb5e2bf10c949b0fa09d4b8759a5dc18817a69ab81cdc3edffcd3a311ab08edb", checked := Try.checked }
namespace Rows
def none {H : Type} : Left H := { results := [], args := [] }

/-- 'carillonlaw11.SlotsCalls': WHATEVER THE INPUT: true; the input reads as it did. -/
def slotsCallsSpec : ChangeSpec := { name := "slotsCalls", fn := fun _ => fun
  | [d1, d2] => { results := [.lit (.bool true)], args := [d1, d2] }
  | _ => none }
def slotsCallsRow : OpenClaim := { program := "ytflcclneedldoaa", sum := "eb5e2bf10c949b0fa09d4b8759a5dc18817a69ab81cdc3edffcd3a311ab08edb", func := "carillon/carillonlaw11.SlotsCalls", spec := "slotsCalls", inPlace := ["sync/atomic.StoreInt64"], unfollowed := true, recurses := true, leaving := true, apart := false }
def SlotsCallsSaid : Prop := slotsCallsRow.holds Try.pinned (OpenSpec.ofChange slotsCallsSpec)

/-- ITS FALSE NEIGHBOUR: 'it returns false'. Refute it at one input. -/
def slotsCallsWrong : ChangeSpec := { name := "slotsCalls", fn := fun _ => fun
  | [d1, d2] => { results := [.lit (.bool false)], args := [d1, d2] }
  | _ => none }
def SlotsCallsWrongFalsely : Prop := slotsCallsRow.holds Try.pinned (OpenSpec.ofChange slotsCallsWrong)

/-- 'carillonlaw12.SoloPlays': WHATEVER THE INPUT: true; the input reads as it did. -/
def soloPlaysSpec : ChangeSpec := { name := "soloPlays", fn := fun _ => fun
  | [d] => { results := [.lit (.bool true)], args := [d] }
  | _ => none }
def soloPlaysRow : OpenClaim := { program := "ytflcclneedldoaa", sum := "eb5e2bf10c949b0fa09d4b8759a5dc18817a69ab81cdc3edffcd3a311ab08edb", func := "carillon/carillonlaw12.SoloPlays", spec := "soloPlays", inPlace := ["sync/atomic.StoreInt64"], unfollowed := true, recurses := true, leaving := true, apart := false }
def SoloPlaysSaid : Prop := soloPlaysRow.holds Try.pinned (OpenSpec.ofChange soloPlaysSpec)

/-- ITS FALSE NEIGHBOUR: 'it returns false'. Refute it at one input. -/
def soloPlaysWrong : ChangeSpec := { name := "soloPlays", fn := fun _ => fun
  | [d] => { results := [.lit (.bool false)], args := [d] }
  | _ => none }
def SoloPlaysWrongFalsely : Prop := soloPlaysRow.holds Try.pinned (OpenSpec.ofChange soloPlaysWrong)

/-- 'carillonlaw12.SoloRuns': WHATEVER THE INPUT: true; the input reads as it did. -/
def soloRunsSpec : ChangeSpec := { name := "soloRuns", fn := fun _ => fun
  | [d] => { results := [.lit (.bool true)], args := [d] }
  | _ => none }
def soloRunsRow : OpenClaim := { program := "ytflcclneedldoaa", sum := "eb5e2bf10c949b0fa09d4b8759a5dc18817a69ab81cdc3edffcd3a311ab08edb", func := "carillon/carillonlaw12.SoloRuns", spec := "soloRuns", inPlace := ["sync/atomic.StoreInt64"], unfollowed := true, recurses := true, leaving := true, apart := false }
def SoloRunsSaid : Prop := soloRunsRow.holds Try.pinned (OpenSpec.ofChange soloRunsSpec)

/-- ITS FALSE NEIGHBOUR: 'it returns false'. Refute it at one input. -/
def soloRunsWrong : ChangeSpec := { name := "soloRuns", fn := fun _ => fun
  | [d] => { results := [.lit (.bool false)], args := [d] }
  | _ => none }
def SoloRunsWrongFalsely : Prop := soloRunsRow.holds Try.pinned (OpenSpec.ofChange soloRunsWrong)

/-- 'carillonlaw12.SoloStops': WHATEVER THE INPUT: true; the input reads as it did. -/
def soloStopsSpec : ChangeSpec := { name := "soloStops", fn := fun _ => fun
  | [d1, d2] => { results := [.lit (.bool true)], args := [d1, d2] }
  | _ => none }
def soloStopsRow : OpenClaim := { program := "ytflcclneedldoaa", sum := "eb5e2bf10c949b0fa09d4b8759a5dc18817a69ab81cdc3edffcd3a311ab08edb", func := "carillon/carillonlaw12.SoloStops", spec := "soloStops", inPlace := ["sync/atomic.StoreInt64"], unfollowed := true, recurses := true, leaving := true, apart := false }
def SoloStopsSaid : Prop := soloStopsRow.holds Try.pinned (OpenSpec.ofChange soloStopsSpec)

/-- ITS FALSE NEIGHBOUR: 'it returns false'. Refute it at one input. -/
def soloStopsWrong : ChangeSpec := { name := "soloStops", fn := fun _ => fun
  | [d1, d2] => { results := [.lit (.bool false)], args := [d1, d2] }
  | _ => none }
def SoloStopsWrongFalsely : Prop := soloStopsRow.holds Try.pinned (OpenSpec.ofChange soloStopsWrong)

/-- 'carillonlaw13.MultiNil': WHATEVER THE INPUT: true; the input reads as it did. -/
def multiNilSpec : ChangeSpec := { name := "multiNil", fn := fun _ => fun
  | [d1, d2] => { results := [.lit (.bool true)], args := [d1, d2] }
  | _ => none }
def multiNilRow : OpenClaim := { program := "ytflcclneedldoaa", sum := "eb5e2bf10c949b0fa09d4b8759a5dc18817a69ab81cdc3edffcd3a311ab08edb", func := "carillon/carillonlaw13.MultiNil", spec := "multiNil", inPlace := ["sync/atomic.StoreInt64", "sync/atomic.CompareAndSwapInt64"], unfollowed := true, recurses := true, leaving := true, apart := false }
def MultiNilSaid : Prop := multiNilRow.holds Try.pinned (OpenSpec.ofChange multiNilSpec)

/-- ITS FALSE NEIGHBOUR: 'it returns false'. Refute it at one input. -/
def multiNilWrong : ChangeSpec := { name := "multiNil", fn := fun _ => fun
  | [d1, d2] => { results := [.lit (.bool false)], args := [d1, d2] }
  | _ => none }
def MultiNilWrongFalsely : Prop := multiNilRow.holds Try.pinned (OpenSpec.ofChange multiNilWrong)

/-- 'carillonlaw13.MultiSlow': WHATEVER THE INPUT: true; the input reads as it did. -/
def multiSlowSpec : ChangeSpec := { name := "multiSlow", fn := fun _ => fun
  | [d1, d2] => { results := [.lit (.bool true)], args := [d1, d2] }
  | _ => none }
def multiSlowRow : OpenClaim := { program := "ytflcclneedldoaa", sum := "eb5e2bf10c949b0fa09d4b8759a5dc18817a69ab81cdc3edffcd3a311ab08edb", func := "carillon/carillonlaw13.MultiSlow", spec := "multiSlow", inPlace := ["sync/atomic.StoreInt64", "sync/atomic.CompareAndSwapInt64"], unfollowed := true, recurses := true, leaving := true, apart := false }
def MultiSlowSaid : Prop := multiSlowRow.holds Try.pinned (OpenSpec.ofChange multiSlowSpec)

/-- ITS FALSE NEIGHBOUR: 'it returns false'. Refute it at one input. -/
def multiSlowWrong : ChangeSpec := { name := "multiSlow", fn := fun _ => fun
  | [d1, d2] => { results := [.lit (.bool false)], args := [d1, d2] }
  | _ => none }
def MultiSlowWrongFalsely : Prop := multiSlowRow.holds Try.pinned (OpenSpec.ofChange multiSlowWrong)

/-- 'carillonlaw14.GatePlays': WHATEVER THE INPUT: true; the input reads as it did. -/
def gatePlaysSpec : ChangeSpec := { name := "gatePlays", fn := fun _ => fun
  | [d] => { results := [.lit (.bool true)], args := [d] }
  | _ => none }
def gatePlaysRow : OpenClaim := { program := "ytflcclneedldoaa", sum := "eb5e2bf10c949b0fa09d4b8759a5dc18817a69ab81cdc3edffcd3a311ab08edb", func := "carillon/carillonlaw14.GatePlays", spec := "gatePlays", inPlace := ["sync/atomic.StoreInt64", "sync/atomic.CompareAndSwapPointer"], unfollowed := true, recurses := true, leaving := true, apart := false }
def GatePlaysSaid : Prop := gatePlaysRow.holds Try.pinned (OpenSpec.ofChange gatePlaysSpec)

/-- ITS FALSE NEIGHBOUR: 'it returns false'. Refute it at one input. -/
def gatePlaysWrong : ChangeSpec := { name := "gatePlays", fn := fun _ => fun
  | [d] => { results := [.lit (.bool false)], args := [d] }
  | _ => none }
def GatePlaysWrongFalsely : Prop := gatePlaysRow.holds Try.pinned (OpenSpec.ofChange gatePlaysWrong)

/-- 'carillonlaw14.GateCalls': WHATEVER THE INPUT: true; the input reads as it did. -/
def gateCallsSpec : ChangeSpec := { name := "gateCalls", fn := fun _ => fun
  | [d] => { results := [.lit (.bool true)], args := [d] }
  | _ => none }
def gateCallsRow : OpenClaim := { program := "ytflcclneedldoaa", sum := "eb5e2bf10c949b0fa09d4b8759a5dc18817a69ab81cdc3edffcd3a311ab08edb", func := "carillon/carillonlaw14.GateCalls", spec := "gateCalls", inPlace := ["sync/atomic.StoreInt64", "sync/atomic.CompareAndSwapPointer"], unfollowed := true, recurses := true, leaving := true, apart := false }
def GateCallsSaid : Prop := gateCallsRow.holds Try.pinned (OpenSpec.ofChange gateCallsSpec)

/-- ITS FALSE NEIGHBOUR: 'it returns false'. Refute it at one input. -/
def gateCallsWrong : ChangeSpec := { name := "gateCalls", fn := fun _ => fun
  | [d] => { results := [.lit (.bool false)], args := [d] }
  | _ => none }
def GateCallsWrongFalsely : Prop := gateCallsRow.holds Try.pinned (OpenSpec.ofChange gateCallsWrong)

/-- 'carillonlaw14.GateNone': WHATEVER THE INPUT: true; the input reads as it did. -/
def gateNoneSpec : ChangeSpec := { name := "gateNone", fn := fun _ => fun
  | [d] => { results := [.lit (.bool true)], args := [d] }
  | _ => none }
def gateNoneRow : OpenClaim := { program := "ytflcclneedldoaa", sum := "eb5e2bf10c949b0fa09d4b8759a5dc18817a69ab81cdc3edffcd3a311ab08edb", func := "carillon/carillonlaw14.GateNone", spec := "gateNone", inPlace := ["sync/atomic.StoreInt64", "sync/atomic.CompareAndSwapPointer"], unfollowed := true, recurses := true, leaving := true, apart := false }
def GateNoneSaid : Prop := gateNoneRow.holds Try.pinned (OpenSpec.ofChange gateNoneSpec)

/-- ITS FALSE NEIGHBOUR: 'it returns false'. Refute it at one input. -/
def gateNoneWrong : ChangeSpec := { name := "gateNone", fn := fun _ => fun
  | [d] => { results := [.lit (.bool false)], args := [d] }
  | _ => none }
def GateNoneWrongFalsely : Prop := gateNoneRow.holds Try.pinned (OpenSpec.ofChange gateNoneWrong)

/-- 'carillonlaw14.GateKeeps': WHATEVER THE INPUT: true; the input reads as it did. -/
def gateKeepsSpec : ChangeSpec := { name := "gateKeeps", fn := fun _ => fun
  | [d1, d2] => { results := [.lit (.bool true)], args := [d1, d2] }
  | _ => none }
def gateKeepsRow : OpenClaim := { program := "ytflcclneedldoaa", sum := "eb5e2bf10c949b0fa09d4b8759a5dc18817a69ab81cdc3edffcd3a311ab08edb", func := "carillon/carillonlaw14.GateKeeps", spec := "gateKeeps", inPlace := ["sync/atomic.StoreInt64", "sync/atomic.CompareAndSwapPointer"], unfollowed := true, recurses := true, leaving := true, apart := false }
def GateKeepsSaid : Prop := gateKeepsRow.holds Try.pinned (OpenSpec.ofChange gateKeepsSpec)

/-- ITS FALSE NEIGHBOUR: 'it returns false'. Refute it at one input. -/
def gateKeepsWrong : ChangeSpec := { name := "gateKeeps", fn := fun _ => fun
  | [d1, d2] => { results := [.lit (.bool false)], args := [d1, d2] }
  | _ => none }
def GateKeepsWrongFalsely : Prop := gateKeepsRow.holds Try.pinned (OpenSpec.ofChange gateKeepsWrong)

/- THE SECOND FORM. 'bulk': how many values and letters a reading holds, each counted each time it is reached (what is shared counts as often as it is met; a slice's spare places count too). A statement '..UptoSaid' is the law's where the arguments, and the package variables that the reading takes, are together of bulk at most 1048576: NARROWER than '..Said'. Prove '..Said' where nothing that the law and all that it calls make is longer than what came in: it says more and counts as full. Else prove '..UptoSaid'. A law counts once. -/
mutual
def uptoBulk {H : Type} : DataW H → Nat
  | .lit (.string bytes) => bytes.length + 1
  | .lit _ => 1
  | .nil => 1
  | .ptr d => uptoBulk d + 1
  | .slice elems spare => uptoBulkAll elems + uptoBulkAll spare + 1
  | .agg parts => uptoBulkAll parts + 1
  | .iface _ d => uptoBulk d + 1
  | .map entries => uptoBulkEntries entries + 1
  | .held _ => 1
def uptoBulkAll {H : Type} : List (DataW H) → Nat
  | [] => 0
  | d :: r => uptoBulk d + uptoBulkAll r
def uptoBulkEntries {H : Type} : List (Lit × DataW H) → Nat
  | [] => 0
  | x :: r => uptoBulkEntry x + uptoBulkEntries r
def uptoBulkEntry {H : Type} : Lit × DataW H → Nat
  | (.string bytes, d) => bytes.length + uptoBulk d + 1
  | (_, d) => uptoBulk d + 1
 end
def uptoSmall : (H : Type) → List (DataW H) → Bool := fun _ ds => decide (uptoBulkAll ds ≤ 1048576)
def OpenSpec.upto (s : _root_.Go.ChangeSpec) : _root_.Go.OpenSpec := { _root_.Go.OpenSpec.ofChange s with cond := some uptoSmall }

/-- 'carillonlaw11.SlotsCalls', WHERE WHAT IT READS IS OF BULK AT MOST 1048576: true; the input reads as it did. -/
def slotsCallsUptoRow : OpenClaim := { program := "ytflcclneedldoaa", sum := "eb5e2bf10c949b0fa09d4b8759a5dc18817a69ab81cdc3edffcd3a311ab08edb", func := "carillon/carillonlaw11.SlotsCalls", spec := "slotsCalls", inPlace := ["sync/atomic.StoreInt64"], unfollowed := true, recurses := true, leaving := true, apart := false, narrowed := true }
def SlotsCallsUptoSaid : Prop := slotsCallsUptoRow.holds Try.pinned (OpenSpec.upto slotsCallsSpec)

/-- 'carillonlaw12.SoloPlays', WHERE WHAT IT READS IS OF BULK AT MOST 1048576: true; the input reads as it did. -/
def soloPlaysUptoRow : OpenClaim := { program := "ytflcclneedldoaa", sum := "eb5e2bf10c949b0fa09d4b8759a5dc18817a69ab81cdc3edffcd3a311ab08edb", func := "carillon/carillonlaw12.SoloPlays", spec := "soloPlays", inPlace := ["sync/atomic.StoreInt64"], unfollowed := true, recurses := true, leaving := true, apart := false, narrowed := true }
def SoloPlaysUptoSaid : Prop := soloPlaysUptoRow.holds Try.pinned (OpenSpec.upto soloPlaysSpec)

/-- 'carillonlaw12.SoloRuns', WHERE WHAT IT READS IS OF BULK AT MOST 1048576: true; the input reads as it did. -/
def soloRunsUptoRow : OpenClaim := { program := "ytflcclneedldoaa", sum := "eb5e2bf10c949b0fa09d4b8759a5dc18817a69ab81cdc3edffcd3a311ab08edb", func := "carillon/carillonlaw12.SoloRuns", spec := "soloRuns", inPlace := ["sync/atomic.StoreInt64"], unfollowed := true, recurses := true, leaving := true, apart := false, narrowed := true }
def SoloRunsUptoSaid : Prop := soloRunsUptoRow.holds Try.pinned (OpenSpec.upto soloRunsSpec)

/-- 'carillonlaw12.SoloStops', WHERE WHAT IT READS IS OF BULK AT MOST 1048576: true; the input reads as it did. -/
def soloStopsUptoRow : OpenClaim := { program := "ytflcclneedldoaa", sum := "eb5e2bf10c949b0fa09d4b8759a5dc18817a69ab81cdc3edffcd3a311ab08edb", func := "carillon/carillonlaw12.SoloStops", spec := "soloStops", inPlace := ["sync/atomic.StoreInt64"], unfollowed := true, recurses := true, leaving := true, apart := false, narrowed := true }
def SoloStopsUptoSaid : Prop := soloStopsUptoRow.holds Try.pinned (OpenSpec.upto soloStopsSpec)

/-- 'carillonlaw13.MultiNil', WHERE WHAT IT READS IS OF BULK AT MOST 1048576: true; the input reads as it did. -/
def multiNilUptoRow : OpenClaim := { program := "ytflcclneedldoaa", sum := "eb5e2bf10c949b0fa09d4b8759a5dc18817a69ab81cdc3edffcd3a311ab08edb", func := "carillon/carillonlaw13.MultiNil", spec := "multiNil", inPlace := ["sync/atomic.StoreInt64", "sync/atomic.CompareAndSwapInt64"], unfollowed := true, recurses := true, leaving := true, apart := false, narrowed := true }
def MultiNilUptoSaid : Prop := multiNilUptoRow.holds Try.pinned (OpenSpec.upto multiNilSpec)

/-- 'carillonlaw13.MultiSlow', WHERE WHAT IT READS IS OF BULK AT MOST 1048576: true; the input reads as it did. -/
def multiSlowUptoRow : OpenClaim := { program := "ytflcclneedldoaa", sum := "eb5e2bf10c949b0fa09d4b8759a5dc18817a69ab81cdc3edffcd3a311ab08edb", func := "carillon/carillonlaw13.MultiSlow", spec := "multiSlow", inPlace := ["sync/atomic.StoreInt64", "sync/atomic.CompareAndSwapInt64"], unfollowed := true, recurses := true, leaving := true, apart := false, narrowed := true }
def MultiSlowUptoSaid : Prop := multiSlowUptoRow.holds Try.pinned (OpenSpec.upto multiSlowSpec)

/-- 'carillonlaw14.GatePlays', WHERE WHAT IT READS IS OF BULK AT MOST 1048576: true; the input reads as it did. -/
def gatePlaysUptoRow : OpenClaim := { program := "ytflcclneedldoaa", sum := "eb5e2bf10c949b0fa09d4b8759a5dc18817a69ab81cdc3edffcd3a311ab08edb", func := "carillon/carillonlaw14.GatePlays", spec := "gatePlays", inPlace := ["sync/atomic.StoreInt64", "sync/atomic.CompareAndSwapPointer"], unfollowed := true, recurses := true, leaving := true, apart := false, narrowed := true }
def GatePlaysUptoSaid : Prop := gatePlaysUptoRow.holds Try.pinned (OpenSpec.upto gatePlaysSpec)

/-- 'carillonlaw14.GateCalls', WHERE WHAT IT READS IS OF BULK AT MOST 1048576: true; the input reads as it did. -/
def gateCallsUptoRow : OpenClaim := { program := "ytflcclneedldoaa", sum := "eb5e2bf10c949b0fa09d4b8759a5dc18817a69ab81cdc3edffcd3a311ab08edb", func := "carillon/carillonlaw14.GateCalls", spec := "gateCalls", inPlace := ["sync/atomic.StoreInt64", "sync/atomic.CompareAndSwapPointer"], unfollowed := true, recurses := true, leaving := true, apart := false, narrowed := true }
def GateCallsUptoSaid : Prop := gateCallsUptoRow.holds Try.pinned (OpenSpec.upto gateCallsSpec)

/-- 'carillonlaw14.GateNone', WHERE WHAT IT READS IS OF BULK AT MOST 1048576: true; the input reads as it did. -/
def gateNoneUptoRow : OpenClaim := { program := "ytflcclneedldoaa", sum := "eb5e2bf10c949b0fa09d4b8759a5dc18817a69ab81cdc3edffcd3a311ab08edb", func := "carillon/carillonlaw14.GateNone", spec := "gateNone", inPlace := ["sync/atomic.StoreInt64", "sync/atomic.CompareAndSwapPointer"], unfollowed := true, recurses := true, leaving := true, apart := false, narrowed := true }
def GateNoneUptoSaid : Prop := gateNoneUptoRow.holds Try.pinned (OpenSpec.upto gateNoneSpec)

/-- 'carillonlaw14.GateKeeps', WHERE WHAT IT READS IS OF BULK AT MOST 1048576: true; the input reads as it did. -/
def gateKeepsUptoRow : OpenClaim := { program := "ytflcclneedldoaa", sum := "eb5e2bf10c949b0fa09d4b8759a5dc18817a69ab81cdc3edffcd3a311ab08edb", func := "carillon/carillonlaw14.GateKeeps", spec := "gateKeeps", inPlace := ["sync/atomic.StoreInt64", "sync/atomic.CompareAndSwapPointer"], unfollowed := true, recurses := true, leaving := true, apart := false, narrowed := true }
def GateKeepsUptoSaid : Prop := gateKeepsUptoRow.holds Try.pinned (OpenSpec.upto gateKeepsSpec)

end Rows
end Go.Proofs.Ytflcclneedldoaa
