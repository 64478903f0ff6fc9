/-
  No cell of these rows narrows 'for every input' (looked for: loops, veiled, ifaces, maps, wideKeys, modest, calm, conditions, laid).
  DERIVED. THE GIVEN ROWS OF THIS SEAT. 9 by the template 'for every input the law returns true; each argument reads behind the call as it read before'; 0 by the template 'total and deterministic' (their statements: YtgfajibjedfkdaaTotals.lean).
  GIVEN WITH THE SEED: the statements are not yours to turn. If you find one false, say at which input.
  Laid BY PROGRAM, IN A SANDBOX (cutbox-rows.mjs): the forced cells as the released guide's own fill.sh prints them over the translation bcd05a7372999749… (all of the seat's roots in one cut). By AI agents, Wed Nov 11 2026. No macro, syntax, notation, axiom, sorry.
-/
import Derived.Test.YtgfajibjedfkdaaChecked
import GoSem.Claim
import GoSem.ClaimJoined
import GoSem.ClaimMapViews
import Derived.JoinedTies
import Derived.KernelRfl
namespace Go.Proofs.Ytgfajibjedfkdaa
/- THE CELL 'sum', in the pinned program and in every row, IS THE sha256 OF THE DUMP (.gsa) THAT YtgfajibjedfkdaaProg.lean LOADS. Nothing in Lean hashes anything: it is a label: what it is worth is what the hold of that sum in a sandbox is worth. -/
noncomputable def Try.pinned : Pinned := { name := "ytgfajibjedfkdaa", sum := "bcd05a7372999749606f902c196ab5ae3c114bf0d48b10bb4323727c56731f4a", checked := Try.checked }
namespace Rows
def none {H : Type} : Left H := { results := [], args := [] }

/-- 'carillonlaw15.BarrierOwn': WHATEVER THE INPUT: true; the input reads as it did. -/
def barrierOwnSpec : ChangeSpec := { name := "barrierOwn", fn := fun _ => fun
  | [d1, d2, d3, d4] => { results := [.lit (.bool true)], args := [d1, d2, d3, d4] }
  | _ => none }
def barrierOwnRow : OpenClaim := { program := "ytgfajibjedfkdaa", sum := "bcd05a7372999749606f902c196ab5ae3c114bf0d48b10bb4323727c56731f4a", func := "carillon/carillonlaw15.BarrierOwn", spec := "barrierOwn", unfollowed := true, recurses := true, leaving := true, apart := false }
def BarrierOwnSaid : Prop := barrierOwnRow.holds Try.pinned (OpenSpec.ofChange barrierOwnSpec)

/-- ITS FALSE NEIGHBOUR: 'it returns false'. Refute it at one input. -/
def barrierOwnWrong : ChangeSpec := { name := "barrierOwn", fn := fun _ => fun
  | [d1, d2, d3, d4] => { results := [.lit (.bool false)], args := [d1, d2, d3, d4] }
  | _ => none }
def BarrierOwnWrongFalsely : Prop := barrierOwnRow.holds Try.pinned (OpenSpec.ofChange barrierOwnWrong)

/-- 'carillonlaw15.BarrierAlarm': WHATEVER THE INPUT: true; the input reads as it did. -/
def barrierAlarmSpec : ChangeSpec := { name := "barrierAlarm", fn := fun _ => fun
  | [d1, d2, d3] => { results := [.lit (.bool true)], args := [d1, d2, d3] }
  | _ => none }
def barrierAlarmRow : OpenClaim := { program := "ytgfajibjedfkdaa", sum := "bcd05a7372999749606f902c196ab5ae3c114bf0d48b10bb4323727c56731f4a", func := "carillon/carillonlaw15.BarrierAlarm", spec := "barrierAlarm", inPlace := ["sync/atomic.SwapUint32"], unfollowed := true, recurses := true, leaving := true, apart := false }
def BarrierAlarmSaid : Prop := barrierAlarmRow.holds Try.pinned (OpenSpec.ofChange barrierAlarmSpec)

/-- ITS FALSE NEIGHBOUR: 'it returns false'. Refute it at one input. -/
def barrierAlarmWrong : ChangeSpec := { name := "barrierAlarm", fn := fun _ => fun
  | [d1, d2, d3] => { results := [.lit (.bool false)], args := [d1, d2, d3] }
  | _ => none }
def BarrierAlarmWrongFalsely : Prop := barrierAlarmRow.holds Try.pinned (OpenSpec.ofChange barrierAlarmWrong)

/-- 'carillonlaw15.BarrierNone': WHATEVER THE INPUT: true; the input reads as it did. -/
def barrierNoneSpec : ChangeSpec := { name := "barrierNone", fn := fun _ => fun
  | [d1, d2, d3] => { results := [.lit (.bool true)], args := [d1, d2, d3] }
  | _ => none }
def barrierNoneRow : OpenClaim := { program := "ytgfajibjedfkdaa", sum := "bcd05a7372999749606f902c196ab5ae3c114bf0d48b10bb4323727c56731f4a", func := "carillon/carillonlaw15.BarrierNone", spec := "barrierNone", inPlace := ["sync/atomic.SwapUint32"], unfollowed := true, recurses := true, leaving := true, apart := false }
def BarrierNoneSaid : Prop := barrierNoneRow.holds Try.pinned (OpenSpec.ofChange barrierNoneSpec)

/-- ITS FALSE NEIGHBOUR: 'it returns false'. Refute it at one input. -/
def barrierNoneWrong : ChangeSpec := { name := "barrierNone", fn := fun _ => fun
  | [d1, d2, d3] => { results := [.lit (.bool false)], args := [d1, d2, d3] }
  | _ => none }
def BarrierNoneWrongFalsely : Prop := barrierNoneRow.holds Try.pinned (OpenSpec.ofChange barrierNoneWrong)

/-- 'carillonlaw15.BarrierPlays': WHATEVER THE INPUT: true; the input reads as it did. -/
def barrierPlaysSpec : ChangeSpec := { name := "barrierPlays", fn := fun _ => fun
  | [d] => { results := [.lit (.bool true)], args := [d] }
  | _ => none }
def barrierPlaysRow : OpenClaim := { program := "ytgfajibjedfkdaa", sum := "bcd05a7372999749606f902c196ab5ae3c114bf0d48b10bb4323727c56731f4a", func := "carillon/carillonlaw15.BarrierPlays", spec := "barrierPlays", inPlace := ["sync/atomic.StoreInt64", "sync/atomic.SwapUint32", "sync/atomic.AddInt64"], unfollowed := true, recurses := true, leaving := true, apart := false }
def BarrierPlaysSaid : Prop := barrierPlaysRow.holds Try.pinned (OpenSpec.ofChange barrierPlaysSpec)

/-- ITS FALSE NEIGHBOUR: 'it returns false'. Refute it at one input. -/
def barrierPlaysWrong : ChangeSpec := { name := "barrierPlays", fn := fun _ => fun
  | [d] => { results := [.lit (.bool false)], args := [d] }
  | _ => none }
def BarrierPlaysWrongFalsely : Prop := barrierPlaysRow.holds Try.pinned (OpenSpec.ofChange barrierPlaysWrong)

/-- 'carillonlaw15.BarrierFar': WHATEVER THE INPUT: true; the input reads as it did. -/
def barrierFarSpec : ChangeSpec := { name := "barrierFar", fn := fun _ => fun
  | [d1, d2, d3] => { results := [.lit (.bool true)], args := [d1, d2, d3] }
  | _ => none }
def barrierFarRow : OpenClaim := { program := "ytgfajibjedfkdaa", sum := "bcd05a7372999749606f902c196ab5ae3c114bf0d48b10bb4323727c56731f4a", func := "carillon/carillonlaw15.BarrierFar", spec := "barrierFar", inPlace := ["sync/atomic.StoreInt64", "sync/atomic.SwapUint32", "sync/atomic.AddInt64"], unfollowed := true, recurses := true, leaving := true, apart := false }
def BarrierFarSaid : Prop := barrierFarRow.holds Try.pinned (OpenSpec.ofChange barrierFarSpec)

/-- ITS FALSE NEIGHBOUR: 'it returns false'. Refute it at one input. -/
def barrierFarWrong : ChangeSpec := { name := "barrierFar", fn := fun _ => fun
  | [d1, d2, d3] => { results := [.lit (.bool false)], args := [d1, d2, d3] }
  | _ => none }
def BarrierFarWrongFalsely : Prop := barrierFarRow.holds Try.pinned (OpenSpec.ofChange barrierFarWrong)

/-- 'carillonlaw14.GatePlays': WHATEVER THE INPUT: true; the input reads as it did. -/
def gatePlaysSpec : ChangeSpec := { name := "gatePlays", fn := fun _ => fun
  | [d] => { results := [.lit (.bool true)], args := [d] }
  | _ => none }
def gatePlaysRow : OpenClaim := { program := "ytgfajibjedfkdaa", sum := "bcd05a7372999749606f902c196ab5ae3c114bf0d48b10bb4323727c56731f4a", func := "carillon/carillonlaw14.GatePlays", spec := "gatePlays", inPlace := ["sync/atomic.StoreInt64", "sync/atomic.CompareAndSwapPointer"], unfollowed := true, recurses := true, leaving := true, apart := false }
def GatePlaysSaid : Prop := gatePlaysRow.holds Try.pinned (OpenSpec.ofChange gatePlaysSpec)

/-- ITS FALSE NEIGHBOUR: 'it returns false'. Refute it at one input. -/
def gatePlaysWrong : ChangeSpec := { name := "gatePlays", fn := fun _ => fun
  | [d] => { results := [.lit (.bool false)], args := [d] }
  | _ => none }
def GatePlaysWrongFalsely : Prop := gatePlaysRow.holds Try.pinned (OpenSpec.ofChange gatePlaysWrong)

/-- 'carillonlaw14.GateCalls': WHATEVER THE INPUT: true; the input reads as it did. -/
def gateCallsSpec : ChangeSpec := { name := "gateCalls", fn := fun _ => fun
  | [d] => { results := [.lit (.bool true)], args := [d] }
  | _ => none }
def gateCallsRow : OpenClaim := { program := "ytgfajibjedfkdaa", sum := "bcd05a7372999749606f902c196ab5ae3c114bf0d48b10bb4323727c56731f4a", func := "carillon/carillonlaw14.GateCalls", spec := "gateCalls", inPlace := ["sync/atomic.StoreInt64", "sync/atomic.CompareAndSwapPointer"], unfollowed := true, recurses := true, leaving := true, apart := false }
def GateCallsSaid : Prop := gateCallsRow.holds Try.pinned (OpenSpec.ofChange gateCallsSpec)

/-- ITS FALSE NEIGHBOUR: 'it returns false'. Refute it at one input. -/
def gateCallsWrong : ChangeSpec := { name := "gateCalls", fn := fun _ => fun
  | [d] => { results := [.lit (.bool false)], args := [d] }
  | _ => none }
def GateCallsWrongFalsely : Prop := gateCallsRow.holds Try.pinned (OpenSpec.ofChange gateCallsWrong)

/-- 'carillonlaw14.GateNone': WHATEVER THE INPUT: true; the input reads as it did. -/
def gateNoneSpec : ChangeSpec := { name := "gateNone", fn := fun _ => fun
  | [d] => { results := [.lit (.bool true)], args := [d] }
  | _ => none }
def gateNoneRow : OpenClaim := { program := "ytgfajibjedfkdaa", sum := "bcd05a7372999749606f902c196ab5ae3c114bf0d48b10bb4323727c56731f4a", func := "carillon/carillonlaw14.GateNone", spec := "gateNone", inPlace := ["sync/atomic.StoreInt64", "sync/atomic.CompareAndSwapPointer"], unfollowed := true, recurses := true, leaving := true, apart := false }
def GateNoneSaid : Prop := gateNoneRow.holds Try.pinned (OpenSpec.ofChange gateNoneSpec)

/-- ITS FALSE NEIGHBOUR: 'it returns false'. Refute it at one input. -/
def gateNoneWrong : ChangeSpec := { name := "gateNone", fn := fun _ => fun
  | [d] => { results := [.lit (.bool false)], args := [d] }
  | _ => none }
def GateNoneWrongFalsely : Prop := gateNoneRow.holds Try.pinned (OpenSpec.ofChange gateNoneWrong)

/-- 'carillonlaw14.GateKeeps': WHATEVER THE INPUT: true; the input reads as it did. -/
def gateKeepsSpec : ChangeSpec := { name := "gateKeeps", fn := fun _ => fun
  | [d1, d2] => { results := [.lit (.bool true)], args := [d1, d2] }
  | _ => none }
def gateKeepsRow : OpenClaim := { program := "ytgfajibjedfkdaa", sum := "bcd05a7372999749606f902c196ab5ae3c114bf0d48b10bb4323727c56731f4a", func := "carillon/carillonlaw14.GateKeeps", spec := "gateKeeps", inPlace := ["sync/atomic.StoreInt64", "sync/atomic.CompareAndSwapPointer"], unfollowed := true, recurses := true, leaving := true, apart := false }
def GateKeepsSaid : Prop := gateKeepsRow.holds Try.pinned (OpenSpec.ofChange gateKeepsSpec)

/-- ITS FALSE NEIGHBOUR: 'it returns false'. Refute it at one input. -/
def gateKeepsWrong : ChangeSpec := { name := "gateKeeps", fn := fun _ => fun
  | [d1, d2] => { results := [.lit (.bool false)], args := [d1, d2] }
  | _ => none }
def GateKeepsWrongFalsely : Prop := gateKeepsRow.holds Try.pinned (OpenSpec.ofChange gateKeepsWrong)

/- THE SECOND FORM. 'bulk': how many values and letters a reading holds, each counted each time it is reached (what is shared counts as often as it is met; a slice's spare places count too). A statement '..UptoSaid' is the law's where the arguments, and the package variables that the reading takes, are together of bulk at most 1048576: NARROWER than '..Said'. Prove '..Said' where nothing that the law and all that it calls make is longer than what came in: it says more and counts as full. Else prove '..UptoSaid'. A law counts once. -/
mutual
def uptoBulk {H : Type} : DataW H → Nat
  | .lit (.string bytes) => bytes.length + 1
  | .lit _ => 1
  | .nil => 1
  | .ptr d => uptoBulk d + 1
  | .slice elems spare => uptoBulkAll elems + uptoBulkAll spare + 1
  | .agg parts => uptoBulkAll parts + 1
  | .iface _ d => uptoBulk d + 1
  | .map entries => uptoBulkEntries entries + 1
  | .held _ => 1
def uptoBulkAll {H : Type} : List (DataW H) → Nat
  | [] => 0
  | d :: r => uptoBulk d + uptoBulkAll r
def uptoBulkEntries {H : Type} : List (Lit × DataW H) → Nat
  | [] => 0
  | x :: r => uptoBulkEntry x + uptoBulkEntries r
def uptoBulkEntry {H : Type} : Lit × DataW H → Nat
  | (.string bytes, d) => bytes.length + uptoBulk d + 1
  | (_, d) => uptoBulk d + 1
 end
def uptoSmall : (H : Type) → List (DataW H) → Bool := fun _ ds => decide (uptoBulkAll ds ≤ 1048576)
def OpenSpec.upto (s : _root_.Go.ChangeSpec) : _root_.Go.OpenSpec := { _root_.Go.OpenSpec.ofChange s with cond := some uptoSmall }

/-- 'carillonlaw15.BarrierOwn', WHERE WHAT IT READS IS OF BULK AT MOST 1048576: true; the input reads as it did. -/
def barrierOwnUptoRow : OpenClaim := { program := "ytgfajibjedfkdaa", sum := "bcd05a7372999749606f902c196ab5ae3c114bf0d48b10bb4323727c56731f4a", func := "carillon/carillonlaw15.BarrierOwn", spec := "barrierOwn", unfollowed := true, recurses := true, leaving := true, apart := false, narrowed := true }
def BarrierOwnUptoSaid : Prop := barrierOwnUptoRow.holds Try.pinned (OpenSpec.upto barrierOwnSpec)

/-- 'carillonlaw15.BarrierAlarm', WHERE WHAT IT READS IS OF BULK AT MOST 1048576: true; the input reads as it did. -/
def barrierAlarmUptoRow : OpenClaim := { program := "ytgfajibjedfkdaa", sum := "bcd05a7372999749606f902c196ab5ae3c114bf0d48b10bb4323727c56731f4a", func := "carillon/carillonlaw15.BarrierAlarm", spec := "barrierAlarm", inPlace := ["sync/atomic.SwapUint32"], unfollowed := true, recurses := true, leaving := true, apart := false, narrowed := true }
def BarrierAlarmUptoSaid : Prop := barrierAlarmUptoRow.holds Try.pinned (OpenSpec.upto barrierAlarmSpec)

/-- 'carillonlaw15.BarrierNone', WHERE WHAT IT READS IS OF BULK AT MOST 1048576: true; the input reads as it did. -/
def barrierNoneUptoRow : OpenClaim := { program := "ytgfajibjedfkdaa", sum := "bcd05a7372999749606f902c196ab5ae3c114bf0d48b10bb4323727c56731f4a", func := "carillon/carillonlaw15.BarrierNone", spec := "barrierNone", inPlace := ["sync/atomic.SwapUint32"], unfollowed := true, recurses := true, leaving := true, apart := false, narrowed := true }
def BarrierNoneUptoSaid : Prop := barrierNoneUptoRow.holds Try.pinned (OpenSpec.upto barrierNoneSpec)

/-- 'carillonlaw15.BarrierPlays', WHERE WHAT IT READS IS OF BULK AT MOST 1048576: true; the input reads as it did. -/
def barrierPlaysUptoRow : OpenClaim := { program := "ytgfajibjedfkdaa", sum := "bcd05a7372999749606f902c196ab5ae3c114bf0d48b10bb4323727c56731f4a", func := "carillon/carillonlaw15.BarrierPlays", spec := "barrierPlays", inPlace := ["sync/atomic.StoreInt64", "sync/atomic.SwapUint32", "sync/atomic.AddInt64"], unfollowed := true, recurses := true, leaving := true, apart := false, narrowed := true }
def BarrierPlaysUptoSaid : Prop := barrierPlaysUptoRow.holds Try.pinned (OpenSpec.upto barrierPlaysSpec)

/-- 'carillonlaw15.BarrierFar', WHERE WHAT IT READS IS OF BULK AT MOST 1048576: true; the input reads as it did. -/
def barrierFarUptoRow : OpenClaim := { program := "ytgfajibjedfkdaa", sum := "bcd05a7372999749606f902c196ab5ae3c114bf0d48b10bb4323727c56731f4a", func := "carillon/carillonlaw15.BarrierFar", spec := "barrierFar", inPlace := ["sync/atomic.StoreInt64", "sync/atomic.SwapUint32", "sync/atomic.AddInt64"], unfollowed := true, recurses := true, leaving := true, apart := false, narrowed := true }
def BarrierFarUptoSaid : Prop := barrierFarUptoRow.holds Try.pinned (OpenSpec.upto barrierFarSpec)

/-- 'carillonlaw14.GatePlays', WHERE WHAT IT READS IS OF BULK AT MOST 1048576: true; the input reads as it did. -/
def gatePlaysUptoRow : OpenClaim := { program := "ytgfajibjedfkdaa", sum := "bcd05a7372999749606f902c196ab5ae3c114bf0d48b10bb4323727c56731f4a", func := "carillon/carillonlaw14.GatePlays", spec := "gatePlays", inPlace := ["sync/atomic.StoreInt64", "sync/atomic.CompareAndSwapPointer"], unfollowed := true, recurses := true, leaving := true, apart := false, narrowed := true }
def GatePlaysUptoSaid : Prop := gatePlaysUptoRow.holds Try.pinned (OpenSpec.upto gatePlaysSpec)

/-- 'carillonlaw14.GateCalls', WHERE WHAT IT READS IS OF BULK AT MOST 1048576: true; the input reads as it did. -/
def gateCallsUptoRow : OpenClaim := { program := "ytgfajibjedfkdaa", sum := "bcd05a7372999749606f902c196ab5ae3c114bf0d48b10bb4323727c56731f4a", func := "carillon/carillonlaw14.GateCalls", spec := "gateCalls", inPlace := ["sync/atomic.StoreInt64", "sync/atomic.CompareAndSwapPointer"], unfollowed := true, recurses := true, leaving := true, apart := false, narrowed := true }
def GateCallsUptoSaid : Prop := gateCallsUptoRow.holds Try.pinned (OpenSpec.upto gateCallsSpec)

/-- 'carillonlaw14.GateNone', WHERE WHAT IT READS IS OF BULK AT MOST 1048576: true; the input reads as it did. -/
def gateNoneUptoRow : OpenClaim := { program := "ytgfajibjedfkdaa", sum := "bcd05a7372999749606f902c196ab5ae3c114bf0d48b10bb4323727c56731f4a", func := "carillon/carillonlaw14.GateNone", spec := "gateNone", inPlace := ["sync/atomic.StoreInt64", "sync/atomic.CompareAndSwapPointer"], unfollowed := true, recurses := true, leaving := true, apart := false, narrowed := true }
def GateNoneUptoSaid : Prop := gateNoneUptoRow.holds Try.pinned (OpenSpec.upto gateNoneSpec)

/-- 'carillonlaw14.GateKeeps', WHERE WHAT IT READS IS OF BULK AT MOST 1048576: true; the input reads as it did. -/
def gateKeepsUptoRow : OpenClaim := { program := "ytgfajibjedfkdaa", sum := "bcd05a7372999749606f902c196ab5ae3c114bf0d48b10bb4323727c56731f4a", func := "carillon/carillonlaw14.GateKeeps", spec := "gateKeeps", inPlace := ["sync/atomic.StoreInt64", "sync/atomic.CompareAndSwapPointer"], unfollowed := true, recurses := true, leaving := true, apart := false, narrowed := true }
def GateKeepsUptoSaid : Prop := gateKeepsUptoRow.holds Try.pinned (OpenSpec.upto gateKeepsSpec)

end Rows
end Go.Proofs.Ytgfajibjedfkdaa
