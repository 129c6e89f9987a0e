/-
  No cell of these rows narrows 'for every input' (looked for: loops, veiled, ifaces, maps, wideKeys, modest, calm, conditions, laid).
  DERIVED. THE GIVEN ROWS OF THIS SEAT. 4 by the template 'for every input the law returns true; each argument reads behind the call as it read before'; 0 by the template 'total and deterministic' (their statements: YtfopmpaoigdelaaTotals.lean).
  GIVEN WITH THE SEED: the statements are not yours to turn. If you find one false, say at which input.
  Laid BY PROGRAM, IN A SANDBOX (cutbox-rows.mjs): the forced cells as the released guide's own fill.sh prints them over the translation 2f448d184caab12c… (all of the seat's roots in one cut). By AI agents, Wed Nov 11 2026. No macro, syntax, notation, axiom, sorry.
-/
import Derived.Test.YtfopmpaoigdelaaChecked
import GoSem.Claim
import GoSem.ClaimJoined
import GoSem.ClaimMapViews
import Derived.JoinedTies
import Derived.KernelRfl
namespace Go.Proofs.Ytfopmpaoigdelaa
/- THE CELL 'sum', in the pinned program and in every row, IS THE sha256 OF THE DUMP (.gsa) THAT YtfopmpaoigdelaaProg.lean LOADS. Nothing in Lean hashes anything: it is a label: what it is worth is what the hold of that sum in a sandbox is worth. -/
noncomputable def Try.pinned : Pinned := { name := "ytfopmpaoigdelaa", sum := "2f448d184caab12c28355dcf18fd6704e818555f7bf31881a549576a4f71b6ba", checked := Try.checked }
namespace Rows
def none {H : Type} : Left H := { results := [], args := [] }

/-- 'paternosterlaw11.CallsGens': WHATEVER THE INPUT: true; the input reads as it did. -/
def callsGensSpec : ChangeSpec := { name := "callsGens", fn := fun _ => fun
  | [d1, d2, d3] => { results := [.lit (.bool true)], args := [d1, d2, d3] }
  | _ => none }
def callsGensRow : OpenClaim := { program := "ytfopmpaoigdelaa", sum := "2f448d184caab12c28355dcf18fd6704e818555f7bf31881a549576a4f71b6ba", func := "paternoster/paternosterlaw11.CallsGens", spec := "callsGens", inPlace := ["slices.overlaps[paternoster/api.Latch]"], unfollowed := true, recurses := true, apart := false }
def CallsGensSaid : Prop := callsGensRow.holds Try.pinned (OpenSpec.ofChange callsGensSpec)

/-- ITS FALSE NEIGHBOUR: 'it returns false'. Refute it at one input. -/
def callsGensWrong : ChangeSpec := { name := "callsGens", fn := fun _ => fun
  | [d1, d2, d3] => { results := [.lit (.bool false)], args := [d1, d2, d3] }
  | _ => none }
def CallsGensWrongFalsely : Prop := callsGensRow.holds Try.pinned (OpenSpec.ofChange callsGensWrong)

/-- 'paternosterlaw11.CallsPlay': WHATEVER THE INPUT: true; the input reads as it did. -/
def callsPlaySpec : ChangeSpec := { name := "callsPlay", fn := fun _ => fun
  | [d1, d2, d3] => { results := [.lit (.bool true)], args := [d1, d2, d3] }
  | _ => none }
def callsPlayRow : OpenClaim := { program := "ytfopmpaoigdelaa", sum := "2f448d184caab12c28355dcf18fd6704e818555f7bf31881a549576a4f71b6ba", func := "paternoster/paternosterlaw11.CallsPlay", spec := "callsPlay", inPlace := ["slices.overlaps[paternoster/api.Latch]"], unfollowed := true, recurses := true, apart := false }
def CallsPlaySaid : Prop := callsPlayRow.holds Try.pinned (OpenSpec.ofChange callsPlaySpec)

/-- ITS FALSE NEIGHBOUR: 'it returns false'. Refute it at one input. -/
def callsPlayWrong : ChangeSpec := { name := "callsPlay", fn := fun _ => fun
  | [d1, d2, d3] => { results := [.lit (.bool false)], args := [d1, d2, d3] }
  | _ => none }
def CallsPlayWrongFalsely : Prop := callsPlayRow.holds Try.pinned (OpenSpec.ofChange callsPlayWrong)

/-- 'paternosterlaw11.CallsOrder': WHATEVER THE INPUT: true; the input reads as it did. -/
def callsOrderSpec : ChangeSpec := { name := "callsOrder", fn := fun _ => fun
  | [d1, d2] => { results := [.lit (.bool true)], args := [d1, d2] }
  | _ => none }
def callsOrderRow : OpenClaim := { program := "ytfopmpaoigdelaa", sum := "2f448d184caab12c28355dcf18fd6704e818555f7bf31881a549576a4f71b6ba", func := "paternoster/paternosterlaw11.CallsOrder", spec := "callsOrder", inPlace := ["slices.overlaps[paternoster/api.Latch]"], unfollowed := true, recurses := true, apart := false }
def CallsOrderSaid : Prop := callsOrderRow.holds Try.pinned (OpenSpec.ofChange callsOrderSpec)

/-- ITS FALSE NEIGHBOUR: 'it returns false'. Refute it at one input. -/
def callsOrderWrong : ChangeSpec := { name := "callsOrder", fn := fun _ => fun
  | [d1, d2] => { results := [.lit (.bool false)], args := [d1, d2] }
  | _ => none }
def CallsOrderWrongFalsely : Prop := callsOrderRow.holds Try.pinned (OpenSpec.ofChange callsOrderWrong)

/-- 'paternosterlaw11.CallsKeep': WHATEVER THE INPUT: true; the input reads as it did. -/
def callsKeepSpec : ChangeSpec := { name := "callsKeep", fn := fun _ => fun
  | [d1, d2] => { results := [.lit (.bool true)], args := [d1, d2] }
  | _ => none }
def callsKeepRow : OpenClaim := { program := "ytfopmpaoigdelaa", sum := "2f448d184caab12c28355dcf18fd6704e818555f7bf31881a549576a4f71b6ba", func := "paternoster/paternosterlaw11.CallsKeep", spec := "callsKeep", inPlace := ["slices.overlaps[paternoster/api.Latch]"], unfollowed := true, recurses := true, apart := false }
def CallsKeepSaid : Prop := callsKeepRow.holds Try.pinned (OpenSpec.ofChange callsKeepSpec)

/-- ITS FALSE NEIGHBOUR: 'it returns false'. Refute it at one input. -/
def callsKeepWrong : ChangeSpec := { name := "callsKeep", fn := fun _ => fun
  | [d1, d2] => { results := [.lit (.bool false)], args := [d1, d2] }
  | _ => none }
def CallsKeepWrongFalsely : Prop := callsKeepRow.holds Try.pinned (OpenSpec.ofChange callsKeepWrong)

/- THE SECOND FORM. 'bulk': how many values and letters a reading holds, each counted each time it is reached (what is shared counts as often as it is met; a slice's spare places count too). A statement '..UptoSaid' is the law's where the arguments, and the package variables that the reading takes, are together of bulk at most 1048576: NARROWER than '..Said'. Prove '..Said' where nothing that the law and all that it calls make is longer than what came in: it says more and counts as full. Else prove '..UptoSaid'. A law counts once. -/
mutual
def uptoBulk {H : Type} : DataW H → Nat
  | .lit (.string bytes) => bytes.length + 1
  | .lit _ => 1
  | .nil => 1
  | .ptr d => uptoBulk d + 1
  | .slice elems spare => uptoBulkAll elems + uptoBulkAll spare + 1
  | .agg parts => uptoBulkAll parts + 1
  | .iface _ d => uptoBulk d + 1
  | .map entries => uptoBulkEntries entries + 1
  | .held _ => 1
def uptoBulkAll {H : Type} : List (DataW H) → Nat
  | [] => 0
  | d :: r => uptoBulk d + uptoBulkAll r
def uptoBulkEntries {H : Type} : List (Lit × DataW H) → Nat
  | [] => 0
  | x :: r => uptoBulkEntry x + uptoBulkEntries r
def uptoBulkEntry {H : Type} : Lit × DataW H → Nat
  | (.string bytes, d) => bytes.length + uptoBulk d + 1
  | (_, d) => uptoBulk d + 1
 end
def uptoSmall : (H : Type) → List (DataW H) → Bool := fun _ ds => decide (uptoBulkAll ds ≤ 1048576)
def OpenSpec.upto (s : _root_.Go.ChangeSpec) : _root_.Go.OpenSpec := { _root_.Go.OpenSpec.ofChange s with cond := some uptoSmall }

/-- 'paternosterlaw11.CallsGens', WHERE WHAT IT READS IS OF BULK AT MOST 1048576: true; the input reads as it did. -/
def callsGensUptoRow : OpenClaim := { program := "ytfopmpaoigdelaa", sum := "2f448d184caab12c28355dcf18fd6704e818555f7bf31881a549576a4f71b6ba", func := "paternoster/paternosterlaw11.CallsGens", spec := "callsGens", inPlace := ["slices.overlaps[paternoster/api.Latch]"], unfollowed := true, recurses := true, apart := false, narrowed := true }
def CallsGensUptoSaid : Prop := callsGensUptoRow.holds Try.pinned (OpenSpec.upto callsGensSpec)

/-- 'paternosterlaw11.CallsPlay', WHERE WHAT IT READS IS OF BULK AT MOST 1048576: true; the input reads as it did. -/
def callsPlayUptoRow : OpenClaim := { program := "ytfopmpaoigdelaa", sum := "2f448d184caab12c28355dcf18fd6704e818555f7bf31881a549576a4f71b6ba", func := "paternoster/paternosterlaw11.CallsPlay", spec := "callsPlay", inPlace := ["slices.overlaps[paternoster/api.Latch]"], unfollowed := true, recurses := true, apart := false, narrowed := true }
def CallsPlayUptoSaid : Prop := callsPlayUptoRow.holds Try.pinned (OpenSpec.upto callsPlaySpec)

/-- 'paternosterlaw11.CallsOrder', WHERE WHAT IT READS IS OF BULK AT MOST 1048576: true; the input reads as it did. -/
def callsOrderUptoRow : OpenClaim := { program := "ytfopmpaoigdelaa", sum := "2f448d184caab12c28355dcf18fd6704e818555f7bf31881a549576a4f71b6ba", func := "paternoster/paternosterlaw11.CallsOrder", spec := "callsOrder", inPlace := ["slices.overlaps[paternoster/api.Latch]"], unfollowed := true, recurses := true, apart := false, narrowed := true }
def CallsOrderUptoSaid : Prop := callsOrderUptoRow.holds Try.pinned (OpenSpec.upto callsOrderSpec)

/-- 'paternosterlaw11.CallsKeep', WHERE WHAT IT READS IS OF BULK AT MOST 1048576: true; the input reads as it did. -/
def callsKeepUptoRow : OpenClaim := { program := "ytfopmpaoigdelaa", sum := "2f448d184caab12c28355dcf18fd6704e818555f7bf31881a549576a4f71b6ba", func := "paternoster/paternosterlaw11.CallsKeep", spec := "callsKeep", inPlace := ["slices.overlaps[paternoster/api.Latch]"], unfollowed := true, recurses := true, apart := false, narrowed := true }
def CallsKeepUptoSaid : Prop := callsKeepUptoRow.holds Try.pinned (OpenSpec.upto callsKeepSpec)

end Rows
end Go.Proofs.Ytfopmpaoigdelaa
