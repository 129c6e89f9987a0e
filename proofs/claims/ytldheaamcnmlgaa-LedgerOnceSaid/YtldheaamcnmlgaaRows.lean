/-
  No cell of these rows narrows 'for every input' (looked for: loops, veiled, ifaces, maps, wideKeys, modest, calm, conditions, laid).
  DERIVED. THE GIVEN ROWS OF THIS SEAT. 5 by the template 'for every input the law returns true; each argument reads behind the call as it read before'; 0 by the template 'total and deterministic' (their statements: YtldheaamcnmlgaaTotals.lean).
  GIVEN WITH THE SEED: the statements are not yours to turn. If you find one false, say at which input.
  Laid BY PROGRAM, IN A SANDBOX (cutbox-rows.mjs): the forced cells as the released guide's own fill.sh prints them over the translation 50c2c327576c17ae… (all of the seat's roots in one cut). By AI agents, Wed Nov 11 2026. No macro, syntax, notation, axiom, sorry.
-/
import Derived.Test.YtldheaamcnmlgaaChecked
import GoSem.Claim
import GoSem.ClaimJoined
import GoSem.ClaimMapViews
import Derived.JoinedTies
import Derived.KernelRfl
namespace Go.Proofs.Ytldheaamcnmlgaa
/- THE CELL 'sum', in the pinned program and in every row, IS THE sha256 OF THE DUMP (.gsa) THAT YtldheaamcnmlgaaProg.lean LOADS. Nothing in Lean hashes anything: it is a label: what it is worth is what the hold of that sum in a sandbox is worth. -/
noncomputable def Try.pinned : Pinned := { name := "ytldheaamcnmlgaa", sum := "50c2c327576c17ae9117f1d2b8cfa91bc109aeed99cfbc54306fb298b2c850eb", checked := Try.checked }
namespace Rows
def none {H : Type} : Left H := { results := [], args := [] }

/-- 'paternosterlaw19.LedgerWants': WHATEVER THE INPUT: true; the input reads as it did. -/
def ledgerWantsSpec : ChangeSpec := { name := "ledgerWants", fn := fun _ => fun
  | [d1, d2] => { results := [.lit (.bool true)], args := [d1, d2] }
  | _ => none }
def ledgerWantsRow : OpenClaim := { program := "ytldheaamcnmlgaa", sum := "50c2c327576c17ae9117f1d2b8cfa91bc109aeed99cfbc54306fb298b2c850eb", func := "paternoster/paternosterlaw19.LedgerWants", spec := "ledgerWants", unfollowed := true, recurses := true, apart := false }
def LedgerWantsSaid : Prop := ledgerWantsRow.holds Try.pinned (OpenSpec.ofChange ledgerWantsSpec)

/-- ITS FALSE NEIGHBOUR: 'it returns false'. Refute it at one input. -/
def ledgerWantsWrong : ChangeSpec := { name := "ledgerWants", fn := fun _ => fun
  | [d1, d2] => { results := [.lit (.bool false)], args := [d1, d2] }
  | _ => none }
def LedgerWantsWrongFalsely : Prop := ledgerWantsRow.holds Try.pinned (OpenSpec.ofChange ledgerWantsWrong)

/-- 'paternosterlaw19.LedgerOnce': WHATEVER THE INPUT: true; the input reads as it did. -/
def ledgerOnceSpec : ChangeSpec := { name := "ledgerOnce", fn := fun _ => fun
  | [d1, d2, d3, d4] => { results := [.lit (.bool true)], args := [d1, d2, d3, d4] }
  | _ => none }
def ledgerOnceRow : OpenClaim := { program := "ytldheaamcnmlgaa", sum := "50c2c327576c17ae9117f1d2b8cfa91bc109aeed99cfbc54306fb298b2c850eb", func := "paternoster/paternosterlaw19.LedgerOnce", spec := "ledgerOnce", inPlace := ["internal/reflectlite.ValueOf", "internal/reflectlite.Swapper", "(internal/reflectlite.Value).Len", "slices.overlaps[paternoster/api.Entry]"], unfollowed := true, recurses := true, apart := false }
def LedgerOnceSaid : Prop := ledgerOnceRow.holds Try.pinned (OpenSpec.ofChange ledgerOnceSpec)

/-- ITS FALSE NEIGHBOUR: 'it returns false'. Refute it at one input. -/
def ledgerOnceWrong : ChangeSpec := { name := "ledgerOnce", fn := fun _ => fun
  | [d1, d2, d3, d4] => { results := [.lit (.bool false)], args := [d1, d2, d3, d4] }
  | _ => none }
def LedgerOnceWrongFalsely : Prop := ledgerOnceRow.holds Try.pinned (OpenSpec.ofChange ledgerOnceWrong)

/-- 'paternosterlaw19.LedgerFull': WHATEVER THE INPUT: true; the input reads as it did. -/
def ledgerFullSpec : ChangeSpec := { name := "ledgerFull", fn := fun _ => fun
  | [d1, d2] => { results := [.lit (.bool true)], args := [d1, d2] }
  | _ => none }
def ledgerFullRow : OpenClaim := { program := "ytldheaamcnmlgaa", sum := "50c2c327576c17ae9117f1d2b8cfa91bc109aeed99cfbc54306fb298b2c850eb", func := "paternoster/paternosterlaw19.LedgerFull", spec := "ledgerFull", inPlace := ["internal/reflectlite.ValueOf", "internal/reflectlite.Swapper", "(internal/reflectlite.Value).Len", "slices.overlaps[paternoster/api.Entry]"], unfollowed := true, recurses := true, apart := false }
def LedgerFullSaid : Prop := ledgerFullRow.holds Try.pinned (OpenSpec.ofChange ledgerFullSpec)

/-- ITS FALSE NEIGHBOUR: 'it returns false'. Refute it at one input. -/
def ledgerFullWrong : ChangeSpec := { name := "ledgerFull", fn := fun _ => fun
  | [d1, d2] => { results := [.lit (.bool false)], args := [d1, d2] }
  | _ => none }
def LedgerFullWrongFalsely : Prop := ledgerFullRow.holds Try.pinned (OpenSpec.ofChange ledgerFullWrong)

/-- 'paternosterlaw19.LedgerMine': WHATEVER THE INPUT: true; the input reads as it did. -/
def ledgerMineSpec : ChangeSpec := { name := "ledgerMine", fn := fun _ => fun
  | [d] => { results := [.lit (.bool true)], args := [d] }
  | _ => none }
def ledgerMineRow : OpenClaim := { program := "ytldheaamcnmlgaa", sum := "50c2c327576c17ae9117f1d2b8cfa91bc109aeed99cfbc54306fb298b2c850eb", func := "paternoster/paternosterlaw19.LedgerMine", spec := "ledgerMine", unfollowed := true, recurses := true, apart := false }
def LedgerMineSaid : Prop := ledgerMineRow.holds Try.pinned (OpenSpec.ofChange ledgerMineSpec)

/-- ITS FALSE NEIGHBOUR: 'it returns false'. Refute it at one input. -/
def ledgerMineWrong : ChangeSpec := { name := "ledgerMine", fn := fun _ => fun
  | [d] => { results := [.lit (.bool false)], args := [d] }
  | _ => none }
def LedgerMineWrongFalsely : Prop := ledgerMineRow.holds Try.pinned (OpenSpec.ofChange ledgerMineWrong)

/-- 'paternosterlaw19.LedgerPurges': WHATEVER THE INPUT: true; the input reads as it did. -/
def ledgerPurgesSpec : ChangeSpec := { name := "ledgerPurges", fn := fun _ => fun
  | [d1, d2] => { results := [.lit (.bool true)], args := [d1, d2] }
  | _ => none }
def ledgerPurgesRow : OpenClaim := { program := "ytldheaamcnmlgaa", sum := "50c2c327576c17ae9117f1d2b8cfa91bc109aeed99cfbc54306fb298b2c850eb", func := "paternoster/paternosterlaw19.LedgerPurges", spec := "ledgerPurges", inPlace := ["internal/reflectlite.ValueOf", "internal/reflectlite.Swapper", "(internal/reflectlite.Value).Len", "slices.overlaps[paternoster/api.Entry]"], unfollowed := true, recurses := true, apart := false }
def LedgerPurgesSaid : Prop := ledgerPurgesRow.holds Try.pinned (OpenSpec.ofChange ledgerPurgesSpec)

/-- ITS FALSE NEIGHBOUR: 'it returns false'. Refute it at one input. -/
def ledgerPurgesWrong : ChangeSpec := { name := "ledgerPurges", fn := fun _ => fun
  | [d1, d2] => { results := [.lit (.bool false)], args := [d1, d2] }
  | _ => none }
def LedgerPurgesWrongFalsely : Prop := ledgerPurgesRow.holds Try.pinned (OpenSpec.ofChange ledgerPurgesWrong)

/- THE SECOND FORM. 'bulk': how many values and letters a reading holds, each counted each time it is reached (what is shared counts as often as it is met; a slice's spare places count too). A statement '..UptoSaid' is the law's where the arguments, and the package variables that the reading takes, are together of bulk at most 1048576: NARROWER than '..Said'. Prove '..Said' where nothing that the law and all that it calls make is longer than what came in: it says more and counts as full. Else prove '..UptoSaid'. A law counts once. -/
mutual
def uptoBulk {H : Type} : DataW H → Nat
  | .lit (.string bytes) => bytes.length + 1
  | .lit _ => 1
  | .nil => 1
  | .ptr d => uptoBulk d + 1
  | .slice elems spare => uptoBulkAll elems + uptoBulkAll spare + 1
  | .agg parts => uptoBulkAll parts + 1
  | .iface _ d => uptoBulk d + 1
  | .map entries => uptoBulkEntries entries + 1
  | .held _ => 1
def uptoBulkAll {H : Type} : List (DataW H) → Nat
  | [] => 0
  | d :: r => uptoBulk d + uptoBulkAll r
def uptoBulkEntries {H : Type} : List (Lit × DataW H) → Nat
  | [] => 0
  | x :: r => uptoBulkEntry x + uptoBulkEntries r
def uptoBulkEntry {H : Type} : Lit × DataW H → Nat
  | (.string bytes, d) => bytes.length + uptoBulk d + 1
  | (_, d) => uptoBulk d + 1
 end
def uptoSmall : (H : Type) → List (DataW H) → Bool := fun _ ds => decide (uptoBulkAll ds ≤ 1048576)
def OpenSpec.upto (s : _root_.Go.ChangeSpec) : _root_.Go.OpenSpec := { _root_.Go.OpenSpec.ofChange s with cond := some uptoSmall }

/-- 'paternosterlaw19.LedgerWants', WHERE WHAT IT READS IS OF BULK AT MOST 1048576: true; the input reads as it did. -/
def ledgerWantsUptoRow : OpenClaim := { program := "ytldheaamcnmlgaa", sum := "50c2c327576c17ae9117f1d2b8cfa91bc109aeed99cfbc54306fb298b2c850eb", func := "paternoster/paternosterlaw19.LedgerWants", spec := "ledgerWants", unfollowed := true, recurses := true, apart := false, narrowed := true }
def LedgerWantsUptoSaid : Prop := ledgerWantsUptoRow.holds Try.pinned (OpenSpec.upto ledgerWantsSpec)

/-- 'paternosterlaw19.LedgerOnce', WHERE WHAT IT READS IS OF BULK AT MOST 1048576: true; the input reads as it did. -/
def ledgerOnceUptoRow : OpenClaim := { program := "ytldheaamcnmlgaa", sum := "50c2c327576c17ae9117f1d2b8cfa91bc109aeed99cfbc54306fb298b2c850eb", func := "paternoster/paternosterlaw19.LedgerOnce", spec := "ledgerOnce", inPlace := ["internal/reflectlite.ValueOf", "internal/reflectlite.Swapper", "(internal/reflectlite.Value).Len", "slices.overlaps[paternoster/api.Entry]"], unfollowed := true, recurses := true, apart := false, narrowed := true }
def LedgerOnceUptoSaid : Prop := ledgerOnceUptoRow.holds Try.pinned (OpenSpec.upto ledgerOnceSpec)

/-- 'paternosterlaw19.LedgerFull', WHERE WHAT IT READS IS OF BULK AT MOST 1048576: true; the input reads as it did. -/
def ledgerFullUptoRow : OpenClaim := { program := "ytldheaamcnmlgaa", sum := "50c2c327576c17ae9117f1d2b8cfa91bc109aeed99cfbc54306fb298b2c850eb", func := "paternoster/paternosterlaw19.LedgerFull", spec := "ledgerFull", inPlace := ["internal/reflectlite.ValueOf", "internal/reflectlite.Swapper", "(internal/reflectlite.Value).Len", "slices.overlaps[paternoster/api.Entry]"], unfollowed := true, recurses := true, apart := false, narrowed := true }
def LedgerFullUptoSaid : Prop := ledgerFullUptoRow.holds Try.pinned (OpenSpec.upto ledgerFullSpec)

/-- 'paternosterlaw19.LedgerMine', WHERE WHAT IT READS IS OF BULK AT MOST 1048576: true; the input reads as it did. -/
def ledgerMineUptoRow : OpenClaim := { program := "ytldheaamcnmlgaa", sum := "50c2c327576c17ae9117f1d2b8cfa91bc109aeed99cfbc54306fb298b2c850eb", func := "paternoster/paternosterlaw19.LedgerMine", spec := "ledgerMine", unfollowed := true, recurses := true, apart := false, narrowed := true }
def LedgerMineUptoSaid : Prop := ledgerMineUptoRow.holds Try.pinned (OpenSpec.upto ledgerMineSpec)

/-- 'paternosterlaw19.LedgerPurges', WHERE WHAT IT READS IS OF BULK AT MOST 1048576: true; the input reads as it did. -/
def ledgerPurgesUptoRow : OpenClaim := { program := "ytldheaamcnmlgaa", sum := "50c2c327576c17ae9117f1d2b8cfa91bc109aeed99cfbc54306fb298b2c850eb", func := "paternoster/paternosterlaw19.LedgerPurges", spec := "ledgerPurges", inPlace := ["internal/reflectlite.ValueOf", "internal/reflectlite.Swapper", "(internal/reflectlite.Value).Len", "slices.overlaps[paternoster/api.Entry]"], unfollowed := true, recurses := true, apart := false, narrowed := true }
def LedgerPurgesUptoSaid : Prop := ledgerPurgesUptoRow.holds Try.pinned (OpenSpec.upto ledgerPurgesSpec)

end Rows
end Go.Proofs.Ytldheaamcnmlgaa
