/-
  No cell of these rows narrows 'for every input' (looked for: loops, veiled, ifaces, maps, wideKeys, modest, calm, conditions, laid).
  DERIVED. THE GIVEN ROWS OF THIS SEAT. 3 by the template 'for every input the law returns true; each argument reads behind the call as it read before'; 0 by the template 'total and deterministic' (their statements: YtjjlajcpngphpaaTotals.lean).
  GIVEN WITH THE SEED: the statements are not yours to turn. If you find one false, say at which input.
  Laid BY PROGRAM, IN A SANDBOX (cutbox-rows.mjs): the forced cells as the released guide's own fill.sh prints them over the translation 5520dc93849c4ed7… (all of the seat's roots in one cut). By AI agents, Wed Nov 11 2026. No macro, syntax, notation, axiom, sorry.
-/
import Derived.Test.YtjjlajcpngphpaaChecked
import GoSem.Claim
import GoSem.ClaimJoined
import GoSem.ClaimMapViews
import Derived.JoinedTies
import Derived.KernelRfl
namespace Go.Proofs.Ytjjlajcpngphpaa
/- THE CELL 'sum', in the pinned program and in every row, IS THE sha256 OF THE DUMP (.gsa) THAT YtjjlajcpngphpaaProg.lean LOADS. Nothing in Lean hashes anything: it is a label: what it is worth is what the hold of that sum in a sandbox is worth. -/
noncomputable def Try.pinned : Pinned := { name := "ytjjlajcpngphpaa", sum := "5520dc93849c4ed78dc222fc16e6c25a0df12da6f289f4b55ce237e093cbaa73", checked := Try.checked }
namespace Rows
def none {H : Type} : Left H := { results := [], args := [] }

/-- 'paternosterlaw21.FoundSays': WHATEVER THE INPUT: true; the input reads as it did. -/
def foundSaysSpec : ChangeSpec := { name := "foundSays", fn := fun _ => fun
  | [d] => { results := [.lit (.bool true)], args := [d] }
  | _ => none }
def foundSaysRow : OpenClaim := { program := "ytjjlajcpngphpaa", sum := "5520dc93849c4ed78dc222fc16e6c25a0df12da6f289f4b55ce237e093cbaa73", func := "paternoster/paternosterlaw21.FoundSays", spec := "foundSays", recurses := true, apart := false }
def FoundSaysSaid : Prop := foundSaysRow.holds Try.pinned (OpenSpec.ofChange foundSaysSpec)

/-- ITS FALSE NEIGHBOUR: 'it returns false'. Refute it at one input. -/
def foundSaysWrong : ChangeSpec := { name := "foundSays", fn := fun _ => fun
  | [d] => { results := [.lit (.bool false)], args := [d] }
  | _ => none }
def FoundSaysWrongFalsely : Prop := foundSaysRow.holds Try.pinned (OpenSpec.ofChange foundSaysWrong)

/-- 'paternosterlaw21.FoundLeast': WHATEVER THE INPUT: true; the input reads as it did. -/
def foundLeastSpec : ChangeSpec := { name := "foundLeast", fn := fun _ => fun
  | [d1, d2, d3, d4] => { results := [.lit (.bool true)], args := [d1, d2, d3, d4] }
  | _ => none }
def foundLeastRow : OpenClaim := { program := "ytjjlajcpngphpaa", sum := "5520dc93849c4ed78dc222fc16e6c25a0df12da6f289f4b55ce237e093cbaa73", func := "paternoster/paternosterlaw21.FoundLeast", spec := "foundLeast", recurses := true, apart := false }
def FoundLeastSaid : Prop := foundLeastRow.holds Try.pinned (OpenSpec.ofChange foundLeastSpec)

/-- ITS FALSE NEIGHBOUR: 'it returns false'. Refute it at one input. -/
def foundLeastWrong : ChangeSpec := { name := "foundLeast", fn := fun _ => fun
  | [d1, d2, d3, d4] => { results := [.lit (.bool false)], args := [d1, d2, d3, d4] }
  | _ => none }
def FoundLeastWrongFalsely : Prop := foundLeastRow.holds Try.pinned (OpenSpec.ofChange foundLeastWrong)

/-- 'paternosterlaw21.FoundWaits': WHATEVER THE INPUT: true; the input reads as it did. -/
def foundWaitsSpec : ChangeSpec := { name := "foundWaits", fn := fun _ => fun
  | [d1, d2, d3, d4] => { results := [.lit (.bool true)], args := [d1, d2, d3, d4] }
  | _ => none }
def foundWaitsRow : OpenClaim := { program := "ytjjlajcpngphpaa", sum := "5520dc93849c4ed78dc222fc16e6c25a0df12da6f289f4b55ce237e093cbaa73", func := "paternoster/paternosterlaw21.FoundWaits", spec := "foundWaits", recurses := true, apart := false }
def FoundWaitsSaid : Prop := foundWaitsRow.holds Try.pinned (OpenSpec.ofChange foundWaitsSpec)

/-- ITS FALSE NEIGHBOUR: 'it returns false'. Refute it at one input. -/
def foundWaitsWrong : ChangeSpec := { name := "foundWaits", fn := fun _ => fun
  | [d1, d2, d3, d4] => { results := [.lit (.bool false)], args := [d1, d2, d3, d4] }
  | _ => none }
def FoundWaitsWrongFalsely : Prop := foundWaitsRow.holds Try.pinned (OpenSpec.ofChange foundWaitsWrong)

/- THE SECOND FORM. 'bulk': how many values and letters a reading holds, each counted each time it is reached (what is shared counts as often as it is met; a slice's spare places count too). A statement '..UptoSaid' is the law's where the arguments, and the package variables that the reading takes, are together of bulk at most 1048576: NARROWER than '..Said'. Prove '..Said' where nothing that the law and all that it calls make is longer than what came in: it says more and counts as full. Else prove '..UptoSaid'. A law counts once. -/
mutual
def uptoBulk {H : Type} : DataW H → Nat
  | .lit (.string bytes) => bytes.length + 1
  | .lit _ => 1
  | .nil => 1
  | .ptr d => uptoBulk d + 1
  | .slice elems spare => uptoBulkAll elems + uptoBulkAll spare + 1
  | .agg parts => uptoBulkAll parts + 1
  | .iface _ d => uptoBulk d + 1
  | .map entries => uptoBulkEntries entries + 1
  | .held _ => 1
def uptoBulkAll {H : Type} : List (DataW H) → Nat
  | [] => 0
  | d :: r => uptoBulk d + uptoBulkAll r
def uptoBulkEntries {H : Type} : List (Lit × DataW H) → Nat
  | [] => 0
  | x :: r => uptoBulkEntry x + uptoBulkEntries r
def uptoBulkEntry {H : Type} : Lit × DataW H → Nat
  | (.string bytes, d) => bytes.length + uptoBulk d + 1
  | (_, d) => uptoBulk d + 1
 end
def uptoSmall : (H : Type) → List (DataW H) → Bool := fun _ ds => decide (uptoBulkAll ds ≤ 1048576)
def OpenSpec.upto (s : _root_.Go.ChangeSpec) : _root_.Go.OpenSpec := { _root_.Go.OpenSpec.ofChange s with cond := some uptoSmall }

/-- 'paternosterlaw21.FoundSays', WHERE WHAT IT READS IS OF BULK AT MOST 1048576: true; the input reads as it did. -/
def foundSaysUptoRow : OpenClaim := { program := "ytjjlajcpngphpaa", sum := "5520dc93849c4ed78dc222fc16e6c25a0df12da6f289f4b55ce237e093cbaa73", func := "paternoster/paternosterlaw21.FoundSays", spec := "foundSays", recurses := true, apart := false, narrowed := true }
def FoundSaysUptoSaid : Prop := foundSaysUptoRow.holds Try.pinned (OpenSpec.upto foundSaysSpec)

/-- 'paternosterlaw21.FoundLeast', WHERE WHAT IT READS IS OF BULK AT MOST 1048576: true; the input reads as it did. -/
def foundLeastUptoRow : OpenClaim := { program := "ytjjlajcpngphpaa", sum := "5520dc93849c4ed78dc222fc16e6c25a0df12da6f289f4b55ce237e093cbaa73", func := "paternoster/paternosterlaw21.FoundLeast", spec := "foundLeast", recurses := true, apart := false, narrowed := true }
def FoundLeastUptoSaid : Prop := foundLeastUptoRow.holds Try.pinned (OpenSpec.upto foundLeastSpec)

/-- 'paternosterlaw21.FoundWaits', WHERE WHAT IT READS IS OF BULK AT MOST 1048576: true; the input reads as it did. -/
def foundWaitsUptoRow : OpenClaim := { program := "ytjjlajcpngphpaa", sum := "5520dc93849c4ed78dc222fc16e6c25a0df12da6f289f4b55ce237e093cbaa73", func := "paternoster/paternosterlaw21.FoundWaits", spec := "foundWaits", recurses := true, apart := false, narrowed := true }
def FoundWaitsUptoSaid : Prop := foundWaitsUptoRow.holds Try.pinned (OpenSpec.upto foundWaitsSpec)

end Rows
end Go.Proofs.Ytjjlajcpngphpaa
