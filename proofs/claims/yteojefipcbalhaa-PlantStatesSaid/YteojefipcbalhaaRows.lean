/-
  No cell of these rows narrows 'for every input' (looked for: loops, veiled, ifaces, maps, wideKeys, modest, calm, conditions, laid).
  DERIVED. THE GIVEN ROWS OF THIS SEAT. 4 by the template 'for every input the law returns true; each argument reads behind the call as it read before'; 0 by the template 'total and deterministic' (their statements: YteojefipcbalhaaTotals.lean).
  GIVEN WITH THE SEED: the statements are not yours to turn. If you find one false, say at which input.
  Laid BY PROGRAM, IN A SANDBOX (cutbox-rows.mjs): the forced cells as the released guide's own fill.sh prints them over the translation 69ffe15b780222f4… (all of the seat's roots in one cut). By AI agents, Wed Nov 11 2026. No macro, syntax, notation, axiom, sorry.
-/
import Derived.Test.YteojefipcbalhaaChecked
import GoSem.Claim
import GoSem.ClaimJoined
import GoSem.ClaimMapViews
import Derived.JoinedTies
import Derived.KernelRfl
namespace Go.Proofs.Yteojefipcbalhaa
/- THE CELL 'sum', in the pinned program and in every row, IS THE sha256 OF THE DUMP (.gsa) THAT YteojefipcbalhaaProg.lean LOADS. Nothing in Lean hashes anything: it is a label: what it is worth is what the hold of that sum in a sandbox is worth. -/
noncomputable def Try.pinned : Pinned := { name := "yteojefipcbalhaa", sum := "69ffe15b780222f4abf3c66860a081e97695d4e0dfef76f52dac426c61694e16", checked := Try.checked }
namespace Rows
def none {H : Type} : Left H := { results := [], args := [] }

/-- 'paternosterlaw12.PlantRuns': WHATEVER THE INPUT: true; the input reads as it did. -/
def plantRunsSpec : ChangeSpec := { name := "plantRuns", fn := fun _ => fun
  | [d1, d2] => { results := [.lit (.bool true)], args := [d1, d2] }
  | _ => none }
def plantRunsRow : OpenClaim := { program := "yteojefipcbalhaa", sum := "69ffe15b780222f4abf3c66860a081e97695d4e0dfef76f52dac426c61694e16", func := "paternoster/paternosterlaw12.PlantRuns", spec := "plantRuns", apart := false }
def PlantRunsSaid : Prop := plantRunsRow.holds Try.pinned (OpenSpec.ofChange plantRunsSpec)

/-- ITS FALSE NEIGHBOUR: 'it returns false'. Refute it at one input. -/
def plantRunsWrong : ChangeSpec := { name := "plantRuns", fn := fun _ => fun
  | [d1, d2] => { results := [.lit (.bool false)], args := [d1, d2] }
  | _ => none }
def PlantRunsWrongFalsely : Prop := plantRunsRow.holds Try.pinned (OpenSpec.ofChange plantRunsWrong)

/-- 'paternosterlaw12.PlantSays': WHATEVER THE INPUT: true; the input reads as it did. -/
def plantSaysSpec : ChangeSpec := { name := "plantSays", fn := fun _ => fun
  | [d1, d2, d3, d4] => { results := [.lit (.bool true)], args := [d1, d2, d3, d4] }
  | _ => none }
def plantSaysRow : OpenClaim := { program := "yteojefipcbalhaa", sum := "69ffe15b780222f4abf3c66860a081e97695d4e0dfef76f52dac426c61694e16", func := "paternoster/paternosterlaw12.PlantSays", spec := "plantSays", apart := false }
def PlantSaysSaid : Prop := plantSaysRow.holds Try.pinned (OpenSpec.ofChange plantSaysSpec)

/-- ITS FALSE NEIGHBOUR: 'it returns false'. Refute it at one input. -/
def plantSaysWrong : ChangeSpec := { name := "plantSays", fn := fun _ => fun
  | [d1, d2, d3, d4] => { results := [.lit (.bool false)], args := [d1, d2, d3, d4] }
  | _ => none }
def PlantSaysWrongFalsely : Prop := plantSaysRow.holds Try.pinned (OpenSpec.ofChange plantSaysWrong)

/-- 'paternosterlaw12.PlantGoes': WHATEVER THE INPUT: true; the input reads as it did. -/
def plantGoesSpec : ChangeSpec := { name := "plantGoes", fn := fun _ => fun
  | [d1, d2, d3] => { results := [.lit (.bool true)], args := [d1, d2, d3] }
  | _ => none }
def plantGoesRow : OpenClaim := { program := "yteojefipcbalhaa", sum := "69ffe15b780222f4abf3c66860a081e97695d4e0dfef76f52dac426c61694e16", func := "paternoster/paternosterlaw12.PlantGoes", spec := "plantGoes", apart := false }
def PlantGoesSaid : Prop := plantGoesRow.holds Try.pinned (OpenSpec.ofChange plantGoesSpec)

/-- ITS FALSE NEIGHBOUR: 'it returns false'. Refute it at one input. -/
def plantGoesWrong : ChangeSpec := { name := "plantGoes", fn := fun _ => fun
  | [d1, d2, d3] => { results := [.lit (.bool false)], args := [d1, d2, d3] }
  | _ => none }
def PlantGoesWrongFalsely : Prop := plantGoesRow.holds Try.pinned (OpenSpec.ofChange plantGoesWrong)

/-- 'paternosterlaw12.PlantStates': WHATEVER THE INPUT: true; the input reads as it did. -/
def plantStatesSpec : ChangeSpec := { name := "plantStates", fn := fun _ => fun
  | [d1, d2, d3, d4, d5] => { results := [.lit (.bool true)], args := [d1, d2, d3, d4, d5] }
  | _ => none }
def plantStatesRow : OpenClaim := { program := "yteojefipcbalhaa", sum := "69ffe15b780222f4abf3c66860a081e97695d4e0dfef76f52dac426c61694e16", func := "paternoster/paternosterlaw12.PlantStates", spec := "plantStates", apart := false }
def PlantStatesSaid : Prop := plantStatesRow.holds Try.pinned (OpenSpec.ofChange plantStatesSpec)

/-- ITS FALSE NEIGHBOUR: 'it returns false'. Refute it at one input. -/
def plantStatesWrong : ChangeSpec := { name := "plantStates", fn := fun _ => fun
  | [d1, d2, d3, d4, d5] => { results := [.lit (.bool false)], args := [d1, d2, d3, d4, d5] }
  | _ => none }
def PlantStatesWrongFalsely : Prop := plantStatesRow.holds Try.pinned (OpenSpec.ofChange plantStatesWrong)

/- THE SECOND FORM. 'bulk': how many values and letters a reading holds, each counted each time it is reached (what is shared counts as often as it is met; a slice's spare places count too). A statement '..UptoSaid' is the law's where the arguments, and the package variables that the reading takes, are together of bulk at most 1048576: NARROWER than '..Said'. Prove '..Said' where nothing that the law and all that it calls make is longer than what came in: it says more and counts as full. Else prove '..UptoSaid'. A law counts once. -/
mutual
def uptoBulk {H : Type} : DataW H → Nat
  | .lit (.string bytes) => bytes.length + 1
  | .lit _ => 1
  | .nil => 1
  | .ptr d => uptoBulk d + 1
  | .slice elems spare => uptoBulkAll elems + uptoBulkAll spare + 1
  | .agg parts => uptoBulkAll parts + 1
  | .iface _ d => uptoBulk d + 1
  | .map entries => uptoBulkEntries entries + 1
  | .held _ => 1
def uptoBulkAll {H : Type} : List (DataW H) → Nat
  | [] => 0
  | d :: r => uptoBulk d + uptoBulkAll r
def uptoBulkEntries {H : Type} : List (Lit × DataW H) → Nat
  | [] => 0
  | x :: r => uptoBulkEntry x + uptoBulkEntries r
def uptoBulkEntry {H : Type} : Lit × DataW H → Nat
  | (.string bytes, d) => bytes.length + uptoBulk d + 1
  | (_, d) => uptoBulk d + 1
 end
def uptoSmall : (H : Type) → List (DataW H) → Bool := fun _ ds => decide (uptoBulkAll ds ≤ 1048576)
def OpenSpec.upto (s : _root_.Go.ChangeSpec) : _root_.Go.OpenSpec := { _root_.Go.OpenSpec.ofChange s with cond := some uptoSmall }

/-- 'paternosterlaw12.PlantRuns', WHERE WHAT IT READS IS OF BULK AT MOST 1048576: true; the input reads as it did. -/
def plantRunsUptoRow : OpenClaim := { program := "yteojefipcbalhaa", sum := "69ffe15b780222f4abf3c66860a081e97695d4e0dfef76f52dac426c61694e16", func := "paternoster/paternosterlaw12.PlantRuns", spec := "plantRuns", apart := false, narrowed := true }
def PlantRunsUptoSaid : Prop := plantRunsUptoRow.holds Try.pinned (OpenSpec.upto plantRunsSpec)

/-- 'paternosterlaw12.PlantSays', WHERE WHAT IT READS IS OF BULK AT MOST 1048576: true; the input reads as it did. -/
def plantSaysUptoRow : OpenClaim := { program := "yteojefipcbalhaa", sum := "69ffe15b780222f4abf3c66860a081e97695d4e0dfef76f52dac426c61694e16", func := "paternoster/paternosterlaw12.PlantSays", spec := "plantSays", apart := false, narrowed := true }
def PlantSaysUptoSaid : Prop := plantSaysUptoRow.holds Try.pinned (OpenSpec.upto plantSaysSpec)

/-- 'paternosterlaw12.PlantGoes', WHERE WHAT IT READS IS OF BULK AT MOST 1048576: true; the input reads as it did. -/
def plantGoesUptoRow : OpenClaim := { program := "yteojefipcbalhaa", sum := "69ffe15b780222f4abf3c66860a081e97695d4e0dfef76f52dac426c61694e16", func := "paternoster/paternosterlaw12.PlantGoes", spec := "plantGoes", apart := false, narrowed := true }
def PlantGoesUptoSaid : Prop := plantGoesUptoRow.holds Try.pinned (OpenSpec.upto plantGoesSpec)

/-- 'paternosterlaw12.PlantStates', WHERE WHAT IT READS IS OF BULK AT MOST 1048576: true; the input reads as it did. -/
def plantStatesUptoRow : OpenClaim := { program := "yteojefipcbalhaa", sum := "69ffe15b780222f4abf3c66860a081e97695d4e0dfef76f52dac426c61694e16", func := "paternoster/paternosterlaw12.PlantStates", spec := "plantStates", apart := false, narrowed := true }
def PlantStatesUptoSaid : Prop := plantStatesUptoRow.holds Try.pinned (OpenSpec.upto plantStatesSpec)

end Rows
end Go.Proofs.Yteojefipcbalhaa
