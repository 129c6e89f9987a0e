/-
  DERIVED. GIVEN WITH THE SEED: THE CARDS: each row of YtnlicmcijmglfaaDoorRows.lean that lists a variable, with what it lists TIED to the program's text (the seventh form; the later family's looks); each row that meets fmt, with fmt's text TOLD by the authors' own Lean function (tested against real Go, not proved from fmt's source: count such statements apart). THE CARD IS WHAT COUNTS. Prove the row's statement (the work); the ties are given (YtnlicmcijmglfaaDoorTie.lean); close each card by the builder's one call (the guide's Derived/Test/ToyasCard.lean, 'card_holds'). Laid BY PROGRAM, IN A SANDBOX (cutbox-door.mjs). By AI agents, Wed Nov 11 2026. No macro, syntax, notation, axiom, sorry.
-/
import Derived.Test.YtnlicmcijmglfaaDoorRows
import GoSem.ClaimSeven
namespace Go.Proofs.YtnlicmcijmglfaaDoor
namespace Rows

/-- THE TIED CARD OF 'paternosterlaw4.EpochSays'. -/
def epochSaysCard : Claim7 := { stood := { row := epochSaysRow, standIns := [], harness := (true, "64d5443fb142089311afa7ea67338620de35e4b4aee77be1b9423823a3df2d28"), looks := false }, kinds := [], alts := [], laidByText := true, laidKinds := [.data, .data, .data], laidTests := true, laidLooks := .later }
def EpochSaysCardSaid : Prop := Claim7.holds Tryd.pinned (.plain (OpenSpec.ofChange epochSaysSpec)) epochSaysCard

/-- THE TIED CARD OF 'paternosterlaw4.EpochOrder'. -/
def epochOrderCard : Claim7 := { stood := { row := epochOrderRow, standIns := [], harness := (true, "64d5443fb142089311afa7ea67338620de35e4b4aee77be1b9423823a3df2d28"), looks := false }, kinds := [], alts := [], laidByText := true, laidKinds := [.data, .data, .data], laidTests := true, laidLooks := .later }
def EpochOrderCardSaid : Prop := Claim7.holds Tryd.pinned (.plain (OpenSpec.ofChange epochOrderSpec)) epochOrderCard

/-- THE TIED CARD OF 'paternosterlaw4.EpochChain'. -/
def epochChainCard : Claim7 := { stood := { row := epochChainRow, standIns := [], harness := (true, "64d5443fb142089311afa7ea67338620de35e4b4aee77be1b9423823a3df2d28"), looks := false }, kinds := [], alts := [], laidByText := true, laidKinds := [.data, .data, .data], laidTests := true, laidLooks := .later }
def EpochChainCardSaid : Prop := Claim7.holds Tryd.pinned (.plain (OpenSpec.ofChange epochChainSpec)) epochChainCard

/-- THE SECOND FORM's CARD OF 'paternosterlaw4.EpochSays'. -/
def epochSaysUptoCard : Claim7 := { stood := { row := epochSaysUptoRow, standIns := [], harness := (true, "64d5443fb142089311afa7ea67338620de35e4b4aee77be1b9423823a3df2d28"), looks := false }, kinds := [], alts := [], laidByText := true, laidKinds := [.data, .data, .data], laidTests := true, laidLooks := .later }
def EpochSaysUptoCardSaid : Prop := Claim7.holds Tryd.pinned (.plain (OpenSpec.upto epochSaysSpec)) epochSaysUptoCard

/-- THE SECOND FORM's CARD OF 'paternosterlaw4.EpochOrder'. -/
def epochOrderUptoCard : Claim7 := { stood := { row := epochOrderUptoRow, standIns := [], harness := (true, "64d5443fb142089311afa7ea67338620de35e4b4aee77be1b9423823a3df2d28"), looks := false }, kinds := [], alts := [], laidByText := true, laidKinds := [.data, .data, .data], laidTests := true, laidLooks := .later }
def EpochOrderUptoCardSaid : Prop := Claim7.holds Tryd.pinned (.plain (OpenSpec.upto epochOrderSpec)) epochOrderUptoCard

/-- THE SECOND FORM's CARD OF 'paternosterlaw4.EpochChain'. -/
def epochChainUptoCard : Claim7 := { stood := { row := epochChainUptoRow, standIns := [], harness := (true, "64d5443fb142089311afa7ea67338620de35e4b4aee77be1b9423823a3df2d28"), looks := false }, kinds := [], alts := [], laidByText := true, laidKinds := [.data, .data, .data], laidTests := true, laidLooks := .later }
def EpochChainUptoCardSaid : Prop := Claim7.holds Tryd.pinned (.plain (OpenSpec.upto epochChainSpec)) epochChainUptoCard
end Rows
end Go.Proofs.YtnlicmcijmglfaaDoor
