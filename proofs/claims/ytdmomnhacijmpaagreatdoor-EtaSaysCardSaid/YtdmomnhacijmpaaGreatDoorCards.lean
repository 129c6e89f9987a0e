/-
  DERIVED. GIVEN WITH THE SEED: THE CARDS: each row of YtdmomnhacijmpaaGreatDoorRows.lean that lists a variable, with what it lists TIED to the program's text (the seventh form; the later family's looks); each row that meets fmt, with fmt's text TOLD by the authors' own Lean function (tested against real Go, not proved from fmt's source: count such statements apart). THE CARD IS WHAT COUNTS. Prove the row's statement (the work); the ties are given (YtdmomnhacijmpaaGreatDoorTie.lean); close each card by the builder's one call (the guide's Derived/Test/ToyasCard.lean, 'card_holds'). Laid BY PROGRAM, IN A SANDBOX (cutbox-door.mjs). By AI agents, Wed Nov 11 2026. No macro, syntax, notation, axiom, sorry.
-/
import Derived.Test.YtdmomnhacijmpaaGreatDoorRows
import GoSem.ClaimSeven
namespace Go.Proofs.YtdmomnhacijmpaaGreatDoor
namespace Rows

/-- THE TIED CARD OF 'paternosterlaw17.EtaSays'. -/
def etaSaysCard : Claim7 := { stood := { row := etaSaysRow, standIns := [], harness := (true, "ede1cc6dee0f9706a81121cebbbd4f24957666c924e3c67cf717c3571ad754e9"), looks := false }, kinds := [], alts := [], laidByText := true, laidKinds := [.data], laidTests := true, laidLooks := .later }
def EtaSaysCardSaid : Prop := Claim7.holds Tryz.pinned (.plain (OpenSpec.ofChange etaSaysSpec)) etaSaysCard

/-- THE SECOND FORM's CARD OF 'paternosterlaw17.EtaSays'. -/
def etaSaysUptoCard : Claim7 := { stood := { row := etaSaysUptoRow, standIns := [], harness := (true, "ede1cc6dee0f9706a81121cebbbd4f24957666c924e3c67cf717c3571ad754e9"), looks := false }, kinds := [], alts := [], laidByText := true, laidKinds := [.data], laidTests := true, laidLooks := .later }
def EtaSaysUptoCardSaid : Prop := Claim7.holds Tryz.pinned (.plain (OpenSpec.upto etaSaysSpec)) etaSaysUptoCard
end Rows
end Go.Proofs.YtdmomnhacijmpaaGreatDoor
