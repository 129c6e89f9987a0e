/-
  DERIVED. GIVEN WITH THE SEED: THE CARDS: each row of YtndjmpjgahmnoaaDoorRows.lean that lists a variable, with what it lists TIED to the program's text (the seventh form; the later family's looks); each row that meets fmt, with fmt's text TOLD by the authors' own Lean function (tested against real Go, not proved from fmt's source: count such statements apart). THE CARD IS WHAT COUNTS. Prove the row's statement (the work); the ties are given (YtndjmpjgahmnoaaDoorTie.lean); close each card by the builder's one call (the guide's Derived/Test/ToyasCard.lean, 'card_holds'). Laid BY PROGRAM, IN A SANDBOX (cutbox-door.mjs). By AI agents, Wed Nov 11 2026. No macro, syntax, notation, axiom, sorry.
-/
import Derived.Test.YtndjmpjgahmnoaaDoorRows
import GoSem.ClaimSeven
namespace Go.Proofs.YtndjmpjgahmnoaaDoor
namespace Rows

/-- THE TIED CARD OF 'paternosterlaw10.RiserApart'. -/
def riserApartCard : Claim7 := { stood := { row := riserApartRow, standIns := [], harness := (true, "5417eb31cdb38a640bb3c648b2afe7131637c531659faa5bb04f51d22bbe668b"), looks := true }, kinds := [], alts := [], laidByText := true, laidKinds := [.sentinel], laidTests := true, laidLooks := .later }
def RiserApartCardSaid : Prop := Claim7.holds Tryd.pinned (.plain (OpenSpec.ofChange riserApartSpec)) riserApartCard

/-- THE TIED CARD OF 'paternosterlaw10.RiserPlays'. -/
def riserPlaysCard : Claim7 := { stood := { row := riserPlaysRow, standIns := [], harness := (true, "5417eb31cdb38a640bb3c648b2afe7131637c531659faa5bb04f51d22bbe668b"), looks := true }, kinds := [], alts := [], laidByText := true, laidKinds := [.sentinel, .sentinel, .sentinel, .sentinel, .sentinel, .sentinel, .sentinel, .sentinel, .sentinel, .sentinel, .sentinel, .sentinel, .sentinel], laidTests := true, laidLooks := .later }
def RiserPlaysCardSaid : Prop := Claim7.holds Tryd.pinned (.plain (OpenSpec.ofChange riserPlaysSpec)) riserPlaysCard

/-- THE TIED CARD OF 'paternosterlaw10.RiserTimes'. -/
def riserTimesCard : Claim7 := { stood := { row := riserTimesRow, standIns := [], harness := (true, "5417eb31cdb38a640bb3c648b2afe7131637c531659faa5bb04f51d22bbe668b"), looks := true }, kinds := [], alts := [], laidByText := true, laidKinds := [.sentinel], laidTests := true, laidLooks := .later }
def RiserTimesCardSaid : Prop := Claim7.holds Tryd.pinned (.plain (OpenSpec.ofChange riserTimesSpec)) riserTimesCard

/-- THE TIED CARD OF 'paternosterlaw10.RiserMay'. -/
def riserMayCard : Claim7 := { stood := { row := riserMayRow, standIns := [], harness := (true, "5417eb31cdb38a640bb3c648b2afe7131637c531659faa5bb04f51d22bbe668b"), looks := true }, kinds := [], alts := [], laidByText := true, laidKinds := [.sentinel], laidTests := true, laidLooks := .later }
def RiserMayCardSaid : Prop := Claim7.holds Tryd.pinned (.plain (OpenSpec.ofChange riserMaySpec)) riserMayCard

/-- THE SECOND FORM's CARD OF 'paternosterlaw10.RiserApart'. -/
def riserApartUptoCard : Claim7 := { stood := { row := riserApartUptoRow, standIns := [], harness := (true, "5417eb31cdb38a640bb3c648b2afe7131637c531659faa5bb04f51d22bbe668b"), looks := true }, kinds := [], alts := [], laidByText := true, laidKinds := [.sentinel], laidTests := true, laidLooks := .later }
def RiserApartUptoCardSaid : Prop := Claim7.holds Tryd.pinned (.plain (OpenSpec.upto riserApartSpec)) riserApartUptoCard

/-- THE SECOND FORM's CARD OF 'paternosterlaw10.RiserPlays'. -/
def riserPlaysUptoCard : Claim7 := { stood := { row := riserPlaysUptoRow, standIns := [], harness := (true, "5417eb31cdb38a640bb3c648b2afe7131637c531659faa5bb04f51d22bbe668b"), looks := true }, kinds := [], alts := [], laidByText := true, laidKinds := [.sentinel, .sentinel, .sentinel, .sentinel, .sentinel, .sentinel, .sentinel, .sentinel, .sentinel, .sentinel, .sentinel, .sentinel, .sentinel], laidTests := true, laidLooks := .later }
def RiserPlaysUptoCardSaid : Prop := Claim7.holds Tryd.pinned (.plain (OpenSpec.upto riserPlaysSpec)) riserPlaysUptoCard

/-- THE SECOND FORM's CARD OF 'paternosterlaw10.RiserTimes'. -/
def riserTimesUptoCard : Claim7 := { stood := { row := riserTimesUptoRow, standIns := [], harness := (true, "5417eb31cdb38a640bb3c648b2afe7131637c531659faa5bb04f51d22bbe668b"), looks := true }, kinds := [], alts := [], laidByText := true, laidKinds := [.sentinel], laidTests := true, laidLooks := .later }
def RiserTimesUptoCardSaid : Prop := Claim7.holds Tryd.pinned (.plain (OpenSpec.upto riserTimesSpec)) riserTimesUptoCard

/-- THE SECOND FORM's CARD OF 'paternosterlaw10.RiserMay'. -/
def riserMayUptoCard : Claim7 := { stood := { row := riserMayUptoRow, standIns := [], harness := (true, "5417eb31cdb38a640bb3c648b2afe7131637c531659faa5bb04f51d22bbe668b"), looks := true }, kinds := [], alts := [], laidByText := true, laidKinds := [.sentinel], laidTests := true, laidLooks := .later }
def RiserMayUptoCardSaid : Prop := Claim7.holds Tryd.pinned (.plain (OpenSpec.upto riserMaySpec)) riserMayUptoCard
end Rows
end Go.Proofs.YtndjmpjgahmnoaaDoor
