/-
  DERIVED. GIVEN WITH THE SEED: THE CARDS: each row of YtiflmkicnkbeaaaGreatDoorRows.lean that lists a variable, with what it lists TIED to the program's text (the seventh form; the later family's looks); each row that meets fmt, with fmt's text TOLD by the authors' own Lean function (tested against real Go, not proved from fmt's source: count such statements apart). THE CARD IS WHAT COUNTS. Prove the row's statement (the work); the ties are given (YtiflmkicnkbeaaaGreatDoorTie.lean); close each card by the builder's one call (the guide's Derived/Test/ToyasCard.lean, 'card_holds'). Laid BY PROGRAM, IN A SANDBOX (cutbox-door.mjs). By AI agents, Wed Nov 11 2026. No macro, syntax, notation, axiom, sorry.
-/
import Derived.Test.YtiflmkicnkbeaaaGreatDoorRows
import GoSem.ClaimSeven
namespace Go.Proofs.YtiflmkicnkbeaaaGreatDoor
namespace Rows

/-- THE TIED CARD OF 'paternosterlaw22.NodeFounds'. -/
def nodeFoundsCard : Claim7 := { stood := { row := nodeFoundsRow, standIns := [], harness := (true, "e1286467906ae7842591d87c2816f9246865a93eeddb097793822167f080bcb9"), looks := true }, kinds := [], alts := [], laidByText := true, laidKinds := [.data, .sentinel, .sentinel, .sentinel, .sentinel, .sentinel, .sentinel, .sentinel], laidTests := true, laidLooks := .later }
def NodeFoundsCardSaid : Prop := Claim7.holds Tryz.pinned (.plain (OpenSpec.ofChange nodeFoundsSpec)) nodeFoundsCard

/-- THE TIED CARD OF 'paternosterlaw22.NodePresses'. -/
def nodePressesCard : Claim7 := { stood := { row := nodePressesRow, standIns := [], harness := (true, "e1286467906ae7842591d87c2816f9246865a93eeddb097793822167f080bcb9"), looks := true }, kinds := [], alts := [], laidByText := true, laidKinds := [.data, .sentinel, .sentinel, .sentinel, .sentinel], laidTests := true, laidLooks := .later }
def NodePressesCardSaid : Prop := Claim7.holds Tryz.pinned (.plain (OpenSpec.ofChange nodePressesSpec)) nodePressesCard

/-- THE TIED CARD OF 'paternosterlaw22.NodePlays'. -/
def nodePlaysCard : Claim7 := { stood := { row := nodePlaysRow, standIns := [], harness := (true, "e1286467906ae7842591d87c2816f9246865a93eeddb097793822167f080bcb9"), looks := true }, kinds := [], alts := [], laidByText := true, laidKinds := [.data, .sentinel, .sentinel, .sentinel, .sentinel, .sentinel, .sentinel, .sentinel, .sentinel, .sentinel, .sentinel, .sentinel, .sentinel, .sentinel], laidTests := true, laidLooks := .later }
def NodePlaysCardSaid : Prop := Claim7.holds Tryz.pinned (.plain (OpenSpec.ofChange nodePlaysSpec)) nodePlaysCard

/-- THE TIED CARD OF 'paternosterlaw22.NodeBoots'. -/
def nodeBootsCard : Claim7 := { stood := { row := nodeBootsRow, standIns := [], harness := (true, "e1286467906ae7842591d87c2816f9246865a93eeddb097793822167f080bcb9"), looks := true }, kinds := [], alts := [], laidByText := true, laidKinds := [.data, .sentinel, .sentinel, .sentinel, .sentinel, .sentinel, .sentinel, .sentinel, .sentinel, .sentinel, .sentinel, .sentinel, .sentinel, .sentinel], laidTests := true, laidLooks := .later }
def NodeBootsCardSaid : Prop := Claim7.holds Tryz.pinned (.plain (OpenSpec.ofChange nodeBootsSpec)) nodeBootsCard

/-- THE TIED CARD OF 'paternosterlaw22.NodeAlone'. -/
def nodeAloneCard : Claim7 := { stood := { row := nodeAloneRow, standIns := [], harness := (true, "e1286467906ae7842591d87c2816f9246865a93eeddb097793822167f080bcb9"), looks := true }, kinds := [], alts := [], laidByText := true, laidKinds := [.data, .sentinel, .sentinel, .sentinel, .sentinel, .sentinel, .sentinel, .sentinel], laidTests := true, laidLooks := .later }
def NodeAloneCardSaid : Prop := Claim7.holds Tryz.pinned (.plain (OpenSpec.ofChange nodeAloneSpec)) nodeAloneCard

/-- THE TIED CARD OF 'paternosterlaw22.NodeBeats'. -/
def nodeBeatsCard : Claim7 := { stood := { row := nodeBeatsRow, standIns := [], harness := (true, "e1286467906ae7842591d87c2816f9246865a93eeddb097793822167f080bcb9"), looks := true }, kinds := [], alts := [], laidByText := true, laidKinds := [.data, .sentinel, .sentinel, .sentinel, .sentinel, .sentinel, .sentinel, .sentinel], laidTests := true, laidLooks := .later }
def NodeBeatsCardSaid : Prop := Claim7.holds Tryz.pinned (.plain (OpenSpec.ofChange nodeBeatsSpec)) nodeBeatsCard

/-- THE TIED CARD OF 'paternosterlaw22.NodeTokens'. -/
def nodeTokensCard : Claim7 := { stood := { row := nodeTokensRow, standIns := [], harness := (true, "e1286467906ae7842591d87c2816f9246865a93eeddb097793822167f080bcb9"), looks := true }, kinds := [], alts := [], laidByText := true, laidKinds := [.data, .sentinel, .sentinel, .sentinel, .sentinel, .sentinel, .sentinel, .sentinel], laidTests := true, laidLooks := .later }
def NodeTokensCardSaid : Prop := Claim7.holds Tryz.pinned (.plain (OpenSpec.ofChange nodeTokensSpec)) nodeTokensCard

/-- THE TIED CARD OF 'paternosterlaw22.NodeDown'. -/
def nodeDownCard : Claim7 := { stood := { row := nodeDownRow, standIns := [], harness := (true, "e1286467906ae7842591d87c2816f9246865a93eeddb097793822167f080bcb9"), looks := true }, kinds := [], alts := [], laidByText := true, laidKinds := [.data, .sentinel, .sentinel, .sentinel, .sentinel], laidTests := true, laidLooks := .later }
def NodeDownCardSaid : Prop := Claim7.holds Tryz.pinned (.plain (OpenSpec.ofChange nodeDownSpec)) nodeDownCard

/-- THE SECOND FORM's CARD OF 'paternosterlaw22.NodeFounds'. -/
def nodeFoundsUptoCard : Claim7 := { stood := { row := nodeFoundsUptoRow, standIns := [], harness := (true, "e1286467906ae7842591d87c2816f9246865a93eeddb097793822167f080bcb9"), looks := true }, kinds := [], alts := [], laidByText := true, laidKinds := [.data, .sentinel, .sentinel, .sentinel, .sentinel, .sentinel, .sentinel, .sentinel], laidTests := true, laidLooks := .later }
def NodeFoundsUptoCardSaid : Prop := Claim7.holds Tryz.pinned (.plain (OpenSpec.upto nodeFoundsSpec)) nodeFoundsUptoCard

/-- THE SECOND FORM's CARD OF 'paternosterlaw22.NodePresses'. -/
def nodePressesUptoCard : Claim7 := { stood := { row := nodePressesUptoRow, standIns := [], harness := (true, "e1286467906ae7842591d87c2816f9246865a93eeddb097793822167f080bcb9"), looks := true }, kinds := [], alts := [], laidByText := true, laidKinds := [.data, .sentinel, .sentinel, .sentinel, .sentinel], laidTests := true, laidLooks := .later }
def NodePressesUptoCardSaid : Prop := Claim7.holds Tryz.pinned (.plain (OpenSpec.upto nodePressesSpec)) nodePressesUptoCard

/-- THE SECOND FORM's CARD OF 'paternosterlaw22.NodePlays'. -/
def nodePlaysUptoCard : Claim7 := { stood := { row := nodePlaysUptoRow, standIns := [], harness := (true, "e1286467906ae7842591d87c2816f9246865a93eeddb097793822167f080bcb9"), looks := true }, kinds := [], alts := [], laidByText := true, laidKinds := [.data, .sentinel, .sentinel, .sentinel, .sentinel, .sentinel, .sentinel, .sentinel, .sentinel, .sentinel, .sentinel, .sentinel, .sentinel, .sentinel], laidTests := true, laidLooks := .later }
def NodePlaysUptoCardSaid : Prop := Claim7.holds Tryz.pinned (.plain (OpenSpec.upto nodePlaysSpec)) nodePlaysUptoCard

/-- THE SECOND FORM's CARD OF 'paternosterlaw22.NodeBoots'. -/
def nodeBootsUptoCard : Claim7 := { stood := { row := nodeBootsUptoRow, standIns := [], harness := (true, "e1286467906ae7842591d87c2816f9246865a93eeddb097793822167f080bcb9"), looks := true }, kinds := [], alts := [], laidByText := true, laidKinds := [.data, .sentinel, .sentinel, .sentinel, .sentinel, .sentinel, .sentinel, .sentinel, .sentinel, .sentinel, .sentinel, .sentinel, .sentinel, .sentinel], laidTests := true, laidLooks := .later }
def NodeBootsUptoCardSaid : Prop := Claim7.holds Tryz.pinned (.plain (OpenSpec.upto nodeBootsSpec)) nodeBootsUptoCard

/-- THE SECOND FORM's CARD OF 'paternosterlaw22.NodeAlone'. -/
def nodeAloneUptoCard : Claim7 := { stood := { row := nodeAloneUptoRow, standIns := [], harness := (true, "e1286467906ae7842591d87c2816f9246865a93eeddb097793822167f080bcb9"), looks := true }, kinds := [], alts := [], laidByText := true, laidKinds := [.data, .sentinel, .sentinel, .sentinel, .sentinel, .sentinel, .sentinel, .sentinel], laidTests := true, laidLooks := .later }
def NodeAloneUptoCardSaid : Prop := Claim7.holds Tryz.pinned (.plain (OpenSpec.upto nodeAloneSpec)) nodeAloneUptoCard

/-- THE SECOND FORM's CARD OF 'paternosterlaw22.NodeBeats'. -/
def nodeBeatsUptoCard : Claim7 := { stood := { row := nodeBeatsUptoRow, standIns := [], harness := (true, "e1286467906ae7842591d87c2816f9246865a93eeddb097793822167f080bcb9"), looks := true }, kinds := [], alts := [], laidByText := true, laidKinds := [.data, .sentinel, .sentinel, .sentinel, .sentinel, .sentinel, .sentinel, .sentinel], laidTests := true, laidLooks := .later }
def NodeBeatsUptoCardSaid : Prop := Claim7.holds Tryz.pinned (.plain (OpenSpec.upto nodeBeatsSpec)) nodeBeatsUptoCard

/-- THE SECOND FORM's CARD OF 'paternosterlaw22.NodeTokens'. -/
def nodeTokensUptoCard : Claim7 := { stood := { row := nodeTokensUptoRow, standIns := [], harness := (true, "e1286467906ae7842591d87c2816f9246865a93eeddb097793822167f080bcb9"), looks := true }, kinds := [], alts := [], laidByText := true, laidKinds := [.data, .sentinel, .sentinel, .sentinel, .sentinel, .sentinel, .sentinel, .sentinel], laidTests := true, laidLooks := .later }
def NodeTokensUptoCardSaid : Prop := Claim7.holds Tryz.pinned (.plain (OpenSpec.upto nodeTokensSpec)) nodeTokensUptoCard

/-- THE SECOND FORM's CARD OF 'paternosterlaw22.NodeDown'. -/
def nodeDownUptoCard : Claim7 := { stood := { row := nodeDownUptoRow, standIns := [], harness := (true, "e1286467906ae7842591d87c2816f9246865a93eeddb097793822167f080bcb9"), looks := true }, kinds := [], alts := [], laidByText := true, laidKinds := [.data, .sentinel, .sentinel, .sentinel, .sentinel], laidTests := true, laidLooks := .later }
def NodeDownUptoCardSaid : Prop := Claim7.holds Tryz.pinned (.plain (OpenSpec.upto nodeDownSpec)) nodeDownUptoCard
end Rows
end Go.Proofs.YtiflmkicnkbeaaaGreatDoor
