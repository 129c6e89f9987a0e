/-
  DERIVED. GIVEN WITH THE SEED: THE CARDS: each row of YtgcgbiaigbblkaaDoorRows.lean that lists a variable, with what it lists TIED to the program's text (the seventh form; the later family's looks); each row that meets fmt, with fmt's text TOLD by the authors' own Lean function (tested against real Go, not proved from fmt's source: count such statements apart). THE CARD IS WHAT COUNTS. Prove the row's statement (the work); the ties are given (YtgcgbiaigbblkaaDoorTie.lean); close each card by the builder's one call (the guide's Derived/Test/ToyasCard.lean, 'card_holds'). Laid BY PROGRAM, IN A SANDBOX (cutbox-door.mjs). By AI agents, Wed Nov 11 2026. No macro, syntax, notation, axiom, sorry.
-/
import Derived.Test.YtgcgbiaigbblkaaDoorRows
import GoSem.ClaimSeven
namespace Go.Proofs.YtgcgbiaigbblkaaDoor
namespace Rows

/-- THE TIED CARD OF 'paternosterlaw16.CarStops'. -/
def carStopsCard : Claim7 := { stood := { row := carStopsRow, standIns := [], harness := (true, "608b3abfd94e007c4a8db1888e59727cae2446b0fa0dfbc094066cc6ca668d10"), looks := false }, kinds := [], alts := [], laidByText := true, laidKinds := [.data], laidTests := true, laidLooks := .later }
def CarStopsCardSaid : Prop := Claim7.holds Tryd.pinned (.plain (OpenSpec.ofChange carStopsSpec)) carStopsCard

/-- THE TIED CARD OF 'paternosterlaw16.CarOut'. -/
def carOutCard : Claim7 := { stood := { row := carOutRow, standIns := [], harness := (true, "608b3abfd94e007c4a8db1888e59727cae2446b0fa0dfbc094066cc6ca668d10"), looks := false }, kinds := [], alts := [], laidByText := true, laidKinds := [.data], laidTests := true, laidLooks := .later }
def CarOutCardSaid : Prop := Claim7.holds Tryd.pinned (.plain (OpenSpec.ofChange carOutSpec)) carOutCard

/-- THE TIED CARD OF 'paternosterlaw16.CarPlays'. -/
def carPlaysCard : Claim7 := { stood := { row := carPlaysRow, standIns := [], harness := (true, "608b3abfd94e007c4a8db1888e59727cae2446b0fa0dfbc094066cc6ca668d10"), looks := false }, kinds := [], alts := [], laidByText := true, laidKinds := [.data], laidTests := true, laidLooks := .later }
def CarPlaysCardSaid : Prop := Claim7.holds Tryd.pinned (.plain (OpenSpec.ofChange carPlaysSpec)) carPlaysCard

/-- THE TIED CARD OF 'paternosterlaw16.CarServes'. -/
def carServesCard : Claim7 := { stood := { row := carServesRow, standIns := [], harness := (true, "608b3abfd94e007c4a8db1888e59727cae2446b0fa0dfbc094066cc6ca668d10"), looks := false }, kinds := [], alts := [], laidByText := true, laidKinds := [.data], laidTests := true, laidLooks := .later }
def CarServesCardSaid : Prop := Claim7.holds Tryd.pinned (.plain (OpenSpec.ofChange carServesSpec)) carServesCard

/-- THE TIED CARD OF 'paternosterlaw16.CarLevels'. -/
def carLevelsCard : Claim7 := { stood := { row := carLevelsRow, standIns := [], harness := (true, "608b3abfd94e007c4a8db1888e59727cae2446b0fa0dfbc094066cc6ca668d10"), looks := false }, kinds := [], alts := [], laidByText := true, laidKinds := [.data], laidTests := true, laidLooks := .later }
def CarLevelsCardSaid : Prop := Claim7.holds Tryd.pinned (.plain (OpenSpec.ofChange carLevelsSpec)) carLevelsCard

/-- THE TIED CARD OF 'paternosterlaw16.CarStays'. -/
def carStaysCard : Claim7 := { stood := { row := carStaysRow, standIns := [], harness := (true, "608b3abfd94e007c4a8db1888e59727cae2446b0fa0dfbc094066cc6ca668d10"), looks := false }, kinds := [], alts := [], laidByText := true, laidKinds := [.data], laidTests := true, laidLooks := .later }
def CarStaysCardSaid : Prop := Claim7.holds Tryd.pinned (.plain (OpenSpec.ofChange carStaysSpec)) carStaysCard

/-- THE TIED CARD OF 'paternosterlaw16.CarHolds'. -/
def carHoldsCard : Claim7 := { stood := { row := carHoldsRow, standIns := [], harness := (true, "608b3abfd94e007c4a8db1888e59727cae2446b0fa0dfbc094066cc6ca668d10"), looks := false }, kinds := [], alts := [], laidByText := true, laidKinds := [.data], laidTests := true, laidLooks := .later }
def CarHoldsCardSaid : Prop := Claim7.holds Tryd.pinned (.plain (OpenSpec.ofChange carHoldsSpec)) carHoldsCard

/-- THE TIED CARD OF 'paternosterlaw16.CarPasses'. -/
def carPassesCard : Claim7 := { stood := { row := carPassesRow, standIns := [], harness := (true, "608b3abfd94e007c4a8db1888e59727cae2446b0fa0dfbc094066cc6ca668d10"), looks := false }, kinds := [], alts := [], laidByText := true, laidKinds := [.data], laidTests := true, laidLooks := .later }
def CarPassesCardSaid : Prop := Claim7.holds Tryd.pinned (.plain (OpenSpec.ofChange carPassesSpec)) carPassesCard

/-- THE SECOND FORM's CARD OF 'paternosterlaw16.CarStops'. -/
def carStopsUptoCard : Claim7 := { stood := { row := carStopsUptoRow, standIns := [], harness := (true, "608b3abfd94e007c4a8db1888e59727cae2446b0fa0dfbc094066cc6ca668d10"), looks := false }, kinds := [], alts := [], laidByText := true, laidKinds := [.data], laidTests := true, laidLooks := .later }
def CarStopsUptoCardSaid : Prop := Claim7.holds Tryd.pinned (.plain (OpenSpec.upto carStopsSpec)) carStopsUptoCard

/-- THE SECOND FORM's CARD OF 'paternosterlaw16.CarOut'. -/
def carOutUptoCard : Claim7 := { stood := { row := carOutUptoRow, standIns := [], harness := (true, "608b3abfd94e007c4a8db1888e59727cae2446b0fa0dfbc094066cc6ca668d10"), looks := false }, kinds := [], alts := [], laidByText := true, laidKinds := [.data], laidTests := true, laidLooks := .later }
def CarOutUptoCardSaid : Prop := Claim7.holds Tryd.pinned (.plain (OpenSpec.upto carOutSpec)) carOutUptoCard

/-- THE SECOND FORM's CARD OF 'paternosterlaw16.CarPlays'. -/
def carPlaysUptoCard : Claim7 := { stood := { row := carPlaysUptoRow, standIns := [], harness := (true, "608b3abfd94e007c4a8db1888e59727cae2446b0fa0dfbc094066cc6ca668d10"), looks := false }, kinds := [], alts := [], laidByText := true, laidKinds := [.data], laidTests := true, laidLooks := .later }
def CarPlaysUptoCardSaid : Prop := Claim7.holds Tryd.pinned (.plain (OpenSpec.upto carPlaysSpec)) carPlaysUptoCard

/-- THE SECOND FORM's CARD OF 'paternosterlaw16.CarServes'. -/
def carServesUptoCard : Claim7 := { stood := { row := carServesUptoRow, standIns := [], harness := (true, "608b3abfd94e007c4a8db1888e59727cae2446b0fa0dfbc094066cc6ca668d10"), looks := false }, kinds := [], alts := [], laidByText := true, laidKinds := [.data], laidTests := true, laidLooks := .later }
def CarServesUptoCardSaid : Prop := Claim7.holds Tryd.pinned (.plain (OpenSpec.upto carServesSpec)) carServesUptoCard

/-- THE SECOND FORM's CARD OF 'paternosterlaw16.CarLevels'. -/
def carLevelsUptoCard : Claim7 := { stood := { row := carLevelsUptoRow, standIns := [], harness := (true, "608b3abfd94e007c4a8db1888e59727cae2446b0fa0dfbc094066cc6ca668d10"), looks := false }, kinds := [], alts := [], laidByText := true, laidKinds := [.data], laidTests := true, laidLooks := .later }
def CarLevelsUptoCardSaid : Prop := Claim7.holds Tryd.pinned (.plain (OpenSpec.upto carLevelsSpec)) carLevelsUptoCard

/-- THE SECOND FORM's CARD OF 'paternosterlaw16.CarStays'. -/
def carStaysUptoCard : Claim7 := { stood := { row := carStaysUptoRow, standIns := [], harness := (true, "608b3abfd94e007c4a8db1888e59727cae2446b0fa0dfbc094066cc6ca668d10"), looks := false }, kinds := [], alts := [], laidByText := true, laidKinds := [.data], laidTests := true, laidLooks := .later }
def CarStaysUptoCardSaid : Prop := Claim7.holds Tryd.pinned (.plain (OpenSpec.upto carStaysSpec)) carStaysUptoCard

/-- THE SECOND FORM's CARD OF 'paternosterlaw16.CarHolds'. -/
def carHoldsUptoCard : Claim7 := { stood := { row := carHoldsUptoRow, standIns := [], harness := (true, "608b3abfd94e007c4a8db1888e59727cae2446b0fa0dfbc094066cc6ca668d10"), looks := false }, kinds := [], alts := [], laidByText := true, laidKinds := [.data], laidTests := true, laidLooks := .later }
def CarHoldsUptoCardSaid : Prop := Claim7.holds Tryd.pinned (.plain (OpenSpec.upto carHoldsSpec)) carHoldsUptoCard

/-- THE SECOND FORM's CARD OF 'paternosterlaw16.CarPasses'. -/
def carPassesUptoCard : Claim7 := { stood := { row := carPassesUptoRow, standIns := [], harness := (true, "608b3abfd94e007c4a8db1888e59727cae2446b0fa0dfbc094066cc6ca668d10"), looks := false }, kinds := [], alts := [], laidByText := true, laidKinds := [.data], laidTests := true, laidLooks := .later }
def CarPassesUptoCardSaid : Prop := Claim7.holds Tryd.pinned (.plain (OpenSpec.upto carPassesSpec)) carPassesUptoCard
end Rows
end Go.Proofs.YtgcgbiaigbblkaaDoor
