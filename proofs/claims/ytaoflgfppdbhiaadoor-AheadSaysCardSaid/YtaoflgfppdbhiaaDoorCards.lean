/-
  DERIVED. GIVEN WITH THE SEED: THE CARDS: each row of YtaoflgfppdbhiaaDoorRows.lean that lists a variable, with what it lists TIED to the program's text (the seventh form; the later family's looks); each row that meets fmt, with fmt's text TOLD by the authors' own Lean function (tested against real Go, not proved from fmt's source: count such statements apart). THE CARD IS WHAT COUNTS. Prove the row's statement (the work); the ties are given (YtaoflgfppdbhiaaDoorTie.lean); close each card by the builder's one call (the guide's Derived/Test/ToyasCard.lean, 'card_holds'). Laid BY PROGRAM, IN A SANDBOX (cutbox-door.mjs). By AI agents, Wed Nov 11 2026. No macro, syntax, notation, axiom, sorry.
-/
import Derived.Test.YtaoflgfppdbhiaaDoorRows
import GoSem.ClaimSeven
namespace Go.Proofs.YtaoflgfppdbhiaaDoor
namespace Rows

/-- THE TIED CARD OF 'paternosterlaw14.AheadSays'. -/
def aheadSaysCard : Claim7 := { stood := { row := aheadSaysRow, standIns := [], harness := (true, "47e7805dac44e3f08debc88c68d7d0c422ca8e6d20f77093864bb4ae0151ae62"), looks := false }, kinds := [], alts := [], laidByText := true, laidKinds := [.data], laidTests := true, laidLooks := .later }
def AheadSaysCardSaid : Prop := Claim7.holds Tryd.pinned (.plain (OpenSpec.ofChange aheadSaysSpec)) aheadSaysCard

/-- THE TIED CARD OF 'paternosterlaw14.AheadSides'. -/
def aheadSidesCard : Claim7 := { stood := { row := aheadSidesRow, standIns := [], harness := (true, "47e7805dac44e3f08debc88c68d7d0c422ca8e6d20f77093864bb4ae0151ae62"), looks := false }, kinds := [], alts := [], laidByText := true, laidKinds := [.data], laidTests := true, laidLooks := .later }
def AheadSidesCardSaid : Prop := Claim7.holds Tryd.pinned (.plain (OpenSpec.ofChange aheadSidesSpec)) aheadSidesCard

/-- THE TIED CARD OF 'paternosterlaw14.AheadMirrors'. -/
def aheadMirrorsCard : Claim7 := { stood := { row := aheadMirrorsRow, standIns := [], harness := (true, "47e7805dac44e3f08debc88c68d7d0c422ca8e6d20f77093864bb4ae0151ae62"), looks := false }, kinds := [], alts := [], laidByText := true, laidKinds := [.data], laidTests := true, laidLooks := .later }
def AheadMirrorsCardSaid : Prop := Claim7.holds Tryd.pinned (.plain (OpenSpec.ofChange aheadMirrorsSpec)) aheadMirrorsCard

/-- THE SECOND FORM's CARD OF 'paternosterlaw14.AheadSays'. -/
def aheadSaysUptoCard : Claim7 := { stood := { row := aheadSaysUptoRow, standIns := [], harness := (true, "47e7805dac44e3f08debc88c68d7d0c422ca8e6d20f77093864bb4ae0151ae62"), looks := false }, kinds := [], alts := [], laidByText := true, laidKinds := [.data], laidTests := true, laidLooks := .later }
def AheadSaysUptoCardSaid : Prop := Claim7.holds Tryd.pinned (.plain (OpenSpec.upto aheadSaysSpec)) aheadSaysUptoCard

/-- THE SECOND FORM's CARD OF 'paternosterlaw14.AheadSides'. -/
def aheadSidesUptoCard : Claim7 := { stood := { row := aheadSidesUptoRow, standIns := [], harness := (true, "47e7805dac44e3f08debc88c68d7d0c422ca8e6d20f77093864bb4ae0151ae62"), looks := false }, kinds := [], alts := [], laidByText := true, laidKinds := [.data], laidTests := true, laidLooks := .later }
def AheadSidesUptoCardSaid : Prop := Claim7.holds Tryd.pinned (.plain (OpenSpec.upto aheadSidesSpec)) aheadSidesUptoCard

/-- THE SECOND FORM's CARD OF 'paternosterlaw14.AheadMirrors'. -/
def aheadMirrorsUptoCard : Claim7 := { stood := { row := aheadMirrorsUptoRow, standIns := [], harness := (true, "47e7805dac44e3f08debc88c68d7d0c422ca8e6d20f77093864bb4ae0151ae62"), looks := false }, kinds := [], alts := [], laidByText := true, laidKinds := [.data], laidTests := true, laidLooks := .later }
def AheadMirrorsUptoCardSaid : Prop := Claim7.holds Tryd.pinned (.plain (OpenSpec.upto aheadMirrorsSpec)) aheadMirrorsUptoCard
end Rows
end Go.Proofs.YtaoflgfppdbhiaaDoor
