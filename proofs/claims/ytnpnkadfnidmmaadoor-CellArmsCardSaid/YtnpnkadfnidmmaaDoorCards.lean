/-
  DERIVED. GIVEN WITH THE SEED: THE CARDS: each row of YtnpnkadfnidmmaaDoorRows.lean that lists a variable, with what it lists TIED to the program's text (the seventh form; the later family's looks); each row that meets fmt, with fmt's text TOLD by the authors' own Lean function (tested against real Go, not proved from fmt's source: count such statements apart). THE CARD IS WHAT COUNTS. Prove the row's statement (the work); the ties are given (YtnpnkadfnidmmaaDoorTie.lean); close each card by the builder's one call (the guide's Derived/Test/ToyasCard.lean, 'card_holds'). Laid BY PROGRAM, IN A SANDBOX (cutbox-door.mjs). By AI agents, Wed Nov 11 2026. No macro, syntax, notation, axiom, sorry.
-/
import Derived.Test.YtnpnkadfnidmmaaDoorRows
import GoSem.ClaimSeven
namespace Go.Proofs.YtnpnkadfnidmmaaDoor
namespace Rows

/-- THE TIED CARD OF 'paternosterlaw2.CellPlays'. -/
def cellPlaysCard : Claim7 := { stood := { row := cellPlaysRow, standIns := [], harness := (true, "2aa4c79be935b981ef4a2384d8ff5befd18b60f463934666aa91555f01d1812f"), looks := true }, kinds := [], alts := [], laidByText := true, laidKinds := [.sentinel, .sentinel, .sentinel, .sentinel, .sentinel, .sentinel, .sentinel, .sentinel, .sentinel, .sentinel, .sentinel, .sentinel, .sentinel], laidTests := true, laidLooks := .later }
def CellPlaysCardSaid : Prop := Claim7.holds Tryd.pinned (.plain (OpenSpec.ofChange cellPlaysSpec)) cellPlaysCard

/-- THE TIED CARD OF 'paternosterlaw2.CellArms'. -/
def cellArmsCard : Claim7 := { stood := { row := cellArmsRow, standIns := [], harness := (true, "2aa4c79be935b981ef4a2384d8ff5befd18b60f463934666aa91555f01d1812f"), looks := true }, kinds := [], alts := [], laidByText := true, laidKinds := [.sentinel, .sentinel, .sentinel, .sentinel, .sentinel, .sentinel, .sentinel, .sentinel, .sentinel, .sentinel, .sentinel, .sentinel, .sentinel], laidTests := true, laidLooks := .later }
def CellArmsCardSaid : Prop := Claim7.holds Tryd.pinned (.plain (OpenSpec.ofChange cellArmsSpec)) cellArmsCard

/-- THE TIED CARD OF 'paternosterlaw2.CellTwins'. -/
def cellTwinsCard : Claim7 := { stood := { row := cellTwinsRow, standIns := [], harness := (true, "2aa4c79be935b981ef4a2384d8ff5befd18b60f463934666aa91555f01d1812f"), looks := true }, kinds := [], alts := [], laidByText := true, laidKinds := [.sentinel, .sentinel, .sentinel, .sentinel, .sentinel, .sentinel, .sentinel, .sentinel, .sentinel, .sentinel, .sentinel, .sentinel, .sentinel], laidTests := true, laidLooks := .later }
def CellTwinsCardSaid : Prop := Claim7.holds Tryd.pinned (.plain (OpenSpec.ofChange cellTwinsSpec)) cellTwinsCard

/-- THE SECOND FORM's CARD OF 'paternosterlaw2.CellPlays'. -/
def cellPlaysUptoCard : Claim7 := { stood := { row := cellPlaysUptoRow, standIns := [], harness := (true, "2aa4c79be935b981ef4a2384d8ff5befd18b60f463934666aa91555f01d1812f"), looks := true }, kinds := [], alts := [], laidByText := true, laidKinds := [.sentinel, .sentinel, .sentinel, .sentinel, .sentinel, .sentinel, .sentinel, .sentinel, .sentinel, .sentinel, .sentinel, .sentinel, .sentinel], laidTests := true, laidLooks := .later }
def CellPlaysUptoCardSaid : Prop := Claim7.holds Tryd.pinned (.plain (OpenSpec.upto cellPlaysSpec)) cellPlaysUptoCard

/-- THE SECOND FORM's CARD OF 'paternosterlaw2.CellArms'. -/
def cellArmsUptoCard : Claim7 := { stood := { row := cellArmsUptoRow, standIns := [], harness := (true, "2aa4c79be935b981ef4a2384d8ff5befd18b60f463934666aa91555f01d1812f"), looks := true }, kinds := [], alts := [], laidByText := true, laidKinds := [.sentinel, .sentinel, .sentinel, .sentinel, .sentinel, .sentinel, .sentinel, .sentinel, .sentinel, .sentinel, .sentinel, .sentinel, .sentinel], laidTests := true, laidLooks := .later }
def CellArmsUptoCardSaid : Prop := Claim7.holds Tryd.pinned (.plain (OpenSpec.upto cellArmsSpec)) cellArmsUptoCard

/-- THE SECOND FORM's CARD OF 'paternosterlaw2.CellTwins'. -/
def cellTwinsUptoCard : Claim7 := { stood := { row := cellTwinsUptoRow, standIns := [], harness := (true, "2aa4c79be935b981ef4a2384d8ff5befd18b60f463934666aa91555f01d1812f"), looks := true }, kinds := [], alts := [], laidByText := true, laidKinds := [.sentinel, .sentinel, .sentinel, .sentinel, .sentinel, .sentinel, .sentinel, .sentinel, .sentinel, .sentinel, .sentinel, .sentinel, .sentinel], laidTests := true, laidLooks := .later }
def CellTwinsUptoCardSaid : Prop := Claim7.holds Tryd.pinned (.plain (OpenSpec.upto cellTwinsSpec)) cellTwinsUptoCard
end Rows
end Go.Proofs.YtnpnkadfnidmmaaDoor
