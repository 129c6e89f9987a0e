/-
  DERIVED. GIVEN WITH THE SEED: THE CARDS: each row of YtdmomnhacijmpaaDoorRows.lean that lists a variable, with what it lists TIED to the program's text (the seventh form; the later family's looks); each row that meets fmt, with fmt's text TOLD by the authors' own Lean function (tested against real Go, not proved from fmt's source: count such statements apart). THE CARD IS WHAT COUNTS. Prove the row's statement (the work); the ties are given (YtdmomnhacijmpaaDoorTie.lean); close each card by the builder's one call (the guide's Derived/Test/ToyasCard.lean, 'card_holds'). Laid BY PROGRAM, IN A SANDBOX (cutbox-door.mjs). By AI agents, Wed Nov 11 2026. No macro, syntax, notation, axiom, sorry.
-/
import Derived.Test.YtdmomnhacijmpaaDoorRows
import GoSem.ClaimSeven
namespace Go.Proofs.YtdmomnhacijmpaaDoor
namespace Rows

/-- THE TIED CARD OF 'paternosterlaw17.EtaOpen'. -/
def etaOpenCard : Claim7 := { stood := { row := etaOpenRow, standIns := [], harness := (true, "1d6e45d24ca98a979860a74cf921d54be40002e82bad9e8e38109ba4cfba47f9"), looks := false }, kinds := [], alts := [], laidByText := true, laidKinds := [.data], laidTests := true, laidLooks := .later }
def EtaOpenCardSaid : Prop := Claim7.holds Tryd.pinned (.plain (OpenSpec.ofChange etaOpenSpec)) etaOpenCard

/-- THE TIED CARD OF 'paternosterlaw17.EtaLevels'. -/
def etaLevelsCard : Claim7 := { stood := { row := etaLevelsRow, standIns := [], harness := (true, "1d6e45d24ca98a979860a74cf921d54be40002e82bad9e8e38109ba4cfba47f9"), looks := false }, kinds := [], alts := [], laidByText := true, laidKinds := [.data], laidTests := true, laidLooks := .later }
def EtaLevelsCardSaid : Prop := Claim7.holds Tryd.pinned (.plain (OpenSpec.ofChange etaLevelsSpec)) etaLevelsCard

/-- THE TIED CARD OF 'paternosterlaw17.EtaNear'. -/
def etaNearCard : Claim7 := { stood := { row := etaNearRow, standIns := [], harness := (true, "1d6e45d24ca98a979860a74cf921d54be40002e82bad9e8e38109ba4cfba47f9"), looks := false }, kinds := [], alts := [], laidByText := true, laidKinds := [.data], laidTests := true, laidLooks := .later }
def EtaNearCardSaid : Prop := Claim7.holds Tryd.pinned (.plain (OpenSpec.ofChange etaNearSpec)) etaNearCard

/-- THE TIED CARD OF 'paternosterlaw17.EtaBound'. -/
def etaBoundCard : Claim7 := { stood := { row := etaBoundRow, standIns := [], harness := (true, "1d6e45d24ca98a979860a74cf921d54be40002e82bad9e8e38109ba4cfba47f9"), looks := false }, kinds := [], alts := [], laidByText := true, laidKinds := [.data], laidTests := true, laidLooks := .later }
def EtaBoundCardSaid : Prop := Claim7.holds Tryd.pinned (.plain (OpenSpec.ofChange etaBoundSpec)) etaBoundCard

/-- THE TIED CARD OF 'paternosterlaw17.EtaTicks'. -/
def etaTicksCard : Claim7 := { stood := { row := etaTicksRow, standIns := [], harness := (true, "1d6e45d24ca98a979860a74cf921d54be40002e82bad9e8e38109ba4cfba47f9"), looks := false }, kinds := [], alts := [], laidByText := true, laidKinds := [.data], laidTests := true, laidLooks := .later }
def EtaTicksCardSaid : Prop := Claim7.holds Tryd.pinned (.plain (OpenSpec.ofChange etaTicksSpec)) etaTicksCard

/-- THE TIED CARD OF 'paternosterlaw17.EtaRuns'. -/
def etaRunsCard : Claim7 := { stood := { row := etaRunsRow, standIns := [], harness := (true, "1d6e45d24ca98a979860a74cf921d54be40002e82bad9e8e38109ba4cfba47f9"), looks := false }, kinds := [], alts := [], laidByText := true, laidKinds := [.data], laidTests := true, laidLooks := .later }
def EtaRunsCardSaid : Prop := Claim7.holds Tryd.pinned (.plain (OpenSpec.ofChange etaRunsSpec)) etaRunsCard

/-- THE SECOND FORM's CARD OF 'paternosterlaw17.EtaOpen'. -/
def etaOpenUptoCard : Claim7 := { stood := { row := etaOpenUptoRow, standIns := [], harness := (true, "1d6e45d24ca98a979860a74cf921d54be40002e82bad9e8e38109ba4cfba47f9"), looks := false }, kinds := [], alts := [], laidByText := true, laidKinds := [.data], laidTests := true, laidLooks := .later }
def EtaOpenUptoCardSaid : Prop := Claim7.holds Tryd.pinned (.plain (OpenSpec.upto etaOpenSpec)) etaOpenUptoCard

/-- THE SECOND FORM's CARD OF 'paternosterlaw17.EtaLevels'. -/
def etaLevelsUptoCard : Claim7 := { stood := { row := etaLevelsUptoRow, standIns := [], harness := (true, "1d6e45d24ca98a979860a74cf921d54be40002e82bad9e8e38109ba4cfba47f9"), looks := false }, kinds := [], alts := [], laidByText := true, laidKinds := [.data], laidTests := true, laidLooks := .later }
def EtaLevelsUptoCardSaid : Prop := Claim7.holds Tryd.pinned (.plain (OpenSpec.upto etaLevelsSpec)) etaLevelsUptoCard

/-- THE SECOND FORM's CARD OF 'paternosterlaw17.EtaNear'. -/
def etaNearUptoCard : Claim7 := { stood := { row := etaNearUptoRow, standIns := [], harness := (true, "1d6e45d24ca98a979860a74cf921d54be40002e82bad9e8e38109ba4cfba47f9"), looks := false }, kinds := [], alts := [], laidByText := true, laidKinds := [.data], laidTests := true, laidLooks := .later }
def EtaNearUptoCardSaid : Prop := Claim7.holds Tryd.pinned (.plain (OpenSpec.upto etaNearSpec)) etaNearUptoCard

/-- THE SECOND FORM's CARD OF 'paternosterlaw17.EtaBound'. -/
def etaBoundUptoCard : Claim7 := { stood := { row := etaBoundUptoRow, standIns := [], harness := (true, "1d6e45d24ca98a979860a74cf921d54be40002e82bad9e8e38109ba4cfba47f9"), looks := false }, kinds := [], alts := [], laidByText := true, laidKinds := [.data], laidTests := true, laidLooks := .later }
def EtaBoundUptoCardSaid : Prop := Claim7.holds Tryd.pinned (.plain (OpenSpec.upto etaBoundSpec)) etaBoundUptoCard

/-- THE SECOND FORM's CARD OF 'paternosterlaw17.EtaTicks'. -/
def etaTicksUptoCard : Claim7 := { stood := { row := etaTicksUptoRow, standIns := [], harness := (true, "1d6e45d24ca98a979860a74cf921d54be40002e82bad9e8e38109ba4cfba47f9"), looks := false }, kinds := [], alts := [], laidByText := true, laidKinds := [.data], laidTests := true, laidLooks := .later }
def EtaTicksUptoCardSaid : Prop := Claim7.holds Tryd.pinned (.plain (OpenSpec.upto etaTicksSpec)) etaTicksUptoCard

/-- THE SECOND FORM's CARD OF 'paternosterlaw17.EtaRuns'. -/
def etaRunsUptoCard : Claim7 := { stood := { row := etaRunsUptoRow, standIns := [], harness := (true, "1d6e45d24ca98a979860a74cf921d54be40002e82bad9e8e38109ba4cfba47f9"), looks := false }, kinds := [], alts := [], laidByText := true, laidKinds := [.data], laidTests := true, laidLooks := .later }
def EtaRunsUptoCardSaid : Prop := Claim7.holds Tryd.pinned (.plain (OpenSpec.upto etaRunsSpec)) etaRunsUptoCard
end Rows
end Go.Proofs.YtdmomnhacijmpaaDoor
