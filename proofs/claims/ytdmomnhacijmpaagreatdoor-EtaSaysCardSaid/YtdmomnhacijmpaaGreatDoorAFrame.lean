/- From the library's listed table to what the walks ask; the door's own heap meets the condition. -/
import Derived.Test.YtdmomnhacijmpaaGreatDoorGAhd
import Derived.ProofKit
import Derived.LaidLaws
import Derived.LaidMore
import Derived.LaidHandle
import Derived.MakeChecks
import Derived.OpenShut
import Derived.Stop.Joined
import Derived.SevenTiedAt
import Derived.Lib.LaidTab
import Derived.Test.YtdmomnhacijmpaaGreatDoorTie
import Derived.Test.YtdmomnhacijmpaaGreatDoorCards
namespace Go.Proofs.YtdmomnhacijmpaaGreatDoor
open Go.RowKit Go.ChangeShapes Go.WideShapes

theorem own : ownKnob Tryz.prog.godebug = none := by kernel_rfl
theorem laidOut : laidOutB Tryz.prog = true := by kernel_rfl

def tabs : List (String × DataW Unit) := [("math/bits.deBruijn64tab", Rows.laid_math_bits_deBruijn64tab)]
def debI : List Int := Lib.deBruijn64tab.map fun n : Nat => (n : Int)
theorem deb_data : (Rows.laid_math_bits_deBruijn64tab : DataW Unit) = Lib.tabData .u8 debI := by kernel_rfl
theorem tab_of_laid {W : World} (h : laidMetH Tryz.prog tabs W) : Tz W := by
  rw [MakeChecks.laidMetH_plain _ _ _ (by decide)] at h
  obtain ⟨ps, ⟨g, t, cs, fuel, p, q, hg, ht, hvar, hd, _, _⟩, _⟩ := h
  obtain rfl : 0 = g := Option.some.inj ((show Tryz.prog.globalNamed "math/bits.deBruijn64tab" = some 0 by kernel_rfl).symm.trans hg)
  obtain rfl : 153 = t := Option.some.inj ((show (Tryz.prog.globals[0]?).map (·.type) = some 153 by kernel_rfl).symm.trans ht)
  rw [deb_data] at hd
  have hcs := Lib.cells_of_tab Tryz.underlying153 Tryz.underlying5 (by kernel_rfl) (by kernel_rfl) hd
  intro j hj
  have hcell := World.var?_cell hg hvar j
  have hl : j < Lib.deBruijn64tab.length := hj
  rw [hcell]
  have e : cs.toList = _ := hcs
  rw [← Array.getElem?_toList, e]
  simp [debI, List.getD, hl]
/-- The door's own heap meets the condition. -/
theorem doorTabs (os : Os) (args : Array Value) : laidMetH Tryz.prog tabs ((World.doorLaid Tryz.prog 256 os).forCall (fun _ _ => 0) ⟨#[], args, []⟩).memory :=
  laidMetH_of_parts3 (fuel := 8) (laidMet_of_run' 8 (by kernel_rfl) (by kernel_rfl)) (by kernel_rfl) (by kernel_rfl)
end Go.Proofs.YtdmomnhacijmpaaGreatDoor
