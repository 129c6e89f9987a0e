/- The chapter's example. -/
import Derived.Test.YteojefipcbalhaaPlant
namespace Go.Proofs.Yteojefipcbalhaa
open Go.RowKit

set_option maxRecDepth 100000 in
theorem first_any (w : World) : Calls Try.prog 7 #[] w fun e w' => e = .returned (.bool true) ∧ Fr w w' [] := by
  have T := Lib.hid (fun W => top_any ⟨1, 5, 3, 1⟩ W 12 (by decide))
  dsimp only [Ho.v] at T
  go_enter Try.func7, Try.ntmps7
  go_wp2_with fail
  with_reducible refine (T.out _).mono ?_
  rintro e w2 ⟨rfl, hf⟩
  go_wp2
  go_ret
  exact ⟨rfl, hf⟩
end Go.Proofs.Yteojefipcbalhaa
