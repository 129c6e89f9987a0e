/- The chapter's example. -/
import Derived.Test.YtecbjfmdlaajdaaDoor2
namespace Go.Proofs.Ytecbjfmdlaajdaa
open Go.RowKit

set_option maxRecDepth 100000 in
theorem first_any (w : World) : Calls Try.prog 7 #[] w fun e w' => e = .returned (.bool true) ∧ Fr w w' [] := by
  have O := Lib.hid (fun W => open_any 1 W 1 (by decide))
  have T := Lib.hid (fun W => tick_any 1 0 false W 0 0 true rfl rfl rfl (by decide) (by decide) (by decide))
  have I := Lib.hid (fun W => is_any 0 0 W false (by decide))
  dsimp only [dv] at *
  go_enter Try.func7, Try.ntmps7
  go_wp2_with fail
  with_reducible refine (O.out _).mono ?_
  rintro e w1 ⟨rfl, hf⟩
  have F1 := Lib.hid hf
  clear hf
  go_wp2_with fail
  with_reducible refine (T.out _).mono ?_
  rintro e w2 ⟨rfl, hf⟩
  have F2 := Lib.hid ((F1.out.trans hf).trans (Fr.alloc w2 (dbox 25 0 0) []))
  have N2 := heap_alloc_new w2 (dbox 25 0 0)
  dsimp only [dbox] at F2 N2
  obtain ⟨c0, c1⟩ := drow N2
  clear hf
  go_wp2_with fail
  with_reducible refine (I.out _).mono ?_
  rintro e w3 ⟨rfl, hf⟩
  go_wp2
  go_ret
  exact ⟨rfl, F2.out.trans hf⟩
end Go.Proofs.Ytecbjfmdlaajdaa
