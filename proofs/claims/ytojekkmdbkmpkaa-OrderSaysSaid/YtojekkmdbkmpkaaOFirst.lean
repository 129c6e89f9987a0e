/- The chapter's example; small laws for the statements on who comes next. -/
import Derived.Test.YtojekkmdbkmpkaaOrder
import Derived.Test.YtojekkmdbkmpkaaNum
namespace Go.Proofs.Ytojekkmdbkmpkaa
open Go.RowKit

set_option maxRecDepth 100000 in
theorem first_any (w : World) : Calls Try.prog 7 #[] w fun e w' => e = .returned (.bool true) ∧ Fr w w' [] := by
  have hh : HInts (w.alloc (.cells #[.int .i64 1, .int .i64 4, .int .i64 6] 3)) (.slice (some ⟨w.heap.size, 0, none⟩) 3 3) [1, 4, 6] := by
    refine ⟨_, 3, rfl, by decide, by decide, fun _ => ⟨w.heap.size, 0, rfl, fun i hi => ?_⟩⟩
    rw [Nat.zero_add, cell_of_row _ _ _ _ _ _ (heap_alloc_new w _)]
    have hi' : i < 3 := hi
    match i, hi' with
    | 0, _ => rfl
    | 1, _ => rfl
    | 2, _ => rfl
  have HN := Lib.hid (next_any _ [1, 4, 6] 6 _ hh (by decide) 1 true (.inr ⟨by decide, rfl, .inr ⟨.inl ⟨rfl, rfl, by decide⟩, .inr ⟨rfl, by decide, by decide⟩⟩⟩))
  clear hh
  go_enter Try.func7, Try.ntmps7
  go_wp2_with fail
  refine HN.out.mono ?_
  rintro e w' ⟨rfl, rfl⟩
  go_wp2
  go_ret
  exact ⟨rfl, Fr.alloc w _ []⟩

theorem one_of (w : World) : Calls Try.prog 13 #[.int .i64 1, .int .i64 2] w fun e w' => e = .returned (.int .i64 1) ∧ w' = w := by
  refine (numberTo_any 1 2 w (by decide) (by decide) (by decide) (by decide)).mono ?_
  rintro e w' ⟨rfl, rfl⟩
  exact ⟨rfl, rfl⟩
end Go.Proofs.Ytojekkmdbkmpkaa
