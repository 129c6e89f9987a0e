/- Package bid's calls: what each answers; the chapter's example. -/
import Derived.Test.YtfphihhcclfmnaaBPut
import Derived.Test.YtfphihhcclfmnaaBFull
import Derived.Test.YtfphihhcclfmnaaBSame
import Derived.Test.YtfphihhcclfmnaaNum
namespace Go.Proofs.Ytfphihhcclfmnaa
open Go.RowKit

theorem bput_any (v : Value) (l : List (Int × Int)) (b : Int × Int) (w : World) (h : HB w v l) (hl : l.length ≤ 1000) (r : Bool) (hr : r = (bidOf l b.1).isNone) :
    Calls Try.prog 11 #[v, bidV b] w fun x w' => ∃ u, x = .returned (.tuple #[u, .bool r]) ∧ HB w' u (putB l b) ∧ Fr w w' [] :=
  (bput_own v l b w h hl r hr).mono fun _ _ ⟨u, e, ho, hf⟩ => ⟨u, e, ho.holds, hf⟩
/-- What Of answers. -/
theorem bidOf_some (l : List (Int × Int)) (c : Int) : ∃ y, (bidOf l c = some y ∧ (bidOf l c).isSome = true) ∨ (bidOf l c = none ∧ y = (0, 0) ∧ (bidOf l c).isSome = false) := by
  cases h : bidOf l c with
  | none => exact ⟨(0, 0), .inr ⟨rfl, rfl, rfl⟩⟩
  | some y => exact ⟨y, .inl ⟨rfl, rfl⟩⟩
set_option maxHeartbeats 1000000 in
set_option maxRecDepth 100000 in
theorem bfirst_any (w : World) : Calls Try.prog 7 #[] w fun e w' => e = .returned (.bool true) ∧ Fr w w' [] := by
  have H1 := Lib.hid (hb_of_cells (n := 2) (w := w.alloc (.cells #[.int .i64 2, .int .i64 5, .int .i64 1, .int .i64 5] 24)) (l := [(2, 5), (1, 5)]) rfl (by decide) (heap_alloc_new w _))
  have LE := Lib.hid (bleast_some _ [(2, 5), (1, 5)] (1, 5) _ H1.out (by decide) ⟨by simp, by decide⟩)
  have FA := Lib.hid (Fr.alloc w (.cells #[.int .i64 2, .int .i64 5, .int .i64 1, .int .i64 5] 24) [])
  clear H1
  dsimp only [bidV, bidBox] at *
  go_enter Try.func7, Try.ntmps7
  go_wp2_with fail
  with_reducible refine (LE.out).mono ?_
  rintro v w2 ⟨rfl, hf⟩
  have F2 := Lib.hid ((FA.out.trans hf).trans (Fr.alloc w2 (.cells #[.int .i64 1, .int .i64 5] 24) []))
  obtain ⟨x0, x1⟩ := brow (heap_alloc_new w2 (.cells #[.int .i64 1, .int .i64 5] 24))
  clear hf LE FA
  go_wp2
  go_ret
  exact ⟨rfl, F2.out⟩
end Go.Proofs.Ytfphihhcclfmnaa
