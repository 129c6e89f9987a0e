/- With any stops, at any floor, in any direction: what is done is what the chapter says. -/
import Derived.Test.YtkdfnnikgliglaaDoorPlFirst
import Derived.Test.YtkdfnnikgliglaaDoorPlRef
namespace Go.Proofs.YtkdfnnikgliglaaDoor
open Go.RowKit

set_option maxHeartbeats 1000000 in
set_option maxRecDepth 100000 in
theorem says_true (s : Sp) (f e : Int) (h : s.ok) (w : World) (hT : Tz w) :
    Calls Tryd.prog 5 #[s.v, .int .i64 f, .int .i64 e] w fun x w' => x = .returned (.bool true) ∧ Fr w w' [] := by
  have HT := Lib.hid hT
  obtain ⟨⟨xs, xd, xm⟩, hx⟩ : ∃ x, x = s.deed f e := ⟨_, rfl⟩
  have DE := Lib.hid (fun W hT => deed_any s f e W h hT ⟨xs, xd, xm⟩ hx)
  have RE := Lib.hid (fun W => rdeed_any s f e W h ⟨xs, xd, xm⟩ hx)
  obtain ⟨p, u, d⟩ := s
  have HS := Lib.hid (SS.new w 24 p u d)
  have T1 := Lib.hid (HT.out.fr HS.out.1)
  clear h hT hx
  dsimp only [Sp.v, De.v] at *
  go_enter Tryd.func5, Tryd.ntmps5
  go_wp2_with fail
  with_reducible refine (first_any _ T1.out).mono ?_
  rintro x w1 ⟨rfl, hf⟩
  have HS1 := Lib.hid (HS.out.fr hf)
  clear hf HS T1
  have T1 := Lib.hid (HT.out.fr HS1.out.1)
  obtain ⟨_, c0, c1, c2⟩ := HS1.out
  go_wp2_with fail
  with_reducible refine (DE.out _ T1.out).mono ?_
  rintro x w2 ⟨rfl, hf⟩
  have fa := Fr.alloc w2 (.cells #[.bool xs, .int .i64 xd, .int .i64 xm] 31) []
  have HS2 := Lib.hid ((HS1.out.fr hf).fr fa)
  have HX := Lib.hid (heap_alloc_new w2 (.cells #[.bool xs, .int .i64 xd, .int .i64 xm] 31))
  clear hf fa c0 c1 c2 HS1 T1
  obtain ⟨_, c0, c1, c2⟩ := HS2.out
  go_wp2_with fail
  with_reducible refine (RE.out _).mono ?_
  rintro x w3 ⟨rfl, hf⟩
  have fa := Fr.alloc w3 (.cells #[.bool xs, .int .i64 xd, .int .i64 xm] 33) []
  have HS3 := Lib.hid ((HS2.out.fr hf).fr fa)
  obtain ⟨x0, x1, x2⟩ := arow ((hf.trans fa).heap HX.out (by simp))
  obtain ⟨y0, y1, y2⟩ := arow (heap_alloc_new w3 (.cells #[.bool xs, .int .i64 xd, .int .i64 xm] 33))
  have ks : (xs == xs) = true := by simp
  clear hf fa c0 c1 c2 HS2 HX
  go_wp2
  go_ret
  exact ⟨rfl, HS3.out.1⟩
theorem plsays_walk (s : Sp) (h : s.ok) (f e : Int) (W : World) (hT : Tz W) : Calls Tryd.prog 5 #[s.v, .int .i64 f, .int .i64 e] W fun x w' => x = .returned (.bool true) ∧ W.grownBy w' none :=
  (says_true s f e h W hT).mono fun _ _ ⟨he, hf⟩ => ⟨he, hf.grown (by simp)⟩
end Go.Proofs.YtkdfnnikgliglaaDoor
