/- At a floor that is none, in a direction that is none, nothing is done. -/
import Derived.Test.YtkdfnnikgliglaaDoorPlFirst
namespace Go.Proofs.YtkdfnnikgliglaaDoor
open Go.RowKit

set_option maxHeartbeats 1000000 in
set_option maxRecDepth 100000 in
theorem none_true (s : Sp) (f e : Int) (h : s.ok) (w : World) (hT : Tz w) :
    Calls Tryd.prog 4 #[s.v, .int .i64 f, .int .i64 e] w fun x w' => x = .returned (.bool true) ∧ Fr w w' [] := by
  have HT := Lib.hid hT
  have DE := Lib.hid (fun W hT (ho : ¬ (0 ≤ f ∧ f < 64 ∧ -1 ≤ e ∧ e ≤ 1)) => deed_any s f e W h hT zDe (deed_out ho).symm)
  obtain ⟨p, u, d⟩ := s
  have HS := Lib.hid (SS.new w 24 p u d)
  have T1 := Lib.hid (HT.out.fr HS.out.1)
  clear h hT
  dsimp only [Sp.v, De.v, zDe] at *
  go_enter Tryd.func4, Tryd.ntmps4
  go_wp2_with fail
  with_reducible refine (first_any _ T1.out).mono ?_
  rintro e w1 ⟨rfl, hf⟩
  have HS1 := Lib.hid (HS.out.fr hf)
  clear hf HS T1
  have T1 := Lib.hid (HT.out.fr HS1.out.1)
  obtain ⟨_, c0, c1, c2⟩ := HS1.out
  by_cases g1 : f < 0
  · have DE := Lib.hid (fun W hT => DE.out W hT (fun k => by omega))
    go_wp2_with fail
    with_reducible refine (DE.out _ T1.out).mono ?_
    rintro e w2 ⟨rfl, hf⟩
    have B2 := Lib.hid (BD.new (HS1.out.1.trans hf) ⟨false, 0, 0⟩)
    dsimp only [De.box] at B2
    clear hf c0 c1 c2
    obtain ⟨c0, c1, c2⟩ := B2.out.cells
    dsimp only at c0 c1 c2
    go_wp2
    go_ret
    exact ⟨rfl, B2.out.1⟩
  · have g1' : 0 ≤ f := by omega
    clear g1
    by_cases g2 : 64 ≤ f
    · have DE := Lib.hid (fun W hT => DE.out W hT (fun k => by omega))
      go_wp2_with fail
      with_reducible refine (DE.out _ T1.out).mono ?_
      rintro e w2 ⟨rfl, hf⟩
      have B2 := Lib.hid (BD.new (HS1.out.1.trans hf) ⟨false, 0, 0⟩)
      dsimp only [De.box] at B2
      clear hf c0 c1 c2
      obtain ⟨c0, c1, c2⟩ := B2.out.cells
      dsimp only at c0 c1 c2
      go_wp2
      go_ret
      exact ⟨rfl, B2.out.1⟩
    · have g2' : f < 64 := by omega
      clear g2
      by_cases g3 : e < -1
      · have DE := Lib.hid (fun W hT => DE.out W hT (fun k => by omega))
        go_wp2_with fail
        with_reducible refine (DE.out _ T1.out).mono ?_
        rintro e w2 ⟨rfl, hf⟩
        have B2 := Lib.hid (BD.new (HS1.out.1.trans hf) ⟨false, 0, 0⟩)
        dsimp only [De.box] at B2
        clear hf c0 c1 c2
        obtain ⟨c0, c1, c2⟩ := B2.out.cells
        dsimp only at c0 c1 c2
        go_wp2
        go_ret
        exact ⟨rfl, B2.out.1⟩
      · have g3' : -1 ≤ e := by omega
        clear g3
        by_cases g4 : 1 < e
        · have DE := Lib.hid (fun W hT => DE.out W hT (fun k => by omega))
          go_wp2_with fail
          with_reducible refine (DE.out _ T1.out).mono ?_
          rintro e w2 ⟨rfl, hf⟩
          have B2 := Lib.hid (BD.new (HS1.out.1.trans hf) ⟨false, 0, 0⟩)
          dsimp only [De.box] at B2
          clear hf c0 c1 c2
          obtain ⟨c0, c1, c2⟩ := B2.out.cells
          dsimp only at c0 c1 c2
          go_wp2
          go_ret
          exact ⟨rfl, B2.out.1⟩
        · have g4' : e ≤ 1 := by omega
          clear g4 DE
          go_wp2
          go_ret
          exact ⟨rfl, HS1.out.1⟩
theorem plnone_walk (s : Sp) (h : s.ok) (f e : Int) (W : World) (hT : Tz W) : Calls Tryd.prog 4 #[s.v, .int .i64 f, .int .i64 e] W fun x w' => x = .returned (.bool true) ∧ W.grownBy w' none :=
  (none_true s f e h W hT).mono fun _ _ ⟨he, hf⟩ => ⟨he, hf.grown (by simp)⟩
end Go.Proofs.YtkdfnnikgliglaaDoor
