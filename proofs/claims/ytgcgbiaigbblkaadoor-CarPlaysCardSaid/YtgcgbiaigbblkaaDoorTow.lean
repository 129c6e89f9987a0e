/- Does something lie that way? -/
import Derived.Test.YtgcgbiaigbblkaaDoorAhd2
namespace Go.Proofs.YtgcgbiaigbblkaaDoor
open Go.RowKit

/-- Does something lie that way? -/
theorem toward_any (s : Sp) (z e : Int) (w : World) (h : s.ok) (b : Bool) (h1 : e = 1 → (b = true ↔ ∃ y, z < y ∧ hasB s.all y = true)) (h2 : e = -1 → (b = true ↔ ∃ y, y < z ∧ hasB s.all y = true)) (h3 : e ≠ 1 → e ≠ -1 → b = false) :
    Calls Tryd.prog 52 #[s.v, .int .i64 z, .int .i64 e] w fun x w' => x = .returned (.bool b) ∧ Fr w w' [] := by
  have AB := Lib.hid (fun (hb : e = 1) W => aboveB_any s z W h b (h1 hb))
  have BE := Lib.hid (fun (hb : e = -1) W => belowB_any s z W h b (h2 hb))
  have H3 := Lib.hid h3
  obtain ⟨p, u, d⟩ := s
  have HS := Lib.hid (SS.new w 37 p u d)
  clear h1 h2 h3 h
  dsimp only [Sp.v] at *
  by_cases e1 : e = 1
  · have AX := Lib.hid (fun W => AB.out e1 W)
    subst e1
    clear AB BE H3
    obtain ⟨_, c0, c1, c2⟩ := HS.out
    go_enter Tryd.func52, Tryd.ntmps52
    go_wp2_with fail
    with_reducible refine (AX.out _).mono ?_
    rintro e w2 ⟨rfl, hf⟩
    have F2 := Lib.hid (HS.out.1.trans hf)
    clear hf c0 c1 c2
    go_wp2
    go_ret
    exact ⟨rfl, F2.out⟩
  · have k1 : (e == 1) = false := by simp [e1]
    by_cases e2 : e = -1
    · have AX := Lib.hid (fun W => BE.out e2 W)
      have k2 : (e == -1) = true := by simp [e2]
      clear AB BE H3 e1 e2
      obtain ⟨_, c0, c1, c2⟩ := HS.out
      go_enter Tryd.func52, Tryd.ntmps52
      go_wp2_with fail
      with_reducible refine (AX.out _).mono ?_
      rintro x w2 ⟨rfl, hf⟩
      have F2 := Lib.hid (HS.out.1.trans hf)
      clear hf c0 c1 c2
      go_wp2
      go_ret
      exact ⟨rfl, F2.out⟩
    · have HV := Lib.hid (H3.out e1 e2)
      have k2 : (e == -1) = false := by simp [e2]
      clear AB BE H3 e1 e2
      go_enter Tryd.func52, Tryd.ntmps52
      go_wp2
      go_ret
      exact ⟨by rw [HV.out]; rfl, HS.out.1⟩

end Go.Proofs.YtgcgbiaigbblkaaDoor
