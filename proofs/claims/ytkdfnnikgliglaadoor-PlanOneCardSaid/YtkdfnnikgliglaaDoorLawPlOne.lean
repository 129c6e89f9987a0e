/- With one call alone a car goes there the nearest way, and stops with its lantern that way. -/
import Derived.Test.YtkdfnnikgliglaaDoorPlFirst
import Derived.Test.YtkdfnnikgliglaaDoorPlOne
import Derived.Test.YtkdfnnikgliglaaDoorNum
namespace Go.Proofs.YtkdfnnikgliglaaDoor
open Go.RowKit

set_option maxHeartbeats 2000000 in
set_option maxRecDepth 100000 in
theorem one_true (k1 k2 k3 k4 : Int) (a10 : -9223372036854775808 ≤ k1) (a11 : k1 ≤ 9223372036854775807) (a20 : -9223372036854775808 ≤ k2) (a21 : k2 ≤ 9223372036854775807)
    (a30 : -9223372036854775808 ≤ k3) (a31 : k3 ≤ 9223372036854775807) (a40 : -9223372036854775808 ≤ k4) (a41 : k4 ≤ 9223372036854775807) (w : World) (hT : Tz w) :
    Calls Tryd.prog 8 #[.int .i64 k1, .int .i64 k2, .int .i64 k3, .int .i64 k4] w fun x w' => x = .returned (.bool true) ∧ Fr w w' [] := by
  have N1 := Lib.hid (fun W => numberTo_any k1 64 W (by omega) (by omega) a10 a11)
  have N2 := Lib.hid (fun W => numberTo_any k2 64 W (by omega) (by omega) a20 a21)
  have N3 := Lib.hid (fun W => numberTo_any k3 3 W (by omega) (by omega) a30 a31)
  have N4 := Lib.hid (fun W => numberTo_any k4 2 W (by omega) (by omega) a40 a41)
  have P10 := Int.emod_nonneg k1 (show (64 : Int) ≠ 0 by omega)
  have P11 := Int.emod_lt_of_pos k1 (show (0 : Int) < 64 by omega)
  have P20 := Int.emod_nonneg k2 (show (64 : Int) ≠ 0 by omega)
  have P21 := Int.emod_lt_of_pos k2 (show (0 : Int) < 64 by omega)
  have P30 := Int.emod_nonneg k3 (show (3 : Int) ≠ 0 by omega)
  have P31 := Int.emod_lt_of_pos k3 (show (0 : Int) < 3 by omega)
  have P40 := Int.emod_nonneg k4 (show (2 : Int) ≠ 0 by omega)
  have P41 := Int.emod_lt_of_pos k4 (show (0 : Int) < 2 by omega)
  obtain ⟨f, hf⟩ : ∃ f, k1 % 64 = f := ⟨_, rfl⟩
  obtain ⟨t, ht⟩ : ∃ t, k2 % 64 = t := ⟨_, rfl⟩
  obtain ⟨r, hr⟩ : ∃ r, k3 % 3 = r := ⟨_, rfl⟩
  obtain ⟨q, hq⟩ : ∃ q, k4 % 2 = q := ⟨_, rfl⟩
  rw [hf] at N1 P10 P11
  rw [ht] at N2 P20 P21
  rw [hr] at N3 P30 P31
  rw [hq] at N4 P40 P41
  clear hf ht hr hq a10 a11 a20 a21 a30 a31 a40 a41
  have hw1 : IntKind.i64.wrap (2 * q) = 2 * q := IntWalk.i64_in _ (by omega)
  have hw2 : IntKind.i64.wrap (2 * q - 1) = 2 * q - 1 := IntWalk.i64_in _ (by omega)
  have hw3 : IntKind.i64.wrap (r - 1) = r - 1 := IntWalk.i64_in _ (by omega)
  obtain ⟨s, hs⟩ : ∃ s, s = oneS t (2 * q - 1) := ⟨_, rfl⟩
  have PU := Lib.hid (fun W => put_any ⟨0, 0, 0⟩ t (2 * q - 1) W zero_ok s hs)
  have ok : s.ok := by rw [hs]; exact oneS_ok _ _
  obtain ⟨x, hx⟩ : ∃ x, x = s.deed f (r - 1) := ⟨_, rfl⟩
  have DE := Lib.hid (fun W hT => deed_any s f (r - 1) W ok hT x hx)
  have HX : Hid (x = if f = t then ⟨true, 2 * q - 1, 0⟩ else if t < f then ⟨false, -1, -1⟩ else ⟨false, 1, 1⟩) := by
    show _ = _
    rw [hx, hs]
    exact one_deed P20 P21 (by omega) P10 P11 (by omega)
  have HT := Lib.hid hT
  obtain ⟨p, u, d⟩ := s
  clear hx hs ok hT P10 P11 P20 P21 P30 P31 P40 P41
  dsimp only [Sp.v, De.v] at *
  simp only [show ((0 : Nat) : Int) = 0 from rfl] at PU
  go_enter Tryd.func8, Tryd.ntmps8
  go_wp2_with fail
  with_reducible refine (first_any _ HT.out).mono ?_
  rintro e w1 ⟨rfl, hf⟩
  have F1 := Lib.hid hf
  clear hf
  go_wp2_with fail
  with_reducible refine (N1.out _).mono ?_
  rintro e w2 ⟨rfl, rfl⟩
  go_wp2_with fail
  with_reducible refine (N2.out _).mono ?_
  rintro e w2 ⟨rfl, rfl⟩
  go_wp2_with fail
  with_reducible refine (N4.out _).mono ?_
  rintro e w2 ⟨rfl, rfl⟩
  go_wp2_with fail
  with_reducible refine (N3.out _).mono ?_
  rintro e w2 ⟨rfl, rfl⟩
  go_wp2_with fail
  with_reducible refine (PU.out _).mono ?_
  rintro e w2 ⟨rfl, hf⟩
  have F2 := Lib.hid (F1.out.trans hf)
  clear hf F1
  have S2 := Lib.hid (SS.new w2 24 p u d)
  have F3 := Lib.hid (F2.out.trans S2.out.1)
  have T3 := Lib.hid (HT.out.fr F3.out)
  obtain ⟨_, c0, c1, c2⟩ := S2.out
  go_wp2_with fail
  with_reducible refine (DE.out _ T3.out).mono ?_
  rintro e w4 ⟨rfl, hf⟩
  have B4 := Lib.hid (BD.new (F3.out.trans hf) x)
  clear hf c0 c1 c2 F2 F3 T3 S2
  by_cases h1 : f = t
  · obtain rfl : x = ⟨true, 2 * q - 1, 0⟩ := by rw [HX.out, if_pos h1]
    obtain ⟨c0, c1, c2⟩ := B4.out.cells
    have e1 : (f == t) = true := by simp [h1]
    dsimp only at *
    clear HX h1
    go_wp2
    go_ret
    exact ⟨rfl, B4.out.1⟩
  · have e1 : (f == t) = false := by simp [h1]
    by_cases h2 : t < f
    · obtain rfl : x = ⟨false, -1, -1⟩ := by rw [HX.out, if_neg h1, if_pos h2]
      obtain ⟨c0, c1, c2⟩ := B4.out.cells
      dsimp only at *
      clear HX h1
      go_wp2
      go_ret
      exact ⟨rfl, B4.out.1⟩
    · obtain rfl : x = ⟨false, 1, 1⟩ := by rw [HX.out, if_neg h1, if_neg h2]
      obtain ⟨c0, c1, c2⟩ := B4.out.cells
      have e2 : decide (t < f) = false := decide_eq_false h2
      dsimp only at *
      clear HX h1
      go_wp2
      go_ret
      exact ⟨rfl, B4.out.1⟩
theorem plone_walk (k1 k2 k3 k4 : Int) (a10 : -9223372036854775808 ≤ k1) (a11 : k1 ≤ 9223372036854775807) (a20 : -9223372036854775808 ≤ k2) (a21 : k2 ≤ 9223372036854775807)
    (a30 : -9223372036854775808 ≤ k3) (a31 : k3 ≤ 9223372036854775807) (a40 : -9223372036854775808 ≤ k4) (a41 : k4 ≤ 9223372036854775807) (W : World) (hT : Tz W) :
    Calls Tryd.prog 8 #[.int .i64 k1, .int .i64 k2, .int .i64 k3, .int .i64 k4] W fun x w' => x = .returned (.bool true) ∧ W.grownBy w' none :=
  (one_true k1 k2 k3 k4 a10 a11 a20 a21 a30 a31 a40 a41 W hT).mono fun _ _ ⟨he, hf⟩ => ⟨he, hf.grown (by simp)⟩
end Go.Proofs.YtkdfnnikgliglaaDoor
