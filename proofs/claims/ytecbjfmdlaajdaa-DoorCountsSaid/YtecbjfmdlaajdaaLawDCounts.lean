/- How long a door was held counts only while it would close; closing sets it back. -/
import Derived.Test.YtecbjfmdlaajdaaLawDStays
namespace Go.Proofs.Ytecbjfmdlaajdaa
open Go.RowKit

set_option maxHeartbeats 4000000 in
set_option maxRecDepth 100000 in
theorem counts_true (n k m : Int) (w : World) (hn0 : -9223372036854775808 ≤ n) (hn1 : n ≤ 9223372036854775807) (hk0 : -9223372036854775808 ≤ k) (hk1 : k ≤ 9223372036854775807) (hm0 : -9223372036854775808 ≤ m) (hm1 : m ≤ 9223372036854775807) :
    Calls Try.prog 3 #[.int .i64 n, .int .i64 k, .int .i64 m] w fun e w' => e = .returned (.bool true) ∧ Fr w w' [] := by
  have NU := Lib.hid (fun W => numberTo_any n 8 W (by omega) (by omega) hn0 hn1)
  have NV := Lib.hid (fun W => numberTo_any k 20 W (by omega) (by omega) hk0 hk1)
  have NW := Lib.hid (fun W => numberTo_any m 20 W (by omega) (by omega) hm0 hm1)
  have P0 := Int.emod_nonneg n (show (8 : Int) ≠ 0 by omega)
  have P1 := Int.emod_lt_of_pos n (show (0 : Int) < 8 by omega)
  have Q0 := Int.emod_nonneg k (show (20 : Int) ≠ 0 by omega)
  have Q1 := Int.emod_lt_of_pos k (show (0 : Int) < 20 by omega)
  have R0 := Int.emod_nonneg m (show (20 : Int) ≠ 0 by omega)
  have R1 := Int.emod_lt_of_pos m (show (0 : Int) < 20 by omega)
  obtain ⟨D0, hD0⟩ : ∃ D, D = n % 8 := ⟨_, rfl⟩
  obtain ⟨a, ha⟩ : ∃ a, a = k % 20 := ⟨_, rfl⟩
  obtain ⟨b, hb⟩ : ∃ b, b = m % 20 := ⟨_, rfl⟩
  rw [← hD0] at NU P0 P1
  rw [← ha] at NV Q0 Q1
  rw [← hb] at NW R0 R1
  obtain ⟨N, hN⟩ : ∃ N : Nat, a + b = (N : Int) := ⟨(a + b).toNat, by omega⟩
  have hN40 : N < 40 := by omega
  have hNW : IntKind.i64.wrap (a + b) = (N : Int) := by rw [IntWalk.i64_in _ (by omega)]; exact hN
  clear hD0 ha hb hn0 hn1 hk0 hk1 hm0 hm1 Q0 Q1 R0 R1
  obtain ⟨D, hD⟩ : ∃ D, D0 + 1 = D := ⟨_, rfl⟩
  have hW : IntKind.i64.wrap (D0 + 1) = D := by rw [IntWalk.i64_in _ (by omega)]; exact hD
  have hD1 : 1 ≤ D := by omega
  have hD8 : D ≤ 8 := by omega
  have O := Lib.hid (fun W => open_any D W D (by omega))
  have T := Lib.hid (fun (l : Int) (hl : 1 < l) (hl8 : l ≤ 8) W => tick_any l 0 true W (l - 1) 0 false (tick_more hl 0 true).1 (tick_more hl 0 true).2.1 (tick_more hl 0 true).2.2 (by decide) (by decide) (by omega))
  have TT := Lib.hid (fun (h y : Int) (hy : h + 1 = y) (h0 : 0 ≤ h) (h1 : h ≤ 100) W => tick_any 1 h true W 1 y false rfl (by rw [← hy]; rfl) rfl (by omega) (by omega) (by decide))
  have TF := Lib.hid (fun (h : Int) (h0 : 0 ≤ h) (h1 : h ≤ 100) W => tick_any 1 h false W 0 0 true rfl rfl rfl (by omega) (by omega) (by decide))
  have SK := Lib.hid (fun W => stuck_any 0 0 D W false (by simp) (by decide) (by decide))
  have hW1 : IntKind.i64.wrap (D - 1) = D - 1 := IntWalk.i64_in _ (by omega)
  dsimp only [dv] at *
  go_enter Try.func3, Try.ntmps3
  go_wp2_with fail
  with_reducible refine (first_any _).mono ?_
  rintro e w1 ⟨rfl, hf⟩
  have F1 := Lib.hid hf
  clear hf
  go_wp2_with fail
  with_reducible refine (NU.out _).mono ?_
  rintro e w2 ⟨rfl, rfl⟩
  go_wp2_with fail
  with_reducible refine (NV.out _).mono ?_
  rintro e w2 ⟨rfl, rfl⟩
  go_wp2_with fail
  with_reducible refine (NW.out _).mono ?_
  rintro e w2 ⟨rfl, rfl⟩
  clear NU NV NW P0 P1 
  go_wp2_with fail
  with_reducible refine (O.out _).mono ?_
  rintro e w2 ⟨rfl, hf⟩
  have B2 := Lib.hid (Bx.new (F1.out.trans hf) D 0)
  dsimp only [dbox] at B2
  clear hf hD hW O
  go_wp2
  go_loopw [9] (fun s9 wx => ∃ i : Nat, (i : Int) ≤ D - 1 ∧ s9 = .int .i64 i ∧ ∃ l : Int, Hid (l = D - i) ∧ Hid (Bx w w2.heap.size l 0 wx)) (fun i _ => D.toNat - (intOf i).toNat)
  case atStart => exact ⟨0, by simpa using by omega, rfl, D, Lib.hid (by simp), B2⟩
  case round =>
    obtain ⟨i, hi, rfl, l, HL, HB⟩ := hrel
    by_cases hlt : (i : Int) < D - 1
    · obtain ⟨c0, c1⟩ := HB.out.cells
      have T' := Lib.hid (fun W => T.out l (by have := HL.out; omega) (by have := HL.out; omega) W)
      obtain ⟨x, hx⟩ : ∃ x, x = l - 1 := ⟨_, rfl⟩
      rw [← hx] at T'
      have HX := Lib.hid hx
      clear hx
      go_wp2_with fail
      with_reducible refine (T'.out _).mono ?_
      rintro e w6 ⟨rfl, hf⟩
      have fa := hf.trans (Fr.alloc w6 (dbox 25 x 0) [])
      have B6 := Lib.hid (HB.out.fr fa)
      have N6 := Lib.hid (heap_alloc_new w6 (dbox 25 x 0))
      dsimp only [dbox] at B6 N6
      obtain ⟨d0, d1⟩ := drow N6.out
      obtain ⟨z0, z1⟩ := B6.out.fz
      obtain ⟨y0, y1⟩ := B6.out.cells
      clear hf fa c0 c1
      go_wp2
      have B8 := Lib.hid (B6.out.set x 0)
      go_roundw
      case rel => exact ⟨i + 1, by omega, by go_num, x, Lib.hid (by have := HL.out; have := HX.out; omega), B8⟩
      case measure => simp [intOf]; omega
    · have hl1 : l = 1 := by have := HL.out; omega
      clear HL
      subst hl1
      clear T B2
      obtain ⟨c0, c1⟩ := HB.out.cells
      go_wp2
      clear c0 c1
      go_loopw [12] (fun s12 wx => ∃ j : Nat, 1 ≤ j ∧ j ≤ N + 1 ∧ s12 = .int .i64 j ∧ ∃ h : Int, Hid (h + 1 = j) ∧ Hid (Bx w w2.heap.size 1 h wx)) (fun j _ => N + 1 - (intOf j).toNat)
      case atStart => exact ⟨1, by omega, by omega, rfl, 0, Lib.hid (by simp), HB⟩
      case round =>
        clear HB
        obtain ⟨j, hj1, hj, rfl, h, HH, HB⟩ := hrel
        by_cases hjN : j ≤ N
        · obtain ⟨c0, c1⟩ := HB.out.cells
          have T' := Lib.hid (fun W => TT.out h j HH.out (by have := HH.out; omega) (by have := HH.out; omega) W)
          have kj : ((j : Int) != (j : Int)) = false := by simp
          go_wp2_with fail
          with_reducible refine (T'.out _).mono ?_
          rintro e w6 ⟨rfl, hf⟩
          have fa := hf.trans (Fr.alloc w6 (dbox 25 1 j) [])
          have B6 := Lib.hid (HB.out.fr fa)
          have N6 := Lib.hid (heap_alloc_new w6 (dbox 25 1 j))
          dsimp only [dbox] at B6 N6
          obtain ⟨d0, d1⟩ := drow N6.out
          obtain ⟨z0, z1⟩ := B6.out.fz
          obtain ⟨y0, y1⟩ := B6.out.cells
          clear hf fa c0 c1
          go_wp2
          have B9 := Lib.hid (B6.out.set 1 j)
          go_roundw
          case rel => exact ⟨j + 1, by omega, by omega, by go_num, j, Lib.hid (by simp), B9⟩
          case measure => simp [intOf]; omega
        · have TL := Lib.hid (fun W => TF.out h (by have := HH.out; omega) (by have := HH.out; omega) W)
          obtain ⟨c0, c1⟩ := HB.out.cells
          go_wp2_with fail
          with_reducible refine (TL.out _).mono ?_
          rintro e w6 ⟨rfl, hf⟩
          have F6 := Lib.hid ((HB.out.1.trans hf).trans (Fr.alloc w6 (dbox 25 0 0) []))
          have N6 := Lib.hid (heap_alloc_new w6 (dbox 25 0 0))
          dsimp only [dbox] at F6 N6
          obtain ⟨d0, d1⟩ := drow N6.out
          clear hf c0 c1
          go_wp2_with fail
          with_reducible refine (SK.out _).mono ?_
          rintro e w7 ⟨rfl, hf⟩
          have F7 := Lib.hid (F6.out.trans hf)
          clear hf d0 d1
          go_wp2
          go_ret
          exact ⟨rfl, F7.out⟩
theorem dcounts_walk (n k m : Int) (w : World) (hn0 : -9223372036854775808 ≤ n) (hn1 : n ≤ 9223372036854775807) (hk0 : -9223372036854775808 ≤ k) (hk1 : k ≤ 9223372036854775807) (hm0 : -9223372036854775808 ≤ m) (hm1 : m ≤ 9223372036854775807) : Calls Try.prog 3 #[.int .i64 n, .int .i64 k, .int .i64 m] w fun e w' => e = .returned (.bool true) ∧ w.grownBy w' none :=
  (counts_true n k m w hn0 hn1 hk0 hk1 hm0 hm1).mono fun _ _ ⟨he, hf⟩ => ⟨he, hf.grown (by simp)⟩
end Go.Proofs.Ytecbjfmdlaajdaa
