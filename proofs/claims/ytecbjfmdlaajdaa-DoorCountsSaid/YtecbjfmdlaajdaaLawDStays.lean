/- A door closes just behind as many ticks as it stays open; held it is stuck behind three times as many, and one. -/
import Derived.Test.YtecbjfmdlaajdaaLawDOpens
namespace Go.Proofs.Ytecbjfmdlaajdaa
open Go.RowKit

theorem tick_more {l : Int} (hl : 1 < l) (h : Int) (o : Bool) : l - 1 = tickL l o ∧ h = tickH l h o ∧ false = tickB l o := by
  have h0 : ¬ l ≤ 0 := by omega
  refine ⟨?_, ?_, ?_⟩ <;> simp [tickL, tickH, tickB, h0, hl]

/-- A row, some calls later. -/
theorem up7 {a b : World} {k : Nat} {o : Obj} (h : a.heap[k]? = some o) (hf : Fr a b []) : b.heap[k]? = some o := hf.heap h (by simp)

set_option maxHeartbeats 4000000 in
set_option maxRecDepth 100000 in
theorem stays_true (n k : Int) (w : World) (hn0 : -9223372036854775808 ≤ n) (hn1 : n ≤ 9223372036854775807) (hk0 : -9223372036854775808 ≤ k) (hk1 : k ≤ 9223372036854775807) :
    Calls Try.prog 5 #[.int .i64 n, .int .i64 k] w fun e w' => e = .returned (.bool true) ∧ Fr w w' [] := by
  have NU := Lib.hid (fun W => numberTo_any n 8 W (by omega) (by omega) hn0 hn1)
  have NV := Lib.hid (fun W => numberTo_any k 40 W (by omega) (by omega) hk0 hk1)
  have P0 := Int.emod_nonneg n (show (8 : Int) ≠ 0 by omega)
  have P1 := Int.emod_lt_of_pos n (show (0 : Int) < 8 by omega)
  have Q0 := Int.emod_nonneg k (show (40 : Int) ≠ 0 by omega)
  have Q1 := Int.emod_lt_of_pos k (show (0 : Int) < 40 by omega)
  obtain ⟨D0, hD0⟩ : ∃ D, D = n % 8 := ⟨_, rfl⟩
  obtain ⟨N, hN⟩ : ∃ N : Nat, k % 40 = (N : Int) := ⟨(k % 40).toNat, by omega⟩
  rw [← hD0] at NU P0 P1
  rw [hN] at NV Q0 Q1
  have hN40 : N < 40 := by omega
  clear hD0 hN hn0 hn1 hk0 hk1 Q0 Q1
  obtain ⟨D, hD⟩ : ∃ D, D0 + 1 = D := ⟨_, rfl⟩
  have hW : IntKind.i64.wrap (D0 + 1) = D := by rw [IntWalk.i64_in _ (by omega)]; exact hD
  have hD1 : 1 ≤ D := by omega
  have hD8 : D ≤ 8 := by omega
  have O := Lib.hid (fun W => open_any D W D (by omega))
  have T := Lib.hid (fun (l : Int) (o : Bool) (hl : 1 < l) (hl8 : l ≤ 8) W => tick_any l 0 o W (l - 1) 0 false (tick_more hl 0 o).1 (tick_more hl 0 o).2.1 (tick_more hl 0 o).2.2 (by decide) (by decide) (by omega))
  have TT := Lib.hid (fun (h y : Int) (hy : h + 1 = y) (h0 : 0 ≤ h) (h1 : h ≤ 100) W => tick_any 1 h true W 1 y false rfl (by rw [← hy]; rfl) rfl (by omega) (by omega) (by decide))
  have TF := Lib.hid (fun (h : Int) (h0 : 0 ≤ h) (h1 : h ≤ 100) W => tick_any 1 h false W 0 0 true rfl rfl rfl (by omega) (by omega) (by decide))
  have TZ := Lib.hid (fun W => tick_any 0 0 false W 0 0 false rfl rfl rfl (by decide) (by decide) (by decide))
  have IZ := Lib.hid (fun (l h : Int) (b : Bool) (hb : b = decide (0 < l)) W => is_any l h W b hb)
  have SK := Lib.hid (fun (j : Int) (hj0 : 0 ≤ j) (hj1 : j ≤ 100) (b : Bool) (hb : b = decide (3 * D < j)) W => stuck_any 1 j D W b (by rw [hb]; simp) (by omega) (by omega))
  have I0 := Lib.hid (fun W => IZ.out 0 0 false (by decide) W)
  dsimp only [dv] at *
  go_enter Try.func5, Try.ntmps5
  go_wp2_with fail
  with_reducible refine (first_any _).mono ?_
  rintro e w1 ⟨rfl, hf⟩
  have F1 := Lib.hid hf
  clear hf
  go_wp2_with fail
  with_reducible refine (NU.out _).mono ?_
  rintro e w2 ⟨rfl, rfl⟩
  go_wp2_with fail
  with_reducible refine (NV.out _).mono ?_
  rintro e w2 ⟨rfl, rfl⟩
  clear NU NV P0 P1 
  go_wp2_with fail
  with_reducible refine (O.out _).mono ?_
  rintro e w2 ⟨rfl, hf⟩
  have B2 := Lib.hid (Bx.new (F1.out.trans hf) D 0)
  dsimp only [dbox] at B2
  clear hf hD hW O
  go_wp2
  go_loopw [7] (fun s7 wx => ∃ i : Nat, 1 ≤ i ∧ (i : Int) ≤ D ∧ s7 = .int .i64 i ∧ ∃ l : Int, Hid (l = D - i + 1) ∧ Hid (Bx w w2.heap.size l 0 wx)) (fun i _ => D.toNat - (intOf i).toNat)
  case atStart => exact ⟨1, by omega, by simpa using hD1, rfl, D, Lib.hid (by simp), B2⟩
  case round =>
    obtain ⟨i, hi1, hi, rfl, l, HL, HB⟩ := hrel
    by_cases hlt : (i : Int) < D
    · obtain ⟨c0, c1⟩ := HB.out.cells
      have T' := Lib.hid (fun o W => T.out l o (by have := HL.out; omega) (by have := HL.out; omega) W)
      obtain ⟨x, hx⟩ : ∃ x, x = l - 1 := ⟨_, rfl⟩
      rw [← hx] at T'
      have HX := Lib.hid hx
      have IX := Lib.hid (fun W => IZ.out x 0 true (decide_eq_true (by have := HL.out; omega)).symm W)
      clear hx
      go_wp2_with fail
      with_reducible refine (T'.out _ _).mono ?_
      rintro e w6 ⟨rfl, hf⟩
      have fa := hf.trans (Fr.alloc w6 (dbox 25 x 0) [])
      have B6 := Lib.hid (HB.out.fr fa)
      have N6 := Lib.hid (heap_alloc_new w6 (dbox 25 x 0))
      dsimp only [dbox] at B6 N6
      obtain ⟨d0, d1⟩ := drow N6.out
      clear hf fa c0 c1
      go_wp2_with fail
      with_reducible refine (IX.out _).mono ?_
      rintro e w7 ⟨rfl, hf⟩
      have B7 := Lib.hid (B6.out.fr hf)
      clear d0 d1
      obtain ⟨d0, d1⟩ := drow (up7 N6.out hf)
      obtain ⟨z0, z1⟩ := B7.out.fz
      obtain ⟨y0, y1⟩ := B7.out.cells
      clear hf
      go_wp2
      have B8 := Lib.hid (B7.out.set x 0)
      go_roundw
      case rel => exact ⟨i + 1, by omega, by omega, by go_num, x, Lib.hid (by have := HL.out; have := HX.out; omega), B8⟩
      case measure => simp [intOf]; omega
    · have hl1 : l = 1 := by have := HL.out; omega
      clear HL
      subst hl1
      clear T B2
      go_wp2
      go_loopw [10] (fun s10 wx => ∃ j : Nat, 1 ≤ j ∧ j ≤ N + 1 ∧ s10 = .int .i64 j ∧ ∃ h : Int, Hid (h + 1 = j) ∧ Hid (Bx w w2.heap.size 1 h wx)) (fun j _ => N + 1 - (intOf j).toNat)
      case atStart => exact ⟨1, by omega, by omega, rfl, 0, Lib.hid (by simp), HB⟩
      case round =>
        clear HB
        obtain ⟨j, hj1, hj, rfl, h, HH, HB⟩ := hrel
        by_cases hjN : j ≤ N
        · obtain ⟨c0, c1⟩ := HB.out.cells
          have T' := Lib.hid (fun W => TT.out h j HH.out (by have := HH.out; omega) (by have := HH.out; omega) W)
          have IX := Lib.hid (fun W => IZ.out 1 j true (by simp) W)
          have w3 : IntKind.i64.wrap (3 * D) = 3 * D := IntWalk.i64_in _ (by omega)
          by_cases ha : 3 * D < (j : Int)
          · have S' := Lib.hid (fun W => SK.out j (by omega) (by omega) true (decide_eq_true ha).symm W)
            go_wp2_with fail
            with_reducible refine (T'.out _).mono ?_
            rintro e w6 ⟨rfl, hf⟩
            have fa := hf.trans (Fr.alloc w6 (dbox 25 1 j) [])
            have B6 := Lib.hid (HB.out.fr fa)
            have N6 := Lib.hid (heap_alloc_new w6 (dbox 25 1 j))
            dsimp only [dbox] at B6 N6
            obtain ⟨d0, d1⟩ := drow N6.out
            clear hf fa c0 c1
            go_wp2_with fail
            with_reducible refine (IX.out _).mono ?_
            rintro e w7 ⟨rfl, hf⟩
            have B7 := Lib.hid (B6.out.fr hf)
            have N7 := Lib.hid (up7 N6.out hf)
            clear d0 d1 hf
            obtain ⟨d0, d1⟩ := drow N7.out
            go_wp2_with fail
            with_reducible refine (S'.out _).mono ?_
            rintro e w8 ⟨rfl, hf⟩
            have B8 := Lib.hid (B7.out.fr hf)
            clear d0 d1
            obtain ⟨d0, d1⟩ := drow (up7 N7.out hf)
            obtain ⟨z0, z1⟩ := B8.out.fz
            obtain ⟨y0, y1⟩ := B8.out.cells
            clear hf
            go_wp2
            have B9 := Lib.hid (B8.out.set 1 j)
            go_roundw
            case rel => exact ⟨j + 1, by omega, by omega, by go_num, j, Lib.hid (by simp), B9⟩
            case measure => simp [intOf]; omega
          · have S' := Lib.hid (fun W => SK.out j (by omega) (by omega) false (decide_eq_false ha).symm W)
            go_wp2_with fail
            with_reducible refine (T'.out _).mono ?_
            rintro e w6 ⟨rfl, hf⟩
            have fa := hf.trans (Fr.alloc w6 (dbox 25 1 j) [])
            have B6 := Lib.hid (HB.out.fr fa)
            have N6 := Lib.hid (heap_alloc_new w6 (dbox 25 1 j))
            dsimp only [dbox] at B6 N6
            obtain ⟨d0, d1⟩ := drow N6.out
            clear hf fa c0 c1
            go_wp2_with fail
            with_reducible refine (IX.out _).mono ?_
            rintro e w7 ⟨rfl, hf⟩
            have B7 := Lib.hid (B6.out.fr hf)
            have N7 := Lib.hid (up7 N6.out hf)
            clear d0 d1 hf
            obtain ⟨d0, d1⟩ := drow N7.out
            go_wp2_with fail
            with_reducible refine (S'.out _).mono ?_
            rintro e w8 ⟨rfl, hf⟩
            have B8 := Lib.hid (B7.out.fr hf)
            clear d0 d1
            obtain ⟨d0, d1⟩ := drow (up7 N7.out hf)
            obtain ⟨z0, z1⟩ := B8.out.fz
            obtain ⟨y0, y1⟩ := B8.out.cells
            clear hf
            go_wp2
            have B9 := Lib.hid (B8.out.set 1 j)
            go_roundw
            case rel => exact ⟨j + 1, by omega, by omega, by go_num, j, Lib.hid (by simp), B9⟩
            case measure => simp [intOf]; omega
        · have TL := Lib.hid (fun W => TF.out h (by have := HH.out; omega) (by have := HH.out; omega) W)
          obtain ⟨c0, c1⟩ := HB.out.cells
          go_wp2_with fail
          with_reducible refine (TL.out _).mono ?_
          rintro e w6 ⟨rfl, hf⟩
          have F6 := Lib.hid ((HB.out.1.trans hf).trans (Fr.alloc w6 (dbox 25 0 0) []))
          have N6 := Lib.hid (heap_alloc_new w6 (dbox 25 0 0))
          dsimp only [dbox] at F6 N6
          obtain ⟨d0, d1⟩ := drow N6.out
          clear hf c0 c1
          go_wp2_with fail
          with_reducible refine (TZ.out _).mono ?_
          rintro e w7 ⟨rfl, hf⟩
          have fa := hf.trans (Fr.alloc w7 (dbox 25 0 0) [])
          have F7 := Lib.hid (F6.out.trans fa)
          have N7 := Lib.hid (up7 N6.out fa)
          dsimp only [dbox] at F7 N7
          clear hf fa d0 d1
          obtain ⟨d0, d1⟩ := drow N7.out
          go_wp2_with fail
          with_reducible refine (I0.out _).mono ?_
          rintro e w8 ⟨rfl, hf⟩
          have F8 := Lib.hid (F7.out.trans hf)
          clear d0 d1
          obtain ⟨d0, d1⟩ := drow (up7 N7.out hf)
          clear hf
          go_wp2
          go_ret
          exact ⟨rfl, F8.out⟩
theorem dstays_walk (n k : Int) (w : World) (hn0 : -9223372036854775808 ≤ n) (hn1 : n ≤ 9223372036854775807) (hk0 : -9223372036854775808 ≤ k) (hk1 : k ≤ 9223372036854775807) : Calls Try.prog 5 #[.int .i64 n, .int .i64 k] w fun e w' => e = .returned (.bool true) ∧ w.grownBy w' none :=
  (stays_true n k w hn0 hn1 hk0 hk1).mono fun _ _ ⟨he, hf⟩ => ⟨he, hf.grown (by simp)⟩
end Go.Proofs.Ytecbjfmdlaajdaa
