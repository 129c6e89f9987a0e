/- From the one end of a house to the other. -/
import Derived.Test.YteojefipcbalhaaPMath
import Derived.Test.YteojefipcbalhaaPFirst
import Derived.Test.YteojefipcbalhaaNum
namespace Go.Proofs.Yteojefipcbalhaa
open Go.RowKit

theorem step_div {i s : Int} (hs : 1 ≤ s) (h0 : 0 ≤ i) : 1 + (i + 1) / s = if (i + 1) % s = 0 then 1 + i / s + 1 else 1 + i / s := by
  have a := Int.mul_ediv_add_emod i s
  have b := Int.mul_ediv_add_emod (i + 1) s
  have c := Int.emod_nonneg i (show s ≠ 0 by omega)
  have d := Int.emod_lt_of_pos i (show 0 < s by omega)
  have c' := Int.emod_nonneg (i + 1) (show s ≠ 0 by omega)
  have d' := Int.emod_lt_of_pos (i + 1) (show 0 < s by omega)
  have e : s * ((i + 1) / s - i / s) = 1 + i % s - (i + 1) % s := by rw [Int.mul_sub]; omega
  have k : (i + 1) / s - i / s = 0 ∨ (i + 1) / s - i / s = 1 := by
    have x : -1 < (i + 1) / s - i / s := by
      apply Int.lt_of_mul_lt_mul_left (a := s) _ (by omega)
      omega
    have y : (i + 1) / s - i / s < 2 := by
      apply Int.lt_of_mul_lt_mul_left (a := s) _ (by omega)
      omega
    omega
  rcases k with k | k
  · rw [k] at e
    split <;> omega
  · rw [k] at e
    split <;> omega
theorem mod_flip {t i s : Int} (ht : t % s = 0) : ((t - i) % s = 0) ↔ (i % s = 0) := by
  have ht := Int.dvd_of_emod_eq_zero ht
  constructor
  · intro h
    have h := Int.dvd_of_emod_eq_zero h
    have := Int.dvd_sub ht h
    rw [show t - (t - i) = i by omega] at this
    exact Int.emod_eq_zero_of_dvd this
  · intro h
    exact Int.emod_eq_zero_of_dvd (Int.dvd_sub ht (Int.dvd_of_emod_eq_zero h))

set_option maxHeartbeats 4000000 in
set_option maxRecDepth 100000 in
theorem runs_true (h : Ho) (up : Bool) (w : World) : Calls Try.prog 3 #[h.v, .bool up] w fun e w' => e = .returned (.bool true) ∧ Fr w w' [] := by
  have FA := Lib.hid (Fr.alloc w h.box [])
  have HB0 := Lib.hid (HB.new w h)
  by_cases hk : h.ok
  · have V := Lib.hid (fun W => valid_any h W true (decide_eq_true hk).symm)
    have T := Lib.hid (fun W => top_any h W h.top (by rw [Ho.topR, if_pos hk]))
    have ht := Ho.range hk
    have GO := Lib.hid (fun (P m : Int) (hP : 0 ≤ P ∧ P ≤ h.top) (b : Bool) (hb : b = decide (h.has (P + sgn m))) (r : Int) (hr : r = if b = true then P + sgn m else 0) W => go_any h P m (by omega) (by omega) W b hb r hr)
    have LE := Lib.hid (fun (p : Int) (bl : Bool) (hl : bl = decide (h.lev p)) W => level_any h p W bl hl)
    have HL := Lib.hid (fun (p : Int) (h0 : 0 ≤ p) (h1 : p ≤ h.top) => (show h.lev p ↔ p % h.s = 0 from ⟨fun q => q.2, fun q => ⟨⟨hk, h0, h1⟩, q⟩⟩))
    have HF1 := hk.2.1
    have HSr := hk.2.2.1
    have HH := Lib.hid (fun (q : Int) (h0 : 0 ≤ q) (h1 : q ≤ h.top) => (show h.has q from ⟨hk, h0, h1⟩))
    have HNO := Lib.hid (fun (q : Int) (hq : q < 0 ∨ h.top < q) => (show ¬ h.has q from fun k => by have := k.2; omega))
    have TM := Lib.hid (top_mod h)
    have TD := Lib.hid (top_div hk)
    have NU := Lib.hid (fun W => (numberTo_any 1 2 W (by omega) (by omega) (by omega) (by omega) : Calls Try.prog 12 #[.int .i64 1, .int .i64 2] W fun e w' => e = .returned (.int .i64 1) ∧ W = w'))
    obtain ⟨t, htt⟩ : ∃ t, t = h.top := ⟨_, rfl⟩
    have hft : (h.f - 1) * h.s = t := htt.symm
    rw [← htt] at T ht GO HL HH HNO TM TD
    clear htt hk
    obtain ⟨c, f, s, d⟩ := h
    dsimp only [Ho.v, Ho.box] at *
    cases up with
    | true =>
      go_enter Try.func3, Try.ntmps3
      go_wp2_with fail
      with_reducible refine (first_any _).mono ?_
      rintro e w1 ⟨rfl, hf⟩
      have HS1 := Lib.hid ((HS.of FA.out HB0.out).fr hf)
      clear hf
      obtain ⟨_, c0, c1, c2, c3⟩ := HS1.out
      try dsimp only at c0 c1 c2 c3
      go_wp2_with fail
      with_reducible refine (V.out _).mono ?_
      rintro e w2 ⟨rfl, hf⟩
      have HS2 := Lib.hid (HS1.out.fr hf)
      clear hf c0 c1 c2 c3
      obtain ⟨_, c0, c1, c2, c3⟩ := HS2.out
      try dsimp only at c0 c1 c2 c3
      go_wp2
      go_loopw [6, 8, 10] (fun s6 s8 s10 wx => ∃ i P L : Int, s10 = .int .i64 i ∧ s6 = .int .i64 P ∧ s8 = .int .i64 L ∧ Hid (0 ≤ i ∧ i ≤ t) ∧ Hid (P = i) ∧ Hid (L = 1 + i / s) ∧ Hid (HS w w.heap.size c f s d wx)) (fun _ _ s10 _ => (t - intOf s10).toNat)
      case atStart => exact ⟨0, 0, 1, rfl, rfl, rfl, (by show _ ∧ _; omega), (by show _ = _; omega), (by show _ = _; rw [Int.zero_ediv]; rfl), HS2⟩
      case round =>
        obtain ⟨i, P, L, rfl, rfl, rfl, HI, HP, HL', HSx⟩ := hrel
        obtain ⟨hi0, hi1⟩ := HI.out
        have hp0 : 0 ≤ P := by have := HP.out; omega
        have hp1 : P ≤ t := by have := HP.out; omega
        obtain ⟨_, c0, c1, c2, c3⟩ := HSx.out
        have hl0 : 1 ≤ L ∧ L ≤ 505 := by
          have a := Int.ediv_nonneg hi0 (show 0 ≤ s by omega)
          have b := Int.ediv_le_self s hi0
          have := HL'.out
          omega
        by_cases hlt : i < t
        · obtain ⟨Q, hQ⟩ : ∃ Q, Q = P + 1 := ⟨_, rfl⟩
          have hq0 : 0 ≤ Q := by have := HP.out; omega
          have hq1 : Q ≤ t := by have := HP.out; omega
          have G := Lib.hid (fun (m : Int) (hm : 0 < m) W => (GO.out P m ⟨hp0, hp1⟩ true (by rw [show sgn m = 1 from by rw [sgn, if_pos hm], ← hQ]; exact (decide_eq_true (HH.out _ hq0 hq1)).symm) Q (by rw [show sgn m = 1 from by rw [sgn, if_pos hm], ← hQ]; simp) W))
          have HQ := Lib.hid hQ
          obtain ⟨bl, hbl⟩ : ∃ bl, bl = decide (Ho.lev ⟨c, f, s, d⟩ Q) := ⟨_, rfl⟩
          have LV := Lib.hid (LE.out Q bl hbl)
          have hne : (Q != Q) = false := by simp
          have hlm : bl = decide ((i + 1) % s = 0) := by
            rw [hbl]
            refine decide_eq_decide.2 ((HL.out Q hq0 hq1).trans ?_)
            show Q % s = 0 ↔ _
            rw [show Q = i + 1 by rw [hQ, HP.out]]
          have hsd := step_div (i := i) (s := s) HSr.1 hi0
          rw [← HL'.out] at hsd
          replace hQ := hQ.symm
          clear hbl
          cases bl with
          | true =>
            have HSD : Hid (L + 1 = 1 + (i + 1) / s) := by show _ = _; rw [hsd, if_pos (of_decide_eq_true hlm.symm)]
            clear hsd hlm
            go_wp2_with fail
            with_reducible refine (G.out _ ?hm _).mono ?_
            case hm => omega
            rintro e w5 ⟨rfl, hf⟩
            have HS5 := Lib.hid (HSx.out.fr hf)
            clear hf c0 c1 c2 c3
            obtain ⟨_, c0, c1, c2, c3⟩ := HS5.out
            go_wp2_with fail
            with_reducible refine (LV.out _).mono ?_
            rintro e w6 ⟨rfl, hf⟩
            have HS6 := Lib.hid (HS5.out.fr hf)
            clear hf c0 c1 c2 c3
            obtain ⟨_, c0, c1, c2, c3⟩ := HS6.out
            try dsimp only at c0 c1 c2 c3
            go_wp2
            go_roundw
            case rel => exact ⟨i + 1, Q, L + 1, rfl, rfl, rfl, (by show _ ∧ _; omega), (by show _ = _; have := HP.out; have := HQ.out; omega), HSD, HS6⟩
            case measure => simp [intOf]; omega
          | false =>
            have HSD : Hid (L = 1 + (i + 1) / s) := by show _ = _; rw [hsd, if_neg (of_decide_eq_false hlm.symm)]
            clear hsd hlm
            go_wp2_with fail
            with_reducible refine (G.out _ ?hm _).mono ?_
            case hm => omega
            rintro e w5 ⟨rfl, hf⟩
            have HS5 := Lib.hid (HSx.out.fr hf)
            clear hf c0 c1 c2 c3
            obtain ⟨_, c0, c1, c2, c3⟩ := HS5.out
            go_wp2_with fail
            with_reducible refine (LV.out _).mono ?_
            rintro e w6 ⟨rfl, hf⟩
            have HS6 := Lib.hid (HS5.out.fr hf)
            clear hf c0 c1 c2 c3
            obtain ⟨_, c0, c1, c2, c3⟩ := HS6.out
            try dsimp only at c0 c1 c2 c3
            go_wp2
            go_roundw
            case rel => exact ⟨i + 1, Q, L, rfl, rfl, rfl, (by show _ ∧ _; omega), (by show _ = _; have := HP.out; have := HQ.out; omega), HSD, HS6⟩
            case measure => simp [intOf]; omega
        · obtain rfl : i = t := by omega
          obtain rfl : P = i := by rw [HP.out]
          obtain rfl : f = L := by rw [HL'.out, TD.out]; show f = 1 + (f - 1); omega
          have G1 := Lib.hid (GO.out P (1) (by omega) false (by rw [show sgn (1) = 1 from rfl]; exact (decide_eq_false (HNO.out _ (by omega))).symm) 0 (by simp))
          have G2 := Lib.hid (GO.out P 0 (by omega) true (by rw [show sgn 0 = 0 from rfl]; exact (decide_eq_true (HH.out _ (by omega) (by omega))).symm) P (by rw [show sgn 0 = 0 from rfl]; simp))
          have k1 : (f == f) = true := by simp
          have k2 : (P == 0) = false := by simp; omega
          have k3 : (P == P) = true := by simp
          clear HP HL' HI
          go_wp2_with fail
          with_reducible refine (G1.out _).mono ?_
          rintro e w5 ⟨rfl, hf⟩
          have HS5 := Lib.hid (HSx.out.fr hf)
          clear hf c0 c1 c2 c3
          obtain ⟨_, c0, c1, c2, c3⟩ := HS5.out
          go_wp2_with fail
          with_reducible refine (G2.out _).mono ?_
          rintro e w6 ⟨rfl, hf⟩
          have HS6 := Lib.hid (HS5.out.fr hf)
          clear hf c0 c1 c2 c3
          obtain ⟨_, c0, c1, c2, c3⟩ := HS6.out
          try dsimp only at c0 c1 c2 c3
          go_wp2_with fail
          with_reducible refine (NU.out _).mono ?_
          rintro e w7 ⟨rfl, rfl⟩
          go_wp2
          go_ret
          exact ⟨rfl, HS6.out.1⟩
    | false =>
      go_enter Try.func3, Try.ntmps3
      go_wp2_with fail
      with_reducible refine (first_any _).mono ?_
      rintro e w1 ⟨rfl, hf⟩
      have HS1 := Lib.hid ((HS.of FA.out HB0.out).fr hf)
      clear hf
      obtain ⟨_, c0, c1, c2, c3⟩ := HS1.out
      try dsimp only at c0 c1 c2 c3
      go_wp2_with fail
      with_reducible refine (V.out _).mono ?_
      rintro e w2 ⟨rfl, hf⟩
      have HS2 := Lib.hid (HS1.out.fr hf)
      clear hf c0 c1 c2 c3
      obtain ⟨_, c0, c1, c2, c3⟩ := HS2.out
      try dsimp only at c0 c1 c2 c3
      go_wp2_with fail
      with_reducible refine (T.out _).mono ?_
      rintro e w3 ⟨rfl, hf⟩
      have HS3 := Lib.hid (HS2.out.fr hf)
      clear hf c0 c1 c2 c3
      obtain ⟨_, c0, c1, c2, c3⟩ := HS3.out
      try dsimp only at c0 c1 c2 c3
      go_wp2
      go_loopw [6, 8, 10] (fun s6 s8 s10 wx => ∃ i P L : Int, s10 = .int .i64 i ∧ s6 = .int .i64 P ∧ s8 = .int .i64 L ∧ Hid (0 ≤ i ∧ i ≤ t) ∧ Hid (P = t - i) ∧ Hid (L = 1 + i / s) ∧ Hid (HS w w.heap.size c f s d wx)) (fun _ _ s10 _ => (t - intOf s10).toNat)
      case atStart => exact ⟨0, t, 1, rfl, rfl, rfl, (by show _ ∧ _; omega), (by show _ = _; omega), (by show _ = _; rw [Int.zero_ediv]; rfl), HS3⟩
      case round =>
        obtain ⟨i, P, L, rfl, rfl, rfl, HI, HP, HL', HSx⟩ := hrel
        obtain ⟨hi0, hi1⟩ := HI.out
        have hp0 : 0 ≤ P := by have := HP.out; omega
        have hp1 : P ≤ t := by have := HP.out; omega
        obtain ⟨_, c0, c1, c2, c3⟩ := HSx.out
        have hl0 : 1 ≤ L ∧ L ≤ 505 := by
          have a := Int.ediv_nonneg hi0 (show 0 ≤ s by omega)
          have b := Int.ediv_le_self s hi0
          have := HL'.out
          omega
        by_cases hlt : i < t
        · obtain ⟨Q, hQ⟩ : ∃ Q, Q = P + -1 := ⟨_, rfl⟩
          have hq0 : 0 ≤ Q := by have := HP.out; omega
          have hq1 : Q ≤ t := by have := HP.out; omega
          have G := Lib.hid (fun (m : Int) (hm : m < 0) W => (GO.out P m ⟨hp0, hp1⟩ true (by rw [show sgn m = -1 from by rw [sgn, if_neg (by omega), if_pos hm], ← hQ]; exact (decide_eq_true (HH.out _ hq0 hq1)).symm) Q (by rw [show sgn m = -1 from by rw [sgn, if_neg (by omega), if_pos hm], ← hQ]; simp) W))
          have HQ := Lib.hid hQ
          obtain ⟨bl, hbl⟩ : ∃ bl, bl = decide (Ho.lev ⟨c, f, s, d⟩ Q) := ⟨_, rfl⟩
          have LV := Lib.hid (LE.out Q bl hbl)
          have hne : (Q != Q) = false := by simp
          have hlm : bl = decide ((i + 1) % s = 0) := by
            rw [hbl]
            refine decide_eq_decide.2 ((HL.out Q hq0 hq1).trans ?_)
            show Q % s = 0 ↔ _
            rw [show Q = t - (i + 1) by rw [hQ, HP.out]; omega]
            exact mod_flip TM.out
          have hsd := step_div (i := i) (s := s) HSr.1 hi0
          rw [← HL'.out] at hsd
          have hQ2 : P - 1 = Q := by omega
          replace hQ := hQ.symm
          clear hbl
          cases bl with
          | true =>
            have HSD : Hid (L + 1 = 1 + (i + 1) / s) := by show _ = _; rw [hsd, if_pos (of_decide_eq_true hlm.symm)]
            clear hsd hlm
            go_wp2_with fail
            with_reducible refine (G.out _ ?hm _).mono ?_
            case hm => omega
            rintro e w5 ⟨rfl, hf⟩
            have HS5 := Lib.hid (HSx.out.fr hf)
            clear hf c0 c1 c2 c3
            obtain ⟨_, c0, c1, c2, c3⟩ := HS5.out
            go_wp2_with fail
            with_reducible refine (LV.out _).mono ?_
            rintro e w6 ⟨rfl, hf⟩
            have HS6 := Lib.hid (HS5.out.fr hf)
            clear hf c0 c1 c2 c3
            obtain ⟨_, c0, c1, c2, c3⟩ := HS6.out
            try dsimp only at c0 c1 c2 c3
            go_wp2
            go_roundw
            case rel => exact ⟨i + 1, Q, L + 1, rfl, rfl, rfl, (by show _ ∧ _; omega), (by show _ = _; have := HP.out; have := HQ.out; omega), HSD, HS6⟩
            case measure => simp [intOf]; omega
          | false =>
            have HSD : Hid (L = 1 + (i + 1) / s) := by show _ = _; rw [hsd, if_neg (of_decide_eq_false hlm.symm)]
            clear hsd hlm
            go_wp2_with fail
            with_reducible refine (G.out _ ?hm _).mono ?_
            case hm => omega
            rintro e w5 ⟨rfl, hf⟩
            have HS5 := Lib.hid (HSx.out.fr hf)
            clear hf c0 c1 c2 c3
            obtain ⟨_, c0, c1, c2, c3⟩ := HS5.out
            go_wp2_with fail
            with_reducible refine (LV.out _).mono ?_
            rintro e w6 ⟨rfl, hf⟩
            have HS6 := Lib.hid (HS5.out.fr hf)
            clear hf c0 c1 c2 c3
            obtain ⟨_, c0, c1, c2, c3⟩ := HS6.out
            try dsimp only at c0 c1 c2 c3
            go_wp2
            go_roundw
            case rel => exact ⟨i + 1, Q, L, rfl, rfl, rfl, (by show _ ∧ _; omega), (by show _ = _; have := HP.out; have := HQ.out; omega), HSD, HS6⟩
            case measure => simp [intOf]; omega
        · obtain rfl : i = t := by omega
          obtain rfl : P = 0 := by rw [HP.out]; omega
          obtain rfl : f = L := by rw [HL'.out, TD.out]; show f = 1 + (f - 1); omega
          have G1 := Lib.hid (GO.out (0 : Int) (-1) (by omega) false (by rw [show sgn (-1) = -1 from rfl]; exact (decide_eq_false (HNO.out _ (by omega))).symm) 0 (by simp))
          have G2 := Lib.hid (GO.out (0 : Int) 0 (by omega) true (by rw [show sgn 0 = 0 from rfl]; exact (decide_eq_true (HH.out _ (by omega) (by omega))).symm) 0 (by rw [show sgn 0 = 0 from rfl]; simp))
          have k1 : (f == f) = true := by simp
          have k2 : ((0 : Int) == 0) = true := by simp
          have k3 : (i == i) = true := by simp
          clear HP HL' HI
          go_wp2_with fail
          with_reducible refine (G1.out _).mono ?_
          rintro e w5 ⟨rfl, hf⟩
          have HS5 := Lib.hid (HSx.out.fr hf)
          clear hf c0 c1 c2 c3
          obtain ⟨_, c0, c1, c2, c3⟩ := HS5.out
          go_wp2_with fail
          with_reducible refine (G2.out _).mono ?_
          rintro e w6 ⟨rfl, hf⟩
          have HS6 := Lib.hid (HS5.out.fr hf)
          clear hf c0 c1 c2 c3
          obtain ⟨_, c0, c1, c2, c3⟩ := HS6.out
          try dsimp only at c0 c1 c2 c3
          go_wp2_with fail
          with_reducible refine (NU.out _).mono ?_
          rintro e w7 ⟨rfl, rfl⟩
          go_wp2
          go_ret
          exact ⟨rfl, HS6.out.1⟩
  · have V := Lib.hid (fun W => valid_any h W false (decide_eq_false hk).symm)
    clear hk
    obtain ⟨c, f, s, d⟩ := h
    dsimp only [Ho.v, Ho.box] at *
    go_enter Try.func3, Try.ntmps3
    go_wp2_with fail
    with_reducible refine (first_any _).mono ?_
    rintro e w1 ⟨rfl, hf⟩
    have HS1 := Lib.hid ((HS.of FA.out HB0.out).fr hf)
    clear hf
    obtain ⟨_, c0, c1, c2, c3⟩ := HS1.out
    try dsimp only at c0 c1 c2 c3
    go_wp2_with fail
    with_reducible refine (V.out _).mono ?_
    rintro e w2 ⟨rfl, hf⟩
    have HS2 := Lib.hid (HS1.out.fr hf)
    clear hf c0 c1 c2 c3
    obtain ⟨_, c0, c1, c2, c3⟩ := HS2.out
    try dsimp only at c0 c1 c2 c3
    go_wp2
    go_ret
    exact ⟨rfl, HS2.out.1⟩
theorem pruns_walk (h : Ho) (up : Bool) (w : World) : Calls Try.prog 3 #[h.v, .bool up] w fun e w' => e = .returned (.bool true) ∧ w.grownBy w' none :=
  (runs_true h up w).mono fun _ _ ⟨he, hf⟩ => ⟨he, hf.grown (by simp)⟩
end Go.Proofs.Yteojefipcbalhaa
