/- On its way up a car passes a call down, and answers it on its way back. -/
import Derived.Test.YtgcgbiaigbblkaaDoorCLaw
import Derived.Test.YtgcgbiaigbblkaaDoorCaPass
import Derived.Test.YtgcgbiaigbblkaaDoorCLaw2
import Derived.Laws.BitsAllLaws
namespace Go.Proofs.YtgcgbiaigbblkaaDoor
open Go.RowKit

theorem Ps.facts {h : Ho} {a t : Int} {s : Sp} {c : Ca} {l : List Int} {M : Int} (H : Ps h a t s c l M) : s.ok ∧ s.u = 0 ∧ l.length ≤ 2 ∧ c.k = 0 := by
  cases H with
  | up p0 p1 he m => exact ⟨psA_ok a t, rfl, by simp, rfl⟩
  | dn p0 p1 o0 o1 op m => exact ⟨psB_ok a, rfl, by simp, rfl⟩
  | done he o0 o1 m m0 => exact ⟨⟨zero_lt64, zero_lt64, zero_lt64⟩, rfl, by simp, rfl⟩
set_option maxHeartbeats 8000000 in
set_option maxRecDepth 100000 in
theorem passes_true (h : Ho) (k1 k2 : Int) (a10 : -9223372036854775808 ≤ k1) (a11 : k1 ≤ 9223372036854775807) (a20 : -9223372036854775808 ≤ k2) (a21 : k2 ≤ 9223372036854775807) (w : World) (hT : Tz w) :
    Calls Tryd.prog 10 #[h.v, .int .i64 k1, .int .i64 k2] w fun x w' => x = .returned (.bool true) ∧ Fr w w' [] := by
  have TB := Lib.hid (LB.new w h)
  have HT := Lib.hid hT
  by_cases hk : h.ok
  · have V := Lib.hid (fun W => valid_any h W true (decide_eq_true hk).symm)
    by_cases hf3 : 3 ≤ h.f
    · have hfl := hk.2.1
      have hsl := hk.2.2.1
      have hdl := hk.2.2.2
      have N2 := Lib.hid (fun W => numberTo_any k2 (h.f - 2) W (by omega) (by omega) a20 a21)
      have P20 := Int.emod_nonneg k2 (show h.f - 2 ≠ 0 by omega)
      have P21 := Int.emod_lt_of_pos k2 (show 0 < h.f - 2 by omega)
      obtain ⟨r2, hr2⟩ : ∃ r, k2 % (h.f - 2) = r := ⟨_, rfl⟩
      rw [hr2] at N2 P20 P21
      obtain ⟨t, ht⟩ : ∃ t, t = r2 + 2 := ⟨_, rfl⟩
      have N1 := Lib.hid (fun W => numberTo_any k1 (t - 1) W (by omega) (by omega) a10 a11)
      have P10 := Int.emod_nonneg k1 (show t - 1 ≠ 0 by omega)
      have P11 := Int.emod_lt_of_pos k1 (show 0 < t - 1 by omega)
      obtain ⟨r1, hr1⟩ : ∃ r, k1 % (t - 1) = r := ⟨_, rfl⟩
      rw [hr1] at N1 P10 P11
      obtain ⟨q, hq⟩ : ∃ q, q = r1 + 1 := ⟨_, rfl⟩
      have W1 : IntKind.i64.wrap (h.f - 2) = h.f - 2 := IntWalk.i64_in _ (by omega)
      have W2 : IntKind.i64.wrap (r2 + 2) = t := by rw [ht]; exact IntWalk.i64_in _ (by omega)
      have W3 : IntKind.i64.wrap (t - 1) = t - 1 := IntWalk.i64_in _ (by omega)
      have W4 : IntKind.i64.wrap (r1 + 1) = q := by rw [hq]; exact IntWalk.i64_in _ (by omega)
      have q0 : 0 < q := by omega
      have qt : q < t := by omega
      have t1 : t < h.f := by omega
      have SA := Lib.hid (fun W => cstart_any h 0 W hk (by omega) (by have := Ho.range hk; omega) ⟨⟨0, 0, 0, false⟩, 0⟩ (by rw [startC, decide_eq_true (lev_zero hk)]; rfl))
      have O := Lib.hid (fun W p hp => of_one t W p hp)
      have PU := Lib.hid (fun W => put_any ⟨oneN t, 0, 0⟩ q (-1) W ⟨oneN_lt t, zero_lt64, zero_lt64⟩ (psA q t) (by rw [Sp.put, if_neg (by decide), if_pos rfl, Nat.zero_or]; rfl))
      obtain ⟨A, hA⟩ : ∃ A, A = 2 * h.f := ⟨_, rfl⟩
      obtain ⟨Bs, hB⟩ : ∃ B, B = h.s + 1 := ⟨_, rfl⟩
      obtain ⟨C, hC⟩ : ∃ C, C = A * Bs := ⟨_, rfl⟩
      obtain ⟨N, hN⟩ : ∃ N, N = C + 4 * h.d + 8 := ⟨_, rfl⟩
      have hC1 : 0 ≤ C ∧ C ≤ 2000 := by
        have a1 := Int.mul_nonneg (show 0 ≤ A by omega) (show 0 ≤ Bs by omega)
        have a2 : A * Bs ≤ 128 * Bs := Int.mul_le_mul_of_nonneg_right (show A ≤ 128 by omega) (by omega)
        omega
      have P0 : Hid (Ps h q t (psA q t) ⟨⟨0, 0, 0, false⟩, 0⟩ [] N) := by
        refine Lib.hid (Ps.up (by omega) (Int.mul_nonneg (by omega) (by omega)) (.inr ⟨rfl, rfl⟩) ?_)
        have a1 : t * h.s ≤ h.f * h.s := Int.mul_le_mul_of_nonneg_right (by omega) (by omega)
        have a2 : 0 ≤ q * h.s := Int.mul_nonneg (by omega) (by omega)
        have a3 : C = 2 * (h.f * h.s) + 2 * h.f := by rw [hC, hA, hB, Int.mul_add, Int.mul_assoc, Int.mul_one]
        omega
      have PT := Lib.hid (fun (s : Sp) (c : Ca) (l : List Int) (M : Int) (H : Ps h q t s c l M) => Ps.tick hk q0 qt t1 H)
      have PE := Lib.hid (fun (s : Sp) (c : Ca) (l : List Int) (H : Ps h q t s c l 0) => Ps.ends hk qt H)
      have TI := Lib.hid (fun (c : Ca) (s : Sp) (ok : s.ok) (hkk : c.k ≤ 9223372036854775807) x d (hx : c.tick h s false = (x, d)) W hT => ctick_any h c s false W ok hT hkk x d hx)
      have SO := Lib.hid (fun (c : Ca) (s : Sp) (ok : s.ok) => tick_st_ok h c ok false)
      have W5 : IntKind.i64.wrap (2 * h.f) = A := by rw [hA]; exact IntWalk.i64_in _ (by omega)
      have W6 : IntKind.i64.wrap (h.s + 1) = Bs := by rw [hB]; exact IntWalk.i64_in _ (by omega)
      have W7 : IntKind.i64.wrap (A * Bs) = C := by rw [hC]; exact IntWalk.i64_in _ (by omega)
      obtain ⟨D, hD⟩ : ∃ D, D = 4 * h.d := ⟨_, rfl⟩
      have W8 : IntKind.i64.wrap (4 * h.d) = D := by rw [hD]; exact IntWalk.i64_in _ (by omega)
      obtain ⟨E, hE⟩ : ∃ E, E = C + D := ⟨_, rfl⟩
      have W9 : IntKind.i64.wrap (C + D) = E := by rw [hE]; exact IntWalk.i64_in _ (by omega)
      have W10 : IntKind.i64.wrap (E + 8) = N := by rw [hN, hE, hD]; exact IntWalk.i64_in _ (by omega)
      have HN := Lib.hid (show 0 ≤ N ∧ N ≤ 3000 by omega)
      have hf3' : decide (h.f < 3) = false := decide_eq_false (by omega)
      obtain ⟨o1, ho1⟩ : ∃ o, o = oneN t := ⟨_, rfl⟩
      have PA := Lib.hid (show psA q t = ⟨o1, 0, oneN q⟩ by rw [ho1]; rfl)
      rw [← ho1] at O PU
      rw [PA.out] at PU P0
      clear hr1 hr2 ht hq q0 qt t1 hA hB hC hN hD hE hC1 P10 P11 P20 P21 hfl hsl hdl hT a10 a11 a20 a21 hk hf3 ho1 PA
      obtain ⟨o2, ho2⟩ : ∃ o, o = oneN q := ⟨_, rfl⟩
      rw [← ho2] at PU P0
      clear ho2
      obtain ⟨hc, hfl, hs, hd⟩ := h
      dsimp only [Ho.v, Ho.box, Ca.v, Ca.box, Sp.v, Sp.box] at *
      simp only [show ((0 : Nat) : Int) = 0 from rfl] at O PU
      go_enter Tryd.func10, Tryd.ntmps10
      go_wp2_with fail
      have Z0 := Lib.hid (HT.out.fr TB.out.f)
      with_reducible refine (cfirst_any _ Z0.out).mono ?_
      rintro v w1 ⟨rfl, hf⟩
      have T1 := Lib.hid (TB.out.fr hf)
      clear hf TB Z0
      obtain ⟨c0, c1, c2, c3⟩ := T1.out.h.cells
      dsimp only at c0 c1 c2 c3
      go_wp2_with fail
      with_reducible refine (V.out _).mono ?_
      rintro v w2 ⟨rfl, hf⟩
      have T2 := Lib.hid (T1.out.fr hf)
      clear hf c0 c1 c2 c3 T1
      obtain ⟨c0, c1, c2, c3⟩ := T2.out.h.cells
      dsimp only at c0 c1 c2 c3
      go_wp2_with fail
      with_reducible refine (N2.out _).mono ?_
      rintro v w3 ⟨rfl, rfl⟩
      go_wp2_with fail
      with_reducible refine (N1.out _).mono ?_
      rintro v w3 ⟨rfl, rfl⟩
      go_wp2_with fail
      with_reducible refine (SA.out _).mono ?_
      rintro v w3 ⟨rfl, hf⟩
      have T3 := Lib.hid ((T2.out.fr hf).own ⟨⟨0, 0, 0, false⟩, 0⟩)
      clear hf c0 c1 c2 c3 T2 N1 N2 SA V
      go_upto_region 11 with fail
      dsimp only [Ca.box] at T3
      generalize World.alloc w3 _ = w4 at *
      go_wp2_with fail
      with_reducible refine (O.out _ _ (heap_alloc_new _ _)).mono ?_
      rintro v w5 ⟨rfl, hf⟩
      have T5 := Lib.hid ((T3.out.fr (Fr.alloc w4 (.cells #[.int .i64 t] 3) [])).fr hf)
      clear hf T3 O
      go_wp2_with fail
      with_reducible refine (PU.out _).mono ?_
      rintro v w6 ⟨rfl, hf⟩
      have T6 := Lib.hid (T5.out.fr hf)
      clear hf T5 PU
      have T7 : Hid (LQ w (w6.heap.size + 1) w3.heap.size w6.heap.size ⟨hc, hfl, hs, hd⟩ ⟨o1, 0, o2⟩ ⟨⟨0, 0, 0, false⟩, 0⟩ (w6.alloc (Sp.box 37 ⟨o1, 0, o2⟩))) := by
        have q1 := size_of_row T6.out.c
        have q2 := size_of_row T6.out.h
        exact Lib.hid ⟨T6.out.f.trans (Fr.alloc _ _ []), T6.out.h.fr (Fr.alloc _ _ []), heap_alloc_new _ _, T6.out.c.fr (Fr.alloc _ _ []) (by simp), T6.out.lo, q2, by omega, by omega, by omega⟩
      have HS7 := Lib.hid (show (w6.alloc (Sp.box 37 ⟨o1, 0, o2⟩)).heap.size = w6.heap.size + 1 by simp)
      dsimp only [Sp.box] at T7 HS7
      simp only [show ((0 : Nat) : Int) = 0 from rfl] at T7 HS7
      go_wp2
      generalize World.alloc w6 _ = w7 at *
      obtain ⟨b, hb⟩ : ∃ b, b = w3.heap.size := ⟨_, rfl⟩
      obtain ⟨m, hm⟩ : ∃ m, m = w6.heap.size := ⟨_, rfl⟩
      rw [← hm] at HS7
      rw [← hb, ← hm] at T7
      rw [← hb, ← hm]
      clear hb hm T6
      obtain ⟨i0, hi, hz0, hz1, hz2⟩ := info_parts infoI
      have HO7 := Lib.hid (OwnI.nil w7 (m + 1))
      clear HS7 hf3' W1 W2 W3 W4
      go_loopw [11, 12] (fun s11 s12 wx => ∃ (k : Int) (s : Sp) (c : Ca) (l : List Int), s12 = .int .i64 k ∧ Hid (0 ≤ k ∧ k ≤ N) ∧ Hid (Ps ⟨hc, hfl, hs, hd⟩ q t s c l (N - k)) ∧ Hid (LQ w (m + 1) b m ⟨hc, hfl, hs, hd⟩ s c wx) ∧ Hid (OwnI wx (m + 1) s11 l)) (fun _ s12 _ => (N - intOf s12).toNat)
      case atStart => exact ⟨0, _, _, _, rfl, (by show _ ∧ _; have := HN.out; omega), (by rw [Int.sub_zero]; exact P0), T7, HO7⟩
      case round =>
        clear T7 HO7 P0
        obtain ⟨k, s, c, l, rfl, HK, HP, HLx, HO⟩ := hrel
        obtain ⟨hk0, hk1⟩ := HK.out
        have hkN := HN.out
        obtain ⟨ok, su0, hl2, ck0⟩ := Ps.facts HP.out
        by_cases hlt : k < N
        · obtain ⟨x, d, hx⟩ : ∃ x d, c.tick ⟨hc, hfl, hs, hd⟩ s false = (x, d) := ⟨_, _, rfl⟩
          have PTk := PT.out s c l (N - k) HP.out
          have dok := SO.out c s ok
          rw [hx] at PTk dok
          have TK := TI.out c s ok (by rw [ck0]; decide) x d hx
          rw [show max (N - k - 1) 0 = N - (k + 1) by omega] at PTk
          obtain ⟨⟨xp, xe, xo, xr⟩, xk⟩ := c
          obtain ⟨⟨yp, ye, yo, yr⟩, yk⟩ := x
          obtain ⟨eo, ec, ef, ea, em, ⟨dc, du, dd⟩⟩ := d
          obtain ⟨sp, su, sd⟩ := s
          dsimp only [Dn.v] at su0 ck0 PTk dok TK
          have hsu : su &&& (18446744073709551615 - du) = su := by rw [su0, Nat.zero_and]
          obtain ⟨i0', i1', i2', i3'⟩ := HLx.out.h.cells
          obtain ⟨c0, c1, c2, c3, c4⟩ := HLx.out.c.cells
          obtain ⟨s0, s1, s2⟩ := arow HLx.out.s
          have ZT := Lib.hid (HT.out.fr HLx.out.f)
          dsimp only at i0' i1' i2' i3' c0 c1 c2 c3 c4 s0 s1 s2
          have TK := Lib.hid TK
          clear PT PE TI SO hx HP ck0
          cases eo with
          | true =>
            have HP' : Hid (Ps ⟨hc, hfl, hs, hd⟩ q t ⟨andN sp dc, su, andN sd dd⟩ ⟨⟨yp, ye, yo, yr⟩, yk⟩ (l ++ [ef]) (N - (k + 1))) := by
              have := PTk.1
              rw [if_pos rfl, Sp.less] at this
              dsimp only at this
              rw [hsu] at this
              exact this
            have E1 : bits .andNot .u64 (sp : Int) (dc : Int) = ((andN sp dc : Nat) : Int) := u64_andNot_nat sp dc ok.c dok.c
            have E2 : bits .andNot .u64 (sd : Int) (dd : Int) = ((andN sd dd : Nat) : Int) := u64_andNot_nat sd dd ok.d dok.d
            obtain ⟨nc, hnc⟩ : ∃ nc, nc = andN sp dc := ⟨_, rfl⟩
            obtain ⟨nd, hnd⟩ : ∃ nd, nd = andN sd dd := ⟨_, rfl⟩
            rw [← hnc] at E1 HP'
            rw [← hnd] at E2 HP'
            have HL := Lib.hid hl2
            clear hnc hnd PTk ok dok hl2 hsu su0
            go_wp2_with fail
            with_reducible refine (TK.out _ ZT.out).mono ?_
            rintro v w8 ⟨rfl, hf⟩
            have T8 := Lib.hid ((HLx.out.fr hf).fr (two_fr w8 ⟨⟨yp, ye, yo, yr⟩, yk⟩ ⟨true, ec, ef, ea, em, ⟨dc, du, dd⟩⟩))
            have O8 := Lib.hid (HO.out.keep (hf.trans (two_fr w8 ⟨⟨yp, ye, yo, yr⟩, yk⟩ ⟨true, ec, ef, ea, em, ⟨dc, du, dd⟩⟩)))
            have P8 := Lib.hid (PD.new w8 ⟨⟨yp, ye, yo, yr⟩, yk⟩ ⟨true, ec, ef, ea, em, ⟨dc, du, dd⟩⟩)
            have LM := Lib.hid (show m < w8.heap.size ∧ b < w8.heap.size from ⟨Nat.lt_of_lt_of_le (size_of_row HLx.out.s) hf.size, Nat.lt_of_lt_of_le (size_of_row HLx.out.c) hf.size⟩)
            clear hf i0' i1' i2' i3' c0 c1 c2 c3 c4 s0 s1 s2 HLx ZT TK HO
            dsimp only [Ca.box, Dn.box] at T8 O8 P8
            go_upto_region 17 with fail
            generalize World.alloc (World.alloc w8 _) _ = w9 at *
            obtain ⟨n0, n1, n2, n3, n4, n5, n6, n7⟩ := P8.out.d.cells
            dsimp only at n0 n1 n2 n3 n4 n5 n6 n7
            go_upto_region 19 with (at_builtin; refine wpList_append_own _ rfl _ _ 44 rfl (m + 1) 3 i0 (.int .i64 0) 1 8 Tryd.underlying44 hi hz0 hz1 hz2 rfl (by decide) _ _ _ rfl (World.ownsRow.alloc O8.out _) ⟨w9.heap.size, 0, none⟩ 1 1 [.int .i64 ef] rfl rfl (cell_one_new _ _ _) (one_cell _ _) (by have := HL.out; unfold maxLen; omega) (by have := HL.out; omega) (by have := size_of_row T8.out.s; simp; omega) ?_; intro v' w10 hown10 hg10 _)
            have O10 := Lib.hid (OwnI.snoc hown10)
            have T10 := Lib.hid ((T8.out.fr (Fr.alloc w9 (.cells #[.int .i64 ef] 3) [])).grown hg10 (fun r hr => (O8.out.block r hr).1))
            have D10 := Lib.hid (NC.grown (P8.out.d.fr (Fr.alloc w9 (.cells #[.int .i64 ef] 3) []) (by simp)) hg10 (row_ne O8.out P8.out.d (by decide)))
            have X10 := Lib.hid (CB.grown (P8.out.x.fr (Fr.alloc w9 (.cells #[.int .i64 ef] 3) []) (by simp)) hg10 (row_ne O8.out P8.out.x (by decide)))
            clear hown10 hg10 O8 T8 P8 n0 n1 n2 n3 n4 n5 n6 n7
            obtain ⟨s0, s1, s2⟩ := arow T10.out.s
            have zs0 := frozen_of_row _ _ 0 _ _ T10.out.s
            obtain ⟨n0, n1, n2, n3, n4, n5, n6, n7⟩ := D10.out.cells
            have T11 := Lib.hid (T10.out.st0 nc)
            have D11 := Lib.hid (D10.out.fr (Fr.setCell w10 m 0 (.int .u64 nc) (S := [m]) (by simp)) (by have := LM.out.1; simp; omega))
            have X11 := Lib.hid (X10.out.fr (Fr.setCell w10 m 0 (.int .u64 nc) (S := [m]) (by simp)) (by have := LM.out.1; simp; omega))
            have O11 := Lib.hid (O10.out.far (Fr.setCell w10 m 0 (.int .u64 nc) (S := [m]) (by simp)) T10.out.s (by decide))
            dsimp only at s0 s1 s2 n0 n1 n2 n3 n4 n5 n6 n7 T11
            go_upto_region 20 with fail
            generalize World.setCell w10 _ _ = w11 at *
            clear s0 s1 s2 zs0 n0 n1 n2 n3 n4 n5 n6 n7 T10 D10 X10 O10
            obtain ⟨s0, s1, s2⟩ := arow T11.out.s
            have zs2 := frozen_of_row _ _ 2 _ _ T11.out.s
            obtain ⟨n0, n1, n2, n3, n4, n5, n6, n7⟩ := D11.out.cells
            have T12 := Lib.hid (T11.out.st2 nd)
            have X12 := Lib.hid (X11.out.fr (Fr.setCell w11 m 2 (.int .u64 nd) (S := [m]) (by simp)) (by have := LM.out.1; simp; omega))
            have O12 := Lib.hid (O11.out.far (Fr.setCell w11 m 2 (.int .u64 nd) (S := [m]) (by simp)) T11.out.s (by decide))
            dsimp only at s0 s1 s2 n0 n1 n2 n3 n4 n5 n6 n7 T12
            go_upto_region 21 with fail
            generalize World.setCell w11 _ _ = w12 at *
            clear s0 s1 s2 zs2 n0 n1 n2 n3 n4 n5 n6 n7 T11 D11 X11 O11
            have TZ := Lib.hid (T12.out.car ⟨⟨yp, ye, yo, yr⟩, yk⟩)
            have OZ := Lib.hid (O12.out.far (carSet_fr w12 b ⟨⟨yp, ye, yo, yr⟩, yk⟩) T12.out.c (by decide))
            obtain ⟨x0, x1, x2, x3, x4⟩ := X12.out.cells
            obtain ⟨c0, c1, c2, c3, c4⟩ := T12.out.c.cells
            have y0 := T12.out.c.fz 0
            have y1 := T12.out.c.fz 1
            have y2 := T12.out.c.fz 2
            have y3 := T12.out.c.fz 3
            have y4 := T12.out.c.fz 4
            dsimp only [carSet] at TZ OZ x0 x1 x2 x3 x4 c0 c1 c2 c3 c4
            go_wp2
            go_roundw
            case rel => exact ⟨k + 1, ⟨nc, su, nd⟩, ⟨⟨yp, ye, yo, yr⟩, yk⟩, l ++ [ef], by go_num, (by show _ ∧ _; omega), HP', TZ, OZ⟩
            case measure => simp [intOf]; omega
          | false =>
            have HP' : Hid (Ps ⟨hc, hfl, hs, hd⟩ q t ⟨sp, su, sd⟩ ⟨⟨yp, ye, yo, yr⟩, yk⟩ l (N - (k + 1))) := by
              have e := PTk.2 rfl
              have := PTk.1
              rw [e, less_none ok, if_neg (by simp)] at this
              exact this
            clear PTk ok dok hl2 hsu su0
            go_wp2_with fail
            with_reducible refine (TK.out _ ZT.out).mono ?_
            rintro v w8 ⟨rfl, hf⟩
            have T8 := Lib.hid ((HLx.out.fr hf).fr (two_fr w8 ⟨⟨yp, ye, yo, yr⟩, yk⟩ ⟨false, ec, ef, ea, em, ⟨dc, du, dd⟩⟩))
            have O8 := Lib.hid (HO.out.keep (hf.trans (two_fr w8 ⟨⟨yp, ye, yo, yr⟩, yk⟩ ⟨false, ec, ef, ea, em, ⟨dc, du, dd⟩⟩)))
            have P8 := Lib.hid (PD.new w8 ⟨⟨yp, ye, yo, yr⟩, yk⟩ ⟨false, ec, ef, ea, em, ⟨dc, du, dd⟩⟩)
            clear hf i0' i1' i2' i3' c0 c1 c2 c3 c4 s0 s1 s2 HLx ZT TK HO
            dsimp only [Ca.box, Dn.box] at T8 O8 P8
            go_upto_region 17 with fail
            generalize World.alloc (World.alloc w8 _) _ = w9 at *
            obtain ⟨n0, n1, n2, n3, n4, n5, n6, n7⟩ := P8.out.d.cells
            dsimp only at n0 n1 n2 n3 n4 n5 n6 n7
            have TZ := Lib.hid (T8.out.car ⟨⟨yp, ye, yo, yr⟩, yk⟩)
            have OZ := Lib.hid (O8.out.far (carSet_fr w9 b ⟨⟨yp, ye, yo, yr⟩, yk⟩) T8.out.c (by decide))
            obtain ⟨x0, x1, x2, x3, x4⟩ := P8.out.x.cells
            obtain ⟨c0, c1, c2, c3, c4⟩ := T8.out.c.cells
            have y0 := T8.out.c.fz 0
            have y1 := T8.out.c.fz 1
            have y2 := T8.out.c.fz 2
            have y3 := T8.out.c.fz 3
            have y4 := T8.out.c.fz 4
            dsimp only [carSet] at TZ OZ x0 x1 x2 x3 x4 c0 c1 c2 c3 c4
            go_wp2
            go_roundw
            case rel => exact ⟨k + 1, ⟨sp, su, sd⟩, ⟨⟨yp, ye, yo, yr⟩, yk⟩, l, by go_num, (by show _ ∧ _; omega), HP', TZ, OZ⟩
            case measure => simp [intOf]; omega
        · obtain rfl : N = k := by omega
          have hz := HP.out
          rw [Int.sub_self] at hz
          obtain ⟨rfl, rfl⟩ := PE.out s c l hz
          obtain ⟨ad, cap, rfl, q1, q2, q3⟩ := HO.out.holds
          obtain ⟨g, off, rfl, hcl⟩ := q3 (by simp)
          have l0 := hcl 0 (by simp)
          have l1 := hcl 1 (by simp)
          unfold maxLen at q2
          simp only [List.length_cons, List.length_nil, Nat.zero_add, Nat.add_zero, List.getD_cons_zero, List.getD_cons_succ] at q1 q2 l0 l1
          obtain ⟨i0', i1', i2', i3'⟩ := HLx.out.h.cells
          obtain ⟨s0, s1, s2⟩ := arow HLx.out.s
          dsimp only [zSp] at i0' i1' i2' i3' s0 s1 s2
          simp only [show ((0 : Nat) : Int) = 0 from rfl] at s0 s1 s2
          have HF := Lib.hid HLx.out.f
          clear PT PE TI SO HP hz hcl q3 HO HLx ok su0 hl2 ck0
          go_wp2
          go_ret
          exact ⟨rfl, HF.out⟩
    · clear hT a10 a11 a20 a21
      have hf3' : decide (h.f < 3) = true := decide_eq_true (by omega)
      clear hf3 hk
      obtain ⟨hc, hfl, hs, hd⟩ := h
      dsimp only [Ho.v, Ho.box] at *
      go_enter Tryd.func10, Tryd.ntmps10
      go_wp2_with fail
      have Z0 := Lib.hid (HT.out.fr TB.out.f)
      with_reducible refine (cfirst_any _ Z0.out).mono ?_
      rintro v w1 ⟨rfl, hf⟩
      have T1 := Lib.hid (TB.out.fr hf)
      clear hf TB Z0
      obtain ⟨c0, c1, c2, c3⟩ := T1.out.h.cells
      dsimp only at c0 c1 c2 c3
      go_wp2_with fail
      with_reducible refine (V.out _).mono ?_
      rintro v w2 ⟨rfl, hf⟩
      have T2 := Lib.hid (T1.out.fr hf)
      clear hf c0 c1 c2 c3
      obtain ⟨c0, c1, c2, c3⟩ := T2.out.h.cells
      dsimp only at c0 c1 c2 c3
      go_wp2
      go_ret
      exact ⟨rfl, T2.out.f⟩
  · have V := Lib.hid (fun W => valid_any h W false (decide_eq_false hk).symm)
    clear hk hT a10 a11 a20 a21
    obtain ⟨hc, hfl, hs', hd⟩ := h
    dsimp only [Ho.v, Ho.box] at *
    go_enter Tryd.func10, Tryd.ntmps10
    go_wp2_with fail
    have Z0 := Lib.hid (HT.out.fr TB.out.f)
    with_reducible refine (cfirst_any _ Z0.out).mono ?_
    rintro v w1 ⟨rfl, hf⟩
    have T1 := Lib.hid (TB.out.fr hf)
    clear hf TB Z0
    obtain ⟨c0, c1, c2, c3⟩ := T1.out.h.cells
    dsimp only at c0 c1 c2 c3
    go_wp2_with fail
    with_reducible refine (V.out _).mono ?_
    rintro v w2 ⟨rfl, hf⟩
    have T2 := Lib.hid (T1.out.fr hf)
    clear hf
    go_wp2
    go_ret
    exact ⟨rfl, T2.out.f⟩
theorem cpasses_walk (h : Ho) (k1 k2 : Int) (a10 : -9223372036854775808 ≤ k1) (a11 : k1 ≤ 9223372036854775807) (a20 : -9223372036854775808 ≤ k2) (a21 : k2 ≤ 9223372036854775807) (W : World) (hT : Tz W) :
    Calls Tryd.prog 10 #[h.v, .int .i64 k1, .int .i64 k2] W fun x w' => x = .returned (.bool true) ∧ W.grownBy w' none :=
  (passes_true h k1 k2 a10 a11 a20 a21 W hT).mono fun _ _ ⟨he, hf⟩ => ⟨he, hf.grown (by simp)⟩
end Go.Proofs.YtgcgbiaigbblkaaDoor
