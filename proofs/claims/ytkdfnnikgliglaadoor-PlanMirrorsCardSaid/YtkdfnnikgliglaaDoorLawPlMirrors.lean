/- In a house upside down a car that has a way does all the other way round. -/
import Derived.Test.YtkdfnnikgliglaaDoorPlFirst
import Derived.Test.YtkdfnnikgliglaaDoorMir
import Derived.Test.YtkdfnnikgliglaaDoorNum
namespace Go.Proofs.YtkdfnnikgliglaaDoor
open Go.RowKit

theorem mir_hall {s : Sp} (h : s.ok) (f e : Int) : (s.mir 64).hall (63 - f) (-e) = s.hall f e := by
  unfold Sp.hall Sp.mir
  rw [hasB_mir h.d, hasB_mir h.u, show 63 - (63 - f) = f by omega]
  by_cases h1 : e = 1
  · rw [if_neg (by omega), if_pos (by omega), if_pos h1]
  · by_cases h2 : e = -1
    · rw [if_pos (by omega), if_neg h1, if_pos h2]
    · rw [if_neg (by omega), if_neg (by omega), if_neg h1, if_neg h2]
theorem mir_tow {s : Sp} (h : s.ok) (f e : Int) : towB (s.mir 64).all (63 - f) (-e) = towB s.all f e := by
  rw [Bool.eq_iff_iff, towB_iff (Sp.mir_ok s 64).all, towB_iff h.all]
  constructor
  · rintro ⟨y, a, b⟩
    rw [Sp.mir_all h] at b
    exact ⟨63 - y, by unfold ah at *; omega, b⟩
  · rintro ⟨y, a, b⟩
    exact ⟨63 - y, by unfold ah at *; omega, by rw [Sp.mir_all h, show 63 - (63 - y) = y by omega]; exact b⟩
theorem mir_head {s : Sp} (h : s.ok) {f d : Int} (hd : d ≠ 0) : (s.mir 64).head (63 - f) (-d) = -(s.head f d) := by
  unfold Sp.head
  rw [if_neg (by omega), if_neg hd, mir_hall h, mir_tow h, mir_hall h, mir_tow h]
  split
  · rfl
  · split <;> rfl
theorem mir_stop {s : Sp} (h : s.ok) {f d : Int} (hd : d ≠ 0) : (s.mir 64).stop (63 - f) (-d) = s.stop f d := by
  unfold Sp.stop
  rw [mir_head h hd, mir_hall h]
  congr 1
  rw [Sp.mir, hasB_mir h.c, show 63 - (63 - f) = f by omega]

set_option maxHeartbeats 4000000 in
set_option maxRecDepth 100000 in
theorem mirrors_true (s : Sp) (k1 k2 : Int) (h : s.ok) (a10 : -9223372036854775808 ≤ k1) (a11 : k1 ≤ 9223372036854775807) (a20 : -9223372036854775808 ≤ k2) (a21 : k2 ≤ 9223372036854775807) (w : World) (hT : Tz w) :
    Calls Tryd.prog 3 #[s.v, .int .i64 k1, .int .i64 k2] w fun x w' => x = .returned (.bool true) ∧ Fr w w' [] := by
  have NU := Lib.hid (fun W => numberTo_any k1 64 W (by omega) (by omega) a10 a11)
  have N2 := Lib.hid (fun W => numberTo_any k2 2 W (by omega) (by omega) a20 a21)
  have P0 := Int.emod_nonneg k1 (show (64 : Int) ≠ 0 by omega)
  have P1 := Int.emod_lt_of_pos k1 (show (0 : Int) < 64 by omega)
  have P20 := Int.emod_nonneg k2 (show (2 : Int) ≠ 0 by omega)
  have P21 := Int.emod_lt_of_pos k2 (show (0 : Int) < 2 by omega)
  obtain ⟨f, hf⟩ : ∃ f, k1 % 64 = f := ⟨_, rfl⟩
  obtain ⟨q, hq⟩ : ∃ q, k2 % 2 = q := ⟨_, rfl⟩
  rw [hf] at NU P0 P1
  rw [hq] at N2 P20 P21
  clear hf hq a10 a11 a20 a21
  obtain ⟨g, hg⟩ : ∃ g, g = 2 * q - 1 := ⟨_, rfl⟩
  obtain ⟨ng, hng⟩ : ∃ ng, ng = -g := ⟨_, rfl⟩
  have hw1 : IntKind.i64.wrap (2 * q) = 2 * q := IntWalk.i64_in _ (by omega)
  have hw2 : IntKind.i64.wrap (2 * q - 1) = g := by rw [hg]; exact IntWalk.i64_in _ (by omega)
  have hw3 : IntKind.i64.wrap (-g) = ng := by rw [hng]; exact IntWalk.i64_in _ (by omega)
  have hw4 : IntKind.i64.wrap (63 - f) = 63 - f := IntWalk.i64_in _ (by omega)
  have SMC := Lib.hid (fun k : Nat => mirTo_lt s.c k)
  have SMU := Lib.hid (fun k : Nat => mirTo_lt s.u k)
  have SMD := Lib.hid (fun k : Nat => mirTo_lt s.d k)
  have CA0 := Lib.hid (fun (k : Nat) (x : Bool) (hx : x = hasB s.c k) W => at_any s k W h x hx)
  have CU0 := Lib.hid (fun (k : Nat) (x : Bool) (hx : x = hasB s.u k) W => hall_any s k 1 W h x (by rw [hx]; rfl))
  have CD0 := Lib.hid (fun (k : Nat) (x : Bool) (hx : x = hasB s.d k) W => hall_any s k (-1) W h x (by rw [hx]; rfl))
  have g0 : g ≠ 0 := by omega
  have hsm := (head_is h P0 P1 (show g = 0 ∨ g = 1 ∨ g = -1 by omega)).small
  have D1 := deed_in (s := s) (f := f) (d := g) (by omega)
  have D2 := deed_in (s := s.mir 64) (f := 63 - f) (d := ng) (by omega)
  rw [hng, mir_head h g0, mir_stop h g0, ← hng] at D2
  obtain ⟨t, ht⟩ : ∃ t, t = s.mir 64 := ⟨_, rfl⟩
  have hto : t.ok := by rw [ht]; exact Sp.mir_ok s 64
  rw [← ht] at D2
  obtain ⟨xd, hxd⟩ : ∃ x, x = s.head f g := ⟨_, rfl⟩
  obtain ⟨xs, hxs⟩ : ∃ x, x = s.stop f g := ⟨_, rfl⟩
  rw [← hxd, ← hxs] at D1 D2
  rw [← hxd] at hsm
  obtain ⟨xm, hxm⟩ : ∃ x, x = if xs = true then 0 else xd := ⟨_, rfl⟩
  obtain ⟨yd, hyd⟩ : ∃ x, x = -xd := ⟨_, rfl⟩
  obtain ⟨ym, hym⟩ : ∃ x, x = if xs = true then 0 else yd := ⟨_, rfl⟩
  rw [← hxm] at D1
  rw [← hyd, ← hym] at D2
  have hmm : ym = -xm := by rw [hym, hxm, hyd]; split <;> rfl
  have hmb : xm = 0 ∨ xm = xd := by rw [hxm]; split <;> simp
  have hw5 : IntKind.i64.wrap (-yd) = xd := by rw [show -yd = xd by omega]; exact IntWalk.i64_in _ (by omega)
  have hw6 : IntKind.i64.wrap (-ym) = xm := by rw [show -ym = xm by omega]; exact IntWalk.i64_in _ (by omega)
  have A1 := Lib.hid (fun W hT => deed_any s f g W h hT ⟨xs, xd, xm⟩ D1.symm)
  have A2 := Lib.hid (fun W hT => deed_any t (63 - f) ng W hto hT ⟨xs, yd, ym⟩ D2.symm)
  have HT := Lib.hid hT
  obtain ⟨p, u, d⟩ := s
  have HTT := Lib.hid ht
  have HS0 := Lib.hid (SS.new w 24 p u d)
  clear hg hng g0 hsm D1 D2 hxd hxs hxm hyd hym hmm hmb hT h hto ht P20 P21
  dsimp only [Sp.v, Sp.mir, De.v] at *
  go_enter Tryd.func3, Tryd.ntmps3
  have T0 := Lib.hid (HT.out.fr HS0.out.1)
  go_wp2_with fail
  with_reducible refine (first_any _ T0.out).mono ?_
  rintro e w1 ⟨rfl, hf⟩
  have H1 := Lib.hid (HS0.out.fr hf)
  have HZ1 := Lib.hid (show w.heap.size < w1.heap.size by have := hf.size; simp at this; omega)
  clear hf HS0 T0
  go_wp2_with fail
  with_reducible refine (NU.out _).mono ?_
  rintro e w2 ⟨rfl, rfl⟩
  go_wp2_with fail
  with_reducible refine (N2.out _).mono ?_
  rintro e w2 ⟨rfl, rfl⟩
  have HM0 := Lib.hid (show MS w p u d w1.heap.size ⟨0, 0, 0⟩ (w1.alloc (.cells #[.int .u64 0, .int .u64 0, .int .u64 0] 24)) from ⟨H1.out.fr (Fr.alloc _ _ []), HZ1.out, heap_alloc_new _ _⟩)
  go_wp2
  go_loopw [9] (fun s9 wr => ∃ k : Nat, k ≤ 64 ∧ s9 = .int .i64 k ∧ Hid (MS w p u d w1.heap.size ⟨mirTo p k, mirTo d k, mirTo u k⟩ wr)) (fun i _ => 64 - (intOf i).toNat)
  case atStart => exact ⟨0, Nat.zero_le _, rfl, HM0⟩
  case round =>
    clear HM0 H1
    obtain ⟨k, hk, rfl, HM⟩ := hrel
    by_cases hlt : k < 64
    · obtain ⟨x1, hx1⟩ : ∃ x, x = hasB p k := ⟨_, rfl⟩
      obtain ⟨x2, hx2⟩ : ∃ x, x = hasB u k := ⟨_, rfl⟩
      obtain ⟨x3, hx3⟩ : ∃ x, x = hasB d k := ⟨_, rfl⟩
      have CA := Lib.hid (fun W => CA0.out k x1 hx1 W)
      have CU := Lib.hid (fun W => CU0.out k x2 hx2 W)
      have CD := Lib.hid (fun W => CD0.out k x3 hx3 W)
      have BC := SMC.out k
      have BU := SMD.out k
      have BD := SMU.out k
      try dsimp only at BC BU BD
      obtain ⟨mc, hmc⟩ : ∃ m, m = mirTo p k := ⟨_, rfl⟩
      obtain ⟨mu, hmu⟩ : ∃ m, m = mirTo d k := ⟨_, rfl⟩
      obtain ⟨md, hmd⟩ : ∃ m, m = mirTo u k := ⟨_, rfl⟩
      obtain ⟨j, hj⟩ : ∃ j : Nat, 63 - (k : Int) = (j : Int) := ⟨(63 - (k : Int)).toNat, by omega⟩
      obtain ⟨o, ho⟩ : ∃ o, o = oneN (63 - (k : Int)) := ⟨_, rfl⟩
      have N1 := Lib.hid (mir_step p k x1 hx1 mc hmc o ho)
      have N2 := Lib.hid (mir_step d k x3 hx3 mu hmu o ho)
      have N3 := Lib.hid (mir_step u k x2 hx2 md hmd o ho)
      have BO : o < 18446744073709551616 := by rw [ho]; exact oneN_lt _
      have hsh : IntKind.u64.wrap ((2 : Int) ^ j) = (o : Int) := by
        have := one_shl (63 - (k : Int)) (by omega) (by omega)
        rw [← ho, hj, Int.toNat_natCast] at this
        exact this
      have hw1 : IntKind.i64.wrap (63 - (k : Int)) = (j : Int) := by rw [hj]; exact IntWalk.i64_in _ (by omega)
      have hj64 : j < 64 := by omega
      rw [← hmc, ← hmu, ← hmd] at HM
      rw [← hmc] at BC
      rw [← hmu] at BU
      rw [← hmd] at BD
      have HM0 := HM
      clear HM hx1 hx2 hx3 hmc hmu hmd ho hj
      go_upto_region 10 with fail
      obtain ⟨⟨_, c0, c1, c2⟩, t0, t1, t2⟩ := HM0.out.cells
      go_wp2_with fail
      with_reducible refine (CA.out _).mono ?_
      rintro e wa0 ⟨rfl, hf⟩
      have HN0 := Lib.hid (HM0.out.fr hf)
      clear hf c0 c1 c2 t0 t1 t2
      cases x1 with
      | true =>
        have E0 := bits_or_u64_nat mc o BC BO
        obtain ⟨⟨_, c0, c1, c2⟩, t0, t1, t2⟩ := HN0.out.cells
        have z0 := HN0.out.fz 0
        have z1 := HN0.out.fz 1
        have z2 := HN0.out.fz 2
        have HM1 := Lib.hid (HN0.out.put0 (mc ||| o))
        clear HN0
        go_upto_region 12 with fail
        clear c0 c1 c2 t0 t1 t2 z0 z1 z2
        generalize World.setCell wa0 _ _ = wb0 at *
        obtain ⟨⟨_, c0, c1, c2⟩, t0, t1, t2⟩ := HM1.out.cells
        go_wp2_with fail
        with_reducible refine (CU.out _).mono ?_
        rintro e wa1 ⟨rfl, hf⟩
        have HN1 := Lib.hid (HM1.out.fr hf)
        clear hf c0 c1 c2 t0 t1 t2
        cases x2 with
        | true =>
          have E1 := bits_or_u64_nat md o BD BO
          obtain ⟨⟨_, c0, c1, c2⟩, t0, t1, t2⟩ := HN1.out.cells
          have z0 := HN1.out.fz 0
          have z1 := HN1.out.fz 1
          have z2 := HN1.out.fz 2
          have HM2 := Lib.hid (HN1.out.put2 (md ||| o))
          clear HN1
          go_upto_region 14 with fail
          clear c0 c1 c2 t0 t1 t2 z0 z1 z2
          generalize World.setCell wa1 _ _ = wb1 at *
          obtain ⟨⟨_, c0, c1, c2⟩, t0, t1, t2⟩ := HM2.out.cells
          go_wp2_with fail
          with_reducible refine (CD.out _).mono ?_
          rintro e wa2 ⟨rfl, hf⟩
          have HN2 := Lib.hid (HM2.out.fr hf)
          clear hf c0 c1 c2 t0 t1 t2
          cases x3 with
          | true =>
            have E2 := bits_or_u64_nat mu o BU BO
            obtain ⟨⟨_, c0, c1, c2⟩, t0, t1, t2⟩ := HN2.out.cells
            have z0 := HN2.out.fz 0
            have z1 := HN2.out.fz 1
            have z2 := HN2.out.fz 2
            have HM3 := Lib.hid (HN2.out.put1 (mu ||| o))
            clear HN2
            go_wp2
            go_roundw
            case rel => exact ⟨k + 1, by omega, by go_num, by rw [N1.out, N2.out, N3.out]; exact HM3⟩
            case measure => simp [intOf]; omega
          | false =>
            have HM3 := HN2
            clear HN2
            go_wp2
            go_roundw
            case rel => exact ⟨k + 1, by omega, by go_num, by rw [N1.out, N2.out, N3.out]; exact HM3⟩
            case measure => simp [intOf]; omega
        | false =>
          have HM2 := HN1
          clear HN1
          go_upto_region 14 with fail
          obtain ⟨⟨_, c0, c1, c2⟩, t0, t1, t2⟩ := HM2.out.cells
          go_wp2_with fail
          with_reducible refine (CD.out _).mono ?_
          rintro e wa2 ⟨rfl, hf⟩
          have HN2 := Lib.hid (HM2.out.fr hf)
          clear hf c0 c1 c2 t0 t1 t2
          cases x3 with
          | true =>
            have E2 := bits_or_u64_nat mu o BU BO
            obtain ⟨⟨_, c0, c1, c2⟩, t0, t1, t2⟩ := HN2.out.cells
            have z0 := HN2.out.fz 0
            have z1 := HN2.out.fz 1
            have z2 := HN2.out.fz 2
            have HM3 := Lib.hid (HN2.out.put1 (mu ||| o))
            clear HN2
            go_wp2
            go_roundw
            case rel => exact ⟨k + 1, by omega, by go_num, by rw [N1.out, N2.out, N3.out]; exact HM3⟩
            case measure => simp [intOf]; omega
          | false =>
            have HM3 := HN2
            clear HN2
            go_wp2
            go_roundw
            case rel => exact ⟨k + 1, by omega, by go_num, by rw [N1.out, N2.out, N3.out]; exact HM3⟩
            case measure => simp [intOf]; omega
      | false =>
        have HM1 := HN0
        clear HN0
        go_upto_region 12 with fail
        obtain ⟨⟨_, c0, c1, c2⟩, t0, t1, t2⟩ := HM1.out.cells
        go_wp2_with fail
        with_reducible refine (CU.out _).mono ?_
        rintro e wa1 ⟨rfl, hf⟩
        have HN1 := Lib.hid (HM1.out.fr hf)
        clear hf c0 c1 c2 t0 t1 t2
        cases x2 with
        | true =>
          have E1 := bits_or_u64_nat md o BD BO
          obtain ⟨⟨_, c0, c1, c2⟩, t0, t1, t2⟩ := HN1.out.cells
          have z0 := HN1.out.fz 0
          have z1 := HN1.out.fz 1
          have z2 := HN1.out.fz 2
          have HM2 := Lib.hid (HN1.out.put2 (md ||| o))
          clear HN1
          go_upto_region 14 with fail
          clear c0 c1 c2 t0 t1 t2 z0 z1 z2
          generalize World.setCell wa1 _ _ = wb1 at *
          obtain ⟨⟨_, c0, c1, c2⟩, t0, t1, t2⟩ := HM2.out.cells
          go_wp2_with fail
          with_reducible refine (CD.out _).mono ?_
          rintro e wa2 ⟨rfl, hf⟩
          have HN2 := Lib.hid (HM2.out.fr hf)
          clear hf c0 c1 c2 t0 t1 t2
          cases x3 with
          | true =>
            have E2 := bits_or_u64_nat mu o BU BO
            obtain ⟨⟨_, c0, c1, c2⟩, t0, t1, t2⟩ := HN2.out.cells
            have z0 := HN2.out.fz 0
            have z1 := HN2.out.fz 1
            have z2 := HN2.out.fz 2
            have HM3 := Lib.hid (HN2.out.put1 (mu ||| o))
            clear HN2
            go_wp2
            go_roundw
            case rel => exact ⟨k + 1, by omega, by go_num, by rw [N1.out, N2.out, N3.out]; exact HM3⟩
            case measure => simp [intOf]; omega
          | false =>
            have HM3 := HN2
            clear HN2
            go_wp2
            go_roundw
            case rel => exact ⟨k + 1, by omega, by go_num, by rw [N1.out, N2.out, N3.out]; exact HM3⟩
            case measure => simp [intOf]; omega
        | false =>
          have HM2 := HN1
          clear HN1
          go_upto_region 14 with fail
          obtain ⟨⟨_, c0, c1, c2⟩, t0, t1, t2⟩ := HM2.out.cells
          go_wp2_with fail
          with_reducible refine (CD.out _).mono ?_
          rintro e wa2 ⟨rfl, hf⟩
          have HN2 := Lib.hid (HM2.out.fr hf)
          clear hf c0 c1 c2 t0 t1 t2
          cases x3 with
          | true =>
            have E2 := bits_or_u64_nat mu o BU BO
            obtain ⟨⟨_, c0, c1, c2⟩, t0, t1, t2⟩ := HN2.out.cells
            have z0 := HN2.out.fz 0
            have z1 := HN2.out.fz 1
            have z2 := HN2.out.fz 2
            have HM3 := Lib.hid (HN2.out.put1 (mu ||| o))
            clear HN2
            go_wp2
            go_roundw
            case rel => exact ⟨k + 1, by omega, by go_num, by rw [N1.out, N2.out, N3.out]; exact HM3⟩
            case measure => simp [intOf]; omega
          | false =>
            have HM3 := HN2
            clear HN2
            go_wp2
            go_roundw
            case rel => exact ⟨k + 1, by omega, by go_num, by rw [N1.out, N2.out, N3.out]; exact HM3⟩
            case measure => simp [intOf]; omega
    · obtain rfl : 64 = k := by omega
      have HM4 := Lib.hid (show MS w p u d w1.heap.size t wr by rw [HTT.out]; exact HM.out)
      clear HM CA0 CU0 CD0 SMC SMU SMD HTT
      obtain ⟨p', u', d'⟩ := t
      obtain ⟨⟨_, c0, c1, c2⟩, t0, t1, t2⟩ := HM4.out.cells
      dsimp only at t0 t1 t2
      have K1 := Lib.hid (A1.out wr (HT.out.fr HM4.out.1.1))
      go_wp2_with fail
      with_reducible refine K1.out.mono ?_
      rintro e w3 ⟨rfl, hf⟩
      have HM5 := Lib.hid ((HM4.out.fr hf).fr (Fr.alloc _ (.cells #[.bool xs, .int .i64 xd, .int .i64 xm] 31) []))
      have HX5 := Lib.hid (heap_alloc_new w3 (.cells #[.bool xs, .int .i64 xd, .int .i64 xm] 31))
      clear hf c0 c1 c2 t0 t1 t2 K1 HM4
      obtain ⟨⟨_, c0, c1, c2⟩, t0, t1, t2⟩ := HM5.out.cells
      dsimp only at t0 t1 t2
      have K1 := Lib.hid (A2.out _ (HT.out.fr HM5.out.1.1))
      go_wp2_with fail
      with_reducible refine K1.out.mono ?_
      rintro e w4 ⟨rfl, hf⟩
      have fa := Fr.alloc w4 (.cells #[.bool xs, .int .i64 yd, .int .i64 ym] 31) []
      have HM6 := Lib.hid ((HM5.out.fr hf).fr fa)
      obtain ⟨x0, x1, x2⟩ := arow ((hf.trans fa).heap HX5.out (by simp))
      obtain ⟨y0, y1, y2⟩ := arow (heap_alloc_new w4 (.cells #[.bool xs, .int .i64 yd, .int .i64 ym] 31))
      have ks : (xs == xs) = true := by simp
      clear hf fa c0 c1 c2 t0 t1 t2 K1 HM5 HX5
      go_wp2
      go_ret
      exact ⟨rfl, HM6.out.1.1⟩
theorem plmirrors_walk (s : Sp) (h : s.ok) (k1 k2 : Int) (a10 : -9223372036854775808 ≤ k1) (a11 : k1 ≤ 9223372036854775807) (a20 : -9223372036854775808 ≤ k2) (a21 : k2 ≤ 9223372036854775807) (W : World) (hT : Tz W) :
    Calls Tryd.prog 3 #[s.v, .int .i64 k1, .int .i64 k2] W fun x w' => x = .returned (.bool true) ∧ W.grownBy w' none :=
  (mirrors_true s k1 k2 h a10 a11 a20 a21 W hT).mono fun _ _ ⟨he, hf⟩ => ⟨he, hf.grown (by simp)⟩
end Go.Proofs.YtkdfnnikgliglaaDoor
