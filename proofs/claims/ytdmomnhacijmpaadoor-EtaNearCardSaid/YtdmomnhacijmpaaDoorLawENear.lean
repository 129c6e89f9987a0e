/- With nothing else to do a car takes as long as it has to go. -/
import Derived.Test.YtdmomnhacijmpaaDoorELaw
namespace Go.Proofs.YtdmomnhacijmpaaDoor
open Go.RowKit

set_option maxHeartbeats 4000000 in
set_option maxRecDepth 100000 in
theorem enear_true (h : Ho) (k1 k2 k3 : Int) (a10 : -9223372036854775808 ≤ k1) (a11 : k1 ≤ 9223372036854775807) (a20 : -9223372036854775808 ≤ k2) (a21 : k2 ≤ 9223372036854775807) (a30 : -9223372036854775808 ≤ k3) (a31 : k3 ≤ 9223372036854775807) (w : World) (hT : Tz w) :
    Calls Tryd.prog 5 #[h.v, .int .i64 k1, .int .i64 k2, .int .i64 k3] w fun x w' => x = .returned (.bool true) ∧ Fr w w' [] := by
  have TB := Lib.hid (LB.new w h)
  have HT := Lib.hid hT
  by_cases hk : h.ok
  · have V := Lib.hid (fun W => valid_any h W true (decide_eq_true hk).symm)
    have hf := hk.2.1
    have hs := hk.2.2.1
    have hd := hk.2.2.2
    have hr := Ho.range hk
    have N1 := Lib.hid (fun W => numberTo_any k1 h.f W (by omega) (by omega) a10 a11)
    have N2 := Lib.hid (fun W => numberTo_any k2 h.f W (by omega) (by omega) a20 a21)
    have N3 := Lib.hid (fun W => numberTo_any k3 2 W (by omega) (by omega) a30 a31)
    have A0 := Int.emod_nonneg k1 (show h.f ≠ 0 by omega)
    have A1 := Int.emod_lt_of_pos k1 (show 0 < h.f by omega)
    have Q0 := Int.emod_nonneg k2 (show h.f ≠ 0 by omega)
    have Q1 := Int.emod_lt_of_pos k2 (show 0 < h.f by omega)
    have D0 := Int.emod_nonneg k3 (show (2 : Int) ≠ 0 by omega)
    have D1 := Int.emod_lt_of_pos k3 (show (0 : Int) < 2 by omega)
    obtain ⟨a, ha⟩ : ∃ a, k1 % h.f = a := ⟨_, rfl⟩
    obtain ⟨q, hq⟩ : ∃ q, k2 % h.f = q := ⟨_, rfl⟩
    obtain ⟨g, hg⟩ : ∃ g, k3 % 2 = g := ⟨_, rfl⟩
    rw [ha] at N1 A0 A1
    rw [hq] at N2 Q0 Q1
    rw [hg] at N3 D0 D1
    clear ha hq hg a10 a11 a20 a21 a30 a31
    obtain ⟨e, he⟩ : ∃ e, e = 2 * g - 1 := ⟨_, rfl⟩
    have W1 : IntKind.i64.wrap (2 * g) = 2 * g := IntWalk.i64_in _ (by omega)
    have W2 : IntKind.i64.wrap (2 * g - 1) = e := by rw [he]; exact IntWalk.i64_in _ (by omega)
    obtain ⟨⟨p0, p1⟩, lv⟩ := lev_mul hk A0 A1
    obtain ⟨⟨q0, q1⟩, _⟩ := lev_mul hk Q0 Q1
    obtain ⟨p, hp⟩ : ∃ p, p = a * h.s := ⟨_, rfl⟩
    rw [← hp] at p0 p1 lv
    have W3 : IntKind.i64.wrap (a * h.s) = p := by rw [← hp]; exact IntWalk.i64_in _ (by omega)
    have SA := Lib.hid (fun W => cstart_any h p W hk p0 p1 ⟨⟨p, 0, 0, false⟩, 0⟩ (start_lev hk lv).symm)
    obtain ⟨bm, hbm⟩ : ∃ b, b = decide (mayC h.f q e) := ⟨_, rfl⟩
    have MA := Lib.hid (fun W => dmay_any h.f q e hk.2.1.1 hk.2.1.2 W bm hbm)
    obtain ⟨r, H⟩ := EtaV.some h ⟨⟨p, 0, 0, false⟩, 0⟩ zSp_ok q e
    have OF := Lib.hid (fun W hT => eta_any h ⟨⟨p, 0, 0, false⟩, 0⟩ zSp q e W hk zSp_ok hT (by decide : (0 : Int) ≤ 9223372036854775807) r H)
    have W4 : IntKind.i64.wrap (q - a) = q - a := IntWalk.i64_in _ (by omega)
    obtain ⟨D, hD⟩ : ∃ D, D = if q - a < 0 then -(q - a) else q - a := ⟨_, rfl⟩
    obtain ⟨X, hX⟩ : ∃ X, X = D * h.s := ⟨_, rfl⟩
    have hXq : (X = p - q * h.s ∨ X = q * h.s - p) ∧ 0 ≤ X := by
      by_cases z : q - a < 0
      · rw [if_pos z] at hD
        have : X = p - q * h.s := by rw [hX, hD, hp, ← Int.sub_mul]; congr 1; omega
        refine ⟨.inl this, ?_⟩
        rw [hX]; exact Int.mul_nonneg (by omega) (by omega)
      · rw [if_neg z] at hD
        have : X = q * h.s - p := by rw [hX, hD, hp, ← Int.sub_mul]
        refine ⟨.inr this, ?_⟩
        rw [hX]; exact Int.mul_nonneg (by omega) (by omega)
    have W6 : IntKind.i64.wrap (D * h.s) = X := by rw [← hX]; exact IntWalk.i64_in _ (by omega)
    have W7 : IntKind.i64.wrap (X + 1) = X + 1 := IntWalk.i64_in _ (by omega)
    have W5 : Hid ((q - a < 0 ∧ IntKind.i64.wrap (-(q - a)) = D) ∨ (¬ q - a < 0 ∧ q - a = D)) := by
      refine Lib.hid ?_
      by_cases z : q - a < 0
      · rw [if_pos z] at hD
        exact .inl ⟨z, by rw [hD]; exact IntWalk.i64_in _ (by omega)⟩
      · rw [if_neg z] at hD
        exact .inr ⟨z, hD.symm⟩
    have HR : Hid ((bm = true ∧ r = X + 1) ∨ (bm = false ∧ r = 1048576)) := by
      refine Lib.hid ?_
      rcases H with ⟨R, m, n, a1, b, _, rfl⟩ | ⟨k, rfl⟩
      · refine .inl ⟨by rw [hbm]; exact decide_eq_true m, ?_⟩
        have NE := near_eta hk m X.toNat p 0 p0 p1 (by omega) (by decide) (by decide) (.inl lv)
        have := a1.one NE
        omega
      · refine .inr ⟨?_, rfl⟩
        rw [hbm]
        exact decide_eq_false (fun m => k ⟨lev_right hk lv (Int.le_refl 0) (by omega), m⟩)
    have G0 := Lib.hid (show 0 ≤ q ∧ q ≤ 64 ∧ 0 ≤ a ∧ a ≤ 64 by omega)
    clear hT hk H hbm hD hX hXq hf hs hd hr A0 A1 Q0 Q1 D0 D1 he p0 p1 lv q0 q1 hp
    obtain ⟨hc, hfl, hs, hd⟩ := h
    dsimp only [Ho.v, Ho.box, Ca.v, Ca.box, Sp.v, Sp.box, zSp, callV, callBox] at *
    simp only [show ((0 : Nat) : Int) = 0 from rfl] at *
    go_enter Tryd.func5, Tryd.ntmps5
    go_wp2_with fail
    generalize World.alloc w _ = w0 at *
    have Z0 := Lib.hid (HT.out.fr TB.out.f)
    with_reducible refine (efirst_any _ Z0.out).mono ?_
    rintro v w1 ⟨rfl, hf⟩
    have T1 := Lib.hid (TB.out.fr hf)
    clear hf TB Z0
    obtain ⟨i0, i1, i2, i3⟩ := T1.out.h.cells
    dsimp only at i0 i1 i2 i3
    go_wp2_with fail
    with_reducible refine (V.out _).mono ?_
    rintro v w2 ⟨rfl, hf⟩
    have T2 := Lib.hid (T1.out.fr hf)
    clear hf i0 i1 i2 i3 T1
    obtain ⟨i0, i1, i2, i3⟩ := T2.out.h.cells
    dsimp only at i0 i1 i2 i3
    go_wp2_with fail
    with_reducible refine (N1.out _).mono ?_
    rintro v w3 ⟨rfl, rfl⟩
    go_wp2_with fail
    with_reducible refine (N2.out _).mono ?_
    rintro v w3 ⟨rfl, rfl⟩
    go_wp2_with fail
    with_reducible refine (N3.out _).mono ?_
    rintro v w3 ⟨rfl, rfl⟩
    have T3 := Lib.hid (T2.out.fr (Fr.alloc w2 (callBox q e) []))
    have C3 := Lib.hid (heap_alloc_new w2 (callBox q e))
    dsimp only [callBox] at T3 C3
    clear i0 i1 i2 i3 T2 N1 N2 N3
    go_upto_region 8 with fail
    obtain ⟨bq, hbq⟩ : ∃ b, w2.heap.size = b := ⟨_, rfl⟩
    rw [hbq] at C3
    rw [hbq]
    clear hbq
    generalize World.alloc w2 _ = w3 at *
    clear W1 W2
    obtain ⟨i0, i1, i2, i3⟩ := T3.out.h.cells
    dsimp only at i0 i1 i2 i3
    go_wp2_with fail
    with_reducible refine (SA.out _).mono ?_
    rintro v w4 ⟨rfl, hf⟩
    have T4 : Hid (NE w ⟨hc, hfl, hs, hd⟩ bq q e w4.heap.size ⟨⟨p, 0, 0, false⟩, 0⟩ (w4.alloc (Ca.box ⟨⟨p, 0, 0, false⟩, 0⟩))) :=
      Lib.hid ⟨(T3.out.fr hf).fr (Fr.alloc _ _ []), (hf.trans (Fr.alloc _ _ [])).heap C3.out (by simp), CB.new w4 _⟩
    clear hf i0 i1 i2 i3 T3 C3 SA
    dsimp only [Ca.box] at T4
    go_upto_region 9 with fail
    obtain ⟨bc, hbc⟩ : ∃ b, w4.heap.size = b := ⟨_, rfl⟩
    rw [hbc] at T4
    rw [hbc]
    clear hbc
    generalize World.alloc w4 _ = w5 at *
    have ZT := Lib.hid (HT.out.fr T4.out.b.f)
    obtain ⟨i0, i1, i2, i3⟩ := T4.out.b.h.cells
    obtain ⟨c0, c1, c2, c3, c4⟩ := T4.out.c.cells
    obtain ⟨t0, t1⟩ := two_row T4.out.t
    dsimp only at i0 i1 i2 i3 c0 c1 c2 c3 c4
    go_wp2_with fail
    with_reducible refine (OF.out _ ZT.out).mono ?_
    rintro v w6 ⟨rfl, hf⟩
    have T6 := Lib.hid (T4.out.fr hf)
    clear hf i0 i1 i2 i3 c0 c1 c2 c3 c4 t0 t1 T4 OF ZT
    obtain ⟨i0, i1, i2, i3⟩ := T6.out.b.h.cells
    obtain ⟨t0, t1⟩ := two_row T6.out.t
    dsimp only at i0 i1 i2 i3
    go_wp2_with fail
    with_reducible refine (MA.out _).mono ?_
    rintro v w7 ⟨rfl, hf⟩
    have T7 := Lib.hid (T6.out.fr hf)
    clear hf i0 i1 i2 i3 t0 t1 T6 MA
    obtain ⟨i0, i1, i2, i3⟩ := T7.out.b.h.cells
    obtain ⟨t0, t1⟩ := two_row T7.out.t
    dsimp only at i0 i1 i2 i3
    rcases HR.out with ⟨h1, h2⟩ | ⟨h1, h2⟩
    · subst h1 h2
      clear HR
      rcases W5.out with ⟨z, W8⟩ | ⟨z, W8⟩
      · have z1 : decide (q - a < 0) = true := decide_eq_true z
        clear W5 G0
        go_wp2
        go_ret
        exact ⟨rfl, T7.out.b.f⟩
      · have z1 : decide (q - a < 0) = false := decide_eq_false (by omega)
        clear W5 G0 z
        rw [W8] at W4 z1
        go_wp2
        go_ret
        exact ⟨rfl, T7.out.b.f⟩
    · subst h1 h2
      clear HR W5 W4 W6 W7 G0
      go_wp2
      go_ret
      exact ⟨rfl, T7.out.b.f⟩
  · have V := Lib.hid (fun W => valid_any h W false (decide_eq_false hk).symm)
    clear hk hT a10 a11 a20 a21 a30 a31
    obtain ⟨hc, hfl, hs, hd⟩ := h
    dsimp only [Ho.v, Ho.box] at *
    go_enter Tryd.func5, Tryd.ntmps5
    go_wp2_with fail
    generalize World.alloc w _ = w0 at *
    have Z0 := Lib.hid (HT.out.fr TB.out.f)
    with_reducible refine (efirst_any _ Z0.out).mono ?_
    rintro v w1 ⟨rfl, hf⟩
    have T1 := Lib.hid (TB.out.fr hf)
    clear hf TB Z0
    obtain ⟨i0, i1, i2, i3⟩ := T1.out.h.cells
    dsimp only at i0 i1 i2 i3
    go_wp2_with fail
    with_reducible refine (V.out _).mono ?_
    rintro v w2 ⟨rfl, hf⟩
    have T2 := Lib.hid (T1.out.fr hf)
    clear hf i0 i1 i2 i3 T1
    go_wp2
    go_ret
    exact ⟨rfl, T2.out.f⟩
theorem enear_walk (h : Ho) (k1 k2 k3 : Int) (a10 : -9223372036854775808 ≤ k1) (a11 : k1 ≤ 9223372036854775807) (a20 : -9223372036854775808 ≤ k2) (a21 : k2 ≤ 9223372036854775807) (a30 : -9223372036854775808 ≤ k3) (a31 : k3 ≤ 9223372036854775807) (W : World) (hT : Tz W) :
    Calls Tryd.prog 5 #[h.v, .int .i64 k1, .int .i64 k2, .int .i64 k3] W fun x w' => x = .returned (.bool true) ∧ W.grownBy w' none :=
  (enear_true h k1 k2 k3 a10 a11 a20 a21 a30 a31 W hT).mono fun _ _ ⟨he, hf⟩ => ⟨he, hf.grown (by simp)⟩
end Go.Proofs.YtdmomnhacijmpaaDoor
