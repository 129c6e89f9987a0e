/- Any car comes to any call within the bound. -/
import Derived.Test.YtdmomnhacijmpaaDoorGEta
namespace Go.Proofs.YtdmomnhacijmpaaDoor
open Go.RowKit

set_option maxHeartbeats 4000000 in
set_option maxRecDepth 100000 in
theorem ebound_true (h : Ho) (c : Ca) (s : Sp) (q e : Int) (hc : c.k ≤ 9223372036854775807) (ok : s.ok) (w : World) (hT : Tz w) :
    Calls Tryd.prog 6 #[h.v, c.v, s.v, callV q e] w fun x w' => x = .returned (.bool true) ∧ Fr w w' [] := by
  have TB := Lib.hid (LE.new w h c s q e)
  have HT := Lib.hid hT
  by_cases hk : h.ok
  · have V := Lib.hid (fun W => valid_any h W true (decide_eq_true hk).symm)
    obtain ⟨bm, hbm⟩ : ∃ b, b = decide (mayC h.f q e) := ⟨_, rfl⟩
    obtain ⟨br, hbr⟩ : ∃ b, b = c.right h := ⟨_, rfl⟩
    have MA := Lib.hid (fun W => dmay_any h.f q e hk.2.1.1 hk.2.1.2 W bm hbm)
    have RG := Lib.hid (fun W => cright_any h c W br hbr)
    obtain ⟨r, H⟩ := EtaV.some h c ok q e
    have OF := Lib.hid (fun W hT => eta_any h c s q e W hk ok hT hc r H)
    obtain ⟨G, hG⟩ : ∃ G, G = 3 * h.f * (h.s + h.d + 2) := ⟨_, rfl⟩
    have hf := hk.2.1
    have hs := hk.2.2.1
    have hd := hk.2.2.2
    have g0 : 0 ≤ G ∧ G ≤ 3456 := by
      have a : 3 * h.f * (h.s + h.d + 2) ≤ 192 * 18 := Int.mul_le_mul (by omega) (by omega) (by omega) (by omega)
      have b := Int.mul_nonneg (show 0 ≤ 3 * h.f by omega) (show 0 ≤ h.s + h.d + 2 by omega)
      omega
    have W1 : IntKind.i64.wrap (3 * h.f) = 3 * h.f := IntWalk.i64_in _ (by omega)
    have W2 : IntKind.i64.wrap (h.s + h.d) = h.s + h.d := IntWalk.i64_in _ (by omega)
    have W3 : IntKind.i64.wrap (h.s + h.d + 2) = h.s + h.d + 2 := IntWalk.i64_in _ (by omega)
    have W4 : IntKind.i64.wrap (3 * h.f * (h.s + h.d + 2)) = G := by rw [← hG]; exact IntWalk.i64_in _ (by omega)
    have W5 : IntKind.i64.wrap (2 * h.d) = 2 * h.d := IntWalk.i64_in _ (by omega)
    have W6 : IntKind.i64.wrap (G + 2 * h.d) = G + 2 * h.d := IntWalk.i64_in _ (by omega)
    have W7 : IntKind.i64.wrap (G + 2 * h.d + h.s) = G + 2 * h.d + h.s := IntWalk.i64_in _ (by omega)
    have HV : Hid (bm = true → br = true → 1 ≤ r ∧ r ≤ G + 2 * h.d + h.s) := by
      refine Lib.hid fun a b => ?_
      rw [hbm, decide_eq_true_iff] at a
      rw [hbr, right_iff] at b
      rcases H with ⟨_, _, n, _, _, z, rfl⟩ | ⟨k, _⟩
      · exact ⟨by omega, by omega⟩
      · exact absurd ⟨b, a⟩ k
    clear hT hk ok hc H hbm hbr hG g0 hf hs hd
    obtain ⟨hc, hfl, hs, hd⟩ := h
    obtain ⟨⟨cp, ce, co, cr⟩, ck⟩ := c
    obtain ⟨sp, su, sd⟩ := s
    dsimp only [Ho.v, Ho.box, Ca.v, Ca.box, Sp.v, Sp.box, callV, callBox] at *
    go_enter Tryd.func6, Tryd.ntmps6
    go_wp2_with fail
    generalize World.alloc (World.alloc (World.alloc (World.alloc w _) _) _) _ = w0 at *
    have Z0 := Lib.hid (HT.out.fr TB.out.f)
    with_reducible refine (efirst_any _ Z0.out).mono ?_
    rintro v w1 ⟨rfl, hf⟩
    have T1 := Lib.hid (TB.out.fr hf)
    clear hf TB Z0
    obtain ⟨i0, i1, i2, i3⟩ := T1.out.h.cells
    dsimp only at i0 i1 i2 i3
    go_wp2_with fail
    with_reducible refine (V.out _).mono ?_
    rintro v w2 ⟨rfl, hf⟩
    have T2 := Lib.hid (T1.out.fr hf)
    clear hf i0 i1 i2 i3 T1
    obtain ⟨i0, i1, i2, i3⟩ := T2.out.h.cells
    obtain ⟨c0, c1, c2, c3, c4⟩ := T2.out.c.cells
    dsimp only at i0 i1 i2 i3 c0 c1 c2 c3 c4
    go_wp2_with fail
    with_reducible refine (RG.out _).mono ?_
    rintro v w3 ⟨rfl, hf⟩
    have T3 := Lib.hid (T2.out.fr hf)
    clear hf i0 i1 i2 i3 c0 c1 c2 c3 c4 T2
    cases br with
    | false =>
      clear HV W1 W2 W3 W4 W5 W6 W7
      go_wp2
      go_ret
      exact ⟨rfl, T3.out.f⟩
    | true =>
      obtain ⟨i0, i1, i2, i3⟩ := T3.out.h.cells
      obtain ⟨t0, t1⟩ := two_row T3.out.t
      dsimp only at i0 i1 i2 i3
      go_wp2_with fail
      with_reducible refine (MA.out _).mono ?_
      rintro v w4 ⟨rfl, hf⟩
      have T4 := Lib.hid (T3.out.fr hf)
      clear hf i0 i1 i2 i3 t0 t1 T3
      cases bm with
      | false =>
        clear HV W1 W2 W3 W4 W5 W6 W7
        go_wp2
        go_ret
        exact ⟨rfl, T4.out.f⟩
      | true =>
        obtain ⟨r1, r2⟩ := HV.out (by trivial) (by trivial)
        clear HV
        have d1 : decide (1 ≤ r) = true := decide_eq_true r1
        have d2 : decide (r ≤ G + 2 * hd + hs) = true := decide_eq_true r2
        have ZT := Lib.hid (HT.out.fr T4.out.f)
        obtain ⟨i0, i1, i2, i3⟩ := T4.out.h.cells
        obtain ⟨c0, c1, c2, c3, c4⟩ := T4.out.c.cells
        obtain ⟨s0, s1, s2⟩ := arow T4.out.s
        obtain ⟨t0, t1⟩ := two_row T4.out.t
        dsimp only at i0 i1 i2 i3 c0 c1 c2 c3 c4 s0 s1 s2
        go_wp2_with fail
        with_reducible refine (OF.out _ ZT.out).mono ?_
        rintro v w5 ⟨rfl, hf⟩
        have T5 := Lib.hid (T4.out.fr hf)
        clear hf i0 i1 i2 i3 c0 c1 c2 c3 c4 s0 s1 s2 t0 t1 T4
        obtain ⟨i0, i1, i2, i3⟩ := T5.out.h.cells
        dsimp only at i0 i1 i2 i3
        go_wp2
        go_ret
        exact ⟨rfl, T5.out.f⟩
  · have V := Lib.hid (fun W => valid_any h W false (decide_eq_false hk).symm)
    clear hk ok hc hT
    obtain ⟨hc, hfl, hs, hd⟩ := h
    obtain ⟨⟨cp, ce, co, cr⟩, ck⟩ := c
    obtain ⟨sp, su, sd⟩ := s
    dsimp only [Ho.v, Ho.box, Ca.v, Ca.box, Sp.v, Sp.box, callV, callBox] at *
    go_enter Tryd.func6, Tryd.ntmps6
    go_wp2_with fail
    generalize World.alloc (World.alloc (World.alloc (World.alloc w _) _) _) _ = w0 at *
    have Z0 := Lib.hid (HT.out.fr TB.out.f)
    with_reducible refine (efirst_any _ Z0.out).mono ?_
    rintro v w1 ⟨rfl, hf⟩
    have T1 := Lib.hid (TB.out.fr hf)
    clear hf TB Z0
    obtain ⟨i0, i1, i2, i3⟩ := T1.out.h.cells
    dsimp only at i0 i1 i2 i3
    go_wp2_with fail
    with_reducible refine (V.out _).mono ?_
    rintro v w2 ⟨rfl, hf⟩
    have T2 := Lib.hid (T1.out.fr hf)
    clear hf i0 i1 i2 i3 T1
    go_wp2
    go_ret
    exact ⟨rfl, T2.out.f⟩
theorem ebound_walk (h : Ho) (c : Ca) (s : Sp) (q e : Int) (hc : c.k ≤ 9223372036854775807) (ok : s.ok) (W : World) (hT : Tz W) :
    Calls Tryd.prog 6 #[h.v, c.v, s.v, callV q e] W fun x w' => x = .returned (.bool true) ∧ W.grownBy w' none :=
  (ebound_true h c s q e hc ok W hT).mono fun _ _ ⟨he, hf⟩ => ⟨he, hf.grown (by simp)⟩
end Go.Proofs.YtdmomnhacijmpaaDoor
