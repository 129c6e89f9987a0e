/- A car with nothing to do stays. -/
import Derived.Test.YtgcgbiaigbblkaaDoorCLaw
import Derived.Test.YtgcgbiaigbblkaaDoorCaPass
namespace Go.Proofs.YtgcgbiaigbblkaaDoor
open Go.RowKit

theorem fit_none (h : Ho) : h.fit zSp = zSp := by
  simp [Ho.fit, zSp, lowN, clrN]
theorem zSp_ok : zSp.ok := ⟨zero_lt64, zero_lt64, zero_lt64⟩
theorem stay_step {h : Ho} (hk : h.ok) {F : Int} (f0 : 0 ≤ F) (f1 : F < h.f) {e : Int} (e0 : -1 ≤ e) (e1 : e ≤ 1) (ob : Bool) :
    (Ca.mk ⟨F * h.s, e, 0, false⟩ 0).tick h zSp ob = (⟨⟨F * h.s, 0, 0, false⟩, 0⟩, ⟨false, false, F, 0, 0, zSp⟩) := by
  obtain ⟨p0, p1, fl, lv⟩ := flr_lev hk f0 f1
  have hf := hk.2.1.2
  have R : RightIs h (Ca.mk ⟨F * h.s, e, 0, false⟩ 0) := ⟨hk, p0, p1, e0, e1, show (0 : Int) ≤ 0 by decide, show (0 : Int) ≤ h.d by have := hk.2.2.2.1; omega, fun g => absurd g (show ¬ (0 : Int) < 0 by decide), .inl lv, .inl rfl⟩
  have Z := zero_head zSp_ok (show zSp.all = 0 by decide) (f := F) f0 (by omega) (small_dir e0 e1)
  rw [tick_go R (show ¬ (0 : Int) < 0 by decide) lv ob (by rw [fit_none]; show zSp.stop (h.flr (F * h.s)) e = false; rw [fl]; exact Z.2)]
  dsimp only
  rw [fit_none, fl, Z.1, Int.add_zero, fl]

set_option maxHeartbeats 4000000 in
set_option maxRecDepth 100000 in
theorem stays_true (h : Ho) (k1 k2 k3 : Int) (a10 : -9223372036854775808 ≤ k1) (a11 : k1 ≤ 9223372036854775807) (a20 : -9223372036854775808 ≤ k2) (a21 : k2 ≤ 9223372036854775807) (a30 : -9223372036854775808 ≤ k3) (a31 : k3 ≤ 9223372036854775807) (w : World) (hT : Tz w) :
    Calls Tryd.prog 8 #[h.v, .int .i64 k1, .int .i64 k2, .int .i64 k3] w fun x w' => x = .returned (.bool true) ∧ Fr w w' [] := by
  have TB := Lib.hid (LB.new w h)
  have HT := Lib.hid hT
  by_cases hk : h.ok
  · have V := Lib.hid (fun W => valid_any h W true (decide_eq_true hk).symm)
    have hfl := hk.2.1
    have hsl := hk.2.2.1
    have N1 := Lib.hid (fun W => numberTo_any k1 h.f W (by omega) (by omega) a10 a11)
    have NU := Lib.hid (fun W => numberTo_any k2 3 W (by omega) (by omega) a20 a21)
    have N3 := Lib.hid (fun W => numberTo_any k3 30 W (by omega) (by omega) a30 a31)
    have P10 := Int.emod_nonneg k1 (show h.f ≠ 0 by omega)
    have P11 := Int.emod_lt_of_pos k1 (show 0 < h.f by omega)
    have P20 := Int.emod_nonneg k2 (show (3 : Int) ≠ 0 by omega)
    have P21 := Int.emod_lt_of_pos k2 (show (0 : Int) < 3 by omega)
    have P30 := Int.emod_nonneg k3 (show (30 : Int) ≠ 0 by omega)
    have P31 := Int.emod_lt_of_pos k3 (show (0 : Int) < 30 by omega)
    obtain ⟨F, hF⟩ : ∃ F, k1 % h.f = F := ⟨_, rfl⟩
    obtain ⟨r, hr⟩ : ∃ r, k2 % 3 = r := ⟨_, rfl⟩
    obtain ⟨n, hn⟩ : ∃ n, k3 % 30 = n := ⟨_, rfl⟩
    rw [hF] at N1 P10 P11
    rw [hr] at NU P20 P21
    rw [hn] at N3 P30 P31
    clear hF hr hn a10 a11 a20 a21 a30 a31
    have TI := Lib.hid (fun (e : Int) (e0 : -1 ≤ e) (e1 : e ≤ 1) (ob : Bool) W hT => ctick_any h ⟨⟨F * h.s, e, 0, false⟩, 0⟩ zSp ob W zSp_ok hT (by decide : (0 : Int) ≤ 9223372036854775807) ⟨⟨F * h.s, 0, 0, false⟩, 0⟩ ⟨false, false, F, 0, 0, zSp⟩ (stay_step hk P10 P11 e0 e1 ob))
    obtain ⟨q0, q1, _, _⟩ := flr_lev hk P10 P11
    have hr' := Ho.range hk
    obtain ⟨P, hP⟩ : ∃ P, F * h.s = P := ⟨_, rfl⟩
    rw [hP] at TI q0 q1
    have hw1 : IntKind.i64.wrap (F * h.s) = P := by rw [hP]; exact IntWalk.i64_in _ (by omega)
    obtain ⟨e, he⟩ : ∃ e, e = r - 1 := ⟨_, rfl⟩
    have hw2 : IntKind.i64.wrap (r - 1) = e := by rw [he]; exact IntWalk.i64_in _ (by omega)
    have HE := Lib.hid (show -1 ≤ e ∧ e ≤ 1 by omega)
    obtain ⟨N, hN⟩ : ∃ N, N = n + 1 := ⟨_, rfl⟩
    have hw3 : IntKind.i64.wrap (n + 1) = N := by rw [hN]; exact IntWalk.i64_in _ (by omega)
    have HN := Lib.hid (show 1 ≤ N ∧ N ≤ 30 by omega)
    clear hP he hN q0 q1 hr' P20 P21 P30 P31 hT hfl hsl hk P10 P11
    obtain ⟨hc, hfl, hs, hd⟩ := h
    dsimp only [Ho.v, Ho.box, Ca.v, Ca.box, Sp.v, Sp.box, Dn.v, Dn.box, zSp] at *
    simp only [show ((0 : Nat) : Int) = 0 from rfl] at TI
    go_enter Tryd.func8, Tryd.ntmps8
    go_wp2_with fail
    have Z0 := Lib.hid (HT.out.fr TB.out.f)
    with_reducible refine (cfirst_any _ Z0.out).mono ?_
    rintro v w1 ⟨rfl, hf⟩
    have T1 := Lib.hid (TB.out.fr hf)
    clear hf TB Z0
    obtain ⟨c0, c1, c2, c3⟩ := T1.out.h.cells
    dsimp only at c0 c1 c2 c3
    go_wp2_with fail
    with_reducible refine (V.out _).mono ?_
    rintro v w2 ⟨rfl, hf⟩
    have T2 := Lib.hid (T1.out.fr hf)
    clear hf c0 c1 c2 c3 T1
    obtain ⟨c0, c1, c2, c3⟩ := T2.out.h.cells
    dsimp only at c0 c1 c2 c3
    go_wp2_with fail
    with_reducible refine (N1.out _).mono ?_
    rintro v w3 ⟨rfl, rfl⟩
    go_wp2_with fail
    clear c0 c1 c2 c3
    refine wp_region_noPanic ?_
    refine wp_region_mix (M := F4 w2 w.heap.size ⟨hc, hfl, hs, hd⟩) (fun i => match i with | 9 => some (ptrTo, zCa.box) | _ => none) [] w2.heap.size 10 (by kernel_rfl) (by kernel_rfl) (by kernel_rfl) (F4.lasts _ _ _) F4.size (F4.lasts _ _ _ _ _ (F4.of (Fr.refl _ _) T2.out.h) (Fr.drew _ [])) ?_
    refine wpMixU_take (i := 0) (oi := _) (v := ?mv1) (by decide) (by kernel_rfl) (by simp only [List.getElem?_toArray, List.getElem?_cons_zero]; rfl) (by rfl) (by kernel_rfl) (by kernel_rfl) (by kernel_rfl) (by rfl) ?my1 ?mr1
    case my1 => (intro M' hst him w hM; have hSw := him w hM; (try dsimp only [F4] at hSw); go_simp; refine Came.value ?_ hM; with_reducible rfl)
    try simp only [Act.put, List.setIfInBounds_toArray, List.set_cons_zero, List.set_cons_succ]
    refine wpMixU_take (i := 1) (oi := _) (v := ?mv2) (by decide) (by kernel_rfl) (by simp only [List.getElem?_toArray, List.getElem?_cons_zero, List.getElem?_cons_succ]; rfl) (by rfl) (by kernel_rfl) (by kernel_rfl) (by kernel_rfl) (by rfl) ?my2 ?mr2
    case my2 => (intro M' hst him w hM; have hSw := him w hM; (try dsimp only [F4] at hSw); go_simp; refine Came.value ?_ hM; with_reducible rfl)
    try simp only [Act.put, List.setIfInBounds_toArray, List.set_cons_zero, List.set_cons_succ]
    refine wpMixU_take (i := 2) (oi := _) (v := ?mv3) (by decide) (by kernel_rfl) (by simp only [List.getElem?_toArray, List.getElem?_cons_zero, List.getElem?_cons_succ]; rfl) (by rfl) (by kernel_rfl) (by kernel_rfl) (by kernel_rfl) (by rfl) ?my3 ?mr3
    case my3 => (intro M' hst him w hM; have hSw := him w hM; (try dsimp only [F4] at hSw); go_simp; refine Came.value ?_ hM; with_reducible rfl)
    try simp only [Act.put, List.setIfInBounds_toArray, List.set_cons_zero, List.set_cons_succ]
    refine wpMixU_take (i := 3) (oi := _) (v := ?mv4) (by decide) (by kernel_rfl) (by simp only [List.getElem?_toArray, List.getElem?_cons_zero, List.getElem?_cons_succ]; rfl) (by rfl) (by kernel_rfl) (by kernel_rfl) (by kernel_rfl) (by rfl) ?my4 ?mr4
    case my4 => (intro M' hst him w hM; have hSw := him w hM; (try dsimp only [F4] at hSw); go_simp; refine Came.value ?_ hM; with_reducible rfl)
    try simp only [Act.put, List.setIfInBounds_toArray, List.set_cons_zero, List.set_cons_succ]
    refine wpMixU_take (i := 4) (oi := _) (v := ?mv5) (by decide) (by kernel_rfl) (by simp only [List.getElem?_toArray, List.getElem?_cons_zero, List.getElem?_cons_succ]; rfl) (by rfl) (by kernel_rfl) (by kernel_rfl) (by kernel_rfl) (by rfl) ?my5 ?mr5
    case my5 => (intro M' hst him w hM; have hSw := him w hM; (try dsimp only [F4] at hSw); go_simp; refine Came.value ?_ hM; with_reducible rfl)
    try simp only [Act.put, List.setIfInBounds_toArray, List.set_cons_zero, List.set_cons_succ]
    refine wpMixU_take (i := 5) (oi := _) (v := ?mv6) (by decide) (by kernel_rfl) (by simp only [List.getElem?_toArray, List.getElem?_cons_zero, List.getElem?_cons_succ]; rfl) (by rfl) (by kernel_rfl) (by kernel_rfl) (by kernel_rfl) (by rfl) ?my6 ?mr6
    case my6 => (intro M' hst him w hM; have hSw := him w hM; (try dsimp only [F4] at hSw); go_simp; exact Came.call ((NU.out w).mono fun e w' ⟨he, hf⟩ => ⟨he, hf ▸ hM⟩) (by with_reducible rfl))
    try simp only [Act.put, List.setIfInBounds_toArray, List.set_cons_zero, List.set_cons_succ]
    refine wpMixU_take (i := 6) (oi := _) (v := ?mv7) (by decide) (by kernel_rfl) (by simp only [List.getElem?_toArray, List.getElem?_cons_zero, List.getElem?_cons_succ]; rfl) (by rfl) (by kernel_rfl) (by kernel_rfl) (by kernel_rfl) (by rfl) ?my7 ?mr7
    case my7 => (intro M' hst him w hM; have hSw := him w hM; (try dsimp only [F4] at hSw); go_simp; refine Came.value ?_ hM; with_reducible rfl)
    try simp only [Act.put, List.setIfInBounds_toArray, List.set_cons_zero, List.set_cons_succ]
    refine wpMixU_take (i := 7) (oi := _) (v := ?mv8) (by decide) (by kernel_rfl) (by simp only [List.getElem?_toArray, List.getElem?_cons_zero, List.getElem?_cons_succ]; rfl) (by rfl) (by kernel_rfl) (by kernel_rfl) (by kernel_rfl) (by rfl) ?my8 ?mr8
    case my8 => (intro M' hst him w hM; have hSw := him w hM; (try dsimp only [F4] at hSw); go_simp; refine Came.value ?_ hM; with_reducible rfl)
    try simp only [Act.put, List.setIfInBounds_toArray, List.set_cons_zero, List.set_cons_succ]
    refine wpMixU_take (i := 8) (oi := _) (v := ?mv9) (by decide) (by kernel_rfl) (by simp only [List.getElem?_toArray, List.getElem?_cons_zero, List.getElem?_cons_succ]; rfl) (by rfl) (by kernel_rfl) (by kernel_rfl) (by kernel_rfl) (by rfl) ?my9 ?mr9
    case my9 => (intro M' hst him w hM; have hSw := him w hM; (try dsimp only [F4] at hSw); go_simp; refine Came.value ?_ hM; with_reducible rfl)
    try simp only [Act.put, List.setIfInBounds_toArray, List.set_cons_zero, List.set_cons_succ]
    refine wpMixU_new (i := 9) (oi := _) [9] (by decide) (by kernel_rfl) (by simp only [List.getElem?_toArray, List.getElem?_cons_zero, List.getElem?_cons_succ]; rfl) (by rfl) (by kernel_rfl) (by kernel_rfl) (by kernel_rfl) (by kernel_rfl) (by kernel_rfl) (by kernel_rfl) (by rfl) ?my10 ?mr10
    case my10 => (intro w; go_simp; first | done | rfl | exact ⟨rfl, rfl⟩)
    intro p9
    try simp only [ptrTo, oneTo]
    try simp only [Act.put, List.setIfInBounds_toArray, List.set_cons_zero, List.set_cons_succ]
    refine wpMixU_tail (fun _ => True) (by kernel_rfl) (fun _ _ => trivial) ?_
    intro w5 hM
    have T5 := Lib.hid (show LH w p9 ⟨hc, hfl, hs, hd⟩ zCa w5 from ⟨T2.out.f.trans hM.1.1, T2.out.h.fr hM.1.1, hM.2.2, Nat.lt_of_lt_of_le (size_of_row T2.out.h) hM.2.1⟩)
    have T6 := Lib.hid (T5.out.car ⟨⟨P, e, 0, false⟩, 0⟩)
    clear hM T2
    obtain ⟨r0, r1, r2, r3, r4⟩ := T5.out.c.cells
    have y0 := T5.out.c.fz 0
    have y1 := T5.out.c.fz 1
    have y2 := T5.out.c.fz 2
    have y3 := T5.out.c.fz 3
    have y4 := T5.out.c.fz 4
    dsimp only [zCa, carSet] at *
    refine wpAnyH_ready (rs := [10]) (by kernel_rfl) (by simp) ?_
    refine AllReadyH.cons (o := _) rfl (fun K hK => ?_) AllReadyH.nil
    go_simp
    refine hK.out _ _ trivial (fun hHeld => ?_)
    clear hK K
    try simp only [Act.put, List.setIfInBounds_toArray, List.set_cons_zero, List.set_cons_succ]
    refine wpAnyH_done (by kernel_rfl) ?_ _
    refine NoPanic.normal ?_
    clear hHeld
    generalize World.setCell (World.setCell (World.setCell (World.setCell (World.setCell w5 _ _) _ _) _ _) _ _) _ _ = w6 at *
    clear r0 r1 r2 r3 r4 y0 y1 y2 y3 y4 T5 N1 NU V hw1 hw2
    go_wp2
    go_loopw [11] (fun i wx => ∃ k e : Int, i = .int .i64 k ∧ Hid (0 ≤ k ∧ k ≤ N) ∧ Hid (-1 ≤ e ∧ e ≤ 1) ∧ Hid (LH w p9 ⟨hc, hfl, hs, hd⟩ ⟨⟨P, e, 0, false⟩, 0⟩ wx)) (fun i _ => (N - intOf i).toNat)
    case atStart => exact ⟨0, e, rfl, (by show _ ∧ _; have := HN.out; omega), HE, T6⟩
    case round =>
      clear T6 HE
      obtain ⟨k, e', rfl, HK, HE', HLx⟩ := hrel
      obtain ⟨hk0, hk1⟩ := HK.out
      have hkN := HN.out
      obtain ⟨i0, i1, i2, i3⟩ := HLx.out.h.cells
      obtain ⟨c0, c1, c2, c3, c4⟩ := HLx.out.c.cells
      have ZT := Lib.hid (HT.out.fr HLx.out.f)
      dsimp only at i0 i1 i2 i3 c0 c1 c2 c3 c4
      by_cases hlt : k < N
      · have TK := Lib.hid (fun ob W hT => TI.out e' HE'.out.1 HE'.out.2 ob W hT)
        clear TI
        go_wp2_with fail
        with_reducible refine (N3.out _).mono ?_
        rintro v w3 ⟨rfl, rfl⟩
        go_wp2_with fail
        with_reducible refine (TK.out _ _ ZT.out).mono ?_
        rintro v w3 ⟨rfl, hf⟩
        have T7 := Lib.hid ((HLx.out.fr hf).fr (two_fr w3 ⟨⟨P, 0, 0, false⟩, 0⟩ ⟨false, false, F, 0, 0, zSp⟩))
        have T8 := Lib.hid (T7.out.car ⟨⟨P, 0, 0, false⟩, 0⟩)
        clear hf i0 i1 i2 i3 c0 c1 c2 c3 c4 HLx ZT TK
        obtain ⟨c0, c1, c2, c3, c4⟩ := T7.out.c.cells
        have y0 := T7.out.c.fz 0
        have y1 := T7.out.c.fz 1
        have y2 := T7.out.c.fz 2
        have y3 := T7.out.c.fz 3
        have y4 := T7.out.c.fz 4
        dsimp only [Ca.box, Dn.box, zSp, carSet] at T8 c0 c1 c2 c3 c4 y0 y1 y2 y3 y4
        simp only [show ((0 : Nat) : Int) = 0 from rfl] at T8 c0 c1 c2 c3 c4 y0 y1 y2 y3 y4
        go_wp2
        go_roundw
        case rel => exact ⟨k + 1, 0, by go_num, (by show _ ∧ _; omega), Lib.hid (by decide), T8⟩
        case measure => simp [intOf]; omega
      · obtain rfl : N = k := by omega
        clear TI
        go_wp2_with fail
        with_reducible refine (N3.out _).mono ?_
        rintro v w3 ⟨rfl, rfl⟩
        go_wp2
        go_ret
        exact ⟨rfl, HLx.out.f⟩
  · have V := Lib.hid (fun W => valid_any h W false (decide_eq_false hk).symm)
    clear hk hT a10 a11 a20 a21 a30 a31
    obtain ⟨hc, hfl, hs', hd⟩ := h
    dsimp only [Ho.v, Ho.box] at *
    go_enter Tryd.func8, Tryd.ntmps8
    go_wp2_with fail
    have Z0 := Lib.hid (HT.out.fr TB.out.f)
    with_reducible refine (cfirst_any _ Z0.out).mono ?_
    rintro v w1 ⟨rfl, hf⟩
    have T1 := Lib.hid (TB.out.fr hf)
    clear hf TB Z0
    obtain ⟨c0, c1, c2, c3⟩ := T1.out.h.cells
    dsimp only at c0 c1 c2 c3
    go_wp2_with fail
    with_reducible refine (V.out _).mono ?_
    rintro v w2 ⟨rfl, hf⟩
    have T2 := Lib.hid (T1.out.fr hf)
    clear hf
    go_wp2
    go_ret
    exact ⟨rfl, T2.out.f⟩
theorem cstays_walk (h : Ho) (k1 k2 k3 : Int) (a10 : -9223372036854775808 ≤ k1) (a11 : k1 ≤ 9223372036854775807) (a20 : -9223372036854775808 ≤ k2) (a21 : k2 ≤ 9223372036854775807) (a30 : -9223372036854775808 ≤ k3) (a31 : k3 ≤ 9223372036854775807) (W : World) (hT : Tz W) :
    Calls Tryd.prog 8 #[h.v, .int .i64 k1, .int .i64 k2, .int .i64 k3] W fun x w' => x = .returned (.bool true) ∧ W.grownBy w' none :=
  (stays_true h k1 k2 k3 a10 a11 a20 a21 a30 a31 W hT).mono fun _ _ ⟨he, hf⟩ => ⟨he, hf.grown (by simp)⟩
end Go.Proofs.YtgcgbiaigbblkaaDoor
