/- A car whose door stays open takes as long more as it stays open. -/
import Derived.Test.YtdmomnhacijmpaaDoorELaw
namespace Go.Proofs.YtdmomnhacijmpaaDoor
open Go.RowKit

set_option maxHeartbeats 4000000 in
set_option maxRecDepth 100000 in
theorem eopen_true (h : Ho) (k1 k2 q e : Int) (a10 : -9223372036854775808 ≤ k1) (a11 : k1 ≤ 9223372036854775807) (a20 : -9223372036854775808 ≤ k2) (a21 : k2 ≤ 9223372036854775807) (w : World) (hT : Tz w) :
    Calls Tryd.prog 3 #[h.v, .int .i64 k1, .int .i64 k2, callV q e] w fun x w' => x = .returned (.bool true) ∧ Fr w w' [] := by
  have TB := Lib.hid (LP.new w h q e)
  have HT := Lib.hid hT
  by_cases hk : h.ok
  · have V := Lib.hid (fun W => valid_any h W true (decide_eq_true hk).symm)
    have hf := hk.2.1
    have hs := hk.2.2.1
    have hd := hk.2.2.2
    have hr := Ho.range hk
    have NU := Lib.hid (fun W => numberTo_any k1 h.f W (by omega) (by omega) a10 a11)
    have N2 := Lib.hid (fun W => numberTo_any k2 h.d W (by omega) (by omega) a20 a21)
    have A0 := Int.emod_nonneg k1 (show h.f ≠ 0 by omega)
    have A1 := Int.emod_lt_of_pos k1 (show 0 < h.f by omega)
    have Q0 := Int.emod_nonneg k2 (show h.d ≠ 0 by omega)
    have Q1 := Int.emod_lt_of_pos k2 (show 0 < h.d by omega)
    obtain ⟨a, ha⟩ : ∃ a, k1 % h.f = a := ⟨_, rfl⟩
    obtain ⟨g, hg⟩ : ∃ g, k2 % h.d = g := ⟨_, rfl⟩
    rw [ha] at NU A0 A1
    rw [hg] at N2 Q0 Q1
    clear ha hg a10 a11 a20 a21
    obtain ⟨o, ho⟩ : ∃ o, o = g + 1 := ⟨_, rfl⟩
    have W1 : IntKind.i64.wrap (g + 1) = o := by rw [ho]; exact IntWalk.i64_in _ (by omega)
    obtain ⟨⟨p0, p1⟩, lv⟩ := lev_mul hk A0 A1
    obtain ⟨p, hp⟩ : ∃ p, p = a * h.s := ⟨_, rfl⟩
    rw [← hp] at p0 p1 lv
    have W3 : IntKind.i64.wrap (a * h.s) = p := by rw [← hp]; exact IntWalk.i64_in _ (by omega)
    have SA := Lib.hid (fun W => cstart_any h p W hk p0 p1 ⟨⟨p, 0, 0, false⟩, 0⟩ (start_lev hk lv).symm)
    obtain ⟨bm, hbm⟩ : ∃ b, b = decide (mayC h.f q e) := ⟨_, rfl⟩
    have MA := Lib.hid (fun W => dmay_any h.f q e hk.2.1.1 hk.2.1.2 W bm hbm)
    obtain ⟨r, H⟩ := EtaV.some h ⟨⟨p, 0, 0, false⟩, 0⟩ zSp_ok q e
    obtain ⟨r', H'⟩ := EtaV.some h ⟨⟨p, 0, o, false⟩, 0⟩ zSp_ok q e
    have OF := Lib.hid (fun W hT => eta_any h ⟨⟨p, 0, 0, false⟩, 0⟩ zSp q e W hk zSp_ok hT (by decide : (0 : Int) ≤ 9223372036854775807) r H)
    have OG := Lib.hid (fun W hT => eta_any h ⟨⟨p, 0, o, false⟩, 0⟩ zSp q e W hk zSp_ok hT (by decide : (0 : Int) ≤ 9223372036854775807) r' H')
    have HR : Hid (bm = true → r' = r + o ∧ IntKind.i64.wrap (r + o) = r + o) := by
      refine Lib.hid fun b => ?_
      have rg := H.range
      rw [hbm, decide_eq_true_iff] at b
      refine ⟨?_, IntWalk.i64_in _ (by omega)⟩
      rcases H with ⟨R, m, n, a1, b1, _, rfl⟩ | ⟨k, _⟩
      · rcases H' with ⟨R', m', n', a2, b2, _, rfl⟩ | ⟨k, _⟩
        · have OE := open_eta R lv (Sp.put_ok zSp_ok q e) a1 o.toNat (by omega)
          rw [show ((o.toNat : Nat) : Int) = o by omega] at OE
          have := a2.one OE
          omega
        · exact absurd ⟨lev_right hk lv (by omega) (by omega), m⟩ k
      · exact absurd ⟨lev_right hk lv (Int.le_refl 0) (by omega), b⟩ k
    clear hT hk H H' hbm hf hs hd hr A0 A1 Q0 Q1 p0 p1 lv hp ho
    obtain ⟨hc, hfl, hs, hd⟩ := h
    dsimp only [Ho.v, Ho.box, Ca.v, Ca.box, Sp.v, Sp.box, zSp, callV, callBox] at *
    simp only [show ((0 : Nat) : Int) = 0 from rfl] at *
    go_enter Tryd.func3, Tryd.ntmps3
    go_wp2_with fail
    generalize World.alloc (World.alloc w _) _ = w0 at *
    have Z0 := Lib.hid (HT.out.fr TB.out.f)
    with_reducible refine (efirst_any _ Z0.out).mono ?_
    rintro v w1 ⟨rfl, hf⟩
    have T1 := Lib.hid (TB.out.fr hf)
    clear hf TB Z0
    obtain ⟨i0, i1, i2, i3⟩ := T1.out.h.cells
    dsimp only at i0 i1 i2 i3
    go_wp2_with fail
    with_reducible refine (V.out _).mono ?_
    rintro v w2 ⟨rfl, hf⟩
    have T2 := Lib.hid (T1.out.fr hf)
    clear hf i0 i1 i2 i3 T1
    obtain ⟨i0, i1, i2, i3⟩ := T2.out.h.cells
    obtain ⟨t0, t1⟩ := two_row T2.out.t
    dsimp only at i0 i1 i2 i3
    go_wp2_with fail
    with_reducible refine (MA.out _).mono ?_
    rintro v w3 ⟨rfl, hf⟩
    have T3 := Lib.hid (T2.out.fr hf)
    clear hf i0 i1 i2 i3 t0 t1 T2 MA
    cases bm with
    | false =>
      clear HR W1 W3
      go_wp2
      go_ret
      exact ⟨rfl, T3.out.f⟩
    | true =>
      obtain ⟨h1, W5⟩ := HR.out (by trivial)
      subst h1
      clear HR
      go_wp2_with fail
      refine wp_region_noPanic ?_
      refine wp_region_mix (M := F4 w3 w.heap.size ⟨hc, hfl, hs, hd⟩) (fun i => match i with | 12 => some (ptrTo, zCa.box) | _ => none) [11] w3.heap.size 13 (by kernel_rfl) (by kernel_rfl) (by kernel_rfl) (F4.lasts _ _ _) F4.size (F4.lasts _ _ _ _ _ (F4.of (Fr.refl _ _) T3.out.h) (Fr.drew _ [])) ?_
      refine wpMixU_take (i := 0) (oi := _) (v := ?mv1) (by decide) (by kernel_rfl) (by simp only [List.getElem?_toArray, List.getElem?_cons_zero]; rfl) (by rfl) (by kernel_rfl) (by kernel_rfl) (by kernel_rfl) (by rfl) ?my1 ?mr1
      case my1 => (intro M' hst him w hM; have hSw := him w hM; (try dsimp only [F4] at hSw); go_simp; refine Came.value ?_ hM; with_reducible rfl)
      try simp only [Act.put, List.setIfInBounds_toArray, List.set_cons_zero, List.set_cons_succ]
      refine wpMixU_take (i := 1) (oi := _) (v := ?mv2) (by decide) (by kernel_rfl) (by simp only [List.getElem?_toArray, List.getElem?_cons_zero, List.getElem?_cons_succ]; rfl) (by rfl) (by kernel_rfl) (by kernel_rfl) (by kernel_rfl) (by rfl) ?my2 ?mr2
      case my2 => (intro M' hst him w hM; have hSw := him w hM; (try dsimp only [F4] at hSw); go_simp; refine Came.value ?_ hM; with_reducible rfl)
      try simp only [Act.put, List.setIfInBounds_toArray, List.set_cons_zero, List.set_cons_succ]
      refine wpMixU_take (i := 2) (oi := _) (v := ?mv3) (by decide) (by kernel_rfl) (by simp only [List.getElem?_toArray, List.getElem?_cons_zero, List.getElem?_cons_succ]; rfl) (by rfl) (by kernel_rfl) (by kernel_rfl) (by kernel_rfl) (by rfl) ?my3 ?mr3
      case my3 => (intro M' hst him w hM; have hSw := him w hM; (try dsimp only [F4] at hSw); go_simp; refine Came.value ?_ hM; with_reducible rfl)
      try simp only [Act.put, List.setIfInBounds_toArray, List.set_cons_zero, List.set_cons_succ]
      refine wpMixU_take (i := 3) (oi := _) (v := ?mv4) (by decide) (by kernel_rfl) (by simp only [List.getElem?_toArray, List.getElem?_cons_zero, List.getElem?_cons_succ]; rfl) (by rfl) (by kernel_rfl) (by kernel_rfl) (by kernel_rfl) (by rfl) ?my4 ?mr4
      case my4 => (intro M' hst him w hM; have hSw := him w hM; (try dsimp only [F4] at hSw); go_simp; refine Came.value ?_ hM; with_reducible rfl)
      try simp only [Act.put, List.setIfInBounds_toArray, List.set_cons_zero, List.set_cons_succ]
      refine wpMixU_take (i := 4) (oi := _) (v := ?mv5) (by decide) (by kernel_rfl) (by simp only [List.getElem?_toArray, List.getElem?_cons_zero, List.getElem?_cons_succ]; rfl) (by rfl) (by kernel_rfl) (by kernel_rfl) (by kernel_rfl) (by rfl) ?my5 ?mr5
      case my5 => (intro M' hst him w hM; have hSw := him w hM; (try dsimp only [F4] at hSw); go_simp; exact Came.call ((NU.out w).mono fun e w' ⟨he, hf⟩ => ⟨he, hf ▸ hM⟩) (by with_reducible rfl))
      try simp only [Act.put, List.setIfInBounds_toArray, List.set_cons_zero, List.set_cons_succ]
      refine wpMixU_take (i := 5) (oi := _) (v := ?mv6) (by decide) (by kernel_rfl) (by simp only [List.getElem?_toArray, List.getElem?_cons_zero, List.getElem?_cons_succ]; rfl) (by rfl) (by kernel_rfl) (by kernel_rfl) (by kernel_rfl) (by rfl) ?my6 ?mr6
      case my6 => (intro M' hst him w hM; have hSw := him w hM; (try dsimp only [F4] at hSw); go_simp; refine Came.value ?_ hM; with_reducible rfl)
      try simp only [Act.put, List.setIfInBounds_toArray, List.set_cons_zero, List.set_cons_succ]
      refine wpMixU_take (i := 6) (oi := _) (v := ?mv7) (by decide) (by kernel_rfl) (by simp only [List.getElem?_toArray, List.getElem?_cons_zero, List.getElem?_cons_succ]; rfl) (by rfl) (by kernel_rfl) (by kernel_rfl) (by kernel_rfl) (by rfl) ?my7 ?mr7
      case my7 => (intro M' hst him w hM; have hSw := him w hM; (try dsimp only [F4] at hSw); go_simp; refine Came.value ?_ hM; with_reducible rfl)
      try simp only [Act.put, List.setIfInBounds_toArray, List.set_cons_zero, List.set_cons_succ]
      refine wpMixU_take (i := 7) (oi := _) (v := ?mv8) (by decide) (by kernel_rfl) (by simp only [List.getElem?_toArray, List.getElem?_cons_zero, List.getElem?_cons_succ]; rfl) (by rfl) (by kernel_rfl) (by kernel_rfl) (by kernel_rfl) (by rfl) ?my8 ?mr8
      case my8 => (intro M' hst him w hM; have hSw := him w hM; (try dsimp only [F4] at hSw); go_simp; refine Came.value ?_ hM; with_reducible rfl)
      try simp only [Act.put, List.setIfInBounds_toArray, List.set_cons_zero, List.set_cons_succ]
      refine wpMixU_take (i := 8) (oi := _) (v := ?mv9) (by decide) (by kernel_rfl) (by simp only [List.getElem?_toArray, List.getElem?_cons_zero, List.getElem?_cons_succ]; rfl) (by rfl) (by kernel_rfl) (by kernel_rfl) (by kernel_rfl) (by rfl) ?my9 ?mr9
      case my9 => (intro M' hst him w hM; have hSw := him w hM; (try dsimp only [F4] at hSw); go_simp; exact Came.call ((SA.out w).mono fun e w' ⟨he, hf⟩ => ⟨he, hst _ _ hM hf⟩) (by with_reducible rfl))
      try simp only [Act.put, List.setIfInBounds_toArray, List.set_cons_zero, List.set_cons_succ]
      refine wpMixU_take (i := 9) (oi := _) (v := ?mv10) (by decide) (by kernel_rfl) (by simp only [List.getElem?_toArray, List.getElem?_cons_zero, List.getElem?_cons_succ]; rfl) (by rfl) (by kernel_rfl) (by kernel_rfl) (by kernel_rfl) (by rfl) ?my10 ?mr10
      case my10 => (intro M' hst him w hM; have hSw := him w hM; (try dsimp only [F4] at hSw); go_simp; refine Came.value ?_ hM; with_reducible rfl)
      try simp only [Act.put, List.setIfInBounds_toArray, List.set_cons_zero, List.set_cons_succ]
      refine wpMixU_take (i := 10) (oi := _) (v := ?mv11) (by decide) (by kernel_rfl) (by simp only [List.getElem?_toArray, List.getElem?_cons_zero, List.getElem?_cons_succ]; rfl) (by rfl) (by kernel_rfl) (by kernel_rfl) (by kernel_rfl) (by rfl) ?my11 ?mr11
      case my11 => (intro M' hst him w hM; have hSw := him w hM; (try dsimp only [F4] at hSw); go_simp; refine Came.value ?_ hM; with_reducible rfl)
      try simp only [Act.put, List.setIfInBounds_toArray, List.set_cons_zero, List.set_cons_succ]
      refine wpMixU_pure (i := 11) (oi := _) (v := ?mv12) (by decide) (by kernel_rfl) (by simp only [List.getElem?_toArray, List.getElem?_cons_zero, List.getElem?_cons_succ]; rfl) (fun _ _ _ _ h => (h : False).elim) (by kernel_rfl) (by kernel_rfl) (by kernel_rfl) (by rfl) ?my12 ?mr12
      case my12 => (intro w; go_simp; try with_reducible rfl)
      try simp only [Act.put, List.setIfInBounds_toArray, List.set_cons_zero, List.set_cons_succ]
      refine wpMixU_new (i := 12) (oi := _) [12] (by decide) (by kernel_rfl) (by simp only [List.getElem?_toArray, List.getElem?_cons_zero, List.getElem?_cons_succ]; rfl) (by rfl) (by kernel_rfl) (by kernel_rfl) (by kernel_rfl) (by kernel_rfl) (by kernel_rfl) (by kernel_rfl) (by rfl) ?my13 ?mr13
      case my13 => (intro w; go_simp; first | done | rfl | exact ⟨rfl, rfl⟩)
      intro p12
      try simp only [ptrTo, oneTo]
      try simp only [Act.put, List.setIfInBounds_toArray, List.set_cons_zero, List.set_cons_succ]
      refine wpMixU_tail (fun _ => True) (by kernel_rfl) (fun _ _ => trivial) ?_
      intro w5 hM
      have T5 := Lib.hid (show LO w p12 ⟨hc, hfl, hs, hd⟩ q e zCa w5 from ⟨T3.out.f.trans hM.1.1, T3.out.h.fr hM.1.1, hM.1.1.heap T3.out.t (by simp), hM.2.2, Nat.lt_of_lt_of_le (size_of_row T3.out.t) hM.2.1⟩)
      clear hM T3
      have T6 := Lib.hid (T5.out.car ⟨⟨p, 0, 0, false⟩, 0⟩)
      obtain ⟨r0', r1, r2, r3, r4⟩ := T5.out.c.cells
      have y0 := T5.out.c.fz 0
      have y1 := T5.out.c.fz 1
      have y2 := T5.out.c.fz 2
      have y3 := T5.out.c.fz 3
      have y4 := T5.out.c.fz 4
      dsimp only [zCa, carSet] at r0' r1 r2 r3 r4 T6
      refine wpAnyH_ready (rs := [13]) (by kernel_rfl) (by simp) ?_
      refine AllReadyH.cons (o := _) rfl (fun K hK => ?_) AllReadyH.nil
      go_simp
      refine hK.out _ _ trivial (fun hHeld => ?_)
      clear hK K
      try simp only [Act.put, List.setIfInBounds_toArray, List.set_cons_zero, List.set_cons_succ]
      refine wpAnyH_take (i := 14) (oi := _) (v := ?fv14t0n14) (by simp only [List.getElem?_toArray, List.getElem?_cons_zero, List.getElem?_cons_succ]; rfl) (by kernel_rfl) (by kernel_rfl) (by kernel_rfl) (fun _ _ _ h => h) (Or.inl ⟨by rfl, ?fy14t0n14⟩) (by assumption) ?fr14t0n14
      case fy14t0n14 => (intro w hSw; (try dsimp only at hSw); go_simp; try with_reducible rfl)
      try simp only [Act.put, List.setIfInBounds_toArray, List.set_cons_zero, List.set_cons_succ]
      refine wpAnyH_done (by kernel_rfl) ?_ _
      refine NoPanic.normal ?_
      clear hHeld
      generalize World.setCell (World.setCell (World.setCell (World.setCell (World.setCell w5 _ _) _ _) _ _) _ _) _ _ = w6 at *
      clear r0' r1 r2 r3 r4 y0 y1 y2 y3 y4 T5 NU V SA W3
      have ZT := Lib.hid (HT.out.fr T6.out.f)
      obtain ⟨i0, i1, i2, i3⟩ := T6.out.h.cells
      obtain ⟨c0, c1, c2, c3, c4⟩ := T6.out.c.cells
      obtain ⟨t0, t1⟩ := two_row T6.out.t
      dsimp only at i0 i1 i2 i3 c0 c1 c2 c3 c4
      go_wp2_with fail
      with_reducible refine (OF.out _ ZT.out).mono ?_
      rintro v w7 ⟨rfl, hf⟩
      have T7 := Lib.hid (T6.out.fr hf)
      clear hf i0 i1 i2 i3 c0 c1 c2 c3 c4 t0 t1 T6 OF ZT
      obtain ⟨i0, i1, i2, i3⟩ := T7.out.h.cells
      dsimp only at i0 i1 i2 i3
      go_wp2_with fail
      with_reducible refine (N2.out _).mono ?_
      rintro v w8 ⟨rfl, rfl⟩
      have T8 := Lib.hid (T7.out.door o)
      obtain ⟨c0, c1, c2, c3, c4⟩ := T7.out.c.cells
      have y2 := T7.out.c.fz 2
      dsimp only at c0 c1 c2 c3 c4
      dsimp only at T8
      go_upto_region 12 with fail
      generalize World.setCell w7 _ _ = w8 at *
      clear i0 i1 i2 i3 c0 c1 c2 c3 c4 y2 T7 N2 W1
      have ZT := Lib.hid (HT.out.fr T8.out.f)
      obtain ⟨i0, i1, i2, i3⟩ := T8.out.h.cells
      obtain ⟨c0, c1, c2, c3, c4⟩ := T8.out.c.cells
      obtain ⟨t0, t1⟩ := two_row T8.out.t
      dsimp only at i0 i1 i2 i3 c0 c1 c2 c3 c4
      go_wp2_with fail
      with_reducible refine (OG.out _ ZT.out).mono ?_
      rintro v w9 ⟨rfl, hf⟩
      have T9 := Lib.hid (T8.out.fr hf)
      clear hf i0 i1 i2 i3 c0 c1 c2 c3 c4 t0 t1 T8 OG ZT
      go_wp2
      go_ret
      exact ⟨rfl, T9.out.f⟩
  · have V := Lib.hid (fun W => valid_any h W false (decide_eq_false hk).symm)
    clear hk hT a10 a11 a20 a21
    obtain ⟨hc, hfl, hs, hd⟩ := h
    dsimp only [Ho.v, Ho.box, callV, callBox] at *
    go_enter Tryd.func3, Tryd.ntmps3
    go_wp2_with fail
    generalize World.alloc (World.alloc w _) _ = w0 at *
    have Z0 := Lib.hid (HT.out.fr TB.out.f)
    with_reducible refine (efirst_any _ Z0.out).mono ?_
    rintro v w1 ⟨rfl, hf⟩
    have T1 := Lib.hid (TB.out.fr hf)
    clear hf TB Z0
    obtain ⟨i0, i1, i2, i3⟩ := T1.out.h.cells
    dsimp only at i0 i1 i2 i3
    go_wp2_with fail
    with_reducible refine (V.out _).mono ?_
    rintro v w2 ⟨rfl, hf⟩
    have T2 := Lib.hid (T1.out.fr hf)
    clear hf i0 i1 i2 i3 T1
    go_wp2
    go_ret
    exact ⟨rfl, T2.out.f⟩
theorem eopen_walk (h : Ho) (k1 k2 q e : Int) (a10 : -9223372036854775808 ≤ k1) (a11 : k1 ≤ 9223372036854775807) (a20 : -9223372036854775808 ≤ k2) (a21 : k2 ≤ 9223372036854775807) (W : World) (hT : Tz W) :
    Calls Tryd.prog 3 #[h.v, .int .i64 k1, .int .i64 k2, callV q e] W fun x w' => x = .returned (.bool true) ∧ W.grownBy w' none :=
  (eopen_true h k1 k2 q e a10 a11 a20 a21 W hT).mono fun _ _ ⟨he, hf⟩ => ⟨he, hf.grown (by simp)⟩
end Go.Proofs.YtdmomnhacijmpaaDoor
