/- A car that goes on tick by tick opens its door to the call just at the tick that was estimated. -/
import Derived.Test.YtdmomnhacijmpaaDoorELaw
namespace Go.Proofs.YtdmomnhacijmpaaDoor
open Go.RowKit

theorem LE.st0 {W : World} {h : Ho} {c : Ca} {s : Sp} {q e : Int} {a : World} (k : LE W h c s q e a) (z : Nat) : LE W h c ⟨z, s.u, s.d⟩ q e (a.setCell ⟨W.heap.size + 2, 0, none⟩ (.int .u64 z)) :=
  have f := Fr.setCell a (W.heap.size + 2) 0 (.int .u64 z) (S := [W.heap.size + 2]) (by simp)
  ⟨k.f.new f (by simp), f.heap k.h (by simp), f.heap k.c (by simp), aput0 k.s _, f.heap k.t (by simp)⟩
theorem LE.st1 {W : World} {h : Ho} {c : Ca} {s : Sp} {q e : Int} {a : World} (k : LE W h c s q e a) (z : Nat) : LE W h c ⟨s.c, z, s.d⟩ q e (a.setCell ⟨W.heap.size + 2, 1, none⟩ (.int .u64 z)) :=
  have f := Fr.setCell a (W.heap.size + 2) 1 (.int .u64 z) (S := [W.heap.size + 2]) (by simp)
  ⟨k.f.new f (by simp), f.heap k.h (by simp), f.heap k.c (by simp), aput1 k.s _, f.heap k.t (by simp)⟩
theorem LE.st2 {W : World} {h : Ho} {c : Ca} {s : Sp} {q e : Int} {a : World} (k : LE W h c s q e a) (z : Nat) : LE W h c ⟨s.c, s.u, z⟩ q e (a.setCell ⟨W.heap.size + 2, 2, none⟩ (.int .u64 z)) :=
  have f := Fr.setCell a (W.heap.size + 2) 2 (.int .u64 z) (S := [W.heap.size + 2]) (by simp)
  ⟨k.f.new f (by simp), f.heap k.h (by simp), f.heap k.c (by simp), aput2 k.s _, f.heap k.t (by simp)⟩
/-- What a tick did, in a box behind the law's own. -/
structure ND (W : World) (m : Nat) (d : Dn) (a : World) : Prop where
  d : NB a m d
  lo : W.heap.size + 3 < m
theorem ND.far {W : World} {m : Nat} {d : Dn} {a a' : World} (k : ND W m d a) {b : Nat} (f : Fr a a' [b]) (hb : b ≤ W.heap.size + 3) : ND W m d a' := ⟨k.d.fr f (by have := k.lo; simp; omega), k.lo⟩

set_option maxHeartbeats 8000000 in
set_option maxRecDepth 100000 in
theorem eticks_true (h : Ho) (c : Ca) (s : Sp) (q e : Int) (hc : c.k ≤ 9223372036854775807) (ok : s.ok) (w : World) (hT : Tz w) :
    Calls Tryd.prog 7 #[h.v, c.v, s.v, callV q e] w fun x w' => x = .returned (.bool true) ∧ Fr w w' [] := by
  have TB := Lib.hid (LE.new w h c s q e)
  have HT := Lib.hid hT
  by_cases hk : h.ok
  · have V := Lib.hid (fun W => valid_any h W true (decide_eq_true hk).symm)
    obtain ⟨bm, hbm⟩ : ∃ b, b = decide (mayC h.f q e) := ⟨_, rfl⟩
    obtain ⟨br, hbr⟩ : ∃ b, b = c.right h := ⟨_, rfl⟩
    have MA := Lib.hid (fun W => dmay_any h.f q e hk.2.1.1 hk.2.1.2 W bm hbm)
    have RG := Lib.hid (fun W => cright_any h c W br hbr)
    obtain ⟨r, H⟩ := EtaV.some h c ok q e
    have OF := Lib.hid (fun W hT => eta_any h c s q e W hk ok hT hc r H)
    obtain ⟨z, hz⟩ : ∃ z, z = s.put q e := ⟨_, rfl⟩
    have zk : z.ok := by rw [hz]; exact Sp.put_ok ok q e
    have PU := Lib.hid (fun W => put_any s q e W ok z hz)
    have HV : Hid ((bm = true ∧ br = true ∧ ∃ n : Nat, EtaIs h c z q e n ∧ n < 4000 ∧ r = (n : Int) + 1) ∨ (¬ (bm = true ∧ br = true) ∧ r = 1048576)) := by
      refine Lib.hid ?_
      rcases H with ⟨R, m, n, a, b, _, rfl⟩ | ⟨g, rfl⟩
      · exact .inl ⟨by rw [hbm]; exact decide_eq_true m, by rw [hbr]; exact (right_iff h c).2 R, n, by rw [hz]; exact a, b, rfl⟩
      · refine .inr ⟨fun k => g ?_, rfl⟩
        rw [hbm, hbr, decide_eq_true_iff, right_iff] at k
        exact ⟨k.2, k.1⟩
    have ST0 : Hid (∀ (n k : Nat) (x : Ca) (t : Sp), EtaIs h c z q e n → k ≤ n → goC h c z k = (x, t) → x.k ≤ 9223372036854775807 → ∃ y d, (∀ W, Tz W → Calls Tryd.prog 18 #[h.v, x.v, t.v, .bool false] W fun v w' => v = .returned (.tuple #[y.v, d.v]) ∧ Fr W w' []) ∧
        y.k ≤ 9223372036854775807 ∧ t.ok ∧ d.st.ok ∧ opD d q e = decide (k = n) ∧ goC h c z (k + 1) = (y, t.less d.st)) := by
      refine Lib.hid ?_
      intro n k x t H kn hg hx
      have tk : t.ok := by have := goC_ok (h := h) (c := c) zk k; rw [hg] at this; exact this
      obtain ⟨y, d, hy⟩ : ∃ y d, x.tick h t false = (y, d) := ⟨_, _, rfl⟩
      refine ⟨y, d, fun W hW => ctick_any h x t false W tk hW hx y d hy, ?_, tk, ?_, ?_, ?_⟩
      · have := tick_held (h := h) (s := t) (ob := false) hx
        rw [hy] at this; exact this
      · have := tick_st_fine h x tk false
        rw [hy] at this; exact this
      · have e1 : hitC h c z q e k = opD d q e := by unfold hitC; rw [hg]; show opD (x.tick h t false).2 q e = _; rw [hy]
        rw [← e1]
        by_cases g : k = n
        · rw [decide_eq_true g, g]; exact H.hit
        · rw [decide_eq_false g]; exact H.no k (by omega)
      · simp only [goC]
        rw [hg]
        show ((x.tick h t false).1, t.less (x.tick h t false).2.st) = _
        rw [hy]
    have G0 := Lib.hid (show goC h c z 0 = (c, z) from rfl)
    have HC := Lib.hid hc
    obtain ⟨go, hgo⟩ : ∃ go, go = goC h c z := ⟨_, rfl⟩
    obtain ⟨is, his⟩ : ∃ is, is = EtaIs h c z q e := ⟨_, rfl⟩
    rw [← hgo] at ST0 G0
    rw [← his] at HV ST0
    clear hT hk H hbm hbr hz zk hc ok hgo his
    obtain ⟨hc, hfl, hs, hd⟩ := h
    obtain ⟨⟨cp, ce, co, cr⟩, ck⟩ := c
    obtain ⟨sp, su, sd⟩ := s
    obtain ⟨zp, zu, zd⟩ := z
    dsimp only [Ho.v, Ho.box, Ca.v, Ca.box, Sp.v, Sp.box, callV, callBox] at *
    go_enter Tryd.func7, Tryd.ntmps7
    go_wp2_with fail
    generalize World.alloc (World.alloc (World.alloc (World.alloc w _) _) _) _ = w0 at *
    have Z0 := Lib.hid (HT.out.fr TB.out.f)
    with_reducible refine (efirst_any _ Z0.out).mono ?_
    rintro v w1 ⟨rfl, hf⟩
    have T1 := Lib.hid (TB.out.fr hf)
    clear hf TB Z0
    obtain ⟨i0, i1, i2, i3⟩ := T1.out.h.cells
    dsimp only at i0 i1 i2 i3
    go_wp2_with fail
    with_reducible refine (V.out _).mono ?_
    rintro v w2 ⟨rfl, hf⟩
    have T2 := Lib.hid (T1.out.fr hf)
    clear hf i0 i1 i2 i3 T1 V
    obtain ⟨i0, i1, i2, i3⟩ := T2.out.h.cells
    obtain ⟨c0, c1, c2, c3, c4⟩ := T2.out.c.cells
    dsimp only at i0 i1 i2 i3 c0 c1 c2 c3 c4
    go_wp2_with fail
    with_reducible refine (RG.out _).mono ?_
    rintro v w3 ⟨rfl, hf⟩
    have T3 := Lib.hid (T2.out.fr hf)
    clear hf i0 i1 i2 i3 c0 c1 c2 c3 c4 T2 RG
    cases br with
    | false =>
      have HR : Hid (r = 1048576) := by
        rcases HV.out with ⟨_, k, _⟩ | ⟨_, k⟩
        · cases k
        · exact Lib.hid k
      have hr := HR.out
      subst hr
      have ZT := Lib.hid (HT.out.fr T3.out.f)
      obtain ⟨i0, i1, i2, i3⟩ := T3.out.h.cells
      obtain ⟨c0, c1, c2, c3, c4⟩ := T3.out.c.cells
      obtain ⟨s0, s1, s2⟩ := arow T3.out.s
      obtain ⟨t0, t1⟩ := two_row T3.out.t
      dsimp only at i0 i1 i2 i3 c0 c1 c2 c3 c4 s0 s1 s2
      clear HV HR ST0 G0 MA PU
      go_wp2_with fail
      with_reducible refine (OF.out _ ZT.out).mono ?_
      rintro v w5 ⟨rfl, hf⟩
      have F5 := Lib.hid (T3.out.f.trans hf)
      clear hf i0 i1 i2 i3 c0 c1 c2 c3 c4 s0 s1 s2 t0 t1 T3
      go_wp2
      go_ret
      exact ⟨rfl, F5.out⟩
    | true =>
      obtain ⟨i0, i1, i2, i3⟩ := T3.out.h.cells
      obtain ⟨t0, t1⟩ := two_row T3.out.t
      dsimp only at i0 i1 i2 i3
      go_wp2_with fail
      with_reducible refine (MA.out _).mono ?_
      rintro v w4 ⟨rfl, hf⟩
      have T4 := Lib.hid (T3.out.fr hf)
      clear hf i0 i1 i2 i3 t0 t1 T3 MA
      have ZT := Lib.hid (HT.out.fr T4.out.f)
      obtain ⟨i0, i1, i2, i3⟩ := T4.out.h.cells
      obtain ⟨c0, c1, c2, c3, c4⟩ := T4.out.c.cells
      obtain ⟨s0, s1, s2⟩ := arow T4.out.s
      obtain ⟨t0, t1⟩ := two_row T4.out.t
      dsimp only at i0 i1 i2 i3 c0 c1 c2 c3 c4 s0 s1 s2
      cases bm with
      | false =>
        have HR : Hid (r = 1048576) := by
          rcases HV.out with ⟨k, _⟩ | ⟨_, k⟩
          · cases k
          · exact Lib.hid k
        have hr := HR.out
        subst hr
        clear HV HR ST0 G0 PU
        go_wp2_with fail
        with_reducible refine (OF.out _ ZT.out).mono ?_
        rintro v w5 ⟨rfl, hf⟩
        have F5 := Lib.hid (T4.out.f.trans hf)
        clear hf i0 i1 i2 i3 c0 c1 c2 c3 c4 s0 s1 s2 t0 t1 T4
        go_wp2
        go_ret
        exact ⟨rfl, F5.out⟩
      | true =>
        obtain ⟨n, hE, hn, hr⟩ : ∃ n : Nat, is n ∧ n < 4000 ∧ r = (n : Int) + 1 := by
          rcases HV.out with ⟨_, _, k⟩ | ⟨k, _⟩
          · exact k
          · exact (k (by simp)).elim
        subst hr
        have ST := Lib.hid (fun k x t => ST0.out n k x t hE)
        have HN := Lib.hid hn
        clear HV ST0 hE
        go_wp2_with fail
        with_reducible refine (OF.out _ ZT.out).mono ?_
        rintro v w5 ⟨rfl, hf⟩
        have T5 := Lib.hid (T4.out.fr hf)
        clear hf i0 i1 i2 i3 c0 c1 c2 c3 c4 s0 s1 s2 t0 t1 T4 OF ZT
        have d1 : decide ((n : Int) + 1 < 1) = false := decide_eq_false (by omega)
        have d2 : decide (20000 < (n : Int) + 1) = false := decide_eq_false (by omega)
        obtain ⟨s0, s1, s2⟩ := arow T5.out.s
        obtain ⟨t0, t1⟩ := two_row T5.out.t
        dsimp only at s0 s1 s2
        go_wp2_with fail
        with_reducible refine (PU.out _).mono ?_
        rintro v w6 ⟨rfl, hf⟩
        have T6 := Lib.hid (T5.out.fr hf)
        have T7 := Lib.hid (T6.out.stops ⟨zp, zu, zd⟩)
        clear hf s0 s1 s2 t0 t1 T5 PU d1 d2
        obtain ⟨s0, s1, s2⟩ := arow T6.out.s
        have z0 := frozen_of_row _ _ 0 _ _ T6.out.s
        have z1 := frozen_of_row _ _ 1 _ _ T6.out.s
        have z2 := frozen_of_row _ _ 2 _ _ T6.out.s
        dsimp only [spSet] at T7 s0 s1 s2
        go_upto_region 12 with fail
        generalize World.setCell (World.setCell (World.setCell w6 _ _) _ _) _ _ = w7 at *
        clear s0 s1 s2 z0 z1 z2 T6
        go_wp2
        go_loopw [11] (fun s11 wx => ∃ (k : Nat) (x : Ca) (t : Sp), s11 = .int .i64 ((k : Int) + 1) ∧ Hid (k ≤ n + 1) ∧ Hid (go k = (x, t)) ∧ Hid (x.k ≤ 9223372036854775807) ∧ Hid (LE w ⟨hc, hfl, hs, hd⟩ x t q e wx)) (fun s11 _ => n + 2 - (intOf s11).toNat)
        case atStart => exact ⟨0, _, _, rfl, Lib.hid (Nat.zero_le _), G0, HC, T7⟩
        case round =>
          clear T7 G0 HC
          obtain ⟨k, x, t, rfl, HK, HG, HX, HLx⟩ := hrel
          have hkn := HK.out
          have hn := HN.out
          by_cases hlt : (k : Int) + 1 ≤ (n : Int) + 1
          · obtain ⟨y, d, TI, hy, tk, dk, hop, hg2⟩ := ST.out k x t (by omega) HG.out HX.out
            have HG2 := Lib.hid hg2
            have HY := Lib.hid hy
            have HOP := Lib.hid hop
            have TI := Lib.hid TI
            have ZT := Lib.hid (HT.out.fr HLx.out.f)
            clear ST hg2 hy hop HG HX
            obtain ⟨⟨xp, xe, xo, xr⟩, xk⟩ := x
            obtain ⟨tp, tu, td⟩ := t
            obtain ⟨⟨yp, ye, yo, yr⟩, yk⟩ := y
            obtain ⟨eo, ec, ef, ea, em, ⟨dc, du, dd⟩⟩ := d
            have E1 : bits .andNot .u64 (tp : Int) (dc : Int) = ((tp &&& (18446744073709551615 - dc) : Nat) : Int) := u64_andNot_nat tp dc tk.c dk.c
            have E2 : bits .andNot .u64 (tu : Int) (du : Int) = ((tu &&& (18446744073709551615 - du) : Nat) : Int) := u64_andNot_nat tu du tk.u dk.u
            have E3 : bits .andNot .u64 (td : Int) (dd : Int) = ((td &&& (18446744073709551615 - dd) : Nat) : Int) := u64_andNot_nat td dd tk.d dk.d
            obtain ⟨A, hA⟩ : ∃ A, A = tp &&& (18446744073709551615 - dc) := ⟨_, rfl⟩
            obtain ⟨B, hB⟩ : ∃ B, B = tu &&& (18446744073709551615 - du) := ⟨_, rfl⟩
            obtain ⟨D, hD⟩ : ∃ D, D = td &&& (18446744073709551615 - dd) := ⟨_, rfl⟩
            have HG3 : Hid (go (k + 1) = (⟨⟨yp, ye, yo, yr⟩, yk⟩, ⟨A, B, D⟩)) := by
              refine Lib.hid ?_
              rw [HG2.out, hA, hB, hD]; rfl
            rw [← hA] at E1
            rw [← hB] at E2
            rw [← hD] at E3
            clear hA hB hD HG2 tk dk
            dsimp only [Ca.v, Sp.v, Dn.v] at TI
            obtain ⟨i0, i1, i2, i3⟩ := HLx.out.h.cells
            obtain ⟨c0, c1, c2, c3, c4⟩ := HLx.out.c.cells
            obtain ⟨s0, s1, s2⟩ := arow HLx.out.s
            dsimp only at i0 i1 i2 i3 c0 c1 c2 c3 c4 s0 s1 s2
            go_wp2_with fail
            with_reducible refine (TI.out _ ZT.out).mono ?_
            rintro v w2 ⟨rfl, hf⟩
            have T2 := Lib.hid ((HLx.out.fr hf).fr (two_fr w2 ⟨⟨yp, ye, yo, yr⟩, yk⟩ ⟨eo, ec, ef, ea, em, ⟨dc, du, dd⟩⟩))
            have P2 := Lib.hid (PD.new w2 ⟨⟨yp, ye, yo, yr⟩, yk⟩ ⟨eo, ec, ef, ea, em, ⟨dc, du, dd⟩⟩)
            have L2 := Lib.hid (Nat.lt_of_lt_of_le (size_of_row HLx.out.t) hf.size)
            clear hf i0 i1 i2 i3 c0 c1 c2 c3 c4 s0 s1 s2 HLx ZT TI
            dsimp only [Ca.box, Dn.box] at T2 P2
            go_upto_region 16 with fail
            obtain ⟨m, hm⟩ : ∃ m, m = w2.heap.size := ⟨_, rfl⟩
            generalize World.alloc (World.alloc w2 _) _ = w3 at *
            rw [← hm] at P2 L2
            rw [← hm]
            clear hm
            have N3 := Lib.hid (show ND w (m + 1) ⟨eo, ec, ef, ea, em, ⟨dc, du, dd⟩⟩ w3 from ⟨P2.out.d, by have := L2.out; omega⟩)
            have M3 := Lib.hid P2.out.x
            obtain ⟨n0, n1, n2, n3, n4, n5, n6, n7⟩ := N3.out.d.cells
            obtain ⟨t0, t1⟩ := two_row T2.out.t
            dsimp only at n0 n1 n2 n3 n4 n5 n6 n7
            clear P2
            obtain ⟨hit, hh⟩ : ∃ b, b = decide (k = n) := ⟨_, rfl⟩
            have KN : ((k : Int) + 1 == (n : Int) + 1) = hit := by
              rw [hh]
              by_cases g : k = n
              · rw [decide_eq_true g, g]; simp
              · rw [decide_eq_false g]; simp; omega
            have hop := HOP.out
            rw [← hh] at hop
            unfold opD at hop
            dsimp only at hop
            have HOP2 := Lib.hid hop
            clear hh hop HOP
            go_cut [86] (fun s86 wx => s86 = .bool false ∧ wx = w3)
            case first =>
              cases eo with
              | false =>
                have e1 : hit = false := HOP2.out.symm
                rw [e1] at KN
                clear HOP2 e1
                go_wp2_with fail
                go_meet
                exact ⟨rfl, rfl⟩
              | true =>
                by_cases g1 : ef = q
                · by_cases g2 : ea = e
                  · have e1 : hit = true := by rw [← HOP2.out, g1, g2]; simp
                    rw [e1] at KN
                    subst g1 g2
                    clear HOP2 e1
                    go_wp2_with fail
                    go_meet
                    exact ⟨rfl, rfl⟩
                  · have e1 : hit = false := by rw [← HOP2.out, decide_eq_false g2]; simp
                    have e2 : (ea == e) = false := by simp [g2]
                    rw [e1] at KN
                    subst g1
                    clear HOP2 e1 g2
                    go_wp2_with fail
                    go_meet
                    exact ⟨rfl, rfl⟩
                · have e1 : hit = false := by rw [← HOP2.out, decide_eq_false g1]; simp
                  have e2 : (ef == q) = false := by simp [g1]
                  rw [e1] at KN
                  clear HOP2 e1 g1
                  go_wp2_with fail
                  go_meet
                  exact ⟨rfl, rfl⟩
            case rest =>
              obtain ⟨rfl, rfl⟩ := hcut
              clear KN HOP2 t0 t1
              have T4 := Lib.hid (T2.out.car ⟨⟨yp, ye, yo, yr⟩, yk⟩)
              have N4 := Lib.hid (N3.out.far (carSet_fr _ (w.heap.size + 1) ⟨⟨yp, ye, yo, yr⟩, yk⟩) (by omega))
              obtain ⟨x0, x1, x2, x3, x4⟩ := M3.out.cells
              obtain ⟨c0, c1, c2, c3, c4⟩ := T2.out.c.cells
              have y0 := T2.out.c.fz 0
              have y1 := T2.out.c.fz 1
              have y2 := T2.out.c.fz 2
              have y3 := T2.out.c.fz 3
              have y4 := T2.out.c.fz 4
              dsimp only [carSet] at T4 N4 x0 x1 x2 x3 x4 c0 c1 c2 c3 c4
              go_upto_region 19 with fail
              generalize World.setCell (World.setCell (World.setCell (World.setCell (World.setCell _ _ _) _ _) _ _) _ _) _ _ = w4 at *
              clear x0 x1 x2 x3 x4 c0 c1 c2 c3 c4 y0 y1 y2 y3 y4 T2 N3 M3 n0 n1 n2 n3 n4 n5 n6 n7
              obtain ⟨n0, n1, n2, n3, n4, n5, n6, n7⟩ := N4.out.d.cells
              obtain ⟨s0, s1, s2⟩ := arow T4.out.s
              have z0 := frozen_of_row _ _ 0 _ _ T4.out.s
              dsimp only at n0 n1 n2 n3 n4 n5 n6 n7 s0 s1 s2
              have T5 := Lib.hid (T4.out.st0 A)
              have N5 := Lib.hid (N4.out.far (Fr.setCell w4 (w.heap.size + 2) 0 (.int .u64 A) (S := [w.heap.size + 2]) (by simp)) (by omega))
              dsimp only at T5
              go_upto_region 20 with fail
              generalize World.setCell w4 _ _ = w5 at *
              clear n0 n1 n2 n3 n4 n5 n6 n7 s0 s1 s2 z0 T4 N4 E1
              obtain ⟨n0, n1, n2, n3, n4, n5, n6, n7⟩ := N5.out.d.cells
              obtain ⟨s0, s1, s2⟩ := arow T5.out.s
              have z1 := frozen_of_row _ _ 1 _ _ T5.out.s
              dsimp only at n0 n1 n2 n3 n4 n5 n6 n7 s0 s1 s2
              have T6 := Lib.hid (T5.out.st1 B)
              have N6 := Lib.hid (N5.out.far (Fr.setCell w5 (w.heap.size + 2) 1 (.int .u64 B) (S := [w.heap.size + 2]) (by simp)) (by omega))
              dsimp only at T6
              go_upto_region 21 with fail
              generalize World.setCell w5 _ _ = w6 at *
              clear n0 n1 n2 n3 n4 n5 n6 n7 s0 s1 s2 z1 T5 N5 E2
              obtain ⟨n0, n1, n2, n3, n4, n5, n6, n7⟩ := N6.out.d.cells
              obtain ⟨s0, s1, s2⟩ := arow T6.out.s
              have z2 := frozen_of_row _ _ 2 _ _ T6.out.s
              dsimp only at n0 n1 n2 n3 n4 n5 n6 n7 s0 s1 s2
              have T7 := Lib.hid (T6.out.st2 D)
              dsimp only at T7
              have hw1 : IntKind.i64.wrap ((k : Int) + 1 + 1) = (k : Int) + 1 + 1 := IntWalk.i64_in _ (by omega)
              go_wp2
              go_roundw
              case rel => exact ⟨k + 1, ⟨⟨yp, ye, yo, yr⟩, yk⟩, ⟨A, B, D⟩, by go_num, Lib.hid (by omega), HG3, HY, T7⟩
              case measure => simp [intOf]; omega
          · clear ST HG HX
            go_wp2
            go_ret
            exact ⟨rfl, HLx.out.f⟩
  · have V := Lib.hid (fun W => valid_any h W false (decide_eq_false hk).symm)
    clear hk ok hc hT
    obtain ⟨hc, hfl, hs, hd⟩ := h
    obtain ⟨⟨cp, ce, co, cr⟩, ck⟩ := c
    obtain ⟨sp, su, sd⟩ := s
    dsimp only [Ho.v, Ho.box, Ca.v, Ca.box, Sp.v, Sp.box, callV, callBox] at *
    go_enter Tryd.func7, Tryd.ntmps7
    go_wp2_with fail
    generalize World.alloc (World.alloc (World.alloc (World.alloc w _) _) _) _ = w0 at *
    have Z0 := Lib.hid (HT.out.fr TB.out.f)
    with_reducible refine (efirst_any _ Z0.out).mono ?_
    rintro v w1 ⟨rfl, hf⟩
    have T1 := Lib.hid (TB.out.fr hf)
    clear hf TB Z0
    obtain ⟨i0, i1, i2, i3⟩ := T1.out.h.cells
    dsimp only at i0 i1 i2 i3
    go_wp2_with fail
    with_reducible refine (V.out _).mono ?_
    rintro v w2 ⟨rfl, hf⟩
    have T2 := Lib.hid (T1.out.fr hf)
    clear hf i0 i1 i2 i3 T1
    go_wp2
    go_ret
    exact ⟨rfl, T2.out.f⟩
theorem eticks_walk (h : Ho) (c : Ca) (s : Sp) (q e : Int) (hc : c.k ≤ 9223372036854775807) (ok : s.ok) (W : World) (hT : Tz W) :
    Calls Tryd.prog 7 #[h.v, c.v, s.v, callV q e] W fun x w' => x = .returned (.bool true) ∧ W.grownBy w' none :=
  (eticks_true h c s q e hc ok W hT).mono fun _ _ ⟨he, hf⟩ => ⟨he, hf.grown (by simp)⟩
end Go.Proofs.YtdmomnhacijmpaaDoor
