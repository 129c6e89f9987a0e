/- How long a car takes, by the document. -/
import Derived.Test.YtdmomnhacijmpaaGreatDoorRTick2
import Derived.Test.YtdmomnhacijmpaaGreatDoorGEta
namespace Go.Proofs.YtdmomnhacijmpaaGreatDoor
open Go.RowKit

set_option maxHeartbeats 1000000 in
set_option maxRecDepth 100000 in
theorem rless_any (s d : Sp) (w : World) (ok : s.ok) (dk : d.ok) (r : Sp) (hr : r = s.less d) : Calls Tryz.prog 18 #[s.v, d.v] w fun x w' => x = .returned r.v ∧ Fr w w' [] := by
  obtain ⟨p, u, v⟩ := s
  obtain ⟨p', u', v'⟩ := d
  have E1 : bits .andNot .u64 (p : Int) (p' : Int) = ((p &&& (18446744073709551615 - p') : Nat) : Int) := u64_andNot_nat p p' ok.c dk.c
  have E2 : bits .andNot .u64 (u : Int) (u' : Int) = ((u &&& (18446744073709551615 - u') : Nat) : Int) := u64_andNot_nat u u' ok.u dk.u
  have E3 : bits .andNot .u64 (v : Int) (v' : Int) = ((v &&& (18446744073709551615 - v') : Nat) : Int) := u64_andNot_nat v v' ok.d dk.d
  have HV : Hid (r = ⟨p &&& (18446744073709551615 - p'), u &&& (18446744073709551615 - u'), v &&& (18446744073709551615 - v')⟩) := hr
  clear hr ok dk
  obtain ⟨A, hA⟩ : ∃ A, A = p &&& (18446744073709551615 - p') := ⟨_, rfl⟩
  obtain ⟨B, hB⟩ : ∃ B, B = u &&& (18446744073709551615 - u') := ⟨_, rfl⟩
  obtain ⟨D, hD⟩ : ∃ D, D = v &&& (18446744073709551615 - v') := ⟨_, rfl⟩
  rw [← hA] at E1
  rw [← hB] at E2
  rw [← hD] at E3
  rw [← hA, ← hB, ← hD] at HV
  clear hA hB hD
  have FA := Lib.hid (((Fr.alloc w (.cells #[.int .u64 p, .int .u64 u, .int .u64 v] 37) []).trans (Fr.alloc _ (.cells #[.int .u64 p', .int .u64 u', .int .u64 v'] 37) [])).trans (Fr.alloc _ (.cells #[.int .u64 A, .int .u64 B, .int .u64 D] 37) []))
  have x := arow (heap_alloc_new ((w.alloc (.cells #[.int .u64 p, .int .u64 u, .int .u64 v] 37)).alloc (.cells #[.int .u64 p', .int .u64 u', .int .u64 v'] 37)) (.cells #[.int .u64 A, .int .u64 B, .int .u64 D] 37))
  rw [show ((w.alloc (.cells #[.int .u64 p, .int .u64 u, .int .u64 v] 37)).alloc (.cells #[.int .u64 p', .int .u64 u', .int .u64 v'] 37)).heap.size = w.heap.size + 1 + 1 by simp] at x
  obtain ⟨x0, x1, x2⟩ := x
  dsimp only [Sp.v] at *
  go_enter Tryz.func18, Tryz.ntmps18
  go_wp2
  exact bodyPost_ret (v := .agg #[.int .u64 A, .int .u64 B, .int .u64 D]) (by simp [results, Tryz.results18, go_sem, x0, x1, x2]) rfl ⟨by rw [HV.out], FA.out⟩

/-- A house's, the document's car's, stops', a call's boxes. -/
structure LD (W : World) (h : Ho) (c : Ca) (s : Sp) (q e : Int) (a : World) : Prop where
  f : Fr W a []
  h : HB a W.heap.size h
  c : QB a (W.heap.size + 1) c
  s : SQ a (W.heap.size + 2) s
  t : a.heap[W.heap.size + 3]? = some (callBox q e)
theorem LD.fr {W : World} {h : Ho} {c : Ca} {s : Sp} {q e : Int} {a a' : World} (k : LD W h c s q e a) (f : Fr a a' []) : LD W h c s q e a' := ⟨k.f.trans f, k.h.fr f, k.c.fr f (by simp), f.heap k.s (by simp), f.heap k.t (by simp)⟩
theorem LD.car {W : World} {h : Ho} {c : Ca} {s : Sp} {q e : Int} {a : World} (k : LD W h c s q e a) (x : Ca) : LD W h x s q e (carSet a (W.heap.size + 1) x) :=
  have f := carSet_fr a (W.heap.size + 1) x
  ⟨k.f.new f (by simp), f.heap k.h (by simp), k.c.set x, f.heap k.s (by simp), f.heap k.t (by simp)⟩
theorem LD.stops {W : World} {h : Ho} {c : Ca} {s : Sp} {q e : Int} {a : World} (k : LD W h c s q e a) (x : Sp) : LD W h c x q e (spSet a (W.heap.size + 2) x) :=
  have f := aset_fr a (W.heap.size + 2) (.int .u64 x.c) (.int .u64 x.u) (.int .u64 x.d)
  ⟨k.f.new f (by simp), f.heap k.h (by simp), k.c.fr f (by simp), aset k.s _ _ _, f.heap k.t (by simp)⟩
theorem LD.new (w : World) (h : Ho) (c : Ca) (s : Sp) (q e : Int) : LD w h c s q e ((((w.alloc h.box).alloc c.qbox).alloc (Sp.box 37 s)).alloc (callBox q e)) := by
  have a1 := heap_alloc_new w h.box
  have a2 := heap_alloc_new (w.alloc h.box) c.qbox
  have a3 := heap_alloc_new ((w.alloc h.box).alloc c.qbox) (Sp.box 37 s)
  have a4 := heap_alloc_new (((w.alloc h.box).alloc c.qbox).alloc (Sp.box 37 s)) (callBox q e)
  rw [show (w.alloc h.box).heap.size = w.heap.size + 1 by simp] at a2
  rw [show ((w.alloc h.box).alloc c.qbox).heap.size = w.heap.size + 2 by simp] at a3
  rw [show (((w.alloc h.box).alloc c.qbox).alloc (Sp.box 37 s)).heap.size = w.heap.size + 3 by simp] at a4
  have f1 := Fr.alloc w h.box []
  have f2 := Fr.alloc (w.alloc h.box) c.qbox []
  have f3 := Fr.alloc ((w.alloc h.box).alloc c.qbox) (Sp.box 37 s) []
  have f4 := Fr.alloc (((w.alloc h.box).alloc c.qbox).alloc (Sp.box 37 s)) (callBox q e) []
  have f34 := f3.trans f4
  exact ⟨(f1.trans f2).trans f34, (f2.trans f34).heap a1 (by simp), f34.heap a2 (by simp), f4.heap a3 (by simp), a4⟩
/-- The two boxes that a tick's answer is put in. -/
theorem two_q (w : World) (x : Ca) (d : Dn) : Fr w ((w.alloc x.qbox).alloc d.qbox) [] ∧ QB ((w.alloc x.qbox).alloc d.qbox) w.heap.size x ∧ QN ((w.alloc x.qbox).alloc d.qbox) (w.heap.size + 1) d := by
  have n2 := QN.new (w.alloc x.qbox) d
  rw [show (w.alloc x.qbox).heap.size = w.heap.size + 1 by simp] at n2
  exact ⟨(Fr.alloc _ _ []).trans (Fr.alloc _ _ []), (QB.new w x).fr (Fr.alloc _ _ []) (by simp), n2⟩

set_option maxHeartbeats 8000000 in
set_option maxRecDepth 100000 in
theorem reta_any (h : Ho) (c : Ca) (s : Sp) (q e : Int) (w : World) (hk : h.ok) (ok : s.ok) (r : Int) (H : EtaV h c s q e r) :
    Calls Tryz.prog 6 #[h.v, c.v, s.v, callV q e] w fun x w' => x = .returned (.int .i64 r) ∧ Fr w w' [] := by
  have TB := Lib.hid (LD.new w h c s q e)
  have V := Lib.hid (fun W => rvalid_any h W true (decide_eq_true hk).symm)
  obtain ⟨bm, hbm⟩ : ∃ b, b = decide (mayC h.f q e) := ⟨_, rfl⟩
  obtain ⟨br, hbr⟩ : ∃ b, b = c.right h := ⟨_, rfl⟩
  have MA := Lib.hid (fun W => dmay_any h.f q e hk.2.1.1 hk.2.1.2 W bm hbm)
  have RG := Lib.hid (fun W => rcright_any h c W br hbr)
  obtain ⟨z, hz⟩ : ∃ z, z = s.put q e := ⟨_, rfl⟩
  have zk : z.ok := by rw [hz]; exact Sp.put_ok ok q e
  have PU := Lib.hid (fun W => rput_any s q e W ok z hz)
  have HV : Hid ((bm = true ∧ br = true ∧ ∃ n : Nat, EtaIs h c z q e n ∧ n < 4000 ∧ r = (n : Int) + 1) ∨ (¬ (bm = true ∧ br = true) ∧ r = 1048576)) := by
    refine Lib.hid ?_
    rcases H with ⟨R, m, n, a, b, _, rfl⟩ | ⟨g, rfl⟩
    · exact .inl ⟨by rw [hbm]; exact decide_eq_true m, by rw [hbr]; exact (right_iff h c).2 R, n, by rw [hz]; exact a, b, rfl⟩
    · refine .inr ⟨fun k => g ?_, rfl⟩
      rw [hbm, hbr, decide_eq_true_iff, right_iff] at k
      exact ⟨k.2, k.1⟩
  have ST0 : Hid (∀ (n k : Nat) (x : Ca) (t : Sp), EtaIs h c z q e n → k ≤ n → goC h c z k = (x, t) → ∃ y d, (∀ W, Calls Tryz.prog 17 #[h.v, x.v, t.v, .bool false] W fun v w' => v = .returned (.tuple #[y.v, d.v]) ∧ Fr W w' []) ∧
      t.ok ∧ d.st.ok ∧ opD d q e = decide (k = n) ∧ goC h c z (k + 1) = (y, t.less d.st)) := by
    refine Lib.hid ?_
    intro n k x t H kn hg
    have tk : t.ok := by have := goC_ok (h := h) (c := c) zk k; rw [hg] at this; exact this
    obtain ⟨y, d, hy⟩ : ∃ y d, x.tick h t false = (y, d) := ⟨_, _, rfl⟩
    refine ⟨y, d, fun W => rctick_any h x t W tk y d hy, tk, ?_, ?_, ?_⟩
    · have := tick_st_fine h x tk false
      rw [hy] at this; exact this
    · have e1 : hitC h c z q e k = opD d q e := by unfold hitC; rw [hg]; show opD (x.tick h t false).2 q e = _; rw [hy]
      rw [← e1]
      by_cases g : k = n
      · rw [decide_eq_true g, g]; exact H.hit
      · rw [decide_eq_false g]; exact H.no k (by omega)
    · simp only [goC]
      rw [hg]
      show ((x.tick h t false).1, t.less (x.tick h t false).2.st) = _
      rw [hy]
  have WI := Lib.hid (fun (t d : Sp) (tk : t.ok) (dk : d.ok) (r : Sp) (hr : r = t.less d) W => rless_any t d W tk dk r hr)
  have G0 := Lib.hid (show goC h c z 0 = (c, z) from rfl)
  obtain ⟨go, hgo⟩ : ∃ go, go = goC h c z := ⟨_, rfl⟩
  obtain ⟨is, his⟩ : ∃ is, is = EtaIs h c z q e := ⟨_, rfl⟩
  rw [← hgo] at ST0 G0
  rw [← his] at HV ST0
  clear hk H hbm hbr hz zk ok hgo his
  obtain ⟨hc, hfl, hs, hd⟩ := h
  obtain ⟨⟨cp, ce, co, cr⟩, ck⟩ := c
  obtain ⟨sp, su, sd⟩ := s
  obtain ⟨zp, zu, zd⟩ := z
  dsimp only [Ho.v, Ho.box, Ca.v, Ca.qbox, Sp.v, Sp.box, callV, callBox] at *
  go_enter Tryz.func6, Tryz.ntmps6
  go_upto_region 1 with fail
  generalize World.alloc (World.alloc (World.alloc (World.alloc w _) _) _) _ = w0 at *
  obtain ⟨i0, i1, i2, i3⟩ := TB.out.h.cells
  dsimp only at i0 i1 i2 i3
  go_wp2_with fail
  with_reducible refine (V.out _).mono ?_
  rintro v w1 ⟨rfl, hf⟩
  have T1 := Lib.hid (TB.out.fr hf)
  clear hf i0 i1 i2 i3 TB V
  obtain ⟨i0, i1, i2, i3⟩ := T1.out.h.cells
  obtain ⟨t0, t1⟩ := two_row T1.out.t
  dsimp only at i0 i1 i2 i3
  go_wp2_with fail
  with_reducible refine (MA.out _).mono ?_
  rintro v w2 ⟨rfl, hf⟩
  have T2 := Lib.hid (T1.out.fr hf)
  clear hf i0 i1 i2 i3 t0 t1 T1 MA
  cases bm with
  | false =>
    have HR : Hid (r = 1048576) := by
      rcases HV.out with ⟨k, _⟩ | ⟨_, k⟩
      · cases k
      · exact Lib.hid k
    clear HV RG PU ST0 G0 WI
    go_wp2
    go_ret
    exact ⟨by rw [HR.out]; rfl, T2.out.f⟩
  | true =>
    obtain ⟨i0, i1, i2, i3⟩ := T2.out.h.cells
    obtain ⟨c0, c1, c2, c3, c4⟩ := T2.out.c.cells
    dsimp only at i0 i1 i2 i3 c0 c1 c2 c3 c4
    go_wp2_with fail
    with_reducible refine (RG.out _).mono ?_
    rintro v w3 ⟨rfl, hf⟩
    have T3 := Lib.hid (T2.out.fr hf)
    clear hf i0 i1 i2 i3 c0 c1 c2 c3 c4 T2 RG
    cases br with
    | false =>
      have HR : Hid (r = 1048576) := by
        rcases HV.out with ⟨_, k, _⟩ | ⟨_, k⟩
        · cases k
        · exact Lib.hid k
      clear HV PU ST0 G0 WI
      go_wp2
      go_ret
      exact ⟨by rw [HR.out]; rfl, T3.out.f⟩
    | true =>
      obtain ⟨n, hE, hn, hr⟩ : ∃ n : Nat, is n ∧ n < 4000 ∧ r = (n : Int) + 1 := by
        rcases HV.out with ⟨_, _, k⟩ | ⟨k, _⟩
        · exact k
        · exact (k (by simp)).elim
      subst hr
      have ST := Lib.hid (fun k x t => ST0.out n k x t hE)
      have HN := Lib.hid hn
      clear HV ST0 hE
      obtain ⟨s0, s1, s2⟩ := arow T3.out.s
      obtain ⟨t0, t1⟩ := two_row T3.out.t
      dsimp only at s0 s1 s2
      go_wp2_with fail
      with_reducible refine (PU.out _).mono ?_
      rintro v w6 ⟨rfl, hf⟩
      have T6 := Lib.hid (T3.out.fr hf)
      have T7 := Lib.hid (T6.out.stops ⟨zp, zu, zd⟩)
      clear hf s0 s1 s2 t0 t1 T3 PU
      obtain ⟨s0, s1, s2⟩ := arow T6.out.s
      have z0 := frozen_of_row _ _ 0 _ _ T6.out.s
      have z1 := frozen_of_row _ _ 1 _ _ T6.out.s
      have z2 := frozen_of_row _ _ 2 _ _ T6.out.s
      dsimp only [spSet] at T7 s0 s1 s2
      go_upto_region 4 with fail
      generalize World.setCell (World.setCell (World.setCell w6 _ _) _ _) _ _ = w7 at *
      clear s0 s1 s2 z0 z1 z2 T6
      go_wp2
      go_loopw [9] (fun s9 wx => ∃ (k : Nat) (x : Ca) (t : Sp), s9 = .int .i64 ((k : Int) + 1) ∧ Hid (k ≤ n) ∧ Hid (go k = (x, t)) ∧ Hid (LD w ⟨hc, hfl, hs, hd⟩ x t q e wx)) (fun s9 _ => n + 1 - (intOf s9).toNat)
      case atStart => exact ⟨0, _, _, rfl, Lib.hid (Nat.zero_le _), G0, T7⟩
      case round =>
        clear T7 G0
        obtain ⟨k, x, t, rfl, HK, HG, HLx⟩ := hrel
        have hkn := HK.out
        have hn := HN.out
        have hlt : (k : Int) + 1 < 20000 := by omega
        obtain ⟨y, d, TI, tk, dk, hop, hg2⟩ := ST.out k x t (by omega) HG.out
        obtain ⟨r, hr⟩ : ∃ r, r = t.less d.st := ⟨_, rfl⟩
        rw [← hr] at hg2
        have HG2 := Lib.hid hg2
        have HOP := Lib.hid hop
        have WO := Lib.hid (WI.out t d.st tk dk r hr)
        have TI := Lib.hid TI
        clear ST WI hg2 hop HG tk dk hr
        obtain ⟨⟨xp, xe, xo, xr⟩, xk⟩ := x
        obtain ⟨tp, tu, td⟩ := t
        obtain ⟨⟨yp, ye, yo, yr⟩, yk⟩ := y
        obtain ⟨eo, ec, ef, ea, em, ⟨dc, du, dd⟩⟩ := d
        obtain ⟨rp, ru, rd⟩ := r
        dsimp only [Ca.v, Sp.v, Dn.v] at TI WO
        obtain ⟨i0, i1, i2, i3⟩ := HLx.out.h.cells
        obtain ⟨c0, c1, c2, c3, c4⟩ := HLx.out.c.cells
        obtain ⟨s0, s1, s2⟩ := arow HLx.out.s
        dsimp only at i0 i1 i2 i3 c0 c1 c2 c3 c4 s0 s1 s2
        go_wp2_with fail
        with_reducible refine (TI.out _).mono ?_
        rintro v w2 ⟨rfl, hf⟩
        obtain ⟨f2, x2', d2'⟩ := two_q w2 ⟨⟨yp, ye, yo, yr⟩, yk⟩ ⟨eo, ec, ef, ea, em, ⟨dc, du, dd⟩⟩
        have T2 := Lib.hid ((HLx.out.fr hf).fr f2)
        have M2 := Lib.hid x2'
        have N2 := Lib.hid d2'
        have L2 := Lib.hid (Nat.lt_of_lt_of_le (size_of_row HLx.out.t) hf.size)
        clear hf f2 x2' d2' i0 i1 i2 i3 c0 c1 c2 c3 c4 s0 s1 s2 HLx TI
        dsimp only [Ca.qbox, Dn.qbox] at T2 M2 N2
        go_upto_region 8 with fail
        obtain ⟨m, hm⟩ : ∃ m, m = w2.heap.size := ⟨_, rfl⟩
        generalize World.alloc (World.alloc w2 _) _ = w3 at *
        rw [← hm] at M2 N2 L2
        rw [← hm]
        clear hm
        obtain ⟨n0, n1, n2, n3, n4, n5, n6, n7⟩ := N2.out.cells
        obtain ⟨t0, t1⟩ := two_row T2.out.t
        dsimp only at n0 n1 n2 n3 n4 n5 n6 n7
        obtain ⟨hit, hh⟩ : ∃ b, b = decide (k = n) := ⟨_, rfl⟩
        have hop := HOP.out
        rw [← hh] at hop
        unfold opD at hop
        dsimp only at hop
        have HOP2 := Lib.hid hop
        have HH := Lib.hid hh
        clear hh hop HOP
        go_cut [57] (fun s57 wx => s57 = .bool hit ∧ wx = w3)
        case first =>
          cases eo with
          | false =>
            have e1 : hit = false := HOP2.out.symm
            subst e1
            clear HOP2 HH
            go_wp2_with fail
            go_meet
            exact ⟨rfl, rfl⟩
          | true =>
            by_cases g1 : ef = q
            · by_cases g2 : ea = e
              · have e1 : hit = true := by rw [← HOP2.out, g1, g2]; simp
                subst e1
                subst g1 g2
                clear HOP2 HH
                go_wp2_with fail
                go_meet
                exact ⟨rfl, rfl⟩
              · have e1 : hit = false := by rw [← HOP2.out, decide_eq_false g2]; simp
                have e2 : (ea == e) = false := by simp [g2]
                subst e1
                subst g1
                clear HOP2 HH g2
                go_wp2_with fail
                go_meet
                exact ⟨rfl, rfl⟩
            · have e1 : hit = false := by rw [← HOP2.out, decide_eq_false g1]; simp
              have e2 : (ef == q) = false := by simp [g1]
              subst e1
              clear HOP2 HH g1
              go_wp2_with fail
              go_meet
              exact ⟨rfl, rfl⟩
        case rest =>
          obtain ⟨rfl, rfl⟩ := hcut
          clear HOP2 t0 t1
          cases hit with
          | true =>
            obtain rfl : k = n := of_decide_eq_true HH.out.symm
            clear HH WO
            go_wp2
            go_ret
            exact ⟨rfl, T2.out.f⟩
          | false =>
            have hne : ¬ k = n := of_decide_eq_false HH.out.symm
            clear HH
            have T4 := Lib.hid (T2.out.car ⟨⟨yp, ye, yo, yr⟩, yk⟩)
            have N4 := Lib.hid (N2.out.fr (carSet_fr _ (w.heap.size + 1) ⟨⟨yp, ye, yo, yr⟩, yk⟩) (by have := L2.out; simp; omega))
            obtain ⟨x0, x1, x2, x3, x4⟩ := M2.out.cells
            obtain ⟨c0, c1, c2, c3, c4⟩ := T2.out.c.cells
            have y0 := T2.out.c.fz 0
            have y1 := T2.out.c.fz 1
            have y2 := T2.out.c.fz 2
            have y3 := T2.out.c.fz 3
            have y4 := T2.out.c.fz 4
            dsimp only [carSet] at T4 N4 x0 x1 x2 x3 x4 c0 c1 c2 c3 c4
            clear n0 n1 n2 n3 n4 n5 n6 n7
            go_upto_region 11 with fail
            generalize World.setCell (World.setCell (World.setCell (World.setCell (World.setCell _ _ _) _ _) _ _) _ _) _ _ = w4 at *
            clear x0 x1 x2 x3 x4 c0 c1 c2 c3 c4 y0 y1 y2 y3 y4 T2 N2 M2
            obtain ⟨n0, n1, n2, n3, n4, n5, n6, n7⟩ := N4.out.cells
            obtain ⟨s0, s1, s2⟩ := arow T4.out.s
            dsimp only at n0 n1 n2 n3 n4 n5 n6 n7 s0 s1 s2
            go_wp2_with fail
            with_reducible refine (WO.out _).mono ?_
            rintro v w5 ⟨rfl, hf⟩
            have T5 := Lib.hid (T4.out.fr hf)
            have T6 := Lib.hid (T5.out.stops ⟨rp, ru, rd⟩)
            clear hf n0 n1 n2 n3 n4 n5 n6 n7 s0 s1 s2 T4 N4 WO
            obtain ⟨s0, s1, s2⟩ := arow T5.out.s
            have z0 := frozen_of_row _ _ 0 _ _ T5.out.s
            have z1 := frozen_of_row _ _ 1 _ _ T5.out.s
            have z2 := frozen_of_row _ _ 2 _ _ T5.out.s
            dsimp only [spSet] at T6 s0 s1 s2
            have hw1 : IntKind.i64.wrap ((k : Int) + 1 + 1) = (k : Int) + 1 + 1 := IntWalk.i64_in _ (by omega)
            go_wp2
            go_roundw
            case rel => exact ⟨k + 1, ⟨⟨yp, ye, yo, yr⟩, yk⟩, ⟨rp, ru, rd⟩, by go_num, Lib.hid (by omega), HG2, T6⟩
            case measure => simp [intOf]; omega
end Go.Proofs.YtdmomnhacijmpaaGreatDoor
