/- Motor by motor a car comes no further than the last floors. -/
import Derived.Test.YteojefipcbalhaaPlant2
import Derived.Test.YteojefipcbalhaaPFirst
import Derived.Test.YteojefipcbalhaaPMath
import Derived.Test.YteojefipcbalhaaNum
namespace Go.Proofs.Yteojefipcbalhaa
open Go.RowKit

set_option maxHeartbeats 4000000 in
set_option maxRecDepth 100000 in
theorem goes_true (h : Ho) (v : Value) (l : List Int) (a : Int) (w : World) (hv : Holds .i64 w v l) (hw : ∀ x ∈ l, (Lit.int .i64 x).wf = true) (ha0 : -9223372036854775808 ≤ a) (ha1 : a ≤ 9223372036854775807) :
    Calls Try.prog 5 #[h.v, v, .int .i64 a] w fun e w' => e = .returned (.bool true) ∧ Fr w w' [] := by
  obtain ⟨sa, cap, rfl, hn1, hn2, hc⟩ := hv
  unfold maxLen at hn2
  have FA := Lib.hid (Fr.alloc w h.box [])
  have HB0 := Lib.hid (HB.new w h)
  obtain ⟨N, hN⟩ : ∃ N, N = l.length := ⟨_, rfl⟩
  rw [← hN] at hn1 hc ⊢
  have HC := Lib.hid hc
  have HN := Lib.hid hN
  have HW := Lib.hid hw
  clear hc hN hw
  by_cases hk : h.ok
  · have V := Lib.hid (fun W => valid_any h W true (decide_eq_true hk).symm)
    by_cases hn : N ≤ 60
    · have T := Lib.hid (fun W => top_any h W h.top (by rw [Ho.topR, if_pos hk]))
      have ht := Ho.range hk
      have NU := Lib.hid (fun W => numberTo_any a (h.top + 1) W (by omega) (by omega) ha0 ha1)
      have P0 := Int.emod_nonneg a (show h.top + 1 ≠ 0 by omega)
      have P1 := Int.emod_lt_of_pos a (show 0 < h.top + 1 by omega)
      have LZ := Lib.hid (fun W => level_any h 0 W true (decide_eq_true (lev_zero hk)).symm)
      have LT := Lib.hid (fun W => level_any h h.top W true (decide_eq_true (lev_top hk)).symm)
      have FT := Lib.hid (fun W => floor_any h h.top W (h.f - 1) (flr_top hk).symm)
      have GO := Lib.hid (fun (P m : Int) (hP : 0 ≤ P ∧ P ≤ h.top) (b : Bool) (hb : b = decide (h.has (P + sgn m))) (r : Int) (hr : r = if b = true then P + sgn m else 0) W => go_any h P m (by omega) (by omega) W b hb r hr)
      have HK := Lib.hid hk
      have FL := Lib.hid (fun (p fl : Int) (hfl : fl = h.flr p) W => floor_any h p W fl hfl)
      have LE := Lib.hid (fun (p : Int) (bl : Bool) (hl : bl = decide (h.lev p)) W => level_any h p W bl hl)
      have FF := Lib.hid (fun (p : Int) (h0 : 0 ≤ p) (h1 : p ≤ h.top) => flr_facts hk h0 h1)
      have HS1 := hk.2.2.1
      have HF1 := hk.2.1
      have HH := Lib.hid (fun (q : Int) (h0 : 0 ≤ q) (h1 : q ≤ h.top) => (show h.has q from ⟨hk, h0, h1⟩))
      have HNO := Lib.hid (fun (q : Int) (hq : q < 0 ∨ h.top < q) => (show ¬ h.has q from fun k => by have := k.2; omega))
      obtain ⟨P, hP⟩ : ∃ P, P = a % (h.top + 1) := ⟨_, rfl⟩
      rw [← hP] at P0 P1 NU
      obtain ⟨t, htt⟩ : ∃ t, t = h.top := ⟨_, rfl⟩
      rw [← htt] at T ht NU P1 LT FT GO FF HH HNO
      clear hP htt hk
      obtain ⟨c, f, s, d⟩ := h
      dsimp only [Ho.v, Ho.box] at *
      go_enter Try.func5, Try.ntmps5
      go_wp2_with fail
      with_reducible refine (first_any _).mono ?_
      rintro e w1 ⟨rfl, hf⟩
      have F1 := Lib.hid (FA.out.trans hf)
      have HB1 := Lib.hid (HB0.out.fr hf)
      clear hf
      obtain ⟨c0, c1, c2, c3⟩ := HB1.out.cells
      try dsimp only at c0 c1 c2 c3
      go_wp2_with fail
      with_reducible refine (V.out _).mono ?_
      rintro e w2 ⟨rfl, hf⟩
      have F2 := Lib.hid (F1.out.trans hf)
      have HB2 := Lib.hid (HB1.out.fr hf)
      clear hf c0 c1 c2 c3
      obtain ⟨c0, c1, c2, c3⟩ := HB2.out.cells
      try dsimp only at c0 c1 c2 c3
      go_wp2_with fail
      with_reducible refine (T.out _).mono ?_
      rintro e w3 ⟨rfl, hf⟩
      have F3 := Lib.hid (F2.out.trans hf)
      have HB3 := Lib.hid (HB2.out.fr hf)
      clear hf c0 c1 c2 c3
      go_wp2_with fail
      with_reducible refine (NU.out _).mono ?_
      rintro e w4 ⟨rfl, rfl⟩
      have HP := Lib.hid (show 0 ≤ P ∧ P ≤ t by omega)
      clear P0 P1 NU ha0 ha1
      go_wp2
      go_loopw [8, 9] (fun s8 s9 wx => ∃ i : Nat, i ≤ N ∧ s9 = .int .i64 i ∧ ∃ P : Int, s8 = .int .i64 P ∧ Hid (0 ≤ P ∧ P ≤ t) ∧ Hid (HS w w.heap.size c f s d wx)) (fun _ i _ => N - (intOf i).toNat)
      case atStart => exact ⟨0, Nat.zero_le _, rfl, P, rfl, HP, HS.of F3.out HB3.out⟩
      case round =>
        clear HP
        obtain ⟨i, hi, rfl, P, rfl, HP, HSx⟩ := hrel
        have HF := Lib.hid HSx.out.1
        by_cases hlt : i < N
        · obtain ⟨bk, off, rfl, hc⟩ := HC.out (by omega)
          have hx := HF.out.cell (hc i hlt) (by simp)
          have hxw := HW.out (l.getD i 0) (by rw [List.getD_eq_getElem?_getD, List.getElem?_eq_getElem (by have := HN.out; omega)]; exact List.getElem_mem _)
          obtain ⟨x, hxx⟩ : ∃ x, x = l.getD i 0 := ⟨_, rfl⟩
          rw [← hxx] at hx hxw
          have NX := Lib.hid (fun W => numberTo_any x 3 W (by omega) (by omega) (bounds_i64 hxw).1 (bounds_i64 hxw).2)
          have K0 := Int.emod_nonneg x (show (3 : Int) ≠ 0 by omega)
          have K1 := Int.emod_lt_of_pos x (show (0 : Int) < 3 by omega)
          obtain ⟨k, hkk⟩ : ∃ k, k = x % 3 := ⟨_, rfl⟩
          rw [← hkk] at K0 K1 NX
          have hsg : sgn (k - 1) = k - 1 := sgn_small (by omega) (by omega)
          have HX := Lib.hid hx
          clear hc hxw hxx hkk
          obtain ⟨hp0, hp1⟩ := HP.out
          by_cases ho0 : 0 ≤ P + (k - 1)
          · by_cases ho1 : P + (k - 1) ≤ t
            · have G := Lib.hid (GO.out P (k - 1) HP.out true (by rw [hsg]; exact (decide_eq_true (HH.out _ ho0 ho1)).symm) (P + (k - 1)) (by rw [hsg]; simp))
              clear hsg
              obtain ⟨_, c0, c1, c2, c3⟩ := HSx.out
              try dsimp only at c0 c1 c2 c3
              go_wp2_with fail
              with_reducible refine (NX.out _).mono ?_
              rintro e w5 ⟨rfl, rfl⟩
              clear hx
              go_wp2_with fail
              with_reducible refine (G.out _).mono ?_
              rintro e w5 ⟨rfl, hf⟩
              have HB5 := Lib.hid (HSx.out.fr hf)
              clear hf c0 c1 c2 c3
              obtain ⟨_, c0, c1, c2, c3⟩ := HB5.out
              try dsimp only at c0 c1 c2 c3
              go_wp2_with fail
              with_reducible refine (T.out _).mono ?_
              rintro e w6 ⟨rfl, hf⟩
              have HB6 := Lib.hid (HB5.out.fr hf)
              clear hf c0 c1 c2 c3
              obtain ⟨_, c0, c1, c2, c3⟩ := HB6.out
              try dsimp only at c0 c1 c2 c3
              obtain ⟨fl, hfl⟩ : ∃ fl, fl = Ho.flr ⟨c, f, s, d⟩ (P + (k - 1)) := ⟨_, rfl⟩
              obtain ⟨bl, hbl⟩ : ∃ bl, bl = decide (Ho.lev ⟨c, f, s, d⟩ (P + (k - 1))) := ⟨_, rfl⟩
              have FX := Lib.hid (FL.out (P + (k - 1)) fl hfl)
              have LV := Lib.hid (LE.out (P + (k - 1)) bl hbl)
              have ff := FF.out (P + (k - 1)) ho0 ho1
              rw [← hfl] at ff
              obtain ⟨f0, f1, f2, f3, f4⟩ := ff
              try dsimp only at f0 f1 f2 f3 f4
              have g0 : decide (fl < 0) = false := by simp; omega
              have g1 : decide (f ≤ fl) = false := by simp; omega
              have wm0 : IntKind.i64.wrap (fl * s) = fl * s := IntWalk.i64_in _ (by omega)
              obtain ⟨u, hu⟩ : ∃ u, u = fl * s := ⟨_, rfl⟩
              rw [← hu] at f2 f3 f4
              have wm : IntKind.i64.wrap (fl * s) = u := by rw [hu]; exact wm0
              have wd : IntKind.i64.wrap (P + (k - 1) - u) = P + (k - 1) - u := IntWalk.i64_in _ (by omega)
              have g2 : (u == P + (k - 1)) = bl := by
                rw [hbl]
                by_cases e : u = P + (k - 1)
                · rw [decide_eq_true (f4.2 e)]; simpa using e
                · rw [decide_eq_false (fun k => e (f4.1 k))]; simpa using e
              have g3 : (bl != bl) = false := by simp
              have g4 : decide (P + (k - 1) - u < 0) = false := by simp; omega
              have g5 : decide (s ≤ P + (k - 1) - u) = false := by simp; omega
              clear f4 hbl hfl hu wm0
              go_wp2_with fail
              with_reducible refine (FX.out _).mono ?_
              rintro e w7 ⟨rfl, hf⟩
              have HB7 := Lib.hid (HB6.out.fr hf)
              clear hf c0 c1 c2 c3
              have W7 := Lib.hid (HB7.out.fr (Fr.drew _ []))
              go_wp2
              refine wp_region_det (S := HS w w.heap.size c f s d) (by kernel_rfl) W7.out ?_
              refine wpDet_take (i := 0) (oi := _) (v := ?dv1) (by simp only [List.getElem?_toArray, List.getElem?_cons_zero]; rfl) (by kernel_rfl) (by kernel_rfl) (by kernel_rfl) (Or.inl ⟨by rfl, ?dy1⟩) ?dr1
              case dy1 => (intro w hSw; have hS0 := hSw; (try dsimp only [HS] at hSw); go_simp; refine Came.value ?_ hS0; with_reducible rfl)
              try simp only [Act.put, List.setIfInBounds_toArray, List.set_cons_zero, List.set_cons_succ]
              refine wpDet_take (i := 1) (oi := _) (v := ?dv2) (by simp only [List.getElem?_toArray, List.getElem?_cons_zero, List.getElem?_cons_succ]; rfl) (by kernel_rfl) (by kernel_rfl) (by kernel_rfl) (Or.inl ⟨by rfl, ?dy2⟩) ?dr2
              case dy2 => (intro w hSw; have hS0 := hSw; (try dsimp only [HS] at hSw); go_simp; refine Came.value ?_ hS0; with_reducible rfl)
              try simp only [Act.put, List.setIfInBounds_toArray, List.set_cons_zero, List.set_cons_succ]
              refine wpDet_take (i := 2) (oi := _) (v := ?dv3) (by simp only [List.getElem?_toArray, List.getElem?_cons_zero, List.getElem?_cons_succ]; rfl) (by kernel_rfl) (by kernel_rfl) (by kernel_rfl) (Or.inl ⟨by rfl, ?dy3⟩) ?dr3
              case dy3 => (intro w hSw; have hS0 := hSw; (try dsimp only [HS] at hSw); go_simp; refine Came.value ?_ hS0; with_reducible rfl)
              try simp only [Act.put, List.setIfInBounds_toArray, List.set_cons_zero, List.set_cons_succ]
              refine wpDet_take (i := 3) (oi := _) (v := ?dv4) (by simp only [List.getElem?_toArray, List.getElem?_cons_zero, List.getElem?_cons_succ]; rfl) (by kernel_rfl) (by kernel_rfl) (by kernel_rfl) (Or.inl ⟨by rfl, ?dy4⟩) ?dr4
              case dy4 => (intro w hSw; have hS0 := hSw; (try dsimp only [HS] at hSw); go_simp; refine Came.value ?_ hS0; with_reducible rfl)
              try simp only [Act.put, List.setIfInBounds_toArray, List.set_cons_zero, List.set_cons_succ]
              refine wpDet_take (i := 4) (oi := _) (v := ?dv5) (by simp only [List.getElem?_toArray, List.getElem?_cons_zero, List.getElem?_cons_succ]; rfl) (by kernel_rfl) (by kernel_rfl) (by kernel_rfl) (Or.inl ⟨by rfl, ?dy5⟩) ?dr5
              case dy5 => (intro w hSw; have hS0 := hSw; (try dsimp only [HS] at hSw); go_simp; refine Came.value ?_ hS0; with_reducible rfl)
              try simp only [Act.put, List.setIfInBounds_toArray, List.set_cons_zero, List.set_cons_succ]
              refine wpDet_take (i := 5) (oi := _) (v := ?dv6) (by simp only [List.getElem?_toArray, List.getElem?_cons_zero, List.getElem?_cons_succ]; rfl) (by kernel_rfl) (by kernel_rfl) (by kernel_rfl) (Or.inl ⟨by rfl, ?dy6⟩) ?dr6
              case dy6 => (intro w hSw; have hS0 := hSw; (try dsimp only [HS] at hSw); go_simp; refine Came.value ?_ hS0; with_reducible rfl)
              try simp only [Act.put, List.setIfInBounds_toArray, List.set_cons_zero, List.set_cons_succ]
              refine wpDet_take (i := 6) (oi := _) (v := ?dv7) (by simp only [List.getElem?_toArray, List.getElem?_cons_zero, List.getElem?_cons_succ]; rfl) (by kernel_rfl) (by kernel_rfl) (by kernel_rfl) (Or.inl ⟨by rfl, ?dy7⟩) ?dr7
              case dy7 => (intro w hSw; have hS0 := hSw; (try dsimp only [HS] at hSw); go_simp; refine Came.value ?_ hS0; with_reducible rfl)
              try simp only [Act.put, List.setIfInBounds_toArray, List.set_cons_zero, List.set_cons_succ]
              refine wpDet_take (i := 7) (oi := _) (v := ?dv8) (by simp only [List.getElem?_toArray, List.getElem?_cons_zero, List.getElem?_cons_succ]; rfl) (by kernel_rfl) (by kernel_rfl) (by kernel_rfl) (Or.inl ⟨by rfl, ?dy8⟩) ?dr8
              case dy8 => (intro w hSw; have hS0 := hSw; (try dsimp only [HS] at hSw); go_simp; refine Came.value ?_ hS0; with_reducible rfl)
              try simp only [Act.put, List.setIfInBounds_toArray, List.set_cons_zero, List.set_cons_succ]
              refine wpDet_take (i := 8) (oi := _) (v := ?dv9) (by simp only [List.getElem?_toArray, List.getElem?_cons_zero, List.getElem?_cons_succ]; rfl) (by kernel_rfl) (by kernel_rfl) (by kernel_rfl) (Or.inl ⟨by rfl, ?dy9⟩) ?dr9
              case dy9 => (intro w hSw; have hS0 := hSw; (try dsimp only [HS] at hSw); go_simp; refine Came.value ?_ hS0; with_reducible rfl)
              try simp only [Act.put, List.setIfInBounds_toArray, List.set_cons_zero, List.set_cons_succ]
              refine wpDet_take (i := 9) (oi := _) (v := ?dv10) (by simp only [List.getElem?_toArray, List.getElem?_cons_zero, List.getElem?_cons_succ]; rfl) (by kernel_rfl) (by kernel_rfl) (by kernel_rfl) (Or.inl ⟨by rfl, ?dy10⟩) ?dr10
              case dy10 => (intro w hSw; have hS0 := hSw; (try dsimp only [HS] at hSw); go_simp; refine Came.value ?_ hS0; with_reducible rfl)
              try simp only [Act.put, List.setIfInBounds_toArray, List.set_cons_zero, List.set_cons_succ]
              refine wpDet_take (i := 10) (oi := _) (v := ?dv11) (by simp only [List.getElem?_toArray, List.getElem?_cons_zero, List.getElem?_cons_succ]; rfl) (by kernel_rfl) (by kernel_rfl) (by kernel_rfl) (Or.inl ⟨by rfl, ?dy11⟩) ?dr11
              case dy11 => (intro w hSw; have hS0 := hSw; (try dsimp only [HS] at hSw); go_simp; refine Came.value ?_ hS0; with_reducible rfl)
              try simp only [Act.put, List.setIfInBounds_toArray, List.set_cons_zero, List.set_cons_succ]
              refine wpDet_take (i := 12) (oi := _) (v := ?dv12) (by simp only [List.getElem?_toArray, List.getElem?_cons_zero, List.getElem?_cons_succ]; rfl) (by kernel_rfl) (by kernel_rfl) (by kernel_rfl) (Or.inl ⟨by rfl, ?dy12⟩) ?dr12
              case dy12 => (intro w hSw; have hS0 := hSw; (try dsimp only [HS] at hSw); go_simp; refine Came.value ?_ hS0; with_reducible rfl)
              try simp only [Act.put, List.setIfInBounds_toArray, List.set_cons_zero, List.set_cons_succ]
              refine wpDet_take (i := 13) (oi := _) (v := ?dv13) (by simp only [List.getElem?_toArray, List.getElem?_cons_zero, List.getElem?_cons_succ]; rfl) (by kernel_rfl) (by kernel_rfl) (by kernel_rfl) (Or.inl ⟨by rfl, ?dy13⟩) ?dr13
              case dy13 => (intro w hSw; have hS0 := hSw; (try dsimp only [HS] at hSw); go_simp; refine Came.value ?_ hS0; with_reducible rfl)
              try simp only [Act.put, List.setIfInBounds_toArray, List.set_cons_zero, List.set_cons_succ]
              refine wpDet_take (i := 14) (oi := _) (v := ?dv14) (by simp only [List.getElem?_toArray, List.getElem?_cons_zero, List.getElem?_cons_succ]; rfl) (by kernel_rfl) (by kernel_rfl) (by kernel_rfl) (Or.inl ⟨by rfl, ?dy14⟩) ?dr14
              case dy14 => (intro w hSw; have hS0 := hSw; (try dsimp only [HS] at hSw); go_simp; refine Came.value ?_ hS0; with_reducible rfl)
              try simp only [Act.put, List.setIfInBounds_toArray, List.set_cons_zero, List.set_cons_succ]
              refine wpDet_take (i := 15) (oi := _) (v := ?dv15) (by simp only [List.getElem?_toArray, List.getElem?_cons_zero, List.getElem?_cons_succ]; rfl) (by kernel_rfl) (by kernel_rfl) (by kernel_rfl) (Or.inl ⟨by rfl, ?dy15⟩) ?dr15
              case dy15 => (intro w hSw; have hS0 := hSw; (try dsimp only [HS] at hSw); go_simp; refine Came.value ?_ hS0; with_reducible rfl)
              try simp only [Act.put, List.setIfInBounds_toArray, List.set_cons_zero, List.set_cons_succ]
              refine wpDet_take (i := 16) (oi := _) (v := ?dv16) (by simp only [List.getElem?_toArray, List.getElem?_cons_zero, List.getElem?_cons_succ]; rfl) (by kernel_rfl) (by kernel_rfl) (by kernel_rfl) (Or.inl ⟨by rfl, ?dy16⟩) ?dr16
              case dy16 => (intro w hSw; have hS0 := hSw; (try dsimp only [HS] at hSw); go_simp; refine Came.value ?_ hS0; with_reducible rfl)
              try simp only [Act.put, List.setIfInBounds_toArray, List.set_cons_zero, List.set_cons_succ]
              refine wpDet_take (i := 17) (oi := _) (v := ?dv17) (by simp only [List.getElem?_toArray, List.getElem?_cons_zero, List.getElem?_cons_succ]; rfl) (by kernel_rfl) (by kernel_rfl) (by kernel_rfl) (Or.inl ⟨by rfl, ?dy17⟩) ?dr17
              case dy17 => (intro w hSw; have hS0 := hSw; (try dsimp only [HS] at hSw); go_simp; refine Came.value ?_ hS0; with_reducible rfl)
              try simp only [Act.put, List.setIfInBounds_toArray, List.set_cons_zero, List.set_cons_succ]
              refine wpDet_take (i := 11) (oi := _) (v := ?dv18) (by simp only [List.getElem?_toArray, List.getElem?_cons_zero, List.getElem?_cons_succ]; rfl) (by kernel_rfl) (by kernel_rfl) (by kernel_rfl) (Or.inl ⟨by rfl, ?dy18⟩) ?dr18
              case dy18 => (intro w hSw; go_simp; exact Came.call ((LV.out w).mono fun e w' ⟨he, hf⟩ => ⟨he, hSw.fr hf⟩) (by with_reducible rfl))
              try simp only [Act.put, List.setIfInBounds_toArray, List.set_cons_zero, List.set_cons_succ]
              refine wpDet_take (i := 18) (oi := _) (v := ?dv19) (by simp only [List.getElem?_toArray, List.getElem?_cons_zero, List.getElem?_cons_succ]; rfl) (by kernel_rfl) (by kernel_rfl) (by kernel_rfl) (Or.inl ⟨by rfl, ?dy19⟩) ?dr19
              case dy19 => (intro w hSw; have hS0 := hSw; (try dsimp only [HS] at hSw); go_simp; refine Came.value ?_ hS0; with_reducible rfl)
              try simp only [Act.put, List.setIfInBounds_toArray, List.set_cons_zero, List.set_cons_succ]
              refine wpDet_take (i := 19) (oi := _) (v := ?dv20) (by simp only [List.getElem?_toArray, List.getElem?_cons_zero, List.getElem?_cons_succ]; rfl) (by kernel_rfl) (by kernel_rfl) (by kernel_rfl) (Or.inl ⟨by rfl, ?dy20⟩) ?dr20
              case dy20 => (intro w hSw; have hS0 := hSw; (try dsimp only [HS] at hSw); go_simp; refine Came.value ?_ hS0; with_reducible rfl)
              try simp only [Act.put, List.setIfInBounds_toArray, List.set_cons_zero, List.set_cons_succ]
              refine wpDet_take (i := 20) (oi := _) (v := ?dv21) (by simp only [List.getElem?_toArray, List.getElem?_cons_zero, List.getElem?_cons_succ]; rfl) (by kernel_rfl) (by kernel_rfl) (by kernel_rfl) (Or.inl ⟨by rfl, ?dy21⟩) ?dr21
              case dy21 => (intro w hSw; have hS0 := hSw; (try dsimp only [HS] at hSw); go_simp; refine Came.value ?_ hS0; with_reducible rfl)
              try simp only [Act.put, List.setIfInBounds_toArray, List.set_cons_zero, List.set_cons_succ]
              refine wpDet_take (i := 21) (oi := _) (v := ?dv22) (by simp only [List.getElem?_toArray, List.getElem?_cons_zero, List.getElem?_cons_succ]; rfl) (by kernel_rfl) (by kernel_rfl) (by kernel_rfl) (Or.inl ⟨by rfl, ?dy22⟩) ?dr22
              case dy22 => (intro w hSw; have hS0 := hSw; (try dsimp only [HS] at hSw); go_simp; refine Came.value ?_ hS0; with_reducible rfl)
              try simp only [Act.put, List.setIfInBounds_toArray, List.set_cons_zero, List.set_cons_succ]
              refine wpDet_take (i := 22) (oi := _) (v := ?dv23) (by simp only [List.getElem?_toArray, List.getElem?_cons_zero, List.getElem?_cons_succ]; rfl) (by kernel_rfl) (by kernel_rfl) (by kernel_rfl) (Or.inl ⟨by rfl, ?dy23⟩) ?dr23
              case dy23 => (intro w hSw; have hS0 := hSw; (try dsimp only [HS] at hSw); go_simp; refine Came.value ?_ hS0; with_reducible rfl)
              try simp only [Act.put, List.setIfInBounds_toArray, List.set_cons_zero, List.set_cons_succ]
              refine wpDet_take (i := 23) (oi := _) (v := ?dv24) (by simp only [List.getElem?_toArray, List.getElem?_cons_zero, List.getElem?_cons_succ]; rfl) (by kernel_rfl) (by kernel_rfl) (by kernel_rfl) (Or.inl ⟨by rfl, ?dy24⟩) ?dr24
              case dy24 => (intro w hSw; have hS0 := hSw; (try dsimp only [HS] at hSw); go_simp; refine Came.value ?_ hS0; with_reducible rfl)
              try simp only [Act.put, List.setIfInBounds_toArray, List.set_cons_zero, List.set_cons_succ]
              refine wpDet_take (i := 24) (oi := _) (v := ?dv25) (by simp only [List.getElem?_toArray, List.getElem?_cons_zero, List.getElem?_cons_succ]; rfl) (by kernel_rfl) (by kernel_rfl) (by kernel_rfl) (Or.inl ⟨by rfl, ?dy25⟩) ?dr25
              case dy25 => (intro w hSw; have hS0 := hSw; (try dsimp only [HS] at hSw); go_simp; refine Came.value ?_ hS0; with_reducible rfl)
              try simp only [Act.put, List.setIfInBounds_toArray, List.set_cons_zero, List.set_cons_succ]
              refine wpDet_take (i := 25) (oi := _) (v := ?dv26) (by simp only [List.getElem?_toArray, List.getElem?_cons_zero, List.getElem?_cons_succ]; rfl) (by kernel_rfl) (by kernel_rfl) (by kernel_rfl) (Or.inl ⟨by rfl, ?dy26⟩) ?dr26
              case dy26 => (intro w hSw; have hS0 := hSw; (try dsimp only [HS] at hSw); go_simp; refine Came.value ?_ hS0; with_reducible rfl)
              try simp only [Act.put, List.setIfInBounds_toArray, List.set_cons_zero, List.set_cons_succ]
              refine wpDet_take (i := 26) (oi := _) (v := ?dv27) (by simp only [List.getElem?_toArray, List.getElem?_cons_zero, List.getElem?_cons_succ]; rfl) (by kernel_rfl) (by kernel_rfl) (by kernel_rfl) (Or.inl ⟨by rfl, ?dy27⟩) ?dr27
              case dy27 => (intro w hSw; have hS0 := hSw; (try dsimp only [HS] at hSw); go_simp; refine Came.value ?_ hS0; with_reducible rfl)
              try simp only [Act.put, List.setIfInBounds_toArray, List.set_cons_zero, List.set_cons_succ]
              refine wpDet_take (i := 27) (oi := _) (v := ?dv28) (by simp only [List.getElem?_toArray, List.getElem?_cons_zero, List.getElem?_cons_succ]; rfl) (by kernel_rfl) (by kernel_rfl) (by kernel_rfl) (Or.inl ⟨by rfl, ?dy28⟩) ?dr28
              case dy28 => (intro w hSw; have hS0 := hSw; (try dsimp only [HS] at hSw); go_simp; refine Came.value ?_ hS0; with_reducible rfl)
              try simp only [Act.put, List.setIfInBounds_toArray, List.set_cons_zero, List.set_cons_succ]
              refine wpDet_take (i := 28) (oi := _) (v := ?dv29) (by simp only [List.getElem?_toArray, List.getElem?_cons_zero, List.getElem?_cons_succ]; rfl) (by kernel_rfl) (by kernel_rfl) (by kernel_rfl) (Or.inl ⟨by rfl, ?dy29⟩) ?dr29
              case dy29 => (intro w hSw; have hS0 := hSw; (try dsimp only [HS] at hSw); go_simp; refine Came.value ?_ hS0; with_reducible rfl)
              try simp only [Act.put, List.setIfInBounds_toArray, List.set_cons_zero, List.set_cons_succ]
              refine wpDet_take (i := 29) (oi := _) (v := ?dv30) (by simp only [List.getElem?_toArray, List.getElem?_cons_zero, List.getElem?_cons_succ]; rfl) (by kernel_rfl) (by kernel_rfl) (by kernel_rfl) (Or.inl ⟨by rfl, ?dy30⟩) ?dr30
              case dy30 => (intro w hSw; have hS0 := hSw; (try dsimp only [HS] at hSw); go_simp; refine Came.value ?_ hS0; with_reducible rfl)
              try simp only [Act.put, List.setIfInBounds_toArray, List.set_cons_zero, List.set_cons_succ]
              refine wpDet_take (i := 30) (oi := _) (v := ?dv31) (by simp only [List.getElem?_toArray, List.getElem?_cons_zero, List.getElem?_cons_succ]; rfl) (by kernel_rfl) (by kernel_rfl) (by kernel_rfl) (Or.inl ⟨by rfl, ?dy31⟩) ?dr31
              case dy31 => (intro w hSw; have hS0 := hSw; (try dsimp only [HS] at hSw); go_simp; refine Came.value ?_ hS0; with_reducible rfl)
              try simp only [Act.put, List.setIfInBounds_toArray, List.set_cons_zero, List.set_cons_succ]
              refine wpDet_take (i := 31) (oi := _) (v := ?dv32) (by simp only [List.getElem?_toArray, List.getElem?_cons_zero, List.getElem?_cons_succ]; rfl) (by kernel_rfl) (by kernel_rfl) (by kernel_rfl) (Or.inl ⟨by rfl, ?dy32⟩) ?dr32
              case dy32 => (intro w hSw; have hS0 := hSw; (try dsimp only [HS] at hSw); go_simp; refine Came.value ?_ hS0; with_reducible rfl)
              try simp only [Act.put, List.setIfInBounds_toArray, List.set_cons_zero, List.set_cons_succ]
              refine wpDet_take (i := 32) (oi := _) (v := ?dv33) (by simp only [List.getElem?_toArray, List.getElem?_cons_zero, List.getElem?_cons_succ]; rfl) (by kernel_rfl) (by kernel_rfl) (by kernel_rfl) (Or.inl ⟨by rfl, ?dy33⟩) ?dr33
              case dy33 => (intro w hSw; have hS0 := hSw; (try dsimp only [HS] at hSw); go_simp; refine Came.value ?_ hS0; with_reducible rfl)
              try simp only [Act.put, List.setIfInBounds_toArray, List.set_cons_zero, List.set_cons_succ]
              refine wpDet_take (i := 33) (oi := _) (v := ?dv34) (by simp only [List.getElem?_toArray, List.getElem?_cons_zero, List.getElem?_cons_succ]; rfl) (by kernel_rfl) (by kernel_rfl) (by kernel_rfl) (Or.inl ⟨by rfl, ?dy34⟩) ?dr34
              case dy34 => (intro w hSw; have hS0 := hSw; (try dsimp only [HS] at hSw); go_simp; refine Came.value ?_ hS0; with_reducible rfl)
              try simp only [Act.put, List.setIfInBounds_toArray, List.set_cons_zero, List.set_cons_succ]
              refine wpDet_take (i := 34) (oi := _) (v := ?dv35) (by simp only [List.getElem?_toArray, List.getElem?_cons_zero, List.getElem?_cons_succ]; rfl) (by kernel_rfl) (by kernel_rfl) (by kernel_rfl) (Or.inl ⟨by rfl, ?dy35⟩) ?dr35
              case dy35 => (intro w hSw; have hS0 := hSw; (try dsimp only [HS] at hSw); go_simp; refine Came.value ?_ hS0; with_reducible rfl)
              try simp only [Act.put, List.setIfInBounds_toArray, List.set_cons_zero, List.set_cons_succ]
              refine wpDet_take (i := 35) (oi := _) (v := ?dv36) (by simp only [List.getElem?_toArray, List.getElem?_cons_zero, List.getElem?_cons_succ]; rfl) (by kernel_rfl) (by kernel_rfl) (by kernel_rfl) (Or.inl ⟨by rfl, ?dy36⟩) ?dr36
              case dy36 => (intro w hSw; have hS0 := hSw; (try dsimp only [HS] at hSw); go_simp; refine Came.value ?_ hS0; with_reducible rfl)
              try simp only [Act.put, List.setIfInBounds_toArray, List.set_cons_zero, List.set_cons_succ]
              refine wpDet_take (i := 36) (oi := _) (v := ?dv37) (by simp only [List.getElem?_toArray, List.getElem?_cons_zero, List.getElem?_cons_succ]; rfl) (by kernel_rfl) (by kernel_rfl) (by kernel_rfl) (Or.inl ⟨by rfl, ?dy37⟩) ?dr37
              case dy37 => (intro w hSw; have hS0 := hSw; (try dsimp only [HS] at hSw); go_simp; refine Came.value ?_ hS0; with_reducible rfl)
              try simp only [Act.put, List.setIfInBounds_toArray, List.set_cons_zero, List.set_cons_succ]
              refine wpDet_take (i := 37) (oi := _) (v := ?dv38) (by simp only [List.getElem?_toArray, List.getElem?_cons_zero, List.getElem?_cons_succ]; rfl) (by kernel_rfl) (by kernel_rfl) (by kernel_rfl) (Or.inl ⟨by rfl, ?dy38⟩) ?dr38
              case dy38 => (intro w hSw; have hS0 := hSw; (try dsimp only [HS] at hSw); go_simp; refine Came.value ?_ hS0; with_reducible rfl)
              try simp only [Act.put, List.setIfInBounds_toArray, List.set_cons_zero, List.set_cons_succ]
              refine wpDet_take (i := 38) (oi := _) (v := ?dv39) (by simp only [List.getElem?_toArray, List.getElem?_cons_zero, List.getElem?_cons_succ]; rfl) (by kernel_rfl) (by kernel_rfl) (by kernel_rfl) (Or.inl ⟨by rfl, ?dy39⟩) ?dr39
              case dy39 => (intro w hSw; have hS0 := hSw; (try dsimp only [HS] at hSw); go_simp; refine Came.value ?_ hS0; with_reducible rfl)
              try simp only [Act.put, List.setIfInBounds_toArray, List.set_cons_zero, List.set_cons_succ]
              refine wpDet_take (i := 39) (oi := _) (v := ?dv40) (by simp only [List.getElem?_toArray, List.getElem?_cons_zero, List.getElem?_cons_succ]; rfl) (by kernel_rfl) (by kernel_rfl) (by kernel_rfl) (Or.inl ⟨by rfl, ?dy40⟩) ?dr40
              case dy40 => (intro w hSw; have hS0 := hSw; (try dsimp only [HS] at hSw); go_simp; refine Came.value ?_ hS0; with_reducible rfl)
              try simp only [Act.put, List.setIfInBounds_toArray, List.set_cons_zero, List.set_cons_succ]
              refine wpDet_done (by kernel_rfl) ?_ _
              rintro w8 hS8
              have HS8 := Lib.hid hS8
              clear hS8
              go_wp2
              go_roundw
              case rel => exact ⟨i + 1, by omega, by go_num, P + (k - 1), rfl, (by show _ ∧ _; omega), HS8⟩
              case measure => simp [intOf]; omega
            · have G := Lib.hid (GO.out P (k - 1) HP.out false (by rw [hsg]; exact (decide_eq_false (HNO.out _ (by omega))).symm) (0) (by rw [hsg]; simp))
              clear hsg
              obtain ⟨_, c0, c1, c2, c3⟩ := HSx.out
              try dsimp only at c0 c1 c2 c3
              go_wp2_with fail
              with_reducible refine (NX.out _).mono ?_
              rintro e w5 ⟨rfl, rfl⟩
              clear hx
              go_wp2_with fail
              with_reducible refine (G.out _).mono ?_
              rintro e w5 ⟨rfl, hf⟩
              have HB5 := Lib.hid (HSx.out.fr hf)
              clear hf c0 c1 c2 c3
              obtain ⟨_, c0, c1, c2, c3⟩ := HB5.out
              try dsimp only at c0 c1 c2 c3
              go_wp2_with fail
              with_reducible refine (T.out _).mono ?_
              rintro e w6 ⟨rfl, hf⟩
              have HB6 := Lib.hid (HB5.out.fr hf)
              clear hf c0 c1 c2 c3
              obtain ⟨_, c0, c1, c2, c3⟩ := HB6.out
              try dsimp only at c0 c1 c2 c3
              obtain ⟨fl, hfl⟩ : ∃ fl, fl = Ho.flr ⟨c, f, s, d⟩ (P) := ⟨_, rfl⟩
              obtain ⟨bl, hbl⟩ : ∃ bl, bl = decide (Ho.lev ⟨c, f, s, d⟩ (P)) := ⟨_, rfl⟩
              have FX := Lib.hid (FL.out (P) fl hfl)
              have LV := Lib.hid (LE.out (P) bl hbl)
              have ff := FF.out (P) hp0 hp1
              rw [← hfl] at ff
              obtain ⟨f0, f1, f2, f3, f4⟩ := ff
              try dsimp only at f0 f1 f2 f3 f4
              have g0 : decide (fl < 0) = false := by simp; omega
              have g1 : decide (f ≤ fl) = false := by simp; omega
              have wm0 : IntKind.i64.wrap (fl * s) = fl * s := IntWalk.i64_in _ (by omega)
              obtain ⟨u, hu⟩ : ∃ u, u = fl * s := ⟨_, rfl⟩
              rw [← hu] at f2 f3 f4
              have wm : IntKind.i64.wrap (fl * s) = u := by rw [hu]; exact wm0
              have wd : IntKind.i64.wrap (P - u) = P - u := IntWalk.i64_in _ (by omega)
              have g2 : (u == P) = bl := by
                rw [hbl]
                by_cases e : u = P
                · rw [decide_eq_true (f4.2 e)]; simpa using e
                · rw [decide_eq_false (fun k => e (f4.1 k))]; simpa using e
              have g3 : (bl != bl) = false := by simp
              have g4 : decide (P - u < 0) = false := by simp; omega
              have g5 : decide (s ≤ P - u) = false := by simp; omega
              clear f4 hbl hfl hu wm0
              go_wp2_with fail
              with_reducible refine (FX.out _).mono ?_
              rintro e w7 ⟨rfl, hf⟩
              have HB7 := Lib.hid (HB6.out.fr hf)
              clear hf c0 c1 c2 c3
              have W7 := Lib.hid (HB7.out.fr (Fr.drew _ []))
              go_wp2
              refine wp_region_det (S := HS w w.heap.size c f s d) (by kernel_rfl) W7.out ?_
              refine wpDet_take (i := 0) (oi := _) (v := ?dv41) (by simp only [List.getElem?_toArray, List.getElem?_cons_zero]; rfl) (by kernel_rfl) (by kernel_rfl) (by kernel_rfl) (Or.inl ⟨by rfl, ?dy41⟩) ?dr41
              case dy41 => (intro w hSw; have hS0 := hSw; (try dsimp only [HS] at hSw); go_simp; refine Came.value ?_ hS0; with_reducible rfl)
              try simp only [Act.put, List.setIfInBounds_toArray, List.set_cons_zero, List.set_cons_succ]
              refine wpDet_take (i := 1) (oi := _) (v := ?dv42) (by simp only [List.getElem?_toArray, List.getElem?_cons_zero, List.getElem?_cons_succ]; rfl) (by kernel_rfl) (by kernel_rfl) (by kernel_rfl) (Or.inl ⟨by rfl, ?dy42⟩) ?dr42
              case dy42 => (intro w hSw; have hS0 := hSw; (try dsimp only [HS] at hSw); go_simp; refine Came.value ?_ hS0; with_reducible rfl)
              try simp only [Act.put, List.setIfInBounds_toArray, List.set_cons_zero, List.set_cons_succ]
              refine wpDet_take (i := 2) (oi := _) (v := ?dv43) (by simp only [List.getElem?_toArray, List.getElem?_cons_zero, List.getElem?_cons_succ]; rfl) (by kernel_rfl) (by kernel_rfl) (by kernel_rfl) (Or.inl ⟨by rfl, ?dy43⟩) ?dr43
              case dy43 => (intro w hSw; have hS0 := hSw; (try dsimp only [HS] at hSw); go_simp; refine Came.value ?_ hS0; with_reducible rfl)
              try simp only [Act.put, List.setIfInBounds_toArray, List.set_cons_zero, List.set_cons_succ]
              refine wpDet_take (i := 3) (oi := _) (v := ?dv44) (by simp only [List.getElem?_toArray, List.getElem?_cons_zero, List.getElem?_cons_succ]; rfl) (by kernel_rfl) (by kernel_rfl) (by kernel_rfl) (Or.inl ⟨by rfl, ?dy44⟩) ?dr44
              case dy44 => (intro w hSw; have hS0 := hSw; (try dsimp only [HS] at hSw); go_simp; refine Came.value ?_ hS0; with_reducible rfl)
              try simp only [Act.put, List.setIfInBounds_toArray, List.set_cons_zero, List.set_cons_succ]
              refine wpDet_take (i := 4) (oi := _) (v := ?dv45) (by simp only [List.getElem?_toArray, List.getElem?_cons_zero, List.getElem?_cons_succ]; rfl) (by kernel_rfl) (by kernel_rfl) (by kernel_rfl) (Or.inl ⟨by rfl, ?dy45⟩) ?dr45
              case dy45 => (intro w hSw; have hS0 := hSw; (try dsimp only [HS] at hSw); go_simp; refine Came.value ?_ hS0; with_reducible rfl)
              try simp only [Act.put, List.setIfInBounds_toArray, List.set_cons_zero, List.set_cons_succ]
              refine wpDet_take (i := 5) (oi := _) (v := ?dv46) (by simp only [List.getElem?_toArray, List.getElem?_cons_zero, List.getElem?_cons_succ]; rfl) (by kernel_rfl) (by kernel_rfl) (by kernel_rfl) (Or.inl ⟨by rfl, ?dy46⟩) ?dr46
              case dy46 => (intro w hSw; have hS0 := hSw; (try dsimp only [HS] at hSw); go_simp; refine Came.value ?_ hS0; with_reducible rfl)
              try simp only [Act.put, List.setIfInBounds_toArray, List.set_cons_zero, List.set_cons_succ]
              refine wpDet_take (i := 6) (oi := _) (v := ?dv47) (by simp only [List.getElem?_toArray, List.getElem?_cons_zero, List.getElem?_cons_succ]; rfl) (by kernel_rfl) (by kernel_rfl) (by kernel_rfl) (Or.inl ⟨by rfl, ?dy47⟩) ?dr47
              case dy47 => (intro w hSw; have hS0 := hSw; (try dsimp only [HS] at hSw); go_simp; refine Came.value ?_ hS0; with_reducible rfl)
              try simp only [Act.put, List.setIfInBounds_toArray, List.set_cons_zero, List.set_cons_succ]
              refine wpDet_take (i := 7) (oi := _) (v := ?dv48) (by simp only [List.getElem?_toArray, List.getElem?_cons_zero, List.getElem?_cons_succ]; rfl) (by kernel_rfl) (by kernel_rfl) (by kernel_rfl) (Or.inl ⟨by rfl, ?dy48⟩) ?dr48
              case dy48 => (intro w hSw; have hS0 := hSw; (try dsimp only [HS] at hSw); go_simp; refine Came.value ?_ hS0; with_reducible rfl)
              try simp only [Act.put, List.setIfInBounds_toArray, List.set_cons_zero, List.set_cons_succ]
              refine wpDet_take (i := 8) (oi := _) (v := ?dv49) (by simp only [List.getElem?_toArray, List.getElem?_cons_zero, List.getElem?_cons_succ]; rfl) (by kernel_rfl) (by kernel_rfl) (by kernel_rfl) (Or.inl ⟨by rfl, ?dy49⟩) ?dr49
              case dy49 => (intro w hSw; have hS0 := hSw; (try dsimp only [HS] at hSw); go_simp; refine Came.value ?_ hS0; with_reducible rfl)
              try simp only [Act.put, List.setIfInBounds_toArray, List.set_cons_zero, List.set_cons_succ]
              refine wpDet_take (i := 9) (oi := _) (v := ?dv50) (by simp only [List.getElem?_toArray, List.getElem?_cons_zero, List.getElem?_cons_succ]; rfl) (by kernel_rfl) (by kernel_rfl) (by kernel_rfl) (Or.inl ⟨by rfl, ?dy50⟩) ?dr50
              case dy50 => (intro w hSw; have hS0 := hSw; (try dsimp only [HS] at hSw); go_simp; refine Came.value ?_ hS0; with_reducible rfl)
              try simp only [Act.put, List.setIfInBounds_toArray, List.set_cons_zero, List.set_cons_succ]
              refine wpDet_take (i := 10) (oi := _) (v := ?dv51) (by simp only [List.getElem?_toArray, List.getElem?_cons_zero, List.getElem?_cons_succ]; rfl) (by kernel_rfl) (by kernel_rfl) (by kernel_rfl) (Or.inl ⟨by rfl, ?dy51⟩) ?dr51
              case dy51 => (intro w hSw; have hS0 := hSw; (try dsimp only [HS] at hSw); go_simp; refine Came.value ?_ hS0; with_reducible rfl)
              try simp only [Act.put, List.setIfInBounds_toArray, List.set_cons_zero, List.set_cons_succ]
              refine wpDet_take (i := 12) (oi := _) (v := ?dv52) (by simp only [List.getElem?_toArray, List.getElem?_cons_zero, List.getElem?_cons_succ]; rfl) (by kernel_rfl) (by kernel_rfl) (by kernel_rfl) (Or.inl ⟨by rfl, ?dy52⟩) ?dr52
              case dy52 => (intro w hSw; have hS0 := hSw; (try dsimp only [HS] at hSw); go_simp; refine Came.value ?_ hS0; with_reducible rfl)
              try simp only [Act.put, List.setIfInBounds_toArray, List.set_cons_zero, List.set_cons_succ]
              refine wpDet_take (i := 13) (oi := _) (v := ?dv53) (by simp only [List.getElem?_toArray, List.getElem?_cons_zero, List.getElem?_cons_succ]; rfl) (by kernel_rfl) (by kernel_rfl) (by kernel_rfl) (Or.inl ⟨by rfl, ?dy53⟩) ?dr53
              case dy53 => (intro w hSw; have hS0 := hSw; (try dsimp only [HS] at hSw); go_simp; refine Came.value ?_ hS0; with_reducible rfl)
              try simp only [Act.put, List.setIfInBounds_toArray, List.set_cons_zero, List.set_cons_succ]
              refine wpDet_take (i := 14) (oi := _) (v := ?dv54) (by simp only [List.getElem?_toArray, List.getElem?_cons_zero, List.getElem?_cons_succ]; rfl) (by kernel_rfl) (by kernel_rfl) (by kernel_rfl) (Or.inl ⟨by rfl, ?dy54⟩) ?dr54
              case dy54 => (intro w hSw; have hS0 := hSw; (try dsimp only [HS] at hSw); go_simp; refine Came.value ?_ hS0; with_reducible rfl)
              try simp only [Act.put, List.setIfInBounds_toArray, List.set_cons_zero, List.set_cons_succ]
              refine wpDet_take (i := 15) (oi := _) (v := ?dv55) (by simp only [List.getElem?_toArray, List.getElem?_cons_zero, List.getElem?_cons_succ]; rfl) (by kernel_rfl) (by kernel_rfl) (by kernel_rfl) (Or.inl ⟨by rfl, ?dy55⟩) ?dr55
              case dy55 => (intro w hSw; have hS0 := hSw; (try dsimp only [HS] at hSw); go_simp; refine Came.value ?_ hS0; with_reducible rfl)
              try simp only [Act.put, List.setIfInBounds_toArray, List.set_cons_zero, List.set_cons_succ]
              refine wpDet_take (i := 16) (oi := _) (v := ?dv56) (by simp only [List.getElem?_toArray, List.getElem?_cons_zero, List.getElem?_cons_succ]; rfl) (by kernel_rfl) (by kernel_rfl) (by kernel_rfl) (Or.inl ⟨by rfl, ?dy56⟩) ?dr56
              case dy56 => (intro w hSw; have hS0 := hSw; (try dsimp only [HS] at hSw); go_simp; refine Came.value ?_ hS0; with_reducible rfl)
              try simp only [Act.put, List.setIfInBounds_toArray, List.set_cons_zero, List.set_cons_succ]
              refine wpDet_take (i := 17) (oi := _) (v := ?dv57) (by simp only [List.getElem?_toArray, List.getElem?_cons_zero, List.getElem?_cons_succ]; rfl) (by kernel_rfl) (by kernel_rfl) (by kernel_rfl) (Or.inl ⟨by rfl, ?dy57⟩) ?dr57
              case dy57 => (intro w hSw; have hS0 := hSw; (try dsimp only [HS] at hSw); go_simp; refine Came.value ?_ hS0; with_reducible rfl)
              try simp only [Act.put, List.setIfInBounds_toArray, List.set_cons_zero, List.set_cons_succ]
              refine wpDet_take (i := 11) (oi := _) (v := ?dv58) (by simp only [List.getElem?_toArray, List.getElem?_cons_zero, List.getElem?_cons_succ]; rfl) (by kernel_rfl) (by kernel_rfl) (by kernel_rfl) (Or.inl ⟨by rfl, ?dy58⟩) ?dr58
              case dy58 => (intro w hSw; go_simp; exact Came.call ((LV.out w).mono fun e w' ⟨he, hf⟩ => ⟨he, hSw.fr hf⟩) (by with_reducible rfl))
              try simp only [Act.put, List.setIfInBounds_toArray, List.set_cons_zero, List.set_cons_succ]
              refine wpDet_take (i := 18) (oi := _) (v := ?dv59) (by simp only [List.getElem?_toArray, List.getElem?_cons_zero, List.getElem?_cons_succ]; rfl) (by kernel_rfl) (by kernel_rfl) (by kernel_rfl) (Or.inl ⟨by rfl, ?dy59⟩) ?dr59
              case dy59 => (intro w hSw; have hS0 := hSw; (try dsimp only [HS] at hSw); go_simp; refine Came.value ?_ hS0; with_reducible rfl)
              try simp only [Act.put, List.setIfInBounds_toArray, List.set_cons_zero, List.set_cons_succ]
              refine wpDet_take (i := 19) (oi := _) (v := ?dv60) (by simp only [List.getElem?_toArray, List.getElem?_cons_zero, List.getElem?_cons_succ]; rfl) (by kernel_rfl) (by kernel_rfl) (by kernel_rfl) (Or.inl ⟨by rfl, ?dy60⟩) ?dr60
              case dy60 => (intro w hSw; have hS0 := hSw; (try dsimp only [HS] at hSw); go_simp; refine Came.value ?_ hS0; with_reducible rfl)
              try simp only [Act.put, List.setIfInBounds_toArray, List.set_cons_zero, List.set_cons_succ]
              refine wpDet_take (i := 20) (oi := _) (v := ?dv61) (by simp only [List.getElem?_toArray, List.getElem?_cons_zero, List.getElem?_cons_succ]; rfl) (by kernel_rfl) (by kernel_rfl) (by kernel_rfl) (Or.inl ⟨by rfl, ?dy61⟩) ?dr61
              case dy61 => (intro w hSw; have hS0 := hSw; (try dsimp only [HS] at hSw); go_simp; refine Came.value ?_ hS0; with_reducible rfl)
              try simp only [Act.put, List.setIfInBounds_toArray, List.set_cons_zero, List.set_cons_succ]
              refine wpDet_take (i := 21) (oi := _) (v := ?dv62) (by simp only [List.getElem?_toArray, List.getElem?_cons_zero, List.getElem?_cons_succ]; rfl) (by kernel_rfl) (by kernel_rfl) (by kernel_rfl) (Or.inl ⟨by rfl, ?dy62⟩) ?dr62
              case dy62 => (intro w hSw; have hS0 := hSw; (try dsimp only [HS] at hSw); go_simp; refine Came.value ?_ hS0; with_reducible rfl)
              try simp only [Act.put, List.setIfInBounds_toArray, List.set_cons_zero, List.set_cons_succ]
              refine wpDet_take (i := 22) (oi := _) (v := ?dv63) (by simp only [List.getElem?_toArray, List.getElem?_cons_zero, List.getElem?_cons_succ]; rfl) (by kernel_rfl) (by kernel_rfl) (by kernel_rfl) (Or.inl ⟨by rfl, ?dy63⟩) ?dr63
              case dy63 => (intro w hSw; have hS0 := hSw; (try dsimp only [HS] at hSw); go_simp; refine Came.value ?_ hS0; with_reducible rfl)
              try simp only [Act.put, List.setIfInBounds_toArray, List.set_cons_zero, List.set_cons_succ]
              refine wpDet_take (i := 23) (oi := _) (v := ?dv64) (by simp only [List.getElem?_toArray, List.getElem?_cons_zero, List.getElem?_cons_succ]; rfl) (by kernel_rfl) (by kernel_rfl) (by kernel_rfl) (Or.inl ⟨by rfl, ?dy64⟩) ?dr64
              case dy64 => (intro w hSw; have hS0 := hSw; (try dsimp only [HS] at hSw); go_simp; refine Came.value ?_ hS0; with_reducible rfl)
              try simp only [Act.put, List.setIfInBounds_toArray, List.set_cons_zero, List.set_cons_succ]
              refine wpDet_take (i := 24) (oi := _) (v := ?dv65) (by simp only [List.getElem?_toArray, List.getElem?_cons_zero, List.getElem?_cons_succ]; rfl) (by kernel_rfl) (by kernel_rfl) (by kernel_rfl) (Or.inl ⟨by rfl, ?dy65⟩) ?dr65
              case dy65 => (intro w hSw; have hS0 := hSw; (try dsimp only [HS] at hSw); go_simp; refine Came.value ?_ hS0; with_reducible rfl)
              try simp only [Act.put, List.setIfInBounds_toArray, List.set_cons_zero, List.set_cons_succ]
              refine wpDet_take (i := 25) (oi := _) (v := ?dv66) (by simp only [List.getElem?_toArray, List.getElem?_cons_zero, List.getElem?_cons_succ]; rfl) (by kernel_rfl) (by kernel_rfl) (by kernel_rfl) (Or.inl ⟨by rfl, ?dy66⟩) ?dr66
              case dy66 => (intro w hSw; have hS0 := hSw; (try dsimp only [HS] at hSw); go_simp; refine Came.value ?_ hS0; with_reducible rfl)
              try simp only [Act.put, List.setIfInBounds_toArray, List.set_cons_zero, List.set_cons_succ]
              refine wpDet_take (i := 26) (oi := _) (v := ?dv67) (by simp only [List.getElem?_toArray, List.getElem?_cons_zero, List.getElem?_cons_succ]; rfl) (by kernel_rfl) (by kernel_rfl) (by kernel_rfl) (Or.inl ⟨by rfl, ?dy67⟩) ?dr67
              case dy67 => (intro w hSw; have hS0 := hSw; (try dsimp only [HS] at hSw); go_simp; refine Came.value ?_ hS0; with_reducible rfl)
              try simp only [Act.put, List.setIfInBounds_toArray, List.set_cons_zero, List.set_cons_succ]
              refine wpDet_take (i := 27) (oi := _) (v := ?dv68) (by simp only [List.getElem?_toArray, List.getElem?_cons_zero, List.getElem?_cons_succ]; rfl) (by kernel_rfl) (by kernel_rfl) (by kernel_rfl) (Or.inl ⟨by rfl, ?dy68⟩) ?dr68
              case dy68 => (intro w hSw; have hS0 := hSw; (try dsimp only [HS] at hSw); go_simp; refine Came.value ?_ hS0; with_reducible rfl)
              try simp only [Act.put, List.setIfInBounds_toArray, List.set_cons_zero, List.set_cons_succ]
              refine wpDet_take (i := 28) (oi := _) (v := ?dv69) (by simp only [List.getElem?_toArray, List.getElem?_cons_zero, List.getElem?_cons_succ]; rfl) (by kernel_rfl) (by kernel_rfl) (by kernel_rfl) (Or.inl ⟨by rfl, ?dy69⟩) ?dr69
              case dy69 => (intro w hSw; have hS0 := hSw; (try dsimp only [HS] at hSw); go_simp; refine Came.value ?_ hS0; with_reducible rfl)
              try simp only [Act.put, List.setIfInBounds_toArray, List.set_cons_zero, List.set_cons_succ]
              refine wpDet_take (i := 29) (oi := _) (v := ?dv70) (by simp only [List.getElem?_toArray, List.getElem?_cons_zero, List.getElem?_cons_succ]; rfl) (by kernel_rfl) (by kernel_rfl) (by kernel_rfl) (Or.inl ⟨by rfl, ?dy70⟩) ?dr70
              case dy70 => (intro w hSw; have hS0 := hSw; (try dsimp only [HS] at hSw); go_simp; refine Came.value ?_ hS0; with_reducible rfl)
              try simp only [Act.put, List.setIfInBounds_toArray, List.set_cons_zero, List.set_cons_succ]
              refine wpDet_take (i := 30) (oi := _) (v := ?dv71) (by simp only [List.getElem?_toArray, List.getElem?_cons_zero, List.getElem?_cons_succ]; rfl) (by kernel_rfl) (by kernel_rfl) (by kernel_rfl) (Or.inl ⟨by rfl, ?dy71⟩) ?dr71
              case dy71 => (intro w hSw; have hS0 := hSw; (try dsimp only [HS] at hSw); go_simp; refine Came.value ?_ hS0; with_reducible rfl)
              try simp only [Act.put, List.setIfInBounds_toArray, List.set_cons_zero, List.set_cons_succ]
              refine wpDet_take (i := 31) (oi := _) (v := ?dv72) (by simp only [List.getElem?_toArray, List.getElem?_cons_zero, List.getElem?_cons_succ]; rfl) (by kernel_rfl) (by kernel_rfl) (by kernel_rfl) (Or.inl ⟨by rfl, ?dy72⟩) ?dr72
              case dy72 => (intro w hSw; have hS0 := hSw; (try dsimp only [HS] at hSw); go_simp; refine Came.value ?_ hS0; with_reducible rfl)
              try simp only [Act.put, List.setIfInBounds_toArray, List.set_cons_zero, List.set_cons_succ]
              refine wpDet_take (i := 32) (oi := _) (v := ?dv73) (by simp only [List.getElem?_toArray, List.getElem?_cons_zero, List.getElem?_cons_succ]; rfl) (by kernel_rfl) (by kernel_rfl) (by kernel_rfl) (Or.inl ⟨by rfl, ?dy73⟩) ?dr73
              case dy73 => (intro w hSw; have hS0 := hSw; (try dsimp only [HS] at hSw); go_simp; refine Came.value ?_ hS0; with_reducible rfl)
              try simp only [Act.put, List.setIfInBounds_toArray, List.set_cons_zero, List.set_cons_succ]
              refine wpDet_take (i := 33) (oi := _) (v := ?dv74) (by simp only [List.getElem?_toArray, List.getElem?_cons_zero, List.getElem?_cons_succ]; rfl) (by kernel_rfl) (by kernel_rfl) (by kernel_rfl) (Or.inl ⟨by rfl, ?dy74⟩) ?dr74
              case dy74 => (intro w hSw; have hS0 := hSw; (try dsimp only [HS] at hSw); go_simp; refine Came.value ?_ hS0; with_reducible rfl)
              try simp only [Act.put, List.setIfInBounds_toArray, List.set_cons_zero, List.set_cons_succ]
              refine wpDet_take (i := 34) (oi := _) (v := ?dv75) (by simp only [List.getElem?_toArray, List.getElem?_cons_zero, List.getElem?_cons_succ]; rfl) (by kernel_rfl) (by kernel_rfl) (by kernel_rfl) (Or.inl ⟨by rfl, ?dy75⟩) ?dr75
              case dy75 => (intro w hSw; have hS0 := hSw; (try dsimp only [HS] at hSw); go_simp; refine Came.value ?_ hS0; with_reducible rfl)
              try simp only [Act.put, List.setIfInBounds_toArray, List.set_cons_zero, List.set_cons_succ]
              refine wpDet_take (i := 35) (oi := _) (v := ?dv76) (by simp only [List.getElem?_toArray, List.getElem?_cons_zero, List.getElem?_cons_succ]; rfl) (by kernel_rfl) (by kernel_rfl) (by kernel_rfl) (Or.inl ⟨by rfl, ?dy76⟩) ?dr76
              case dy76 => (intro w hSw; have hS0 := hSw; (try dsimp only [HS] at hSw); go_simp; refine Came.value ?_ hS0; with_reducible rfl)
              try simp only [Act.put, List.setIfInBounds_toArray, List.set_cons_zero, List.set_cons_succ]
              refine wpDet_take (i := 36) (oi := _) (v := ?dv77) (by simp only [List.getElem?_toArray, List.getElem?_cons_zero, List.getElem?_cons_succ]; rfl) (by kernel_rfl) (by kernel_rfl) (by kernel_rfl) (Or.inl ⟨by rfl, ?dy77⟩) ?dr77
              case dy77 => (intro w hSw; have hS0 := hSw; (try dsimp only [HS] at hSw); go_simp; refine Came.value ?_ hS0; with_reducible rfl)
              try simp only [Act.put, List.setIfInBounds_toArray, List.set_cons_zero, List.set_cons_succ]
              refine wpDet_take (i := 37) (oi := _) (v := ?dv78) (by simp only [List.getElem?_toArray, List.getElem?_cons_zero, List.getElem?_cons_succ]; rfl) (by kernel_rfl) (by kernel_rfl) (by kernel_rfl) (Or.inl ⟨by rfl, ?dy78⟩) ?dr78
              case dy78 => (intro w hSw; have hS0 := hSw; (try dsimp only [HS] at hSw); go_simp; refine Came.value ?_ hS0; with_reducible rfl)
              try simp only [Act.put, List.setIfInBounds_toArray, List.set_cons_zero, List.set_cons_succ]
              refine wpDet_take (i := 38) (oi := _) (v := ?dv79) (by simp only [List.getElem?_toArray, List.getElem?_cons_zero, List.getElem?_cons_succ]; rfl) (by kernel_rfl) (by kernel_rfl) (by kernel_rfl) (Or.inl ⟨by rfl, ?dy79⟩) ?dr79
              case dy79 => (intro w hSw; have hS0 := hSw; (try dsimp only [HS] at hSw); go_simp; refine Came.value ?_ hS0; with_reducible rfl)
              try simp only [Act.put, List.setIfInBounds_toArray, List.set_cons_zero, List.set_cons_succ]
              refine wpDet_take (i := 39) (oi := _) (v := ?dv80) (by simp only [List.getElem?_toArray, List.getElem?_cons_zero, List.getElem?_cons_succ]; rfl) (by kernel_rfl) (by kernel_rfl) (by kernel_rfl) (Or.inl ⟨by rfl, ?dy80⟩) ?dr80
              case dy80 => (intro w hSw; have hS0 := hSw; (try dsimp only [HS] at hSw); go_simp; refine Came.value ?_ hS0; with_reducible rfl)
              try simp only [Act.put, List.setIfInBounds_toArray, List.set_cons_zero, List.set_cons_succ]
              refine wpDet_done (by kernel_rfl) ?_ _
              rintro w8 hS8
              have HS8 := Lib.hid hS8
              clear hS8
              go_wp2
              go_roundw
              case rel => exact ⟨i + 1, by omega, by go_num, P, rfl, (by show _ ∧ _; omega), HS8⟩
              case measure => simp [intOf]; omega
          · have G := Lib.hid (GO.out P (k - 1) HP.out false (by rw [hsg]; exact (decide_eq_false (HNO.out _ (by omega))).symm) (0) (by rw [hsg]; simp))
            clear hsg
            obtain ⟨_, c0, c1, c2, c3⟩ := HSx.out
            try dsimp only at c0 c1 c2 c3
            go_wp2_with fail
            with_reducible refine (NX.out _).mono ?_
            rintro e w5 ⟨rfl, rfl⟩
            clear hx
            go_wp2_with fail
            with_reducible refine (G.out _).mono ?_
            rintro e w5 ⟨rfl, hf⟩
            have HB5 := Lib.hid (HSx.out.fr hf)
            clear hf c0 c1 c2 c3
            obtain ⟨_, c0, c1, c2, c3⟩ := HB5.out
            try dsimp only at c0 c1 c2 c3
            obtain ⟨fl, hfl⟩ : ∃ fl, fl = Ho.flr ⟨c, f, s, d⟩ (P) := ⟨_, rfl⟩
            obtain ⟨bl, hbl⟩ : ∃ bl, bl = decide (Ho.lev ⟨c, f, s, d⟩ (P)) := ⟨_, rfl⟩
            have FX := Lib.hid (FL.out (P) fl hfl)
            have LV := Lib.hid (LE.out (P) bl hbl)
            have ff := FF.out (P) hp0 hp1
            rw [← hfl] at ff
            obtain ⟨f0, f1, f2, f3, f4⟩ := ff
            try dsimp only at f0 f1 f2 f3 f4
            have g0 : decide (fl < 0) = false := by simp; omega
            have g1 : decide (f ≤ fl) = false := by simp; omega
            have wm0 : IntKind.i64.wrap (fl * s) = fl * s := IntWalk.i64_in _ (by omega)
            obtain ⟨u, hu⟩ : ∃ u, u = fl * s := ⟨_, rfl⟩
            rw [← hu] at f2 f3 f4
            have wm : IntKind.i64.wrap (fl * s) = u := by rw [hu]; exact wm0
            have wd : IntKind.i64.wrap (P - u) = P - u := IntWalk.i64_in _ (by omega)
            have g2 : (u == P) = bl := by
              rw [hbl]
              by_cases e : u = P
              · rw [decide_eq_true (f4.2 e)]; simpa using e
              · rw [decide_eq_false (fun k => e (f4.1 k))]; simpa using e
            have g3 : (bl != bl) = false := by simp
            have g4 : decide (P - u < 0) = false := by simp; omega
            have g5 : decide (s ≤ P - u) = false := by simp; omega
            clear f4 hbl hfl hu wm0
            go_wp2_with fail
            with_reducible refine (FX.out _).mono ?_
            rintro e w7 ⟨rfl, hf⟩
            have HB7 := Lib.hid (HB5.out.fr hf)
            clear hf c0 c1 c2 c3
            have W7 := Lib.hid (HB7.out.fr (Fr.drew _ []))
            go_wp2
            refine wp_region_det (S := HS w w.heap.size c f s d) (by kernel_rfl) W7.out ?_
            refine wpDet_take (i := 0) (oi := _) (v := ?dv81) (by simp only [List.getElem?_toArray, List.getElem?_cons_zero]; rfl) (by kernel_rfl) (by kernel_rfl) (by kernel_rfl) (Or.inl ⟨by rfl, ?dy81⟩) ?dr81
            case dy81 => (intro w hSw; have hS0 := hSw; (try dsimp only [HS] at hSw); go_simp; refine Came.value ?_ hS0; with_reducible rfl)
            try simp only [Act.put, List.setIfInBounds_toArray, List.set_cons_zero, List.set_cons_succ]
            refine wpDet_take (i := 1) (oi := _) (v := ?dv82) (by simp only [List.getElem?_toArray, List.getElem?_cons_zero, List.getElem?_cons_succ]; rfl) (by kernel_rfl) (by kernel_rfl) (by kernel_rfl) (Or.inl ⟨by rfl, ?dy82⟩) ?dr82
            case dy82 => (intro w hSw; have hS0 := hSw; (try dsimp only [HS] at hSw); go_simp; refine Came.value ?_ hS0; with_reducible rfl)
            try simp only [Act.put, List.setIfInBounds_toArray, List.set_cons_zero, List.set_cons_succ]
            refine wpDet_take (i := 2) (oi := _) (v := ?dv83) (by simp only [List.getElem?_toArray, List.getElem?_cons_zero, List.getElem?_cons_succ]; rfl) (by kernel_rfl) (by kernel_rfl) (by kernel_rfl) (Or.inl ⟨by rfl, ?dy83⟩) ?dr83
            case dy83 => (intro w hSw; have hS0 := hSw; (try dsimp only [HS] at hSw); go_simp; refine Came.value ?_ hS0; with_reducible rfl)
            try simp only [Act.put, List.setIfInBounds_toArray, List.set_cons_zero, List.set_cons_succ]
            refine wpDet_take (i := 3) (oi := _) (v := ?dv84) (by simp only [List.getElem?_toArray, List.getElem?_cons_zero, List.getElem?_cons_succ]; rfl) (by kernel_rfl) (by kernel_rfl) (by kernel_rfl) (Or.inl ⟨by rfl, ?dy84⟩) ?dr84
            case dy84 => (intro w hSw; have hS0 := hSw; (try dsimp only [HS] at hSw); go_simp; refine Came.value ?_ hS0; with_reducible rfl)
            try simp only [Act.put, List.setIfInBounds_toArray, List.set_cons_zero, List.set_cons_succ]
            refine wpDet_take (i := 4) (oi := _) (v := ?dv85) (by simp only [List.getElem?_toArray, List.getElem?_cons_zero, List.getElem?_cons_succ]; rfl) (by kernel_rfl) (by kernel_rfl) (by kernel_rfl) (Or.inl ⟨by rfl, ?dy85⟩) ?dr85
            case dy85 => (intro w hSw; have hS0 := hSw; (try dsimp only [HS] at hSw); go_simp; refine Came.value ?_ hS0; with_reducible rfl)
            try simp only [Act.put, List.setIfInBounds_toArray, List.set_cons_zero, List.set_cons_succ]
            refine wpDet_take (i := 5) (oi := _) (v := ?dv86) (by simp only [List.getElem?_toArray, List.getElem?_cons_zero, List.getElem?_cons_succ]; rfl) (by kernel_rfl) (by kernel_rfl) (by kernel_rfl) (Or.inl ⟨by rfl, ?dy86⟩) ?dr86
            case dy86 => (intro w hSw; have hS0 := hSw; (try dsimp only [HS] at hSw); go_simp; refine Came.value ?_ hS0; with_reducible rfl)
            try simp only [Act.put, List.setIfInBounds_toArray, List.set_cons_zero, List.set_cons_succ]
            refine wpDet_take (i := 6) (oi := _) (v := ?dv87) (by simp only [List.getElem?_toArray, List.getElem?_cons_zero, List.getElem?_cons_succ]; rfl) (by kernel_rfl) (by kernel_rfl) (by kernel_rfl) (Or.inl ⟨by rfl, ?dy87⟩) ?dr87
            case dy87 => (intro w hSw; have hS0 := hSw; (try dsimp only [HS] at hSw); go_simp; refine Came.value ?_ hS0; with_reducible rfl)
            try simp only [Act.put, List.setIfInBounds_toArray, List.set_cons_zero, List.set_cons_succ]
            refine wpDet_take (i := 7) (oi := _) (v := ?dv88) (by simp only [List.getElem?_toArray, List.getElem?_cons_zero, List.getElem?_cons_succ]; rfl) (by kernel_rfl) (by kernel_rfl) (by kernel_rfl) (Or.inl ⟨by rfl, ?dy88⟩) ?dr88
            case dy88 => (intro w hSw; have hS0 := hSw; (try dsimp only [HS] at hSw); go_simp; refine Came.value ?_ hS0; with_reducible rfl)
            try simp only [Act.put, List.setIfInBounds_toArray, List.set_cons_zero, List.set_cons_succ]
            refine wpDet_take (i := 8) (oi := _) (v := ?dv89) (by simp only [List.getElem?_toArray, List.getElem?_cons_zero, List.getElem?_cons_succ]; rfl) (by kernel_rfl) (by kernel_rfl) (by kernel_rfl) (Or.inl ⟨by rfl, ?dy89⟩) ?dr89
            case dy89 => (intro w hSw; have hS0 := hSw; (try dsimp only [HS] at hSw); go_simp; refine Came.value ?_ hS0; with_reducible rfl)
            try simp only [Act.put, List.setIfInBounds_toArray, List.set_cons_zero, List.set_cons_succ]
            refine wpDet_take (i := 9) (oi := _) (v := ?dv90) (by simp only [List.getElem?_toArray, List.getElem?_cons_zero, List.getElem?_cons_succ]; rfl) (by kernel_rfl) (by kernel_rfl) (by kernel_rfl) (Or.inl ⟨by rfl, ?dy90⟩) ?dr90
            case dy90 => (intro w hSw; have hS0 := hSw; (try dsimp only [HS] at hSw); go_simp; refine Came.value ?_ hS0; with_reducible rfl)
            try simp only [Act.put, List.setIfInBounds_toArray, List.set_cons_zero, List.set_cons_succ]
            refine wpDet_take (i := 10) (oi := _) (v := ?dv91) (by simp only [List.getElem?_toArray, List.getElem?_cons_zero, List.getElem?_cons_succ]; rfl) (by kernel_rfl) (by kernel_rfl) (by kernel_rfl) (Or.inl ⟨by rfl, ?dy91⟩) ?dr91
            case dy91 => (intro w hSw; have hS0 := hSw; (try dsimp only [HS] at hSw); go_simp; refine Came.value ?_ hS0; with_reducible rfl)
            try simp only [Act.put, List.setIfInBounds_toArray, List.set_cons_zero, List.set_cons_succ]
            refine wpDet_take (i := 12) (oi := _) (v := ?dv92) (by simp only [List.getElem?_toArray, List.getElem?_cons_zero, List.getElem?_cons_succ]; rfl) (by kernel_rfl) (by kernel_rfl) (by kernel_rfl) (Or.inl ⟨by rfl, ?dy92⟩) ?dr92
            case dy92 => (intro w hSw; have hS0 := hSw; (try dsimp only [HS] at hSw); go_simp; refine Came.value ?_ hS0; with_reducible rfl)
            try simp only [Act.put, List.setIfInBounds_toArray, List.set_cons_zero, List.set_cons_succ]
            refine wpDet_take (i := 13) (oi := _) (v := ?dv93) (by simp only [List.getElem?_toArray, List.getElem?_cons_zero, List.getElem?_cons_succ]; rfl) (by kernel_rfl) (by kernel_rfl) (by kernel_rfl) (Or.inl ⟨by rfl, ?dy93⟩) ?dr93
            case dy93 => (intro w hSw; have hS0 := hSw; (try dsimp only [HS] at hSw); go_simp; refine Came.value ?_ hS0; with_reducible rfl)
            try simp only [Act.put, List.setIfInBounds_toArray, List.set_cons_zero, List.set_cons_succ]
            refine wpDet_take (i := 14) (oi := _) (v := ?dv94) (by simp only [List.getElem?_toArray, List.getElem?_cons_zero, List.getElem?_cons_succ]; rfl) (by kernel_rfl) (by kernel_rfl) (by kernel_rfl) (Or.inl ⟨by rfl, ?dy94⟩) ?dr94
            case dy94 => (intro w hSw; have hS0 := hSw; (try dsimp only [HS] at hSw); go_simp; refine Came.value ?_ hS0; with_reducible rfl)
            try simp only [Act.put, List.setIfInBounds_toArray, List.set_cons_zero, List.set_cons_succ]
            refine wpDet_take (i := 15) (oi := _) (v := ?dv95) (by simp only [List.getElem?_toArray, List.getElem?_cons_zero, List.getElem?_cons_succ]; rfl) (by kernel_rfl) (by kernel_rfl) (by kernel_rfl) (Or.inl ⟨by rfl, ?dy95⟩) ?dr95
            case dy95 => (intro w hSw; have hS0 := hSw; (try dsimp only [HS] at hSw); go_simp; refine Came.value ?_ hS0; with_reducible rfl)
            try simp only [Act.put, List.setIfInBounds_toArray, List.set_cons_zero, List.set_cons_succ]
            refine wpDet_take (i := 16) (oi := _) (v := ?dv96) (by simp only [List.getElem?_toArray, List.getElem?_cons_zero, List.getElem?_cons_succ]; rfl) (by kernel_rfl) (by kernel_rfl) (by kernel_rfl) (Or.inl ⟨by rfl, ?dy96⟩) ?dr96
            case dy96 => (intro w hSw; have hS0 := hSw; (try dsimp only [HS] at hSw); go_simp; refine Came.value ?_ hS0; with_reducible rfl)
            try simp only [Act.put, List.setIfInBounds_toArray, List.set_cons_zero, List.set_cons_succ]
            refine wpDet_take (i := 17) (oi := _) (v := ?dv97) (by simp only [List.getElem?_toArray, List.getElem?_cons_zero, List.getElem?_cons_succ]; rfl) (by kernel_rfl) (by kernel_rfl) (by kernel_rfl) (Or.inl ⟨by rfl, ?dy97⟩) ?dr97
            case dy97 => (intro w hSw; have hS0 := hSw; (try dsimp only [HS] at hSw); go_simp; refine Came.value ?_ hS0; with_reducible rfl)
            try simp only [Act.put, List.setIfInBounds_toArray, List.set_cons_zero, List.set_cons_succ]
            refine wpDet_take (i := 11) (oi := _) (v := ?dv98) (by simp only [List.getElem?_toArray, List.getElem?_cons_zero, List.getElem?_cons_succ]; rfl) (by kernel_rfl) (by kernel_rfl) (by kernel_rfl) (Or.inl ⟨by rfl, ?dy98⟩) ?dr98
            case dy98 => (intro w hSw; go_simp; exact Came.call ((LV.out w).mono fun e w' ⟨he, hf⟩ => ⟨he, hSw.fr hf⟩) (by with_reducible rfl))
            try simp only [Act.put, List.setIfInBounds_toArray, List.set_cons_zero, List.set_cons_succ]
            refine wpDet_take (i := 18) (oi := _) (v := ?dv99) (by simp only [List.getElem?_toArray, List.getElem?_cons_zero, List.getElem?_cons_succ]; rfl) (by kernel_rfl) (by kernel_rfl) (by kernel_rfl) (Or.inl ⟨by rfl, ?dy99⟩) ?dr99
            case dy99 => (intro w hSw; have hS0 := hSw; (try dsimp only [HS] at hSw); go_simp; refine Came.value ?_ hS0; with_reducible rfl)
            try simp only [Act.put, List.setIfInBounds_toArray, List.set_cons_zero, List.set_cons_succ]
            refine wpDet_take (i := 19) (oi := _) (v := ?dv100) (by simp only [List.getElem?_toArray, List.getElem?_cons_zero, List.getElem?_cons_succ]; rfl) (by kernel_rfl) (by kernel_rfl) (by kernel_rfl) (Or.inl ⟨by rfl, ?dy100⟩) ?dr100
            case dy100 => (intro w hSw; have hS0 := hSw; (try dsimp only [HS] at hSw); go_simp; refine Came.value ?_ hS0; with_reducible rfl)
            try simp only [Act.put, List.setIfInBounds_toArray, List.set_cons_zero, List.set_cons_succ]
            refine wpDet_take (i := 20) (oi := _) (v := ?dv101) (by simp only [List.getElem?_toArray, List.getElem?_cons_zero, List.getElem?_cons_succ]; rfl) (by kernel_rfl) (by kernel_rfl) (by kernel_rfl) (Or.inl ⟨by rfl, ?dy101⟩) ?dr101
            case dy101 => (intro w hSw; have hS0 := hSw; (try dsimp only [HS] at hSw); go_simp; refine Came.value ?_ hS0; with_reducible rfl)
            try simp only [Act.put, List.setIfInBounds_toArray, List.set_cons_zero, List.set_cons_succ]
            refine wpDet_take (i := 21) (oi := _) (v := ?dv102) (by simp only [List.getElem?_toArray, List.getElem?_cons_zero, List.getElem?_cons_succ]; rfl) (by kernel_rfl) (by kernel_rfl) (by kernel_rfl) (Or.inl ⟨by rfl, ?dy102⟩) ?dr102
            case dy102 => (intro w hSw; have hS0 := hSw; (try dsimp only [HS] at hSw); go_simp; refine Came.value ?_ hS0; with_reducible rfl)
            try simp only [Act.put, List.setIfInBounds_toArray, List.set_cons_zero, List.set_cons_succ]
            refine wpDet_take (i := 22) (oi := _) (v := ?dv103) (by simp only [List.getElem?_toArray, List.getElem?_cons_zero, List.getElem?_cons_succ]; rfl) (by kernel_rfl) (by kernel_rfl) (by kernel_rfl) (Or.inl ⟨by rfl, ?dy103⟩) ?dr103
            case dy103 => (intro w hSw; have hS0 := hSw; (try dsimp only [HS] at hSw); go_simp; refine Came.value ?_ hS0; with_reducible rfl)
            try simp only [Act.put, List.setIfInBounds_toArray, List.set_cons_zero, List.set_cons_succ]
            refine wpDet_take (i := 23) (oi := _) (v := ?dv104) (by simp only [List.getElem?_toArray, List.getElem?_cons_zero, List.getElem?_cons_succ]; rfl) (by kernel_rfl) (by kernel_rfl) (by kernel_rfl) (Or.inl ⟨by rfl, ?dy104⟩) ?dr104
            case dy104 => (intro w hSw; have hS0 := hSw; (try dsimp only [HS] at hSw); go_simp; refine Came.value ?_ hS0; with_reducible rfl)
            try simp only [Act.put, List.setIfInBounds_toArray, List.set_cons_zero, List.set_cons_succ]
            refine wpDet_take (i := 24) (oi := _) (v := ?dv105) (by simp only [List.getElem?_toArray, List.getElem?_cons_zero, List.getElem?_cons_succ]; rfl) (by kernel_rfl) (by kernel_rfl) (by kernel_rfl) (Or.inl ⟨by rfl, ?dy105⟩) ?dr105
            case dy105 => (intro w hSw; have hS0 := hSw; (try dsimp only [HS] at hSw); go_simp; refine Came.value ?_ hS0; with_reducible rfl)
            try simp only [Act.put, List.setIfInBounds_toArray, List.set_cons_zero, List.set_cons_succ]
            refine wpDet_take (i := 25) (oi := _) (v := ?dv106) (by simp only [List.getElem?_toArray, List.getElem?_cons_zero, List.getElem?_cons_succ]; rfl) (by kernel_rfl) (by kernel_rfl) (by kernel_rfl) (Or.inl ⟨by rfl, ?dy106⟩) ?dr106
            case dy106 => (intro w hSw; have hS0 := hSw; (try dsimp only [HS] at hSw); go_simp; refine Came.value ?_ hS0; with_reducible rfl)
            try simp only [Act.put, List.setIfInBounds_toArray, List.set_cons_zero, List.set_cons_succ]
            refine wpDet_take (i := 26) (oi := _) (v := ?dv107) (by simp only [List.getElem?_toArray, List.getElem?_cons_zero, List.getElem?_cons_succ]; rfl) (by kernel_rfl) (by kernel_rfl) (by kernel_rfl) (Or.inl ⟨by rfl, ?dy107⟩) ?dr107
            case dy107 => (intro w hSw; have hS0 := hSw; (try dsimp only [HS] at hSw); go_simp; refine Came.value ?_ hS0; with_reducible rfl)
            try simp only [Act.put, List.setIfInBounds_toArray, List.set_cons_zero, List.set_cons_succ]
            refine wpDet_take (i := 27) (oi := _) (v := ?dv108) (by simp only [List.getElem?_toArray, List.getElem?_cons_zero, List.getElem?_cons_succ]; rfl) (by kernel_rfl) (by kernel_rfl) (by kernel_rfl) (Or.inl ⟨by rfl, ?dy108⟩) ?dr108
            case dy108 => (intro w hSw; have hS0 := hSw; (try dsimp only [HS] at hSw); go_simp; refine Came.value ?_ hS0; with_reducible rfl)
            try simp only [Act.put, List.setIfInBounds_toArray, List.set_cons_zero, List.set_cons_succ]
            refine wpDet_take (i := 28) (oi := _) (v := ?dv109) (by simp only [List.getElem?_toArray, List.getElem?_cons_zero, List.getElem?_cons_succ]; rfl) (by kernel_rfl) (by kernel_rfl) (by kernel_rfl) (Or.inl ⟨by rfl, ?dy109⟩) ?dr109
            case dy109 => (intro w hSw; have hS0 := hSw; (try dsimp only [HS] at hSw); go_simp; refine Came.value ?_ hS0; with_reducible rfl)
            try simp only [Act.put, List.setIfInBounds_toArray, List.set_cons_zero, List.set_cons_succ]
            refine wpDet_take (i := 29) (oi := _) (v := ?dv110) (by simp only [List.getElem?_toArray, List.getElem?_cons_zero, List.getElem?_cons_succ]; rfl) (by kernel_rfl) (by kernel_rfl) (by kernel_rfl) (Or.inl ⟨by rfl, ?dy110⟩) ?dr110
            case dy110 => (intro w hSw; have hS0 := hSw; (try dsimp only [HS] at hSw); go_simp; refine Came.value ?_ hS0; with_reducible rfl)
            try simp only [Act.put, List.setIfInBounds_toArray, List.set_cons_zero, List.set_cons_succ]
            refine wpDet_take (i := 30) (oi := _) (v := ?dv111) (by simp only [List.getElem?_toArray, List.getElem?_cons_zero, List.getElem?_cons_succ]; rfl) (by kernel_rfl) (by kernel_rfl) (by kernel_rfl) (Or.inl ⟨by rfl, ?dy111⟩) ?dr111
            case dy111 => (intro w hSw; have hS0 := hSw; (try dsimp only [HS] at hSw); go_simp; refine Came.value ?_ hS0; with_reducible rfl)
            try simp only [Act.put, List.setIfInBounds_toArray, List.set_cons_zero, List.set_cons_succ]
            refine wpDet_take (i := 31) (oi := _) (v := ?dv112) (by simp only [List.getElem?_toArray, List.getElem?_cons_zero, List.getElem?_cons_succ]; rfl) (by kernel_rfl) (by kernel_rfl) (by kernel_rfl) (Or.inl ⟨by rfl, ?dy112⟩) ?dr112
            case dy112 => (intro w hSw; have hS0 := hSw; (try dsimp only [HS] at hSw); go_simp; refine Came.value ?_ hS0; with_reducible rfl)
            try simp only [Act.put, List.setIfInBounds_toArray, List.set_cons_zero, List.set_cons_succ]
            refine wpDet_take (i := 32) (oi := _) (v := ?dv113) (by simp only [List.getElem?_toArray, List.getElem?_cons_zero, List.getElem?_cons_succ]; rfl) (by kernel_rfl) (by kernel_rfl) (by kernel_rfl) (Or.inl ⟨by rfl, ?dy113⟩) ?dr113
            case dy113 => (intro w hSw; have hS0 := hSw; (try dsimp only [HS] at hSw); go_simp; refine Came.value ?_ hS0; with_reducible rfl)
            try simp only [Act.put, List.setIfInBounds_toArray, List.set_cons_zero, List.set_cons_succ]
            refine wpDet_take (i := 33) (oi := _) (v := ?dv114) (by simp only [List.getElem?_toArray, List.getElem?_cons_zero, List.getElem?_cons_succ]; rfl) (by kernel_rfl) (by kernel_rfl) (by kernel_rfl) (Or.inl ⟨by rfl, ?dy114⟩) ?dr114
            case dy114 => (intro w hSw; have hS0 := hSw; (try dsimp only [HS] at hSw); go_simp; refine Came.value ?_ hS0; with_reducible rfl)
            try simp only [Act.put, List.setIfInBounds_toArray, List.set_cons_zero, List.set_cons_succ]
            refine wpDet_take (i := 34) (oi := _) (v := ?dv115) (by simp only [List.getElem?_toArray, List.getElem?_cons_zero, List.getElem?_cons_succ]; rfl) (by kernel_rfl) (by kernel_rfl) (by kernel_rfl) (Or.inl ⟨by rfl, ?dy115⟩) ?dr115
            case dy115 => (intro w hSw; have hS0 := hSw; (try dsimp only [HS] at hSw); go_simp; refine Came.value ?_ hS0; with_reducible rfl)
            try simp only [Act.put, List.setIfInBounds_toArray, List.set_cons_zero, List.set_cons_succ]
            refine wpDet_take (i := 35) (oi := _) (v := ?dv116) (by simp only [List.getElem?_toArray, List.getElem?_cons_zero, List.getElem?_cons_succ]; rfl) (by kernel_rfl) (by kernel_rfl) (by kernel_rfl) (Or.inl ⟨by rfl, ?dy116⟩) ?dr116
            case dy116 => (intro w hSw; have hS0 := hSw; (try dsimp only [HS] at hSw); go_simp; refine Came.value ?_ hS0; with_reducible rfl)
            try simp only [Act.put, List.setIfInBounds_toArray, List.set_cons_zero, List.set_cons_succ]
            refine wpDet_take (i := 36) (oi := _) (v := ?dv117) (by simp only [List.getElem?_toArray, List.getElem?_cons_zero, List.getElem?_cons_succ]; rfl) (by kernel_rfl) (by kernel_rfl) (by kernel_rfl) (Or.inl ⟨by rfl, ?dy117⟩) ?dr117
            case dy117 => (intro w hSw; have hS0 := hSw; (try dsimp only [HS] at hSw); go_simp; refine Came.value ?_ hS0; with_reducible rfl)
            try simp only [Act.put, List.setIfInBounds_toArray, List.set_cons_zero, List.set_cons_succ]
            refine wpDet_take (i := 37) (oi := _) (v := ?dv118) (by simp only [List.getElem?_toArray, List.getElem?_cons_zero, List.getElem?_cons_succ]; rfl) (by kernel_rfl) (by kernel_rfl) (by kernel_rfl) (Or.inl ⟨by rfl, ?dy118⟩) ?dr118
            case dy118 => (intro w hSw; have hS0 := hSw; (try dsimp only [HS] at hSw); go_simp; refine Came.value ?_ hS0; with_reducible rfl)
            try simp only [Act.put, List.setIfInBounds_toArray, List.set_cons_zero, List.set_cons_succ]
            refine wpDet_take (i := 38) (oi := _) (v := ?dv119) (by simp only [List.getElem?_toArray, List.getElem?_cons_zero, List.getElem?_cons_succ]; rfl) (by kernel_rfl) (by kernel_rfl) (by kernel_rfl) (Or.inl ⟨by rfl, ?dy119⟩) ?dr119
            case dy119 => (intro w hSw; have hS0 := hSw; (try dsimp only [HS] at hSw); go_simp; refine Came.value ?_ hS0; with_reducible rfl)
            try simp only [Act.put, List.setIfInBounds_toArray, List.set_cons_zero, List.set_cons_succ]
            refine wpDet_take (i := 39) (oi := _) (v := ?dv120) (by simp only [List.getElem?_toArray, List.getElem?_cons_zero, List.getElem?_cons_succ]; rfl) (by kernel_rfl) (by kernel_rfl) (by kernel_rfl) (Or.inl ⟨by rfl, ?dy120⟩) ?dr120
            case dy120 => (intro w hSw; have hS0 := hSw; (try dsimp only [HS] at hSw); go_simp; refine Came.value ?_ hS0; with_reducible rfl)
            try simp only [Act.put, List.setIfInBounds_toArray, List.set_cons_zero, List.set_cons_succ]
            refine wpDet_done (by kernel_rfl) ?_ _
            rintro w8 hS8
            have HS8 := Lib.hid hS8
            clear hS8
            go_wp2
            go_roundw
            case rel => exact ⟨i + 1, by omega, by go_num, P, rfl, (by show _ ∧ _; omega), HS8⟩
            case measure => simp [intOf]; omega
        · obtain rfl : N = i := by omega
          have W9 := Lib.hid (HSx.out.fr (Fr.drew _ []))
          have k1 : (f - 1 == IntKind.i64.wrap (f - 1)) = true := by rw [IntWalk.i64_in _ (by omega)]; simp
          go_wp2
          refine wp_region_det (S := HS w w.heap.size c f s d) (by kernel_rfl) W9.out ?_
          refine wpDet_take (i := 0) (oi := _) (v := ?dv121) (by simp only [List.getElem?_toArray, List.getElem?_cons_zero]; rfl) (by kernel_rfl) (by kernel_rfl) (by kernel_rfl) (Or.inl ⟨by rfl, ?dy121⟩) ?dr121
          case dy121 => (intro w hSw; have hS0 := hSw; (try dsimp only [HS] at hSw); go_simp; refine Came.value ?_ hS0; with_reducible rfl)
          try simp only [Act.put, List.setIfInBounds_toArray, List.set_cons_zero, List.set_cons_succ]
          refine wpDet_take (i := 1) (oi := _) (v := ?dv122) (by simp only [List.getElem?_toArray, List.getElem?_cons_zero, List.getElem?_cons_succ]; rfl) (by kernel_rfl) (by kernel_rfl) (by kernel_rfl) (Or.inl ⟨by rfl, ?dy122⟩) ?dr122
          case dy122 => (intro w hSw; have hS0 := hSw; (try dsimp only [HS] at hSw); go_simp; refine Came.value ?_ hS0; with_reducible rfl)
          try simp only [Act.put, List.setIfInBounds_toArray, List.set_cons_zero, List.set_cons_succ]
          refine wpDet_take (i := 2) (oi := _) (v := ?dv123) (by simp only [List.getElem?_toArray, List.getElem?_cons_zero, List.getElem?_cons_succ]; rfl) (by kernel_rfl) (by kernel_rfl) (by kernel_rfl) (Or.inl ⟨by rfl, ?dy123⟩) ?dr123
          case dy123 => (intro w hSw; have hS0 := hSw; (try dsimp only [HS] at hSw); go_simp; refine Came.value ?_ hS0; with_reducible rfl)
          try simp only [Act.put, List.setIfInBounds_toArray, List.set_cons_zero, List.set_cons_succ]
          refine wpDet_take (i := 3) (oi := _) (v := ?dv124) (by simp only [List.getElem?_toArray, List.getElem?_cons_zero, List.getElem?_cons_succ]; rfl) (by kernel_rfl) (by kernel_rfl) (by kernel_rfl) (Or.inl ⟨by rfl, ?dy124⟩) ?dr124
          case dy124 => (intro w hSw; go_simp; exact Came.call ((LZ.out w).mono fun e w' ⟨he, hf⟩ => ⟨he, hSw.fr hf⟩) (by with_reducible rfl))
          try simp only [Act.put, List.setIfInBounds_toArray, List.set_cons_zero, List.set_cons_succ]
          refine wpDet_take (i := 4) (oi := _) (v := ?dv125) (by simp only [List.getElem?_toArray, List.getElem?_cons_zero, List.getElem?_cons_succ]; rfl) (by kernel_rfl) (by kernel_rfl) (by kernel_rfl) (Or.inl ⟨by rfl, ?dy125⟩) ?dr125
          case dy125 => (intro w hSw; have hS0 := hSw; (try dsimp only [HS] at hSw); go_simp; refine Came.value ?_ hS0; with_reducible rfl)
          try simp only [Act.put, List.setIfInBounds_toArray, List.set_cons_zero, List.set_cons_succ]
          refine wpDet_take (i := 5) (oi := _) (v := ?dv126) (by simp only [List.getElem?_toArray, List.getElem?_cons_zero, List.getElem?_cons_succ]; rfl) (by kernel_rfl) (by kernel_rfl) (by kernel_rfl) (Or.inl ⟨by rfl, ?dy126⟩) ?dr126
          case dy126 => (intro w hSw; have hS0 := hSw; (try dsimp only [HS] at hSw); go_simp; refine Came.value ?_ hS0; with_reducible rfl)
          try simp only [Act.put, List.setIfInBounds_toArray, List.set_cons_zero, List.set_cons_succ]
          refine wpDet_take (i := 6) (oi := _) (v := ?dv127) (by simp only [List.getElem?_toArray, List.getElem?_cons_zero, List.getElem?_cons_succ]; rfl) (by kernel_rfl) (by kernel_rfl) (by kernel_rfl) (Or.inl ⟨by rfl, ?dy127⟩) ?dr127
          case dy127 => (intro w hSw; have hS0 := hSw; (try dsimp only [HS] at hSw); go_simp; refine Came.value ?_ hS0; with_reducible rfl)
          try simp only [Act.put, List.setIfInBounds_toArray, List.set_cons_zero, List.set_cons_succ]
          refine wpDet_take (i := 7) (oi := _) (v := ?dv128) (by simp only [List.getElem?_toArray, List.getElem?_cons_zero, List.getElem?_cons_succ]; rfl) (by kernel_rfl) (by kernel_rfl) (by kernel_rfl) (Or.inl ⟨by rfl, ?dy128⟩) ?dr128
          case dy128 => (intro w hSw; have hS0 := hSw; (try dsimp only [HS] at hSw); go_simp; refine Came.value ?_ hS0; with_reducible rfl)
          try simp only [Act.put, List.setIfInBounds_toArray, List.set_cons_zero, List.set_cons_succ]
          refine wpDet_take (i := 8) (oi := _) (v := ?dv129) (by simp only [List.getElem?_toArray, List.getElem?_cons_zero, List.getElem?_cons_succ]; rfl) (by kernel_rfl) (by kernel_rfl) (by kernel_rfl) (Or.inl ⟨by rfl, ?dy129⟩) ?dr129
          case dy129 => (intro w hSw; go_simp; exact Came.call ((T.out w).mono fun e w' ⟨he, hf⟩ => ⟨he, hSw.fr hf⟩) (by with_reducible rfl))
          try simp only [Act.put, List.setIfInBounds_toArray, List.set_cons_zero, List.set_cons_succ]
          refine wpDet_take (i := 9) (oi := _) (v := ?dv130) (by simp only [List.getElem?_toArray, List.getElem?_cons_zero, List.getElem?_cons_succ]; rfl) (by kernel_rfl) (by kernel_rfl) (by kernel_rfl) (Or.inl ⟨by rfl, ?dy130⟩) ?dr130
          case dy130 => (intro w hSw; go_simp; exact Came.call ((LT.out w).mono fun e w' ⟨he, hf⟩ => ⟨he, hSw.fr hf⟩) (by with_reducible rfl))
          try simp only [Act.put, List.setIfInBounds_toArray, List.set_cons_zero, List.set_cons_succ]
          refine wpDet_take (i := 10) (oi := _) (v := ?dv131) (by simp only [List.getElem?_toArray, List.getElem?_cons_zero, List.getElem?_cons_succ]; rfl) (by kernel_rfl) (by kernel_rfl) (by kernel_rfl) (Or.inl ⟨by rfl, ?dy131⟩) ?dr131
          case dy131 => (intro w hSw; have hS0 := hSw; (try dsimp only [HS] at hSw); go_simp; refine Came.value ?_ hS0; with_reducible rfl)
          try simp only [Act.put, List.setIfInBounds_toArray, List.set_cons_zero, List.set_cons_succ]
          refine wpDet_take (i := 11) (oi := _) (v := ?dv132) (by simp only [List.getElem?_toArray, List.getElem?_cons_zero, List.getElem?_cons_succ]; rfl) (by kernel_rfl) (by kernel_rfl) (by kernel_rfl) (Or.inl ⟨by rfl, ?dy132⟩) ?dr132
          case dy132 => (intro w hSw; have hS0 := hSw; (try dsimp only [HS] at hSw); go_simp; refine Came.value ?_ hS0; with_reducible rfl)
          try simp only [Act.put, List.setIfInBounds_toArray, List.set_cons_zero, List.set_cons_succ]
          refine wpDet_take (i := 12) (oi := _) (v := ?dv133) (by simp only [List.getElem?_toArray, List.getElem?_cons_zero, List.getElem?_cons_succ]; rfl) (by kernel_rfl) (by kernel_rfl) (by kernel_rfl) (Or.inl ⟨by rfl, ?dy133⟩) ?dr133
          case dy133 => (intro w hSw; have hS0 := hSw; (try dsimp only [HS] at hSw); go_simp; refine Came.value ?_ hS0; with_reducible rfl)
          try simp only [Act.put, List.setIfInBounds_toArray, List.set_cons_zero, List.set_cons_succ]
          refine wpDet_take (i := 13) (oi := _) (v := ?dv134) (by simp only [List.getElem?_toArray, List.getElem?_cons_zero, List.getElem?_cons_succ]; rfl) (by kernel_rfl) (by kernel_rfl) (by kernel_rfl) (Or.inl ⟨by rfl, ?dy134⟩) ?dr134
          case dy134 => (intro w hSw; have hS0 := hSw; (try dsimp only [HS] at hSw); go_simp; refine Came.value ?_ hS0; with_reducible rfl)
          try simp only [Act.put, List.setIfInBounds_toArray, List.set_cons_zero, List.set_cons_succ]
          refine wpDet_take (i := 16) (oi := _) (v := ?dv135) (by simp only [List.getElem?_toArray, List.getElem?_cons_zero, List.getElem?_cons_succ]; rfl) (by kernel_rfl) (by kernel_rfl) (by kernel_rfl) (Or.inl ⟨by rfl, ?dy135⟩) ?dr135
          case dy135 => (intro w hSw; have hS0 := hSw; (try dsimp only [HS] at hSw); go_simp; refine Came.value ?_ hS0; with_reducible rfl)
          try simp only [Act.put, List.setIfInBounds_toArray, List.set_cons_zero, List.set_cons_succ]
          refine wpDet_take (i := 17) (oi := _) (v := ?dv136) (by simp only [List.getElem?_toArray, List.getElem?_cons_zero, List.getElem?_cons_succ]; rfl) (by kernel_rfl) (by kernel_rfl) (by kernel_rfl) (Or.inl ⟨by rfl, ?dy136⟩) ?dr136
          case dy136 => (intro w hSw; have hS0 := hSw; (try dsimp only [HS] at hSw); go_simp; refine Came.value ?_ hS0; with_reducible rfl)
          try simp only [Act.put, List.setIfInBounds_toArray, List.set_cons_zero, List.set_cons_succ]
          refine wpDet_take (i := 18) (oi := _) (v := ?dv137) (by simp only [List.getElem?_toArray, List.getElem?_cons_zero, List.getElem?_cons_succ]; rfl) (by kernel_rfl) (by kernel_rfl) (by kernel_rfl) (Or.inl ⟨by rfl, ?dy137⟩) ?dr137
          case dy137 => (intro w hSw; have hS0 := hSw; (try dsimp only [HS] at hSw); go_simp; refine Came.value ?_ hS0; with_reducible rfl)
          try simp only [Act.put, List.setIfInBounds_toArray, List.set_cons_zero, List.set_cons_succ]
          refine wpDet_take (i := 14) (oi := _) (v := ?dv138) (by simp only [List.getElem?_toArray, List.getElem?_cons_zero, List.getElem?_cons_succ]; rfl) (by kernel_rfl) (by kernel_rfl) (by kernel_rfl) (Or.inl ⟨by rfl, ?dy138⟩) ?dr138
          case dy138 => (intro w hSw; go_simp; exact Came.call ((T.out w).mono fun e w' ⟨he, hf⟩ => ⟨he, hSw.fr hf⟩) (by with_reducible rfl))
          try simp only [Act.put, List.setIfInBounds_toArray, List.set_cons_zero, List.set_cons_succ]
          refine wpDet_take (i := 15) (oi := _) (v := ?dv139) (by simp only [List.getElem?_toArray, List.getElem?_cons_zero, List.getElem?_cons_succ]; rfl) (by kernel_rfl) (by kernel_rfl) (by kernel_rfl) (Or.inl ⟨by rfl, ?dy139⟩) ?dr139
          case dy139 => (intro w hSw; go_simp; exact Came.call ((FT.out w).mono fun e w' ⟨he, hf⟩ => ⟨he, hSw.fr hf⟩) (by with_reducible rfl))
          try simp only [Act.put, List.setIfInBounds_toArray, List.set_cons_zero, List.set_cons_succ]
          refine wpDet_take (i := 19) (oi := _) (v := ?dv140) (by simp only [List.getElem?_toArray, List.getElem?_cons_zero, List.getElem?_cons_succ]; rfl) (by kernel_rfl) (by kernel_rfl) (by kernel_rfl) (Or.inl ⟨by rfl, ?dy140⟩) ?dr140
          case dy140 => (intro w hSw; have hS0 := hSw; (try dsimp only [HS] at hSw); go_simp; refine Came.value ?_ hS0; with_reducible rfl)
          try simp only [Act.put, List.setIfInBounds_toArray, List.set_cons_zero, List.set_cons_succ]
          refine wpDet_take (i := 20) (oi := _) (v := ?dv141) (by simp only [List.getElem?_toArray, List.getElem?_cons_zero, List.getElem?_cons_succ]; rfl) (by kernel_rfl) (by kernel_rfl) (by kernel_rfl) (Or.inl ⟨by rfl, ?dy141⟩) ?dr141
          case dy141 => (intro w hSw; have hS0 := hSw; (try dsimp only [HS] at hSw); go_simp; refine Came.value ?_ hS0; with_reducible rfl)
          try simp only [Act.put, List.setIfInBounds_toArray, List.set_cons_zero, List.set_cons_succ]
          refine wpDet_take (i := 21) (oi := _) (v := ?dv142) (by simp only [List.getElem?_toArray, List.getElem?_cons_zero, List.getElem?_cons_succ]; rfl) (by kernel_rfl) (by kernel_rfl) (by kernel_rfl) (Or.inl ⟨by rfl, ?dy142⟩) ?dr142
          case dy142 => (intro w hSw; have hS0 := hSw; (try dsimp only [HS] at hSw); go_simp; refine Came.value ?_ hS0; with_reducible rfl)
          try simp only [Act.put, List.setIfInBounds_toArray, List.set_cons_zero, List.set_cons_succ]
          refine wpDet_done (by kernel_rfl) ?_ _
          rintro w8 ⟨hF, _⟩
          go_wp2
          go_ret
          exact ⟨rfl, hF⟩
    · clear hk
      obtain ⟨c, f, s, d⟩ := h
      dsimp only [Ho.v, Ho.box] at *
      go_enter Try.func5, Try.ntmps5
      go_wp2_with fail
      with_reducible refine (first_any _).mono ?_
      rintro e w1 ⟨rfl, hf⟩
      have F1 := Lib.hid (FA.out.trans hf)
      have HB1 := Lib.hid (HB0.out.fr hf)
      clear hf
      obtain ⟨c0, c1, c2, c3⟩ := HB1.out.cells
      try dsimp only at c0 c1 c2 c3
      go_wp2_with fail
      with_reducible refine (V.out _).mono ?_
      rintro e w2 ⟨rfl, hf⟩
      have F2 := Lib.hid (F1.out.trans hf)
      have HB2 := Lib.hid (HB1.out.fr hf)
      clear hf c0 c1 c2 c3
      obtain ⟨c0, c1, c2, c3⟩ := HB2.out.cells
      try dsimp only at c0 c1 c2 c3
      go_wp2
      go_ret
      exact ⟨rfl, F2.out⟩
  · have V := Lib.hid (fun W => valid_any h W false (decide_eq_false hk).symm)
    clear hk
    obtain ⟨c, f, s, d⟩ := h
    dsimp only [Ho.v, Ho.box] at *
    go_enter Try.func5, Try.ntmps5
    go_wp2_with fail
    with_reducible refine (first_any _).mono ?_
    rintro e w1 ⟨rfl, hf⟩
    have F1 := Lib.hid (FA.out.trans hf)
    have HB1 := Lib.hid (HB0.out.fr hf)
    clear hf
    obtain ⟨c0, c1, c2, c3⟩ := HB1.out.cells
    try dsimp only at c0 c1 c2 c3
    go_wp2_with fail
    with_reducible refine (V.out _).mono ?_
    rintro e w2 ⟨rfl, hf⟩
    have F2 := Lib.hid (F1.out.trans hf)
    have HB2 := Lib.hid (HB1.out.fr hf)
    clear hf c0 c1 c2 c3
    obtain ⟨c0, c1, c2, c3⟩ := HB2.out.cells
    try dsimp only at c0 c1 c2 c3
    go_wp2
    go_ret
    exact ⟨rfl, F2.out⟩
theorem pgoes_walk (h : Ho) (v : Value) (l : List Int) (a : Int) (w : World) (hv : Holds .i64 w v l) (hw : ∀ x ∈ l, (Lit.int .i64 x).wf = true) (ha : (Lit.int .i64 a).wf = true) : Calls Try.prog 5 #[h.v, v, .int .i64 a] w fun e w' => e = .returned (.bool true) ∧ w.grownBy w' none :=
  (goes_true h v l a w hv hw (bounds_i64 ha).1 (bounds_i64 ha).2).mono fun _ _ ⟨he, hf⟩ => ⟨he, hf.grown (by simp)⟩
end Go.Proofs.Yteojefipcbalhaa
