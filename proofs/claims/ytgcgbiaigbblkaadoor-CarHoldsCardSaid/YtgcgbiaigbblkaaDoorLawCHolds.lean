/- A car whose door is obstructed stays; free again it closes. -/
import Derived.Test.YtgcgbiaigbblkaaDoorCLaw
import Derived.Test.YtgcgbiaigbblkaaDoorCaPass
namespace Go.Proofs.YtgcgbiaigbblkaaDoor
open Go.RowKit

/-- The car behind k ticks, its door held. -/
def cH (d P e k : Int) : Ca := ⟨⟨P, e, max (d - k) 1, false⟩, max 0 (k - (d - 1))⟩
theorem cH_right {h : Ho} (hk : h.ok) {P e k : Int} (p0 : 0 ≤ P) (p1 : P ≤ h.top) (lv : h.lev P) (e0 : -1 ≤ e) (e1 : e ≤ 1) (k0 : 0 ≤ k) : RightIs h (cH h.d P e k) := by
  have hd := hk.2.2.2
  exact ⟨hk, p0, p1, e0, e1, show (0 : Int) ≤ max (h.d - k) 1 by omega, show max (h.d - k) 1 ≤ h.d by omega, fun _ => ⟨lv, rfl⟩, .inl lv, show max 0 (k - (h.d - 1)) = 0 ∨ (0 < max 0 (k - (h.d - 1)) ∧ max (h.d - k) 1 = 1) by omega⟩
theorem hold_step {h : Ho} (hk : h.ok) {P e k F : Int} (p0 : 0 ≤ P) (p1 : P ≤ h.top) (lv : h.lev P) (fl : h.flr P = F) (e0 : -1 ≤ e) (e1 : e ≤ 1) (k0 : 0 ≤ k) (k1 : k ≤ 1000) (s : Sp) :
    (cH h.d P e k).tick h s true = (cH h.d P e (k + 1), ⟨false, false, F, 0, 0, zSp⟩) := by
  have hd := hk.2.2.2
  have g : 0 < (cH h.d P e k).x.o := show 0 < max (h.d - k) 1 by omega
  rw [tick_open (cH_right hk p0 p1 lv e0 e1 k0) g]
  have fl' : h.flr (cH h.d P e k).x.p = F := fl
  by_cases c : 1 < max (h.d - k) 1
  · rw [door_more (show 1 < (cH h.d P e k).x.o from c), doorH_more (show 1 < (cH h.d P e k).x.o from c), doorB_more (show 1 < (cH h.d P e k).x.o from c), fl']
    unfold cH
    dsimp only
    rw [show max (h.d - k) 1 - 1 = max (h.d - (k + 1)) 1 by omega, show max 0 (k - (h.d - 1)) = max 0 (k + 1 - (h.d - 1)) by omega]
  · have o1 : (cH h.d P e k).x.o = 1 := show max (h.d - k) 1 = 1 by omega
    rw [o1, fl']
    show (Ca.mk ⟨P, e, 1, false⟩ (min (max 0 (k - (h.d - 1))) 9223372036854775806 + 1), Dn.mk false false F 0 0 zSp) = _
    unfold cH
    rw [show max (h.d - (k + 1)) 1 = 1 by omega, show min (max 0 (k - (h.d - 1))) 9223372036854775806 + 1 = max 0 (k + 1 - (h.d - 1)) by omega]
theorem hold_end {h : Ho} (hk : h.ok) {P e k F : Int} (p0 : 0 ≤ P) (p1 : P ≤ h.top) (lv : h.lev P) (fl : h.flr P = F) (e0 : -1 ≤ e) (e1 : e ≤ 1) (k0 : h.d - 1 ≤ k) (s : Sp) :
    (cH h.d P e k).tick h s false = (⟨⟨P, e, 0, false⟩, 0⟩, ⟨false, true, F, 0, 0, zSp⟩) := by
  have hd := hk.2.2.2
  have g : 0 < (cH h.d P e k).x.o := show 0 < max (h.d - k) 1 by omega
  rw [tick_open (cH_right hk p0 p1 lv e0 e1 (by omega)) g, show h.flr (cH h.d P e k).x.p = F from fl, show (cH h.d P e k).x.o = 1 from (show max (h.d - k) 1 = 1 by omega)]
  rfl
/-- The first tick: its door opens. -/
theorem hold_first {h : Ho} (hk : h.ok) {P F : Int} (f0 : 0 ≤ F) (f1 : F < h.f) (p0 : 0 ≤ P) (p1 : P ≤ h.top) (lv : h.lev P) (fl : h.flr P = F) :
    ∃ e r, -1 ≤ e ∧ e ≤ 1 ∧ (Ca.mk ⟨P, 0, 0, false⟩ 0).tick h ⟨oneN F, 0, 0⟩ true = (cH h.d P e 0, ⟨true, false, F, e, 0, r⟩) := by
  have hf := hk.2.1.2
  have hd := hk.2.2.2
  have ok : (Sp.mk (oneN F) 0 0).ok := ⟨oneN_lt F, zero_lt64, zero_lt64⟩
  have R : RightIs h (Ca.mk ⟨P, 0, 0, false⟩ 0) := ⟨hk, p0, p1, show (-1 : Int) ≤ 0 by decide, show (0 : Int) ≤ 1 by decide, show (0 : Int) ≤ 0 by decide, show (0 : Int) ≤ h.d by omega, fun g => absurd g (show ¬ (0 : Int) < 0 by decide), .inl lv, .inl rfl⟩
  have K := (head_is (fit_ok h ok) f0 (show F < 64 by omega) (.inl rfl : (0 : Int) = 0 ∨ (0 : Int) = 1 ∨ (0 : Int) = -1)).small
  have st : (h.fit ⟨oneN F, 0, 0⟩).stop F 0 = true := by
    unfold Sp.stop
    rw [fit_car hk, decide_eq_true f1, Bool.and_true, hasB_one, decide_eq_true (by omega)]
    rfl
  refine ⟨(h.fit ⟨oneN F, 0, 0⟩).head F 0, doneS ⟨oneN F, 0, 0⟩ (h.fit ⟨oneN F, 0, 0⟩) F ((h.fit ⟨oneN F, 0, 0⟩).head F 0), by omega, by omega, ?_⟩
  have T := tick_stop R (show ¬ (0 : Int) < 0 by decide) lv (s := ⟨oneN F, 0, 0⟩) true (by show (h.fit ⟨oneN F, 0, 0⟩).stop (h.flr P) 0 = true; rw [fl]; exact st)
  rw [T]
  dsimp only
  rw [fl]
  unfold cH
  rw [show max (h.d - 0) 1 = h.d by omega, show max 0 (0 - (h.d - 1)) = 0 by omega]

set_option maxHeartbeats 4000000 in
set_option maxRecDepth 100000 in
theorem holds_true (h : Ho) (k1 k2 : Int) (s : Sp) (ok : s.ok) (a10 : -9223372036854775808 ≤ k1) (a11 : k1 ≤ 9223372036854775807) (a20 : -9223372036854775808 ≤ k2) (a21 : k2 ≤ 9223372036854775807) (w : World) (hT : Tz w) :
    Calls Tryd.prog 9 #[h.v, .int .i64 k1, .int .i64 k2, s.v] w fun x w' => x = .returned (.bool true) ∧ Fr w w' [] := by
  have TB := Lib.hid (LA.new w h s)
  have HT := Lib.hid hT
  by_cases hk : h.ok
  · have V := Lib.hid (fun W => valid_any h W true (decide_eq_true hk).symm)
    have hfl := hk.2.1
    have hdl := hk.2.2.2
    have N1 := Lib.hid (fun W => numberTo_any k1 h.f W (by omega) (by omega) a10 a11)
    have N2 := Lib.hid (fun W => numberTo_any k2 30 W (by omega) (by omega) a20 a21)
    have P10 := Int.emod_nonneg k1 (show h.f ≠ 0 by omega)
    have P11 := Int.emod_lt_of_pos k1 (show 0 < h.f by omega)
    have P20 := Int.emod_nonneg k2 (show (30 : Int) ≠ 0 by omega)
    have P21 := Int.emod_lt_of_pos k2 (show (0 : Int) < 30 by omega)
    obtain ⟨F, hF⟩ : ∃ F, k1 % h.f = F := ⟨_, rfl⟩
    obtain ⟨H, hH⟩ : ∃ H, k2 % 30 = H := ⟨_, rfl⟩
    rw [hF] at N1 P10 P11
    rw [hH] at N2 P20 P21
    clear hF hH a10 a11 a20 a21
    obtain ⟨q0, q1, flP, lv⟩ := flr_lev hk P10 P11
    have hr' := Ho.range hk
    obtain ⟨P, hP⟩ : ∃ P, F * h.s = P := ⟨_, rfl⟩
    rw [hP] at q0 q1 flP lv
    have hw1 : IntKind.i64.wrap (F * h.s) = P := by rw [hP]; exact IntWalk.i64_in _ (by omega)
    have SA := Lib.hid (fun W => cstart_any h P W hk q0 q1 ⟨⟨P, 0, 0, false⟩, 0⟩ (by rw [startC, decide_eq_true lv]; rfl))
    have O := Lib.hid (fun W p hp => of_one F W p hp)
    obtain ⟨e, ⟨rc, ru, rd⟩, e0, e1, hfst⟩ := hold_first hk P10 P11 q0 q1 lv flP
    have T1I := Lib.hid (fun W hT => ctick_any h ⟨⟨P, 0, 0, false⟩, 0⟩ ⟨oneN F, 0, 0⟩ true W ⟨oneN_lt F, zero_lt64, zero_lt64⟩ hT (by decide : (0 : Int) ≤ 9223372036854775807) ⟨⟨P, e, h.d, false⟩, 0⟩ ⟨true, false, F, e, 0, ⟨rc, ru, rd⟩⟩ (by rw [hfst, cH, show max (h.d - 0) 1 = h.d by omega, show max 0 (0 - (h.d - 1)) = 0 by omega]))
    have TI := Lib.hid (fun (k : Int) (k0 : 0 ≤ k) (k1 : k ≤ 1000) W hT => ctick_any h (cH h.d P e k) s true W ok hT (show max 0 (k - (h.d - 1)) ≤ 9223372036854775807 by omega) (cH h.d P e (k + 1)) ⟨false, false, F, 0, 0, zSp⟩ (hold_step hk q0 q1 lv flP e0 e1 k0 k1 s))
    have TE := Lib.hid (fun W hT => ctick_any h (cH h.d P e (h.d - 1 + H)) s false W ok hT (show max 0 (h.d - 1 + H - (h.d - 1)) ≤ 9223372036854775807 by omega) ⟨⟨P, e, 0, false⟩, 0⟩ ⟨false, true, F, 0, 0, zSp⟩ (hold_end hk q0 q1 lv flP e0 e1 (by omega) s))
    have C0 : Hid (cH h.d P e 0 = ⟨⟨P, e, h.d, false⟩, 0⟩) := by
      show _ = _
      rw [cH, show max (h.d - 0) 1 = h.d by omega, show max 0 (0 - (h.d - 1)) = 0 by omega]
    have CN : Hid (cH h.d P e (h.d - 1 + H) = ⟨⟨P, e, 1, false⟩, H⟩) := by
      show _ = _
      rw [cH, show max (h.d - (h.d - 1 + H)) 1 = 1 by omega, show max 0 (h.d - 1 + H - (h.d - 1)) = H by omega]
    have CO := Lib.hid (fun k : Int => show 1 ≤ (cH h.d P e k).x.o from (show 1 ≤ max (h.d - k) 1 by omega))
    obtain ⟨g, hg⟩ : ∃ g, g = h.d - 1 := ⟨_, rfl⟩
    have hw2 : IntKind.i64.wrap (h.d - 1) = g := by rw [hg]; exact IntWalk.i64_in _ (by omega)
    obtain ⟨n, hn⟩ : ∃ n, n = g + H := ⟨_, rfl⟩
    have hw3 : IntKind.i64.wrap (g + H) = n := by rw [hn]; exact IntWalk.i64_in _ (by omega)
    rw [← hg] at TE CN
    rw [← hn] at TE CN
    have HN := Lib.hid (show 0 ≤ n ∧ n ≤ 1000 by omega)
    clear hP hg hn q0 q1 hr' hfst flP lv P10 P11 P20 P21 e0 e1 hT hfl hk ok
    obtain ⟨o1, ho1⟩ : ∃ o1, o1 = oneN F := ⟨_, rfl⟩
    rw [← ho1] at O T1I
    clear ho1
    obtain ⟨hc, hfl, hs, hd⟩ := h
    obtain ⟨sp, su, sd⟩ := s
    dsimp only [Ho.v, Ho.box, Ca.v, Ca.box, Sp.v, Sp.box, Dn.v, Dn.box, zSp] at *
    simp only [show ((0 : Nat) : Int) = 0 from rfl] at O T1I TI TE
    go_enter Tryd.func9, Tryd.ntmps9
    go_wp2_with fail
    have Z0 := Lib.hid (HT.out.fr TB.out.f)
    with_reducible refine (cfirst_any _ Z0.out).mono ?_
    rintro v w1 ⟨rfl, hf⟩
    have T1 := Lib.hid (TB.out.fr hf)
    clear hf TB Z0
    obtain ⟨c0, c1, c2, c3⟩ := T1.out.h.cells
    dsimp only at c0 c1 c2 c3
    go_wp2_with fail
    with_reducible refine (V.out _).mono ?_
    rintro v w2 ⟨rfl, hf⟩
    have T2 := Lib.hid (T1.out.fr hf)
    clear hf c0 c1 c2 c3 T1
    obtain ⟨c0, c1, c2, c3⟩ := T2.out.h.cells
    dsimp only at c0 c1 c2 c3
    go_wp2_with fail
    with_reducible refine (N1.out _).mono ?_
    rintro v w3 ⟨rfl, rfl⟩
    go_wp2_with fail
    with_reducible refine (N2.out _).mono ?_
    rintro v w3 ⟨rfl, rfl⟩
    go_wp2_with fail
    with_reducible refine (SA.out _).mono ?_
    rintro v w3 ⟨rfl, hf⟩
    have T3 := Lib.hid ((T2.out.fr hf).own ⟨⟨P, 0, 0, false⟩, 0⟩)
    clear hf c0 c1 c2 c3 T2 N1 N2 SA V hw1
    go_upto_region 11 with fail
    dsimp only [Ca.box] at T3
    generalize World.alloc w3 _ = w4 at *
    have T4Z := Lib.hid (HT.out.fr T3.out.f)
    go_wp2_with fail
    refine wp_region_noPanic ?_
    refine wp_region_mix (M := F5 w4 w.heap.size w3.heap.size ⟨hc, hfl, hs, hd⟩ ⟨⟨P, 0, 0, false⟩, 0⟩) (fun i => match i with | 3 => some (oneTo, .cells #[.int .i64 F] 3) | 9 => some (ptrTo, zCa.box) | 10 => some (ptrTo, zDn.box) | _ => none) [8] w4.heap.size 11 (by kernel_rfl) (by kernel_rfl) (by kernel_rfl) (F5.lasts _ _ _ _ _) F5.size ((F5.lasts _ _ _ _ _) _ _ (F5.of (Fr.refl _ _) T3.out.h T3.out.c) (Fr.drew _ [])) ?_
    refine wpMixU_take (i := 0) (oi := _) (v := ?mv1) (by decide) (by kernel_rfl) (by simp only [List.getElem?_toArray, List.getElem?_cons_zero]; rfl) (by rfl) (by kernel_rfl) (by kernel_rfl) (by kernel_rfl) (by rfl) ?my1 ?mr1
    case my1 => (intro M' hst him w hM; have hSw := him w hM; (try dsimp only [F5] at hSw); go_simp; refine Came.value ?_ hM; with_reducible rfl)
    try simp only [Act.put, List.setIfInBounds_toArray, List.set_cons_zero, List.set_cons_succ]
    refine wpMixU_take (i := 1) (oi := _) (v := ?mv2) (by decide) (by kernel_rfl) (by simp only [List.getElem?_toArray, List.getElem?_cons_zero, List.getElem?_cons_succ]; rfl) (by rfl) (by kernel_rfl) (by kernel_rfl) (by kernel_rfl) (by rfl) ?my2 ?mr2
    case my2 => (intro M' hst him w hM; have hSw := him w hM; (try dsimp only [F5] at hSw); go_simp; refine Came.value ?_ hM; with_reducible rfl)
    try simp only [Act.put, List.setIfInBounds_toArray, List.set_cons_zero, List.set_cons_succ]
    refine wpMixU_take (i := 2) (oi := _) (v := ?mv3) (by decide) (by kernel_rfl) (by simp only [List.getElem?_toArray, List.getElem?_cons_zero, List.getElem?_cons_succ]; rfl) (by rfl) (by kernel_rfl) (by kernel_rfl) (by kernel_rfl) (by rfl) ?my3 ?mr3
    case my3 => (intro M' hst him w hM; have hSw := him w hM; (try dsimp only [F5] at hSw); go_simp; refine Came.value ?_ hM; with_reducible rfl)
    try simp only [Act.put, List.setIfInBounds_toArray, List.set_cons_zero, List.set_cons_succ]
    refine wpMixU_new (i := 3) (oi := _) [9, 10] (by decide) (by kernel_rfl) (by simp only [List.getElem?_toArray, List.getElem?_cons_zero, List.getElem?_cons_succ]; rfl) (by rfl) (by kernel_rfl) (by kernel_rfl) (by kernel_rfl) (by kernel_rfl) (by kernel_rfl) (by kernel_rfl) (by rfl) ?my4 ?mr4
    case my4 => (intro w; go_simp; first | done | rfl | exact ⟨rfl, rfl⟩)
    intro p3
    try simp only [ptrTo, oneTo]
    try simp only [Act.put, List.setIfInBounds_toArray, List.set_cons_zero, List.set_cons_succ]
    refine wpMixU_take (i := 4) (oi := _) (v := ?mv5) (by decide) (by kernel_rfl) (by simp only [List.getElem?_toArray, List.getElem?_cons_zero, List.getElem?_cons_succ]; rfl) (by rfl) (by kernel_rfl) (by kernel_rfl) (by kernel_rfl) (by rfl) ?my5 ?mr5
    case my5 => (intro M' hst him w hM; have hSw := him w hM; (try dsimp only [F5] at hSw); go_simp; exact Came.call ((O.out w p3 hSw.2.2).mono fun e w' ⟨he, hf⟩ => ⟨he, hst _ _ hM hf⟩) (by with_reducible rfl))
    try simp only [Act.put, List.setIfInBounds_toArray, List.set_cons_zero, List.set_cons_succ]
    refine wpMixU_take (i := 5) (oi := _) (v := ?mv6) (by decide) (by kernel_rfl) (by simp only [List.getElem?_toArray, List.getElem?_cons_zero, List.getElem?_cons_succ]; rfl) (by rfl) (by kernel_rfl) (by kernel_rfl) (by kernel_rfl) (by rfl) ?my6 ?mr6
    case my6 => (intro M' hst him w hM; have hSw := him w hM; (try dsimp only [F5] at hSw); go_simp; exact Came.call ((T1I.out w (T4Z.out.fr hSw.1.1)).mono fun e w' ⟨he, hf⟩ => ⟨he, hst _ _ hM hf⟩) (by with_reducible rfl))
    try simp only [Act.put, List.setIfInBounds_toArray, List.set_cons_zero, List.set_cons_succ]
    refine wpMixU_take (i := 6) (oi := _) (v := ?mv7) (by decide) (by kernel_rfl) (by simp only [List.getElem?_toArray, List.getElem?_cons_zero, List.getElem?_cons_succ]; rfl) (by rfl) (by kernel_rfl) (by kernel_rfl) (by kernel_rfl) (by rfl) ?my7 ?mr7
    case my7 => (intro M' hst him w hM; have hSw := him w hM; (try dsimp only [F5] at hSw); go_simp; refine Came.value ?_ hM; with_reducible rfl)
    try simp only [Act.put, List.setIfInBounds_toArray, List.set_cons_zero, List.set_cons_succ]
    refine wpMixU_take (i := 7) (oi := _) (v := ?mv8) (by decide) (by kernel_rfl) (by simp only [List.getElem?_toArray, List.getElem?_cons_zero, List.getElem?_cons_succ]; rfl) (by rfl) (by kernel_rfl) (by kernel_rfl) (by kernel_rfl) (by rfl) ?my8 ?mr8
    case my8 => (intro M' hst him w hM; have hSw := him w hM; (try dsimp only [F5] at hSw); go_simp; refine Came.value ?_ hM; with_reducible rfl)
    try simp only [Act.put, List.setIfInBounds_toArray, List.set_cons_zero, List.set_cons_succ]
    refine wpMixU_pure (i := 8) (oi := _) (v := ?mv9) (by decide) (by kernel_rfl) (by simp only [List.getElem?_toArray, List.getElem?_cons_zero, List.getElem?_cons_succ]; rfl) (fun _ _ _ _ h => (h : False).elim) (by kernel_rfl) (by kernel_rfl) (by kernel_rfl) (by rfl) ?my9 ?mr9
    case my9 => (intro w; go_simp; try with_reducible rfl)
    try simp only [Act.put, List.setIfInBounds_toArray, List.set_cons_zero, List.set_cons_succ]
    refine wpMixU_new (i := 9) (oi := _) [9, 10] (by decide) (by kernel_rfl) (by simp only [List.getElem?_toArray, List.getElem?_cons_zero, List.getElem?_cons_succ]; rfl) (by rfl) (by kernel_rfl) (by kernel_rfl) (by kernel_rfl) (by kernel_rfl) (by kernel_rfl) (by kernel_rfl) (by rfl) ?my10 ?mr10
    case my10 => (intro w; go_simp; first | done | rfl | exact ⟨rfl, rfl⟩)
    intro p9
    try simp only [ptrTo, oneTo]
    try simp only [Act.put, List.setIfInBounds_toArray, List.set_cons_zero, List.set_cons_succ]
    refine wpMixU_new (i := 10) (oi := _) [9, 10] (by decide) (by kernel_rfl) (by simp only [List.getElem?_toArray, List.getElem?_cons_zero, List.getElem?_cons_succ]; rfl) (by rfl) (by kernel_rfl) (by kernel_rfl) (by kernel_rfl) (by kernel_rfl) (by kernel_rfl) (by kernel_rfl) (by rfl) ?my11 ?mr11
    case my11 => (intro w; go_simp; first | done | rfl | exact ⟨rfl, rfl⟩)
    intro p10
    try simp only [ptrTo, oneTo]
    try simp only [Act.put, List.setIfInBounds_toArray, List.set_cons_zero, List.set_cons_succ]
    refine wpMixU_tail (fun _ => True) (by kernel_rfl) (fun _ _ => trivial) ?_
    intro w5 hM
    have P5 := Lib.hid (show PD w4 p9 p10 zCa zDn w5 from ⟨hM.1.1.1.1, hM.1.2.2, hM.2.2, hM.1.2.1, hM.2.1⟩)
    have P6 := Lib.hid (P5.out.car ⟨⟨P, e, hd, false⟩, 0⟩)
    have P7 := Lib.hid (P6.out.deed ⟨true, false, F, e, 0, ⟨rc, ru, rd⟩⟩)
    obtain ⟨r0, r1, r2, r3, r4⟩ := P5.out.x.cells
    have y0 := P5.out.x.fz 0
    have y1 := P5.out.x.fz 1
    have y2 := P5.out.x.fz 2
    have y3 := P5.out.x.fz 3
    have y4 := P5.out.x.fz 4
    obtain ⟨n0, n1, n2, n3, n4, n5, n6, n7⟩ := P6.out.d.cells
    have m0 := P6.out.d.fz 0
    have m1 := P6.out.d.fz 1
    have m2 := P6.out.d.fz 2
    have m3 := P6.out.d.fz 3
    have m4 := P6.out.d.fz 4
    have m5 := P6.out.d.fz 5
    have m6 := P6.out.d.fz 6
    have m7 := P6.out.d.fz 7
    clear hM
    dsimp only [zCa, zDn, zSp, carSet] at *
    simp only [show ((0 : Nat) : Int) = 0 from rfl] at n5 n6 n7
    refine wpAnyH_ready (rs := [11]) (by kernel_rfl) (by simp) ?_
    refine AllReadyH.cons (o := _) rfl (fun K hK => ?_) AllReadyH.nil
    go_simp
    refine hK.out _ _ trivial (fun hHeld => ?_)
    clear hK K
    try simp only [Act.put, List.setIfInBounds_toArray, List.set_cons_zero, List.set_cons_succ]
    generalize World.setCell (World.setCell (World.setCell (World.setCell (World.setCell w5 _ _) _ _) _ _) _ _) _ _ = w6 at *
    refine wpAnyH_ready (rs := [12]) (by kernel_rfl) (by simp) ?_
    refine AllReadyH.cons (o := _) rfl (fun K hK => ?_) AllReadyH.nil
    go_simp
    refine hK.out _ _ trivial (fun hHeld => ?_)
    clear hK K
    try simp only [Act.put, List.setIfInBounds_toArray, List.set_cons_zero, List.set_cons_succ]
    refine wpAnyH_done (by kernel_rfl) ?_ _
    refine NoPanic.normal ?_
    clear hHeld
    dsimp only [dnSet] at *
    generalize World.setCell (World.setCell (World.setCell (World.setCell (World.setCell (World.setCell (World.setCell (World.setCell w6 _ _) _ _) _ _) _ _) _ _) _ _) _ _) _ _ = w7 at *
    clear r0 r1 r2 r3 r4 y0 y1 y2 y3 y4 n0 n1 n2 n3 n4 n5 n6 n7 m0 m1 m2 m3 m4 m5 m6 m7 P5 P6
    have T7 := Lib.hid (show LL w p9 ⟨hc, hfl, hs, hd⟩ ⟨sp, su, sd⟩ ⟨⟨P, e, hd, false⟩, 0⟩ w7 from
      ⟨T3.out.f.trans P7.out.f, T3.out.h.fr P7.out.f, P7.out.f.heap T3.out.s (by simp), P7.out.x, Nat.lt_of_lt_of_le (size_of_row T3.out.s) P7.out.m⟩)
    obtain ⟨x0, x1, x2, x3, x4⟩ := P7.out.x.cells
    obtain ⟨n0, n1, n2, n3, n4, n5, n6, n7⟩ := P7.out.d.cells
    obtain ⟨i0, i1, i2, i3⟩ := T7.out.h.cells
    dsimp only at x0 x1 x2 x3 x4 n0 n1 n2 n3 n4 n5 n6 n7 i0 i1 i2 i3
    clear P7 T3 T4Z O T1I
    go_wp2
    clear x0 x1 x2 x3 x4 n0 n1 n2 n3 n4 n5 n6 n7 i0 i1 i2 i3
    go_loopw [14] (fun i wx => ∃ k o q : Int, i = .int .i64 k ∧ Hid (0 ≤ k ∧ k ≤ n) ∧ Hid (cH hd P e k = ⟨⟨P, e, o, false⟩, q⟩) ∧ Hid (LL w p9 ⟨hc, hfl, hs, hd⟩ ⟨sp, su, sd⟩ ⟨⟨P, e, o, false⟩, q⟩ wx)) (fun i _ => (n - intOf i).toNat)
    case atStart => exact ⟨0, hd, 0, rfl, (by show _ ∧ _; have := HN.out; omega), C0, T7⟩
    case round =>
      clear T7 C0
      obtain ⟨k, o, q, rfl, HK, HC, HLx⟩ := hrel
      obtain ⟨hk0, hk1⟩ := HK.out
      have hkN := HN.out
      obtain ⟨i0, i1, i2, i3⟩ := HLx.out.h.cells
      obtain ⟨c0, c1, c2, c3, c4⟩ := HLx.out.c.cells
      obtain ⟨s0, s1, s2⟩ := arow HLx.out.s
      have ZT := Lib.hid (HT.out.fr HLx.out.f)
      dsimp only at i0 i1 i2 i3 c0 c1 c2 c3 c4 s0 s1 s2
      by_cases hlt : k < n
      · obtain ⟨o', q', HC'⟩ : ∃ o' q', cH hd P e (k + 1) = ⟨⟨P, e, o', false⟩, q'⟩ := ⟨_, _, rfl⟩
        have TK := TI.out k hk0 (by omega)
        rw [HC.out, HC'] at TK
        dsimp only at TK
        have TK := Lib.hid TK
        have ho' : 1 ≤ o' := by
          have := CO.out (k + 1)
          rw [HC'] at this
          exact this
        have HC' := Lib.hid HC'
        clear TI TE CO CN
        go_wp2_with fail
        with_reducible refine (TK.out _ ZT.out).mono ?_
        rintro v w8 ⟨rfl, hf⟩
        have T8 := Lib.hid ((HLx.out.fr hf).fr (two_fr w8 ⟨⟨P, e, o', false⟩, q'⟩ ⟨false, false, F, 0, 0, zSp⟩))
        have T9 := Lib.hid (T8.out.car ⟨⟨P, e, o', false⟩, q'⟩)
        clear hf i0 i1 i2 i3 c0 c1 c2 c3 c4 s0 s1 s2 HLx ZT TK
        obtain ⟨c0, c1, c2, c3, c4⟩ := T8.out.c.cells
        have y0 := T8.out.c.fz 0
        have y1 := T8.out.c.fz 1
        have y2 := T8.out.c.fz 2
        have y3 := T8.out.c.fz 3
        have y4 := T8.out.c.fz 4
        dsimp only [Ca.box, Dn.box, zSp, carSet] at T9 c0 c1 c2 c3 c4 y0 y1 y2 y3 y4
        simp only [show ((0 : Nat) : Int) = 0 from rfl] at T9 c0 c1 c2 c3 c4 y0 y1 y2 y3 y4
        go_wp2
        go_roundw
        case rel => exact ⟨k + 1, o', q', by go_num, (by show _ ∧ _; omega), HC', T9⟩
        case measure => simp [intOf]; omega
      · obtain rfl : n = k := by omega
        have hC := CN.out
        rw [HC.out] at hC
        simp only [Ca.mk.injEq, St.mk.injEq, and_true, true_and] at hC
        obtain ⟨h1, h2⟩ := hC
        subst h1 h2
        have TK := TE.out
        rw [HC.out] at TK
        dsimp only at TK
        have TK := Lib.hid TK
        clear TI TE CO CN HC
        go_wp2_with fail
        with_reducible refine (TK.out _ ZT.out).mono ?_
        rintro v w8 ⟨rfl, hf⟩
        have F8 := Lib.hid (HLx.out.f.trans (hf.trans (two_fr w8 ⟨⟨P, e, 0, false⟩, 0⟩ ⟨false, true, F, 0, 0, zSp⟩)))
        clear hf i0 i1 i2 i3 c0 c1 c2 c3 c4 s0 s1 s2
        dsimp only [Ca.box, Dn.box, zSp] at F8
        simp only [show ((0 : Nat) : Int) = 0 from rfl] at F8
        go_wp2
        go_ret
        exact ⟨rfl, F8.out⟩
  · have V := Lib.hid (fun W => valid_any h W false (decide_eq_false hk).symm)
    clear hk hT ok a10 a11 a20 a21
    obtain ⟨hc, hfl, hs', hd⟩ := h
    obtain ⟨sp, su, sd⟩ := s
    dsimp only [Ho.v, Ho.box, Sp.v, Sp.box] at *
    go_enter Tryd.func9, Tryd.ntmps9
    go_wp2_with fail
    have Z0 := Lib.hid (HT.out.fr TB.out.f)
    with_reducible refine (cfirst_any _ Z0.out).mono ?_
    rintro v w1 ⟨rfl, hf⟩
    have T1 := Lib.hid (TB.out.fr hf)
    clear hf TB Z0
    obtain ⟨c0, c1, c2, c3⟩ := T1.out.h.cells
    dsimp only at c0 c1 c2 c3
    go_wp2_with fail
    with_reducible refine (V.out _).mono ?_
    rintro v w2 ⟨rfl, hf⟩
    have T2 := Lib.hid (T1.out.fr hf)
    clear hf
    go_wp2
    go_ret
    exact ⟨rfl, T2.out.f⟩
theorem cholds_walk (h : Ho) (s : Sp) (k1 k2 : Int) (ok : s.ok) (a10 : -9223372036854775808 ≤ k1) (a11 : k1 ≤ 9223372036854775807) (a20 : -9223372036854775808 ≤ k2) (a21 : k2 ≤ 9223372036854775807) (W : World) (hT : Tz W) :
    Calls Tryd.prog 9 #[h.v, .int .i64 k1, .int .i64 k2, s.v] W fun x w' => x = .returned (.bool true) ∧ W.grownBy w' none :=
  (holds_true h k1 k2 s ok a10 a11 a20 a21 W hT).mono fun _ _ ⟨he, hf⟩ => ⟨he, hf.grown (by simp)⟩
end Go.Proofs.YtgcgbiaigbblkaaDoor
