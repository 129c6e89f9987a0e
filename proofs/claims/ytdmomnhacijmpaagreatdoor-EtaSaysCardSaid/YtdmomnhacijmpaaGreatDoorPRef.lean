/- The document's house: Valid, Top, in, Level, Floor, Go, Right. -/
import Derived.Test.YtdmomnhacijmpaaGreatDoorGPlant
namespace Go.Proofs.YtdmomnhacijmpaaGreatDoor
open Go.RowKit

set_option maxRecDepth 100000 in
theorem rvalid_any (h : Ho) (w : World) (b : Bool) (hb : b = decide h.ok) : Calls Tryz.prog 13 #[h.v] w fun e w' => e = .returned (.bool b) ∧ Fr w w' [] := by
  obtain ⟨c, f, s, d⟩ := h
  have HV := Lib.hid (show b = decide ((1 ≤ c ∧ c ≤ 16) ∧ (2 ≤ f ∧ f ≤ 64) ∧ (1 ≤ s ∧ s ≤ 8) ∧ (1 ≤ d ∧ d ≤ 8)) from hb)
  clear hb
  have FA := Lib.hid (Fr.alloc w (Ho.box ⟨c, f, s, d⟩) [])
  dsimp only [Ho.v, Ho.box] at *
  by_cases h0 : 1 ≤ c
  rotate_left
  · have HR : Hid (b = false) := by show _ = _; rw [HV.out]; exact decide_eq_false (fun k => h0 (by have := k; omega))
    clear HV
    go_enter Tryz.func13, Tryz.ntmps13
    go_wp2
    go_ret
    exact ⟨by rw [HR.out]; rfl, FA.out⟩
  by_cases h1 : c ≤ 16
  rotate_left
  · have HR : Hid (b = false) := by show _ = _; rw [HV.out]; exact decide_eq_false (fun k => h1 (by have := k; omega))
    clear HV
    go_enter Tryz.func13, Tryz.ntmps13
    go_wp2
    go_ret
    exact ⟨by rw [HR.out]; rfl, FA.out⟩
  by_cases h2 : 2 ≤ f
  rotate_left
  · have HR : Hid (b = false) := by show _ = _; rw [HV.out]; exact decide_eq_false (fun k => h2 (by have := k; omega))
    clear HV
    go_enter Tryz.func13, Tryz.ntmps13
    go_wp2
    go_ret
    exact ⟨by rw [HR.out]; rfl, FA.out⟩
  by_cases h3 : f ≤ 64
  rotate_left
  · have HR : Hid (b = false) := by show _ = _; rw [HV.out]; exact decide_eq_false (fun k => h3 (by have := k; omega))
    clear HV
    go_enter Tryz.func13, Tryz.ntmps13
    go_wp2
    go_ret
    exact ⟨by rw [HR.out]; rfl, FA.out⟩
  by_cases h4 : 1 ≤ s
  rotate_left
  · have HR : Hid (b = false) := by show _ = _; rw [HV.out]; exact decide_eq_false (fun k => h4 (by have := k; omega))
    clear HV
    go_enter Tryz.func13, Tryz.ntmps13
    go_wp2
    go_ret
    exact ⟨by rw [HR.out]; rfl, FA.out⟩
  by_cases h5 : s ≤ 8
  rotate_left
  · have HR : Hid (b = false) := by show _ = _; rw [HV.out]; exact decide_eq_false (fun k => h5 (by have := k; omega))
    clear HV
    go_enter Tryz.func13, Tryz.ntmps13
    go_wp2
    go_ret
    exact ⟨by rw [HR.out]; rfl, FA.out⟩
  by_cases h6 : 1 ≤ d
  rotate_left
  · have HR : Hid (b = false) := by show _ = _; rw [HV.out]; exact decide_eq_false (fun k => h6 (by have := k; omega))
    clear HV
    go_enter Tryz.func13, Tryz.ntmps13
    go_wp2
    go_ret
    exact ⟨by rw [HR.out]; rfl, FA.out⟩
  by_cases h7 : d ≤ 8
  rotate_left
  · have HR : Hid (b = false) := by show _ = _; rw [HV.out]; exact decide_eq_false (fun k => h7 (by have := k; omega))
    clear HV
    go_enter Tryz.func13, Tryz.ntmps13
    go_wp2
    go_ret
    exact ⟨by rw [HR.out]; rfl, FA.out⟩
  have HR : Hid (b = true) := by show _ = _; rw [HV.out]; exact decide_eq_true (by omega)
  clear HV
  go_enter Tryz.func13, Tryz.ntmps13
  go_wp2
  go_ret
  exact ⟨by rw [HR.out]; rfl, FA.out⟩
set_option maxRecDepth 100000 in
theorem rtop_any (h : Ho) (w : World) (r : Int) (hr : r = h.topR) : Calls Tryz.prog 49 #[h.v] w fun e w' => e = .returned (.int .i64 r) ∧ Fr w w' [] := by
  have FA := Lib.hid (Fr.alloc w h.box [])
  have HB := Lib.hid (HB.new w h)
  by_cases hk : h.ok
  · have HR : Hid (r = h.top) := by show _ = _; rw [hr, Ho.topR, if_pos hk]
    have V := Lib.hid (fun W => rvalid_any h W true (decide_eq_true hk).symm)
    have ha := Ho.range hk
    obtain ⟨_, ⟨_, _⟩, ⟨_, _⟩, _⟩ := hk
    clear hr
    obtain ⟨c, f, s, d⟩ := h
    dsimp only [Ho.v, Ho.box, Ho.top] at *
    go_enter Tryz.func49, Tryz.ntmps49
    go_wp2_with fail
    with_reducible refine (V.out _).mono ?_
    rintro e w2 ⟨rfl, hf⟩
    obtain ⟨c0, c1, c2, c3⟩ := (HB.out.fr hf).cells
    have F2 := Lib.hid (FA.out.trans hf)
    clear hf
    dsimp only at c0 c1 c2 c3
    go_wp2
    go_ret
    exact ⟨by rw [HR.out]; rfl, F2.out⟩
  · have HR : Hid (r = 0) := by show _ = _; rw [hr, Ho.topR, if_neg hk]
    have V := Lib.hid (fun W => rvalid_any h W false (decide_eq_false hk).symm)
    clear hr hk
    obtain ⟨c, f, s, d⟩ := h
    dsimp only [Ho.v, Ho.box, Ho.top] at *
    go_enter Tryz.func49, Tryz.ntmps49
    go_wp2_with fail
    with_reducible refine (V.out _).mono ?_
    rintro e w2 ⟨rfl, hf⟩
    go_wp2
    go_ret
    exact ⟨by rw [HR.out]; rfl, FA.out.trans hf⟩
set_option maxRecDepth 100000 in
theorem rin_any (h : Ho) (p : Int) (w : World) (b : Bool) (hb : b = decide (h.has p)) : Calls Tryz.prog 48 #[h.v, .int .i64 p] w fun e w' => e = .returned (.bool b) ∧ Fr w w' [] := by
  have FA := Lib.hid (Fr.alloc w h.box [])
  have HB := Lib.hid (HB.new w h)
  by_cases hk : h.ok
  · have V := Lib.hid (fun W => rvalid_any h W true (decide_eq_true hk).symm)
    have T := Lib.hid (fun W => rtop_any h W h.top (by rw [Ho.topR, if_pos hk]))
    have HV : Hid (b = decide (0 ≤ p ∧ p ≤ h.top)) := by show _ = _; rw [hb]; simp [Ho.has, hk]
    clear hb hk
    obtain ⟨t, ht⟩ : ∃ t, t = h.top := ⟨_, rfl⟩
    rw [← ht] at T HV
    clear ht
    obtain ⟨c, f, s, d⟩ := h
    dsimp only [Ho.v, Ho.box] at *
    by_cases h0 : 0 ≤ p
    · have HR : Hid (b = decide (p ≤ t)) := by show _ = _; rw [HV.out]; simp [h0]
      clear HV
      go_enter Tryz.func48, Tryz.ntmps48
      go_wp2_with fail
      with_reducible refine (V.out _).mono ?_
      rintro e w2 ⟨rfl, hf⟩
      obtain ⟨c0, c1, c2, c3⟩ := (HB.out.fr hf).cells
      have F2 := Lib.hid (FA.out.trans hf)
      clear hf
      dsimp only at c0 c1 c2 c3
      go_wp2_with fail
      with_reducible refine (T.out _).mono ?_
      rintro e w3 ⟨rfl, hf⟩
      go_wp2
      go_ret
      exact ⟨by rw [HR.out]; rfl, F2.out.trans hf⟩
    · have HR : Hid (b = false) := by show _ = _; rw [HV.out]; simp [h0]
      clear HV
      go_enter Tryz.func48, Tryz.ntmps48
      go_wp2_with fail
      with_reducible refine (V.out _).mono ?_
      rintro e w2 ⟨rfl, hf⟩
      go_wp2
      go_ret
      exact ⟨by rw [HR.out]; rfl, FA.out.trans hf⟩
  · have V := Lib.hid (fun W => rvalid_any h W false (decide_eq_false hk).symm)
    have HR : Hid (b = false) := by show _ = _; rw [hb]; simp [Ho.has, hk]
    clear hb hk
    obtain ⟨c, f, s, d⟩ := h
    dsimp only [Ho.v, Ho.box] at *
    go_enter Tryz.func48, Tryz.ntmps48
    go_wp2_with fail
    with_reducible refine (V.out _).mono ?_
    rintro e w2 ⟨rfl, hf⟩
    go_wp2
    go_ret
    exact ⟨by rw [HR.out]; rfl, FA.out.trans hf⟩
set_option maxRecDepth 100000 in
theorem rlevel_any (h : Ho) (p : Int) (w : World) (b : Bool) (hb : b = decide (h.lev p)) : Calls Tryz.prog 31 #[h.v, .int .i64 p] w fun e w' => e = .returned (.bool b) ∧ Fr w w' [] := by
  have FA := Lib.hid (Fr.alloc w h.box [])
  have HB := Lib.hid (HB.new w h)
  by_cases hk : h.has p
  · have I := Lib.hid (fun W => rin_any h p W true (decide_eq_true hk).symm)
    have HM := tmod_zero (s := h.s) hk.2.1
    have hs := hk.1.2.2.1.1
    by_cases hm : p % h.s = 0
    · have HR : Hid (b = true) := by show _ = _; rw [hb]; simp [Ho.lev, hk, hm]
      have hm' : p.tmod h.s = 0 := by rw [HM]; exact hm
      clear hb hk HM hm
      obtain ⟨c, f, s, d⟩ := h
      dsimp only [Ho.v, Ho.box] at *
      have hn : ¬ s = 0 := by omega
      go_enter Tryz.func31, Tryz.ntmps31
      go_wp2_with fail
      with_reducible refine (I.out _).mono ?_
      rintro e w2 ⟨rfl, hf⟩
      obtain ⟨c0, c1, c2, c3⟩ := (HB.out.fr hf).cells
      have F2 := Lib.hid (FA.out.trans hf)
      clear hf
      dsimp only at c0 c1 c2 c3
      go_wp2
      go_ret
      exact ⟨by rw [HR.out]; rfl, F2.out⟩
    · have HR : Hid (b = false) := by show _ = _; rw [hb]; simp [Ho.lev, hm]
      have hm' : (p.tmod h.s == 0) = false := by rw [HM]; simpa using hm
      clear hb hk HM hm
      obtain ⟨c, f, s, d⟩ := h
      dsimp only [Ho.v, Ho.box] at *
      have hn : ¬ s = 0 := by omega
      go_enter Tryz.func31, Tryz.ntmps31
      go_wp2_with fail
      with_reducible refine (I.out _).mono ?_
      rintro e w2 ⟨rfl, hf⟩
      obtain ⟨c0, c1, c2, c3⟩ := (HB.out.fr hf).cells
      have F2 := Lib.hid (FA.out.trans hf)
      clear hf
      dsimp only at c0 c1 c2 c3
      go_wp2
      go_ret
      exact ⟨by rw [HR.out]; rfl, F2.out⟩
  · have I := Lib.hid (fun W => rin_any h p W false (decide_eq_false hk).symm)
    have HR : Hid (b = false) := by show _ = _; rw [hb]; simp [Ho.lev, hk]
    clear hb hk
    obtain ⟨c, f, s, d⟩ := h
    dsimp only [Ho.v, Ho.box] at *
    go_enter Tryz.func31, Tryz.ntmps31
    go_wp2_with fail
    with_reducible refine (I.out _).mono ?_
    rintro e w2 ⟨rfl, hf⟩
    go_wp2
    go_ret
    exact ⟨by rw [HR.out]; rfl, FA.out.trans hf⟩
set_option maxRecDepth 100000 in
theorem rfloor_any (h : Ho) (p : Int) (w : World) (r : Int) (hr : r = h.flr p) : Calls Tryz.prog 30 #[h.v, .int .i64 p] w fun e w' => e = .returned (.int .i64 r) ∧ Fr w w' [] := by
  have FA := Lib.hid (Fr.alloc w h.box [])
  have HB := Lib.hid (HB.new w h)
  by_cases hk : h.ok
  · by_cases h0 : 0 ≤ p
    rotate_left
    · have V := Lib.hid (fun W => rvalid_any h W true (decide_eq_true hk).symm)
      have HR : Hid (r = 0) := by
        show _ = _
        have := Ho.range hk
        rw [hr, Ho.flr, if_pos hk, show min (max p 0) h.top = 0 by omega, Int.zero_ediv]
      clear hr hk
      obtain ⟨c, f, s, d⟩ := h
      dsimp only [Ho.v, Ho.box] at *
      go_enter Tryz.func30, Tryz.ntmps30
      go_wp2_with fail
      with_reducible refine (V.out _).mono ?_
      rintro e w2 ⟨rfl, hf⟩
      go_wp2
      go_ret
      exact ⟨by rw [HR.out]; rfl, FA.out.trans hf⟩
    have V := Lib.hid (fun W => rvalid_any h W true (decide_eq_true hk).symm)
    have T := Lib.hid (fun W => rtop_any h W h.top (by rw [Ho.topR, if_pos hk]))
    have ha := Ho.range hk
    have hs := hk.2.2.1
    rw [Ho.flr, if_pos hk] at hr
    obtain ⟨t, ht⟩ : ∃ t, t = h.top := ⟨_, rfl⟩
    rw [← ht] at T hr ha
    clear ht hk
    rw [show max p 0 = p by omega] at hr
    obtain ⟨m, hm⟩ : ∃ m, min p t = m := ⟨_, rfl⟩
    rw [hm] at hr
    have hmm : 0 ≤ m ∧ m ≤ 504 := by omega
    have hq0 : 0 ≤ m / h.s := Int.ediv_nonneg hmm.1 (by omega)
    have hq1 : m / h.s ≤ m := Int.ediv_le_self _ hmm.1
    rw [← Int.tdiv_eq_ediv_of_nonneg hmm.1] at hr hq0 hq1
    have hwq : IntKind.i64.wrap (m.tdiv h.s) = r := by rw [hr]; exact IntWalk.i64_in _ (by omega)
    clear hr hq0 hq1
    obtain ⟨c, f, s, d⟩ := h
    dsimp only [Ho.v, Ho.box] at *
    have hn : ¬ s = 0 := by omega
    have hn1 : ¬ s = -1 := by omega
    go_enter Tryz.func30, Tryz.ntmps30
    go_wp2_with fail
    with_reducible refine (V.out _).mono ?_
    rintro e w2 ⟨rfl, hf⟩
    have HS0 := Lib.hid (HS.of (h := ⟨c, f, s, d⟩) ((FA.out.trans hf).trans (Fr.drew _ [])) (HB.out.fr (hf.trans (Fr.drew _ []))))
    clear hf
    go_wp2
    refine wp_region_det (S := HS w w.heap.size c f s d) (by kernel_rfl) HS0.out ?_
    refine wpDet_take (i := 0) (oi := _) (v := ?dv1) (by simp only [List.getElem?_toArray, List.getElem?_cons_zero]; rfl) (by kernel_rfl) (by kernel_rfl) (by kernel_rfl) (Or.inl ⟨by rfl, ?dy1⟩) ?dr1
    case dy1 => (intro w hSw; have hS0 := hSw; (try dsimp only [HS] at hSw); go_simp; refine Came.value ?_ hS0; with_reducible rfl)
    try simp only [Act.put, List.setIfInBounds_toArray, List.set_cons_zero, List.set_cons_succ]
    refine wpDet_take (i := 1) (oi := _) (v := ?dv2) (by simp only [List.getElem?_toArray, List.getElem?_cons_zero, List.getElem?_cons_succ]; rfl) (by kernel_rfl) (by kernel_rfl) (by kernel_rfl) (Or.inl ⟨by rfl, ?dy2⟩) ?dr2
    case dy2 => (intro w hSw; have hS0 := hSw; (try dsimp only [HS] at hSw); go_simp; refine Came.value ?_ hS0; with_reducible rfl)
    try simp only [Act.put, List.setIfInBounds_toArray, List.set_cons_zero, List.set_cons_succ]
    refine wpDet_take (i := 2) (oi := _) (v := ?dv3) (by simp only [List.getElem?_toArray, List.getElem?_cons_zero, List.getElem?_cons_succ]; rfl) (by kernel_rfl) (by kernel_rfl) (by kernel_rfl) (Or.inl ⟨by rfl, ?dy3⟩) ?dr3
    case dy3 => (intro w hSw; go_simp; exact Came.call ((T.out w).mono fun e w' ⟨he, hf⟩ => ⟨he, hSw.fr hf⟩) (by with_reducible rfl))
    try simp only [Act.put, List.setIfInBounds_toArray, List.set_cons_zero, List.set_cons_succ]
    refine wpDet_take (i := 3) (oi := _) (v := ?dv4) (by simp only [List.getElem?_toArray, List.getElem?_cons_zero, List.getElem?_cons_succ]; rfl) (by kernel_rfl) (by kernel_rfl) (by kernel_rfl) (Or.inl ⟨by rfl, ?dy4⟩) ?dr4
    case dy4 => (intro w hSw; have hS0 := hSw; (try dsimp only [HS] at hSw); go_simp; refine Came.value ?_ hS0; with_reducible rfl)
    try simp only [Act.put, List.setIfInBounds_toArray, List.set_cons_zero, List.set_cons_succ]
    refine wpDet_take (i := 4) (oi := _) (v := ?dv5) (by simp only [List.getElem?_toArray, List.getElem?_cons_zero, List.getElem?_cons_succ]; rfl) (by kernel_rfl) (by kernel_rfl) (by kernel_rfl) (Or.inl ⟨by rfl, ?dy5⟩) ?dr5
    case dy5 => (intro w hSw; have hS0 := hSw; (try dsimp only [HS] at hSw); go_simp; refine Came.value ?_ hS0; with_reducible rfl)
    try simp only [Act.put, List.setIfInBounds_toArray, List.set_cons_zero, List.set_cons_succ]
    refine wpDet_take (i := 5) (oi := _) (v := ?dv6) (by simp only [List.getElem?_toArray, List.getElem?_cons_zero, List.getElem?_cons_succ]; rfl) (by kernel_rfl) (by kernel_rfl) (by kernel_rfl) (Or.inl ⟨by rfl, ?dy6⟩) ?dr6
    case dy6 => (intro w hSw; have hS0 := hSw; (try dsimp only [HS] at hSw); go_simp; refine Came.value ?_ hS0; with_reducible rfl)
    try simp only [Act.put, List.setIfInBounds_toArray, List.set_cons_zero, List.set_cons_succ]
    refine wpDet_take (i := 6) (oi := _) (v := ?dv7) (by simp only [List.getElem?_toArray, List.getElem?_cons_zero, List.getElem?_cons_succ]; rfl) (by kernel_rfl) (by kernel_rfl) (by kernel_rfl) (Or.inl ⟨by rfl, ?dy7⟩) ?dr7
    case dy7 => (intro w hSw; have hS0 := hSw; (try dsimp only [HS] at hSw); go_simp; refine Came.value ?_ hS0; with_reducible rfl)
    try simp only [Act.put, List.setIfInBounds_toArray, List.set_cons_zero, List.set_cons_succ]
    refine wpDet_take (i := 7) (oi := _) (v := ?dv8) (by simp only [List.getElem?_toArray, List.getElem?_cons_zero, List.getElem?_cons_succ]; rfl) (by kernel_rfl) (by kernel_rfl) (by kernel_rfl) (Or.inl ⟨by rfl, ?dy8⟩) ?dr8
    case dy8 => (intro w hSw; have hS0 := hSw; (try dsimp only [HS] at hSw); go_simp; refine Came.value ?_ hS0; with_reducible rfl)
    try simp only [Act.put, List.setIfInBounds_toArray, List.set_cons_zero, List.set_cons_succ]
    refine wpDet_done (by kernel_rfl) ?_ _
    rintro w3 ⟨hF, _⟩
    go_wp2
    go_ret
    exact ⟨rfl, hF⟩
  · have V := Lib.hid (fun W => rvalid_any h W false (decide_eq_false hk).symm)
    have HR : Hid (r = 0) := by show _ = _; rw [hr, Ho.flr, if_neg hk]
    clear hr hk
    obtain ⟨c, f, s, d⟩ := h
    dsimp only [Ho.v, Ho.box] at *
    go_enter Tryz.func30, Tryz.ntmps30
    go_wp2_with fail
    with_reducible refine (V.out _).mono ?_
    rintro e w2 ⟨rfl, hf⟩
    go_wp2
    go_ret
    exact ⟨by rw [HR.out]; rfl, FA.out.trans hf⟩
set_option maxRecDepth 100000 in
theorem rgo_any (h : Ho) (p m : Int) (w : World) (b : Bool) (hb : b = decide (h.has (p + sgn m))) (r : Int) (hr : r = if b = true then p + sgn m else 0) :
    Calls Tryz.prog 32 #[h.v, .int .i64 p, .int .i64 m] w fun e w' => e = .returned (.tuple #[.int .i64 r, .bool b]) ∧ Fr w w' [] := by
  have FA := Lib.hid (Fr.alloc w h.box [])
  have HB := Lib.hid (HB.new w h)
  by_cases hk : h.ok
  · have V := Lib.hid (fun W => rvalid_any h W true (decide_eq_true hk).symm)
    have T := Lib.hid (fun W => rtop_any h W h.top (by rw [Ho.topR, if_pos hk]))
    have ha := Ho.range hk
    have HG := sgn_range m
    by_cases h0 : -1 ≤ p
    · by_cases h1 : p ≤ h.top + 1
      · have I := Lib.hid (fun W => rin_any h (p + sgn m) W b hb)
        obtain ⟨t, ht⟩ : ∃ t, t = h.top := ⟨_, rfl⟩
        rw [← ht] at T ha h1
        clear ht hk hb
        by_cases hm0 : 0 < m
        · have hs : sgn m = 1 := by rw [sgn, if_pos hm0]
          rw [hs] at I hr
          cases b with
          | false =>
            have HR : Hid (r = 0) := by show _ = _; rw [hr]; simp
            clear hr hs HG
            obtain ⟨c, f, s, d⟩ := h
            dsimp only [Ho.v, Ho.box] at *
            go_enter Tryz.func32, Tryz.ntmps32
            go_wp2_with fail
            with_reducible refine (V.out _).mono ?_
            rintro e w2 ⟨rfl, hf⟩
            have HB2 := Lib.hid (HB.out.fr hf)
            have F2 := Lib.hid (FA.out.trans hf)
            clear hf
            obtain ⟨c0, c1, c2, c3⟩ := HB2.out.cells
            dsimp only at c0 c1 c2 c3
            go_wp2_with fail
            with_reducible refine (T.out _).mono ?_
            rintro e w3 ⟨rfl, hf⟩
            have F3 := Lib.hid (F2.out.trans hf)
            have HB3 := Lib.hid (HB2.out.fr hf)
            clear hf c0 c1 c2 c3
            obtain ⟨c0, c1, c2, c3⟩ := HB3.out.cells
            dsimp only at c0 c1 c2 c3
            go_wp2_with fail
            with_reducible refine (I.out _).mono ?_
            rintro e w4 ⟨rfl, hf⟩
            go_wp2
            go_ret2
            exact ⟨by rw [HR.out]; rfl, F3.out.trans hf⟩
          | true =>
            have HR : Hid (r = p + 1) := by show _ = _; rw [hr]; simp
            clear hr hs HG
            obtain ⟨c, f, s, d⟩ := h
            dsimp only [Ho.v, Ho.box] at *
            go_enter Tryz.func32, Tryz.ntmps32
            go_wp2_with fail
            with_reducible refine (V.out _).mono ?_
            rintro e w2 ⟨rfl, hf⟩
            have HB2 := Lib.hid (HB.out.fr hf)
            have F2 := Lib.hid (FA.out.trans hf)
            clear hf
            obtain ⟨c0, c1, c2, c3⟩ := HB2.out.cells
            dsimp only at c0 c1 c2 c3
            go_wp2_with fail
            with_reducible refine (T.out _).mono ?_
            rintro e w3 ⟨rfl, hf⟩
            have F3 := Lib.hid (F2.out.trans hf)
            have HB3 := Lib.hid (HB2.out.fr hf)
            clear hf c0 c1 c2 c3
            obtain ⟨c0, c1, c2, c3⟩ := HB3.out.cells
            dsimp only at c0 c1 c2 c3
            go_wp2_with fail
            with_reducible refine (I.out _).mono ?_
            rintro e w4 ⟨rfl, hf⟩
            go_wp2
            go_ret2
            exact ⟨by rw [HR.out]; rfl, F3.out.trans hf⟩
        · by_cases hm1 : m < 0
          · have hs : sgn m = -1 := by rw [sgn, if_neg hm0, if_pos hm1]
            rw [hs, show p + -1 = p - 1 by omega] at I hr
            cases b with
            | false =>
              have HR : Hid (r = 0) := by show _ = _; rw [hr]; simp
              clear hr hs HG
              obtain ⟨c, f, s, d⟩ := h
              dsimp only [Ho.v, Ho.box] at *
              go_enter Tryz.func32, Tryz.ntmps32
              go_wp2_with fail
              with_reducible refine (V.out _).mono ?_
              rintro e w2 ⟨rfl, hf⟩
              have HB2 := Lib.hid (HB.out.fr hf)
              have F2 := Lib.hid (FA.out.trans hf)
              clear hf
              obtain ⟨c0, c1, c2, c3⟩ := HB2.out.cells
              dsimp only at c0 c1 c2 c3
              go_wp2_with fail
              with_reducible refine (T.out _).mono ?_
              rintro e w3 ⟨rfl, hf⟩
              have F3 := Lib.hid (F2.out.trans hf)
              have HB3 := Lib.hid (HB2.out.fr hf)
              clear hf c0 c1 c2 c3
              obtain ⟨c0, c1, c2, c3⟩ := HB3.out.cells
              dsimp only at c0 c1 c2 c3
              go_wp2_with fail
              with_reducible refine (I.out _).mono ?_
              rintro e w4 ⟨rfl, hf⟩
              go_wp2
              go_ret2
              exact ⟨by rw [HR.out]; rfl, F3.out.trans hf⟩
            | true =>
              have HR : Hid (r = p - 1) := by show _ = _; rw [hr]; simp
              clear hr hs HG
              obtain ⟨c, f, s, d⟩ := h
              dsimp only [Ho.v, Ho.box] at *
              go_enter Tryz.func32, Tryz.ntmps32
              go_wp2_with fail
              with_reducible refine (V.out _).mono ?_
              rintro e w2 ⟨rfl, hf⟩
              have HB2 := Lib.hid (HB.out.fr hf)
              have F2 := Lib.hid (FA.out.trans hf)
              clear hf
              obtain ⟨c0, c1, c2, c3⟩ := HB2.out.cells
              dsimp only at c0 c1 c2 c3
              go_wp2_with fail
              with_reducible refine (T.out _).mono ?_
              rintro e w3 ⟨rfl, hf⟩
              have F3 := Lib.hid (F2.out.trans hf)
              have HB3 := Lib.hid (HB2.out.fr hf)
              clear hf c0 c1 c2 c3
              obtain ⟨c0, c1, c2, c3⟩ := HB3.out.cells
              dsimp only at c0 c1 c2 c3
              go_wp2_with fail
              with_reducible refine (I.out _).mono ?_
              rintro e w4 ⟨rfl, hf⟩
              go_wp2
              go_ret2
              exact ⟨by rw [HR.out]; rfl, F3.out.trans hf⟩
          · have hs : sgn m = 0 := by rw [sgn, if_neg hm0, if_neg hm1]
            rw [hs, show p + 0 = p by omega] at I hr
            cases b with
            | false =>
              have HR : Hid (r = 0) := by show _ = _; rw [hr]; simp
              clear hr hs HG
              obtain ⟨c, f, s, d⟩ := h
              dsimp only [Ho.v, Ho.box] at *
              go_enter Tryz.func32, Tryz.ntmps32
              go_wp2_with fail
              with_reducible refine (V.out _).mono ?_
              rintro e w2 ⟨rfl, hf⟩
              have HB2 := Lib.hid (HB.out.fr hf)
              have F2 := Lib.hid (FA.out.trans hf)
              clear hf
              obtain ⟨c0, c1, c2, c3⟩ := HB2.out.cells
              dsimp only at c0 c1 c2 c3
              go_wp2_with fail
              with_reducible refine (T.out _).mono ?_
              rintro e w3 ⟨rfl, hf⟩
              have F3 := Lib.hid (F2.out.trans hf)
              have HB3 := Lib.hid (HB2.out.fr hf)
              clear hf c0 c1 c2 c3
              obtain ⟨c0, c1, c2, c3⟩ := HB3.out.cells
              dsimp only at c0 c1 c2 c3
              go_wp2_with fail
              with_reducible refine (I.out _).mono ?_
              rintro e w4 ⟨rfl, hf⟩
              go_wp2
              go_ret2
              exact ⟨by rw [HR.out]; rfl, F3.out.trans hf⟩
            | true =>
              have HR : Hid (r = p) := by show _ = _; rw [hr]; simp
              clear hr hs HG
              obtain ⟨c, f, s, d⟩ := h
              dsimp only [Ho.v, Ho.box] at *
              go_enter Tryz.func32, Tryz.ntmps32
              go_wp2_with fail
              with_reducible refine (V.out _).mono ?_
              rintro e w2 ⟨rfl, hf⟩
              have HB2 := Lib.hid (HB.out.fr hf)
              have F2 := Lib.hid (FA.out.trans hf)
              clear hf
              obtain ⟨c0, c1, c2, c3⟩ := HB2.out.cells
              dsimp only at c0 c1 c2 c3
              go_wp2_with fail
              with_reducible refine (T.out _).mono ?_
              rintro e w3 ⟨rfl, hf⟩
              have F3 := Lib.hid (F2.out.trans hf)
              have HB3 := Lib.hid (HB2.out.fr hf)
              clear hf c0 c1 c2 c3
              obtain ⟨c0, c1, c2, c3⟩ := HB3.out.cells
              dsimp only at c0 c1 c2 c3
              go_wp2_with fail
              with_reducible refine (I.out _).mono ?_
              rintro e w4 ⟨rfl, hf⟩
              go_wp2
              go_ret2
              exact ⟨by rw [HR.out]; rfl, F3.out.trans hf⟩
      · obtain rfl : b = false := by rw [hb]; exact decide_eq_false (fun k => by have := k.2.2; omega)
        have HR : Hid (r = 0) := by show _ = _; rw [hr]; simp
        obtain ⟨t, ht⟩ : ∃ t, t = h.top := ⟨_, rfl⟩
        rw [← ht] at T ha h1
        clear ht hk hb hr HG
        obtain ⟨c, f, s, d⟩ := h
        dsimp only [Ho.v, Ho.box] at *
        go_enter Tryz.func32, Tryz.ntmps32
        go_wp2_with fail
        with_reducible refine (V.out _).mono ?_
        rintro e w2 ⟨rfl, hf⟩
        have HB2 := Lib.hid (HB.out.fr hf)
        have F2 := Lib.hid (FA.out.trans hf)
        clear hf
        obtain ⟨c0, c1, c2, c3⟩ := HB2.out.cells
        dsimp only at c0 c1 c2 c3
        go_wp2_with fail
        with_reducible refine (T.out _).mono ?_
        rintro e w3 ⟨rfl, hf⟩
        have F3 := Lib.hid (F2.out.trans hf)
        have HB3 := Lib.hid (HB2.out.fr hf)
        clear hf c0 c1 c2 c3
        obtain ⟨c0, c1, c2, c3⟩ := HB3.out.cells
        dsimp only at c0 c1 c2 c3
        go_wp2
        go_ret2
        exact ⟨by rw [HR.out]; rfl, F3.out⟩
    · obtain rfl : b = false := by rw [hb]; exact decide_eq_false (fun k => by have := k.2.1; omega)
      have HR : Hid (r = 0) := by show _ = _; rw [hr]; simp
      clear hk hb hr HG ha
      obtain ⟨c, f, s, d⟩ := h
      dsimp only [Ho.v, Ho.box] at *
      go_enter Tryz.func32, Tryz.ntmps32
      go_wp2_with fail
      with_reducible refine (V.out _).mono ?_
      rintro e w2 ⟨rfl, hf⟩
      have HB2 := Lib.hid (HB.out.fr hf)
      have F2 := Lib.hid (FA.out.trans hf)
      clear hf
      obtain ⟨c0, c1, c2, c3⟩ := HB2.out.cells
      dsimp only at c0 c1 c2 c3
      go_wp2
      go_ret2
      exact ⟨by rw [HR.out]; rfl, F2.out⟩
  · have V := Lib.hid (fun W => rvalid_any h W false (decide_eq_false hk).symm)
    obtain rfl : b = false := by rw [hb]; exact decide_eq_false (fun k => hk k.1)
    have HR : Hid (r = 0) := by show _ = _; rw [hr]; simp
    clear hk hb hr
    obtain ⟨c, f, s, d⟩ := h
    dsimp only [Ho.v, Ho.box] at *
    go_enter Tryz.func32, Tryz.ntmps32
    go_wp2_with fail
    with_reducible refine (V.out _).mono ?_
    rintro e w2 ⟨rfl, hf⟩
    have HB2 := Lib.hid (HB.out.fr hf)
    have F2 := Lib.hid (FA.out.trans hf)
    clear hf
    obtain ⟨c0, c1, c2, c3⟩ := HB2.out.cells
    dsimp only at c0 c1 c2 c3
    go_wp2
    go_ret2
    exact ⟨by rw [HR.out]; rfl, F2.out⟩
set_option maxHeartbeats 2000000 in
set_option maxRecDepth 100000 in
theorem rright_any (h : Ho) (x : St) (w : World) (b : Bool) (hb : b = h.may x) : Calls Tryz.prog 27 #[h.v, x.v] w fun e w' => e = .returned (.bool b) ∧ Fr w w' [] := by
  have TB := Lib.hid (two_box w h x)
  obtain ⟨bi, ei⟩ : ∃ y, y = decide (h.has x.p) := ⟨_, rfl⟩
  obtain ⟨bl, el⟩ : ∃ y, y = decide (h.lev x.p) := ⟨_, rfl⟩
  have HV0 := Lib.hid (show b = (bi && (decide (-1 ≤ x.e ∧ x.e ≤ 1) && (decide (0 ≤ x.o ∧ x.o ≤ h.d) && (if 0 < x.o then bl && !x.r else bl || (decide (x.e ≠ 0) || x.r))))) by rw [hb, Ho.may, ei, el])
  have I := Lib.hid (fun W => rin_any h x.p W bi ei)
  have L := Lib.hid (fun W => rlevel_any h x.p W bl el)
  clear hb ei el
  obtain ⟨c, f, s, d⟩ := h
  obtain ⟨xp, xe, xo, xr⟩ := x
  have HV := Lib.hid (show b = (bi && (decide (-1 ≤ xe ∧ xe ≤ 1) && (decide (0 ≤ xo ∧ xo ≤ d) && (if 0 < xo then bl && !xr else bl || (decide (xe ≠ 0) || xr))))) from HV0.out)
  clear HV0
  dsimp only [Ho.v, Ho.box, St.v, St.box] at *
  cases bi with
  | false =>
    have HR : Hid (b = false) := by show _ = _; rw [HV.out]; simp [*]
    clear HV
    go_enter Tryz.func27, Tryz.ntmps27
    go_wp2_with fail
    with_reducible refine (I.out _).mono ?_
    rintro e2 w2 ⟨rfl, hf⟩
    have F2 := Lib.hid (TB.out.1.trans hf)
    have HB2 := Lib.hid (TB.out.2.1.fr hf)
    have SB2 := Lib.hid (TB.out.2.2.fr hf)
    clear hf
    obtain ⟨c0, c1, c2, c3⟩ := HB2.out.cells
    obtain ⟨s0, s1, s2, s3⟩ := SB2.out.cells
    dsimp only at c0 c1 c2 c3 s0 s1 s2 s3
    go_wp2
    go_ret
    exact ⟨by rw [HR.out]; rfl, F2.out⟩
  | true =>
    by_cases k0 : -1 ≤ xe
    rotate_left
    · have HR : Hid (b = false) := by show _ = _; rw [HV.out]; simp [*]
      clear HV
      go_enter Tryz.func27, Tryz.ntmps27
      go_wp2_with fail
      with_reducible refine (I.out _).mono ?_
      rintro e2 w2 ⟨rfl, hf⟩
      have F2 := Lib.hid (TB.out.1.trans hf)
      have HB2 := Lib.hid (TB.out.2.1.fr hf)
      have SB2 := Lib.hid (TB.out.2.2.fr hf)
      clear hf
      obtain ⟨c0, c1, c2, c3⟩ := HB2.out.cells
      obtain ⟨s0, s1, s2, s3⟩ := SB2.out.cells
      dsimp only at c0 c1 c2 c3 s0 s1 s2 s3
      go_wp2
      go_ret
      exact ⟨by rw [HR.out]; rfl, F2.out⟩
    by_cases k1 : xe ≤ 1
    rotate_left
    · have HR : Hid (b = false) := by show _ = _; rw [HV.out]; simp [*]
      clear HV
      go_enter Tryz.func27, Tryz.ntmps27
      go_wp2_with fail
      with_reducible refine (I.out _).mono ?_
      rintro e2 w2 ⟨rfl, hf⟩
      have F2 := Lib.hid (TB.out.1.trans hf)
      have HB2 := Lib.hid (TB.out.2.1.fr hf)
      have SB2 := Lib.hid (TB.out.2.2.fr hf)
      clear hf
      obtain ⟨c0, c1, c2, c3⟩ := HB2.out.cells
      obtain ⟨s0, s1, s2, s3⟩ := SB2.out.cells
      dsimp only at c0 c1 c2 c3 s0 s1 s2 s3
      go_wp2
      go_ret
      exact ⟨by rw [HR.out]; rfl, F2.out⟩
    by_cases k2 : 0 ≤ xo
    rotate_left
    · have HR : Hid (b = false) := by show _ = _; rw [HV.out]; simp [*]
      clear HV
      go_enter Tryz.func27, Tryz.ntmps27
      go_wp2_with fail
      with_reducible refine (I.out _).mono ?_
      rintro e2 w2 ⟨rfl, hf⟩
      have F2 := Lib.hid (TB.out.1.trans hf)
      have HB2 := Lib.hid (TB.out.2.1.fr hf)
      have SB2 := Lib.hid (TB.out.2.2.fr hf)
      clear hf
      obtain ⟨c0, c1, c2, c3⟩ := HB2.out.cells
      obtain ⟨s0, s1, s2, s3⟩ := SB2.out.cells
      dsimp only at c0 c1 c2 c3 s0 s1 s2 s3
      go_wp2
      go_ret
      exact ⟨by rw [HR.out]; rfl, F2.out⟩
    by_cases k3 : xo ≤ d
    rotate_left
    · have HR : Hid (b = false) := by show _ = _; rw [HV.out]; simp [*]
      clear HV
      go_enter Tryz.func27, Tryz.ntmps27
      go_wp2_with fail
      with_reducible refine (I.out _).mono ?_
      rintro e2 w2 ⟨rfl, hf⟩
      have F2 := Lib.hid (TB.out.1.trans hf)
      have HB2 := Lib.hid (TB.out.2.1.fr hf)
      have SB2 := Lib.hid (TB.out.2.2.fr hf)
      clear hf
      obtain ⟨c0, c1, c2, c3⟩ := HB2.out.cells
      obtain ⟨s0, s1, s2, s3⟩ := SB2.out.cells
      dsimp only at c0 c1 c2 c3 s0 s1 s2 s3
      go_wp2
      go_ret
      exact ⟨by rw [HR.out]; rfl, F2.out⟩
    by_cases ho : 0 < xo
    · cases bl with
      | false =>
        have HR : Hid (b = false) := by show _ = _; rw [HV.out]; simp [*]
        clear HV
        go_enter Tryz.func27, Tryz.ntmps27
        go_wp2_with fail
        with_reducible refine (I.out _).mono ?_
        rintro e2 w2 ⟨rfl, hf⟩
        have F2 := Lib.hid (TB.out.1.trans hf)
        have HB2 := Lib.hid (TB.out.2.1.fr hf)
        have SB2 := Lib.hid (TB.out.2.2.fr hf)
        clear hf
        obtain ⟨c0, c1, c2, c3⟩ := HB2.out.cells
        obtain ⟨s0, s1, s2, s3⟩ := SB2.out.cells
        dsimp only at c0 c1 c2 c3 s0 s1 s2 s3
        go_wp2_with fail
        with_reducible refine (L.out _).mono ?_
        rintro e2 w3 ⟨rfl, hf⟩
        have F3 := Lib.hid (F2.out.trans hf)
        have HB3 := Lib.hid (HB2.out.fr hf)
        have SB3 := Lib.hid (SB2.out.fr hf)
        clear hf s0 s1 s2 s3 c0 c1 c2 c3
        obtain ⟨c0, c1, c2, c3⟩ := HB3.out.cells
        obtain ⟨s0, s1, s2, s3⟩ := SB3.out.cells
        dsimp only at c0 c1 c2 c3 s0 s1 s2 s3
        go_wp2
        go_ret
        exact ⟨by rw [HR.out]; rfl, F3.out⟩
      | true =>
        cases xr with
        | true =>
          have HR : Hid (b = false) := by show _ = _; rw [HV.out]; simp [*]
          clear HV
          go_enter Tryz.func27, Tryz.ntmps27
          go_wp2_with fail
          with_reducible refine (I.out _).mono ?_
          rintro e2 w2 ⟨rfl, hf⟩
          have F2 := Lib.hid (TB.out.1.trans hf)
          have HB2 := Lib.hid (TB.out.2.1.fr hf)
          have SB2 := Lib.hid (TB.out.2.2.fr hf)
          clear hf
          obtain ⟨c0, c1, c2, c3⟩ := HB2.out.cells
          obtain ⟨s0, s1, s2, s3⟩ := SB2.out.cells
          dsimp only at c0 c1 c2 c3 s0 s1 s2 s3
          go_wp2_with fail
          with_reducible refine (L.out _).mono ?_
          rintro e2 w3 ⟨rfl, hf⟩
          have F3 := Lib.hid (F2.out.trans hf)
          have HB3 := Lib.hid (HB2.out.fr hf)
          have SB3 := Lib.hid (SB2.out.fr hf)
          clear hf s0 s1 s2 s3 c0 c1 c2 c3
          obtain ⟨c0, c1, c2, c3⟩ := HB3.out.cells
          obtain ⟨s0, s1, s2, s3⟩ := SB3.out.cells
          dsimp only at c0 c1 c2 c3 s0 s1 s2 s3
          go_wp2
          go_ret
          exact ⟨by rw [HR.out]; rfl, F3.out⟩
        | false =>
          have HR : Hid (b = true) := by show _ = _; rw [HV.out]; simp [*]
          clear HV
          go_enter Tryz.func27, Tryz.ntmps27
          go_wp2_with fail
          with_reducible refine (I.out _).mono ?_
          rintro e2 w2 ⟨rfl, hf⟩
          have F2 := Lib.hid (TB.out.1.trans hf)
          have HB2 := Lib.hid (TB.out.2.1.fr hf)
          have SB2 := Lib.hid (TB.out.2.2.fr hf)
          clear hf
          obtain ⟨c0, c1, c2, c3⟩ := HB2.out.cells
          obtain ⟨s0, s1, s2, s3⟩ := SB2.out.cells
          dsimp only at c0 c1 c2 c3 s0 s1 s2 s3
          go_wp2_with fail
          with_reducible refine (L.out _).mono ?_
          rintro e2 w3 ⟨rfl, hf⟩
          have F3 := Lib.hid (F2.out.trans hf)
          have HB3 := Lib.hid (HB2.out.fr hf)
          have SB3 := Lib.hid (SB2.out.fr hf)
          clear hf s0 s1 s2 s3 c0 c1 c2 c3
          obtain ⟨c0, c1, c2, c3⟩ := HB3.out.cells
          obtain ⟨s0, s1, s2, s3⟩ := SB3.out.cells
          dsimp only at c0 c1 c2 c3 s0 s1 s2 s3
          go_wp2_with fail
          with_reducible refine (L.out _).mono ?_
          rintro e2 w4 ⟨rfl, hf⟩
          have F4 := Lib.hid (F3.out.trans hf)
          have HB4 := Lib.hid (HB3.out.fr hf)
          have SB4 := Lib.hid (SB3.out.fr hf)
          clear hf s0 s1 s2 s3 c0 c1 c2 c3
          obtain ⟨c0, c1, c2, c3⟩ := HB4.out.cells
          obtain ⟨s0, s1, s2, s3⟩ := SB4.out.cells
          dsimp only at c0 c1 c2 c3 s0 s1 s2 s3
          go_wp2
          go_ret
          exact ⟨by rw [HR.out]; rfl, F4.out⟩
    · cases bl with
      | true =>
        have HR : Hid (b = true) := by show _ = _; rw [HV.out]; simp [*]
        clear HV
        go_enter Tryz.func27, Tryz.ntmps27
        go_wp2_with fail
        with_reducible refine (I.out _).mono ?_
        rintro e2 w2 ⟨rfl, hf⟩
        have F2 := Lib.hid (TB.out.1.trans hf)
        have HB2 := Lib.hid (TB.out.2.1.fr hf)
        have SB2 := Lib.hid (TB.out.2.2.fr hf)
        clear hf
        obtain ⟨c0, c1, c2, c3⟩ := HB2.out.cells
        obtain ⟨s0, s1, s2, s3⟩ := SB2.out.cells
        dsimp only at c0 c1 c2 c3 s0 s1 s2 s3
        go_wp2_with fail
        with_reducible refine (L.out _).mono ?_
        rintro e2 w3 ⟨rfl, hf⟩
        have F3 := Lib.hid (F2.out.trans hf)
        have HB3 := Lib.hid (HB2.out.fr hf)
        have SB3 := Lib.hid (SB2.out.fr hf)
        clear hf s0 s1 s2 s3 c0 c1 c2 c3
        obtain ⟨c0, c1, c2, c3⟩ := HB3.out.cells
        obtain ⟨s0, s1, s2, s3⟩ := SB3.out.cells
        dsimp only at c0 c1 c2 c3 s0 s1 s2 s3
        go_wp2
        go_ret
        exact ⟨by rw [HR.out]; rfl, F3.out⟩
      | false =>
        by_cases he : xe = 0
        · subst he
          have hen : ((0 : Int) != 0) = false := by decide
          have HR : Hid (b = xr) := by show _ = _; rw [HV.out]; simp [*]
          clear HV
          go_enter Tryz.func27, Tryz.ntmps27
          go_wp2_with fail
          with_reducible refine (I.out _).mono ?_
          rintro e2 w2 ⟨rfl, hf⟩
          have F2 := Lib.hid (TB.out.1.trans hf)
          have HB2 := Lib.hid (TB.out.2.1.fr hf)
          have SB2 := Lib.hid (TB.out.2.2.fr hf)
          clear hf
          obtain ⟨c0, c1, c2, c3⟩ := HB2.out.cells
          obtain ⟨s0, s1, s2, s3⟩ := SB2.out.cells
          dsimp only at c0 c1 c2 c3 s0 s1 s2 s3
          go_wp2_with fail
          with_reducible refine (L.out _).mono ?_
          rintro e2 w3 ⟨rfl, hf⟩
          have F3 := Lib.hid (F2.out.trans hf)
          have HB3 := Lib.hid (HB2.out.fr hf)
          have SB3 := Lib.hid (SB2.out.fr hf)
          clear hf s0 s1 s2 s3 c0 c1 c2 c3
          obtain ⟨c0, c1, c2, c3⟩ := HB3.out.cells
          obtain ⟨s0, s1, s2, s3⟩ := SB3.out.cells
          dsimp only at c0 c1 c2 c3 s0 s1 s2 s3
          go_wp2
          go_ret
          exact ⟨by rw [HR.out]; rfl, F3.out⟩
        · have hen : (xe != 0) = true := by simpa using he
          have HR : Hid (b = true) := by show _ = _; rw [HV.out]; simp [*]
          clear HV
          go_enter Tryz.func27, Tryz.ntmps27
          go_wp2_with fail
          with_reducible refine (I.out _).mono ?_
          rintro e2 w2 ⟨rfl, hf⟩
          have F2 := Lib.hid (TB.out.1.trans hf)
          have HB2 := Lib.hid (TB.out.2.1.fr hf)
          have SB2 := Lib.hid (TB.out.2.2.fr hf)
          clear hf
          obtain ⟨c0, c1, c2, c3⟩ := HB2.out.cells
          obtain ⟨s0, s1, s2, s3⟩ := SB2.out.cells
          dsimp only at c0 c1 c2 c3 s0 s1 s2 s3
          go_wp2_with fail
          with_reducible refine (L.out _).mono ?_
          rintro e2 w3 ⟨rfl, hf⟩
          have F3 := Lib.hid (F2.out.trans hf)
          have HB3 := Lib.hid (HB2.out.fr hf)
          have SB3 := Lib.hid (SB2.out.fr hf)
          clear hf s0 s1 s2 s3 c0 c1 c2 c3
          obtain ⟨c0, c1, c2, c3⟩ := HB3.out.cells
          obtain ⟨s0, s1, s2, s3⟩ := SB3.out.cells
          dsimp only at c0 c1 c2 c3 s0 s1 s2 s3
          go_wp2
          go_ret
          exact ⟨by rw [HR.out]; rfl, F3.out⟩
end Go.Proofs.YtdmomnhacijmpaaGreatDoor
