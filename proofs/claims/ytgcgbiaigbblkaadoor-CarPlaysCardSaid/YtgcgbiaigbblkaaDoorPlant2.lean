/- Where a car is: Floor, Go. -/
import Derived.Test.YtgcgbiaigbblkaaDoorPlant
namespace Go.Proofs.YtgcgbiaigbblkaaDoor
open Go.RowKit

/-- The cells of a house's box, in a world that came of W. -/
def HS (W : World) (b : Nat) (c f s d : Int) (a : World) : Prop := Fr W a [] ∧ a.cell? ⟨b, 0, none⟩ = some (.int .i64 c) ∧ a.cell? ⟨b, 1, none⟩ = some (.int .i64 f) ∧ a.cell? ⟨b, 2, none⟩ = some (.int .i64 s) ∧ a.cell? ⟨b, 3, none⟩ = some (.int .i64 d)
theorem HS.fr {W : World} {b : Nat} {c f s d : Int} {a a' : World} (h : HS W b c f s d a) (k : Fr a a' []) : HS W b c f s d a' := by
  obtain ⟨h0, h1, h2, h3, h4⟩ := h
  exact ⟨h0.trans k, k.cell h1 (by simp), k.cell h2 (by simp), k.cell h3 (by simp), k.cell h4 (by simp)⟩
theorem HS.of {W a : World} {b : Nat} {h : Ho} (hf : Fr W a []) (k : HB a b h) : HS W b h.c h.f h.s h.d a := ⟨hf, k.cells⟩

/-- The floor at a place, or the last one below it. -/
def Ho.flr (h : Ho) (p : Int) : Int := if h.ok then min (max p 0) h.top / h.s else 0
set_option maxRecDepth 100000 in
theorem floor_any (h : Ho) (p : Int) (w : World) (r : Int) (hr : r = h.flr p) : Calls Tryd.prog 22 #[h.v, .int .i64 p] w fun e w' => e = .returned (.int .i64 r) ∧ Fr w w' [] := by
  have FA := Lib.hid (Fr.alloc w h.box [])
  have HB := Lib.hid (HB.new w h)
  by_cases hk : h.ok
  · have V := Lib.hid (fun W => valid_any h W true (decide_eq_true hk).symm)
    have T := Lib.hid (fun W => top_any h W h.top (by rw [Ho.topR, if_pos hk]))
    have ha := Ho.range hk
    have hs := hk.2.2.1
    rw [Ho.flr, if_pos hk] at hr
    obtain ⟨t, ht⟩ : ∃ t, t = h.top := ⟨_, rfl⟩
    rw [← ht] at T hr ha
    clear ht hk
    obtain ⟨m0, hm0⟩ : ∃ m, max p 0 = m := ⟨_, rfl⟩
    obtain ⟨m, hm⟩ : ∃ m, min m0 t = m := ⟨_, rfl⟩
    rw [hm0, hm] at hr
    have hmm : 0 ≤ m ∧ m ≤ 504 := by omega
    have hq0 : 0 ≤ m / h.s := Int.ediv_nonneg hmm.1 (by omega)
    have hq1 : m / h.s ≤ m := Int.ediv_le_self _ hmm.1
    rw [← Int.tdiv_eq_ediv_of_nonneg hmm.1] at hr hq0 hq1
    have hwq : IntKind.i64.wrap (m.tdiv h.s) = r := by rw [hr]; exact IntWalk.i64_in _ (by omega)
    clear hr hq0 hq1
    obtain ⟨c, f, s, d⟩ := h
    dsimp only [Ho.v, Ho.box] at *
    have hn : ¬ s = 0 := by omega
    have hn1 : ¬ s = -1 := by omega
    go_enter Tryd.func22, Tryd.ntmps22
    go_wp2_with fail
    with_reducible refine (V.out _).mono ?_
    rintro e w2 ⟨rfl, hf⟩
    have HS0 := Lib.hid (HS.of (h := ⟨c, f, s, d⟩) ((FA.out.trans hf).trans (Fr.drew _ [])) (HB.out.fr (hf.trans (Fr.drew _ []))))
    clear hf
    go_wp2
    refine wp_region_det (S := HS w w.heap.size c f s d) (by kernel_rfl) HS0.out ?_
    refine wpDet_take (i := 0) (oi := _) (v := ?dv1) (by simp only [List.getElem?_toArray, List.getElem?_cons_zero]; rfl) (by kernel_rfl) (by kernel_rfl) (by kernel_rfl) (Or.inl ⟨by rfl, ?dy1⟩) ?dr1
    case dy1 => (intro w hSw; have hS0 := hSw; (try dsimp only [HS] at hSw); go_simp; refine Came.value ?_ hS0; with_reducible rfl)
    try simp only [Act.put, List.setIfInBounds_toArray, List.set_cons_zero, List.set_cons_succ]
    refine wpDet_take (i := 1) (oi := _) (v := ?dv2) (by simp only [List.getElem?_toArray, List.getElem?_cons_zero, List.getElem?_cons_succ]; rfl) (by kernel_rfl) (by kernel_rfl) (by kernel_rfl) (Or.inl ⟨by rfl, ?dy2⟩) ?dr2
    case dy2 => (intro w hSw; have hS0 := hSw; (try dsimp only [HS] at hSw); go_simp; refine Came.value ?_ hS0; with_reducible rfl)
    try simp only [Act.put, List.setIfInBounds_toArray, List.set_cons_zero, List.set_cons_succ]
    refine wpDet_take (i := 2) (oi := _) (v := ?dv3) (by simp only [List.getElem?_toArray, List.getElem?_cons_zero, List.getElem?_cons_succ]; rfl) (by kernel_rfl) (by kernel_rfl) (by kernel_rfl) (Or.inl ⟨by rfl, ?dy3⟩) ?dr3
    case dy3 => (intro w hSw; have hS0 := hSw; (try dsimp only [HS] at hSw); go_simp; refine Came.value ?_ hS0; with_reducible rfl)
    try simp only [Act.put, List.setIfInBounds_toArray, List.set_cons_zero, List.set_cons_succ]
    refine wpDet_take (i := 3) (oi := _) (v := ?dv4) (by simp only [List.getElem?_toArray, List.getElem?_cons_zero, List.getElem?_cons_succ]; rfl) (by kernel_rfl) (by kernel_rfl) (by kernel_rfl) (Or.inl ⟨by rfl, ?dy4⟩) ?dr4
    case dy4 => (intro w hSw; go_simp; exact Came.call ((T.out w).mono fun e w' ⟨he, hf⟩ => ⟨he, hSw.fr hf⟩) (by with_reducible rfl))
    try simp only [Act.put, List.setIfInBounds_toArray, List.set_cons_zero, List.set_cons_succ]
    refine wpDet_take (i := 4) (oi := _) (v := ?dv5) (by simp only [List.getElem?_toArray, List.getElem?_cons_zero, List.getElem?_cons_succ]; rfl) (by kernel_rfl) (by kernel_rfl) (by kernel_rfl) (Or.inl ⟨by rfl, ?dy5⟩) ?dr5
    case dy5 => (intro w hSw; have hS0 := hSw; (try dsimp only [HS] at hSw); go_simp; refine Came.value ?_ hS0; with_reducible rfl)
    try simp only [Act.put, List.setIfInBounds_toArray, List.set_cons_zero, List.set_cons_succ]
    refine wpDet_take (i := 5) (oi := _) (v := ?dv6) (by simp only [List.getElem?_toArray, List.getElem?_cons_zero, List.getElem?_cons_succ]; rfl) (by kernel_rfl) (by kernel_rfl) (by kernel_rfl) (Or.inl ⟨by rfl, ?dy6⟩) ?dr6
    case dy6 => (intro w hSw; have hS0 := hSw; (try dsimp only [HS] at hSw); go_simp; refine Came.value ?_ hS0; with_reducible rfl)
    try simp only [Act.put, List.setIfInBounds_toArray, List.set_cons_zero, List.set_cons_succ]
    refine wpDet_take (i := 6) (oi := _) (v := ?dv7) (by simp only [List.getElem?_toArray, List.getElem?_cons_zero, List.getElem?_cons_succ]; rfl) (by kernel_rfl) (by kernel_rfl) (by kernel_rfl) (Or.inl ⟨by rfl, ?dy7⟩) ?dr7
    case dy7 => (intro w hSw; have hS0 := hSw; (try dsimp only [HS] at hSw); go_simp; refine Came.value ?_ hS0; with_reducible rfl)
    try simp only [Act.put, List.setIfInBounds_toArray, List.set_cons_zero, List.set_cons_succ]
    refine wpDet_take (i := 7) (oi := _) (v := ?dv8) (by simp only [List.getElem?_toArray, List.getElem?_cons_zero, List.getElem?_cons_succ]; rfl) (by kernel_rfl) (by kernel_rfl) (by kernel_rfl) (Or.inl ⟨by rfl, ?dy8⟩) ?dr8
    case dy8 => (intro w hSw; have hS0 := hSw; (try dsimp only [HS] at hSw); go_simp; refine Came.value ?_ hS0; with_reducible rfl)
    try simp only [Act.put, List.setIfInBounds_toArray, List.set_cons_zero, List.set_cons_succ]
    refine wpDet_take (i := 8) (oi := _) (v := ?dv9) (by simp only [List.getElem?_toArray, List.getElem?_cons_zero, List.getElem?_cons_succ]; rfl) (by kernel_rfl) (by kernel_rfl) (by kernel_rfl) (Or.inl ⟨by rfl, ?dy9⟩) ?dr9
    case dy9 => (intro w hSw; have hS0 := hSw; (try dsimp only [HS] at hSw); go_simp; refine Came.value ?_ hS0; with_reducible rfl)
    try simp only [Act.put, List.setIfInBounds_toArray, List.set_cons_zero, List.set_cons_succ]
    refine wpDet_done (by kernel_rfl) ?_ _
    rintro w3 ⟨hF, _⟩
    go_wp2
    go_ret
    exact ⟨rfl, hF⟩
  · have V := Lib.hid (fun W => valid_any h W false (decide_eq_false hk).symm)
    have HR : Hid (r = 0) := by show _ = _; rw [hr, Ho.flr, if_neg hk]
    clear hr hk
    obtain ⟨c, f, s, d⟩ := h
    dsimp only [Ho.v, Ho.box] at *
    go_enter Tryd.func22, Tryd.ntmps22
    go_wp2_with fail
    with_reducible refine (V.out _).mono ?_
    rintro e w2 ⟨rfl, hf⟩
    go_wp2
    go_ret
    exact ⟨by rw [HR.out]; rfl, FA.out.trans hf⟩
theorem isnan_any (a : Int) (w : World) : Calls Tryd.prog 53 #[.int .i64 a] w fun e w' => e = .returned (.bool false) ∧ w' = w := by
  have h : (a != a) = false := by simp
  go_enter Tryd.func53, Tryd.ntmps53
  go_wp2
  go_ret
  exact ⟨rfl, rfl⟩
/-- A motor's way. -/
def sgn (m : Int) : Int := if 0 < m then 1 else if m < 0 then -1 else 0
theorem sgn_range (m : Int) : sgn m = -1 ∨ sgn m = 0 ∨ sgn m = 1 := by
  unfold sgn
  split
  · simp
  · split <;> simp
theorem sgn_any (m : Int) (w : World) (g : Int) (hg : g = sgn m) : Calls Tryd.prog 50 #[.int .i64 m, .int .i64 0] w fun e w' => e = .returned (.int .i64 g) ∧ w' = w := by
  by_cases h : m < 0
  · have HC := Lib.hid (show g = -1 by rw [hg, sgn, if_neg (by omega), if_pos h])
    clear hg
    go_enter Tryd.func50, Tryd.ntmps50
    go_wp2_with (go_at_call 53; refine (isnan_any _ _).mono ?_; rintro e w' ⟨rfl, rfl⟩)
    go_ret
    exact ⟨by rw [HC.out]; rfl, rfl⟩
  · by_cases h' : 0 < m
    · have HC := Lib.hid (show g = 1 by rw [hg, sgn, if_pos h'])
      clear hg
      go_enter Tryd.func50, Tryd.ntmps50
      go_wp2_with (go_at_call 53; refine (isnan_any _ _).mono ?_; rintro e w' ⟨rfl, rfl⟩)
      go_ret
      exact ⟨by rw [HC.out]; rfl, rfl⟩
    · have HC := Lib.hid (show g = 0 by rw [hg, sgn, if_neg h', if_neg h])
      clear hg
      go_enter Tryd.func50, Tryd.ntmps50
      go_wp2_with (go_at_call 53; refine (isnan_any _ _).mono ?_; rintro e w' ⟨rfl, rfl⟩)
      go_ret
      exact ⟨by rw [HC.out]; rfl, rfl⟩
/-- At the ends of what an int holds it wraps: outside of the house too. -/
theorem wrap_go (h : Ho) (p g : Int) (h0 : -9223372036854775808 ≤ p) (h1 : p ≤ 9223372036854775807) (hg : g = -1 ∨ g = 0 ∨ g = 1) :
    (h.has (IntKind.i64.wrap (p + g)) ↔ h.has (p + g)) ∧ (h.has (p + g) → IntKind.i64.wrap (p + g) = p + g) := by
  by_cases hin : -9223372036854775808 ≤ p + g ∧ p + g ≤ 9223372036854775807
  · rw [IntWalk.i64_in _ hin]
    exact ⟨Iff.rfl, fun _ => rfl⟩
  · have hno : ¬ h.has (p + g) := fun hk => by have := Ho.range hk.1; have := hk.2; omega
    refine ⟨⟨fun hk => ?_, fun hk => absurd hk hno⟩, fun hk => absurd hk hno⟩
    exfalso
    have hr := Ho.range hk.1
    have hp : (p = 9223372036854775807 ∧ g = 1) ∨ (p = -9223372036854775808 ∧ g = -1) := by omega
    rcases hp with ⟨rfl, rfl⟩ | ⟨rfl, rfl⟩
    · rw [show IntKind.i64.wrap (9223372036854775807 + 1) = -9223372036854775808 by decide] at hk
      have := hk.2; omega
    · rw [show IntKind.i64.wrap (-9223372036854775808 + -1) = 9223372036854775807 by decide] at hk
      have := hk.2; omega
set_option maxRecDepth 100000 in
theorem go_any (h : Ho) (p m : Int) (h0 : -9223372036854775808 ≤ p) (h1 : p ≤ 9223372036854775807) (w : World) (b : Bool) (hb : b = decide (h.has (p + sgn m))) (r : Int) (hr : r = if b = true then p + sgn m else 0) :
    Calls Tryd.prog 47 #[h.v, .int .i64 p, .int .i64 m] w fun e w' => e = .returned (.tuple #[.int .i64 r, .bool b]) ∧ Fr w w' [] := by
  have FA := Lib.hid (Fr.alloc w h.box [])
  have HB := Lib.hid (HB.new w h)
  obtain ⟨g, hg⟩ : ∃ g, g = sgn m := ⟨_, rfl⟩
  have C := Lib.hid (fun W => sgn_any m W g hg)
  have hgr := sgn_range m
  rw [← hg] at hb hr hgr
  have hw := wrap_go h p g h0 h1 hgr
  obtain ⟨q, hq⟩ : ∃ q, IntKind.i64.wrap (p + g) = q := ⟨_, rfl⟩
  rw [hq] at hw
  have I := Lib.hid (fun W => inside_any h q W b (by rw [hb]; exact decide_eq_decide.2 hw.1.symm))
  have HR : Hid (r = if b = true then q else 0) := by
    show _ = _
    rw [hr]
    cases hbb : b with
    | false => simp
    | true =>
      rw [hbb] at hb
      simp
      exact (hw.2 (of_decide_eq_true hb.symm)).symm
  clear hb hr hgr hw hg h0 h1
  obtain ⟨c, f, s, d⟩ := h
  dsimp only [Ho.v, Ho.box] at *
  cases b with
  | true =>
    have HR1 : Hid (r = q) := by show _ = _; rw [HR.out]; simp
    clear HR
    go_enter Tryd.func47, Tryd.ntmps47
    go_wp2_with fail
    with_reducible refine (C.out _).mono ?_
    rintro e w2 ⟨rfl, rfl⟩
    go_wp2_with fail
    with_reducible refine (I.out _).mono ?_
    rintro e w2 ⟨rfl, hf⟩
    go_wp2
    go_ret2
    exact ⟨by rw [HR1.out]; rfl, FA.out.trans hf⟩
  | false =>
    have HR1 : Hid (r = 0) := by show _ = _; rw [HR.out]; simp
    clear HR
    go_enter Tryd.func47, Tryd.ntmps47
    go_wp2_with fail
    with_reducible refine (C.out _).mono ?_
    rintro e w2 ⟨rfl, rfl⟩
    go_wp2_with fail
    with_reducible refine (I.out _).mono ?_
    rintro e w2 ⟨rfl, hf⟩
    go_wp2
    go_ret2
    exact ⟨by rw [HR1.out]; rfl, FA.out.trans hf⟩
end Go.Proofs.YtgcgbiaigbblkaaDoor
