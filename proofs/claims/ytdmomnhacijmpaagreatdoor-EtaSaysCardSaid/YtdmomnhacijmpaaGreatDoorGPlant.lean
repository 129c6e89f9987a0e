/- A house, where a car is: within, Valid, Top, inside, Level. Where a car is: Floor, Go. Whether a state may be: Right. Plain laws of a house: floors and places. -/
import Derived.Test.YtdmomnhacijmpaaGreatDoorGBase
import Derived.Deep.RegionHeld3
import Derived.Lib.MinMax
namespace Go.Proofs.YtdmomnhacijmpaaGreatDoor
open Go.RowKit

/-- A house by value. -/
structure Ho where
  c : Int
  f : Int
  s : Int
  d : Int
abbrev Ho.v (h : Ho) : Value := .agg #[.int .i64 h.c, .int .i64 h.f, .int .i64 h.s, .int .i64 h.d]
def Ho.ok (h : Ho) : Prop := (1 ≤ h.c ∧ h.c ≤ 16) ∧ (2 ≤ h.f ∧ h.f ≤ 64) ∧ (1 ≤ h.s ∧ h.s ≤ 8) ∧ (1 ≤ h.d ∧ h.d ≤ 8)
instance (h : Ho) : Decidable h.ok := by unfold Ho.ok; infer_instance
def Ho.top (h : Ho) : Int := (h.f - 1) * h.s
theorem top_range (f s : Int) (h1 : 2 ≤ f) (h2 : f ≤ 64) (h3 : 1 ≤ s) (h4 : s ≤ 8) : 1 ≤ (f - 1) * s ∧ (f - 1) * s ≤ 504 := by
  have a : (f - 1) * 1 ≤ (f - 1) * s := Int.mul_le_mul_of_nonneg_left h3 (by omega)
  have b : (f - 1) * s ≤ (f - 1) * 8 := Int.mul_le_mul_of_nonneg_left h4 (by omega)
  omega
theorem Ho.range {h : Ho} (k : h.ok) : 1 ≤ h.top ∧ h.top ≤ 504 := top_range _ _ k.2.1.1 k.2.1.2 k.2.2.1.1 k.2.2.1.2
/-- Is a place within the house? -/
def Ho.has (h : Ho) (p : Int) : Prop := h.ok ∧ 0 ≤ p ∧ p ≤ h.top
instance (h : Ho) (p : Int) : Decidable (h.has p) := by unfold Ho.has; infer_instance
/-- Is it a floor's? -/
def Ho.lev (h : Ho) (p : Int) : Prop := h.has p ∧ p % h.s = 0
instance (h : Ho) (p : Int) : Decidable (h.lev p) := by unfold Ho.lev; infer_instance

theorem hrow {w : World} {g : Nat} {a b c d : Value} {T : TypeId} (h : w.heap[g]? = some (.cells #[a, b, c, d] T (0, 0))) :
    w.cell? ⟨g, 0, none⟩ = some a ∧ w.cell? ⟨g, 1, none⟩ = some b ∧ w.cell? ⟨g, 2, none⟩ = some c ∧ w.cell? ⟨g, 3, none⟩ = some d :=
  ⟨by rw [cell_of_row w g 0 _ _ _ h]; rfl, by rw [cell_of_row w g 1 _ _ _ h]; rfl, by rw [cell_of_row w g 2 _ _ _ h]; rfl, by rw [cell_of_row w g 3 _ _ _ h]; rfl⟩
/-- The box of a house. -/
abbrev Ho.box (h : Ho) : Obj := .cells #[.int .i64 h.c, .int .i64 h.f, .int .i64 h.s, .int .i64 h.d] 23
def HB (w : World) (b : Nat) (h : Ho) : Prop := w.heap[b]? = some h.box
theorem HB.fr {w w' : World} {b : Nat} {h : Ho} (k : HB w b h) (hf : Fr w w' []) : HB w' b h := hf.heap k (by simp)
theorem HB.new (w : World) (h : Ho) : HB (w.alloc h.box) w.heap.size h := heap_alloc_new w _
theorem HB.cells {w : World} {b : Nat} {h : Ho} (k : HB w b h) : w.cell? ⟨b, 0, none⟩ = some (.int .i64 h.c) ∧ w.cell? ⟨b, 1, none⟩ = some (.int .i64 h.f) ∧ w.cell? ⟨b, 2, none⟩ = some (.int .i64 h.s) ∧ w.cell? ⟨b, 3, none⟩ = some (.int .i64 h.d) := hrow k

theorem within_any (n l m : Int) (w : World) (b : Bool) (hb : b = decide (l ≤ n ∧ n ≤ m)) : Calls Tryz.prog 12 #[.int .i64 n, .int .i64 l, .int .i64 m] w fun e w' => e = .returned (.bool b) ∧ w' = w := by
  by_cases h1 : l ≤ n
  · by_cases h2 : n ≤ m
    · have HB : Hid (b = true) := by show _ = _; rw [hb]; simp [h1, h2]
      clear hb
      go_enter Tryz.func12, Tryz.ntmps12
      go_wp2
      go_ret
      exact ⟨by rw [HB.out]; rfl, rfl⟩
    · have HB : Hid (b = false) := by show _ = _; rw [hb]; simp [h1, h2]
      clear hb
      go_enter Tryz.func12, Tryz.ntmps12
      go_wp2
      go_ret
      exact ⟨by rw [HB.out]; rfl, rfl⟩
  · have HB : Hid (b = false) := by show _ = _; rw [hb]; simp [h1]
    clear hb
    go_enter Tryz.func12, Tryz.ntmps12
    go_wp2
    go_ret
    exact ⟨by rw [HB.out]; rfl, rfl⟩

set_option maxRecDepth 100000 in
theorem valid_any (h : Ho) (w : World) (b : Bool) (hb : b = decide h.ok) : Calls Tryz.prog 5 #[h.v] w fun e w' => e = .returned (.bool b) ∧ Fr w w' [] := by
  obtain ⟨c, f, s, d⟩ := h
  have HB := Lib.hid (show b = decide ((1 ≤ c ∧ c ≤ 16) ∧ (2 ≤ f ∧ f ≤ 64) ∧ (1 ≤ s ∧ s ≤ 8) ∧ (1 ≤ d ∧ d ≤ 8)) from hb)
  clear hb
  have FA := Lib.hid (Fr.alloc w (Ho.box ⟨c, f, s, d⟩) [])
  dsimp only [Ho.v, Ho.box] at *
  obtain ⟨bc, ec⟩ : ∃ x, x = decide (1 ≤ c ∧ c ≤ 16) := ⟨_, rfl⟩
  obtain ⟨bf, ef⟩ : ∃ x, x = decide (2 ≤ f ∧ f ≤ 64) := ⟨_, rfl⟩
  obtain ⟨bs, es⟩ : ∃ x, x = decide (1 ≤ s ∧ s ≤ 8) := ⟨_, rfl⟩
  obtain ⟨bd, ed⟩ : ∃ x, x = decide (1 ≤ d ∧ d ≤ 8) := ⟨_, rfl⟩
  have HR : Hid (b = (bc && (bf && (bs && bd)))) := by show _ = _; rw [HB.out, ec, ef, es, ed]; simp only [Bool.decide_and]
  have WC := Lib.hid (fun W => within_any c 1 16 W bc ec)
  have WF := Lib.hid (fun W => within_any f 2 64 W bf ef)
  have WS := Lib.hid (fun W => within_any s 1 8 W bs es)
  have WD := Lib.hid (fun W => within_any d 1 8 W bd ed)
  clear ec ef es ed HB
  cases bc with
  | false =>
    go_enter Tryz.func5, Tryz.ntmps5
    go_wp2_with fail
    with_reducible refine (WC.out _).mono ?_
    rintro e w' ⟨rfl, rfl⟩
    go_wp2
    go_ret
    exact ⟨by rw [HR.out]; rfl, FA.out⟩
  | true =>
    cases bf with
    | false =>
      go_enter Tryz.func5, Tryz.ntmps5
      go_wp2_with fail
      with_reducible refine (WC.out _).mono ?_
      rintro e w' ⟨rfl, rfl⟩
      go_wp2_with fail
      with_reducible refine (WF.out _).mono ?_
      rintro e w' ⟨rfl, rfl⟩
      go_wp2
      go_ret
      exact ⟨by rw [HR.out]; rfl, FA.out⟩
    | true =>
      cases bs with
      | false =>
        go_enter Tryz.func5, Tryz.ntmps5
        go_wp2_with fail
        with_reducible refine (WC.out _).mono ?_
        rintro e w' ⟨rfl, rfl⟩
        go_wp2_with fail
        with_reducible refine (WF.out _).mono ?_
        rintro e w' ⟨rfl, rfl⟩
        go_wp2_with fail
        with_reducible refine (WS.out _).mono ?_
        rintro e w' ⟨rfl, rfl⟩
        go_wp2
        go_ret
        exact ⟨by rw [HR.out]; rfl, FA.out⟩
      | true =>
        go_enter Tryz.func5, Tryz.ntmps5
        go_wp2_with fail
        with_reducible refine (WC.out _).mono ?_
        rintro e w' ⟨rfl, rfl⟩
        go_wp2_with fail
        with_reducible refine (WF.out _).mono ?_
        rintro e w' ⟨rfl, rfl⟩
        go_wp2_with fail
        with_reducible refine (WS.out _).mono ?_
        rintro e w' ⟨rfl, rfl⟩
        go_wp2_with fail
        with_reducible refine (WD.out _).mono ?_
        rintro e w' ⟨rfl, rfl⟩
        go_wp2
        go_ret
        exact ⟨by rw [HR.out]; rfl, FA.out⟩

/-- The last floor's place; 0, if it is not valid. -/
def Ho.topR (h : Ho) : Int := if h.ok then h.top else 0
set_option maxRecDepth 100000 in
theorem top_any (h : Ho) (w : World) (r : Int) (hr : r = h.topR) : Calls Tryz.prog 64 #[h.v] w fun e w' => e = .returned (.int .i64 r) ∧ Fr w w' [] := by
  have FA := Lib.hid (Fr.alloc w h.box [])
  have HB := Lib.hid (HB.new w h)
  by_cases hk : h.ok
  · have HR : Hid (r = h.top) := by show _ = _; rw [hr, Ho.topR, if_pos hk]
    have V := Lib.hid (fun W => valid_any h W true (decide_eq_true hk).symm)
    have ha := Ho.range hk
    obtain ⟨_, ⟨_, _⟩, ⟨_, _⟩, _⟩ := hk
    clear hr
    obtain ⟨c, f, s, d⟩ := h
    dsimp only [Ho.v, Ho.box, Ho.top] at *
    go_enter Tryz.func64, Tryz.ntmps64
    go_wp2_with fail
    with_reducible refine (V.out _).mono ?_
    rintro e w2 ⟨rfl, hf⟩
    obtain ⟨c0, c1, c2, c3⟩ := (HB.out.fr hf).cells
    have F2 := Lib.hid (FA.out.trans hf)
    clear hf
    dsimp only at c0 c1 c2 c3
    go_wp2
    go_ret
    exact ⟨by rw [HR.out]; rfl, F2.out⟩
  · have HR : Hid (r = 0) := by show _ = _; rw [hr, Ho.topR, if_neg hk]
    have V := Lib.hid (fun W => valid_any h W false (decide_eq_false hk).symm)
    clear hr hk
    obtain ⟨c, f, s, d⟩ := h
    dsimp only [Ho.v, Ho.box, Ho.top] at *
    go_enter Tryz.func64, Tryz.ntmps64
    go_wp2_with fail
    with_reducible refine (V.out _).mono ?_
    rintro e w2 ⟨rfl, hf⟩
    go_wp2
    go_ret
    exact ⟨by rw [HR.out]; rfl, FA.out.trans hf⟩

set_option maxRecDepth 100000 in
theorem inside_any (h : Ho) (p : Int) (w : World) (b : Bool) (hb : b = decide (h.has p)) : Calls Tryz.prog 47 #[h.v, .int .i64 p] w fun e w' => e = .returned (.bool b) ∧ Fr w w' [] := by
  have FA := Lib.hid (Fr.alloc w h.box [])
  have HB := Lib.hid (HB.new w h)
  by_cases hk : h.ok
  · have V := Lib.hid (fun W => valid_any h W true (decide_eq_true hk).symm)
    have T := Lib.hid (fun W => top_any h W h.top (by rw [Ho.topR, if_pos hk]))
    have HI := Lib.hid (fun W => within_any p 0 h.top W b (by rw [hb]; simp [Ho.has, hk]))
    clear hb hk
    obtain ⟨t, ht⟩ : ∃ t, t = h.top := ⟨_, rfl⟩
    rw [← ht] at T HI
    clear ht
    obtain ⟨c, f, s, d⟩ := h
    dsimp only [Ho.v, Ho.box] at *
    go_enter Tryz.func47, Tryz.ntmps47
    go_wp2_with fail
    with_reducible refine (V.out _).mono ?_
    rintro e w2 ⟨rfl, hf⟩
    obtain ⟨c0, c1, c2, c3⟩ := (HB.out.fr hf).cells
    have F2 := Lib.hid (FA.out.trans hf)
    clear hf
    dsimp only at c0 c1 c2 c3
    go_wp2_with fail
    with_reducible refine (T.out _).mono ?_
    rintro e w3 ⟨rfl, hf⟩
    go_wp2_with fail
    with_reducible refine (HI.out _).mono ?_
    rintro e w4 ⟨rfl, rfl⟩
    go_wp2
    go_ret
    exact ⟨rfl, F2.out.trans hf⟩
  · have V := Lib.hid (fun W => valid_any h W false (decide_eq_false hk).symm)
    have HR : Hid (b = false) := by show _ = _; rw [hb]; simp [Ho.has, hk]
    clear hb hk
    obtain ⟨c, f, s, d⟩ := h
    dsimp only [Ho.v, Ho.box] at *
    go_enter Tryz.func47, Tryz.ntmps47
    go_wp2_with fail
    with_reducible refine (V.out _).mono ?_
    rintro e w2 ⟨rfl, hf⟩
    go_wp2
    go_ret
    exact ⟨by rw [HR.out]; rfl, FA.out.trans hf⟩
theorem tmod_zero {p s : Int} (h : 0 ≤ p) : p.tmod s = p % s := Int.tmod_eq_emod_of_nonneg h
set_option maxRecDepth 100000 in
theorem level_any (h : Ho) (p : Int) (w : World) (b : Bool) (hb : b = decide (h.lev p)) : Calls Tryz.prog 26 #[h.v, .int .i64 p] w fun e w' => e = .returned (.bool b) ∧ Fr w w' [] := by
  have FA := Lib.hid (Fr.alloc w h.box [])
  have HB := Lib.hid (HB.new w h)
  by_cases hk : h.has p
  · have I := Lib.hid (fun W => inside_any h p W true (decide_eq_true hk).symm)
    have HM := tmod_zero (s := h.s) hk.2.1
    have hs := hk.1.2.2.1.1
    by_cases hm : p % h.s = 0
    · have HR : Hid (b = true) := by show _ = _; rw [hb]; simp [Ho.lev, hk, hm]
      have hm' : p.tmod h.s = 0 := by rw [HM]; exact hm
      clear hb hk HM hm
      obtain ⟨c, f, s, d⟩ := h
      dsimp only [Ho.v, Ho.box] at *
      have hn : ¬ s = 0 := by omega
      go_enter Tryz.func26, Tryz.ntmps26
      go_wp2_with fail
      with_reducible refine (I.out _).mono ?_
      rintro e w2 ⟨rfl, hf⟩
      obtain ⟨c0, c1, c2, c3⟩ := (HB.out.fr hf).cells
      have F2 := Lib.hid (FA.out.trans hf)
      clear hf
      dsimp only at c0 c1 c2 c3
      go_wp2
      go_ret
      exact ⟨by rw [HR.out]; rfl, F2.out⟩
    · have HR : Hid (b = false) := by show _ = _; rw [hb]; simp [Ho.lev, hm]
      have hm' : (p.tmod h.s == 0) = false := by rw [HM]; simpa using hm
      clear hb hk HM hm
      obtain ⟨c, f, s, d⟩ := h
      dsimp only [Ho.v, Ho.box] at *
      have hn : ¬ s = 0 := by omega
      go_enter Tryz.func26, Tryz.ntmps26
      go_wp2_with fail
      with_reducible refine (I.out _).mono ?_
      rintro e w2 ⟨rfl, hf⟩
      obtain ⟨c0, c1, c2, c3⟩ := (HB.out.fr hf).cells
      have F2 := Lib.hid (FA.out.trans hf)
      clear hf
      dsimp only at c0 c1 c2 c3
      go_wp2
      go_ret
      exact ⟨by rw [HR.out]; rfl, F2.out⟩
  · have I := Lib.hid (fun W => inside_any h p W false (decide_eq_false hk).symm)
    have HR : Hid (b = false) := by show _ = _; rw [hb]; simp [Ho.lev, hk]
    clear hb hk
    obtain ⟨c, f, s, d⟩ := h
    dsimp only [Ho.v, Ho.box] at *
    go_enter Tryz.func26, Tryz.ntmps26
    go_wp2_with fail
    with_reducible refine (I.out _).mono ?_
    rintro e w2 ⟨rfl, hf⟩
    go_wp2
    go_ret
    exact ⟨by rw [HR.out]; rfl, FA.out.trans hf⟩
end Go.Proofs.YtdmomnhacijmpaaGreatDoor

namespace Go.Proofs.YtdmomnhacijmpaaGreatDoor
open Go.RowKit

/-- The cells of a house's box, in a world that came of W. -/
def HS (W : World) (b : Nat) (c f s d : Int) (a : World) : Prop := Fr W a [] ∧ a.cell? ⟨b, 0, none⟩ = some (.int .i64 c) ∧ a.cell? ⟨b, 1, none⟩ = some (.int .i64 f) ∧ a.cell? ⟨b, 2, none⟩ = some (.int .i64 s) ∧ a.cell? ⟨b, 3, none⟩ = some (.int .i64 d)
theorem HS.fr {W : World} {b : Nat} {c f s d : Int} {a a' : World} (h : HS W b c f s d a) (k : Fr a a' []) : HS W b c f s d a' := by
  obtain ⟨h0, h1, h2, h3, h4⟩ := h
  exact ⟨h0.trans k, k.cell h1 (by simp), k.cell h2 (by simp), k.cell h3 (by simp), k.cell h4 (by simp)⟩
theorem HS.of {W a : World} {b : Nat} {h : Ho} (hf : Fr W a []) (k : HB a b h) : HS W b h.c h.f h.s h.d a := ⟨hf, k.cells⟩

/-- The floor at a place, or the last one below it. -/
def Ho.flr (h : Ho) (p : Int) : Int := if h.ok then min (max p 0) h.top / h.s else 0
set_option maxRecDepth 100000 in
theorem floor_any (h : Ho) (p : Int) (w : World) (r : Int) (hr : r = h.flr p) : Calls Tryz.prog 63 #[h.v, .int .i64 p] w fun e w' => e = .returned (.int .i64 r) ∧ Fr w w' [] := by
  have FA := Lib.hid (Fr.alloc w h.box [])
  have HB := Lib.hid (HB.new w h)
  by_cases hk : h.ok
  · have V := Lib.hid (fun W => valid_any h W true (decide_eq_true hk).symm)
    have T := Lib.hid (fun W => top_any h W h.top (by rw [Ho.topR, if_pos hk]))
    have ha := Ho.range hk
    have hs := hk.2.2.1
    rw [Ho.flr, if_pos hk] at hr
    obtain ⟨t, ht⟩ : ∃ t, t = h.top := ⟨_, rfl⟩
    rw [← ht] at T hr ha
    clear ht hk
    obtain ⟨m0, hm0⟩ : ∃ m, max p 0 = m := ⟨_, rfl⟩
    obtain ⟨m, hm⟩ : ∃ m, min m0 t = m := ⟨_, rfl⟩
    rw [hm0, hm] at hr
    have hmm : 0 ≤ m ∧ m ≤ 504 := by omega
    have hq0 : 0 ≤ m / h.s := Int.ediv_nonneg hmm.1 (by omega)
    have hq1 : m / h.s ≤ m := Int.ediv_le_self _ hmm.1
    rw [← Int.tdiv_eq_ediv_of_nonneg hmm.1] at hr hq0 hq1
    have hwq : IntKind.i64.wrap (m.tdiv h.s) = r := by rw [hr]; exact IntWalk.i64_in _ (by omega)
    clear hr hq0 hq1
    obtain ⟨c, f, s, d⟩ := h
    dsimp only [Ho.v, Ho.box] at *
    have hn : ¬ s = 0 := by omega
    have hn1 : ¬ s = -1 := by omega
    go_enter Tryz.func63, Tryz.ntmps63
    go_wp2_with fail
    with_reducible refine (V.out _).mono ?_
    rintro e w2 ⟨rfl, hf⟩
    have HS0 := Lib.hid (HS.of (h := ⟨c, f, s, d⟩) ((FA.out.trans hf).trans (Fr.drew _ [])) (HB.out.fr (hf.trans (Fr.drew _ []))))
    clear hf
    go_wp2
    refine wp_region_det (S := HS w w.heap.size c f s d) (by kernel_rfl) HS0.out ?_
    refine wpDet_take (i := 0) (oi := _) (v := ?dv1) (by simp only [List.getElem?_toArray, List.getElem?_cons_zero]; rfl) (by kernel_rfl) (by kernel_rfl) (by kernel_rfl) (Or.inl ⟨by rfl, ?dy1⟩) ?dr1
    case dy1 => (intro w hSw; have hS0 := hSw; (try dsimp only [HS] at hSw); go_simp; refine Came.value ?_ hS0; with_reducible rfl)
    try simp only [Act.put, List.setIfInBounds_toArray, List.set_cons_zero, List.set_cons_succ]
    refine wpDet_take (i := 1) (oi := _) (v := ?dv2) (by simp only [List.getElem?_toArray, List.getElem?_cons_zero, List.getElem?_cons_succ]; rfl) (by kernel_rfl) (by kernel_rfl) (by kernel_rfl) (Or.inl ⟨by rfl, ?dy2⟩) ?dr2
    case dy2 => (intro w hSw; have hS0 := hSw; (try dsimp only [HS] at hSw); go_simp; refine Came.value ?_ hS0; with_reducible rfl)
    try simp only [Act.put, List.setIfInBounds_toArray, List.set_cons_zero, List.set_cons_succ]
    refine wpDet_take (i := 2) (oi := _) (v := ?dv3) (by simp only [List.getElem?_toArray, List.getElem?_cons_zero, List.getElem?_cons_succ]; rfl) (by kernel_rfl) (by kernel_rfl) (by kernel_rfl) (Or.inl ⟨by rfl, ?dy3⟩) ?dr3
    case dy3 => (intro w hSw; have hS0 := hSw; (try dsimp only [HS] at hSw); go_simp; refine Came.value ?_ hS0; with_reducible rfl)
    try simp only [Act.put, List.setIfInBounds_toArray, List.set_cons_zero, List.set_cons_succ]
    refine wpDet_take (i := 3) (oi := _) (v := ?dv4) (by simp only [List.getElem?_toArray, List.getElem?_cons_zero, List.getElem?_cons_succ]; rfl) (by kernel_rfl) (by kernel_rfl) (by kernel_rfl) (Or.inl ⟨by rfl, ?dy4⟩) ?dr4
    case dy4 => (intro w hSw; go_simp; exact Came.call ((T.out w).mono fun e w' ⟨he, hf⟩ => ⟨he, hSw.fr hf⟩) (by with_reducible rfl))
    try simp only [Act.put, List.setIfInBounds_toArray, List.set_cons_zero, List.set_cons_succ]
    refine wpDet_take (i := 4) (oi := _) (v := ?dv5) (by simp only [List.getElem?_toArray, List.getElem?_cons_zero, List.getElem?_cons_succ]; rfl) (by kernel_rfl) (by kernel_rfl) (by kernel_rfl) (Or.inl ⟨by rfl, ?dy5⟩) ?dr5
    case dy5 => (intro w hSw; have hS0 := hSw; (try dsimp only [HS] at hSw); go_simp; refine Came.value ?_ hS0; with_reducible rfl)
    try simp only [Act.put, List.setIfInBounds_toArray, List.set_cons_zero, List.set_cons_succ]
    refine wpDet_take (i := 5) (oi := _) (v := ?dv6) (by simp only [List.getElem?_toArray, List.getElem?_cons_zero, List.getElem?_cons_succ]; rfl) (by kernel_rfl) (by kernel_rfl) (by kernel_rfl) (Or.inl ⟨by rfl, ?dy6⟩) ?dr6
    case dy6 => (intro w hSw; have hS0 := hSw; (try dsimp only [HS] at hSw); go_simp; refine Came.value ?_ hS0; with_reducible rfl)
    try simp only [Act.put, List.setIfInBounds_toArray, List.set_cons_zero, List.set_cons_succ]
    refine wpDet_take (i := 6) (oi := _) (v := ?dv7) (by simp only [List.getElem?_toArray, List.getElem?_cons_zero, List.getElem?_cons_succ]; rfl) (by kernel_rfl) (by kernel_rfl) (by kernel_rfl) (Or.inl ⟨by rfl, ?dy7⟩) ?dr7
    case dy7 => (intro w hSw; have hS0 := hSw; (try dsimp only [HS] at hSw); go_simp; refine Came.value ?_ hS0; with_reducible rfl)
    try simp only [Act.put, List.setIfInBounds_toArray, List.set_cons_zero, List.set_cons_succ]
    refine wpDet_take (i := 7) (oi := _) (v := ?dv8) (by simp only [List.getElem?_toArray, List.getElem?_cons_zero, List.getElem?_cons_succ]; rfl) (by kernel_rfl) (by kernel_rfl) (by kernel_rfl) (Or.inl ⟨by rfl, ?dy8⟩) ?dr8
    case dy8 => (intro w hSw; have hS0 := hSw; (try dsimp only [HS] at hSw); go_simp; refine Came.value ?_ hS0; with_reducible rfl)
    try simp only [Act.put, List.setIfInBounds_toArray, List.set_cons_zero, List.set_cons_succ]
    refine wpDet_take (i := 8) (oi := _) (v := ?dv9) (by simp only [List.getElem?_toArray, List.getElem?_cons_zero, List.getElem?_cons_succ]; rfl) (by kernel_rfl) (by kernel_rfl) (by kernel_rfl) (Or.inl ⟨by rfl, ?dy9⟩) ?dr9
    case dy9 => (intro w hSw; have hS0 := hSw; (try dsimp only [HS] at hSw); go_simp; refine Came.value ?_ hS0; with_reducible rfl)
    try simp only [Act.put, List.setIfInBounds_toArray, List.set_cons_zero, List.set_cons_succ]
    refine wpDet_done (by kernel_rfl) ?_ _
    rintro w3 ⟨hF, _⟩
    go_wp2
    go_ret
    exact ⟨rfl, hF⟩
  · have V := Lib.hid (fun W => valid_any h W false (decide_eq_false hk).symm)
    have HR : Hid (r = 0) := by show _ = _; rw [hr, Ho.flr, if_neg hk]
    clear hr hk
    obtain ⟨c, f, s, d⟩ := h
    dsimp only [Ho.v, Ho.box] at *
    go_enter Tryz.func63, Tryz.ntmps63
    go_wp2_with fail
    with_reducible refine (V.out _).mono ?_
    rintro e w2 ⟨rfl, hf⟩
    go_wp2
    go_ret
    exact ⟨by rw [HR.out]; rfl, FA.out.trans hf⟩
theorem isnan_any (a : Int) (w : World) : Calls Tryz.prog 104 #[.int .i64 a] w fun e w' => e = .returned (.bool false) ∧ w' = w := by
  have h : (a != a) = false := by simp
  go_enter Tryz.func104, Tryz.ntmps104
  go_wp2
  go_ret
  exact ⟨rfl, rfl⟩
/-- A motor's way. -/
def sgn (m : Int) : Int := if 0 < m then 1 else if m < 0 then -1 else 0
theorem sgn_range (m : Int) : sgn m = -1 ∨ sgn m = 0 ∨ sgn m = 1 := by
  unfold sgn
  split
  · simp
  · split <;> simp
theorem sgn_any (m : Int) (w : World) (g : Int) (hg : g = sgn m) : Calls Tryz.prog 101 #[.int .i64 m, .int .i64 0] w fun e w' => e = .returned (.int .i64 g) ∧ w' = w := by
  by_cases h : m < 0
  · have HC := Lib.hid (show g = -1 by rw [hg, sgn, if_neg (by omega), if_pos h])
    clear hg
    go_enter Tryz.func101, Tryz.ntmps101
    go_wp2_with (go_at_call 104; refine (isnan_any _ _).mono ?_; rintro e w' ⟨rfl, rfl⟩)
    go_ret
    exact ⟨by rw [HC.out]; rfl, rfl⟩
  · by_cases h' : 0 < m
    · have HC := Lib.hid (show g = 1 by rw [hg, sgn, if_pos h'])
      clear hg
      go_enter Tryz.func101, Tryz.ntmps101
      go_wp2_with (go_at_call 104; refine (isnan_any _ _).mono ?_; rintro e w' ⟨rfl, rfl⟩)
      go_ret
      exact ⟨by rw [HC.out]; rfl, rfl⟩
    · have HC := Lib.hid (show g = 0 by rw [hg, sgn, if_neg h', if_neg h])
      clear hg
      go_enter Tryz.func101, Tryz.ntmps101
      go_wp2_with (go_at_call 104; refine (isnan_any _ _).mono ?_; rintro e w' ⟨rfl, rfl⟩)
      go_ret
      exact ⟨by rw [HC.out]; rfl, rfl⟩
/-- At the ends of what an int holds it wraps: outside of the house too. -/
theorem wrap_go (h : Ho) (p g : Int) (h0 : -9223372036854775808 ≤ p) (h1 : p ≤ 9223372036854775807) (hg : g = -1 ∨ g = 0 ∨ g = 1) :
    (h.has (IntKind.i64.wrap (p + g)) ↔ h.has (p + g)) ∧ (h.has (p + g) → IntKind.i64.wrap (p + g) = p + g) := by
  by_cases hin : -9223372036854775808 ≤ p + g ∧ p + g ≤ 9223372036854775807
  · rw [IntWalk.i64_in _ hin]
    exact ⟨Iff.rfl, fun _ => rfl⟩
  · have hno : ¬ h.has (p + g) := fun hk => by have := Ho.range hk.1; have := hk.2; omega
    refine ⟨⟨fun hk => ?_, fun hk => absurd hk hno⟩, fun hk => absurd hk hno⟩
    exfalso
    have hr := Ho.range hk.1
    have hp : (p = 9223372036854775807 ∧ g = 1) ∨ (p = -9223372036854775808 ∧ g = -1) := by omega
    rcases hp with ⟨rfl, rfl⟩ | ⟨rfl, rfl⟩
    · rw [show IntKind.i64.wrap (9223372036854775807 + 1) = -9223372036854775808 by decide] at hk
      have := hk.2; omega
    · rw [show IntKind.i64.wrap (-9223372036854775808 + -1) = 9223372036854775807 by decide] at hk
      have := hk.2; omega
set_option maxRecDepth 100000 in
theorem go_any (h : Ho) (p m : Int) (h0 : -9223372036854775808 ≤ p) (h1 : p ≤ 9223372036854775807) (w : World) (b : Bool) (hb : b = decide (h.has (p + sgn m))) (r : Int) (hr : r = if b = true then p + sgn m else 0) :
    Calls Tryz.prog 90 #[h.v, .int .i64 p, .int .i64 m] w fun e w' => e = .returned (.tuple #[.int .i64 r, .bool b]) ∧ Fr w w' [] := by
  have FA := Lib.hid (Fr.alloc w h.box [])
  have HB := Lib.hid (HB.new w h)
  obtain ⟨g, hg⟩ : ∃ g, g = sgn m := ⟨_, rfl⟩
  have C := Lib.hid (fun W => sgn_any m W g hg)
  have hgr := sgn_range m
  rw [← hg] at hb hr hgr
  have hw := wrap_go h p g h0 h1 hgr
  obtain ⟨q, hq⟩ : ∃ q, IntKind.i64.wrap (p + g) = q := ⟨_, rfl⟩
  rw [hq] at hw
  have I := Lib.hid (fun W => inside_any h q W b (by rw [hb]; exact decide_eq_decide.2 hw.1.symm))
  have HR : Hid (r = if b = true then q else 0) := by
    show _ = _
    rw [hr]
    cases hbb : b with
    | false => simp
    | true =>
      rw [hbb] at hb
      simp
      exact (hw.2 (of_decide_eq_true hb.symm)).symm
  clear hb hr hgr hw hg h0 h1
  obtain ⟨c, f, s, d⟩ := h
  dsimp only [Ho.v, Ho.box] at *
  cases b with
  | true =>
    have HR1 : Hid (r = q) := by show _ = _; rw [HR.out]; simp
    clear HR
    go_enter Tryz.func90, Tryz.ntmps90
    go_wp2_with fail
    with_reducible refine (C.out _).mono ?_
    rintro e w2 ⟨rfl, rfl⟩
    go_wp2_with fail
    with_reducible refine (I.out _).mono ?_
    rintro e w2 ⟨rfl, hf⟩
    go_wp2
    go_ret2
    exact ⟨by rw [HR1.out]; rfl, FA.out.trans hf⟩
  | false =>
    have HR1 : Hid (r = 0) := by show _ = _; rw [HR.out]; simp
    clear HR
    go_enter Tryz.func90, Tryz.ntmps90
    go_wp2_with fail
    with_reducible refine (C.out _).mono ?_
    rintro e w2 ⟨rfl, rfl⟩
    go_wp2_with fail
    with_reducible refine (I.out _).mono ?_
    rintro e w2 ⟨rfl, hf⟩
    go_wp2
    go_ret2
    exact ⟨by rw [HR1.out]; rfl, FA.out.trans hf⟩
end Go.Proofs.YtdmomnhacijmpaaGreatDoor

namespace Go.Proofs.YtdmomnhacijmpaaGreatDoor
open Go.RowKit

/-- A state by value. -/
structure St where
  p : Int
  e : Int
  o : Int
  r : Bool
abbrev St.v (x : St) : Value := .agg #[.int .i64 x.p, .int .i64 x.e, .int .i64 x.o, .bool x.r]
abbrev St.box (x : St) : Obj := .cells #[.int .i64 x.p, .int .i64 x.e, .int .i64 x.o, .bool x.r] 25
def SB (w : World) (b : Nat) (x : St) : Prop := w.heap[b]? = some x.box
theorem SB.fr {w w' : World} {b : Nat} {x : St} (k : SB w b x) (hf : Fr w w' []) : SB w' b x := hf.heap k (by simp)
theorem SB.new (w : World) (x : St) : SB (w.alloc x.box) w.heap.size x := heap_alloc_new w _
theorem SB.cells {w : World} {b : Nat} {x : St} (k : SB w b x) : w.cell? ⟨b, 0, none⟩ = some (.int .i64 x.p) ∧ w.cell? ⟨b, 1, none⟩ = some (.int .i64 x.e) ∧ w.cell? ⟨b, 2, none⟩ = some (.int .i64 x.o) ∧ w.cell? ⟨b, 3, none⟩ = some (.bool x.r) := hrow k
/-- A house and a state, boxed one behind the other. -/
theorem two_box (w : World) (h : Ho) (x : St) : Fr w ((w.alloc h.box).alloc x.box) [] ∧ HB ((w.alloc h.box).alloc x.box) w.heap.size h ∧ SB ((w.alloc h.box).alloc x.box) (w.heap.size + 1) x := by
  refine ⟨(Fr.alloc _ _ []).trans (Fr.alloc _ _ []), (HB.new w h).fr (Fr.alloc _ _ []), ?_⟩
  have := SB.new (w.alloc h.box) x
  rwa [show (w.alloc h.box).heap.size = w.heap.size + 1 by simp] at this
/-- May a state be? -/
def Ho.may (h : Ho) (x : St) : Bool := decide (h.has x.p) && (decide (-1 ≤ x.e ∧ x.e ≤ 1) && (decide (0 ≤ x.o ∧ x.o ≤ h.d) && (if 0 < x.o then decide (h.lev x.p) && !x.r else decide (h.lev x.p) || (decide (x.e ≠ 0) || x.r))))
set_option maxRecDepth 100000 in
theorem right_any (h : Ho) (x : St) (w : World) (b : Bool) (hb : b = h.may x) : Calls Tryz.prog 42 #[h.v, x.v] w fun e w' => e = .returned (.bool b) ∧ Fr w w' [] := by
  have TB := Lib.hid (two_box w h x)
  obtain ⟨bi, ei⟩ : ∃ y, y = decide (h.has x.p) := ⟨_, rfl⟩
  obtain ⟨be, ee⟩ : ∃ y, y = decide (-1 ≤ x.e ∧ x.e ≤ 1) := ⟨_, rfl⟩
  obtain ⟨bo, eo⟩ : ∃ y, y = decide (0 ≤ x.o ∧ x.o ≤ h.d) := ⟨_, rfl⟩
  obtain ⟨bl, el⟩ : ∃ y, y = decide (h.lev x.p) := ⟨_, rfl⟩
  have HV0 := Lib.hid (show b = (bi && (be && (bo && (if 0 < x.o then bl && !x.r else bl || (decide (x.e ≠ 0) || x.r))))) by rw [hb, Ho.may, ei, ee, eo, el])
  have I := Lib.hid (fun W => inside_any h x.p W bi ei)
  have E := Lib.hid (fun W => within_any x.e (-1) 1 W be ee)
  have O := Lib.hid (fun W => within_any x.o 0 h.d W bo eo)
  have L := Lib.hid (fun W => level_any h x.p W bl el)
  clear hb ei ee eo el
  obtain ⟨c, f, s, d⟩ := h
  obtain ⟨xp, xe, xo, xr⟩ := x
  have HV := Lib.hid (show b = (bi && (be && (bo && (if 0 < xo then bl && !xr else bl || (decide (xe ≠ 0) || xr))))) from HV0.out)
  clear HV0
  dsimp only [Ho.v, Ho.box, St.v, St.box] at *
  cases bi with
  | false =>
    have HR : Hid (b = false) := by show _ = _; rw [HV.out]; simp [*]
    clear HV
    go_enter Tryz.func42, Tryz.ntmps42
    go_wp2_with fail
    with_reducible refine (I.out _).mono ?_
    rintro e2 w2 ⟨rfl, hf⟩
    have F2 := Lib.hid (TB.out.1.trans hf)
    have HB2 := Lib.hid (TB.out.2.1.fr hf)
    have SB2 := Lib.hid (TB.out.2.2.fr hf)
    clear hf
    obtain ⟨c0, c1, c2, c3⟩ := HB2.out.cells
    obtain ⟨s0, s1, s2, s3⟩ := SB2.out.cells
    dsimp only at c0 c1 c2 c3 s0 s1 s2 s3
    go_wp2
    go_ret
    exact ⟨by rw [HR.out]; rfl, F2.out⟩
  | true =>
    cases be with
    | false =>
      have HR : Hid (b = false) := by show _ = _; rw [HV.out]; simp [*]
      clear HV
      go_enter Tryz.func42, Tryz.ntmps42
      go_wp2_with fail
      with_reducible refine (I.out _).mono ?_
      rintro e2 w2 ⟨rfl, hf⟩
      have F2 := Lib.hid (TB.out.1.trans hf)
      have HB2 := Lib.hid (TB.out.2.1.fr hf)
      have SB2 := Lib.hid (TB.out.2.2.fr hf)
      clear hf
      obtain ⟨c0, c1, c2, c3⟩ := HB2.out.cells
      obtain ⟨s0, s1, s2, s3⟩ := SB2.out.cells
      dsimp only at c0 c1 c2 c3 s0 s1 s2 s3
      go_wp2_with fail
      with_reducible refine (E.out _).mono ?_
      rintro e2 w3 ⟨rfl, rfl⟩
      go_wp2
      go_ret
      exact ⟨by rw [HR.out]; rfl, F2.out⟩
    | true =>
      cases bo with
      | false =>
        have HR : Hid (b = false) := by show _ = _; rw [HV.out]; simp [*]
        clear HV
        go_enter Tryz.func42, Tryz.ntmps42
        go_wp2_with fail
        with_reducible refine (I.out _).mono ?_
        rintro e2 w2 ⟨rfl, hf⟩
        have F2 := Lib.hid (TB.out.1.trans hf)
        have HB2 := Lib.hid (TB.out.2.1.fr hf)
        have SB2 := Lib.hid (TB.out.2.2.fr hf)
        clear hf
        obtain ⟨c0, c1, c2, c3⟩ := HB2.out.cells
        obtain ⟨s0, s1, s2, s3⟩ := SB2.out.cells
        dsimp only at c0 c1 c2 c3 s0 s1 s2 s3
        go_wp2_with fail
        with_reducible refine (E.out _).mono ?_
        rintro e2 w3 ⟨rfl, rfl⟩
        go_wp2_with fail
        with_reducible refine (O.out _).mono ?_
        rintro e2 w3 ⟨rfl, rfl⟩
        go_wp2
        go_ret
        exact ⟨by rw [HR.out]; rfl, F2.out⟩
      | true =>
        by_cases ho : 0 < xo
        · cases bl with
          | false =>
            have HR : Hid (b = false) := by show _ = _; rw [HV.out]; simp [*]
            clear HV
            go_enter Tryz.func42, Tryz.ntmps42
            go_wp2_with fail
            with_reducible refine (I.out _).mono ?_
            rintro e2 w2 ⟨rfl, hf⟩
            have F2 := Lib.hid (TB.out.1.trans hf)
            have HB2 := Lib.hid (TB.out.2.1.fr hf)
            have SB2 := Lib.hid (TB.out.2.2.fr hf)
            clear hf
            obtain ⟨c0, c1, c2, c3⟩ := HB2.out.cells
            obtain ⟨s0, s1, s2, s3⟩ := SB2.out.cells
            dsimp only at c0 c1 c2 c3 s0 s1 s2 s3
            go_wp2_with fail
            with_reducible refine (E.out _).mono ?_
            rintro e2 w3 ⟨rfl, rfl⟩
            go_wp2_with fail
            with_reducible refine (O.out _).mono ?_
            rintro e2 w3 ⟨rfl, rfl⟩
            go_wp2_with fail
            with_reducible refine (L.out _).mono ?_
            rintro e2 w3 ⟨rfl, hf⟩
            have F3 := Lib.hid (F2.out.trans hf)
            have SB3 := Lib.hid (SB2.out.fr hf)
            clear hf s0 s1 s2 s3 c0 c1 c2 c3
            obtain ⟨s0, s1, s2, s3⟩ := SB3.out.cells
            dsimp only at s0 s1 s2 s3
            go_wp2
            go_ret
            exact ⟨by rw [HR.out]; rfl, F3.out⟩
          | true =>
            cases xr with
            | false =>
              have HR : Hid (b = true) := by show _ = _; rw [HV.out]; simp [*]
              clear HV
              go_enter Tryz.func42, Tryz.ntmps42
              go_wp2_with fail
              with_reducible refine (I.out _).mono ?_
              rintro e2 w2 ⟨rfl, hf⟩
              have F2 := Lib.hid (TB.out.1.trans hf)
              have HB2 := Lib.hid (TB.out.2.1.fr hf)
              have SB2 := Lib.hid (TB.out.2.2.fr hf)
              clear hf
              obtain ⟨c0, c1, c2, c3⟩ := HB2.out.cells
              obtain ⟨s0, s1, s2, s3⟩ := SB2.out.cells
              dsimp only at c0 c1 c2 c3 s0 s1 s2 s3
              go_wp2_with fail
              with_reducible refine (E.out _).mono ?_
              rintro e2 w3 ⟨rfl, rfl⟩
              go_wp2_with fail
              with_reducible refine (O.out _).mono ?_
              rintro e2 w3 ⟨rfl, rfl⟩
              go_wp2_with fail
              with_reducible refine (L.out _).mono ?_
              rintro e2 w3 ⟨rfl, hf⟩
              have F3 := Lib.hid (F2.out.trans hf)
              have SB3 := Lib.hid (SB2.out.fr hf)
              clear hf s0 s1 s2 s3 c0 c1 c2 c3
              obtain ⟨s0, s1, s2, s3⟩ := SB3.out.cells
              dsimp only at s0 s1 s2 s3
              go_wp2
              go_ret
              exact ⟨by rw [HR.out]; rfl, F3.out⟩
            | true =>
              have HR : Hid (b = false) := by show _ = _; rw [HV.out]; simp [*]
              clear HV
              go_enter Tryz.func42, Tryz.ntmps42
              go_wp2_with fail
              with_reducible refine (I.out _).mono ?_
              rintro e2 w2 ⟨rfl, hf⟩
              have F2 := Lib.hid (TB.out.1.trans hf)
              have HB2 := Lib.hid (TB.out.2.1.fr hf)
              have SB2 := Lib.hid (TB.out.2.2.fr hf)
              clear hf
              obtain ⟨c0, c1, c2, c3⟩ := HB2.out.cells
              obtain ⟨s0, s1, s2, s3⟩ := SB2.out.cells
              dsimp only at c0 c1 c2 c3 s0 s1 s2 s3
              go_wp2_with fail
              with_reducible refine (E.out _).mono ?_
              rintro e2 w3 ⟨rfl, rfl⟩
              go_wp2_with fail
              with_reducible refine (O.out _).mono ?_
              rintro e2 w3 ⟨rfl, rfl⟩
              go_wp2_with fail
              with_reducible refine (L.out _).mono ?_
              rintro e2 w3 ⟨rfl, hf⟩
              have F3 := Lib.hid (F2.out.trans hf)
              have SB3 := Lib.hid (SB2.out.fr hf)
              clear hf s0 s1 s2 s3 c0 c1 c2 c3
              obtain ⟨s0, s1, s2, s3⟩ := SB3.out.cells
              dsimp only at s0 s1 s2 s3
              go_wp2
              go_ret
              exact ⟨by rw [HR.out]; rfl, F3.out⟩
        · cases bl with
          | true =>
            have HR : Hid (b = true) := by show _ = _; rw [HV.out]; simp [*]
            clear HV
            go_enter Tryz.func42, Tryz.ntmps42
            go_wp2_with fail
            with_reducible refine (I.out _).mono ?_
            rintro e2 w2 ⟨rfl, hf⟩
            have F2 := Lib.hid (TB.out.1.trans hf)
            have HB2 := Lib.hid (TB.out.2.1.fr hf)
            have SB2 := Lib.hid (TB.out.2.2.fr hf)
            clear hf
            obtain ⟨c0, c1, c2, c3⟩ := HB2.out.cells
            obtain ⟨s0, s1, s2, s3⟩ := SB2.out.cells
            dsimp only at c0 c1 c2 c3 s0 s1 s2 s3
            go_wp2_with fail
            with_reducible refine (E.out _).mono ?_
            rintro e2 w3 ⟨rfl, rfl⟩
            go_wp2_with fail
            with_reducible refine (O.out _).mono ?_
            rintro e2 w3 ⟨rfl, rfl⟩
            go_wp2_with fail
            with_reducible refine (L.out _).mono ?_
            rintro e2 w3 ⟨rfl, hf⟩
            have F3 := Lib.hid (F2.out.trans hf)
            have SB3 := Lib.hid (SB2.out.fr hf)
            clear hf s0 s1 s2 s3 c0 c1 c2 c3
            obtain ⟨s0, s1, s2, s3⟩ := SB3.out.cells
            dsimp only at s0 s1 s2 s3
            go_wp2
            go_ret
            exact ⟨by rw [HR.out]; rfl, F3.out⟩
          | false =>
            by_cases he : xe = 0
            · subst he
              have hen : ((0 : Int) != 0) = false := by decide
              have HR : Hid (b = xr) := by show _ = _; rw [HV.out]; simp [*]
              clear HV
              go_enter Tryz.func42, Tryz.ntmps42
              go_wp2_with fail
              with_reducible refine (I.out _).mono ?_
              rintro e2 w2 ⟨rfl, hf⟩
              have F2 := Lib.hid (TB.out.1.trans hf)
              have HB2 := Lib.hid (TB.out.2.1.fr hf)
              have SB2 := Lib.hid (TB.out.2.2.fr hf)
              clear hf
              obtain ⟨c0, c1, c2, c3⟩ := HB2.out.cells
              obtain ⟨s0, s1, s2, s3⟩ := SB2.out.cells
              dsimp only at c0 c1 c2 c3 s0 s1 s2 s3
              go_wp2_with fail
              with_reducible refine (E.out _).mono ?_
              rintro e2 w3 ⟨rfl, rfl⟩
              go_wp2_with fail
              with_reducible refine (O.out _).mono ?_
              rintro e2 w3 ⟨rfl, rfl⟩
              go_wp2_with fail
              with_reducible refine (L.out _).mono ?_
              rintro e2 w3 ⟨rfl, hf⟩
              have F3 := Lib.hid (F2.out.trans hf)
              have SB3 := Lib.hid (SB2.out.fr hf)
              clear hf s0 s1 s2 s3 c0 c1 c2 c3
              obtain ⟨s0, s1, s2, s3⟩ := SB3.out.cells
              dsimp only at s0 s1 s2 s3
              go_wp2
              go_ret
              exact ⟨by rw [HR.out]; rfl, F3.out⟩
            · have hen : (xe != 0) = true := by simpa using he
              have HR : Hid (b = true) := by show _ = _; rw [HV.out]; simp [*]
              clear HV
              go_enter Tryz.func42, Tryz.ntmps42
              go_wp2_with fail
              with_reducible refine (I.out _).mono ?_
              rintro e2 w2 ⟨rfl, hf⟩
              have F2 := Lib.hid (TB.out.1.trans hf)
              have HB2 := Lib.hid (TB.out.2.1.fr hf)
              have SB2 := Lib.hid (TB.out.2.2.fr hf)
              clear hf
              obtain ⟨c0, c1, c2, c3⟩ := HB2.out.cells
              obtain ⟨s0, s1, s2, s3⟩ := SB2.out.cells
              dsimp only at c0 c1 c2 c3 s0 s1 s2 s3
              go_wp2_with fail
              with_reducible refine (E.out _).mono ?_
              rintro e2 w3 ⟨rfl, rfl⟩
              go_wp2_with fail
              with_reducible refine (O.out _).mono ?_
              rintro e2 w3 ⟨rfl, rfl⟩
              go_wp2_with fail
              with_reducible refine (L.out _).mono ?_
              rintro e2 w3 ⟨rfl, hf⟩
              have F3 := Lib.hid (F2.out.trans hf)
              have SB3 := Lib.hid (SB2.out.fr hf)
              clear hf s0 s1 s2 s3 c0 c1 c2 c3
              obtain ⟨s0, s1, s2, s3⟩ := SB3.out.cells
              dsimp only at s0 s1 s2 s3
              go_wp2
              go_ret
              exact ⟨by rw [HR.out]; rfl, F3.out⟩
end Go.Proofs.YtdmomnhacijmpaaGreatDoor

namespace Go.Proofs.YtdmomnhacijmpaaGreatDoor

theorem top_mod (h : Ho) : h.top % h.s = 0 := by unfold Ho.top; exact Int.mul_emod_left _ _
theorem top_div {h : Ho} (k : h.ok) : h.top / h.s = h.f - 1 := by
  unfold Ho.top
  exact Int.mul_ediv_cancel _ (by have := k.2.2.1.1; omega)
theorem lev_zero {h : Ho} (k : h.ok) : h.lev 0 := ⟨⟨k, by omega, by have := Ho.range k; omega⟩, Int.zero_emod _⟩
theorem lev_top {h : Ho} (k : h.ok) : h.lev h.top := ⟨⟨k, by have := Ho.range k; omega, by omega⟩, top_mod h⟩
theorem flr_in {h : Ho} (k : h.ok) {p : Int} (h0 : 0 ≤ p) (h1 : p ≤ h.top) : h.flr p = p / h.s := by
  rw [Ho.flr, if_pos k, show min (max p 0) h.top = p by omega]
theorem flr_top {h : Ho} (k : h.ok) : h.flr h.top = h.f - 1 := by
  rw [flr_in k (by have := Ho.range k; omega) (by omega), top_div k]
theorem flr_facts {h : Ho} (k : h.ok) {p : Int} (h0 : 0 ≤ p) (h1 : p ≤ h.top) :
    0 ≤ h.flr p ∧ h.flr p < h.f ∧ (0 ≤ h.flr p * h.s ∧ h.flr p * h.s ≤ 504) ∧ (0 ≤ p - h.flr p * h.s ∧ p - h.flr p * h.s < h.s) ∧ (h.lev p ↔ h.flr p * h.s = p) := by
  rw [flr_in k h0 h1]
  have hs := k.2.2.1.1
  have a := Int.ediv_nonneg h0 (show 0 ≤ h.s by omega)
  have b : p / h.s ≤ h.top / h.s := Int.ediv_le_ediv (by omega) h1
  rw [top_div k] at b
  have c := Int.mul_ediv_add_emod p h.s
  rw [Int.mul_comm] at c
  have d := Int.emod_nonneg p (show h.s ≠ 0 by omega)
  have e := Int.emod_lt_of_pos p (show 0 < h.s by omega)
  have g : 0 ≤ p / h.s * h.s := Int.mul_nonneg a (by omega)
  have r := Ho.range k
  refine ⟨a, by omega, ⟨g, by omega⟩, ⟨by omega, by omega⟩, fun q => ?_, fun q => ⟨⟨k, h0, h1⟩, by omega⟩⟩
  have := q.2
  omega
theorem sgn_small {m : Int} (h0 : -1 ≤ m) (h1 : m ≤ 1) : sgn m = m := by
  unfold sgn
  split
  · omega
  · split <;> omega
end Go.Proofs.YtdmomnhacijmpaaGreatDoor
