/- A house, where a car is: within, Valid, Top, inside, Level. -/
import Derived.Test.YtgcgbiaigbblkaaDoorBase
import Derived.Test.YtgcgbiaigbblkaaDoorDet
import Derived.Deep.RegionHeld3
import Derived.Lib.MinMax
namespace Go.Proofs.YtgcgbiaigbblkaaDoor
open Go.RowKit

/-- A house by value. -/
structure Ho where
  c : Int
  f : Int
  s : Int
  d : Int
abbrev Ho.v (h : Ho) : Value := .agg #[.int .i64 h.c, .int .i64 h.f, .int .i64 h.s, .int .i64 h.d]
def Ho.ok (h : Ho) : Prop := (1 ≤ h.c ∧ h.c ≤ 16) ∧ (2 ≤ h.f ∧ h.f ≤ 64) ∧ (1 ≤ h.s ∧ h.s ≤ 8) ∧ (1 ≤ h.d ∧ h.d ≤ 8)
instance (h : Ho) : Decidable h.ok := by unfold Ho.ok; infer_instance
def Ho.top (h : Ho) : Int := (h.f - 1) * h.s
theorem top_range (f s : Int) (h1 : 2 ≤ f) (h2 : f ≤ 64) (h3 : 1 ≤ s) (h4 : s ≤ 8) : 1 ≤ (f - 1) * s ∧ (f - 1) * s ≤ 504 := by
  have a : (f - 1) * 1 ≤ (f - 1) * s := Int.mul_le_mul_of_nonneg_left h3 (by omega)
  have b : (f - 1) * s ≤ (f - 1) * 8 := Int.mul_le_mul_of_nonneg_left h4 (by omega)
  omega
theorem Ho.range {h : Ho} (k : h.ok) : 1 ≤ h.top ∧ h.top ≤ 504 := top_range _ _ k.2.1.1 k.2.1.2 k.2.2.1.1 k.2.2.1.2
/-- Is a place within the house? -/
def Ho.has (h : Ho) (p : Int) : Prop := h.ok ∧ 0 ≤ p ∧ p ≤ h.top
instance (h : Ho) (p : Int) : Decidable (h.has p) := by unfold Ho.has; infer_instance
/-- Is it a floor's? -/
def Ho.lev (h : Ho) (p : Int) : Prop := h.has p ∧ p % h.s = 0
instance (h : Ho) (p : Int) : Decidable (h.lev p) := by unfold Ho.lev; infer_instance

theorem hrow {w : World} {g : Nat} {a b c d : Value} {T : TypeId} (h : w.heap[g]? = some (.cells #[a, b, c, d] T (0, 0))) :
    w.cell? ⟨g, 0, none⟩ = some a ∧ w.cell? ⟨g, 1, none⟩ = some b ∧ w.cell? ⟨g, 2, none⟩ = some c ∧ w.cell? ⟨g, 3, none⟩ = some d :=
  ⟨by rw [cell_of_row w g 0 _ _ _ h]; rfl, by rw [cell_of_row w g 1 _ _ _ h]; rfl, by rw [cell_of_row w g 2 _ _ _ h]; rfl, by rw [cell_of_row w g 3 _ _ _ h]; rfl⟩
/-- The box of a house. -/
abbrev Ho.box (h : Ho) : Obj := .cells #[.int .i64 h.c, .int .i64 h.f, .int .i64 h.s, .int .i64 h.d] 23
def HB (w : World) (b : Nat) (h : Ho) : Prop := w.heap[b]? = some h.box
theorem HB.fr {w w' : World} {b : Nat} {h : Ho} (k : HB w b h) (hf : Fr w w' []) : HB w' b h := hf.heap k (by simp)
theorem HB.new (w : World) (h : Ho) : HB (w.alloc h.box) w.heap.size h := heap_alloc_new w _
theorem HB.cells {w : World} {b : Nat} {h : Ho} (k : HB w b h) : w.cell? ⟨b, 0, none⟩ = some (.int .i64 h.c) ∧ w.cell? ⟨b, 1, none⟩ = some (.int .i64 h.f) ∧ w.cell? ⟨b, 2, none⟩ = some (.int .i64 h.s) ∧ w.cell? ⟨b, 3, none⟩ = some (.int .i64 h.d) := hrow k

theorem within_any (n l m : Int) (w : World) (b : Bool) (hb : b = decide (l ≤ n ∧ n ≤ m)) : Calls Tryd.prog 26 #[.int .i64 n, .int .i64 l, .int .i64 m] w fun e w' => e = .returned (.bool b) ∧ w' = w := by
  by_cases h1 : l ≤ n
  · by_cases h2 : n ≤ m
    · have HB : Hid (b = true) := by show _ = _; rw [hb]; simp [h1, h2]
      clear hb
      go_enter Tryd.func26, Tryd.ntmps26
      go_wp2
      go_ret
      exact ⟨by rw [HB.out]; rfl, rfl⟩
    · have HB : Hid (b = false) := by show _ = _; rw [hb]; simp [h1, h2]
      clear hb
      go_enter Tryd.func26, Tryd.ntmps26
      go_wp2
      go_ret
      exact ⟨by rw [HB.out]; rfl, rfl⟩
  · have HB : Hid (b = false) := by show _ = _; rw [hb]; simp [h1]
    clear hb
    go_enter Tryd.func26, Tryd.ntmps26
    go_wp2
    go_ret
    exact ⟨by rw [HB.out]; rfl, rfl⟩

set_option maxRecDepth 100000 in
theorem valid_any (h : Ho) (w : World) (b : Bool) (hb : b = decide h.ok) : Calls Tryd.prog 12 #[h.v] w fun e w' => e = .returned (.bool b) ∧ Fr w w' [] := by
  obtain ⟨c, f, s, d⟩ := h
  have HB := Lib.hid (show b = decide ((1 ≤ c ∧ c ≤ 16) ∧ (2 ≤ f ∧ f ≤ 64) ∧ (1 ≤ s ∧ s ≤ 8) ∧ (1 ≤ d ∧ d ≤ 8)) from hb)
  clear hb
  have FA := Lib.hid (Fr.alloc w (Ho.box ⟨c, f, s, d⟩) [])
  dsimp only [Ho.v, Ho.box] at *
  obtain ⟨bc, ec⟩ : ∃ x, x = decide (1 ≤ c ∧ c ≤ 16) := ⟨_, rfl⟩
  obtain ⟨bf, ef⟩ : ∃ x, x = decide (2 ≤ f ∧ f ≤ 64) := ⟨_, rfl⟩
  obtain ⟨bs, es⟩ : ∃ x, x = decide (1 ≤ s ∧ s ≤ 8) := ⟨_, rfl⟩
  obtain ⟨bd, ed⟩ : ∃ x, x = decide (1 ≤ d ∧ d ≤ 8) := ⟨_, rfl⟩
  have HR : Hid (b = (bc && (bf && (bs && bd)))) := by show _ = _; rw [HB.out, ec, ef, es, ed]; simp only [Bool.decide_and]
  have WC := Lib.hid (fun W => within_any c 1 16 W bc ec)
  have WF := Lib.hid (fun W => within_any f 2 64 W bf ef)
  have WS := Lib.hid (fun W => within_any s 1 8 W bs es)
  have WD := Lib.hid (fun W => within_any d 1 8 W bd ed)
  clear ec ef es ed HB
  cases bc with
  | false =>
    go_enter Tryd.func12, Tryd.ntmps12
    go_wp2_with fail
    with_reducible refine (WC.out _).mono ?_
    rintro e w' ⟨rfl, rfl⟩
    go_wp2
    go_ret
    exact ⟨by rw [HR.out]; rfl, FA.out⟩
  | true =>
    cases bf with
    | false =>
      go_enter Tryd.func12, Tryd.ntmps12
      go_wp2_with fail
      with_reducible refine (WC.out _).mono ?_
      rintro e w' ⟨rfl, rfl⟩
      go_wp2_with fail
      with_reducible refine (WF.out _).mono ?_
      rintro e w' ⟨rfl, rfl⟩
      go_wp2
      go_ret
      exact ⟨by rw [HR.out]; rfl, FA.out⟩
    | true =>
      cases bs with
      | false =>
        go_enter Tryd.func12, Tryd.ntmps12
        go_wp2_with fail
        with_reducible refine (WC.out _).mono ?_
        rintro e w' ⟨rfl, rfl⟩
        go_wp2_with fail
        with_reducible refine (WF.out _).mono ?_
        rintro e w' ⟨rfl, rfl⟩
        go_wp2_with fail
        with_reducible refine (WS.out _).mono ?_
        rintro e w' ⟨rfl, rfl⟩
        go_wp2
        go_ret
        exact ⟨by rw [HR.out]; rfl, FA.out⟩
      | true =>
        go_enter Tryd.func12, Tryd.ntmps12
        go_wp2_with fail
        with_reducible refine (WC.out _).mono ?_
        rintro e w' ⟨rfl, rfl⟩
        go_wp2_with fail
        with_reducible refine (WF.out _).mono ?_
        rintro e w' ⟨rfl, rfl⟩
        go_wp2_with fail
        with_reducible refine (WS.out _).mono ?_
        rintro e w' ⟨rfl, rfl⟩
        go_wp2_with fail
        with_reducible refine (WD.out _).mono ?_
        rintro e w' ⟨rfl, rfl⟩
        go_wp2
        go_ret
        exact ⟨by rw [HR.out]; rfl, FA.out⟩

/-- The last floor's place; 0, if it is not valid. -/
def Ho.topR (h : Ho) : Int := if h.ok then h.top else 0
set_option maxRecDepth 100000 in
theorem top_any (h : Ho) (w : World) (r : Int) (hr : r = h.topR) : Calls Tryd.prog 15 #[h.v] w fun e w' => e = .returned (.int .i64 r) ∧ Fr w w' [] := by
  have FA := Lib.hid (Fr.alloc w h.box [])
  have HB := Lib.hid (HB.new w h)
  by_cases hk : h.ok
  · have HR : Hid (r = h.top) := by show _ = _; rw [hr, Ho.topR, if_pos hk]
    have V := Lib.hid (fun W => valid_any h W true (decide_eq_true hk).symm)
    have ha := Ho.range hk
    obtain ⟨_, ⟨_, _⟩, ⟨_, _⟩, _⟩ := hk
    clear hr
    obtain ⟨c, f, s, d⟩ := h
    dsimp only [Ho.v, Ho.box, Ho.top] at *
    go_enter Tryd.func15, Tryd.ntmps15
    go_wp2_with fail
    with_reducible refine (V.out _).mono ?_
    rintro e w2 ⟨rfl, hf⟩
    obtain ⟨c0, c1, c2, c3⟩ := (HB.out.fr hf).cells
    have F2 := Lib.hid (FA.out.trans hf)
    clear hf
    dsimp only at c0 c1 c2 c3
    go_wp2
    go_ret
    exact ⟨by rw [HR.out]; rfl, F2.out⟩
  · have HR : Hid (r = 0) := by show _ = _; rw [hr, Ho.topR, if_neg hk]
    have V := Lib.hid (fun W => valid_any h W false (decide_eq_false hk).symm)
    clear hr hk
    obtain ⟨c, f, s, d⟩ := h
    dsimp only [Ho.v, Ho.box, Ho.top] at *
    go_enter Tryd.func15, Tryd.ntmps15
    go_wp2_with fail
    with_reducible refine (V.out _).mono ?_
    rintro e w2 ⟨rfl, hf⟩
    go_wp2
    go_ret
    exact ⟨by rw [HR.out]; rfl, FA.out.trans hf⟩

set_option maxRecDepth 100000 in
theorem inside_any (h : Ho) (p : Int) (w : World) (b : Bool) (hb : b = decide (h.has p)) : Calls Tryd.prog 37 #[h.v, .int .i64 p] w fun e w' => e = .returned (.bool b) ∧ Fr w w' [] := by
  have FA := Lib.hid (Fr.alloc w h.box [])
  have HB := Lib.hid (HB.new w h)
  by_cases hk : h.ok
  · have V := Lib.hid (fun W => valid_any h W true (decide_eq_true hk).symm)
    have T := Lib.hid (fun W => top_any h W h.top (by rw [Ho.topR, if_pos hk]))
    have HI := Lib.hid (fun W => within_any p 0 h.top W b (by rw [hb]; simp [Ho.has, hk]))
    clear hb hk
    obtain ⟨t, ht⟩ : ∃ t, t = h.top := ⟨_, rfl⟩
    rw [← ht] at T HI
    clear ht
    obtain ⟨c, f, s, d⟩ := h
    dsimp only [Ho.v, Ho.box] at *
    go_enter Tryd.func37, Tryd.ntmps37
    go_wp2_with fail
    with_reducible refine (V.out _).mono ?_
    rintro e w2 ⟨rfl, hf⟩
    obtain ⟨c0, c1, c2, c3⟩ := (HB.out.fr hf).cells
    have F2 := Lib.hid (FA.out.trans hf)
    clear hf
    dsimp only at c0 c1 c2 c3
    go_wp2_with fail
    with_reducible refine (T.out _).mono ?_
    rintro e w3 ⟨rfl, hf⟩
    go_wp2_with fail
    with_reducible refine (HI.out _).mono ?_
    rintro e w4 ⟨rfl, rfl⟩
    go_wp2
    go_ret
    exact ⟨rfl, F2.out.trans hf⟩
  · have V := Lib.hid (fun W => valid_any h W false (decide_eq_false hk).symm)
    have HR : Hid (b = false) := by show _ = _; rw [hb]; simp [Ho.has, hk]
    clear hb hk
    obtain ⟨c, f, s, d⟩ := h
    dsimp only [Ho.v, Ho.box] at *
    go_enter Tryd.func37, Tryd.ntmps37
    go_wp2_with fail
    with_reducible refine (V.out _).mono ?_
    rintro e w2 ⟨rfl, hf⟩
    go_wp2
    go_ret
    exact ⟨by rw [HR.out]; rfl, FA.out.trans hf⟩
theorem tmod_zero {p s : Int} (h : 0 ≤ p) : p.tmod s = p % s := Int.tmod_eq_emod_of_nonneg h
set_option maxRecDepth 100000 in
theorem level_any (h : Ho) (p : Int) (w : World) (b : Bool) (hb : b = decide (h.lev p)) : Calls Tryd.prog 21 #[h.v, .int .i64 p] w fun e w' => e = .returned (.bool b) ∧ Fr w w' [] := by
  have FA := Lib.hid (Fr.alloc w h.box [])
  have HB := Lib.hid (HB.new w h)
  by_cases hk : h.has p
  · have I := Lib.hid (fun W => inside_any h p W true (decide_eq_true hk).symm)
    have HM := tmod_zero (s := h.s) hk.2.1
    have hs := hk.1.2.2.1.1
    by_cases hm : p % h.s = 0
    · have HR : Hid (b = true) := by show _ = _; rw [hb]; simp [Ho.lev, hk, hm]
      have hm' : p.tmod h.s = 0 := by rw [HM]; exact hm
      clear hb hk HM hm
      obtain ⟨c, f, s, d⟩ := h
      dsimp only [Ho.v, Ho.box] at *
      have hn : ¬ s = 0 := by omega
      go_enter Tryd.func21, Tryd.ntmps21
      go_wp2_with fail
      with_reducible refine (I.out _).mono ?_
      rintro e w2 ⟨rfl, hf⟩
      obtain ⟨c0, c1, c2, c3⟩ := (HB.out.fr hf).cells
      have F2 := Lib.hid (FA.out.trans hf)
      clear hf
      dsimp only at c0 c1 c2 c3
      go_wp2
      go_ret
      exact ⟨by rw [HR.out]; rfl, F2.out⟩
    · have HR : Hid (b = false) := by show _ = _; rw [hb]; simp [Ho.lev, hm]
      have hm' : (p.tmod h.s == 0) = false := by rw [HM]; simpa using hm
      clear hb hk HM hm
      obtain ⟨c, f, s, d⟩ := h
      dsimp only [Ho.v, Ho.box] at *
      have hn : ¬ s = 0 := by omega
      go_enter Tryd.func21, Tryd.ntmps21
      go_wp2_with fail
      with_reducible refine (I.out _).mono ?_
      rintro e w2 ⟨rfl, hf⟩
      obtain ⟨c0, c1, c2, c3⟩ := (HB.out.fr hf).cells
      have F2 := Lib.hid (FA.out.trans hf)
      clear hf
      dsimp only at c0 c1 c2 c3
      go_wp2
      go_ret
      exact ⟨by rw [HR.out]; rfl, F2.out⟩
  · have I := Lib.hid (fun W => inside_any h p W false (decide_eq_false hk).symm)
    have HR : Hid (b = false) := by show _ = _; rw [hb]; simp [Ho.lev, hk]
    clear hb hk
    obtain ⟨c, f, s, d⟩ := h
    dsimp only [Ho.v, Ho.box] at *
    go_enter Tryd.func21, Tryd.ntmps21
    go_wp2_with fail
    with_reducible refine (I.out _).mono ?_
    rintro e w2 ⟨rfl, hf⟩
    go_wp2
    go_ret
    exact ⟨by rw [HR.out]; rfl, FA.out.trans hf⟩
end Go.Proofs.YtgcgbiaigbblkaaDoor
