/- Whether two entries, two lists of entries are the same: the program's and the document's. -/
import Derived.Test.YtpeocdcciecpoaaDoorFSame
namespace Go.Proofs.YtpeocdcciecpoaaDoor
open Go.RowKit Fm

theorem eqLatch (W : World) (a1 a2 a3 b1 b2 b3 : Int) (r : Bool) (hr : r = decide (a1 = b1 ∧ a2 = b2 ∧ a3 = b3)) :
    (binOp .eql 58 (.agg #[.int .i64 a1, .int .i64 a2, .int .i64 a3]) (.agg #[.int .i64 b1, .int .i64 b2, .int .i64 b3])).run Tryd.prog W = .ok (.bool r) W := by
  have hcase : (a1 == b1) = false ∨ ((a1 == b1) = true ∧ (a2 == b2) = false) ∨ ((a1 == b1) = true ∧ (a2 == b2) = true ∧ (a3 == b3) = false) ∨ ((a1 == b1) = true ∧ (a2 == b2) = true ∧ (a3 == b3) = true) := by
    cases (a1 == b1) <;> cases (a2 == b2) <;> cases (a3 == b3) <;> simp
  rcases hcase with e1 | ⟨e1, e2⟩ | ⟨e1, e2, e3⟩ | ⟨e1, e2, e3⟩
  · have : r = false := by rw [hr, decide_eq_false_iff_not]; rintro ⟨rfl, _⟩; simp at e1
    subst this; clear hr; go_simp
  · have : r = false := by rw [hr, decide_eq_false_iff_not]; rintro ⟨_, rfl, _⟩; simp at e2
    subst this; clear hr; go_simp
  · have : r = false := by rw [hr, decide_eq_false_iff_not]; rintro ⟨_, _, rfl⟩; simp at e3
    subst this; clear hr; go_simp
  · have : r = true := by rw [hr, decide_eq_true_iff]; simp at e1 e2 e3; exact ⟨e1, e2, e3⟩
    subst this; clear hr; go_simp

theorem en_ne {e f : En} {b : Bool} (hb : b = true ↔ e = f) (h : ¬ e = f) : b = false := by
  cases b with
  | false => rfl
  | true => exact absurd (hb.1 rfl) h

set_option maxRecDepth 100000 in
theorem sameEntry_any (e f : En) (v1 v2 : Value) (b : Bool) (hb : b = true ↔ e = f) (w : World) (h1 : HB w v1 e.bs) (h2 : HB w v2 f.bs) :
    Calls Tryd.prog 67 #[enV e v1, enV f v2] w fun e w' => e = .returned (.bool b) ∧ Fr w w' [] := by
  obtain ⟨a1, a2, a3, l, a4⟩ := e
  obtain ⟨b1, b2, b3, m, b4⟩ := f
  unfold enV
  simp only at h1 h2 ⊢
  have H1 := Lib.hid h1
  have H2 := Lib.hid h2
  clear h1 h2
  by_cases hL : a1 = b1 ∧ a2 = b2 ∧ a3 = b3
  · have hreg := fun W => eqLatch W a1 a2 a3 b1 b2 b3 true (yes hL)
    by_cases hA : a4 = b4
    · have HB2 : Hid (b = true ↔ l = m) := by
        show _ ↔ _
        obtain ⟨rfl, rfl, rfl⟩ := hL
        subst hA
        rw [hb]
        exact ⟨fun h => by cases h; rfl, fun h => by rw [h]⟩
      have e1 : (a4 == b4) = true := by simp [hA]
      clear hL hA hb
      go_enter Tryd.func67, Tryd.ntmps67
      go_wp2_with fail
      refine (eqBids_any _ l _ m _ (H1.out.keep ((Fr.alloc _ _ _).trans (Fr.alloc _ _ _))) (H2.out.keep ((Fr.alloc _ _ _).trans (Fr.alloc _ _ _))) b HB2.out).mono ?_
      rintro e w1 ⟨rfl, hf⟩
      go_wp2
      go_ret
      exact ⟨rfl, ((Fr.alloc _ _ _).trans (Fr.alloc _ _ _)).trans hf⟩
    · have e1 : (a4 == b4) = false := by simp [hA]
      obtain rfl := en_ne hb (fun h => hA (by cases h; rfl))
      clear hL hA hb
      go_enter Tryd.func67, Tryd.ntmps67
      go_wp2
      go_ret
      exact ⟨rfl, (Fr.alloc _ _ _).trans (Fr.alloc _ _ _)⟩
  · have hreg := fun W => eqLatch W a1 a2 a3 b1 b2 b3 false (no hL)
    obtain rfl := en_ne hb (fun h => hL (by cases h; exact ⟨rfl, rfl, rfl⟩))
    clear hL hb
    go_enter Tryd.func67, Tryd.ntmps67
    go_wp2
    go_ret
    exact ⟨rfl, (Fr.alloc _ _ _).trans (Fr.alloc _ _ _)⟩

theorem sameCall_any (a1 a2 b1 b2 : Int) (b : Bool) (hb : b = decide (a1 = b1 ∧ a2 = b2)) (w : World) : Calls Tryd.prog 95 #[.agg #[.int .i64 a1, .int .i64 a2], .agg #[.int .i64 b1, .int .i64 b2]] w fun e w' => e = .returned (.bool b) ∧ Fr w w' [] := by
  have hcase : (a1 = b1 ∧ a2 = b2 ∧ b = true) ∨ (a1 = b1 ∧ ¬ a2 = b2 ∧ b = false) ∨ (¬ a1 = b1 ∧ b = false) := by
    rcases bcase hb with ⟨h, e⟩ | ⟨h, e⟩ <;> subst e <;> simp only [and_true, reduceCtorEq, and_false, or_false, false_or] <;> omega
  clear hb
  rcases hcase with ⟨h1, h2, rfl⟩ | ⟨h1, h2, rfl⟩ | ⟨h1, rfl⟩
  all_goals
    go_enter Tryd.func95, Tryd.ntmps95
    go_wp2
    go_ret
    refine ⟨?_, (Fr.alloc _ _ _).trans (Fr.alloc _ _ _)⟩
    simp [*]
theorem sameEpoch_any (a1 a2 b1 b2 : Int) (b : Bool) (hb : b = decide (a1 = b1 ∧ a2 = b2)) (w : World) : Calls Tryd.prog 51 #[.agg #[.int .i64 a1, .int .i64 a2], .agg #[.int .i64 b1, .int .i64 b2]] w fun e w' => e = .returned (.bool b) ∧ Fr w w' [] := by
  have hcase : (a1 = b1 ∧ a2 = b2 ∧ b = true) ∨ (a1 = b1 ∧ ¬ a2 = b2 ∧ b = false) ∨ (¬ a1 = b1 ∧ b = false) := by
    rcases bcase hb with ⟨h, e⟩ | ⟨h, e⟩ <;> subst e <;> simp only [and_true, reduceCtorEq, and_false, or_false, false_or] <;> omega
  clear hb
  rcases hcase with ⟨h1, h2, rfl⟩ | ⟨h1, h2, rfl⟩ | ⟨h1, rfl⟩
  all_goals
    go_enter Tryd.func51, Tryd.ntmps51
    go_wp2
    go_ret
    refine ⟨?_, (Fr.alloc _ _ _).trans (Fr.alloc _ _ _)⟩
    simp [*]
theorem sameLatch_any (a1 a2 a3 b1 b2 b3 : Int) (b : Bool) (hb : b = decide (a1 = b1 ∧ a2 = b2 ∧ a3 = b3)) (w : World) : Calls Tryd.prog 91 #[.agg #[.int .i64 a1, .int .i64 a2, .int .i64 a3], .agg #[.int .i64 b1, .int .i64 b2, .int .i64 b3]] w fun e w' => e = .returned (.bool b) ∧ Fr w w' [] := by
  by_cases hL : a1 = b1 ∧ a2 = b2
  · have HC := Lib.hid (yes hL)
    have e1 : (a3 == b3) = b := by
      rcases bcase hb with ⟨h, e⟩ | ⟨h, e⟩
      · subst e; simp [h.2.2]
      · subst e; simp; intro q; exact h ⟨hL.1, hL.2, q⟩
    have HZ := Lib.hid (two_boxes w (.cells #[.int .i64 a1, .int .i64 a2, .int .i64 a3] 58) (.cells #[.int .i64 b1, .int .i64 b2, .int .i64 b3] 58))
    clear hL hb
    cases b
    all_goals
      go_enter Tryd.func91, Tryd.ntmps91
      go_wp2_with fail
      refine (sameCall_any _ _ _ _ _ HC.out _).mono ?_
      rintro e w1 ⟨rfl, hf⟩
      have k1 := hf.heap HZ.out.1 (by simp)
      have k2 := hf.heap HZ.out.2 (by simp)
      have c1 : w1.cell? ⟨w.heap.size, 2, none⟩ = some (.int .i64 a3) := by rw [cell_of_row _ _ 2 _ _ _ k1]; rfl
      have c2 : w1.cell? ⟨w.heap.size + 1, 2, none⟩ = some (.int .i64 b3) := by rw [cell_of_row _ _ 2 _ _ _ k2]; rfl
      clear k1 k2
      go_wp2
      go_ret
      exact ⟨rfl, ((Fr.alloc _ _ _).trans (Fr.alloc _ _ _)).trans hf⟩
  · have HC := Lib.hid (no hL)
    obtain rfl : b = false := by rw [hb, decide_eq_false_iff_not]; rintro ⟨q1, q2, _⟩; exact hL ⟨q1, q2⟩
    clear hL hb
    go_enter Tryd.func91, Tryd.ntmps91
    go_wp2_with fail
    refine (sameCall_any _ _ _ _ _ HC.out _).mono ?_
    rintro e w1 ⟨rfl, hf⟩
    go_wp2
    go_ret
    exact ⟨rfl, ((Fr.alloc _ _ _).trans (Fr.alloc _ _ _)).trans hf⟩

theorem rsameEntry_any (e f : En) (v1 v2 : Value) (b : Bool) (hb : b = true ↔ e = f) (w : World) (h1 : HB w v1 e.bs) (h2 : HB w v2 f.bs) :
    Calls Tryd.prog 78 #[enV e v1, enV f v2] w fun e w' => e = .returned (.bool b) ∧ Fr w w' [] := by
  obtain ⟨a1, a2, a3, l, a4⟩ := e
  obtain ⟨b1, b2, b3, m, b4⟩ := f
  unfold enV
  simp only at h1 h2 ⊢
  have H1 := Lib.hid h1
  have H2 := Lib.hid h2
  have HZ := Lib.hid (two_boxes w (.cells #[.int .i64 a1, .int .i64 a2, .int .i64 a3, v1, .int .i64 a4] 61) (.cells #[.int .i64 b1, .int .i64 b2, .int .i64 b3, v2, .int .i64 b4] 61))
  have HF0 := Lib.hid ((Fr.alloc w (.cells #[.int .i64 a1, .int .i64 a2, .int .i64 a3, v1, .int .i64 a4] 61) []).trans (Fr.alloc _ (.cells #[.int .i64 b1, .int .i64 b2, .int .i64 b3, v2, .int .i64 b4] 61) []))
  clear h1 h2
  by_cases hL : a1 = b1 ∧ a2 = b2 ∧ a3 = b3
  · have HC := Lib.hid (yes hL)
    by_cases hl : l = m
    · have e1 : (a4 == b4) = b := by
        obtain ⟨rfl, rfl, rfl⟩ := hL
        subst hl
        cases b with
        | true => have := hb.1 rfl; cases this; simp
        | false =>
          simp only [beq_eq_false_iff_ne]
          intro q
          subst q
          exact absurd (hb.2 rfl) (by simp)
      have HD := Lib.hid hl
      clear hL hb hl
      cases b
      all_goals
        go_enter Tryd.func78, Tryd.ntmps78
        go_wp2_with fail
        refine (sameLatch_any _ _ _ _ _ _ _ HC.out _).mono ?_
        rintro e w1 ⟨rfl, hf⟩
        have k1 := row5 (hf.heap HZ.out.1 (by simp))
        have k2 := row5 (hf.heap HZ.out.2 (by simp))
        have HF := Lib.hid hf
        clear hf
        go_wp2_with fail
        refine (rsameBids_any _ l _ m _ (H1.out.keep (HF0.out.trans HF.out)) (H2.out.keep (HF0.out.trans HF.out)) true (iyes HD.out)).mono ?_
        rintro e w2 ⟨rfl, hf2⟩
        have k1' := row5 ((HF.out.trans hf2).heap HZ.out.1 (by simp))
        have k2' := row5 ((HF.out.trans hf2).heap HZ.out.2 (by simp))
        clear k1 k2
        go_wp2
        go_ret
        exact ⟨rfl, (HF0.out.trans HF.out).trans hf2⟩
    · have HD := Lib.hid hl
      obtain rfl := en_ne hb (fun h => hl (by cases h; rfl))
      clear hL hb hl
      go_enter Tryd.func78, Tryd.ntmps78
      go_wp2_with fail
      refine (sameLatch_any _ _ _ _ _ _ _ HC.out _).mono ?_
      rintro e w1 ⟨rfl, hf⟩
      have k1 := row5 (hf.heap HZ.out.1 (by simp))
      have k2 := row5 (hf.heap HZ.out.2 (by simp))
      have HF := Lib.hid hf
      clear hf
      go_wp2_with fail
      refine (rsameBids_any _ l _ m _ (H1.out.keep (HF0.out.trans HF.out)) (H2.out.keep (HF0.out.trans HF.out)) false (ino HD.out)).mono ?_
      rintro e w2 ⟨rfl, hf2⟩
      go_wp2
      go_ret
      exact ⟨rfl, (HF0.out.trans HF.out).trans hf2⟩
  · have HC := Lib.hid (no hL)
    obtain rfl := en_ne hb (fun h => hL (by cases h; exact ⟨rfl, rfl, rfl⟩))
    clear hL hb
    go_enter Tryd.func78, Tryd.ntmps78
    go_wp2_with fail
    refine (sameLatch_any _ _ _ _ _ _ _ HC.out _).mono ?_
    rintro e w1 ⟨rfl, hf⟩
    go_wp2
    go_ret
    exact ⟨rfl, HF0.out.trans hf⟩
end Go.Proofs.YtpeocdcciecpoaaDoor
