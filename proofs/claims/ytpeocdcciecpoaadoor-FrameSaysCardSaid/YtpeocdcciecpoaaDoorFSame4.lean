/- Whether two rings, two frames are the same: the program's and the document's. -/
import Derived.Test.YtpeocdcciecpoaaDoorFSame3
namespace Go.Proofs.YtpeocdcciecpoaaDoor
open Go.RowKit Fm

theorem eqEpoch (W : World) (a1 a2 b1 b2 : Int) (r : Bool) (hr : r = decide (a1 = b1 ∧ a2 = b2)) :
    (binOp .eql 23 (.agg #[.int .i64 a1, .int .i64 a2]) (.agg #[.int .i64 b1, .int .i64 b2])).run Tryd.prog W = .ok (.bool r) W := by
  have hcase : (a1 == b1) = false ∨ ((a1 == b1) = true ∧ (a2 == b2) = false) ∨ ((a1 == b1) = true ∧ (a2 == b2) = true) := by
    cases (a1 == b1) <;> cases (a2 == b2) <;> simp
  rcases hcase with e1 | ⟨e1, e2⟩ | ⟨e1, e2⟩
  · have : r = false := by rw [hr, decide_eq_false_iff_not]; rintro ⟨rfl, _⟩; simp at e1
    subst this; clear hr; go_simp
  · have : r = false := by rw [hr, decide_eq_false_iff_not]; rintro ⟨_, rfl⟩; simp at e2
    subst this; clear hr; go_simp
  · have : r = true := by rw [hr, decide_eq_true_iff]; simp at e1 e2; exact ⟨e1, e2⟩
    subst this; clear hr; go_simp

set_option maxHeartbeats 1000000 in
set_option maxRecDepth 100000 in
theorem sameRing_any (r s : Rg) (vm ve vm' ve' : Value) (b : Bool) (hb : b = true ↔ r = s) (w : World) (hm : Holds .i64 w vm r.ms) (he : HE w ve r.es) (hm' : Holds .i64 w vm' s.ms) (he' : HE w ve' s.es) :
    Calls Tryd.prog 35 #[rgV r vm ve, rgV s vm' ve'] w fun e w' => e = .returned (.bool b) ∧ Fr w w' [] := by
  obtain ⟨a1, a2, a3, ms, es⟩ := r
  obtain ⟨b1, b2, b3, ns, fs⟩ := s
  unfold rgV
  simp only at hm he hm' he' ⊢
  have HM := Lib.hid hm
  have HX := Lib.hid he
  have HM' := Lib.hid hm'
  have HX' := Lib.hid he'
  have HZ := Lib.hid (two_boxes w (.cells #[.int .i64 a1, .int .i64 a2, .int .i64 a3, vm, ve] 27) (.cells #[.int .i64 b1, .int .i64 b2, .int .i64 b3, vm', ve'] 27))
  have HF0 := Lib.hid ((Fr.alloc w (.cells #[.int .i64 a1, .int .i64 a2, .int .i64 a3, vm, ve] 27) []).trans (Fr.alloc _ (.cells #[.int .i64 b1, .int .i64 b2, .int .i64 b3, vm', ve'] 27) []))
  clear hm he hm' he'
  by_cases hE : a1 = b1 ∧ a2 = b2
  rotate_left
  · have hreg := fun W => eqEpoch W a1 a2 b1 b2 false (no hE)
    obtain rfl := en_ne' hb (fun h => hE (by cases h; exact ⟨rfl, rfl⟩))
    clear hE hb
    go_enter Tryd.func35, Tryd.ntmps35
    go_wp2
    go_ret
    exact ⟨rfl, HF0.out⟩
  by_cases hH : a3 = b3
  rotate_left
  · have hreg := fun W => eqEpoch W a1 a2 b1 b2 true (yes hE)
    have e1 : (a3 == b3) = false := by simp [hH]
    obtain rfl := en_ne' hb (fun h => hH (by cases h; rfl))
    clear hE hH hb
    go_enter Tryd.func35, Tryd.ntmps35
    go_wp2
    go_ret
    exact ⟨rfl, HF0.out⟩
  by_cases hN : ms = ns
  rotate_left
  · have hreg := fun W => eqEpoch W a1 a2 b1 b2 true (yes hE)
    have e1 : (a3 == b3) = true := by simp [hH]
    obtain rfl := en_ne' hb (fun h => hN (by cases h; rfl))
    have HN := Lib.hid hN
    clear hE hH hN hb
    go_enter Tryd.func35, Tryd.ntmps35
    go_wp2_with fail
    refine (eqInts_any _ ms _ ns _ (HM.out.keep HF0.out) (HM'.out.keep HF0.out) false (ino HN.out)).mono ?_
    rintro e w1 ⟨rfl, hf1⟩
    have l1 := row5 (hf1.heap HZ.out.1 (by simp))
    have l2 := row5 (hf1.heap HZ.out.2 (by simp))
    have HF2 := Lib.hid (HF0.out.trans hf1)
    clear hf1
    go_wp2
    go_ret
    exact ⟨rfl, HF2.out⟩
  · have hreg := fun W => eqEpoch W a1 a2 b1 b2 true (yes hE)
    have e1 : (a3 == b3) = true := by simp [hH]
    have HN := Lib.hid hN
    have HB2 : Hid (b = true ↔ es = fs) := by
      show _ ↔ _
      obtain ⟨rfl, rfl⟩ := hE
      subst hH hN
      rw [hb]
      exact ⟨fun h => by cases h; rfl, fun h => by rw [h]⟩
    clear hE hH hN hb
    go_enter Tryd.func35, Tryd.ntmps35
    go_wp2_with fail
    refine (eqInts_any _ ms _ ns _ (HM.out.keep HF0.out) (HM'.out.keep HF0.out) true (iyes HN.out)).mono ?_
    rintro e w1 ⟨rfl, hf1⟩
    have l1 := row5 (hf1.heap HZ.out.1 (by simp))
    have l2 := row5 (hf1.heap HZ.out.2 (by simp))
    have HF2 := Lib.hid (HF0.out.trans hf1)
    clear hf1
    go_wp2_with fail
    refine (eqEnts_any _ es _ fs _ (HX.out.keep HF2.out) (HX'.out.keep HF2.out) b HB2.out).mono ?_
    rintro e w2 ⟨rfl, hf2⟩
    go_wp2
    go_ret
    exact ⟨rfl, HF2.out.trans hf2⟩

set_option maxHeartbeats 1000000 in
set_option maxRecDepth 100000 in
theorem rsameRing_any (r s : Rg) (vm ve vm' ve' : Value) (b : Bool) (hb : b = true ↔ r = s) (w : World) (hm : Holds .i64 w vm r.ms) (he : HE w ve r.es) (hm' : Holds .i64 w vm' s.ms) (he' : HE w ve' s.es) :
    Calls Tryd.prog 25 #[rgV r vm ve, rgV s vm' ve'] w fun e w' => e = .returned (.bool b) ∧ Fr w w' [] := by
  obtain ⟨a1, a2, a3, ms, es⟩ := r
  obtain ⟨b1, b2, b3, ns, fs⟩ := s
  unfold rgV
  simp only at hm he hm' he' ⊢
  have HM := Lib.hid hm
  have HX := Lib.hid he
  have HM' := Lib.hid hm'
  have HX' := Lib.hid he'
  have HZ := Lib.hid (two_boxes w (.cells #[.int .i64 a1, .int .i64 a2, .int .i64 a3, vm, ve] 27) (.cells #[.int .i64 b1, .int .i64 b2, .int .i64 b3, vm', ve'] 27))
  have HF0 := Lib.hid ((Fr.alloc w (.cells #[.int .i64 a1, .int .i64 a2, .int .i64 a3, vm, ve] 27) []).trans (Fr.alloc _ (.cells #[.int .i64 b1, .int .i64 b2, .int .i64 b3, vm', ve'] 27) []))
  clear hm he hm' he'
  by_cases hE : a1 = b1 ∧ a2 = b2
  rotate_left
  · have HC := Lib.hid (no hE)
    obtain rfl := en_ne' hb (fun h => hE (by cases h; exact ⟨rfl, rfl⟩))
    clear hE hb
    go_enter Tryd.func25, Tryd.ntmps25
    go_wp2_with fail
    refine (sameEpoch_any _ _ _ _ _ HC.out _).mono ?_
    rintro e w0 ⟨rfl, hf0⟩
    have k1 := row5 (hf0.heap HZ.out.1 (by simp))
    have k2 := row5 (hf0.heap HZ.out.2 (by simp))
    have HF1 := Lib.hid (HF0.out.trans hf0)
    have HG0 := Lib.hid hf0
    clear hf0
    go_wp2
    go_ret
    exact ⟨rfl, HF1.out⟩
  by_cases hH : a3 = b3
  rotate_left
  · have HC := Lib.hid (yes hE)
    have e1 : (a3 == b3) = false := by simp [hH]
    obtain rfl := en_ne' hb (fun h => hH (by cases h; rfl))
    clear hE hH hb
    go_enter Tryd.func25, Tryd.ntmps25
    go_wp2_with fail
    refine (sameEpoch_any _ _ _ _ _ HC.out _).mono ?_
    rintro e w0 ⟨rfl, hf0⟩
    have k1 := row5 (hf0.heap HZ.out.1 (by simp))
    have k2 := row5 (hf0.heap HZ.out.2 (by simp))
    have HF1 := Lib.hid (HF0.out.trans hf0)
    have HG0 := Lib.hid hf0
    clear hf0
    go_wp2
    go_ret
    exact ⟨rfl, HF1.out⟩
  by_cases hN : ms = ns
  rotate_left
  · have HC := Lib.hid (yes hE)
    have e1 : (a3 == b3) = true := by simp [hH]
    obtain rfl := en_ne' hb (fun h => hN (by cases h; rfl))
    have HN := Lib.hid hN
    clear hE hH hN hb
    go_enter Tryd.func25, Tryd.ntmps25
    go_wp2_with fail
    refine (sameEpoch_any _ _ _ _ _ HC.out _).mono ?_
    rintro e w0 ⟨rfl, hf0⟩
    have k1 := row5 (hf0.heap HZ.out.1 (by simp))
    have k2 := row5 (hf0.heap HZ.out.2 (by simp))
    have HF1 := Lib.hid (HF0.out.trans hf0)
    have HG0 := Lib.hid hf0
    clear hf0
    go_wp2_with fail
    refine (rsameInts_any _ ms _ ns _ (HM.out.keep HF1.out) (HM'.out.keep HF1.out) false (ino HN.out)).mono ?_
    rintro e w1 ⟨rfl, hf1⟩
    have l1 := row5 ((HG0.out.trans hf1).heap HZ.out.1 (by simp))
    have l2 := row5 ((HG0.out.trans hf1).heap HZ.out.2 (by simp))
    clear k1 k2
    have HF2 := Lib.hid (HF1.out.trans hf1)
    clear hf1
    go_wp2
    go_ret
    exact ⟨rfl, HF2.out⟩
  · have HC := Lib.hid (yes hE)
    have e1 : (a3 == b3) = true := by simp [hH]
    have HN := Lib.hid hN
    have HB2 : Hid (b = true ↔ es = fs) := by
      show _ ↔ _
      obtain ⟨rfl, rfl⟩ := hE
      subst hH hN
      rw [hb]
      exact ⟨fun h => by cases h; rfl, fun h => by rw [h]⟩
    clear hE hH hN hb
    go_enter Tryd.func25, Tryd.ntmps25
    go_wp2_with fail
    refine (sameEpoch_any _ _ _ _ _ HC.out _).mono ?_
    rintro e w0 ⟨rfl, hf0⟩
    have k1 := row5 (hf0.heap HZ.out.1 (by simp))
    have k2 := row5 (hf0.heap HZ.out.2 (by simp))
    have HF1 := Lib.hid (HF0.out.trans hf0)
    have HG0 := Lib.hid hf0
    clear hf0
    go_wp2_with fail
    refine (rsameInts_any _ ms _ ns _ (HM.out.keep HF1.out) (HM'.out.keep HF1.out) true (iyes HN.out)).mono ?_
    rintro e w1 ⟨rfl, hf1⟩
    have l1 := row5 ((HG0.out.trans hf1).heap HZ.out.1 (by simp))
    have l2 := row5 ((HG0.out.trans hf1).heap HZ.out.2 (by simp))
    clear k1 k2
    have HF2 := Lib.hid (HF1.out.trans hf1)
    clear hf1
    go_wp2_with fail
    refine (rsameEnts_any _ es _ fs _ (HX.out.keep HF2.out) (HX'.out.keep HF2.out) b HB2.out).mono ?_
    rintro e w2 ⟨rfl, hf2⟩
    go_wp2
    go_ret
    exact ⟨rfl, HF2.out.trans hf2⟩

set_option maxHeartbeats 1000000 in
set_option maxRecDepth 100000 in
theorem same_frame (f g : F) (vm ve vm' ve' : Value) (b : Bool) (hb : b = true ↔ f = g) (w : World) (hm : Holds .i64 w vm f.rg.ms) (he : HE w ve f.rg.es) (hm' : Holds .i64 w vm' g.rg.ms) (he' : HE w ve' g.rg.es) :
    Calls Tryd.prog 14 #[frV f vm ve, frV g vm' ve'] w fun e w' => e = .returned (.bool b) ∧ Fr w w' [] := by
  obtain ⟨a1, a2, a3, a4, a5, a6, ⟨r1, r2, r3, ms, es⟩⟩ := f
  obtain ⟨b1, b2, b3, b4, b5, b6, ⟨s1, s2, s3, ns, fs⟩⟩ := g
  unfold frV
  simp only at hm he hm' he' ⊢
  have HM := Lib.hid hm
  have HX := Lib.hid he
  have HM' := Lib.hid hm'
  have HX' := Lib.hid he'
  have HF0 := Lib.hid ((Fr.alloc w (.cells #[.int .i64 a1, .int .i64 a2, .int .i64 a3, .int .i64 a4, .int .i64 a5, .bool a6, .int .i64 r1, .int .i64 r2, .int .i64 r3, vm, ve] 29) []).trans (Fr.alloc _ (.cells #[.int .i64 b1, .int .i64 b2, .int .i64 b3, .int .i64 b4, .int .i64 b5, .bool b6, .int .i64 s1, .int .i64 s2, .int .i64 s3, vm', ve'] 29) []))
  clear hm he hm' he'
  have hcase : (a1 == b1) = false ∨ ((a1 == b1) = true ∧ (a2 == b2) = false) ∨ ((a1 == b1) = true ∧ (a2 == b2) = true ∧ (a3 == b3) = false) ∨ ((a1 == b1) = true ∧ (a2 == b2) = true ∧ (a3 == b3) = true ∧ (a4 == b4) = false) ∨
      ((a1 == b1) = true ∧ (a2 == b2) = true ∧ (a3 == b3) = true ∧ (a4 == b4) = true ∧ (a5 == b5) = false) ∨ ((a1 == b1) = true ∧ (a2 == b2) = true ∧ (a3 == b3) = true ∧ (a4 == b4) = true ∧ (a5 == b5) = true ∧ (a6 == b6) = false) ∨
      ((a1 == b1) = true ∧ (a2 == b2) = true ∧ (a3 == b3) = true ∧ (a4 == b4) = true ∧ (a5 == b5) = true ∧ (a6 == b6) = true) := by
    cases (a1 == b1) <;> cases (a2 == b2) <;> cases (a3 == b3) <;> cases (a4 == b4) <;> cases (a5 == b5) <;> cases (a6 == b6) <;> simp
  rcases hcase with e1 | ⟨e1, e2⟩ | ⟨e1, e2, e3⟩ | ⟨e1, e2, e3, e4⟩ | ⟨e1, e2, e3, e4, e5⟩ | ⟨e1, e2, e3, e4, e5, e6⟩ | ⟨e1, e2, e3, e4, e5, e6⟩
  rotate_right
  · have HB2 : Hid (b = true ↔ (⟨r1, r2, r3, ms, es⟩ : Rg) = ⟨s1, s2, s3, ns, fs⟩) := by
      show _ ↔ _
      simp only [beq_iff_eq] at e1 e2 e3 e4 e5 e6
      subst e1 e2 e3 e4 e5 e6
      rw [hb]
      exact ⟨fun h => by cases h; rfl, fun h => by rw [h]⟩
    clear hb
    go_enter Tryd.func14, Tryd.ntmps14
    go_wp2_with fail
    refine (sameRing_any ⟨r1, r2, r3, ms, es⟩ ⟨s1, s2, s3, ns, fs⟩ vm ve vm' ve' b HB2.out _ (HM.out.keep HF0.out) (HX.out.keep HF0.out) (HM'.out.keep HF0.out) (HX'.out.keep HF0.out)).mono ?_
    rintro e w2 ⟨rfl, hf2⟩
    go_wp2
    go_ret
    exact ⟨rfl, HF0.out.trans hf2⟩
  all_goals
    obtain rfl := en_ne' hb (fun h => by cases h; first | (exfalso; revert e1; simp; done) | (exfalso; revert e2; simp; done) | (exfalso; revert e3; simp; done) | (exfalso; revert e4; simp; done) | (exfalso; revert e5; simp; done) | (exfalso; revert e6; simp; done))
    clear hb
    go_enter Tryd.func14, Tryd.ntmps14
    go_wp2
    go_ret
    exact ⟨rfl, HF0.out⟩

set_option maxHeartbeats 1000000 in
set_option maxRecDepth 100000 in
theorem rsame_frame (f g : F) (vm ve vm' ve' : Value) (b : Bool) (hb : b = true ↔ f = g) (w : World) (hm : Holds .i64 w vm f.rg.ms) (he : HE w ve f.rg.es) (hm' : Holds .i64 w vm' g.rg.ms) (he' : HE w ve' g.rg.es) :
    Calls Tryd.prog 15 #[frV f vm ve, frV g vm' ve'] w fun e w' => e = .returned (.bool b) ∧ Fr w w' [] := by
  obtain ⟨a1, a2, a3, a4, a5, a6, ⟨r1, r2, r3, ms, es⟩⟩ := f
  obtain ⟨b1, b2, b3, b4, b5, b6, ⟨s1, s2, s3, ns, fs⟩⟩ := g
  unfold frV
  simp only at hm he hm' he' ⊢
  have HM := Lib.hid hm
  have HX := Lib.hid he
  have HM' := Lib.hid hm'
  have HX' := Lib.hid he'
  have HF0 := Lib.hid ((Fr.alloc w (.cells #[.int .i64 a1, .int .i64 a2, .int .i64 a3, .int .i64 a4, .int .i64 a5, .bool a6, .int .i64 r1, .int .i64 r2, .int .i64 r3, vm, ve] 29) []).trans (Fr.alloc _ (.cells #[.int .i64 b1, .int .i64 b2, .int .i64 b3, .int .i64 b4, .int .i64 b5, .bool b6, .int .i64 s1, .int .i64 s2, .int .i64 s3, vm', ve'] 29) []))
  clear hm he hm' he'
  have hcase : (a1 == b1) = false ∨ ((a1 == b1) = true ∧ (a2 == b2) = false) ∨ ((a1 == b1) = true ∧ (a2 == b2) = true ∧ (a3 == b3) = false) ∨ ((a1 == b1) = true ∧ (a2 == b2) = true ∧ (a3 == b3) = true ∧ (a4 == b4) = false) ∨
      ((a1 == b1) = true ∧ (a2 == b2) = true ∧ (a3 == b3) = true ∧ (a4 == b4) = true ∧ (a5 == b5) = false) ∨ ((a1 == b1) = true ∧ (a2 == b2) = true ∧ (a3 == b3) = true ∧ (a4 == b4) = true ∧ (a5 == b5) = true ∧ (a6 == b6) = false) ∨
      ((a1 == b1) = true ∧ (a2 == b2) = true ∧ (a3 == b3) = true ∧ (a4 == b4) = true ∧ (a5 == b5) = true ∧ (a6 == b6) = true) := by
    cases (a1 == b1) <;> cases (a2 == b2) <;> cases (a3 == b3) <;> cases (a4 == b4) <;> cases (a5 == b5) <;> cases (a6 == b6) <;> simp
  rcases hcase with e1 | ⟨e1, e2⟩ | ⟨e1, e2, e3⟩ | ⟨e1, e2, e3, e4⟩ | ⟨e1, e2, e3, e4, e5⟩ | ⟨e1, e2, e3, e4, e5, e6⟩ | ⟨e1, e2, e3, e4, e5, e6⟩
  rotate_right
  · have HB2 : Hid (b = true ↔ (⟨r1, r2, r3, ms, es⟩ : Rg) = ⟨s1, s2, s3, ns, fs⟩) := by
      show _ ↔ _
      simp only [beq_iff_eq] at e1 e2 e3 e4 e5 e6
      subst e1 e2 e3 e4 e5 e6
      rw [hb]
      exact ⟨fun h => by cases h; rfl, fun h => by rw [h]⟩
    clear hb
    go_enter Tryd.func15, Tryd.ntmps15
    go_wp2_with fail
    refine (rsameRing_any ⟨r1, r2, r3, ms, es⟩ ⟨s1, s2, s3, ns, fs⟩ vm ve vm' ve' b HB2.out _ (HM.out.keep HF0.out) (HX.out.keep HF0.out) (HM'.out.keep HF0.out) (HX'.out.keep HF0.out)).mono ?_
    rintro e w2 ⟨rfl, hf2⟩
    go_wp2
    go_ret
    exact ⟨rfl, HF0.out.trans hf2⟩
  all_goals
    obtain rfl := en_ne' hb (fun h => by cases h; first | (exfalso; revert e1; simp; done) | (exfalso; revert e2; simp; done) | (exfalso; revert e3; simp; done) | (exfalso; revert e4; simp; done) | (exfalso; revert e5; simp; done) | (exfalso; revert e6; simp; done))
    clear hb
    go_enter Tryd.func15, Tryd.ntmps15
    go_wp2
    go_ret
    exact ⟨rfl, HF0.out⟩
end Go.Proofs.YtpeocdcciecpoaaDoor
