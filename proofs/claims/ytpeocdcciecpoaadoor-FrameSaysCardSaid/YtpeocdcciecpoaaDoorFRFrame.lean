/- The document's ValidFrame. -/
import Derived.Test.YtpeocdcciecpoaaDoorFRValid
import Derived.Test.YtpeocdcciecpoaaDoorFSame4
namespace Go.Proofs.YtpeocdcciecpoaaDoor
open Go.RowKit Fm

set_option maxHeartbeats 8000000 in
set_option maxRecDepth 100000 in
theorem rvalid_frame (f : F) (vm ve : Value) (w : World) (hm : Holds .i64 w vm f.rg.ms) (he : HE w ve f.rg.es) :
    Calls Tryd.prog 10 #[frV f vm ve] w fun e w' => e = .returned (.int .i64 (dcode (frameC f))) ∧ Fr w w' [] := by
  obtain ⟨ki, fr, to, li, se, ou, ⟨co, fo, ho, ms, es⟩⟩ := f
  unfold frV
  simp only at hm he ⊢
  have HM := Lib.hid hm
  have HX := Lib.hid he
  have HF0 := Lib.hid (Fr.alloc w (.cells #[.int .i64 ki, .int .i64 fr, .int .i64 to, .int .i64 li, .int .i64 se, .bool ou, .int .i64 co, .int .i64 fo, .int .i64 ho, vm, ve] 29) [])
  have HZ := Lib.hid (heap_alloc_new w (.cells #[.int .i64 ki, .int .i64 fr, .int .i64 to, .int .i64 li, .int .i64 se, .bool ou, .int .i64 co, .int .i64 fo, .int .i64 ho, vm, ve] 29))
  have k0 := row11 HZ.out
  clear hm he
  by_cases hk : ki = 1 ∨ ki = 2
  rotate_left
  · have HT : Hid (frameC ⟨ki, fr, to, li, se, ou, ⟨co, fo, ho, ms, es⟩⟩ = 7) := frameC_kind hk
    have e1 : (ki != 1) = true := by simp; omega
    have e2 : (ki != 2) = true := by simp; omega
    clear hk
    go_enter Tryd.func10, Tryd.ntmps10
    go_wp2
    go_ret
    exact ⟨by rw [HT.out]; rfl, HF0.out⟩
  by_cases h1 : Car fr
  rotate_left
  · have HD := Lib.hid (no h1)
    have HT : Hid (frameC ⟨ki, fr, to, li, se, ou, ⟨co, fo, ho, ms, es⟩⟩ = 3) := frameC_car hk (fun h => h1 h.1)
    have hk2 : ((ki != 1) = false ∧ (ki != 2) = true) ∨ ((ki != 1) = true ∧ (ki != 2) = false) := by rcases hk with h | h <;> simp [h]
    clear hk h1
    rcases hk2 with ⟨e1, e2⟩ | ⟨e1, e2⟩
    all_goals
      go_enter Tryd.func10, Tryd.ntmps10
      go_wp2_with fail
      refine (rcar_any _ _ HD.out _).mono ?_
      rintro e w1 ⟨rfl, rfl⟩
      go_wp2
      go_ret
      exact ⟨by rw [HT.out]; rfl, HF0.out⟩
  have HD := Lib.hid (yes h1)
  by_cases h2 : Car to
  rotate_left
  · have HG := Lib.hid (no h2)
    have HT : Hid (frameC ⟨ki, fr, to, li, se, ou, ⟨co, fo, ho, ms, es⟩⟩ = 3) := frameC_car hk (fun h => h2 h.2)
    have hk2 : ((ki != 1) = false ∧ (ki != 2) = true) ∨ ((ki != 1) = true ∧ (ki != 2) = false) := by rcases hk with h | h <;> simp [h]
    clear hk h1 h2
    rcases hk2 with ⟨e1, e2⟩ | ⟨e1, e2⟩
    all_goals
      go_enter Tryd.func10, Tryd.ntmps10
      go_wp2_with fail
      refine (rcar_any _ _ HD.out _).mono ?_
      rintro e w1 ⟨rfl, rfl⟩
      go_wp2_with fail
      refine (rcar_any _ _ HG.out _).mono ?_
      rintro e w1 ⟨rfl, rfl⟩
      go_wp2
      go_ret
      exact ⟨by rw [HT.out]; rfl, HF0.out⟩
  have HG := Lib.hid (yes h2)
  have hcK : (ki = 1) ∨ (ki = 2) := hk
  rcases hcK with hk1 | hk2
  · have HB : Hid (frameC ⟨ki, fr, to, li, se, ou, ⟨co, fo, ho, ms, es⟩⟩ = beatC ⟨ki, fr, to, li, se, ou, ⟨co, fo, ho, ms, es⟩⟩) := frameC_beat hk1 ⟨h1, h2⟩
    have e0 : (ki == 1) = true := by simp [hk1]
    have e1 : (ki != 1) = false := by simp [hk1]
    have e2 : (ki != 2) = true := by simp [hk1]
    clear hk h1 h2 hk1
    by_cases hn : Kept li ∧ Kept se
    · have g1 : ¬ li < 0 := by have := hn.1.1; omega
      have g2 : ¬ 281474976710656 ≤ li := by have := hn.1.2; omega
      have g3 : ¬ se < 0 := by have := hn.2.1; omega
      have g4 : ¬ 281474976710656 ≤ se := by have := hn.2.2; omega
      obtain ⟨b, hb⟩ : ∃ b : Bool, b = true ↔ (⟨co, fo, ho, ms, es⟩ : Rg) = zeroR := by
        by_cases h : (⟨co, fo, ho, ms, es⟩ : Rg) = zeroR
        · exact ⟨true, iyes h⟩
        · exact ⟨false, ino h⟩
      have HBB := Lib.hid hb
      have HT : Hid (dcode (frameC ⟨ki, fr, to, li, se, ou, ⟨co, fo, ho, ms, es⟩⟩) = if b then 0 else 103) := by
        show _ = _
        rw [HB.out]
        unfold beatC
        by_cases h : (⟨co, fo, ho, ms, es⟩ : Rg) = zeroR
        · rw [HBB.out.2 h]
          simp only [Rg.mk.injEq, zeroR] at h
          obtain ⟨rfl, rfl, rfl, rfl, rfl⟩ := h
          rw [if_pos ⟨hn.1, hn.2, rfl, rfl, rfl, rfl, rfl⟩]; rfl
        · have hbf : b = false := by cases b; rfl; exact absurd (HBB.out.1 rfl) h
          rw [hbf, if_neg (fun q => h (Zero.eq q.2.2))]; rfl
      have HSR := Lib.hid (fun W (hW : Fr w W []) => (show Calls Tryd.prog 25 #[.agg #[.int .i64 co, .int .i64 fo, .int .i64 ho, vm, ve], .agg #[.int .i64 0, .int .i64 0, .int .i64 0, .slice none 0 0, .slice none 0 0]] W fun e w' => e = .returned (.bool b) ∧ Fr W w' [] from rsameRing_any ⟨co, fo, ho, ms, es⟩ zeroR vm ve (.slice none 0 0) (.slice none 0 0) b HBB.out W (HM.out.keep hW) (HX.out.keep hW) nil_ints nil_ents))
      clear hb hn
      cases b
      all_goals
        go_enter Tryd.func10, Tryd.ntmps10
        go_wp2_with fail
        refine (rcar_any _ _ HD.out _).mono ?_
        rintro e w1 ⟨rfl, rfl⟩
        go_wp2_with fail
        refine (rcar_any _ _ HG.out _).mono ?_
        rintro e w1 ⟨rfl, rfl⟩
        go_wp2_with fail
        refine (HSR.out _ HF0.out).mono ?_
        rintro e w1 ⟨rfl, hf1⟩
        go_wp2
        go_ret
        exact ⟨by rw [HT.out]; rfl, HF0.out.trans hf1⟩
    · have HT : Hid (frameC ⟨ki, fr, to, li, se, ou, ⟨co, fo, ho, ms, es⟩⟩ = 3) := by
        show _ = _
        rw [HB.out]
        unfold beatC
        rw [if_neg (fun h => hn ⟨h.1, h.2.1⟩)]
      have hc : (li < 0) ∨ (¬ li < 0 ∧ 281474976710656 ≤ li) ∨ (¬ li < 0 ∧ ¬ 281474976710656 ≤ li ∧ se < 0) ∨ (¬ li < 0 ∧ ¬ 281474976710656 ≤ li ∧ ¬ se < 0 ∧ 281474976710656 ≤ se) := by unfold Kept at hn; omega
      clear hn
      rcases hc with g1 | ⟨g1, g2⟩ | ⟨g1, g2, g3⟩ | ⟨g1, g2, g3, g4⟩
      all_goals
        go_enter Tryd.func10, Tryd.ntmps10
        go_wp2_with fail
        refine (rcar_any _ _ HD.out _).mono ?_
        rintro e w1 ⟨rfl, rfl⟩
        go_wp2_with fail
        refine (rcar_any _ _ HG.out _).mono ?_
        rintro e w1 ⟨rfl, rfl⟩
        go_wp2
        go_ret
        exact ⟨by rw [HT.out]; rfl, HF0.out⟩
  · have HB : Hid (frameC ⟨ki, fr, to, li, se, ou, ⟨co, fo, ho, ms, es⟩⟩ = tokenC ⟨ki, fr, to, li, se, ou, ⟨co, fo, ho, ms, es⟩⟩) := frameC_token hk2 ⟨h1, h2⟩
    have e0 : (ki == 1) = false := by simp [hk2]
    have e1 : (ki != 1) = true := by simp [hk2]
    have e2 : (ki != 2) = false := by simp [hk2]
    clear hk h1 h2 hk2
    by_cases hn : li = 0 ∧ se = 0 ∧ ou = false
    · have HT : Hid (frameC ⟨ki, fr, to, li, se, ou, ⟨co, fo, ho, ms, es⟩⟩ = ringC ⟨co, fo, ho, ms, es⟩) := by
        show _ = _
        rw [HB.out]
        unfold tokenC
        rw [if_pos hn]
      obtain ⟨rfl, rfl, rfl⟩ := hn
      go_enter Tryd.func10, Tryd.ntmps10
      go_wp2_with fail
      refine (rcar_any _ _ HD.out _).mono ?_
      rintro e w1 ⟨rfl, rfl⟩
      go_wp2_with fail
      refine (rcar_any _ _ HG.out _).mono ?_
      rintro e w1 ⟨rfl, rfl⟩
      go_wp2_with fail
      refine (rvalidRing_any co fo ho ms es vm ve _ (HM.out.keep HF0.out) (HX.out.keep HF0.out)).mono ?_
      rintro e w1 ⟨rfl, hf1⟩
      go_wp2
      go_ret
      exact ⟨by rw [HT.out]; rfl, HF0.out.trans hf1⟩
    · have HT : Hid (frameC ⟨ki, fr, to, li, se, ou, ⟨co, fo, ho, ms, es⟩⟩ = 3) := by
        show _ = _
        rw [HB.out]
        unfold tokenC
        rw [if_neg hn]
      have hc : ((li != 0) = true) ∨ ((li != 0) = false ∧ (se != 0) = true) ∨ ((li != 0) = false ∧ (se != 0) = false ∧ ou = true) := by
        by_cases q1 : li = 0
        · by_cases q2 : se = 0
          · right; right; refine ⟨by simp [q1], by simp [q2], ?_⟩
            cases ou
            · exact absurd ⟨q1, q2, rfl⟩ hn
            · rfl
          · right; left; exact ⟨by simp [q1], by simp [q2]⟩
        · left; simp [q1]
      clear hn
      rcases hc with g1 | ⟨g1, g2⟩ | ⟨g1, g2, rfl⟩
      all_goals
        go_enter Tryd.func10, Tryd.ntmps10
        go_wp2_with fail
        refine (rcar_any _ _ HD.out _).mono ?_
        rintro e w1 ⟨rfl, rfl⟩
        go_wp2_with fail
        refine (rcar_any _ _ HG.out _).mono ?_
        rintro e w1 ⟨rfl, rfl⟩
        go_wp2
        go_ret
        exact ⟨by rw [HT.out]; rfl, HF0.out⟩
end Go.Proofs.YtpeocdcciecpoaaDoor
