/- The program's Valid: a token, a beat, a frame. -/
import Derived.Test.YtpeocdcciecpoaaDoorFValid3
namespace Go.Proofs.YtpeocdcciecpoaaDoor
open Go.RowKit Fm

def tokenC (f : F) : Nat := if f.li = 0 ∧ f.se = 0 ∧ f.ou = false then ringC f.rg else 3
theorem ringC_head {r : Rg} (h : ¬ HeadOk r) : ringC r = 3 := by unfold ringC; rw [if_pos h]
theorem ringC_many {r : Rg} (h : HeadOk r) (h2 : 16 < r.ms.length ∨ r.ms.length = 0 ∨ 128 < r.es.length) : ringC r = 4 := by unfold ringC; rw [if_neg (fun q => q h), if_pos h2]
theorem ringC_memb {r : Rg} (h : HeadOk r) (h2 : ¬ (16 < r.ms.length ∨ r.ms.length = 0 ∨ 128 < r.es.length)) (h3 : membC r.ms ≠ 0) : ringC r = membC r.ms := by unfold ringC; rw [if_neg (fun q => q h), if_neg h2, if_neg h3]
theorem ringC_ents {r : Rg} (h : HeadOk r) (h2 : ¬ (16 < r.ms.length ∨ r.ms.length = 0 ∨ 128 < r.es.length)) (h3 : membC r.ms = 0) : ringC r = entsC r.ms none r.es := by unfold ringC; rw [if_neg (fun q => q h), if_neg h2, if_pos h3]

set_option maxHeartbeats 4000000 in
set_option maxRecDepth 100000 in
theorem validToken_any (f : F) (vm ve : Value) (w : World) (A : Nat → Addr) (B : Nat) (is : List Nat) (hE : EV is w A B) (hm : Holds .i64 w vm f.rg.ms) (he : HE w ve f.rg.es) (hs : ∀ i ∈ [2, 3, 10], i ∈ is := by decide) :
    Calls Tryd.prog 34 #[frV f vm ve] w fun e w' => e = .returned (ev A (tokenC f)) ∧ Fr w w' [] := by
  obtain ⟨ki, fr, to, li, se, ou, ⟨co, fo, ho, ms, es⟩⟩ := f
  unfold frV
  simp only at hm he ⊢
  have HM := Lib.hid hm
  have HX := Lib.hid he
  obtain ⟨am, cm, rfl⟩ := hm.shape
  obtain ⟨ae, ce, rfl⟩ := he.shape
  have hml : ms.length ≤ 9223372036854775807 := by obtain ⟨a, c, h, h1, h2, _⟩ := hm; unfold maxLen at h2; omega
  have hel : es.length ≤ 9223372036854775807 := by obtain ⟨a, c, h, h1, h2, _⟩ := he; unfold maxLen at h2; omega
  have HEV := Lib.hid hE
  have HS := Lib.hid hs
  have HZ := Lib.hid (two_boxes w (.cells #[.int .i64 ki, .int .i64 fr, .int .i64 to, .int .i64 li, .int .i64 se, .bool ou, .int .i64 co, .int .i64 fo, .int .i64 ho, .slice am ms.length cm, .slice ae es.length ce] 29) (.cells #[.int .i64 co, .int .i64 fo, .int .i64 ho, .slice am ms.length cm, .slice ae es.length ce] 27))
  have HF0 := Lib.hid ((Fr.alloc w (.cells #[.int .i64 ki, .int .i64 fr, .int .i64 to, .int .i64 li, .int .i64 se, .bool ou, .int .i64 co, .int .i64 fo, .int .i64 ho, .slice am ms.length cm, .slice ae es.length ce] 29) []).trans (Fr.alloc _ (.cells #[.int .i64 co, .int .i64 fo, .int .i64 ho, .slice am ms.length cm, .slice ae es.length ce] 27) []))
  have hR0 := (hE.keep HF0.out).range (hs 2 (by decide))
  clear hE hs hm he
  have HT0 := Lib.hid (fun (h : ¬ (li = 0 ∧ se = 0 ∧ ou = false)) => (show tokenC ⟨ki, fr, to, li, se, ou, ⟨co, fo, ho, ms, es⟩⟩ = 3 from if_neg h))
  have hcase : (li != 0) = true ∨ ((li != 0) = false ∧ (se != 0) = true) ∨ ((li != 0) = false ∧ (se != 0) = false ∧ ou = true) ∨ ((li != 0) = false ∧ (se != 0) = false ∧ ou = false) := by
    cases (li != 0) <;> cases (se != 0) <;> cases ou <;> simp
  rcases hcase with e1 | ⟨e1, e2⟩ | ⟨e1, e2, rfl⟩ | ⟨e1, e2, rfl⟩
  rotate_right
  · have HT : Hid (tokenC ⟨ki, fr, to, li, se, false, ⟨co, fo, ho, ms, es⟩⟩ = ringC ⟨co, fo, ho, ms, es⟩) := by
      show _ = _
      unfold tokenC
      rw [if_pos]
      refine ⟨by simpa using e1, by simpa using e2, rfl⟩
    by_cases hEp : EpOk co fo
    rotate_left
    · have HC := Lib.hid (no hEp)
      have HR : Hid (ringC ⟨co, fo, ho, ms, es⟩ = 3) := ringC_head (fun h => hEp h.1)
      clear hEp hR0
      go_enter Tryd.func34, Tryd.ntmps34
      go_wp2_with fail
      refine (epValid_any _ _ _ HC.out _).mono ?_
      rintro e w1 ⟨rfl, hf1⟩
      have hR := (HEV.out.keep (HF0.out.trans hf1)).range (HS.out 2 (by decide))
      go_wp2
      go_ret
      exact ⟨by rw [HT.out, HR.out]; rfl, HF0.out.trans hf1⟩
    have HC := Lib.hid (yes hEp)
    by_cases hH : 0 ≤ ho ∧ ho ≤ 1099511627776
    rotate_left
    · have HR : Hid (ringC ⟨co, fo, ho, ms, es⟩ = 3) := ringC_head (fun h => hH h.2)
      have hcH : ho < 0 ∨ (¬ ho < 0 ∧ 1099511627776 < ho) := by omega
      clear hEp hR0 hH
      rcases hcH with h1 | ⟨h1, h2⟩
      all_goals
        go_enter Tryd.func34, Tryd.ntmps34
        go_wp2_with fail
        refine (epValid_any _ _ _ HC.out _).mono ?_
        rintro e w1 ⟨rfl, hf1⟩
        have hR := (HEV.out.keep (HF0.out.trans hf1)).range (HS.out 2 (by decide))
        have k1 := row5 (hf1.heap HZ.out.2 (by simp))
        go_wp2
        go_ret
        exact ⟨by rw [HT.out, HR.out]; rfl, HF0.out.trans hf1⟩
    have HHD := Lib.hid (show HeadOk ⟨co, fo, ho, ms, es⟩ from ⟨hEp, hH⟩)
    have h1 : ¬ ho < 0 := by omega
    have h2 : ¬ 1099511627776 < ho := by omega
    clear hEp hH hR0
    by_cases hN : 16 < ms.length ∨ ms.length = 0 ∨ 128 < es.length
    · have HR : Hid (ringC ⟨co, fo, ho, ms, es⟩ = 4) := ringC_many HHD.out hN
      have hcN : 16 < (ms.length : Int) ∨ (¬ 16 < (ms.length : Int) ∧ ((ms.length : Int) == 0) = true) ∨ (¬ 16 < (ms.length : Int) ∧ ((ms.length : Int) == 0) = false ∧ 128 < (es.length : Int)) := by
        by_cases q : ms.length = 0
        · right; left; simp [q]
        · by_cases q2 : 16 < ms.length
          · left; omega
          · right; right; refine ⟨by omega, ?_, by omega⟩; simp only [beq_eq_false_iff_ne]; omega
      clear hN
      rcases hcN with h3 | ⟨h3, h4⟩ | ⟨h3, h4, h5⟩
      all_goals
        go_enter Tryd.func34, Tryd.ntmps34
        go_wp2_with fail
        refine (epValid_any _ _ _ HC.out _).mono ?_
        rintro e w1 ⟨rfl, hf1⟩
        have hR := (HEV.out.keep (HF0.out.trans hf1)).many (HS.out 3 (by decide))
        have k1 := row5 (hf1.heap HZ.out.2 (by simp))
        go_wp2
        go_ret
        exact ⟨by rw [HT.out, HR.out]; rfl, HF0.out.trans hf1⟩
    have HNN := Lib.hid hN
    have h3 : ¬ 16 < (ms.length : Int) := by omega
    have h4 : ((ms.length : Int) == 0) = false := by simp only [beq_eq_false_iff_ne]; omega
    have h5 : ¬ 128 < (es.length : Int) := by omega
    clear hN
    go_enter Tryd.func34, Tryd.ntmps34
    go_wp2_with fail
    refine (epValid_any _ _ _ HC.out _).mono ?_
    rintro e w1 ⟨rfl, hf1⟩
    have HF1 := Lib.hid (HF0.out.trans hf1)
    have k1 := row5 (hf1.heap HZ.out.2 (by simp))
    have HRB := Lib.hid (hf1.heap HZ.out.2 (by simp))
    clear hf1
    go_wp2_with fail
    refine (validMembers_any _ ms _ A B is (HEV.out.keep HF1.out) (HM.out.keep HF1.out) (fun i hi => HS.out i (by simp at hi ⊢; omega))).mono ?_
    rintro e w2 ⟨rfl, hf2⟩
    have k2 := row5 (hf2.heap HRB.out (by simp))
    have HF2 := Lib.hid (HF1.out.trans hf2)
    clear hf2 k1
    by_cases hz : membC ms = 0
    · have HR : Hid (ringC ⟨co, fo, ho, ms, es⟩ = entsC ms none es) := ringC_ents HHD.out HNN.out hz
      rw [hz, show ev A 0 = .nilIface from rfl]
      clear hz
      go_wp2_with fail
      refine (validEntries_any co fo ho ms es _ _ _ A B is (HEV.out.keep HF2.out) (HM.out.keep HF2.out) (HX.out.keep HF2.out) (by omega) HS.out).mono ?_
      rintro e w3 ⟨rfl, hf3⟩
      go_wp2
      go_ret
      exact ⟨by rw [HT.out, HR.out]; rfl, HF2.out.trans hf3⟩
    · have HR : Hid (ringC ⟨co, fo, ho, ms, es⟩ = membC ms) := ringC_memb HHD.out HNN.out hz
      have HEN := Lib.hid (ev_ne A hz)
      rw [ev_ne A hz]
      clear hz
      go_wp2
      go_ret
      exact ⟨by rw [HT.out, HR.out, HEN.out]; rfl, HF2.out⟩
  all_goals
    have HT := Lib.hid (HT0.out (by rintro ⟨q1, q2, q3⟩; simp_all))
    clear HT0
    go_enter Tryd.func34, Tryd.ntmps34
    go_wp2
    go_ret
    exact ⟨by rw [HT.out]; rfl, HF0.out⟩

def beatC (f : F) : Nat := if Kept f.li ∧ Kept f.se ∧ Zero f.rg then 0 else 3
theorem zero_iff (r : Rg) : Zero r ↔ r = zeroR := ⟨fun h => h.eq, fun h => by rw [h]; exact ⟨rfl, rfl, rfl, rfl, rfl⟩⟩
set_option maxHeartbeats 4000000 in
set_option maxRecDepth 100000 in
theorem validBeat_any (f : F) (vm ve : Value) (w : World) (A : Nat → Addr) (B : Nat) (is : List Nat) (hE : EV is w A B) (hm : Holds .i64 w vm f.rg.ms) (he : HE w ve f.rg.es) (hs : ∀ i ∈ [2], i ∈ is := by decide) :
    Calls Tryd.prog 33 #[frV f vm ve] w fun e w' => e = .returned (ev A (beatC f)) ∧ Fr w w' [] := by
  obtain ⟨ki, fr, to, li, se, ou, ⟨co, fo, ho, ms, es⟩⟩ := f
  unfold frV
  simp only at hm he ⊢
  have HM := Lib.hid hm
  have HX := Lib.hid he
  have HF0 := Lib.hid (Fr.alloc w (.cells #[.int .i64 ki, .int .i64 fr, .int .i64 to, .int .i64 li, .int .i64 se, .bool ou, .int .i64 co, .int .i64 fo, .int .i64 ho, vm, ve] 29) [])
  have HZ := Lib.hid (heap_alloc_new w (.cells #[.int .i64 ki, .int .i64 fr, .int .i64 to, .int .i64 li, .int .i64 se, .bool ou, .int .i64 co, .int .i64 fo, .int .i64 ho, vm, ve] 29))
  have HEV := Lib.hid (hE.keep HF0.out)
  have HS := Lib.hid (hs 2 (by decide))
  have hR0 := (hE.keep HF0.out).range (hs 2 (by decide))
  clear hE hs hm he
  by_cases h1 : Kept li
  rotate_left
  · have HC := Lib.hid (no h1)
    have HT : Hid (beatC ⟨ki, fr, to, li, se, ou, ⟨co, fo, ho, ms, es⟩⟩ = 3) := by show _ = _; unfold beatC; rw [if_neg (fun h => h1 h.1)]
    clear h1
    go_enter Tryd.func33, Tryd.ntmps33
    go_wp2_with fail
    refine (isKept_any _ _ HC.out _).mono ?_
    rintro e w1 ⟨rfl, rfl⟩
    go_wp2
    go_ret
    exact ⟨by rw [HT.out]; rfl, HF0.out⟩
  have HC := Lib.hid (yes h1)
  by_cases h2 : Kept se
  rotate_left
  · have HD := Lib.hid (no h2)
    have HT : Hid (beatC ⟨ki, fr, to, li, se, ou, ⟨co, fo, ho, ms, es⟩⟩ = 3) := by show _ = _; unfold beatC; rw [if_neg (fun h => h2 h.2.1)]
    clear h1 h2
    go_enter Tryd.func33, Tryd.ntmps33
    go_wp2_with fail
    refine (isKept_any _ _ HC.out _).mono ?_
    rintro e w1 ⟨rfl, rfl⟩
    go_wp2_with fail
    refine (isKept_any _ _ HD.out _).mono ?_
    rintro e w1 ⟨rfl, rfl⟩
    go_wp2
    go_ret
    exact ⟨by rw [HT.out]; rfl, HF0.out⟩
  have HD := Lib.hid (yes h2)
  by_cases h3 : Zero ⟨co, fo, ho, ms, es⟩
  · have HG := Lib.hid ((zero_iff _).1 h3)
    have HT : Hid (beatC ⟨ki, fr, to, li, se, ou, ⟨co, fo, ho, ms, es⟩⟩ = 0) := by show _ = _; unfold beatC; rw [if_pos ⟨h1, h2, h3⟩]
    clear h1 h2 h3 hR0
    go_enter Tryd.func33, Tryd.ntmps33
    go_wp2_with fail
    refine (isKept_any _ _ HC.out _).mono ?_
    rintro e w1 ⟨rfl, rfl⟩
    go_wp2_with fail
    refine (isKept_any _ _ HD.out _).mono ?_
    rintro e w1 ⟨rfl, rfl⟩
    go_wp2_with fail
    refine (sameRing_any ⟨co, fo, ho, ms, es⟩ zeroR vm ve _ _ true (iyes HG.out) _ (HM.out.keep HF0.out) (HX.out.keep HF0.out) nil_ints nil_ents).mono ?_
    rintro e w2 ⟨rfl, hf2⟩
    go_wp2
    go_ret
    exact ⟨by rw [HT.out]; rfl, HF0.out.trans hf2⟩
  · have HG := Lib.hid (fun q => h3 ((zero_iff _).2 q))
    have HT : Hid (beatC ⟨ki, fr, to, li, se, ou, ⟨co, fo, ho, ms, es⟩⟩ = 3) := by show _ = _; unfold beatC; rw [if_neg (fun h => h3 h.2.2)]
    clear h1 h2 h3 hR0
    go_enter Tryd.func33, Tryd.ntmps33
    go_wp2_with fail
    refine (isKept_any _ _ HC.out _).mono ?_
    rintro e w1 ⟨rfl, rfl⟩
    go_wp2_with fail
    refine (isKept_any _ _ HD.out _).mono ?_
    rintro e w1 ⟨rfl, rfl⟩
    go_wp2_with fail
    refine (sameRing_any ⟨co, fo, ho, ms, es⟩ zeroR vm ve _ _ false (ino HG.out) _ (HM.out.keep HF0.out) (HX.out.keep HF0.out) nil_ints nil_ents).mono ?_
    rintro e w2 ⟨rfl, hf2⟩
    have hR := (HEV.out.keep hf2).range HS.out
    go_wp2
    go_ret
    exact ⟨by rw [HT.out]; rfl, HF0.out.trans hf2⟩
end Go.Proofs.YtpeocdcciecpoaaDoor
