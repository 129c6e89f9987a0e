/- Valid: the program's; the document's calls' order, bids. -/
import Derived.Test.YtpeocdcciecpoaaDoorFValid4
namespace Go.Proofs.YtpeocdcciecpoaaDoor
open Go.RowKit Fm

theorem frameC_kind {f : F} (h : ¬ (f.ki = 1 ∨ f.ki = 2)) : frameC f = 7 := by unfold frameC; rw [if_pos h]
theorem frameC_car {f : F} (h : f.ki = 1 ∨ f.ki = 2) (h2 : ¬ (Car f.fr ∧ Car f.to)) : frameC f = 3 := by unfold frameC; rw [if_neg (fun q => q h), if_pos h2]
theorem frameC_beat {f : F} (h : f.ki = 1) (h2 : Car f.fr ∧ Car f.to) : frameC f = beatC f := by unfold frameC; rw [if_neg (fun q => q (.inl h)), if_neg (fun q => q h2), if_pos h]; rfl
theorem frameC_token {f : F} (h : f.ki = 2) (h2 : Car f.fr ∧ Car f.to) : frameC f = tokenC f := by unfold frameC; rw [if_neg (fun q => q (.inr h)), if_neg (fun q => q h2), if_neg (by omega)]; rfl

set_option maxHeartbeats 4000000 in
set_option maxRecDepth 100000 in
theorem valid_frame (f : F) (vm ve : Value) (w : World) (A : Nat → Addr) (B : Nat) (is : List Nat) (hE : EV is w A B) (hm : Holds .i64 w vm f.rg.ms) (he : HE w ve f.rg.es) (hs : ∀ i ∈ [2, 3, 6, 10], i ∈ is := by decide) :
    Calls Tryd.prog 13 #[frV f vm ve] w fun e w' => e = .returned (ev A (frameC f)) ∧ Fr w w' [] := by
  obtain ⟨ki, fr, to, li, se, ou, ⟨co, fo, ho, ms, es⟩⟩ := f
  unfold frV
  simp only at hm he ⊢
  have HM := Lib.hid hm
  have HX := Lib.hid he
  have HF0 := Lib.hid (Fr.alloc w (.cells #[.int .i64 ki, .int .i64 fr, .int .i64 to, .int .i64 li, .int .i64 se, .bool ou, .int .i64 co, .int .i64 fo, .int .i64 ho, vm, ve] 29) [])
  have HZ := Lib.hid (heap_alloc_new w (.cells #[.int .i64 ki, .int .i64 fr, .int .i64 to, .int .i64 li, .int .i64 se, .bool ou, .int .i64 co, .int .i64 fo, .int .i64 ho, vm, ve] 29))
  have HEV := Lib.hid (hE.keep HF0.out)
  have HS := Lib.hid hs
  clear hE hs hm he
  by_cases hk : ki = 1 ∨ ki = 2
  rotate_left
  · have HC := Lib.hid (no hk)
    have HT : Hid (frameC ⟨ki, fr, to, li, se, ou, ⟨co, fo, ho, ms, es⟩⟩ = 7) := frameC_kind hk
    have hR := HEV.out.kind (HS.out 6 (by decide))
    clear hk
    go_enter Tryd.func13, Tryd.ntmps13
    go_wp2_with fail
    refine (isKind_any _ _ HC.out _).mono ?_
    rintro e w1 ⟨rfl, rfl⟩
    go_wp2
    go_ret
    exact ⟨by rw [HT.out]; rfl, HF0.out⟩
  have HC := Lib.hid (yes hk)
  by_cases h1 : Car fr
  rotate_left
  · have HD := Lib.hid (no h1)
    have HT : Hid (frameC ⟨ki, fr, to, li, se, ou, ⟨co, fo, ho, ms, es⟩⟩ = 3) := frameC_car hk (fun h => h1 h.1)
    have hR := HEV.out.range (HS.out 2 (by decide))
    clear hk h1
    go_enter Tryd.func13, Tryd.ntmps13
    go_wp2_with fail
    refine (isKind_any _ _ HC.out _).mono ?_
    rintro e w1 ⟨rfl, rfl⟩
    go_wp2_with fail
    refine (isCar_any _ _ HD.out _).mono ?_
    rintro e w1 ⟨rfl, rfl⟩
    go_wp2
    go_ret
    exact ⟨by rw [HT.out]; rfl, HF0.out⟩
  have HD := Lib.hid (yes h1)
  by_cases h2 : Car to
  rotate_left
  · have HG := Lib.hid (no h2)
    have HT : Hid (frameC ⟨ki, fr, to, li, se, ou, ⟨co, fo, ho, ms, es⟩⟩ = 3) := frameC_car hk (fun h => h2 h.2)
    have hR := HEV.out.range (HS.out 2 (by decide))
    clear hk h1 h2
    go_enter Tryd.func13, Tryd.ntmps13
    go_wp2_with fail
    refine (isKind_any _ _ HC.out _).mono ?_
    rintro e w1 ⟨rfl, rfl⟩
    go_wp2_with fail
    refine (isCar_any _ _ HD.out _).mono ?_
    rintro e w1 ⟨rfl, rfl⟩
    go_wp2_with fail
    refine (isCar_any _ _ HG.out _).mono ?_
    rintro e w1 ⟨rfl, rfl⟩
    go_wp2
    go_ret
    exact ⟨by rw [HT.out]; rfl, HF0.out⟩
  have HG := Lib.hid (yes h2)
  have hcK : (ki = 1) ∨ (ki = 2) := hk
  rcases hcK with hk1 | hk2
  · have HT : Hid (frameC ⟨ki, fr, to, li, se, ou, ⟨co, fo, ho, ms, es⟩⟩ = beatC ⟨ki, fr, to, li, se, ou, ⟨co, fo, ho, ms, es⟩⟩) := frameC_beat hk1 ⟨h1, h2⟩
    have e1 : (ki == 1) = true := by simp [hk1]
    clear hk h1 h2 hk1
    go_enter Tryd.func13, Tryd.ntmps13
    go_wp2_with fail
    refine (isKind_any _ _ HC.out _).mono ?_
    rintro e w1 ⟨rfl, rfl⟩
    go_wp2_with fail
    refine (isCar_any _ _ HD.out _).mono ?_
    rintro e w1 ⟨rfl, rfl⟩
    go_wp2_with fail
    refine (isCar_any _ _ HG.out _).mono ?_
    rintro e w1 ⟨rfl, rfl⟩
    go_wp2_with fail
    refine (validBeat_any ⟨ki, fr, to, li, se, ou, ⟨co, fo, ho, ms, es⟩⟩ vm ve _ A B is HEV.out (HM.out.keep HF0.out) (HX.out.keep HF0.out) (fun i hi => HS.out i (by simp at hi ⊢; omega))).mono ?_
    rintro e w2 ⟨rfl, hf2⟩
    go_wp2
    go_ret
    exact ⟨by rw [HT.out]; rfl, HF0.out.trans hf2⟩
  · have HT : Hid (frameC ⟨ki, fr, to, li, se, ou, ⟨co, fo, ho, ms, es⟩⟩ = tokenC ⟨ki, fr, to, li, se, ou, ⟨co, fo, ho, ms, es⟩⟩) := frameC_token hk2 ⟨h1, h2⟩
    have e1 : (ki == 1) = false := by simp [hk2]
    clear hk h1 h2 hk2
    go_enter Tryd.func13, Tryd.ntmps13
    go_wp2_with fail
    refine (isKind_any _ _ HC.out _).mono ?_
    rintro e w1 ⟨rfl, rfl⟩
    go_wp2_with fail
    refine (isCar_any _ _ HD.out _).mono ?_
    rintro e w1 ⟨rfl, rfl⟩
    go_wp2_with fail
    refine (isCar_any _ _ HG.out _).mono ?_
    rintro e w1 ⟨rfl, rfl⟩
    go_wp2_with fail
    refine (validToken_any ⟨ki, fr, to, li, se, ou, ⟨co, fo, ho, ms, es⟩⟩ vm ve _ A B is HEV.out (HM.out.keep HF0.out) (HX.out.keep HF0.out) (fun i hi => HS.out i (by simp at hi ⊢; omega))).mono ?_
    rintro e w2 ⟨rfl, hf2⟩
    go_wp2
    go_ret
    exact ⟨by rw [HT.out]; rfl, HF0.out.trans hf2⟩

theorem rless_any (a1 a2 b1 b2 : Int) (b : Bool) (hb : b = decide (a1 < b1 ∨ a1 = b1 ∧ a2 < b2)) (w : World) : Calls Tryd.prog 56 #[.agg #[.int .i64 a1, .int .i64 a2], .agg #[.int .i64 b1, .int .i64 b2]] w fun e w' => e = .returned (.bool b) ∧ Fr w w' [] := by
  have hcase : (a1 < b1 ∧ ¬ a1 = b1 ∧ b = true) ∨ (¬ a1 < b1 ∧ ¬ a1 = b1 ∧ b = false) ∨ (¬ a1 < b1 ∧ a1 = b1 ∧ a2 < b2 ∧ b = true) ∨ (¬ a1 < b1 ∧ a1 = b1 ∧ ¬ a2 < b2 ∧ b = false) := by
    rcases bcase hb with ⟨h, e⟩ | ⟨h, e⟩ <;> subst e <;> simp only [and_true, reduceCtorEq, and_false, or_false, false_or] <;> omega
  clear hb
  rcases hcase with ⟨h1, h2, rfl⟩ | ⟨h1, h2, rfl⟩ | ⟨h1, h2, h3, rfl⟩ | ⟨h1, h2, h3, rfl⟩
  all_goals
    go_enter Tryd.func56, Tryd.ntmps56
    go_wp2
    go_ret
    refine ⟨?_, (Fr.alloc _ _ _).trans (Fr.alloc _ _ _)⟩
    simp [*]

set_option maxRecDepth 100000 in
theorem among_any (v : Value) (l : List Int) (x : Int) (b : Bool) (hb : b = decide (x ∈ l)) (w : World) (h : Holds .i64 w v l) :
    Calls Tryd.prog 55 #[v, .int .i64 x] w fun e w' => e = .returned (.bool b) ∧ w = w' := by
  obtain ⟨a, cap, rfl, h1, h2, h3⟩ := h
  unfold maxLen at h2
  have HB := Lib.hid hb
  clear hb
  go_enter Tryd.func55, Tryd.ntmps55
  go_wp2
  go_loop [5] (fun i => ∃ k : Nat, k ≤ l.length ∧ i = .int .i64 k ∧ x ∉ l.take k) (fun i => l.length - (intOf i).toNat)
  case atStart => exact ⟨0, Nat.zero_le _, rfl, by simp⟩
  case round =>
    obtain ⟨k, hk, rfl, hno⟩ := hrel
    have HN := Lib.hid hno
    clear hno
    by_cases hlt : k < l.length
    · obtain ⟨bl, off, rfl, hc⟩ := h3 (by omega)
      have hcell := hc k hlt
      obtain ⟨y, hy⟩ : ∃ y, y = l.getD k 0 := ⟨_, rfl⟩
      rw [← hy] at hcell
      have HY := Lib.hid hy
      clear hy hc h3
      by_cases hxy : y = x
      · have e1 : (y == x) = true := by simp [hxy]
        have HT : Hid (b = true) := by show _ = _; rw [HB.out, decide_eq_true_iff, ← hxy, HY.out]; exact getD_mem hlt 0
        clear hxy
        go_wp2
        go_ret
        exact ⟨by rw [HT.out]; rfl, rfl⟩
      · have e1 : (y == x) = false := by simp [hxy]
        have HN2 : Hid (x ∉ l.take (k + 1)) := take_mem hlt HN.out (by rw [← HY.out]; exact hxy)
        clear hxy
        go_wp2
        go_round
        case rel => exact ⟨k + 1, by omega, by go_num, HN2.out⟩
        case measure => simp [intOf]; omega
    · obtain rfl : k = l.length := by omega
      have HT : Hid (b = false) := by
        show _ = _
        rw [HB.out, decide_eq_false_iff_not]
        have := HN.out
        rwa [List.take_length] at this
      clear h3
      go_wp2
      go_ret
      exact ⟨by rw [HT.out]; rfl, rfl⟩

theorem map_fst (l : List (Int × Int)) (k : Nat) : (l.map (·.1)).getD k 0 = (l.getD k (0, 0)).1 := by
  simp only [List.getD, List.getElem?_map]
  cases l[k]? <;> rfl
/-- A code as the document has it. -/
def dcode (c : Nat) : Int := if c = 0 then 0 else 100 + (c : Int)

set_option maxHeartbeats 2000000 in
set_option maxRecDepth 100000 in
theorem rvalidBids_any (v : Value) (l : List (Int × Int)) (u : Value) (ms : List Int) (w : World) (h : HB w v l) (hu : Holds .i64 w u ms) :
    Calls Tryd.prog 57 #[u, v] w fun e w' => e = .returned (.int .i64 (dcode (bidsC ms l))) ∧ Fr w w' [] := by
  have HU := Lib.hid hu
  obtain ⟨a, cap, rfl, h1, h2, h3⟩ := h
  obtain ⟨au, capu, rfl, hu1, hu2, _⟩ := hu
  unfold maxLen at h2 hu2
  by_cases hlen : ms.length < l.length
  · have HF : Hid (bidsC ms l = 4) := by show _ = _; unfold bidsC; rw [if_pos hlen]
    clear h3
    go_enter Tryd.func57, Tryd.ntmps57
    go_wp2
    go_ret
    exact ⟨by rw [HF.out]; rfl, Fr.refl _ _⟩
  · go_enter Tryd.func57, Tryd.ntmps57
    go_wp2
    go_loopw [5] (fun i wr => ∃ (k : Nat), k ≤ l.length ∧ i = .int .i64 k ∧ BidsOk ms (l.take k) ∧ Fr w wr []) (fun i _ => l.length - (intOf i).toNat)
    case atStart => exact ⟨0, Nat.zero_le _, rfl, by simp [BidsOk], Fr.refl _ _⟩
    case round =>
      obtain ⟨k, hk, rfl, hok, hf⟩ := hrel
      have HOK := Lib.hid hok
      have HF := Lib.hid hf
      clear hok
      by_cases hlt : k < l.length
      · obtain ⟨bl, off, rfl, hc⟩ := h3 (by omega)
        obtain ⟨hc1, hc2⟩ := hc k hlt
        have hcell1 := hf.cell hc1 (by simp)
        have hcell2 := hf.cell hc2 (by simp)
        obtain ⟨x, hx⟩ : ∃ x, x = (l.getD k (0, 0)).1 := ⟨_, rfl⟩
        obtain ⟨y, hy⟩ : ∃ y, y = (l.getD k (0, 0)).2 := ⟨_, rfl⟩
        rw [← hx] at hcell1
        rw [← hy] at hcell2
        have HX := Lib.hid hx
        have HY := Lib.hid hy
        clear hx hy hc hc1 hc2 h3 hf
        have hcase : (x ∈ ms ∧ 0 ≤ y ∧ y ≤ 1048576) ∨ (¬ x ∈ ms) ∨ (x ∈ ms ∧ ¬ 0 ≤ y) ∨ (x ∈ ms ∧ 0 ≤ y ∧ ¬ y ≤ 1048576) := by
          by_cases q : x ∈ ms
          · rcases (show (0 ≤ y ∧ y ≤ 1048576) ∨ ¬ 0 ≤ y ∨ (0 ≤ y ∧ ¬ y ≤ 1048576) by omega) with h | h | h
            · exact .inl ⟨q, h⟩
            · exact .inr (.inr (.inl ⟨q, h⟩))
            · exact .inr (.inr (.inr ⟨q, h⟩))
          · exact .inr (.inl q)
        rcases hcase with ⟨hm, hy0, hy1⟩ | hm | ⟨hm, hy0⟩ | ⟨hm, hy0, hy1⟩
        · have HC := Lib.hid (yes hm)
          have HN := Lib.hid (bids_step (ms := ms) hlt HOK.out (HX.out ▸ hm) (HY.out ▸ hy0) (HY.out ▸ hy1))
          clear hm
          go_wp2_with fail
          refine (among_any _ ms x _ HC.out _ (HU.out.keep HF.out)).mono ?_
          rintro e w1 ⟨rfl, rfl⟩
          go_wp2
          go_roundw
          case rel => exact ⟨k + 1, by omega, by go_num, HN.out, HF.out⟩
          case measure => simp [intOf]; omega
        all_goals
          have HN : Hid (bidsC ms l = 3) := by show _ = _; unfold bidsC; rw [if_neg hlen, if_pos (bids_no hlt (by rw [← HX.out, ← HY.out]; rintro ⟨q1, q2, q3⟩; first | exact hm q1 | exact hy0 q2 | exact hy1 q3))]
          first | have HC := Lib.hid (yes (P := x ∈ ms) hm) | have HC := Lib.hid (no (P := x ∈ ms) hm)
          clear hm
          go_wp2_with fail
          refine (among_any _ ms x _ HC.out _ (HU.out.keep HF.out)).mono ?_
          rintro e w1 ⟨rfl, rfl⟩
          go_wp2
          go_ret
          exact ⟨by rw [HN.out]; rfl, HF.out⟩
      · obtain rfl : k = l.length := by omega
        have hall : BidsOk ms l := by have := HOK.out; rwa [List.take_length] at this
        have HALL := Lib.hid hall
        clear hall hf
        go_wp2
        go_loopw [6] (fun i wr => ∃ k : Nat, 1 ≤ k ∧ (k ≤ l.length ∨ k = 1) ∧ i = .int .i64 k ∧ (∀ i, i + 1 < k → (l.map (·.1)).getD i 0 < (l.map (·.1)).getD (i + 1) 0) ∧ Fr w wr []) (fun i _ => l.length + 1 - (intOf i).toNat)
        case atStart => exact ⟨1, by omega, .inr rfl, rfl, fun i hi => by omega, HF.out⟩
        case round =>
          obtain ⟨k, hk1, hk, rfl, hno, hf⟩ := hrel
          have HN := Lib.hid hno
          have HF := Lib.hid hf
          have HK := Lib.hid hk
          clear hno hk
          by_cases hlt : k < l.length
          · obtain ⟨bl, off, rfl, hc⟩ := h3 (by omega)
            have hcell := hf.cell (hc (k - 1) (by omega)).1 (by simp)
            have hcell2 := hf.cell (hc k hlt).1 (by simp)
            obtain ⟨y, hy⟩ : ∃ y, y = (l.getD (k - 1) (0, 0)).1 := ⟨_, rfl⟩
            obtain ⟨z, hz⟩ : ∃ z, z = (l.getD k (0, 0)).1 := ⟨_, rfl⟩
            rw [← hy] at hcell
            rw [← hz] at hcell2
            have HY : Hid (y = (l.map (·.1)).getD (k - 1) 0) := by show _ = _; rw [hy, map_fst]
            have HZ : Hid (z = (l.map (·.1)).getD k 0) := by show _ = _; rw [hz, map_fst]
            have hn0 : (0 : Int) ≤ (k : Int) - 1 := by omega
            have hn3 : (k : Int) - 1 < (l.length : Int) := by omega
            have hn4 : (1 : Int) ≤ (k : Int) := by omega
            have hn1 : ((k : Int) - 1).toNat = k - 1 := by omega
            have hn2 : IntKind.i64.wrap ((k : Int) - 1) = (k : Int) - 1 := IntWalk.i64_in _ (by omega)
            clear hy hz hc h3 hf
            by_cases hyz : z ≤ y
            · have HT : Hid (bidsC ms l = 11) := by
                have hr : ¬ Rise (l.map (·.1)) := by
                  intro hr
                  have := hr (k - 1) (by simp; omega)
                  rw [show k - 1 + 1 = k by omega, ← HY.out, ← HZ.out] at this; omega
                show _ = _
                unfold bidsC; rw [if_neg hlen, if_neg (fun q => q HALL.out), if_pos hr]
              go_wp2
              go_quiet (fail)
              go_wp2
              go_ret
              exact ⟨by rw [HT.out]; rfl, HF.out.trans (Fr.drewN _ _ _)⟩
            · have HN2 := Lib.hid (rise_step hk1 HN.out (by rw [← HY.out, ← HZ.out]; omega))
              go_wp2
              go_quiet (fail)
              clear hn1 hn2
              go_wp2
              go_roundw
              case rel => exact ⟨k + 1, by omega, .inl (by omega), by go_num, HN2.out, HF.out.trans (Fr.drewN _ _ _)⟩
              case measure => simp [intOf]; omega
          · have HT : Hid (bidsC ms l = 0) := by
              have hr : Rise (l.map (·.1)) := by
                intro i hi
                rw [List.length_map] at hi
                exact HN.out i (by omega)
              show _ = _
              unfold bidsC; rw [if_neg hlen, if_neg (fun q => q HALL.out), if_neg (fun q => q hr)]
            clear h3 hf
            go_wp2
            go_ret
            exact ⟨by rw [HT.out]; rfl, HF.out⟩
end Go.Proofs.YtpeocdcciecpoaaDoor
