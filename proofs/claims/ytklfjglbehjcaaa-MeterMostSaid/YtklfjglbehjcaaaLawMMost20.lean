/- The meter's law of the most (the kind of which there are most is none that another one beats; set back there is none): its walk. -/
import Derived.Test.YtklfjglbehjcaaaMeter3
import Derived.Test.YtklfjglbehjcaaaLawMAdds20
namespace Go.Proofs.Ytklfjglbehjcaaa
open Go.RowKit

set_option maxHeartbeats 2000000 in
set_option maxRecDepth 100000 in
theorem mmost_walk (v : Value) (l : List Int) (hw : ∀ n ∈ l, (Lit.int .i64 n).wf = true) (w : World) (h : Holds .i64 w v l) :
    Calls Try.prog 5 #[v] w fun e w' => e = .returned (.bool true) ∧ w.grownBy w' none := by
  obtain ⟨a, cap, rfl, h1, h2, h3⟩ := h
  unfold maxLen at h2
  have HC := Lib.hid h3
  have HW := Lib.hid hw
  clear h3 hw
  by_cases hl : l.length ≤ 60
  · go_enter Try.func5, Try.ntmps5
    go_wp2_with fail
    refine (mfirst_any _).mono ?_
    rintro e w1 ⟨rfl, hf⟩
    have M1 := Lib.hid (new_mt w1)
    have FF := Lib.hid (hf.trans (Fr.alloc w1 (.cells #[.int .i64 0, .int .i64 0, .int .i64 0, .int .i64 0, .int .i64 0, .int .i64 0, .int .i64 0, .int .i64 0, .int .i64 0, .int .i64 0, .int .i64 0] 32) []))
    have HP := Lib.hid hf.size
    clear hf
    go_wp2
    go_loopw [5] (fun i wr => ∃ (k : Nat) (g : Nat → Int), k ≤ l.length ∧ i = .int .i64 k ∧ Mt wr w1.heap.size g ∧ Few g k ∧ sm g 11 = k ∧ Fr w wr []) (fun i _ => l.length - (intOf i).toNat)
    case atStart => exact ⟨0, zN, by omega, rfl, M1.out, Few.zero, by decide, FF.out⟩
    case round =>
      obtain ⟨k, g, hk, rfl, hm, hg, hs, hf⟩ := hrel
      clear M1 FF
      have M0 := Lib.hid hm
      have G0 := Lib.hid hg
      have S0 := Lib.hid hs
      have F0 := Lib.hid hf
      clear hm hg hs hf
      by_cases hlt : k < l.length
      · obtain ⟨b, off, rfl, hc⟩ := HC.out (by omega)
        obtain ⟨x, hx⟩ : ∃ x, x = l.getD k 0 := ⟨_, rfl⟩
        have hck := F0.out.cell (hc k hlt) (by simp)
        rw [← hx] at hck
        have hwx := HW.out x (by rw [hx, List.getD_eq_getElem?_getD, List.getElem?_eq_getElem hlt]; exact List.getElem_mem hlt)
        obtain ⟨c, hcr, _, hnum⟩ := numberTo_nat x 11 (by omega) (by omega) hwx
        have HN := Lib.hid hnum
        clear hc hx hnum hwx
        go_wp2_with fail
        refine (HN.out _).mono ?_
        rintro e w2 ⟨rfl, rfl⟩
        go_wp2_with fail
        refine (madd_yes w1.heap.size g k c _ M0.out hcr G0.out (by omega)).mono ?_
        rintro e w2 ⟨rfl, h, hf⟩
        have M2 := Lib.hid h
        have F2 := Lib.hid (F0.out.new hf (by have := HP.out; simp; omega))
        have S2 := Lib.hid (show sm (upN g c (g c + 1)) 11 = ((k + 1 : Nat) : Int) by rw [sm_up, S0.out, if_pos hcr]; omega)
        have G2 := Lib.hid (show Few (upN g c (g c + 1)) ((k + 1 : Nat) : Int) by have := G0.out.up c; rwa [show ((k + 1 : Nat) : Int) = (k : Int) + 1 by omega])
        clear h hf
        go_wp2
        go_roundw
        case rel => exact ⟨k + 1, _, by omega, by go_num, M2.out, G2.out, S2.out, F2.out⟩
        case measure => simp [intOf]; omega
      · obtain rfl : k = l.length := by omega
        have HB := Lib.hid (show decide ((l.length : Int) > 0) = decide (0 < mk g 11) by rw [← S0.out]; exact decide_eq_decide.2 (sm_pos G0.out 11))
        obtain ⟨y, hy⟩ : ∃ y, y = decide ((l.length : Int) > 0) := ⟨_, rfl⟩
        go_wp2_with fail
        refine (mmost_any w1.heap.size g _ M0.out y (by rw [hy, HB.out])).mono ?_
        rintro e w2 ⟨rfl, hf⟩
        have M2 := Lib.hid (M0.out.fr hf (by simp))
        have F2 := Lib.hid (F0.out.trans hf)
        have HY := Lib.hid hy
        clear hf hy
        go_wp2
        go_loopw [8, 9, 10] (fun s i x wr => ∃ k : Nat, k ≤ 11 ∧ i = .int .i64 ((k : Int) + 1) ∧ s = .int .i64 (sm g k) ∧ Mt wr w1.heap.size g ∧ Fr w wr []) (fun _ i _ _ => 12 - (intOf i).toNat)
        case atStart => exact ⟨0, by omega, rfl, rfl, M2.out, F2.out⟩
        case round =>
          obtain ⟨k, hk, rfl, rfl, hm, hf⟩ := hrel
          clear M0 F0 M2 F2
          have M0 := Lib.hid hm
          have F0 := Lib.hid hf
          clear hm hf
          obtain ⟨s, es⟩ : ∃ s, s = sm g k := ⟨_, rfl⟩
          rw [← es]
          have ES := Lib.hid es
          by_cases hlt : k < 11
          · have hb : 0 ≤ s ∧ s ≤ 660 := by
              have := sm_few G0.out k
              have h3 : (k : Int) * l.length ≤ 11 * l.length := Int.mul_le_mul_of_nonneg_right (by omega) (by omega)
              omega
            obtain ⟨x, ex⟩ : ∃ x, x = g k := ⟨_, rfl⟩
            have hgk : 0 ≤ x ∧ x ≤ 60 := by have := G0.out k; omega
            have HL := Lib.hid (mget_yes w1.heap.size g k _ M0.out hlt)
            rw [← ex] at HL
            have EX := Lib.hid ex
            obtain ⟨b0, b1⟩ := hb
            obtain ⟨c0, c1⟩ := hgk
            have HS := Lib.hid (show sm g (k + 1) = s + x by rw [ex, es]; rfl)
            clear es ex
            cases y with
            | false =>
              go_wp2_with fail
              refine HL.out.mono ?_
              rintro e w3 ⟨rfl, rfl⟩
              go_wp2
              go_roundw
              case rel => exact ⟨k + 1, by omega, by go_num, by rw [HS.out], M0.out, F0.out⟩
              case measure => simp [intOf]; omega
            | true =>
              have hpos : 0 < mk g 11 := by have := HY.out; rw [HB.out] at this; exact of_decide_eq_true this.symm
              obtain ⟨m', hm'⟩ : ∃ m', mk g 11 = m' + 1 := ⟨mk g 11 - 1, by omega⟩
              have hm11 : m' < 11 := by have := mk_le g 11; omega
              have HT := Lib.hid (mget_yes w1.heap.size g m' _ M0.out hm11)
              have hmn := mn_at g 11 m' hm'
              have hmx := mn_max g 11 k hlt
              obtain ⟨z, ez⟩ : ∃ z, z = g m' := ⟨_, rfl⟩
              rw [← ez] at HT
              have hle : ¬ z < x := by rw [EX.out, ez, ← hmn]; omega
              have hki : z = x → ¬ k < m' := by
                intro e2 e3
                have := mk_least g 11 k (by omega)
                rw [hmn, ← EX.out, ← ez] at this
                omega
              have hmk : ((mk g 11 : Nat) : Int) = (m' : Int) + 1 := by omega
              rw [hmk]
              have EZ := Lib.hid ez
              clear hmn hmx ez hpos hmk hm'
              by_cases e2 : x = z
              · have e3 : ¬ (k : Int) + 1 < (m' : Int) + 1 := by have := hki e2.symm; omega
                subst e2
                go_wp2_with fail
                refine HL.out.mono ?_
                rintro e w3 ⟨rfl, rfl⟩
                go_wp2_with fail
                refine HT.out.mono ?_
                rintro e w3 ⟨rfl, rfl⟩
                go_wp2_with fail
                refine HT.out.mono ?_
                rintro e w3 ⟨rfl, rfl⟩
                go_wp2
                go_roundw
                case rel => exact ⟨k + 1, by omega, by go_num, by rw [HS.out], M0.out, F0.out⟩
                case measure => simp [intOf]; omega
              · clear hki
                go_wp2_with fail
                refine HL.out.mono ?_
                rintro e w3 ⟨rfl, rfl⟩
                go_wp2_with fail
                refine HT.out.mono ?_
                rintro e w3 ⟨rfl, rfl⟩
                go_wp2_with fail
                refine HT.out.mono ?_
                rintro e w3 ⟨rfl, rfl⟩
                go_wp2
                go_roundw
                case rel => exact ⟨k + 1, by omega, by go_num, by rw [HS.out], M0.out, F0.out⟩
                case measure => simp [intOf]; omega
          · obtain rfl : k = 11 := by omega
            have hsl : s = (l.length : Int) := by rw [es, S0.out]
            subst hsl
            clear es ES
            cases y with
            | false =>
              have hp : ¬ ((l.length : Int) > 0) := of_decide_eq_false HY.out.symm
              obtain rfl : l = [] := List.eq_nil_of_length_eq_zero (by omega)
              clear hp
              have HS := Lib.hid (msum_any w1.heap.size g _ _ M0.out G0.out (by omega))
              rw [S0.out] at HS
              go_wp2_with fail
              refine HS.out.mono ?_
              rintro e w3 ⟨rfl, hf⟩
              have M3 := Lib.hid (M0.out.fr hf (by simp))
              have F3 := Lib.hid (F0.out.trans hf)
              clear hf
              go_wp2_with fail
              refine (mget_no w1.heap.size 0 _ (by omega)).mono ?_
              rintro e w4 ⟨rfl, rfl⟩
              go_wp2_with fail
              refine (mget_no w1.heap.size 12 _ (by omega)).mono ?_
              rintro e w4 ⟨rfl, rfl⟩
              go_wp2_with fail
              refine (mreset_any w1.heap.size g _ M3.out).mono ?_
              rintro e w4 ⟨rfl, hm, hf⟩
              have M4 := Lib.hid hm
              have F4 := Lib.hid (F3.out.new hf (by have := HP.out; simp; omega))
              clear hm hf
              go_wp2_with fail
              refine (mmost_any w1.heap.size zN _ M4.out false (by decide)).mono ?_
              rintro e w5 ⟨rfl, hf⟩
              have M5 := Lib.hid (M4.out.fr hf (by simp))
              have F5 := Lib.hid (F4.out.trans hf)
              clear hf
              have HS0 := Lib.hid (msum_any w1.heap.size _ 0 _ M5.out Few.zero (by omega))
              rw [show sm zN 11 = 0 by decide] at HS0
              go_wp2_with fail
              refine HS0.out.mono ?_
              rintro e w6 ⟨rfl, hf⟩
              have F6 := Lib.hid (F5.out.trans hf)
              clear hf
              go_wp2
              go_ret
              exact ⟨rfl, F6.out.grown (by simp)⟩
            | true =>
              have hp : (l.length : Int) > 0 := of_decide_eq_true HY.out.symm
              have HS := Lib.hid (msum_any w1.heap.size g _ _ M0.out G0.out (by omega))
              rw [S0.out] at HS
              go_wp2_with fail
              refine HS.out.mono ?_
              rintro e w3 ⟨rfl, hf⟩
              have M3 := Lib.hid (M0.out.fr hf (by simp))
              have F3 := Lib.hid (F0.out.trans hf)
              clear hf
              go_wp2_with fail
              refine (mget_no w1.heap.size 0 _ (by omega)).mono ?_
              rintro e w4 ⟨rfl, rfl⟩
              go_wp2_with fail
              refine (mget_no w1.heap.size 12 _ (by omega)).mono ?_
              rintro e w4 ⟨rfl, rfl⟩
              go_wp2_with fail
              refine (mreset_any w1.heap.size g _ M3.out).mono ?_
              rintro e w4 ⟨rfl, hm, hf⟩
              have M4 := Lib.hid hm
              have F4 := Lib.hid (F3.out.new hf (by have := HP.out; simp; omega))
              clear hm hf
              go_wp2_with fail
              refine (mmost_any w1.heap.size zN _ M4.out false (by decide)).mono ?_
              rintro e w5 ⟨rfl, hf⟩
              have M5 := Lib.hid (M4.out.fr hf (by simp))
              have F5 := Lib.hid (F4.out.trans hf)
              clear hf
              have HS0 := Lib.hid (msum_any w1.heap.size _ 0 _ M5.out Few.zero (by omega))
              rw [show sm zN 11 = 0 by decide] at HS0
              go_wp2_with fail
              refine HS0.out.mono ?_
              rintro e w6 ⟨rfl, hf⟩
              have F6 := Lib.hid (F5.out.trans hf)
              clear hf
              go_wp2
              go_ret
              exact ⟨rfl, F6.out.grown (by simp)⟩
  · have hl' : ((l.length : Int) > 60) := by omega
    go_enter Try.func5, Try.ntmps5
    go_wp2_with fail
    refine (mfirst_any _).mono ?_
    rintro e w1 ⟨rfl, hf⟩
    go_wp2
    go_ret
    exact ⟨rfl, hf.grown (by simp)⟩
end Go.Proofs.Ytklfjglbehjcaaa
