/- The law of what is said: any numbers as a set, the least of any, who is among them, whether two lists are the same, who comes next in a set, are what the chapter says: its walk. -/
import Derived.Test.YtojekkmdbkmpkaaRSet
import Derived.Test.YtojekkmdbkmpkaaOFirst
namespace Go.Proofs.Ytojekkmdbkmpkaa
open Go.RowKit

/-- The least of the first ones, 0 of none. -/
def LowIs (l : List Int) (x : Int) : Prop := ∃ b, LeastIs l x b
theorem LowIs.nil : LowIs [] 0 := ⟨false, .inl ⟨rfl, rfl, rfl⟩⟩
theorem LowIs.one (y : Int) : LowIs [y] y := ⟨true, .inr ⟨rfl, by simp, by simp⟩⟩
theorem LowIs.new {l : List Int} {x y : Int} (h : LowIs l x) (hy : l = [] ∨ y < x) : LowIs (l ++ [y]) y := by
  obtain ⟨b, h⟩ := h
  refine ⟨true, .inr ⟨rfl, by simp, fun z hz => ?_⟩⟩
  rcases List.mem_append.1 hz with h' | h'
  · rcases h with ⟨rfl, _, _⟩ | ⟨_, _, h2⟩
    · simp at h'
    · have := h2 z h'
      rcases hy with rfl | hy
      · simp at h'
      · omega
  · obtain rfl := List.mem_singleton.1 h'; exact Int.le_refl _
theorem LowIs.old {l : List Int} {x y : Int} (h : LowIs l x) (h0 : l ≠ []) (hy : ¬ y < x) : LowIs (l ++ [y]) x := by
  obtain ⟨b, h⟩ := h
  rcases h with ⟨h, _⟩ | ⟨_, h1, h2⟩
  · exact absurd h h0
  · refine ⟨true, .inr ⟨rfl, by simp [h1], fun z hz => ?_⟩⟩
    rcases List.mem_append.1 hz with h' | h'
    · exact h2 z h'
    · obtain rfl := List.mem_singleton.1 h'; omega
theorem LowIs.is {l : List Int} {x y : Int} {b : Bool} (h : LowIs l x) (k : LeastIs l y b) : x = y := by
  obtain ⟨c, h⟩ := h; exact (h.unique k).1

set_option maxHeartbeats 4000000 in
set_option maxRecDepth 100000 in
theorem osays_walk (v1 : Value) (l : List Int) (v2 : Value) (m : List Int) (c : Int) (w : World) (h : HInts w v1 l) (hv : v1 = .slice none 0 0 ∨ ∃ x cp, v1 = .slice (some x) l.length cp) (h' : HInts w v2 m) :
    Calls Try.prog 4 #[v1, v2, .int .i64 c] w fun e w' => e = .returned (.bool true) ∧ w.grownBy w' none := by
  have HH := Lib.hid h
  have HK := Lib.hid h'
  have HV := Lib.hid hv
  obtain ⟨a, cap, rfl, _, _, hcl⟩ := h
  obtain ⟨a2, cap2, rfl, _⟩ := h'
  have HCL := Lib.hid hcl
  clear hv hcl
  by_cases hl : l.length ≤ 20
  · by_cases hm : m.length ≤ 20
    · go_enter Try.func4, Try.ntmps4
      go_wp2_with fail
      refine (first_any _).mono ?_
      rintro e w1 ⟨rfl, hf⟩
      have L1 := Lib.hid (HH.out.keep hf)
      have M1 := Lib.hid (HK.out.keep hf)
      have F1 := Lib.hid hf
      clear hf
      go_wp2_with fail
      refine (setS_any _ l w1 L1.out (by omega)).mono ?_
      rintro e w2 ⟨sv, rfl, ho, hg⟩
      have hf := Fr.of_grown hg []
      obtain ⟨s, hs⟩ : ∃ s, s = setOf l := ⟨_, rfl⟩
      have HR : Hid (Rises s) := by rw [hs]; exact setOf_rises l
      have hle : s.length ≤ l.length := by rw [hs]; exact setOf_length l
      have HSE := Lib.hid hs
      rw [← hs] at ho
      have S2 := Lib.hid ho.holds
      have L2 := Lib.hid (L1.out.keep hf)
      have M2 := Lib.hid (M1.out.keep hf)
      have F2 := Lib.hid (F1.out.trans hf)
      obtain ⟨sa, sc, rfl⟩ := row_shape ho
      obtain ⟨x, hx⟩ := next_some s c
      obtain ⟨d, hd⟩ : ∃ d, d = decide (c ∈ s) := ⟨_, rfl⟩
      rw [← hd] at hx
      have HX := Lib.hid hx
      obtain ⟨y, b, hy⟩ := LeastIs.some l
      have HY := Lib.hid hy
      clear ho hg hf hs hx hd hy L1 M1 F1
      go_wp2_with fail
      refine (next_any _ s c _ S2.out (by omega) x d HX.out).mono ?_
      rintro e w3 ⟨rfl, rfl⟩
      go_wp2_with fail
      refine (nextS_any _ s c _ S2.out HR.out x d HX.out).mono ?_
      rintro e w3 ⟨rfl, rfl⟩
      go_wp2_with fail
      refine (least_any _ l _ L2.out y b HY.out).mono ?_
      rintro e w3 ⟨rfl, rfl⟩
      go_wp2
      go_loopw [15, 16] (fun le i wr => ∃ (k : Nat) (u : Int), k ≤ l.length ∧ i = .int .i64 k ∧ le = .int .i64 u ∧ LowIs (l.take k) u ∧ Fr w3 wr []) (fun _ i _ => l.length - (intOf i).toNat)
      case atStart => exact ⟨0, 0, by omega, rfl, rfl, LowIs.nil, Fr.refl _ _⟩
      case round =>
        obtain ⟨k, u, hk, rfl, rfl, hu, hf⟩ := hrel
        have U3 := Lib.hid hu
        have F3 := Lib.hid hf
        clear hu hf
        by_cases hlt : k < l.length
        · obtain ⟨bk, off, rfl, hc⟩ := HCL.out (by omega)
          obtain ⟨z, hz⟩ : ∃ z, z = l.getD k 0 := ⟨_, rfl⟩
          have g1 := (F2.out.trans F3.out).cell (hc k hlt) (by simp)
          have hsn := take_snoc l k hlt
          rw [← hz] at g1 hsn
          have HS := Lib.hid hsn
          clear hz hc hsn
          by_cases h0 : k = 0
          · subst h0
            rw [Nat.add_zero] at g1
            have hlt0 : (0 : Int) < (l.length : Int) := by omega
            have he0 : ((0 : Int) == 0) = true := by decide
            go_wp2
            go_roundw
            case rel => exact ⟨1, z, by omega, by go_num, rfl, by rw [HS.out]; exact U3.out.new (.inl (by simp)), F3.out⟩
            case measure => simp [intOf]; omega
          · have he0 : ((k : Int) == 0) = false := by rw [beq_eq_false_iff_ne]; omega
            have HNE : Hid (l.take k ≠ []) := by
              intro e
              have := congrArg List.length e
              rw [List.length_take, Nat.min_eq_left hk] at this
              exact h0 this
            by_cases hzu : z < u
            · go_wp2
              go_roundw
              case rel => exact ⟨k + 1, z, by omega, by go_num, rfl, by rw [HS.out]; exact U3.out.new (.inr hzu), F3.out⟩
              case measure => simp [intOf]; omega
            · go_wp2
              go_roundw
              case rel => exact ⟨k + 1, u, by omega, by go_num, rfl, by rw [HS.out]; exact U3.out.old HNE.out hzu, F3.out⟩
              case measure => simp [intOf]; omega
        · obtain rfl : k = l.length := by omega
          have hu := U3.out
          rw [List.take_length] at hu
          obtain rfl := hu.is HY.out
          have L3 := Lib.hid (L2.out.keep F3.out)
          have M3 := Lib.hid (M2.out.keep F3.out)
          have S3 := Lib.hid (S2.out.keep F3.out)
          obtain ⟨p, hp⟩ : ∃ p, p = decide (c ∈ l) := ⟨_, rfl⟩
          obtain ⟨t, ht⟩ : ∃ t, t = decide (l = m) := ⟨_, rfl⟩
          have HP := Lib.hid hp
          have HT := Lib.hid ht
          have HB : Hid (b = decide ((l.length : Int) > 0)) := by
            rcases HY.out with ⟨rfl, _, rfl⟩ | ⟨rfl, h1, _⟩
            · rfl
            · have := List.length_pos_of_mem h1
              exact (decide_eq_true (by omega)).symm
          clear hu hp ht
          go_wp2_with fail
          refine (set_any _ l _ L3.out HV.out (by omega)).mono ?_
          rintro e w4 ⟨uv, rfl, ho, hf⟩
          rw [← HSE.out] at ho
          have O4 := Lib.hid ho.holds
          have S4 := Lib.hid (S3.out.keep hf)
          have L4 := Lib.hid (L3.out.keep hf)
          have M4 := Lib.hid (M3.out.keep hf)
          have F4 := Lib.hid (F2.out.trans (F3.out.trans hf))
          clear ho hf
          go_wp2_with fail
          refine (sameI_quiet _ s _ s _ O4.out S4.out (by omega) true (by simp)).mono ?_
          rintro e w5 ⟨rfl, q, rfl⟩
          have L5 := Lib.hid (L4.out.keep (Fr.drewN w4 q []))
          have M5 := Lib.hid (M4.out.keep (Fr.drewN w4 q []))
          have F5 := Lib.hid (F4.out.trans (Fr.drewN w4 q []))
          go_wp2_with fail
          refine (has_any _ l c _ L5.out p HP.out).mono ?_
          rintro e w6 ⟨rfl, rfl⟩
          go_wp2_with fail
          refine (among_any _ l c _ L5.out p HP.out).mono ?_
          rintro e w6 ⟨rfl, rfl⟩
          have HBB : Hid (b = decide (0 < l.length)) := by show _ = _; rw [HB.out]; exact Bool.eq_iff_iff.2 (by simp)
          go_wp2_with fail
          refine (same_any _ l _ m _ L5.out M5.out t HT.out).mono ?_
          rintro e w6 ⟨rfl, q2, rfl⟩
          have L6 := Lib.hid (L4.out.keep (Fr.drewN w4 (q + q2) []))
          have M6 := Lib.hid (M4.out.keep (Fr.drewN w4 (q + q2) []))
          have F6 := Lib.hid (F4.out.trans (Fr.drewN w4 (q + q2) []))
          go_wp2_with fail
          refine (sameI_quiet _ l _ m _ L6.out M6.out (by omega) t HT.out).mono ?_
          rintro e w7 ⟨rfl, q3, rfl⟩
          have F7 := Lib.hid (F4.out.trans (Fr.drewN w4 (q + q2 + q3) []))
          go_wp2
          go_ret
          exact ⟨rfl, F7.out.grown (by simp)⟩
    · have hm2 : ((m.length : Int) > 20) := by omega
      have hl2 : ¬ ((l.length : Int) > 20) := by omega
      go_enter Try.func4, Try.ntmps4
      go_wp2_with fail
      refine (first_any _).mono ?_
      rintro e w1 ⟨rfl, hf⟩
      go_wp2
      go_ret
      exact ⟨rfl, hf.grown (by simp)⟩
  · have hl2 : ((l.length : Int) > 20) := by omega
    go_enter Try.func4, Try.ntmps4
    go_wp2_with fail
    refine (first_any _).mono ?_
    rintro e w1 ⟨rfl, hf⟩
    go_wp2
    go_ret
    exact ⟨rfl, hf.grown (by simp)⟩
end Go.Proofs.Ytojekkmdbkmpkaa
