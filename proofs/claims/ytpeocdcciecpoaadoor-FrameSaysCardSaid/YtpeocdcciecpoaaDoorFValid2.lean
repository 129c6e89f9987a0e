/- The program's Valid: the bids of an entry. -/
import Derived.Test.YtpeocdcciecpoaaDoorFValid
namespace Go.Proofs.YtpeocdcciecpoaaDoor
open Go.RowKit Fm

set_option maxHeartbeats 1000000 in
set_option maxRecDepth 100000 in
theorem validBids_any (v : Value) (l : List (Int × Int)) (u : Value) (ms : List Int) (w : World) (A : Nat → Addr) (B : Nat) (is : List Nat) (hE : EV is w A B) (h : HB w v l) (hu : Holds .i64 w u ms) (hms : ms.length ≤ 1000000) (hs : ∀ i ∈ [2, 3, 10], i ∈ is := by decide) :
    Calls Tryd.prog 84 #[v, u] w fun e w' => e = .returned (ev A (bidsC ms l)) ∧ Fr w w' [] := by
  have hR := hE.range (hs 2 (by decide))
  have hM := hE.many (hs 3 (by decide))
  have hT := hE.twice (hs 10 (by decide))
  have HU := Lib.hid hu
  obtain ⟨a, cap, rfl, h1, h2, h3⟩ := h
  obtain ⟨au, capu, rfl, hu1, hu2, _⟩ := hu
  unfold maxLen at h2 hu2
  clear hE hs
  by_cases hlen : ms.length < l.length
  · have HF : Hid (bidsC ms l = 4) := by show _ = _; unfold bidsC; rw [if_pos hlen]
    clear h3
    go_enter Tryd.func84, Tryd.ntmps84
    go_wp2
    go_ret
    exact ⟨by rw [HF.out]; rfl, Fr.refl _ _⟩
  · have hmk := makeInts w l.length (by omega) (l.length : Int) rfl
    have hrow := heap_alloc_new w (.cells (i64s (List.replicate l.length 0)).toArray 3)
    have HROW := Lib.hid hrow
    clear hrow
    go_enter Tryd.func84, Tryd.ntmps84
    go_wp2
    have HMK := Lib.hid hmk
    clear hmk
    go_loopw [19] (fun i wr => ∃ (k : Nat) (L : List Int), k ≤ l.length ∧ i = .int .i64 k ∧ BidsOk ms (l.take k) ∧ L.length = l.length ∧ L.take k = (l.take k).map (·.1) ∧ wr.heap[w.heap.size]? = some (.cells (i64s L).toArray 3 (0, 0)) ∧ Fr w wr []) (fun i _ => l.length - (intOf i).toNat)
    case atStart => exact ⟨0, List.replicate l.length 0, Nat.zero_le _, rfl, by simp [BidsOk], by simp, by simp, HROW.out, Fr.alloc _ _ _⟩
    case round =>
      obtain ⟨k, L, hk, rfl, hok, hL, ht, hrow, hf⟩ := hrel
      have HOK := Lib.hid hok
      have HL := Lib.hid hL
      have HTK := Lib.hid ht
      have HROW2 := Lib.hid hrow
      have HF := Lib.hid hf
      clear hok hL ht hrow
      by_cases hlt : k < l.length
      · obtain ⟨bl, off, rfl, hc⟩ := h3 (by omega)
        obtain ⟨hc1, hc2⟩ := hc k hlt
        have hcell1 := hf.cell hc1 (by simp)
        have hcell2 := hf.cell hc2 (by simp)
        obtain ⟨x, hx⟩ : ∃ x, x = (l.getD k (0, 0)).1 := ⟨_, rfl⟩
        obtain ⟨y, hy⟩ : ∃ y, y = (l.getD k (0, 0)).2 := ⟨_, rfl⟩
        rw [← hx] at hcell1
        rw [← hy] at hcell2
        have HX := Lib.hid hx
        have HY := Lib.hid hy
        have hR1 := hf.cell hR (by simp)
        clear hx hy hc hc1 hc2 h3 hf
        have hrow3 := (Fr.alloc wr (.cells #[.int .i64 x, .int .i64 y] 63) []).heap HROW2.out (by simp)
        have hcr : (wr.alloc (.cells #[.int .i64 x, .int .i64 y] 63)).cell? ⟨w.heap.size, k, none⟩ = some (.int .i64 (L.getD k 0)) := by
          rw [cell_of_row _ _ k _ _ _ hrow3]; have := HL.out; simp [i64s, show k < L.length by omega]
        have hfz := frozen_of_row _ _ k _ _ hrow3
        have HROW3 := Lib.hid hrow3
        have hR2 := (Fr.alloc wr (.cells #[.int .i64 x, .int .i64 y] 63) []).cell hR1 (by simp)
        clear hR1
        clear hrow3
        have hcase : (x ∈ ms ∧ 0 ≤ y ∧ y ≤ 1048576) ∨ (¬ x ∈ ms) ∨ (x ∈ ms ∧ ¬ 0 ≤ y) ∨ (x ∈ ms ∧ 0 ≤ y ∧ ¬ y ≤ 1048576) := by
          by_cases q : x ∈ ms
          · rcases (show (0 ≤ y ∧ y ≤ 1048576) ∨ ¬ 0 ≤ y ∨ (0 ≤ y ∧ ¬ y ≤ 1048576) by omega) with h | h | h
            · exact .inl ⟨q, h⟩
            · exact .inr (.inr (.inl ⟨q, h⟩))
            · exact .inr (.inr (.inr ⟨q, h⟩))
          · exact .inr (.inl q)
        rcases hcase with ⟨hm, hy0, hy1⟩ | hm | ⟨hm, hy0⟩ | ⟨hm, hy0, hy1⟩
        · have HC := Lib.hid (yes hm)
          have HN := Lib.hid (bids_step (ms := ms) hlt HOK.out (HX.out ▸ hm) (HY.out ▸ hy0) (HY.out ▸ hy1))
          have HT2 : Hid ((L.set k x).take (k + 1) = (l.take (k + 1)).map (·.1)) := by rw [HX.out]; exact map_set hlt HL.out HTK.out
          clear hm
          go_wp2_with fail
          refine (contains_any _ ms x _ HC.out _ (HU.out.keep (HF.out.trans (Fr.alloc _ _ _)))).mono ?_
          rintro e w1 ⟨rfl, rfl⟩
          go_wp2
          go_roundw
          case rel => exact ⟨k + 1, L.set k x, by omega, by go_num, HN.out, by simp [HL.out], HT2.out, by rw [heap_setCell_same _ _ k _ _ _ HROW3.out, i64s_set], (HF.out.trans (Fr.alloc _ _ _)).new (Fr.setCell _ _ _ _ (S := [w.heap.size]) (by simp)) (by simp)⟩
          case measure => simp [intOf]; omega
        all_goals
          have HN : Hid (bidsC ms l = 3) := by show _ = _; unfold bidsC; rw [if_neg hlen, if_pos (bids_no hlt (by rw [← HX.out, ← HY.out]; rintro ⟨q1, q2, q3⟩; first | exact hm q1 | exact hy0 q2 | exact hy1 q3))]
          first | have HC := Lib.hid (yes (P := x ∈ ms) hm) | have HC := Lib.hid (no (P := x ∈ ms) hm)
          clear hm
          go_wp2_with fail
          refine (contains_any _ ms x _ HC.out _ (HU.out.keep (HF.out.trans (Fr.alloc _ _ _)))).mono ?_
          rintro e w1 ⟨rfl, rfl⟩
          go_wp2
          go_ret
          exact ⟨by rw [HN.out]; rfl, HF.out.trans (Fr.alloc _ _ _)⟩
      · obtain rfl : k = l.length := by omega
        have hall : BidsOk ms l := by have := HOK.out; rwa [List.take_length] at this
        have hLe : L = l.map (·.1) := by have := HTK.out; rwa [← HL.out, List.take_length, HL.out, List.take_length] at this
        have hho := holds_row HROW2.out (by have := HL.out; unfold maxLen; omega) l.length HL.out.symm
        rw [hLe] at hho
        have HH := Lib.hid hho
        have hT1 := hf.cell hT (by simp)
        clear h3 hLe hho hf
        by_cases hr : Rise (l.map (·.1))
        · have HC := Lib.hid (yes hr)
          have HN : Hid (bidsC ms l = 0) := by show _ = _; unfold bidsC; rw [if_neg hlen, if_neg (by simpa using hall), if_neg (by simpa using hr)]
          clear hr hall
          go_wp2_with fail
          refine (rise_any _ _ _ HC.out _ HH.out).mono ?_
          rintro e w1 ⟨rfl, hf⟩
          go_wp2
          go_ret
          exact ⟨by rw [HN.out]; rfl, HF.out.trans hf⟩
        · have HC := Lib.hid (no hr)
          have HN : Hid (bidsC ms l = 11) := by show _ = _; unfold bidsC; rw [if_neg hlen, if_neg (by simpa using hall), if_pos hr]
          clear hr hall
          go_wp2_with fail
          refine (rise_any _ _ _ HC.out _ HH.out).mono ?_
          rintro e w1 ⟨rfl, hf⟩
          have hT2 := hf.cell hT1 (by simp)
          go_wp2
          go_ret
          exact ⟨by rw [HN.out]; rfl, HF.out.trans hf⟩
end Go.Proofs.YtpeocdcciecpoaaDoor
