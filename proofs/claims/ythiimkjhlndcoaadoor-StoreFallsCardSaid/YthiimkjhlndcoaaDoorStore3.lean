/- Package store: read (a slot is read), spare, Record. -/
import Derived.Test.YthiimkjhlndcoaaDoorStore2
import Derived.Deep.RegionWith
namespace Go.Proofs.YthiimkjhlndcoaaDoor
open Go.RowKit

theorem CS.get_ok (s : CS) (i : Nat) (hd : s.d = false) (hi : i < s.l.length) : s.get (i : Int) = (s.l.getD i 0, 0) := by
  unfold CS.get CS.has
  rw [if_neg (by rw [hd]; simp), if_pos (by simp; omega)]; rfl
theorem u8s_set (l : List Int) (i : Nat) (x : Int) : (u8s l).toArray.set! i (.int .u8 x) = (u8s (l.set i x)).toArray := by
  simp [u8s, List.map_set]

set_option maxHeartbeats 2000000 in
set_option maxRecDepth 100000 in
theorem read_any {is : List Nat} (p g : Nat) (s : CS) (k : Nat) (w : World) (A : Nat → Addr) (B : Nat) (h : Cl w p g s) (hd : s.d = false) (hlen : 26 ≤ s.l.length) (hk : k < 2) (hb : By8 s.l) (hE : EV is w A B) (hB : B ≤ w.heap.size) (m : Bool) (hm : m = decide (s.l.getD (13 * k) 0 = 1)) (hs : ∀ i ∈ [4, 5], i ∈ is := by decide) :
    Calls Tryd.prog 30 #[.pointer (some ⟨p, 0, none⟩), .int .i64 (k : Int)] w fun e w' => e = .returned (.tuple #[if m = true then .agg #[.int .i64 (numAt s.l (13 * k + 1)), .int .i64 (numAt s.l (13 * k + 7))] else .agg #[.int .i64 0, .int .i64 0], .bool m, .nilIface]) ∧ Fr w w' [] := by
  have H := Lib.hid h
  have HE := Lib.hid hE
  have HD := Lib.hid hd
  have HLEN := Lib.hid hlen
  have HB := Lib.hid hb
  have HM := Lib.hid hm
  clear h hE hd hlen hb hm
  go_enter Tryd.func30, Tryd.ntmps30
  go_wp2
  generalize hW1 : World.alloc (World.alloc w _) _ = W1
  have hq : W1.heap[w.heap.size + 1]? = some (.cells (u8s (List.replicate 13 0)).toArray 81 (0, 0)) := by
    rw [← hW1]
    have := heap_alloc_new (w.alloc (.cells #[.int .i64 0, .int .i64 0] 35)) (.cells #[.int .u8 0, .int .u8 0, .int .u8 0, .int .u8 0, .int .u8 0, .int .u8 0, .int .u8 0, .int .u8 0, .int .u8 0, .int .u8 0, .int .u8 0, .int .u8 0, .int .u8 0] 81)
    rw [show (u8s (List.replicate 13 0)).toArray = #[.int .u8 0, .int .u8 0, .int .u8 0, .int .u8 0, .int .u8 0, .int .u8 0, .int .u8 0, .int .u8 0, .int .u8 0, .int .u8 0, .int .u8 0, .int .u8 0, .int .u8 0] from rfl]
    simpa using this
  have hr : W1.heap[w.heap.size]? = some (.cells #[.int .i64 0, .int .i64 0] 35 (0, 0)) := by
    rw [← hW1, Below.heap_alloc _ _ _ (by simp)]; exact heap_alloc_new w _
  have hf1 : Fr w W1 [] := by rw [← hW1]; exact (Fr.alloc _ _ _).trans (Fr.alloc _ _ _)
  have hlt := H.out.lt
  have HQ := Lib.hid hq
  have HR := Lib.hid hr
  have HF1 := Lib.hid hf1
  have HS1 := Lib.hid (show W1.heap.size = w.heap.size + 2 by rw [← hW1]; simp)
  have HLT := Lib.hid hlt
  clear hq hr hf1 hW1 hlt
  go_loopw [11] (fun x wr => ∃ (j : Nat) (L : List Int), j ≤ 13 ∧ x = .int .i64 j ∧ L.length = 13 ∧ (∀ i, i < j → L.getD i 0 = s.l.getD (13 * k + i) 0) ∧ wr.heap[w.heap.size + 1]? = some (.cells (u8s L).toArray 81 (0, 0)) ∧ Fr W1 wr [w.heap.size + 1]) (fun x _ => 13 - (intOf x).toNat)
  case atStart => exact ⟨0, _, Nat.zero_le _, rfl, by simp, fun i hi => absurd hi (by omega), HQ.out, Fr.refl _ _⟩
  case round =>
    obtain ⟨j, L, hj, rfl, hL, hg, hrow, hf⟩ := hrel
    have HL := Lib.hid hL
    have HG := Lib.hid hg
    have HROW := Lib.hid hrow
    have HF := Lib.hid (show Fr w wr [w.heap.size + 1] from (HF1.out.mono (by simp)).trans hf)
    have HFW := Lib.hid hf
    clear hL hg hrow hf
    by_cases hlt : j < 13
    · have hget : Calls Tryd.prog 23 #[.pointer (some ⟨p, 0, none⟩), .int .i64 ((k : Int) * 13 + (j : Int))] wr fun e w' => e = .returned (.tuple #[.int .u8 (s.l.getD (13 * k + j) 0), .nilIface]) ∧ Drawn wr w' := by
        have := cellGet_any p g s ((13 * k + j : Nat) : Int) wr A B (H.out.fr HF.out (by have := HLT.out; simp; omega) (by have := HLT.out; simp; omega)) (HE.out.fr HF.out (by simp; omega)) hs
        rw [s.get_ok _ HD.out (by have := HLEN.out; omega), show ((13 * k + j : Nat) : Int) = (k : Int) * 13 + (j : Int) by omega] at this
        exact this
      obtain ⟨y, hy⟩ : ∃ y, y = s.l.getD (13 * k + j) 0 := ⟨_, rfl⟩
      rw [← hy] at hget
      have HGET := Lib.hid hget
      have HY := Lib.hid hy
      clear hget hy
      go_wp2_with fail
      refine HGET.out.mono ?_
      rintro e w2 ⟨rfl, hd2⟩
      have hrow2 := (hd2.fr []).heap HROW.out (by simp)
      have hfz := frozen_of_row w2 (w.heap.size + 1) j _ _ hrow2
      have hcl : w2.cell? ⟨w.heap.size + 1, j, none⟩ = some (.int .u8 (L.getD j 0)) := by rw [cell_of_row w2 _ j _ _ _ hrow2]; have := HL.out; simp [u8s, show j < L.length by omega]
      have HF2 := Lib.hid (HFW.out.trans (hd2.fr [w.heap.size + 1]))
      have HROW2 := Lib.hid hrow2
      clear hrow2 hd2
      go_wp2
      go_roundw
      case rel =>
        refine ⟨j + 1, L.set j y, by omega, by go_num, by simpa using HL.out, fun i hi => ?_, ?_, HF2.out.trans (Fr.setCell _ _ _ _ (by simp))⟩
        · by_cases hij : i = j
          · subst hij; rw [← HY.out]; have := HL.out; simp [show i < L.length by omega]
          · rw [← HG.out i (by omega)]; simp [List.getD, show ¬ j = i by omega]
        · rw [heap_setCell_same w2 _ j _ _ _ HROW2.out]; simp [u8s, List.map_set]
      case measure => simp [intOf]; omega
    · obtain rfl : j = 13 := by omega
      have hc : ∀ W, Fr wr W [w.heap.size] → ∀ i, i < 13 → W.cell? ⟨w.heap.size + 1, i, none⟩ = some (.int .u8 (s.l.getD (13 * k + i) 0)) := by
        intro W hW i hi
        rw [cell_of_row W _ i _ _ _ (hW.heap HROW.out (by simp))]
        have := HL.out
        rw [← HG.out i (by omega)]
        simp [u8s, show i < L.length by omega]
      have hc0 := hc wr (Fr.refl _ _) 0 (by omega)
      have hm := HM.out
      rw [show 13 * k + 0 = 13 * k from rfl] at hc0
      obtain ⟨y, hy⟩ : ∃ y, y = s.l.getD (13 * k) 0 := ⟨_, rfl⟩
      rw [← hy] at hc0 hm
      have HC := Lib.hid hc
      have hrec : wr.heap[w.heap.size]? = some (.cells #[.int .i64 0, .int .i64 0] 35 (0, 0)) := HFW.out.heap HR.out (by simp)
      have r0 := cell_of_row _ _ 0 _ _ _ hrec
      have r1 := cell_of_row _ _ 1 _ _ _ hrec
      have y0 := frozen_of_row _ _ 0 _ _ hrec
      have y1 := frozen_of_row _ _ 1 _ _ hrec
      simp at r0 r1
      have HREC := Lib.hid hrec
      clear hc hrec
      cases m with
      | false =>
        have hne : (y != 1) = true := by have := of_decide_eq_false hm.symm; simpa using this
        clear hm hy
        go_wp2
        refine bodyPost_ret (v := .tuple #[.agg #[.int .i64 0, .int .i64 0], .bool false, .nilIface]) (by simp [results, Tryd.results30, go_sem, r0, r1]) rfl ⟨rfl, ?_⟩
        exact HF1.out.comb (((HFW.out.mono (T := [w.heap.size + 1, w.heap.size]) (by simp)).trans (Fr.setCell _ _ _ _ (by simp))).trans (Fr.setCell _ _ _ _ (by simp))) (by simp) (by simp)
      | true =>
        have hy1 : y = 1 := of_decide_eq_true hm.symm
        subst hy1
        clear hm hy
        have hnum : ∀ (i : Nat), (i = 1 ∨ i = 7) → ∀ W, Fr wr W [] → ∀ v, (∃ cap, 6 ≤ cap ∧ cap ≤ 13 ∧ v = .slice (some ⟨w.heap.size + 1, i, none⟩) 6 cap) → Calls Tryd.prog 38 #[v] W fun e w' => e = .returned (.int .i64 (numAt s.l (13 * k + i))) ∧ W = w' := by
          rintro i hi W hW v ⟨cap, hc6, hc13, rfl⟩
          have := number_any [s.l.getD (13 * k + i) 0, s.l.getD (13 * k + i + 1) 0, s.l.getD (13 * k + i + 2) 0, s.l.getD (13 * k + i + 3) 0, s.l.getD (13 * k + i + 4) 0, s.l.getD (13 * k + i + 5) 0] (.slice (some ⟨w.heap.size + 1, i, none⟩) 6 cap) W ?_ ?_ (by simp)
          · have e : ∀ a b c d e f : Int, numL [a, b, c, d, e, f] = ((((a * 256 + b) * 256 + c) * 256 + d) * 256 + e) * 256 + f := by intros; simp [numL]
            rw [e] at this
            exact this
          · refine ⟨_, cap, rfl, hc6, by unfold maxLen; omega, fun _ => ⟨_, _, rfl, fun j hj => ?_⟩⟩
            have hj' : j < 6 := hj
            have hcl := HC.out W (hW.mono (by simp)) (i + j) (by omega)
            rw [hcl, ← Nat.add_assoc]
            have hs : j = 0 ∨ j = 1 ∨ j = 2 ∨ j = 3 ∨ j = 4 ∨ j = 5 := by omega
            rcases hs with rfl | rfl | rfl | rfl | rfl | rfl <;> rfl
          · intro x hx
            simp only [List.mem_cons, List.not_mem_nil, or_false] at hx
            rcases hx with rfl | rfl | rfl | rfl | rfl | rfl <;> exact HB.out.get _
        have hn1 := fun W (hW : Fr wr W []) => hnum 1 (.inl rfl) W hW _ ⟨12, by omega, by omega, rfl⟩
        have hn7 := fun W (hW : Fr wr W []) => hnum 7 (.inr rfl) W hW _ ⟨6, by omega, by omega, rfl⟩
        obtain ⟨c, hc⟩ : ∃ c, c = numAt s.l (13 * k + 1) := ⟨_, rfl⟩
        obtain ⟨n, hn⟩ : ∃ c, c = numAt s.l (13 * k + 7) := ⟨_, rfl⟩
        rw [← hc] at hn1
        rw [← hn] at hn7
        have HCE := Lib.hid hc
        have HNE := Lib.hid hn
        have HN1 := Lib.hid hn1
        have HN7 := Lib.hid hn7
        clear hnum hn1 hn7 hc hn
        go_wp2
        go_region_with ((first
          | (go_at_call 38; ((with_reducible refine (HN1.out _ (Fr.drew _ _)).mono ?_); rintro e w' ⟨rfl, rfl⟩))
          | (go_at_call 38; ((with_reducible refine (HN7.out _ (Fr.drew _ _)).mono ?_); rintro e w' ⟨rfl, rfl⟩))))
        all_goals
          go_wp2
          rw [← HCE.out, ← HNE.out]
          refine bodyPost_ret (v := .tuple #[.agg #[.int .i64 c, .int .i64 n], .bool true, .nilIface]) (by simp [results, Tryd.results30, go_sem, r0, r1]) rfl ⟨rfl, ?_⟩
          exact HF1.out.comb ((((HFW.out.mono (T := [w.heap.size + 1, w.heap.size]) (by simp)).trans (Fr.setCell _ _ _ _ (by simp))).trans (Fr.setCell _ _ _ _ (by simp))).trans (Fr.drew _ _)) (by simp) (by simp)
end Go.Proofs.YthiimkjhlndcoaaDoor
