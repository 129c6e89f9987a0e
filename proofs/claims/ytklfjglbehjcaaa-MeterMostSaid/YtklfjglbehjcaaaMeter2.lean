/- A meter: Add, Get, Sum, Reset, Most; the chapter's example. -/
import Derived.Test.YtklfjglbehjcaaaMeter
import Derived.BigRegion
namespace Go.Proofs.Ytklfjglbehjcaaa
open Go.RowKit

set_option maxRecDepth 100000 in
theorem madd_no (p : Nat) (x : Int) (w : World) (h : ¬ (1 ≤ x ∧ x ≤ 11)) :
    Calls Try.prog 7 #[.pointer (some ⟨p, 0, none⟩), .int .i64 x] w fun e w' => e = .returned (.bool false) ∧ w = w' := by
  have HN := Lib.hid h
  clear h
  go_enter Try.func7, Try.ntmps7
  go_wp2_with fail
  refine (is_no x _ HN.out).mono ?_
  rintro e w' ⟨rfl, rfl⟩
  go_wp2
  go_ret
  exact ⟨rfl, rfl⟩
set_option maxRecDepth 100000 in
theorem madd_yes (p : Nat) (g : Nat → Int) (m : Int) (k : Nat) (w : World) (h : Mt w p g) (hk : k < 11) (hg : Few g m) (hm : m ≤ 1000) :
    Calls Try.prog 7 #[.pointer (some ⟨p, 0, none⟩), .int .i64 ((k : Int) + 1)] w fun e w' => e = .returned (.bool true) ∧ Mt w' p (upN g k (g k + 1)) ∧ Fr w w' [p] := by
  have HS := Lib.hid (h.set k hk (g k + 1))
  have HA := Lib.hid (cadd_any p k (g k) w (h.at k hk) (h.fz k) (hg k).1 (by have := (hg k).2; omega))
  clear h hg hm
  go_enter Try.func7, Try.ntmps7
  go_wp2_with fail
  refine (is_yes k _ hk).mono ?_
  rintro e w' ⟨rfl, rfl⟩
  go_wp2_with fail
  refine HA.out.mono ?_
  rintro e w' ⟨rfl, rfl⟩
  go_wp2
  go_ret
  exact ⟨rfl, HS.out, Fr.setCell _ _ _ _ (by simp)⟩
set_option maxRecDepth 100000 in
theorem mget_no (p : Nat) (x : Int) (w : World) (h : ¬ (1 ≤ x ∧ x ≤ 11)) :
    Calls Try.prog 11 #[.pointer (some ⟨p, 0, none⟩), .int .i64 x] w fun e w' => e = .returned (.int .i64 0) ∧ w = w' := by
  have HN := Lib.hid h
  clear h
  go_enter Try.func11, Try.ntmps11
  go_wp2_with fail
  refine (is_no x _ HN.out).mono ?_
  rintro e w' ⟨rfl, rfl⟩
  go_wp2
  go_ret
  exact ⟨rfl, rfl⟩
set_option maxRecDepth 100000 in
theorem mget_yes (p : Nat) (g : Nat → Int) (k : Nat) (w : World) (h : Mt w p g) (hk : k < 11) :
    Calls Try.prog 11 #[.pointer (some ⟨p, 0, none⟩), .int .i64 ((k : Int) + 1)] w fun e w' => e = .returned (.int .i64 (g k)) ∧ w = w' := by
  have HA := Lib.hid (cload_any p k (g k) w (h.at k hk))
  clear h
  go_enter Try.func11, Try.ntmps11
  go_wp2_with fail
  refine (is_yes k _ hk).mono ?_
  rintro e w' ⟨rfl, rfl⟩
  go_wp2_with fail
  refine HA.out.mono ?_
  rintro e w' ⟨rfl, rfl⟩
  go_wp2
  go_ret
  exact ⟨rfl, rfl⟩
set_option maxRecDepth 100000 in
theorem msum_any (p : Nat) (g : Nat → Int) (m : Int) (w : World) (h : Mt w p g) (hg : Few g m) (hm : m ≤ 1000) :
    Calls Try.prog 10 #[.pointer (some ⟨p, 0, none⟩)] w fun e w' => e = .returned (.int .i64 (sm g 11)) ∧ Fr w w' [] := by
  have HT := Lib.hid h
  have HG := Lib.hid hg
  have HM := Lib.hid (show 0 ≤ m ∧ m ≤ 1000 from ⟨by have := hg 0; omega, hm⟩)
  clear h hg hm
  go_enter Try.func10, Try.ntmps10
  go_wp2
  go_loopw [3, 5] (fun s i wr => ∃ k : Nat, k ≤ 11 ∧ i = .int .i64 k ∧ s = .int .i64 (sm g k) ∧ Fr w wr []) (fun _ i _ => 11 - (intOf i).toNat)
  case atStart => exact ⟨0, by omega, rfl, rfl, Fr.refl _ _⟩
  case round =>
    obtain ⟨k, hk, rfl, rfl, hf⟩ := hrel
    by_cases hlt : k < 11
    · have HL := Lib.hid (cload_any p k (g k) wr ((HT.out.fr hf (by simp)).at k hlt))
      have F0 := Lib.hid hf
      have hs : sm g (k + 1) = sm g k + g k := rfl
      have hb : 0 ≤ sm g k ∧ sm g k ≤ 11000 := by
        have := sm_few HG.out k
        have h2 := HM.out
        have h3 : (k : Int) * m ≤ 11 * m := Int.mul_le_mul_of_nonneg_right (by omega) h2.1
        omega
      have hgk : 0 ≤ g k ∧ g k ≤ 1000 := by have := HG.out k; have h2 := HM.out; omega
      have HS := Lib.hid hs
      obtain ⟨s, es⟩ : ∃ s, s = sm g k := ⟨_, rfl⟩
      obtain ⟨x, ex⟩ : ∃ x, x = g k := ⟨_, rfl⟩
      rw [← es] at hb ⊢
      rw [← ex] at hgk HL
      have ES := Lib.hid es
      have EX := Lib.hid ex
      obtain ⟨b0, b1⟩ := hb
      obtain ⟨c0, c1⟩ := hgk
      clear hf hs es ex
      go_wp2_with fail
      refine HL.out.mono ?_
      rintro e w' ⟨rfl, rfl⟩
      go_wp2
      go_roundw
      case rel => exact ⟨k + 1, by omega, by go_num, by rw [HS.out, ← ES.out, ← EX.out], F0.out⟩
      case measure => simp [intOf]; omega
    · obtain rfl : k = 11 := by omega
      have F0 := Lib.hid hf
      clear hf
      go_wp2
      go_ret
      exact ⟨rfl, F0.out⟩
/-- g, the first k set back. -/
def bk (g : Nat → Int) (k : Nat) : Nat → Int := fun j => if j < k then 0 else g j
set_option maxRecDepth 100000 in
theorem mreset_any (p : Nat) (g : Nat → Int) (w : World) (h : Mt w p g) :
    Calls Try.prog 8 #[.pointer (some ⟨p, 0, none⟩)] w fun e w' => e = .returned (.tuple #[]) ∧ Mt w' p zN ∧ Fr w w' [p] := by
  have HT := Lib.hid h
  clear h
  go_enter Try.func8, Try.ntmps8
  go_wp2
  go_loopw [3] (fun i wr => ∃ k : Nat, k ≤ 11 ∧ i = .int .i64 k ∧ Mt wr p (bk g k) ∧ Fr w wr [p]) (fun i _ => 11 - (intOf i).toNat)
  case atStart => exact ⟨0, by omega, rfl, HT.out.congr (fun i _ => by simp [bk]), Fr.refl _ _⟩
  case round =>
    obtain ⟨k, hk, rfl, ht, hf⟩ := hrel
    have T0 := Lib.hid ht
    have F0 := Lib.hid hf
    clear ht hf
    by_cases hlt : k < 11
    · have HL := Lib.hid (cstore_any p k _ wr (T0.out.at k hlt) (T0.out.fz k))
      have TS := Lib.hid (show Mt (wr.setCell ⟨p, k, none⟩ (.int .i64 0)) p (bk g (k + 1)) from (T0.out.set k hlt 0).congr (fun i _ => by
        unfold upN bk
        by_cases e : i = k
        · rw [if_pos e, if_pos (by omega)]
        · rw [if_neg e]
          by_cases e2 : i < k
          · rw [if_pos e2, if_pos (by omega)]
          · rw [if_neg e2, if_neg (by omega)]))
      go_wp2_with fail
      refine HL.out.mono ?_
      rintro e w' ⟨rfl, rfl⟩
      go_wp2
      go_roundw
      case rel => exact ⟨k + 1, by omega, by go_num, TS.out, F0.out.trans (Fr.setCell _ _ _ _ (by simp))⟩
      case measure => simp [intOf]; omega
    · obtain rfl : k = 11 := by omega
      go_wp2
      go_end0
      exact ⟨rfl, T0.out.congr (fun i hi => by simp [bk, zN, hi]), F0.out⟩
set_option maxRecDepth 100000 in
theorem mmost_any (p : Nat) (g : Nat → Int) (w : World) (h : Mt w p g) (b : Bool) (hb : b = decide (0 < mk g 11)) :
    Calls Try.prog 9 #[.pointer (some ⟨p, 0, none⟩)] w fun e w' => e = .returned (.tuple #[.int .i64 (mk g 11 : Nat), .bool b]) ∧ Fr w w' [] := by
  have HT := Lib.hid h
  have HB := Lib.hid hb
  clear h hb
  go_enter Try.func9, Try.ntmps9
  go_wp2
  go_loopw [4, 5, 8] (fun a s i wr => ∃ k : Nat, k ≤ 11 ∧ i = .int .i64 k ∧ a = .int .i64 (mk g k : Nat) ∧ s = .int .i64 (mn g k) ∧ Fr w wr []) (fun _ _ i _ => 11 - (intOf i).toNat)
  case atStart => exact ⟨0, by omega, rfl, rfl, rfl, Fr.refl _ _⟩
  case round =>
    obtain ⟨k, hk, rfl, rfl, rfl, hf⟩ := hrel
    have F0 := Lib.hid hf
    by_cases hlt : k < 11
    · have HL := Lib.hid (cload_any p k (g k) wr ((HT.out.fr hf (by simp)).at k hlt))
      clear hf
      by_cases hgt : mn g k < g k
      · have HY := Lib.hid (mk_yes g k hgt)
        go_wp2_with fail
        refine HL.out.mono ?_
        rintro e w' ⟨rfl, rfl⟩
        go_wp2
        go_roundw
        case rel => exact ⟨k + 1, by omega, by go_num, by rw [HY.out.1]; go_num, by rw [HY.out.2], F0.out⟩
        case measure => simp [intOf]; omega
      · have HY := Lib.hid (mk_no g k hgt)
        go_wp2_with fail
        refine HL.out.mono ?_
        rintro e w' ⟨rfl, rfl⟩
        go_wp2
        go_roundw
        case rel => exact ⟨k + 1, by omega, by go_num, by rw [HY.out.1], by rw [HY.out.2], F0.out⟩
        case measure => simp [intOf]; omega
    · obtain rfl : k = 11 := by omega
      clear hf
      have HN := Lib.hid (show decide (0 < mn g 11) = b by rw [HB.out]; exact decide_eq_decide.2 (mn_pos g 11).2)
      go_wp2
      go_ret2
      exact ⟨by rw [← HN.out]; rfl, F0.out⟩
set_option maxRecDepth 100000 in
theorem mfirst_any (w : World) : Calls Try.prog 6 #[] w fun e w' => e = .returned (.bool true) ∧ Fr w w' [] := by
  have T1 := Lib.hid (new_mt w)
  have F1 := Lib.hid (Fr.alloc w (.cells #[.int .i64 0, .int .i64 0, .int .i64 0, .int .i64 0, .int .i64 0, .int .i64 0, .int .i64 0, .int .i64 0, .int .i64 0, .int .i64 0, .int .i64 0] 32) [])
  go_enter Try.func6, Try.ntmps6
  go_wp2_with fail
  refine (madd_yes w.heap.size zN 0 0 _ T1.out (by omega) Few.zero (by omega)).mono ?_
  rintro e w2 ⟨rfl, h, hf⟩
  have T2 := Lib.hid h
  have F2 := Lib.hid (F1.out.new hf (by simp))
  clear h hf
  go_wp2_with fail
  refine (msum_any w.heap.size _ 1 _ T2.out (Few.zero.up 0) (by omega)).mono ?_
  rintro e w3 ⟨rfl, hf⟩
  have F3 := Lib.hid (F2.out.trans hf)
  clear hf
  have hs : sm (upN zN 0 (zN 0 + 1)) 11 = 1 := by decide
  rw [hs]
  go_wp2
  go_ret
  exact ⟨rfl, F3.out⟩
end Go.Proofs.Ytklfjglbehjcaaa
