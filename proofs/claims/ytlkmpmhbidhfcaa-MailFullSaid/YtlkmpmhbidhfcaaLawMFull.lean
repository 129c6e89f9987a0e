/- The law of the full mail: as many as may be wait; one more is lost, and counted; one taken, and there is room again; what is put is nobody's: its walk. -/
import Derived.Test.YtlkmpmhbidhfcaaMTake
import Derived.Test.YtlkmpmhbidhfcaaMSwap
import Derived.Test.YtlkmpmhbidhfcaaMFirst
import Derived.Test.YtlkmpmhbidhfcaaSameB
import Derived.Test.YtlkmpmhbidhfcaaNum
namespace Go.Proofs.Ytlkmpmhbidhfcaa
open Go.RowKit

def fL (i : Nat) : Lt := ((i : Int), strOfNums [((i % 256 : Nat) : Int)])
theorem fL_nums (i : Nat) : numsOf (fL i).2 = [((i % 256 : Nat) : Int)] := numsOf_str _ (by intro x hx; obtain rfl := List.mem_singleton.1 hx; omega)
theorem fL_small (n : Nat) : ∀ x ∈ mkL fL n, x.2.size ≤ 1000000 := by
  intro x hx
  obtain ⟨i, _, rfl⟩ := List.mem_map.1 hx
  rw [fL, str_size]
  simp

set_option maxHeartbeats 1000000 in
set_option maxRecDepth 100000 in
theorem mfull_walk (a b : Int) (ha : (Lit.int .i64 a).wf = true) (hb : (Lit.int .i64 b).wf = true) (w : World) :
    Calls Try.prog 5 #[.int .i64 a, .int .i64 b] w fun e w' => e = .returned (.bool true) ∧ w.grownBy w' none := by
  obtain ⟨N, hN, _, hnum⟩ := numberTo_nat a 5000 (by omega) (by omega) ha
  go_enter Try.func5, Try.ntmps5
  go_wp2_with fail
  refine (first_any _).mono ?_
  rintro e w1 ⟨rfl, hf⟩
  have F1 := Lib.hid hf
  clear hf
  go_wp2_with fail
  refine (hnum _).mono ?_
  rintro e w2 ⟨rfl, rfl⟩
  clear hnum
  have F2 := Lib.hid (F1.out.trans ((Fr.alloc w1 (.cells #[.slice none 0 0, .int .i64 0] 26) []).trans (Fr.alloc (w1.alloc (.cells #[.slice none 0 0, .int .i64 0] 26)) (.cells #[.int .u8 1] 5) [])))
  have M2 := Lib.hid ((new_mail w1).keep (Fr.alloc (w1.alloc (.cells #[.slice none 0 0, .int .i64 0] 26)) (.cells #[.int .u8 1] 5) []))
  have B2 := Lib.hid (show ((w1.alloc (.cells #[.slice none 0 0, .int .i64 0] 26)).alloc (.cells #[.int .u8 1] 5)).heap[w1.heap.size + 1]? = some (.cells #[.int .u8 1] 5 (0, 0)) by
    have h := heap_alloc_new (w1.alloc (.cells #[.slice none 0 0, .int .i64 0] 26)) (.cells #[.int .u8 1] 5)
    rwa [show (w1.alloc (.cells #[.slice none 0 0, .int .i64 0] 26)).heap.size = w1.heap.size + 1 by simp] at h)
  have HS := Lib.hid F1.out.size
  go_wp2
  go_loopw [8] (fun i wr => ∃ (k : Nat) (v : Value) (x : Int), k ≤ N + 1 ∧ i = .int .i64 k ∧ Ml wr w1.heap.size w1.heap.size v (mkL fL (min k 4096)) (k - 4096) ∧ wr.heap[w1.heap.size + 1]? = some (.cells #[.int .u8 x] 5 (0, 0)) ∧ Fr w wr []) (fun i _ => N + 1 - (intOf i).toNat)
  case atStart => exact ⟨0, _, _, Nat.zero_le _, rfl, M2.out, B2.out, F2.out⟩
  case round =>
    obtain ⟨k, v, x, hk, rfl, hm, hbb, hf⟩ := hrel
    have M := Lib.hid hm
    have F := Lib.hid hf
    have BB := Lib.hid hbb
    have z0 := frozen_of_row _ _ 0 _ _ hbb
    have c0 : wr.cell? ⟨w1.heap.size + 1, 0, none⟩ = some (.int .u8 x) := by rw [cell_of_row _ _ _ _ _ _ hbb]; rfl
    clear hm hf hbb
    by_cases hlt : k < N + 1
    · have hw8 := u8_of_nat k
      obtain ⟨y, hy⟩ : ∃ y, y = ((k % 256 : Nat) : Int) := ⟨_, rfl⟩
      rw [← hy] at hw8
      have HY := Lib.hid hy
      have B3 := Lib.hid (show (wr.setCell ⟨w1.heap.size + 1, 0, none⟩ (.int .u8 y)).heap[w1.heap.size + 1]? = some (.cells #[.int .u8 y] 5 (0, 0)) by rw [heap_setCell_same _ _ 0 _ _ _ BB.out]; rfl)
      have M3 := Lib.hid (M.out.fr (Fr.setCell wr (w1.heap.size + 1) 0 (.int .u8 y) (S := [w1.heap.size + 1]) (by simp)) (by simp) (by intro r hr; obtain rfl := List.mem_singleton.1 hr; exact row_ne M.out.2.2 BB.out (by decide)))
      have F3 := Lib.hid (F.out.new (Fr.setCell wr (w1.heap.size + 1) 0 (.int .u8 y) (S := [w1.heap.size + 1]) (by simp)) (by have := HS.out; simp; omega))
      clear hy
      go_wp2_with fail
      have HBY := Lib.hid (bytes_new (l := [y]) B3.out (by simp))
      by_cases h4 : k < 4096
      · have hlen : (mkL fL (min k 4096)).length < 4096 := by rw [mkL_len]; omega
        have hk4 : (k : Int) < 4096 := by omega
        refine (put_yes w1.heap.size w1.heap.size v _ (k - 4096) (k : Int) _ [y] _ M3.out (by simpa using HBY.out) (by omega) hlen).mono ?_
        rintro e w4 ⟨rfl, h⟩
        have F4 := Lib.hid (h.step M3.out (by have := HS.out; omega) F3.out)
        obtain ⟨v4, m4, hg⟩ := h
        have B4 := Lib.hid (M3.out.other hg B3.out)
        have M4 := Lib.hid (show Ml w4 w1.heap.size w1.heap.size v4 (mkL fL (min (k + 1) 4096)) (k + 1 - 4096) by
          rw [show k + 1 - 4096 = k - 4096 by omega, show min (k + 1) 4096 = min k 4096 + 1 by omega, ← mkL_snoc, show min k 4096 = k by omega, fL, ← HY.out]
          rw [show min k 4096 = k by omega] at m4
          exact m4)
        clear m4 hg hlen z0 c0 hw8 hlt
        go_wp2
        go_roundw
        case rel => exact ⟨k + 1, v4, y, by omega, by go_num, M4.out, B4.out, F4.out⟩
        case measure => simp [intOf]; omega
      · have hlen : ¬ (mkL fL (min k 4096)).length < 4096 := by rw [mkL_len]; omega
        have hk4 : ¬ (k : Int) < 4096 := by omega
        refine (put_no w1.heap.size w1.heap.size v _ (k - 4096) (k : Int) _ [y] _ M3.out (by simpa using HBY.out) (by omega) hlen).mono ?_
        rintro e w4 ⟨rfl, h⟩
        have F4 := Lib.hid (h.step M3.out (by have := HS.out; omega) F3.out)
        obtain ⟨v4, m4, hg⟩ := h
        have B4 := Lib.hid (M3.out.other hg B3.out)
        have M4 := Lib.hid (show Ml w4 w1.heap.size w1.heap.size v4 (mkL fL (min (k + 1) 4096)) (k + 1 - 4096) by
          rw [show k + 1 - 4096 = k - 4096 + 1 by omega, show min (k + 1) 4096 = min k 4096 by omega]
          exact m4)
        clear m4 hg hlen z0 c0 hw8 hlt
        go_wp2
        go_roundw
        case rel => exact ⟨k + 1, v4, y, by omega, by go_num, M4.out, B4.out, F4.out⟩
        case measure => simp [intOf]; omega
    · obtain rfl : k = N + 1 := by omega
      by_cases hc : (4096 : Int) < (N : Int) + 1
      ·
        rw [show min (N + 1) 4096 = 4096 by omega] at M
        obtain ⟨D, hD⟩ : ∃ D, D = N + 1 - 4096 := ⟨_, rfl⟩
        rw [← hD] at M
        have hD2 : (N : Int) + 1 - 4096 = (D : Int) := by omega
        have hD1 : D ≤ 5000 := by omega
        clear hD
        obtain ⟨j, hj, _, hnum0⟩ := numberTo_nat b 4096 (by omega) (by omega) hb
        have hnum : ∀ w : World, Calls Try.prog 8 #[.int .i64 b, .int .i64 4096] w fun e w' => e = .returned (.int .i64 (j : Int)) ∧ w = w' := hnum0
        clear hnum0 c0 z0 BB
        go_wp2_with fail
        refine (hnum _).mono ?_
        rintro e w2 ⟨rfl, rfl⟩
        clear hnum
        have hq : Calls Try.prog 12 #[.pointer (some ⟨w1.heap.size, 0, none⟩)] wr fun e w' => e = .returned (.int .i64 4096) ∧ wr = w' := by
          have h := len_any _ _ _ _ _ _ M.out
          rw [mkL_len] at h
          exact h
        go_wp2_with fail
        refine hq.mono ?_
        rintro e w2 ⟨rfl, rfl⟩
        clear hq
        go_wp2_with fail
        refine (lost_any _ _ _ _ _ _ M.out).mono ?_
        rintro e w2 ⟨rfl, rfl⟩
        have hget := mkL_get fL 4096 j hj
        go_wp2_with fail
        refine (take_any w1.heap.size w1.heap.size v _ D j _ M.out (by rw [mkL_len]; exact hj) (small_of (fL_small _) j)).mono ?_
        rintro e w3 ⟨u, rfl, xx, rfl, hit, hmi⟩
        rw [hget, fL_nums] at hit
        have F3 := Lib.hid (hmi.step M.out (by have := HS.out; omega) F.out)
        obtain ⟨v3, m3, _⟩ := hmi
        have M3 := Lib.hid m3
        obtain ⟨g, c, cs, fz, rfl, hBg, hby, _⟩ := hit
        have Y3 := Lib.hid hby
        have hle : ((mkL fL 4096).eraseIdx j).length = 4095 := by rw [List.length_eraseIdx, mkL_len, if_pos hj]
        obtain ⟨LL, hLL⟩ : ∃ LL, LL = (mkL fL 4096).eraseIdx j := ⟨_, rfl⟩
        rw [← hLL] at hle M3
        clear m3 hby hget hLL M
        have hw8 := u8_of_nat j
        obtain ⟨y, hy⟩ : ∃ y, y = ((j % 256 : Nat) : Int) := ⟨_, rfl⟩
        rw [← hy] at hw8
        rw [← hy] at Y3
        clear hy
        have FA := Lib.hid ((Fr.alloc w3 (.cells #[.int .i64 (j : Int), .slice (some ⟨g, 0, none⟩) 1 c] 31) []).trans (Fr.alloc (w3.alloc (.cells #[.int .i64 (j : Int), .slice (some ⟨g, 0, none⟩) 1 c] 31)) (.cells (u8s [y]).toArray 5) []))
        have HY := Lib.hid (show Bytes ((w3.alloc (.cells #[.int .i64 (j : Int), .slice (some ⟨g, 0, none⟩) 1 c] 31)).alloc (.cells (u8s [y]).toArray 5)) (.slice (some ⟨w3.heap.size + 1, 0, none⟩) 1 1) [y] by
          have h := bytes_new (heap_alloc_new (w3.alloc (.cells #[.int .i64 (j : Int), .slice (some ⟨g, 0, none⟩) 1 c] 31)) (.cells (u8s [y]).toArray 5)) (by simp)
          rwa [show (w3.alloc (.cells #[.int .i64 (j : Int), .slice (some ⟨g, 0, none⟩) 1 c] 31)).heap.size = w3.heap.size + 1 by simp] at h)
        go_wp2_with fail
        refine (same_any _ [y] _ [y] _ (Y3.out.keep FA.out) HY.out (by simp) true (by simp)).mono ?_
        rintro e w5 ⟨rfl, hg⟩
        have M5 := Lib.hid ((M3.out.keep FA.out).keep (Fr.of_grown hg []))
        have F5 := Lib.hid ((F3.out.trans FA.out).trans (Fr.of_grown hg []))
        clear hg hw8
        have hq : Calls Try.prog 12 #[.pointer (some ⟨w1.heap.size, 0, none⟩)] w5 fun e w' => e = .returned (.int .i64 4095) ∧ w5 = w' := by
          have h := len_any _ _ _ _ _ _ M5.out
          rw [hle] at h
          exact h
        go_wp2_with fail
        refine hq.mono ?_
        rintro e w6 ⟨rfl, rfl⟩
        clear hq
        go_wp2_with fail
        refine (put_yes w1.heap.size w1.heap.size v3 LL D 9 _ [] _ M5.out nil_bytes (by omega) (by omega)).mono ?_
        rintro e w6 ⟨rfl, hmi⟩
        have F6 := Lib.hid (hmi.step M5.out (by have := HS.out; omega) F5.out)
        obtain ⟨v6, m6, _⟩ := hmi
        have M6 := Lib.hid m6
        clear m6
        go_wp2_with fail
        refine (swap_none w1.heap.size w1.heap.size v6 _ D 0 4096 _ M6.out (by rw [List.length_append, hle]; simp only [List.length_cons, List.length_nil]; omega)).mono ?_
        rintro e w7 ⟨rfl, rfl⟩
        go_wp2_with fail
        refine (copy_none w1.heap.size w1.heap.size v6 _ D (-1) _ M6.out (by omega)).mono ?_
        rintro e w7 ⟨rfl, rfl⟩
        go_wp2
        go_ret
        exact ⟨rfl, F6.out.grown (by simp)⟩
      ·
        rw [show min (N + 1) 4096 = (N + 1) by omega, show N + 1 - 4096 = 0 by omega] at M
        skip
        obtain ⟨j, hj, _, hnum0⟩ := numberTo_nat b (N + 1) (by omega) (by omega) hb
        have hnum : ∀ w : World, Calls Try.prog 8 #[.int .i64 b, .int .i64 ((N : Int) + 1)] w fun e w' => e = .returned (.int .i64 (j : Int)) ∧ w = w' := hnum0
        clear hnum0 c0 z0 BB
        go_wp2_with fail
        refine (hnum _).mono ?_
        rintro e w2 ⟨rfl, rfl⟩
        clear hnum
        have hq : Calls Try.prog 12 #[.pointer (some ⟨w1.heap.size, 0, none⟩)] wr fun e w' => e = .returned (.int .i64 ((N : Int) + 1)) ∧ wr = w' := by
          have h := len_any _ _ _ _ _ _ M.out
          rw [mkL_len] at h
          exact h
        go_wp2_with fail
        refine hq.mono ?_
        rintro e w2 ⟨rfl, rfl⟩
        clear hq
        go_wp2_with fail
        refine (lost_any _ _ _ _ _ _ M.out).mono ?_
        rintro e w2 ⟨rfl, rfl⟩
        have hget := mkL_get fL (N + 1) j hj
        go_wp2_with fail
        refine (take_any w1.heap.size w1.heap.size v _ 0 j _ M.out (by rw [mkL_len]; exact hj) (small_of (fL_small _) j)).mono ?_
        rintro e w3 ⟨u, rfl, xx, rfl, hit, hmi⟩
        rw [hget, fL_nums] at hit
        have F3 := Lib.hid (hmi.step M.out (by have := HS.out; omega) F.out)
        obtain ⟨v3, m3, _⟩ := hmi
        have M3 := Lib.hid m3
        obtain ⟨g, c, cs, fz, rfl, hBg, hby, _⟩ := hit
        have Y3 := Lib.hid hby
        have hle : ((mkL fL (N + 1)).eraseIdx j).length = N := by rw [List.length_eraseIdx, mkL_len, if_pos hj]; omega
        obtain ⟨LL, hLL⟩ : ∃ LL, LL = (mkL fL (N + 1)).eraseIdx j := ⟨_, rfl⟩
        rw [← hLL] at hle M3
        clear m3 hby hget hLL M
        have hw8 := u8_of_nat j
        obtain ⟨y, hy⟩ : ∃ y, y = ((j % 256 : Nat) : Int) := ⟨_, rfl⟩
        rw [← hy] at hw8
        rw [← hy] at Y3
        clear hy
        have FA := Lib.hid ((Fr.alloc w3 (.cells #[.int .i64 (j : Int), .slice (some ⟨g, 0, none⟩) 1 c] 31) []).trans (Fr.alloc (w3.alloc (.cells #[.int .i64 (j : Int), .slice (some ⟨g, 0, none⟩) 1 c] 31)) (.cells (u8s [y]).toArray 5) []))
        have HY := Lib.hid (show Bytes ((w3.alloc (.cells #[.int .i64 (j : Int), .slice (some ⟨g, 0, none⟩) 1 c] 31)).alloc (.cells (u8s [y]).toArray 5)) (.slice (some ⟨w3.heap.size + 1, 0, none⟩) 1 1) [y] by
          have h := bytes_new (heap_alloc_new (w3.alloc (.cells #[.int .i64 (j : Int), .slice (some ⟨g, 0, none⟩) 1 c] 31)) (.cells (u8s [y]).toArray 5)) (by simp)
          rwa [show (w3.alloc (.cells #[.int .i64 (j : Int), .slice (some ⟨g, 0, none⟩) 1 c] 31)).heap.size = w3.heap.size + 1 by simp] at h)
        go_wp2_with fail
        refine (same_any _ [y] _ [y] _ (Y3.out.keep FA.out) HY.out (by simp) true (by simp)).mono ?_
        rintro e w5 ⟨rfl, hg⟩
        have M5 := Lib.hid ((M3.out.keep FA.out).keep (Fr.of_grown hg []))
        have F5 := Lib.hid ((F3.out.trans FA.out).trans (Fr.of_grown hg []))
        clear hg hw8
        have hq : Calls Try.prog 12 #[.pointer (some ⟨w1.heap.size, 0, none⟩)] w5 fun e w' => e = .returned (.int .i64 (N : Int)) ∧ w5 = w' := by
          have h := len_any _ _ _ _ _ _ M5.out
          rw [hle] at h
          exact h
        go_wp2_with fail
        refine hq.mono ?_
        rintro e w6 ⟨rfl, rfl⟩
        clear hq
        go_wp2_with fail
        refine (put_yes w1.heap.size w1.heap.size v3 LL 0 9 _ [] _ M5.out nil_bytes (by omega) (by omega)).mono ?_
        rintro e w6 ⟨rfl, hmi⟩
        have F6 := Lib.hid (hmi.step M5.out (by have := HS.out; omega) F5.out)
        obtain ⟨v6, m6, _⟩ := hmi
        have M6 := Lib.hid m6
        clear m6
        go_wp2_with fail
        refine (swap_none w1.heap.size w1.heap.size v6 _ 0 0 ((N : Int) + 1) _ M6.out (by rw [List.length_append, hle]; simp only [List.length_cons, List.length_nil]; omega)).mono ?_
        rintro e w7 ⟨rfl, rfl⟩
        go_wp2_with fail
        refine (copy_none w1.heap.size w1.heap.size v6 _ 0 (-1) _ M6.out (by omega)).mono ?_
        rintro e w7 ⟨rfl, rfl⟩
        go_wp2
        go_ret
        exact ⟨rfl, F6.out.grown (by simp)⟩
end Go.Proofs.Ytlkmpmhbidhfcaa
