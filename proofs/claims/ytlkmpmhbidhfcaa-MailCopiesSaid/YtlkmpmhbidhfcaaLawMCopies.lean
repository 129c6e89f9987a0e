/- The law of copies: a frame that is copied comes so many times more, at the end, with the same bytes, whatever becomes of the first one: its walk. -/
import Derived.Test.YtlkmpmhbidhfcaaMTake
import Derived.Test.YtlkmpmhbidhfcaaMFirst
import Derived.Test.YtlkmpmhbidhfcaaSameB
import Derived.Test.YtlkmpmhbidhfcaaNum
namespace Go.Proofs.Ytlkmpmhbidhfcaa
open Go.RowKit

def fC (i : Nat) : Lt := ((i : Int), strOfNums [((i % 256 : Nat) : Int), 7])
theorem fC_nums (i : Nat) : numsOf (fC i).2 = [((i % 256 : Nat) : Int), 7] := numsOf_str _ (by
  intro x hx
  simp only [List.mem_cons, List.not_mem_nil, or_false] at hx
  rcases hx with rfl | rfl <;> omega)
theorem fC_size (i : Nat) : (fC i).2.size ≤ 1000000 := by rw [fC, str_size]; simp
/-- The letters behind the copies, and behind the Take. -/
def cpL (n j k : Nat) : List Lt := mkL fC n ++ List.replicate k (fC j)
theorem cpL_len (n j k : Nat) : (cpL n j k).length = n + k := by simp [cpL, mkL_len]
theorem cpL_get (n j k : Nat) (h : j < n) : (cpL n j k).getD j dL = fC j := by
  have h1 : j < (mkL fC n).length := by rw [mkL_len]; exact h
  have h2 := mkL_get fC n j h
  rw [List.getD_eq_getElem?_getD] at h2 ⊢
  rw [cpL, List.getElem?_append_left h1]
  exact h2
theorem cpL_snoc (n j k : Nat) : cpL n j k ++ [fC j] = cpL n j (k + 1) := by rw [cpL, cpL, List.append_assoc, ← List.replicate_succ']
theorem cpL_small (n j k : Nat) : ∀ x ∈ cpL n j k, x.2.size ≤ 1000000 := by
  intro x hx
  rcases List.mem_append.1 hx with h | h
  · obtain ⟨i, _, rfl⟩ := List.mem_map.1 h
    exact fC_size i
  · rw [List.eq_of_mem_replicate h]; exact fC_size j
theorem cpL_rest (n j k : Nat) (h : j < n + 1) : ((cpL (n + 1) j k).eraseIdx j).length = n + k ∧ ((cpL (n + 1) j k).eraseIdx j).drop n = List.replicate k (fC j) := by
  have h1 : j < (mkL fC (n + 1)).length := by rw [mkL_len]; exact h
  refine ⟨by rw [List.length_eraseIdx, cpL_len, if_pos (by omega)]; omega, ?_⟩
  rw [cpL, List.eraseIdx_append_of_lt_length h1]
  exact List.drop_left' (by rw [List.length_eraseIdx, if_pos h1, mkL_len]; rfl)
theorem drop_erase (L : List Lt) (k : Nat) : (L.drop k).eraseIdx 0 = L.drop (k + 1) := by rw [List.eraseIdx_zero, List.tail_drop]
theorem small_drop {L : List Lt} (h : ∀ x ∈ L, x.2.size ≤ 1000000) (k : Nat) : ∀ x ∈ L.drop k, x.2.size ≤ 1000000 := fun x hx => h x (List.mem_of_mem_drop hx)

set_option maxHeartbeats 1000000 in
set_option maxRecDepth 100000 in
theorem mcopies_walk (a b d : Int) (ha : (Lit.int .i64 a).wf = true) (hb : (Lit.int .i64 b).wf = true) (hd : (Lit.int .i64 d).wf = true) (w : World) :
    Calls Try.prog 3 #[.int .i64 a, .int .i64 b, .int .i64 d] w fun e w' => e = .returned (.bool true) ∧ w.grownBy w' none := by
  obtain ⟨N, hN, _, hnum⟩ := numberTo_nat a 20 (by omega) (by omega) ha
  obtain ⟨j, hj, _, hnum2'⟩ := numberTo_nat b (N + 1) (by omega) (by omega) hb
  have hnum2 : ∀ w : World, Calls Try.prog 8 #[.int .i64 b, .int .i64 ((N : Int) + 1)] w fun e w' => e = .returned (.int .i64 (j : Int)) ∧ w = w' := hnum2'
  obtain ⟨T, hT, _, hnum3⟩ := numberTo_nat d 9 (by omega) (by omega) hd
  clear hnum2'
  go_enter Try.func3, Try.ntmps3
  go_wp2_with fail
  refine (first_any _).mono ?_
  rintro e w1 ⟨rfl, hf⟩
  have F1 := Lib.hid hf
  clear hf
  go_wp2_with fail
  refine (hnum _).mono ?_
  rintro e w2 ⟨rfl, rfl⟩
  clear hnum
  go_wp2_with fail
  refine (hnum2 _).mono ?_
  rintro e w2 ⟨rfl, rfl⟩
  clear hnum2
  go_wp2_with fail
  refine (hnum3 _).mono ?_
  rintro e w2 ⟨rfl, rfl⟩
  clear hnum3
  have F2 := Lib.hid (F1.out.trans (Fr.alloc w1 (.cells #[.slice none 0 0, .int .i64 0] 26) []))
  have M2 := Lib.hid (new_mail w1)
  have HS := Lib.hid F1.out.size
  go_wp2
  go_loopw [9] (fun i wr => ∃ (k : Nat) (v : Value), k ≤ N + 1 ∧ i = .int .i64 k ∧ Ml wr w1.heap.size w1.heap.size v (mkL fC k) 0 ∧ Fr w wr []) (fun i _ => N + 1 - (intOf i).toNat)
  case atStart => exact ⟨0, _, Nat.zero_le _, rfl, M2.out, F2.out⟩
  case round =>
    obtain ⟨k, v, hk, rfl, hm, hf⟩ := hrel
    have M := Lib.hid hm
    have F := Lib.hid hf
    clear hm hf
    by_cases hlt : k < N + 1
    · have hw8 := u8_of_nat k
      obtain ⟨y, hy⟩ : ∃ y, y = ((k % 256 : Nat) : Int) := ⟨_, rfl⟩
      rw [← hy] at hw8
      have HY := Lib.hid hy
      have M3 := Lib.hid (M.out.keep (Fr.alloc wr (.cells (u8s [y, 7]).toArray 5) []))
      have F3 := Lib.hid (F.out.trans (Fr.alloc wr (.cells (u8s [y, 7]).toArray 5) []))
      have B3 := Lib.hid (bytes_new (heap_alloc_new wr (.cells (u8s [y, 7]).toArray 5)) (by simp))
      have hlen : (mkL fC k).length < 4096 := by rw [mkL_len]; omega
      clear hy
      go_wp2_with fail
      refine (put_yes w1.heap.size w1.heap.size v _ 0 (k : Int) _ [y, 7] _ M3.out B3.out (by omega) hlen).mono ?_
      rintro e w4 ⟨rfl, h⟩
      have F4 := Lib.hid (h.step M3.out (by have := HS.out; omega) F3.out)
      obtain ⟨v4, m4, hg⟩ := h
      have M4 := Lib.hid (show Ml w4 w1.heap.size w1.heap.size v4 (mkL fC (k + 1)) 0 by
        rw [← mkL_snoc, fC, ← HY.out]
        exact m4)
      clear m4 hg hlen hw8 hlt
      go_wp2
      go_roundw
      case rel => exact ⟨k + 1, v4, by omega, by go_num, M4.out, F4.out⟩
      case measure => simp [intOf]; omega
    · have hkN : k = N + 1 := by omega
      have M0 := Lib.hid (show Ml wr w1.heap.size w1.heap.size v (cpL (N + 1) j 0) 0 by have := M.out; rw [hkN] at this; simpa [cpL] using this)
      clear M hkN
      go_wp2
      go_loopw [10] (fun i wr => ∃ (k : Nat) (v : Value), k ≤ T ∧ i = .int .i64 k ∧ Ml wr w1.heap.size w1.heap.size v (cpL (N + 1) j k) 0 ∧ Fr w wr []) (fun i _ => T - (intOf i).toNat)
      case atStart => exact ⟨0, _, Nat.zero_le _, rfl, M0.out, F.out⟩
      case round =>
        clear F M0
        obtain ⟨k, v, hk, rfl, hm, hf⟩ := hrel
        have M := Lib.hid hm
        have F := Lib.hid hf
        clear hm hf
        by_cases hlt : k < T
        · have hlen : (cpL (N + 1) j k).length < 4096 := by rw [cpL_len]; omega
          go_wp2_with fail
          refine (copy_yes w1.heap.size w1.heap.size v _ 0 j _ M.out (by rw [cpL_len]; omega) (by omega) hlen).mono ?_
          rintro e w4 ⟨rfl, h⟩
          rw [cpL_get _ _ _ hj, cpL_snoc] at h
          have F4 := Lib.hid (h.step M.out (by have := HS.out; omega) F.out)
          obtain ⟨v4, m4, hg⟩ := h
          have M4 := Lib.hid m4
          clear m4 hg hlen
          go_wp2
          go_roundw
          case rel => exact ⟨k + 1, v4, by omega, by go_num, M4.out, F4.out⟩
          case measure => simp [intOf]; omega
        · obtain rfl : k = T := by omega
          go_wp2_with fail
          refine (take_any w1.heap.size w1.heap.size v _ 0 j _ M.out (by rw [cpL_len]; omega) (small_of (cpL_small _ _ _) j)).mono ?_
          rintro e w3 ⟨u, rfl, xx, rfl, hit, hmi⟩
          rw [cpL_get _ _ _ hj, fC_nums] at hit
          have F3 := Lib.hid (hmi.step M.out (by have := HS.out; omega) F.out)
          obtain ⟨v3, m3, _⟩ := hmi
          obtain ⟨hl1, hl2⟩ := cpL_rest N j k hj
          have hsm : ∀ x ∈ (cpL (N + 1) j k).eraseIdx j, x.2.size ≤ 1000000 := fun x hx => cpL_small _ _ _ x (List.mem_of_mem_eraseIdx hx)
          obtain ⟨R, hR⟩ : ∃ R, R = (cpL (N + 1) j k).eraseIdx j := ⟨_, rfl⟩
          rw [← hR] at hl1 hl2 hsm m3
          have HL2 := Lib.hid hl2
          have HSM := Lib.hid hsm
          have M3 := Lib.hid m3
          obtain ⟨g, c, cs, fz, rfl, hBg, hby, hrow, hfz, hcs⟩ := hit
          have HWR := Lib.hid (show w1.heap.size ≤ g by have := M.out.lt; omega)
          clear m3 hR hl2 hsm M F
          have F4 := Lib.hid (Fr.alloc w3 (.cells #[.int .i64 (j : Int), .slice (some ⟨g, 0, none⟩) 2 c] 31) [])
          have M4 := Lib.hid (M3.out.keep F4.out)
          have R4 := Lib.hid (F4.out.heap hrow (by simp))
          have q0 : ∃ y, (w3.alloc (.cells #[.int .i64 (j : Int), .slice (some ⟨g, 0, none⟩) 2 c] 31)).cell? ⟨g, 0, none⟩ = some y := ⟨cs[0]'(by simp at hcs; omega), by rw [cell_of_row _ _ _ _ _ _ R4.out, Array.getElem?_eq_getElem]⟩
          obtain ⟨y0, q0⟩ := q0
          have z0 : (w3.alloc (.cells #[.int .i64 (j : Int), .slice (some ⟨g, 0, none⟩) 2 c] 31)).frozen? ⟨g, 0, none⟩ = false := by
            simp at hcs
            unfold World.frozen?
            rw [R4.out]
            simp
            omega
          have z1 : w3.frozen? ⟨g, 0, none⟩ = false := by
            simp at hcs
            unfold World.frozen?
            rw [hrow]
            simp
            omega
          have hq : Calls Try.prog 12 #[.pointer (some ⟨w1.heap.size, 0, none⟩)] (w3.alloc (.cells #[.int .i64 (j : Int), .slice (some ⟨g, 0, none⟩) 2 c] 31)) fun e w' => e = .returned (.int .i64 ((N : Int) + (k : Int))) ∧ (w3.alloc (.cells #[.int .i64 (j : Int), .slice (some ⟨g, 0, none⟩) 2 c] 31)) = w' := by
            have h := len_any _ _ _ _ _ _ M4.out
            rw [hl1] at h
            exact h
          clear hby hrow hfz hcs
          go_wp2_with fail
          refine hq.mono ?_
          rintro e w4 ⟨rfl, rfl⟩
          clear hq
          have M5 := Lib.hid (show Ml ((w3.alloc (.cells #[.int .i64 (j : Int), .slice (some ⟨g, 0, none⟩) 2 c] 31)).setCell ⟨g, 0, none⟩ (.int .u8 99)) w1.heap.size w1.heap.size v3 R 0 from
            M4.out.fr (Fr.setCell _ g 0 _ (S := [g]) (by simp)) (by intro hm; obtain rfl := List.mem_singleton.1 hm; have := M4.out.2.1.symm.trans R4.out; simp at this) (by intro r hr; obtain rfl := List.mem_singleton.1 hr; exact row_ne M4.out.2.2 R4.out (by decide)))
          have F5 := Lib.hid (show Fr w ((w3.alloc (.cells #[.int .i64 (j : Int), .slice (some ⟨g, 0, none⟩) 2 c] 31)).setCell ⟨g, 0, none⟩ (.int .u8 99)) [] from
            (F3.out.trans F4.out).new (Fr.setCell _ g 0 _ (S := [g]) (by simp)) (by intro r hr; obtain rfl := List.mem_singleton.1 hr; have := HS.out; have := HWR.out; omega))
          have HL1 := Lib.hid hl1
          go_wp2
          clear q0 z0 z1 R4 F4 M4 M3 F3 hl1
          go_loopw [13] (fun i wr => ∃ (q : Nat) (v : Value), q ≤ N ∧ i = .int .i64 q ∧ Ml wr w1.heap.size w1.heap.size v (R.drop q) 0 ∧ Fr w wr []) (fun i _ => N - (intOf i).toNat)
          case atStart => exact ⟨0, _, Nat.zero_le _, rfl, M5.out, F5.out⟩
          case round =>
            clear F5 M5
            obtain ⟨q, v, hq, rfl, hm, hf⟩ := hrel
            have M := Lib.hid hm
            have F := Lib.hid hf
            clear hm hf
            by_cases hlt : q < N
            · have hlen : 0 < (R.drop q).length := by rw [List.length_drop, HL1.out]; omega
              go_wp2_with fail
              refine (take_any w1.heap.size w1.heap.size v _ 0 0 _ M.out hlen (small_of (small_drop HSM.out q) 0)).mono ?_
              rintro e w4 ⟨u, rfl, xx, rfl, _, h⟩
              rw [drop_erase] at h
              have F4 := Lib.hid (h.step M.out (by have := HS.out; omega) F.out)
              obtain ⟨v4, m4, hg⟩ := h
              have M4 := Lib.hid m4
              clear m4 hg hlen
              go_wp2
              go_roundw
              case rel => exact ⟨q + 1, v4, by omega, by go_num, M4.out, F4.out⟩
              case measure => simp [intOf]; omega
            · have hqN : q = N := by omega
              have M0 := Lib.hid (show Ml wr w1.heap.size w1.heap.size v (List.replicate (k - 0) (fC j)) 0 by have := M.out; rw [hqN, HL2.out] at this; simpa using this)
              clear M hqN
              go_wp2
              go_loopw [14] (fun i wr => ∃ (q : Nat) (v : Value), q ≤ k ∧ i = .int .i64 q ∧ Ml wr w1.heap.size w1.heap.size v (List.replicate (k - q) (fC j)) 0 ∧ Fr w wr []) (fun i _ => k - (intOf i).toNat)
              case atStart => exact ⟨0, _, Nat.zero_le _, rfl, M0.out, F.out⟩
              case round =>
                clear F M0
                obtain ⟨q, v, hq, rfl, hm, hf⟩ := hrel
                have M := Lib.hid hm
                have F := Lib.hid hf
                clear hm hf
                by_cases hlt : q < k
                · have hget : (List.replicate (k - q) (fC j)).getD 0 dL = fC j := by
                    rw [show k - q = (k - q - 1) + 1 by omega, List.replicate_succ]; rfl
                  go_wp2_with fail
                  refine (take_any w1.heap.size w1.heap.size v _ 0 0 _ M.out (by rw [List.length_replicate]; omega) (by rw [hget]; exact fC_size j)).mono ?_
                  rintro e w4 ⟨u, rfl, xx, rfl, hit, h⟩
                  rw [hget, fC_nums] at hit
                  rw [show (List.replicate (k - q) (fC j)).eraseIdx 0 = List.replicate (k - (q + 1)) (fC j) by rw [List.eraseIdx_zero, List.tail_replicate]; congr 1] at h
                  have F4 := Lib.hid (h.step M.out (by have := HS.out; omega) F.out)
                  obtain ⟨v4, m4, _⟩ := h
                  obtain ⟨g4, c4, cs4, fz4, rfl, _, hby, _⟩ := hit
                  have M4 := Lib.hid m4
                  have hw8 := u8_of_nat j
                  obtain ⟨y, hy⟩ : ∃ y, y = ((j % 256 : Nat) : Int) := ⟨_, rfl⟩
                  rw [← hy] at hw8 hby
                  have Y4 := Lib.hid hby
                  clear hby m4 hy hget
                  have FA := Lib.hid ((Fr.alloc w4 (.cells #[.int .i64 (j : Int), .slice (some ⟨g4, 0, none⟩) 2 c4] 31) []).trans (Fr.alloc (w4.alloc (.cells #[.int .i64 (j : Int), .slice (some ⟨g4, 0, none⟩) 2 c4] 31)) (.cells (u8s [y, 7]).toArray 5) []))
                  have HY := Lib.hid (show Bytes ((w4.alloc (.cells #[.int .i64 (j : Int), .slice (some ⟨g4, 0, none⟩) 2 c4] 31)).alloc (.cells (u8s [y, 7]).toArray 5)) (.slice (some ⟨w4.heap.size + 1, 0, none⟩) 2 2) [y, 7] by
                    have h := bytes_new (heap_alloc_new (w4.alloc (.cells #[.int .i64 (j : Int), .slice (some ⟨g4, 0, none⟩) 2 c4] 31)) (.cells (u8s [y, 7]).toArray 5)) (by simp)
                    rwa [show (w4.alloc (.cells #[.int .i64 (j : Int), .slice (some ⟨g4, 0, none⟩) 2 c4] 31)).heap.size = w4.heap.size + 1 by simp] at h)
                  go_wp2_with fail
                  refine (same_any _ [y, 7] _ [y, 7] _ (Y4.out.keep FA.out) HY.out (by simp) true (by simp)).mono ?_
                  rintro e w5 ⟨rfl, hg⟩
                  have M5 := Lib.hid ((M4.out.keep FA.out).keep (Fr.of_grown hg []))
                  have F5 := Lib.hid ((F4.out.trans FA.out).trans (Fr.of_grown hg []))
                  clear hg hw8
                  go_wp2
                  go_roundw
                  case rel => exact ⟨q + 1, v4, by omega, by go_num, M5.out, F5.out⟩
                  case measure => simp [intOf]; omega
                · have hqk : k - q = 0 := by omega
                  have M0 := Lib.hid (show Ml wr w1.heap.size w1.heap.size v [] 0 by have := M.out; rw [hqk] at this; simpa using this)
                  clear M hqk
                  go_wp2_with fail
                  refine (len_any _ _ _ _ _ _ M0.out).mono ?_
                  rintro e w5 ⟨rfl, rfl⟩
                  go_wp2_with fail
                  refine (lost_any _ _ _ _ _ _ M0.out).mono ?_
                  rintro e w5 ⟨rfl, rfl⟩
                  go_wp2
                  go_ret
                  exact ⟨rfl, F.out.grown (by simp)⟩
end Go.Proofs.Ytlkmpmhbidhfcaa
