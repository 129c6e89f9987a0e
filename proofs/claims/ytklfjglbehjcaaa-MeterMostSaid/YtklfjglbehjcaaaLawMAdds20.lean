/- The meter's law of sums (so many of a kind, and so many of another one, are their sum; two meters are apart): its walk. -/
import Derived.Test.YtklfjglbehjcaaaMeter2
import Derived.Test.YtklfjglbehjcaaaNum
namespace Go.Proofs.Ytklfjglbehjcaaa
open Go.RowKit

theorem sm_up (g : Nat → Int) (k n : Nat) : sm (upN g k (g k + 1)) n = sm g n + (if k < n then 1 else 0) := by
  induction n with
  | zero => simp [sm]
  | succ n ih =>
    simp only [sm, ih]
    unfold upN
    by_cases e : n = k
    · subst e; rw [if_pos rfl, if_neg (by omega), if_pos (by omega)]; omega
    · rw [if_neg e]
      by_cases e2 : k < n
      · rw [if_pos e2, if_pos (by omega)]; omega
      · rw [if_neg e2, if_neg (by omega)]; omega
/-- i of kind A, j of kind B. -/
def ab (A B i j : Nat) : Nat → Int := fun t => (if t = A then (i : Int) else 0) + (if t = B then (j : Int) else 0)
theorem ab_few (A B i j : Nat) : Few (ab A B i j) ((i : Int) + j) := by
  intro t; unfold ab; split <;> split <;> omega
theorem ab_one (A B i j : Nat) : upN (ab A B i j) A (ab A B i j A + 1) = ab A B (i + 1) j := by
  funext t
  unfold upN ab
  by_cases e : t = A
  · subst e; simp only [if_true]; omega
  · simp only [e, if_false]
theorem ab_two (A B i j : Nat) : upN (ab A B i j) B (ab A B i j B + 1) = ab A B i (j + 1) := by
  funext t
  unfold upN ab
  by_cases e : t = B
  · subst e; simp only [if_true]; omega
  · simp only [e, if_false]
theorem ab_zero (A B : Nat) : ab A B 0 0 = zN := by funext t; unfold ab zN; simp
theorem ab_sum (A B : Nat) (hA : A < 11) (hB : B < 11) (i j : Nat) : sm (ab A B i j) 11 = (i : Int) + j := by
  induction j with
  | zero =>
    induction i with
    | zero => rw [ab_zero]; rfl
    | succ i ih => rw [← ab_one, sm_up, ih, if_pos hA]; omega
  | succ j ih => rw [← ab_two, sm_up, ih, if_pos hB]; omega

set_option maxHeartbeats 2000000 in
set_option maxRecDepth 100000 in
theorem madds_walk (a b n k : Int) (w : World) (ha : (Lit.int .i64 a).wf = true) (hb : (Lit.int .i64 b).wf = true) (hn : (Lit.int .i64 n).wf = true) (hk : (Lit.int .i64 k).wf = true) :
    Calls Try.prog 4 #[.int .i64 a, .int .i64 b, .int .i64 n, .int .i64 k] w fun e w' => e = .returned (.bool true) ∧ w.grownBy w' none := by
  obtain ⟨A, hA, _, num1⟩ := numberTo_nat a 11 (by omega) (by omega) ha
  obtain ⟨B, hB, _, num2⟩ := numberTo_nat b 11 (by omega) (by omega) hb
  obtain ⟨N, hN, _, num3⟩ := numberTo_nat n 50 (by omega) (by omega) hn
  obtain ⟨K, hK, _, num4⟩ := numberTo_nat k 50 (by omega) (by omega) hk
  have H1 := Lib.hid num1
  have H2 := Lib.hid num2
  have H3 := Lib.hid num3
  have H4 := Lib.hid num4
  clear num1 num2 num3 num4 ha hb hn hk
  go_enter Try.func4, Try.ntmps4
  go_wp2_with fail
  refine (mfirst_any _).mono ?_
  rintro e w1 ⟨rfl, hf⟩
  have F1 := Lib.hid hf
  clear hf
  go_wp2_with fail
  refine (H1.out _).mono ?_
  rintro e w2 ⟨rfl, rfl⟩
  go_wp2_with fail
  refine (H2.out _).mono ?_
  rintro e w2 ⟨rfl, rfl⟩
  go_wp2_with fail
  refine (H3.out _).mono ?_
  rintro e w2 ⟨rfl, rfl⟩
  go_wp2_with fail
  refine (H4.out _).mono ?_
  rintro e w2 ⟨rfl, rfl⟩
  have hM := (new_mt w1).fr (Fr.alloc _ (.cells #[.int .i64 0, .int .i64 0, .int .i64 0, .int .i64 0, .int .i64 0, .int .i64 0, .int .i64 0, .int .i64 0, .int .i64 0, .int .i64 0, .int .i64 0] 32) []) (by simp)
  have hO := new_mt (w1.alloc (.cells #[.int .i64 0, .int .i64 0, .int .i64 0, .int .i64 0, .int .i64 0, .int .i64 0, .int .i64 0, .int .i64 0, .int .i64 0, .int .i64 0, .int .i64 0] 32))
  rw [show (w1.alloc (.cells #[.int .i64 0, .int .i64 0, .int .i64 0, .int .i64 0, .int .i64 0, .int .i64 0, .int .i64 0, .int .i64 0, .int .i64 0, .int .i64 0, .int .i64 0] 32)).heap.size = w1.heap.size + 1 by simp] at hO
  have M1 := Lib.hid hM
  have O1 := Lib.hid hO
  have HP := Lib.hid F1.out.size
  have FF := Lib.hid ((F1.out.trans (Fr.alloc w1 (.cells #[.int .i64 0, .int .i64 0, .int .i64 0, .int .i64 0, .int .i64 0, .int .i64 0, .int .i64 0, .int .i64 0, .int .i64 0, .int .i64 0, .int .i64 0] 32) [])).trans (Fr.alloc _ (.cells #[.int .i64 0, .int .i64 0, .int .i64 0, .int .i64 0, .int .i64 0, .int .i64 0, .int .i64 0, .int .i64 0, .int .i64 0, .int .i64 0, .int .i64 0] 32) []))
  clear hM hO
  go_wp2
  go_loopw [12] (fun i wr => ∃ j : Nat, j ≤ N ∧ i = .int .i64 j ∧ Mt wr w1.heap.size (ab A B j 0) ∧ Mt wr (w1.heap.size + 1) zN ∧ Fr w wr []) (fun i _ => N - (intOf i).toNat)
  case atStart => exact ⟨0, by omega, rfl, by rw [ab_zero]; exact M1.out, O1.out, FF.out⟩
  case round =>
    obtain ⟨j, hj, rfl, hm, ho, hf⟩ := hrel
    clear M1 O1 FF
    have M0 := Lib.hid hm
    have O0 := Lib.hid ho
    have F0 := Lib.hid hf
    clear hm ho hf
    by_cases hlt : j < N
    · go_wp2_with fail
      refine (madd_yes w1.heap.size _ _ A _ M0.out hA (ab_few A B j 0) (by omega)).mono ?_
      rintro e w2 ⟨rfl, h, hf⟩
      have M2 := Lib.hid h
      have O2 := Lib.hid (O0.out.fr hf (by simp))
      have F2 := Lib.hid (F0.out.new hf (by have := HP.out; simp; omega))
      clear h hf
      go_wp2
      go_roundw
      case rel => exact ⟨j + 1, by omega, by go_num, by rw [← ab_one]; exact M2.out, O2.out, F2.out⟩
      case measure => simp [intOf]; omega
    · obtain rfl : j = N := by omega
      go_wp2
      go_loopw [13] (fun i wr => ∃ q : Nat, q ≤ K ∧ i = .int .i64 q ∧ Mt wr w1.heap.size (ab A B j q) ∧ Mt wr (w1.heap.size + 1) zN ∧ Fr w wr []) (fun i _ => K - (intOf i).toNat)
      case atStart => exact ⟨0, by omega, rfl, M0.out, O0.out, F0.out⟩
      case round =>
        obtain ⟨q, hq, rfl, hm, ho, hf⟩ := hrel
        clear M0 O0 F0
        have M0 := Lib.hid hm
        have O0 := Lib.hid ho
        have F0 := Lib.hid hf
        clear hm ho hf
        by_cases hlt2 : q < K
        · go_wp2_with fail
          refine (madd_yes w1.heap.size _ _ B _ M0.out hB (ab_few A B j q) (by omega)).mono ?_
          rintro e w2 ⟨rfl, h, hf⟩
          have M2 := Lib.hid h
          have O2 := Lib.hid (O0.out.fr hf (by simp))
          have F2 := Lib.hid (F0.out.new hf (by have := HP.out; simp; omega))
          clear h hf
          go_wp2
          go_roundw
          case rel => exact ⟨q + 1, by omega, by go_num, by rw [← ab_two]; exact M2.out, O2.out, F2.out⟩
          case measure => simp [intOf]; omega
        · obtain rfl : q = K := by omega
          by_cases he : A = B
          · subst he
            go_wp2_with fail
            refine (mmost_any _ _ _ O0.out false (by decide)).mono ?_
            rintro e w2 ⟨rfl, hf⟩
            have M2 := Lib.hid (M0.out.fr hf (by simp))
            have O2 := Lib.hid (O0.out.fr hf (by simp))
            have F2 := Lib.hid (F0.out.trans hf)
            clear hf
            have HG := Lib.hid (mget_yes w1.heap.size _ A _ M2.out hA)
            rw [show ab A A j q A = (j : Int) + q by unfold ab; simp] at HG
            go_wp2_with fail
            refine HG.out.mono ?_
            rintro e w3 ⟨rfl, rfl⟩
            have HS := Lib.hid (msum_any w1.heap.size _ _ _ M2.out (ab_few A A j q) (by omega))
            rw [ab_sum A A hA hA j q] at HS
            go_wp2_with fail
            refine HS.out.mono ?_
            rintro e w3 ⟨rfl, hf⟩
            have M3 := Lib.hid (M2.out.fr hf (by simp))
            have O3 := Lib.hid (O2.out.fr hf (by simp))
            have F3 := Lib.hid (F2.out.trans hf)
            clear hf
            have HS0 := Lib.hid (msum_any (w1.heap.size + 1) _ 0 _ O3.out Few.zero (by omega))
            rw [show sm zN 11 = 0 by decide] at HS0
            go_wp2_with fail
            refine HS0.out.mono ?_
            rintro e w4 ⟨rfl, hf⟩
            have F4 := Lib.hid (F3.out.trans hf)
            clear hf
            go_wp2_with fail
            refine (madd_no w1.heap.size 0 _ (by omega)).mono ?_
            rintro e w5 ⟨rfl, rfl⟩
            go_wp2_with fail
            refine (madd_no w1.heap.size 12 _ (by omega)).mono ?_
            rintro e w5 ⟨rfl, rfl⟩
            go_wp2
            go_ret
            exact ⟨rfl, F4.out.grown (by simp)⟩
          · have he' : ¬ ((A : Int) = (B : Int)) := by omega
            go_wp2_with fail
            refine (mmost_any _ _ _ O0.out false (by decide)).mono ?_
            rintro e w2 ⟨rfl, hf⟩
            have M2 := Lib.hid (M0.out.fr hf (by simp))
            have O2 := Lib.hid (O0.out.fr hf (by simp))
            have F2 := Lib.hid (F0.out.trans hf)
            clear hf
            have HG := Lib.hid (mget_yes w1.heap.size _ A _ M2.out hA)
            rw [show ab A B j q A = (j : Int) by unfold ab; simp [he]] at HG
            go_wp2_with fail
            refine HG.out.mono ?_
            rintro e w3 ⟨rfl, rfl⟩
            have HS := Lib.hid (msum_any w1.heap.size _ _ _ M2.out (ab_few A B j q) (by omega))
            rw [ab_sum A B hA hB j q] at HS
            go_wp2_with fail
            refine HS.out.mono ?_
            rintro e w3 ⟨rfl, hf⟩
            have M3 := Lib.hid (M2.out.fr hf (by simp))
            have O3 := Lib.hid (O2.out.fr hf (by simp))
            have F3 := Lib.hid (F2.out.trans hf)
            clear hf
            have HS0 := Lib.hid (msum_any (w1.heap.size + 1) _ 0 _ O3.out Few.zero (by omega))
            rw [show sm zN 11 = 0 by decide] at HS0
            go_wp2_with fail
            refine HS0.out.mono ?_
            rintro e w4 ⟨rfl, hf⟩
            have F4 := Lib.hid (F3.out.trans hf)
            clear hf
            go_wp2_with fail
            refine (madd_no w1.heap.size 0 _ (by omega)).mono ?_
            rintro e w5 ⟨rfl, rfl⟩
            go_wp2_with fail
            refine (madd_no w1.heap.size 12 _ (by omega)).mono ?_
            rintro e w5 ⟨rfl, rfl⟩
            go_wp2
            go_ret
            exact ⟨rfl, F4.out.grown (by simp)⟩
end Go.Proofs.Ytklfjglbehjcaaa
