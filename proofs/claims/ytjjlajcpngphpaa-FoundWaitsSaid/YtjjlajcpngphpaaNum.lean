/- A number from 0 to below a bound, of any (a helper of the statements). -/
import Derived.Test.YtjjlajcpngphpaaBase
import Derived.OpenShut
namespace Go.Proofs.Ytjjlajcpngphpaa
open Go.RowKit

theorem emod_walk (n b : Int) (hb : 0 < b) : n % b = if n.tmod b < 0 then n.tmod b + b else n.tmod b := by
  have h1 := Int.emod_nonneg n (show b ≠ 0 by omega)
  have h2 := Int.emod_lt_of_pos n hb
  have h3 := Int.tmod_lt_of_pos n hb
  have h4 := Int.mul_ediv_add_emod n b
  have h5 := Int.mul_tdiv_add_tmod n b
  by_cases h : 0 ≤ n
  · rw [Int.tmod_eq_emod_of_nonneg h, if_neg (by omega)]
  · have h6 : n.tmod b ≤ 0 := by
      have := Int.tmod_nonneg b (show 0 ≤ -n by omega)
      rw [Int.neg_tmod] at this; omega
    have h7 : -b < n.tmod b := by
      have := Int.tmod_lt_of_pos (-n) hb
      rw [Int.neg_tmod] at this; omega
    have key : n.tmod b = n % b ∨ n.tmod b = n % b - b := by
      have e : b * (n / b - n.tdiv b) = n.tmod b - n % b := by rw [Int.mul_sub]; omega
      have hq : n / b - n.tdiv b = 0 ∨ n / b - n.tdiv b = -1 := by
        have hlo : -b * 2 < b * (n / b - n.tdiv b) := by omega
        have hhi : b * (n / b - n.tdiv b) < b := by omega
        have a1 : -2 < n / b - n.tdiv b := by
          apply Int.lt_of_mul_lt_mul_left (a := b) _ (by omega)
          have : b * -2 = -b * 2 := by omega
          omega
        have a2 : n / b - n.tdiv b < 1 := by
          apply Int.lt_of_mul_lt_mul_left (a := b) _ (by omega)
          omega
        omega
      rcases hq with hq | hq
      · rw [hq] at e; left; omega
      · rw [hq] at e; right; omega
    rcases key with h | h
    · rw [h]; split <;> omega
    · rw [h]; split <;> omega

/-- 'Number': from 0 to below a bound. -/
theorem numberTo_any (n b : Int) (w : World) (hb : 0 < b) (hb1 : b ≤ 1000000) (_h0 : -9223372036854775808 ≤ n) (_h1 : n ≤ 9223372036854775807) :
    Calls Try.prog 14 #[.int .i64 n, .int .i64 b] w fun e w' => e = .returned (.int .i64 (n % b)) ∧ w = w' := by
  have hne : ¬ b = 0 := by omega
  have hlt := Int.tmod_lt_of_pos n hb
  have hgt : -b < n.tmod b := by
    have := Int.tmod_lt_of_pos (-n) hb
    rw [Int.neg_tmod] at this; omega
  have HEM := Lib.hid (emod_walk n b hb)
  by_cases hneg : n.tmod b < 0
  · have HV : Hid (n % b = n.tmod b + b) := by show _ = _; rw [HEM.out, if_pos hneg]
    go_enter Try.func14, Try.ntmps14
    go_wp2
    go_ret
    exact ⟨by rw [HV.out]; rfl, rfl⟩
  · have HV : Hid (n % b = n.tmod b) := by show _ = _; rw [HEM.out, if_neg hneg]
    go_enter Try.func14, Try.ntmps14
    go_wp2
    go_ret
    exact ⟨by rw [HV.out]; rfl, rfl⟩
/-- The same, as a natural number. -/
theorem numberTo_nat (n : Int) (b : Nat) (hb : 0 < b) (hb1 : b ≤ 1000000) (h : (Lit.int .i64 n).wf = true) : ∃ k : Nat, k < b ∧ n % (b : Int) = (k : Int) ∧ ∀ w : World, Calls Try.prog 14 #[.int .i64 n, .int .i64 (b : Int)] w fun e w' => e = .returned (.int .i64 (k : Int)) ∧ w = w' := by
  obtain ⟨h0, h1⟩ := bounds_i64 h
  obtain ⟨k, hk⟩ := Int.eq_ofNat_of_zero_le (Int.emod_nonneg n (show (b : Int) ≠ 0 by omega))
  refine ⟨k, ?_, hk, fun w => ?_⟩
  · have := Int.emod_lt_of_pos n (show (0 : Int) < (b : Int) by omega); omega
  · have := numberTo_any n b w (by omega) (by omega) h0 h1
    rw [hk] at this; exact this
end Go.Proofs.Ytjjlajcpngphpaa
