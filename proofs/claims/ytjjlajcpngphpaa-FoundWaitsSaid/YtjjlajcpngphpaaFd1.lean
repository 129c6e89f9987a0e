/- Package found: whether so many ticks are above the patience of so many cars; the patience, the package's and the document's. -/
import Derived.Test.YtjjlajcpngphpaaHasA
import Derived.Laws.BitsLemmas
namespace Go.Proofs.Ytjjlajcpngphpaa
open Go.RowKit

/-- Above the patience. -/
def longB (t c : Int) : Bool := decide (4 * c + 8 < t)
theorem and3 (t : Int) : bits BinOp.and IntKind.i64 t 3 = t % 4 := by
  have h : (BitVec.ofInt 64 t &&& BitVec.ofInt 64 3).toNat = (t % 4).toNat := by
    rw [BitVec.toNat_and, BitVec.toNat_ofInt, show (BitVec.ofInt 64 3).toNat = 2 ^ 2 - 1 from by decide, Nat.and_two_pow_sub_one_eq_mod]
    omega
  show IntKind.i64.wrap ((BitVec.ofInt 64 t &&& BitVec.ofInt 64 3).toNat : Int) = _
  rw [h]
  rw [IntKind.wrap_i64]
  omega
theorem longer_any (t c : Int) (ht : -9223372036854775808 ≤ t ∧ t ≤ 9223372036854775807) (w : World) :
    Calls Try.prog 16 #[.int .i64 t, .int .i64 c] w fun e w' => e = .returned (.bool (longB t c)) ∧ w' = w := by
  have h3 := and3 t
  obtain ⟨m, hm⟩ : ∃ m, m = bits BinOp.and IntKind.i64 t 3 := ⟨_, rfl⟩
  obtain ⟨q, hq⟩ : ∃ q, q = t / 4 - 2 := ⟨_, rfl⟩
  obtain ⟨b, hb⟩ : ∃ b, b = longB t c := ⟨_, rfl⟩
  rw [← hb]
  unfold longB at hb
  rw [← hm] at h3
  have e1 : (c < t / 4 - 2) = (c < q) := by rw [hq]
  by_cases h1 : c < t / 4 - 2
  · obtain rfl : b = true := by rw [hb, decide_eq_true_iff]; omega
    clear hb hm h3 e1 hq
    go_enter Try.func16, Try.ntmps16
    go_wp2
    go_ret
    exact ⟨rfl, rfl⟩
  · by_cases h2 : t / 4 - 2 = c
    · have hE : (0 < bits BinOp.and IntKind.i64 t 3) = (b = true) := by
        rw [← hm, hb, decide_eq_true_iff]; exact propext (by omega)
      clear hb hm h3 e1 hq
      go_enter Try.func16, Try.ntmps16
      go_wp2
      go_ret
      exact ⟨rfl, rfl⟩
    · obtain rfl : b = false := by rw [hb, decide_eq_false_iff_not]; omega
      have e2 : (t / 4 - 2 == c) = false := by simp [h2]
      clear hb hm h3 e1 hq
      go_enter Try.func16, Try.ntmps16
      go_wp2
      go_ret
      exact ⟨rfl, rfl⟩
theorem patience_any (c : Int) (hc : -1099511627776 ≤ c ∧ c ≤ 1099511627776) (w : World) :
    Calls Try.prog 12 #[.int .i64 c] w fun e w' => e = .returned (.int .i64 (4 * c + 8)) ∧ w' = w := by
  go_enter Try.func12, Try.ntmps12
  go_wp2
  go_ret
  exact ⟨rfl, rfl⟩
theorem rpatience_any (c : Int) (hc : -1099511627776 ≤ c ∧ c ≤ 1099511627776) (w : World) :
    Calls Try.prog 13 #[.int .i64 c] w fun e w' => e = .returned (.int .i64 (4 * c + 8)) ∧ w' = w := by
  go_enter Try.func13, Try.ntmps13
  go_wp2
  go_ret
  exact ⟨rfl, rfl⟩
end Go.Proofs.Ytjjlajcpngphpaa
