/- Stops that count for nothing. Plain. -/
import Derived.Test.YtgcgbiaigbblkaaDoorCaStop
namespace Go.Proofs.YtgcgbiaigbblkaaDoor

def andN (a b : Nat) : Nat := a &&& (18446744073709551615 - b)
theorem andN_lt {a : Nat} (h : a < 18446744073709551616) (b : Nat) : andN a b < 18446744073709551616 := Nat.lt_of_le_of_lt Nat.and_le_left h
theorem hasB_and (a b : Nat) (z : Int) : hasB (a &&& b) z = (hasB a z && hasB b z) := by
  by_cases hz : z < 0
  · rw [hasB_neg hz, hasB_neg hz]; rfl
  · obtain ⟨i, rfl⟩ : ∃ i : Nat, z = (i : Int) := ⟨z.toNat, by omega⟩
    rw [hasB_nat, hasB_nat, hasB_nat, Nat.testBit_and]
theorem hasB_andN {a b : Nat} (ha : a < 18446744073709551616) (hb : b < 18446744073709551616) (z : Int) : hasB (andN a b) z = (hasB a z && !hasB b z) := by
  cases q : hasB a z with
  | false =>
    rw [andN, hasB_and, q]; rfl
  | true =>
    have r := hasB_range ha q
    obtain ⟨i, rfl⟩ : ∃ i : Nat, z = (i : Int) := ⟨z.toNat, by omega⟩
    rw [andN, hasB_and, q, hasB_nat, hasB_nat, show 18446744073709551615 - b = 2 ^ 64 - (b + 1) by rw [show (2 : Nat) ^ 64 = 18446744073709551616 from rfl]; omega, Nat.testBit_two_pow_sub_succ (by rw [show (2 : Nat) ^ 64 = 18446744073709551616 from rfl]; exact hb), decide_eq_true (by omega)]
    rfl
/-- The floors from f on. -/
def outN (f : Nat) : Nat := 18446744073709551615 * 2 ^ f % 18446744073709551616
theorem outN_lt (f : Nat) : outN f < 18446744073709551616 := Nat.mod_lt _ (by decide)
theorem hasB_out {f : Nat} (z : Int) : hasB (outN f) z = decide ((f : Int) ≤ z ∧ z < 64) := by
  by_cases hz : z < 0
  · rw [hasB_neg hz, decide_eq_false (by omega)]
  · obtain ⟨i, rfl⟩ : ∃ i : Nat, z = (i : Int) := ⟨z.toNat, by omega⟩
    rw [hasB_nat, outN, show 18446744073709551616 = 2 ^ 64 from rfl, Nat.testBit_mod_two_pow, Nat.testBit_mul_two_pow, show 18446744073709551615 = 2 ^ 64 - 1 from rfl, Nat.testBit_two_pow_sub_one, ← Bool.decide_and, ← Bool.decide_and]
    exact decide_eq_decide.2 (by omega)
/-- What is more, and leads out; what is left without it. -/
def outT (f : Nat) (s m : Sp) : Sp := ⟨s.c ||| (m.c &&& outN f), s.u ||| (m.u &&& outN f) ||| oneN ((f : Int) - 1), s.d ||| (m.d &&& outN f) ||| 1⟩
def outU (f : Nat) (s : Sp) : Sp := ⟨andN s.c (outN f), andN (andN s.u (outN f)) (oneN ((f : Int) - 1)), andN (andN s.d (outN f)) 1⟩
theorem outT_ok (f : Nat) {s m : Sp} (a : s.ok) (_ : m.ok) : (outT f s m).ok :=
  have k : ∀ n, n &&& outN f < 18446744073709551616 := fun n => Nat.lt_of_le_of_lt Nat.and_le_right (outN_lt f)
  ⟨or_lt a.c (k _), or_lt (or_lt a.u (k _)) (oneN_lt _), or_lt (or_lt a.d (k _)) (by decide)⟩
theorem outU_ok (f : Nat) {s : Sp} (a : s.ok) : (outU f s).ok := ⟨andN_lt a.c _, andN_lt (andN_lt a.u _) _, andN_lt (andN_lt a.d _) _⟩
theorem out_car {f : Nat} (f1 : f ≤ 63) {s : Sp} (a : s.ok) (m : Sp) {z : Int} (z1 : z < f) : hasB (outT f s m).c z = hasB (outU f s).c z := by
  show hasB (s.c ||| (m.c &&& outN f)) z = hasB (andN s.c (outN f)) z
  rw [hasB_or, hasB_and, hasB_andN a.c (outN_lt f), hasB_out, decide_eq_false (by omega)]
  simp
theorem out_fit {h : Ho} (k : h.ok) {f : Nat} (hf : h.f = (f : Int)) (f1 : f ≤ 63) {s m : Sp} (a : s.ok) (b : m.ok) : h.fit (outT f s m) = h.fit (outU f s) := by
  refine sp_ext (fun z => ?_) (fun z => ?_) (fun z => ?_)
  · rw [fit_car k, fit_car k]
    by_cases q : z < h.f
    · rw [out_car f1 a m (by omega)]
    · rw [decide_eq_false q, Bool.and_false, Bool.and_false]
  · rw [fit_up k, fit_up k]
    by_cases q : z < h.f - 1
    · congr 1
      show hasB (s.u ||| (m.u &&& outN f) ||| oneN ((f : Int) - 1)) z = hasB (andN (andN s.u (outN f)) (oneN ((f : Int) - 1))) z
      rw [hasB_or, hasB_or, hasB_and, hasB_andN (andN_lt a.u _) (oneN_lt _), hasB_andN a.u (outN_lt f), hasB_out, hasB_one, decide_eq_false (by omega), decide_eq_false (by omega)]
      simp
    · rw [decide_eq_false q, Bool.and_false, Bool.and_false]
  · rw [fit_dn k (outT_ok f a b), fit_dn k (outU_ok f a)]
    by_cases q : z ≠ 0 ∧ z < h.f
    · congr 1
      show hasB (s.d ||| (m.d &&& outN f) ||| 1) z = hasB (andN (andN s.d (outN f)) 1) z
      have e : hasB 1 z = false := by
        have := hasB_one 0 z
        rw [show oneN 0 = 1 by decide, decide_eq_false (by omega)] at this
        exact this
      rw [hasB_or, hasB_or, hasB_and, hasB_andN (andN_lt a.d _) (by decide), hasB_andN a.d (outN_lt f), hasB_out, e, decide_eq_false (by omega)]
      simp
    · rw [decide_eq_false q, Bool.and_false, Bool.and_false]
theorem out_same {h : Ho} (k : h.ok) (f1 : h.f ≤ 63) (c : Ca) {f : Nat} (hf : h.f = (f : Int)) {s m : Sp} (a : s.ok) (b : m.ok) (ob : Bool) : c.tick h (outT f s m) ob = c.tick h (outU f s) ob :=
  tick_same (out_fit k hf (by omega) a b) (fun z _ z1 => out_car (by omega) a m (by omega)) ob
end Go.Proofs.YtgcgbiaigbblkaaDoor
