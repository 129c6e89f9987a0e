/- Stops by value; a floor's bit; all; cut; above, below. -/
import Derived.Test.YtgcgbiaigbblkaaDoorBase
import Derived.Test.YtgcgbiaigbblkaaDoorDet
import Derived.Test.YtgcgbiaigbblkaaDoorAMath
import Derived.Deep.RegionHeld3
import Derived.Lib.MinMax
import Derived.Laws.Bits64b
import Derived.Laws.ShiftsVarLaws
namespace Go.Proofs.YtgcgbiaigbblkaaDoor
open Go.RowKit

/-- Stops by value: three numbers whose bits are floors. -/
structure Sp where
  c : Nat
  u : Nat
  d : Nat
abbrev Sp.v (s : Sp) : Value := .agg #[.int .u64 s.c, .int .u64 s.u, .int .u64 s.d]
abbrev Sp.box (T : TypeId) (s : Sp) : Obj := .cells #[.int .u64 s.c, .int .u64 s.u, .int .u64 s.d] T
structure Sp.ok (s : Sp) : Prop where
  c : s.c < 18446744073709551616
  u : s.u < 18446744073709551616
  d : s.d < 18446744073709551616
def Sp.all (s : Sp) : Nat := s.c ||| s.u ||| s.d
theorem Sp.ok.all {s : Sp} (h : s.ok) : s.all < 18446744073709551616 := or_lt (or_lt h.c h.u) h.d
theorem arow {w : World} {g : Nat} {a b c : Value} {T : TypeId} (h : w.heap[g]? = some (.cells #[a, b, c] T (0, 0))) :
    w.cell? ⟨g, 0, none⟩ = some a ∧ w.cell? ⟨g, 1, none⟩ = some b ∧ w.cell? ⟨g, 2, none⟩ = some c :=
  ⟨by rw [cell_of_row w g 0 _ _ _ h]; rfl, by rw [cell_of_row w g 1 _ _ _ h]; rfl, by rw [cell_of_row w g 2 _ _ _ h]; rfl⟩

theorem one_shl (z : Int) (h0 : 0 ≤ z) (h : z < 64) : IntKind.u64.wrap ((2 : Int) ^ z.toNat) = ((oneN z : Nat) : Int) := by
  have := oneN_lt z
  have e : (2 : Int) ^ z.toNat = ((oneN z : Nat) : Int) := by rw [oneN_in h0 h]; simp
  rw [e, IntKind.wrap_u64]
  omega

theorem bit_any (z : Int) (w : World) : Calls Tryd.prog 33 #[.int .i64 z] w fun e w' => e = .returned (.int .u64 (oneN z)) ∧ w' = w := by
  by_cases h0 : z < 0
  · have HR : Hid (((oneN z : Nat) : Int) = 0) := by show _ = _; rw [oneN_out (by omega)]; rfl
    go_enter Tryd.func33, Tryd.ntmps33
    go_wp2
    go_ret
    exact ⟨by rw [HR.out]; rfl, rfl⟩
  · by_cases h1 : 64 ≤ z
    · have HR : Hid (((oneN z : Nat) : Int) = 0) := by show _ = _; rw [oneN_out (by omega)]; rfl
      have h0' : 0 ≤ z := by omega
      clear h0
      go_enter Tryd.func33, Tryd.ntmps33
      go_wp2
      go_ret
      exact ⟨by rw [HR.out]; rfl, rfl⟩
    · have h0' : 0 ≤ z := by omega
      have h1' : z < 64 := by omega
      have HR := Lib.hid (one_shl z h0' h1')
      clear h0 h1
      go_enter Tryd.func33, Tryd.ntmps33
      go_wp2
      go_ret
      exact ⟨by rw [← HR.out]; rfl, rfl⟩

theorem all_any (s : Sp) (w : World) (h : s.ok) (n : Nat) (hn : n = s.all) : Calls Tryd.prog 34 #[s.v] w fun e w' => e = .returned (.int .u64 n) ∧ Fr w w' [] := by
  obtain ⟨c, u, d⟩ := s
  have FA := Lib.hid (Fr.alloc w (Sp.box 37 ⟨c, u, d⟩) [])
  have E1 := bits_or_u64_nat c u h.c h.u
  have E2 := bits_or_u64_nat (c ||| u) d (or_lt h.c h.u) h.d
  have HN := Lib.hid hn
  clear hn h
  dsimp only [Sp.v, Sp.box] at *
  go_enter Tryd.func34, Tryd.ntmps34
  go_wp2
  go_ret
  exact ⟨by rw [HN.out]; rfl, FA.out⟩

theorem cut_any (z c : Int) (w : World) (hc : c = min (max z (-1)) 64) : Calls Tryd.prog 59 #[.int .i64 z] w fun e w' => e = .returned (.int .i64 c) ∧ w' = w := by
  obtain ⟨m, hm⟩ : ∃ m, max z (-1) = m := ⟨_, rfl⟩
  obtain ⟨k, hk⟩ : ∃ k, min m 64 = k := ⟨_, rfl⟩
  rw [hm, hk] at hc
  have HC := Lib.hid hc
  clear hc
  go_enter Tryd.func59, Tryd.ntmps59
  go_wp2
  go_ret
  exact ⟨by rw [HC.out]; rfl, rfl⟩

theorem up_shr (n k : Nat) (hn : n < 18446744073709551616) : (n : Int) / 2 ^ min k 64 = ((n / 2 ^ k : Nat) : Int) := by
  by_cases h : k ≤ 64
  · rw [Nat.min_eq_left h]; simp
  · have e : n / 2 ^ k = 0 := Nat.div_eq_of_lt (Nat.lt_of_lt_of_le hn (by rw [show 18446744073709551616 = 2 ^ 64 from rfl]; exact Nat.pow_le_pow_right (by decide) (by omega)))
    rw [Nat.min_eq_right (by omega), e]
    omega
theorem dn_shl (n k : Nat) : IntKind.u64.wrap ((n : Int) * 2 ^ min k 64) = ((n * 2 ^ k % 18446744073709551616 : Nat) : Int) := by
  have e : (n : Int) * 2 ^ min k 64 = ((n * 2 ^ min k 64 : Nat) : Int) := by simp
  rw [e, IntKind.wrap_u64]
  by_cases h : k ≤ 64
  · rw [Nat.min_eq_left h]; omega
  · obtain ⟨j, rfl⟩ : ∃ j, k = 64 + j := ⟨k - 64, by omega⟩
    rw [Nat.min_eq_right (by omega), Nat.pow_add, show (2 : Nat) ^ 64 = 18446744073709551616 from rfl, Nat.mul_comm 18446744073709551616, ← Nat.mul_assoc, Nat.mul_mod_left]
    omega
theorem above_any (s : Sp) (z : Int) (w : World) (h : s.ok) (c : Int) (hc : c = min (max z (-1)) 64) (r : Nat) (hr : r = upN s.all c) : Calls Tryd.prog 54 #[s.v, .int .i64 z] w fun e w' => e = .returned (.int .u64 r) ∧ Fr w w' [] := by
  have hcc : -1 ≤ c ∧ c ≤ 64 := by omega
  obtain ⟨n, hn⟩ : ∃ n, n = s.all := ⟨_, rfl⟩
  have AL := Lib.hid (fun W => all_any s W h n hn)
  have CU := Lib.hid (fun W => cut_any z c W hc)
  obtain ⟨p, u, d⟩ := s
  have FA := Lib.hid (Fr.alloc w (Sp.box 37 ⟨p, u, d⟩) [])
  have HR : Hid (((r : Nat) : Int) = (n : Int) / 2 ^ min (c + 1).toNat 64) := by show _ = _; rw [up_shr _ _ (by rw [hn]; exact h.all), hr, hn]; rfl
  have hw : IntKind.i64.wrap (c + 1) = c + 1 := IntWalk.i64_in _ (by omega)
  have hc0 : 0 ≤ c + 1 := by omega
  have hc1 : c + 1 ≤ 65 := by omega
  clear hn hr hc hcc h
  dsimp only [Sp.v, Sp.box] at *
  go_enter Tryd.func54, Tryd.ntmps54
  go_wp2_with fail
  with_reducible refine (AL.out _).mono ?_
  rintro e w2 ⟨rfl, hf⟩
  have F2 := Lib.hid (FA.out.trans hf)
  clear hf
  go_wp2_with fail
  with_reducible refine (CU.out _).mono ?_
  rintro e w3 ⟨rfl, rfl⟩
  go_wp2
  go_ret
  exact ⟨by rw [HR.out]; rfl, F2.out⟩
theorem below_any (s : Sp) (z : Int) (w : World) (h : s.ok) (c : Int) (hc : c = min (max z (-1)) 64) (r : Nat) (hr : r = dnN s.all c) : Calls Tryd.prog 55 #[s.v, .int .i64 z] w fun e w' => e = .returned (.int .u64 r) ∧ Fr w w' [] := by
  have hcc : -1 ≤ c ∧ c ≤ 64 := by omega
  obtain ⟨n, hn⟩ : ∃ n, n = s.all := ⟨_, rfl⟩
  have AL := Lib.hid (fun W => all_any s W h n hn)
  have CU := Lib.hid (fun W => cut_any z c W hc)
  obtain ⟨p, u, d⟩ := s
  have FA := Lib.hid (Fr.alloc w (Sp.box 37 ⟨p, u, d⟩) [])
  obtain ⟨k, hk⟩ : ∃ k : Nat, 64 - c = (k : Int) := ⟨(64 - c).toNat, by omega⟩
  have hw : IntKind.i64.wrap (64 - c) = (k : Int) := by rw [← hk]; exact IntWalk.i64_in _ (by omega)
  have HR : Hid (((r : Nat) : Int) = IntKind.u64.wrap ((n : Int) * 2 ^ min k 64)) := by show _ = _; rw [dn_shl, hr, hn, dnN, hk]; rfl
  clear hk
  clear hn hr hc hcc h
  dsimp only [Sp.v, Sp.box] at *
  go_enter Tryd.func55, Tryd.ntmps55
  go_wp2_with fail
  with_reducible refine (AL.out _).mono ?_
  rintro e w2 ⟨rfl, hf⟩
  have F2 := Lib.hid (FA.out.trans hf)
  clear hf
  go_wp2_with fail
  with_reducible refine (CU.out _).mono ?_
  rintro e w3 ⟨rfl, rfl⟩
  go_wp2
  go_ret
  exact ⟨by rw [HR.out]; rfl, F2.out⟩
end Go.Proofs.YtgcgbiaigbblkaaDoor
