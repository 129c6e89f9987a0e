/- Floors as bits: what is set, what lies above, below, nearest; the set bits in their order. Plain arithmetic. Stops by value; a floor's bit; all; cut; above, below. What there is at a floor; above, below, toward; a call more. A call more. The stops of car calls at floors and of hall calls. The lowest bit's place, the highest's; which way is nearer; the floors. -/
import Derived.Lib.TrailingZeros
import Derived.Lib.BitFns
import Derived.Test.YtdmomnhacijmpaaGreatDoorGBase
import Derived.Deep.RegionHeld3
import Derived.Lib.MinMax
import Derived.Laws.Bits64b
import Derived.Laws.ShiftsVarLaws
import Derived.Test.YtdmomnhacijmpaaGreatDoorGNum
import Derived.Test.YtdmomnhacijmpaaGreatDoorLead
import Derived.Shelf.Spec.TrailingZeros
import Derived.Deep.DeepCutAuto
import Derived.Deep.CutBlock
namespace Go.Proofs.YtdmomnhacijmpaaGreatDoor

/-- Is the floor's bit set? -/
def hasB (n : Nat) (z : Int) : Bool := decide (0 ≤ z) && n.testBit z.toNat
/-- A floor's bit; none outside. -/
def oneN (z : Int) : Nat := if 0 ≤ z ∧ z < 64 then 2 ^ z.toNat else 0
theorem oneN_in {z : Int} (h : 0 ≤ z) (k : z < 64) : oneN z = 2 ^ z.toNat := if_pos ⟨h, k⟩
theorem oneN_out {z : Int} (h : ¬ (0 ≤ z ∧ z < 64)) : oneN z = 0 := if_neg h
theorem two_lt {k : Nat} (h : k < 64) : 2 ^ k < 18446744073709551616 := by
  have : 2 ^ k < 2 ^ 64 := Nat.pow_lt_pow_right (by decide) h
  simpa using this
theorem oneN_lt (z : Int) : oneN z < 18446744073709551616 := by
  unfold oneN
  split
  · exact two_lt (by omega)
  · decide
theorem or_lt {a b : Nat} (ha : a < 18446744073709551616) (hb : b < 18446744073709551616) : a ||| b < 18446744073709551616 := Nat.or_lt_two_pow (n := 64) ha hb
theorem and_lt {a b : Nat} (hb : b < 18446744073709551616) : a &&& b < 18446744073709551616 := Nat.and_lt_two_pow (n := 64) a hb
theorem hasB_nat (n i : Nat) : hasB n (i : Int) = n.testBit i := by simp [hasB]
theorem hasB_neg {n : Nat} {z : Int} (h : z < 0) : hasB n z = false := by simp [hasB, Int.not_le.2 h]
theorem hasB_big {n : Nat} (hn : n < 18446744073709551616) {z : Int} (h : 64 ≤ z) : hasB n z = false := by
  obtain ⟨i, rfl⟩ : ∃ i : Nat, z = (i : Int) := ⟨z.toNat, by omega⟩
  rw [hasB_nat]
  exact Nat.testBit_lt_two_pow (Nat.lt_of_lt_of_le hn (by rw [show 18446744073709551616 = 2 ^ 64 from rfl]; exact Nat.pow_le_pow_right (by decide) (by omega)))
theorem hasB_range {n : Nat} (hn : n < 18446744073709551616) {z : Int} (h : hasB n z = true) : 0 ≤ z ∧ z < 64 := by
  refine ⟨?_, ?_⟩
  · refine Int.not_lt.1 fun k => ?_
    rw [hasB_neg k] at h; cases h
  · refine Int.not_le.1 fun k => ?_
    rw [hasB_big hn k] at h; cases h
theorem hasB_or (a b : Nat) (z : Int) : hasB (a ||| b) z = (hasB a z || hasB b z) := by
  unfold hasB
  rw [Nat.testBit_or]
  cases decide (0 ≤ z) <;> simp
theorem hasB_one (z y : Int) : hasB (oneN z) y = decide (y = z ∧ 0 ≤ z ∧ z < 64) := by
  by_cases h : 0 ≤ z ∧ z < 64
  · obtain ⟨i, rfl⟩ : ∃ i : Nat, z = (i : Int) := ⟨z.toNat, by omega⟩
    rw [oneN_in h.1 h.2, Int.toNat_natCast]
    by_cases hy : y < 0
    · rw [hasB_neg hy]
      exact (decide_eq_false (by omega)).symm
    · obtain ⟨j, rfl⟩ : ∃ j : Nat, y = (j : Int) := ⟨y.toNat, by omega⟩
      rw [hasB_nat, Nat.testBit_two_pow]
      exact decide_eq_decide.2 ⟨fun e => ⟨by omega, h⟩, fun e => by omega⟩
  · rw [oneN_out h]
    have : hasB 0 y = false := by simp [hasB]
    rw [this]
    exact (decide_eq_false (fun e => h e.2)).symm
theorem hasB_zero (z : Int) : hasB 0 z = false := by simp [hasB]
theorem and_one (n : Nat) (hn : n < 18446744073709551616) (z : Int) : n &&& oneN z ≠ 0 ↔ hasB n z = true := by
  by_cases h : 0 ≤ z ∧ z < 64
  · obtain ⟨i, rfl⟩ : ∃ i : Nat, z = (i : Int) := ⟨z.toNat, by omega⟩
    rw [oneN_in h.1 h.2, Int.toNat_natCast, hasB_nat]
    have B : ∀ j, (n &&& 2 ^ i).testBit j = (n.testBit j && decide (i = j)) := fun j => by rw [Nat.testBit_and, Nat.testBit_two_pow]
    constructor
    · intro e
      obtain ⟨j, hj⟩ := Nat.exists_testBit_of_ne_zero e
      rw [B] at hj
      simp only [Bool.and_eq_true, decide_eq_true_eq] at hj
      obtain ⟨a, rfl⟩ := hj
      exact a
    · intro e c
      have := B i
      rw [c, Nat.zero_testBit, e] at this
      simp at this
  · rw [oneN_out h, Nat.and_zero]
    refine ⟨fun e => absurd rfl e, fun e => absurd (hasB_range hn e) h⟩
theorem ext_hasB {a b : Nat} (h : ∀ z : Int, hasB a z = hasB b z) : a = b := Nat.eq_of_testBit_eq fun i => by rw [← hasB_nat, ← hasB_nat]; exact h i
theorem hasB_some {n : Nat} (h : n ≠ 0) : ∃ z, hasB n z = true := by
  obtain ⟨i, hi⟩ := Nat.exists_testBit_of_ne_zero h
  exact ⟨i, by rw [hasB_nat]; exact hi⟩

/-- What lies above c, what lies below. -/
def upN (n : Nat) (c : Int) : Nat := n / 2 ^ (c + 1).toNat
def dnN (n : Nat) (c : Int) : Nat := n * 2 ^ (64 - c).toNat % 18446744073709551616
theorem upN_lt {n : Nat} (hn : n < 18446744073709551616) (c : Int) : upN n c < 18446744073709551616 := Nat.lt_of_le_of_lt (Nat.div_le_self _ _) hn
theorem dnN_lt (n : Nat) (c : Int) : dnN n c < 18446744073709551616 := Nat.mod_lt _ (by decide)
theorem upN_bit {n : Nat} {c : Int} (hc : -1 ≤ c) (j : Nat) : (upN n c).testBit j = hasB n (c + 1 + j) := by
  obtain ⟨i, hi⟩ : ∃ i : Nat, c + 1 = (i : Int) := ⟨(c + 1).toNat, by omega⟩
  rw [upN, hi, Int.toNat_natCast, Nat.testBit_div_two_pow, show (i : Int) + (j : Int) = ((j + i : Nat) : Int) by omega, hasB_nat]
theorem dnN_bit {n : Nat} {c : Int} (hc : c ≤ 64) (j : Nat) : (dnN n c).testBit j = (decide (j < 64) && hasB n (c - 64 + j)) := by
  obtain ⟨i, hi⟩ : ∃ i : Nat, 64 - c = (i : Int) := ⟨(64 - c).toNat, by omega⟩
  rw [dnN, hi, Int.toNat_natCast, show 18446744073709551616 = 2 ^ 64 from rfl, Nat.testBit_mod_two_pow, Nat.testBit_mul_two_pow]
  congr 1
  by_cases h : i ≤ j
  · rw [show c - 64 + (j : Int) = ((j - i : Nat) : Int) by omega, hasB_nat]
    simp [h]
  · rw [hasB_neg (by omega)]
    simp [h]
theorem upN_some {n : Nat} {c : Int} (hc : -1 ≤ c) : upN n c ≠ 0 ↔ ∃ z, c < z ∧ hasB n z = true := by
  constructor
  · intro h
    obtain ⟨j, hj⟩ := Nat.exists_testBit_of_ne_zero h
    rw [upN_bit hc] at hj
    exact ⟨_, by omega, hj⟩
  · rintro ⟨z, hz, hb⟩ h
    have := upN_bit (n := n) hc (z - c - 1).toNat
    rw [h, Nat.zero_testBit, show c + 1 + ((z - c - 1).toNat : Int) = z by omega, hb] at this
    cases this
theorem dnN_some {n : Nat} {c : Int} (hc : c ≤ 64) : dnN n c ≠ 0 ↔ ∃ z, z < c ∧ hasB n z = true := by
  constructor
  · intro h
    obtain ⟨j, hj⟩ := Nat.exists_testBit_of_ne_zero h
    rw [dnN_bit hc] at hj
    simp only [Bool.and_eq_true, decide_eq_true_eq] at hj
    exact ⟨_, by omega, hj.2⟩
  · rintro ⟨z, hz, hb⟩ h
    have h0 : 0 ≤ z := by
      refine Int.not_lt.1 fun k => ?_
      rw [hasB_neg k] at hb; cases hb
    have := dnN_bit (n := n) hc (z - c + 64).toNat
    rw [h, Nat.zero_testBit, show c - 64 + ((z - c + 64).toNat : Int) = z by omega, hb] at this
    simp at this
    omega

/-- The lowest bit's place, the highest's. -/
theorem ctz_spec {u : Nat} (h0 : u ≠ 0) (h : u < 18446744073709551616) : u.testBit (Lib.ctz 64 u) = true ∧ (∀ j < Lib.ctz 64 u, u.testBit j = false) ∧ Lib.ctz 64 u < 64 := by
  obtain ⟨m, hm, hk⟩ := Lib.ctzFrom_spec 64 u (by omega) h
  have e : Lib.ctz 64 u = Lib.ctzFrom 64 u := by simp [Lib.ctz, h0]
  rw [e]
  generalize Lib.ctzFrom 64 u = k at *
  refine ⟨?_, fun j hj => ?_, hk⟩
  · rw [hm, Nat.mul_comm, Nat.testBit_mul_two_pow]
    simp
  · rw [hm, Nat.mul_comm, Nat.testBit_mul_two_pow]
    simp
    omega
theorem bitLen_zero : Lib.bitLen 0 = 0 := by decide
theorem bitLenAux_spec : ∀ (f x : Nat), x ≠ 0 → x < 2 ^ f → ∃ k, Lib.bitLenAux f x = k + 1 ∧ 2 ^ k ≤ x ∧ x < 2 ^ (k + 1)
  | 0, x, h0, h => by simp at h; omega
  | f + 1, x, h0, h => by
    rw [Lib.bitLenAux, if_neg h0]
    by_cases h1 : x / 2 = 0
    · rw [h1]
      refine ⟨0, ?_, by omega, by omega⟩
      cases f <;> simp [Lib.bitLenAux]
    · obtain ⟨k, e, a, b⟩ := bitLenAux_spec f (x / 2) h1 (by rw [Nat.pow_succ] at h; omega)
      exact ⟨k + 1, by rw [e]; omega, by rw [Nat.pow_succ]; omega, by rw [Nat.pow_succ]; omega⟩
theorem bitLen_spec {d : Nat} (h0 : d ≠ 0) (h : d < 18446744073709551616) : ∃ k, k < 64 ∧ Lib.bitLen d = k + 1 ∧ d.testBit k = true ∧ ∀ j, k < j → d.testBit j = false := by
  obtain ⟨k, e, a, b⟩ := bitLenAux_spec 64 d h0 h
  have hk : k < 64 := by
    refine Nat.not_le.1 fun c => ?_
    have : 2 ^ 64 ≤ 2 ^ k := Nat.pow_le_pow_right (by decide) c
    omega
  refine ⟨k, hk, e, ?_, fun j hj => ?_⟩
  · rw [Nat.testBit_eq_decide_div_mod_eq]
    have : d / 2 ^ k = 1 := by
      rw [Nat.pow_succ] at b
      exact Nat.div_eq_of_lt_le (by omega) (by omega)
    rw [this]; rfl
  · exact Nat.testBit_lt_two_pow (Nat.lt_of_lt_of_le b (Nat.pow_le_pow_right (by decide) hj))

/-- Which way is nearer: told by what it is. -/
def NearIs (n : Nat) (c x : Int) : Prop :=
  (x = 0 ∧ ∀ k : Int, 0 < k → hasB n (c + k) = false ∧ hasB n (c - k) = false) ∨
  (x = 1 ∧ ∃ k : Int, 0 < k ∧ hasB n (c + k) = true ∧ ∀ j : Int, 0 < j → j < k → hasB n (c - j) = false) ∨
  (x = -1 ∧ ∃ k : Int, 0 < k ∧ hasB n (c - k) = true ∧ ∀ j : Int, 0 < j → j ≤ k → hasB n (c + j) = false)
theorem NearIs.unique {n : Nat} {c x y : Int} (h : NearIs n c x) (k : NearIs n c y) : x = y := by
  rcases h with ⟨rfl, h⟩ | ⟨rfl, i, hi, hb, hj⟩ | ⟨rfl, i, hi, hb, hj⟩ <;> rcases k with ⟨rfl, k⟩ | ⟨rfl, i', hi', hb', hj'⟩ | ⟨rfl, i', hi', hb', hj'⟩
  · rfl
  · rw [(h i' hi').1] at hb'; cases hb'
  · rw [(h i' hi').2] at hb'; cases hb'
  · rw [(k i hi).1] at hb; cases hb
  · rfl
  · by_cases hc : i ≤ i'
    · rw [hj' i hi hc] at hb; cases hb
    · rw [hj i' hi' (by omega)] at hb'; cases hb'
  · rw [(k i hi).2] at hb; cases hb
  · by_cases hc : i' ≤ i
    · rw [hj i' hi' hc] at hb'; cases hb'
    · rw [hj' i hi (by omega)] at hb; cases hb
  · rfl
theorem NearIs.small {n : Nat} {c x : Int} (h : NearIs n c x) : x = 0 ∨ x = 1 ∨ x = -1 := by
  rcases h with ⟨h, _⟩ | ⟨h, _⟩ | ⟨h, _⟩ <;> simp [h]
def nearC (u d : Nat) : Int := if u = 0 ∧ d = 0 then 0 else if Lib.ctz 64 u ≤ 64 - Lib.bitLen d then 1 else -1
theorem near_code {n : Nat} {c : Int} (hn : n < 18446744073709551616) (h0 : -1 ≤ c) (h1 : c ≤ 64) : NearIs n c (nearC (upN n c) (dnN n c)) := by
  have U := fun j : Nat => upN_bit (n := n) h0 j
  have D := fun j : Nat => dnN_bit (n := n) h1 j
  have hu := upN_lt hn c
  have hd := dnN_lt n c
  generalize upN n c = u at *
  generalize dnN n c = d at *
  have UP : ∀ k : Int, 0 < k → hasB n (c + k) = u.testBit (k - 1).toNat := fun k hk => by rw [U, show c + 1 + ((k - 1).toNat : Int) = c + k by omega]
  have DN : ∀ k : Int, 0 < k → k ≤ 64 → hasB n (c - k) = d.testBit (64 - k).toNat := fun k hk hk2 => by
    rw [D, decide_eq_true (by omega), Bool.true_and, show c - 64 + ((64 - k).toNat : Int) = c - k by omega]
  have DF : ∀ k : Int, 64 < k → hasB n (c - k) = false := fun k hk => hasB_neg (by omega)
  unfold nearC
  split
  · rename_i h
    refine Or.inl ⟨rfl, fun k hk => ⟨by rw [UP k hk, h.1, Nat.zero_testBit], ?_⟩⟩
    by_cases h64 : k ≤ 64
    · rw [DN k hk h64, h.2, Nat.zero_testBit]
    · exact DF k (by omega)
  · rename_i hz
    split
    · rename_i hle
      have hu0 : u ≠ 0 := by
        rintro rfl
        have hd0 : d ≠ 0 := fun e => hz ⟨rfl, e⟩
        obtain ⟨k, _, e, _⟩ := bitLen_spec hd0 hd
        simp [Lib.ctz, e] at hle
        omega
      obtain ⟨t1, t2, t3⟩ := ctz_spec hu0 hu
      refine Or.inr (Or.inl ⟨rfl, (Lib.ctz 64 u : Int) + 1, by omega, ?_, fun j hj hj2 => ?_⟩)
      · rw [UP _ (by omega), show ((Lib.ctz 64 u : Int) + 1 - 1).toNat = Lib.ctz 64 u by omega]; exact t1
      · rw [DN j hj (by omega)]
        by_cases hd0 : d = 0
        · rw [hd0, Nat.zero_testBit]
        · obtain ⟨k, hk, e, b1, b2⟩ := bitLen_spec hd0 hd
          rw [e] at hle
          exact b2 _ (by omega)
    · rename_i hgt
      have hd0 : d ≠ 0 := by
        rintro rfl
        rw [bitLen_zero] at hgt
        by_cases hu0 : u = 0
        · exact hz ⟨hu0, rfl⟩
        · have := (ctz_spec hu0 hu).2.2
          omega
      obtain ⟨k, hk, e, b1, b2⟩ := bitLen_spec hd0 hd
      rw [e] at hgt
      refine Or.inr (Or.inr ⟨rfl, 64 - (k : Int), by omega, ?_, fun j hj hj2 => ?_⟩)
      · rw [DN _ (by omega) (by omega), show (64 - (64 - (k : Int))).toNat = k by omega]; exact b1
      · rw [UP j hj]
        by_cases hu0 : u = 0
        · rw [hu0, Nat.zero_testBit]
        · exact (ctz_spec hu0 hu).2.1 _ (by omega)
/-- A place outside counts as the one next to the floors. -/
theorem near_cut {n : Nat} {f c : Int} (hn : n < 18446744073709551616) (hc : c = min (max f (-1)) 64) (z : Int) (hz : hasB n z = true) : (f < z ↔ c < z) ∧ (z < f ↔ z < c) := by
  have := hasB_range hn hz
  omega

/-- The floors whose bits are set, rising. -/
def bitsN (n : Nat) : List Nat := (List.range 64).filter n.testBit
def bitsOf (n : Nat) : List Int := (bitsN n).map fun i : Nat => (i : Int)
theorem bits_zero : bitsN 0 = [] := by simp [bitsN]
theorem mem_bits {n : Nat} (hn : n < 18446744073709551616) (z : Int) : z ∈ bitsOf n ↔ hasB n z = true := by
  simp only [bitsOf, bitsN, List.mem_map, List.mem_filter, List.mem_range]
  constructor
  · rintro ⟨i, ⟨_, h⟩, rfl⟩
    rw [hasB_nat]; exact h
  · intro h
    have := hasB_range hn h
    exact ⟨z.toNat, ⟨by omega, by rw [← hasB_nat, Int.toNat_of_nonneg this.1]; exact h⟩, Int.toNat_of_nonneg this.1⟩
theorem bits_len (n : Nat) : (bitsN n).length ≤ 64 := by
  have := List.length_filter_le n.testBit (List.range 64)
  simpa [bitsN] using this
theorem bitsOf_len (n : Nat) : (bitsOf n).length = (bitsN n).length := by simp [bitsOf]
theorem cut_low {n : Nat} (h0 : n ≠ 0) (h : n < 18446744073709551616) (i : Nat) : (n &&& (n - 1)).testBit i = (n.testBit i && !decide (i = Lib.ctz 64 n)) := by
  obtain ⟨m, hm, hk⟩ := Lib.ctzFrom_spec 64 n (by omega) h
  have e : Lib.ctz 64 n = Lib.ctzFrom 64 n := by simp [Lib.ctz, h0]
  rw [e]
  generalize Lib.ctzFrom 64 n = k at *
  have hp := Nat.two_pow_pos k
  have e1 : n - 1 = 2 ^ k * (2 * m) + (2 ^ k - 1) := by rw [hm, Nat.mul_add, Nat.mul_one]; omega
  have e0 : n = 2 ^ k * (2 * m + 1) + 0 := by omega
  rw [Nat.testBit_and, e1, Nat.testBit_two_pow_mul_add _ (by omega)]
  conv => lhs; arg 1; rw [e0, Nat.testBit_two_pow_mul_add _ hp]
  conv => rhs; arg 1; rw [e0, Nat.testBit_two_pow_mul_add _ hp]
  by_cases hi : i < k
  · simp [hi]
  · by_cases hik : i = k
    · subst hik
      simp
    · obtain ⟨j, hj⟩ : ∃ j, i - k = j + 1 := ⟨i - k - 1, by omega⟩
      have d1 : (2 * m) / 2 = m := by omega
      have d2 : (2 * m + 1) / 2 = m := by omega
      rw [if_neg hi, if_neg hi, hj, Nat.testBit_succ, Nat.testBit_succ, d1, d2]
      simp [hik]
theorem cut_lt {n : Nat} (h0 : n ≠ 0) : n &&& (n - 1) < n := Nat.lt_of_le_of_lt Nat.and_le_right (by omega)
theorem range_cut (k : Nat) (h : k < 64) : List.range 64 = List.range k ++ k :: (List.range (63 - k)).map (· + (k + 1)) := by
  have e : 64 = k + (1 + (63 - k)) := by omega
  conv => lhs; rw [e]
  rw [List.range_add, Nat.add_comm 1, List.range_succ_eq_map]
  simp only [List.map_cons, List.map_map, Nat.add_zero]
  congr 2
  apply List.map_congr_left
  intro i _
  simp
  omega
theorem bits_step {n : Nat} (h0 : n ≠ 0) (h : n < 18446744073709551616) : bitsN n = Lib.ctz 64 n :: bitsN (n &&& (n - 1)) := by
  have C := cut_low h0 h
  obtain ⟨c1, c2, c3⟩ := ctz_spec h0 h
  generalize Lib.ctz 64 n = k at *
  unfold bitsN
  rw [range_cut k c3, List.filter_append, List.filter_append, List.filter_cons_of_pos c1, List.filter_cons_of_neg (by rw [C]; simp)]
  have l1 : (List.range k).filter n.testBit = [] := List.filter_eq_nil_iff.2 fun i hi => by rw [c2 i (List.mem_range.1 hi)]; simp
  have l2 : (List.range k).filter (n &&& (n - 1)).testBit = [] := List.filter_eq_nil_iff.2 fun i hi => by rw [C, c2 i (List.mem_range.1 hi)]; simp
  rw [l1, l2, List.nil_append, List.nil_append]
  congr 1
  apply List.filter_congr
  intro i hi
  obtain ⟨j, _, rfl⟩ := List.mem_map.1 hi
  rw [C, decide_eq_false (by omega)]
  simp
/-- The set bits below f. -/
def bitsTo (n f : Nat) : List Int := ((List.range f).filter n.testBit).map fun i : Nat => (i : Int)
theorem bitsTo_zero (n : Nat) : bitsTo n 0 = [] := rfl
theorem bitsTo_all (n : Nat) : bitsTo n 64 = bitsOf n := rfl
theorem bitsTo_yes {n f : Nat} (h : hasB n f = true) : bitsTo n (f + 1) = bitsTo n f ++ [(f : Int)] := by
  rw [hasB_nat] at h
  simp [bitsTo, List.range_succ, List.filter_append, h]
theorem bitsTo_no {n f : Nat} (h : hasB n f = false) : bitsTo n (f + 1) = bitsTo n f := by
  rw [hasB_nat] at h
  simp [bitsTo, List.range_succ, List.filter_append, h]
theorem bitsTo_len (n f : Nat) : (bitsTo n f).length ≤ f := by
  have := List.length_filter_le n.testBit (List.range f)
  simpa [bitsTo] using this
end Go.Proofs.YtdmomnhacijmpaaGreatDoor

namespace Go.Proofs.YtdmomnhacijmpaaGreatDoor
open Go.RowKit

/-- Stops by value: three numbers whose bits are floors. -/
structure Sp where
  c : Nat
  u : Nat
  d : Nat
abbrev Sp.v (s : Sp) : Value := .agg #[.int .u64 s.c, .int .u64 s.u, .int .u64 s.d]
abbrev Sp.box (T : TypeId) (s : Sp) : Obj := .cells #[.int .u64 s.c, .int .u64 s.u, .int .u64 s.d] T
structure Sp.ok (s : Sp) : Prop where
  c : s.c < 18446744073709551616
  u : s.u < 18446744073709551616
  d : s.d < 18446744073709551616
def Sp.all (s : Sp) : Nat := s.c ||| s.u ||| s.d
theorem Sp.ok.all {s : Sp} (h : s.ok) : s.all < 18446744073709551616 := or_lt (or_lt h.c h.u) h.d
theorem arow {w : World} {g : Nat} {a b c : Value} {T : TypeId} (h : w.heap[g]? = some (.cells #[a, b, c] T (0, 0))) :
    w.cell? ⟨g, 0, none⟩ = some a ∧ w.cell? ⟨g, 1, none⟩ = some b ∧ w.cell? ⟨g, 2, none⟩ = some c :=
  ⟨by rw [cell_of_row w g 0 _ _ _ h]; rfl, by rw [cell_of_row w g 1 _ _ _ h]; rfl, by rw [cell_of_row w g 2 _ _ _ h]; rfl⟩

theorem one_shl (z : Int) (h0 : 0 ≤ z) (h : z < 64) : IntKind.u64.wrap ((2 : Int) ^ z.toNat) = ((oneN z : Nat) : Int) := by
  have := oneN_lt z
  have e : (2 : Int) ^ z.toNat = ((oneN z : Nat) : Int) := by rw [oneN_in h0 h]; simp
  rw [e, IntKind.wrap_u64]
  omega

theorem bit_any (z : Int) (w : World) : Calls Tryz.prog 46 #[.int .i64 z] w fun e w' => e = .returned (.int .u64 (oneN z)) ∧ w' = w := by
  by_cases h0 : z < 0
  · have HR : Hid (((oneN z : Nat) : Int) = 0) := by show _ = _; rw [oneN_out (by omega)]; rfl
    go_enter Tryz.func46, Tryz.ntmps46
    go_wp2
    go_ret
    exact ⟨by rw [HR.out]; rfl, rfl⟩
  · by_cases h1 : 64 ≤ z
    · have HR : Hid (((oneN z : Nat) : Int) = 0) := by show _ = _; rw [oneN_out (by omega)]; rfl
      have h0' : 0 ≤ z := by omega
      clear h0
      go_enter Tryz.func46, Tryz.ntmps46
      go_wp2
      go_ret
      exact ⟨by rw [HR.out]; rfl, rfl⟩
    · have h0' : 0 ≤ z := by omega
      have h1' : z < 64 := by omega
      have HR := Lib.hid (one_shl z h0' h1')
      clear h0 h1
      go_enter Tryz.func46, Tryz.ntmps46
      go_wp2
      go_ret
      exact ⟨by rw [← HR.out]; rfl, rfl⟩

theorem all_any (s : Sp) (w : World) (h : s.ok) (n : Nat) (hn : n = s.all) : Calls Tryz.prog 111 #[s.v] w fun e w' => e = .returned (.int .u64 n) ∧ Fr w w' [] := by
  obtain ⟨c, u, d⟩ := s
  have FA := Lib.hid (Fr.alloc w (Sp.box 30 ⟨c, u, d⟩) [])
  have E1 := bits_or_u64_nat c u h.c h.u
  have E2 := bits_or_u64_nat (c ||| u) d (or_lt h.c h.u) h.d
  have HN := Lib.hid hn
  clear hn h
  dsimp only [Sp.v, Sp.box] at *
  go_enter Tryz.func111, Tryz.ntmps111
  go_wp2
  go_ret
  exact ⟨by rw [HN.out]; rfl, FA.out⟩

theorem cut_any (z c : Int) (w : World) (hc : c = min (max z (-1)) 64) : Calls Tryz.prog 112 #[.int .i64 z] w fun e w' => e = .returned (.int .i64 c) ∧ w' = w := by
  obtain ⟨m, hm⟩ : ∃ m, max z (-1) = m := ⟨_, rfl⟩
  obtain ⟨k, hk⟩ : ∃ k, min m 64 = k := ⟨_, rfl⟩
  rw [hm, hk] at hc
  have HC := Lib.hid hc
  clear hc
  go_enter Tryz.func112, Tryz.ntmps112
  go_wp2
  go_ret
  exact ⟨by rw [HC.out]; rfl, rfl⟩

theorem up_shr (n k : Nat) (hn : n < 18446744073709551616) : (n : Int) / 2 ^ min k 64 = ((n / 2 ^ k : Nat) : Int) := by
  by_cases h : k ≤ 64
  · rw [Nat.min_eq_left h]; simp
  · have e : n / 2 ^ k = 0 := Nat.div_eq_of_lt (Nat.lt_of_lt_of_le hn (by rw [show 18446744073709551616 = 2 ^ 64 from rfl]; exact Nat.pow_le_pow_right (by decide) (by omega)))
    rw [Nat.min_eq_right (by omega), e]
    omega
theorem dn_shl (n k : Nat) : IntKind.u64.wrap ((n : Int) * 2 ^ min k 64) = ((n * 2 ^ k % 18446744073709551616 : Nat) : Int) := by
  have e : (n : Int) * 2 ^ min k 64 = ((n * 2 ^ min k 64 : Nat) : Int) := by simp
  rw [e, IntKind.wrap_u64]
  by_cases h : k ≤ 64
  · rw [Nat.min_eq_left h]; omega
  · obtain ⟨j, rfl⟩ : ∃ j, k = 64 + j := ⟨k - 64, by omega⟩
    rw [Nat.min_eq_right (by omega), Nat.pow_add, show (2 : Nat) ^ 64 = 18446744073709551616 from rfl, Nat.mul_comm 18446744073709551616, ← Nat.mul_assoc, Nat.mul_mod_left]
    omega
theorem above_any (s : Sp) (z : Int) (w : World) (h : s.ok) (c : Int) (hc : c = min (max z (-1)) 64) (r : Nat) (hr : r = upN s.all c) : Calls Tryz.prog 105 #[s.v, .int .i64 z] w fun e w' => e = .returned (.int .u64 r) ∧ Fr w w' [] := by
  have hcc : -1 ≤ c ∧ c ≤ 64 := by omega
  obtain ⟨n, hn⟩ : ∃ n, n = s.all := ⟨_, rfl⟩
  have AL := Lib.hid (fun W => all_any s W h n hn)
  have CU := Lib.hid (fun W => cut_any z c W hc)
  obtain ⟨p, u, d⟩ := s
  have FA := Lib.hid (Fr.alloc w (Sp.box 30 ⟨p, u, d⟩) [])
  have HR : Hid (((r : Nat) : Int) = (n : Int) / 2 ^ min (c + 1).toNat 64) := by show _ = _; rw [up_shr _ _ (by rw [hn]; exact h.all), hr, hn]; rfl
  have hw : IntKind.i64.wrap (c + 1) = c + 1 := IntWalk.i64_in _ (by omega)
  have hc0 : 0 ≤ c + 1 := by omega
  have hc1 : c + 1 ≤ 65 := by omega
  clear hn hr hc hcc h
  dsimp only [Sp.v, Sp.box] at *
  go_enter Tryz.func105, Tryz.ntmps105
  go_wp2_with fail
  with_reducible refine (AL.out _).mono ?_
  rintro e w2 ⟨rfl, hf⟩
  have F2 := Lib.hid (FA.out.trans hf)
  clear hf
  go_wp2_with fail
  with_reducible refine (CU.out _).mono ?_
  rintro e w3 ⟨rfl, rfl⟩
  go_wp2
  go_ret
  exact ⟨by rw [HR.out]; rfl, F2.out⟩
theorem below_any (s : Sp) (z : Int) (w : World) (h : s.ok) (c : Int) (hc : c = min (max z (-1)) 64) (r : Nat) (hr : r = dnN s.all c) : Calls Tryz.prog 106 #[s.v, .int .i64 z] w fun e w' => e = .returned (.int .u64 r) ∧ Fr w w' [] := by
  have hcc : -1 ≤ c ∧ c ≤ 64 := by omega
  obtain ⟨n, hn⟩ : ∃ n, n = s.all := ⟨_, rfl⟩
  have AL := Lib.hid (fun W => all_any s W h n hn)
  have CU := Lib.hid (fun W => cut_any z c W hc)
  obtain ⟨p, u, d⟩ := s
  have FA := Lib.hid (Fr.alloc w (Sp.box 30 ⟨p, u, d⟩) [])
  obtain ⟨k, hk⟩ : ∃ k : Nat, 64 - c = (k : Int) := ⟨(64 - c).toNat, by omega⟩
  have hw : IntKind.i64.wrap (64 - c) = (k : Int) := by rw [← hk]; exact IntWalk.i64_in _ (by omega)
  have HR : Hid (((r : Nat) : Int) = IntKind.u64.wrap ((n : Int) * 2 ^ min k 64)) := by show _ = _; rw [dn_shl, hr, hn, dnN, hk]; rfl
  clear hk
  clear hn hr hc hcc h
  dsimp only [Sp.v, Sp.box] at *
  go_enter Tryz.func106, Tryz.ntmps106
  go_wp2_with fail
  with_reducible refine (AL.out _).mono ?_
  rintro e w2 ⟨rfl, hf⟩
  have F2 := Lib.hid (FA.out.trans hf)
  clear hf
  go_wp2_with fail
  with_reducible refine (CU.out _).mono ?_
  rintro e w3 ⟨rfl, rfl⟩
  go_wp2
  go_ret
  exact ⟨by rw [HR.out]; rfl, F2.out⟩
end Go.Proofs.YtdmomnhacijmpaaGreatDoor

namespace Go.Proofs.YtdmomnhacijmpaaGreatDoor
open Go.RowKit

/-- The cells of a box of stops, in a world that came of W. -/
def SS (W : World) (b : Nat) (p u d : Nat) (a : World) : Prop := Fr W a [] ∧ a.cell? ⟨b, 0, none⟩ = some (.int .u64 p) ∧ a.cell? ⟨b, 1, none⟩ = some (.int .u64 u) ∧ a.cell? ⟨b, 2, none⟩ = some (.int .u64 d)
theorem SS.fr {W : World} {b : Nat} {p u d : Nat} {a a' : World} (h : SS W b p u d a) (k : Fr a a' []) : SS W b p u d a' := by
  obtain ⟨h0, h1, h2, h3⟩ := h
  exact ⟨h0.trans k, k.cell h1 (by simp), k.cell h2 (by simp), k.cell h3 (by simp)⟩
theorem SS.new (w : World) (T : TypeId) (p u d : Nat) : SS w w.heap.size p u d (w.alloc (.cells #[.int .u64 p, .int .u64 u, .int .u64 d] T)) :=
  ⟨Fr.alloc w _ [], arow (heap_alloc_new w _)⟩
/-- Is a floor's bit there? As the walk has it. -/
theorem and_ne (n : Nat) (z : Int) (b : Bool) (hn : n < 18446744073709551616) (hb : b = hasB n z) :
    bits .and .u64 (n : Int) ((oneN z : Nat) : Int) = ((n &&& oneN z : Nat) : Int) ∧ ((((n &&& oneN z : Nat) : Int)) != 0) = b := by
  refine ⟨bits_and_u64_nat _ _ hn (oneN_lt z), ?_⟩
  have := and_one n hn z
  rw [hb]
  cases h : hasB n z
  · rw [h] at this
    have : n &&& oneN z = 0 := Decidable.not_not.1 (fun e => by simpa using this.1 e)
    rw [this]; rfl
  · have := this.2 h
    simp
    omega

theorem at_any (s : Sp) (z : Int) (w : World) (h : s.ok) (b : Bool) (hb : b = hasB s.c z) : Calls Tryz.prog 88 #[s.v, .int .i64 z] w fun e w' => e = .returned (.bool b) ∧ Fr w w' [] := by
  have BI := Lib.hid (fun W => bit_any z W)
  obtain ⟨E1, E2⟩ := and_ne s.c z b h.c hb
  obtain ⟨p, u, d⟩ := s
  have HS := Lib.hid ((SS.new w 30 p u d).fr (Fr.drew _ []))
  clear hb h
  generalize oneN z = o at *
  dsimp only [Sp.v, Sp.box] at *
  go_enter Tryz.func88, Tryz.ntmps88
  go_wp2
  refine wp_region_det (S := SS w w.heap.size p u d) (by kernel_rfl) HS.out ?_
  refine wpDet_take (i := 0) (oi := _) (v := ?dv1) (by simp only [List.getElem?_toArray, List.getElem?_cons_zero]; rfl) (by kernel_rfl) (by kernel_rfl) (by kernel_rfl) (Or.inl ⟨by rfl, ?dy1⟩) ?dr1
  case dy1 => (intro w hSw; have hS0 := hSw; (try dsimp only [SS] at hSw); go_simp; refine Came.value ?_ hS0; with_reducible rfl)
  try simp only [Act.put, List.setIfInBounds_toArray, List.set_cons_zero, List.set_cons_succ]
  refine wpDet_take (i := 1) (oi := _) (v := ?dv2) (by simp only [List.getElem?_toArray, List.getElem?_cons_zero, List.getElem?_cons_succ]; rfl) (by kernel_rfl) (by kernel_rfl) (by kernel_rfl) (Or.inl ⟨by rfl, ?dy2⟩) ?dr2
  case dy2 => (intro w hSw; have hS0 := hSw; (try dsimp only [SS] at hSw); go_simp; refine Came.value ?_ hS0; with_reducible rfl)
  try simp only [Act.put, List.setIfInBounds_toArray, List.set_cons_zero, List.set_cons_succ]
  refine wpDet_take (i := 2) (oi := _) (v := ?dv3) (by simp only [List.getElem?_toArray, List.getElem?_cons_zero, List.getElem?_cons_succ]; rfl) (by kernel_rfl) (by kernel_rfl) (by kernel_rfl) (Or.inl ⟨by rfl, ?dy3⟩) ?dr3
  case dy3 => (intro w hSw; have hS0 := hSw; (try dsimp only [SS] at hSw); go_simp; refine Came.value ?_ hS0; with_reducible rfl)
  try simp only [Act.put, List.setIfInBounds_toArray, List.set_cons_zero, List.set_cons_succ]
  refine wpDet_take (i := 3) (oi := _) (v := ?dv4) (by simp only [List.getElem?_toArray, List.getElem?_cons_zero, List.getElem?_cons_succ]; rfl) (by kernel_rfl) (by kernel_rfl) (by kernel_rfl) (Or.inl ⟨by rfl, ?dy4⟩) ?dr4
  case dy4 => (intro w hSw; go_simp; exact Came.call ((BI.out w).mono fun e w' ⟨he, hw⟩ => ⟨he, hw ▸ hSw⟩) (by with_reducible rfl))
  try simp only [Act.put, List.setIfInBounds_toArray, List.set_cons_zero, List.set_cons_succ]
  refine wpDet_take (i := 4) (oi := _) (v := ?dv5) (by simp only [List.getElem?_toArray, List.getElem?_cons_zero, List.getElem?_cons_succ]; rfl) (by kernel_rfl) (by kernel_rfl) (by kernel_rfl) (Or.inl ⟨by rfl, ?dy5⟩) ?dr5
  case dy5 => (intro w hSw; have hS0 := hSw; (try dsimp only [SS] at hSw); go_simp; refine Came.value ?_ hS0; with_reducible rfl)
  try simp only [Act.put, List.setIfInBounds_toArray, List.set_cons_zero, List.set_cons_succ]
  refine wpDet_take (i := 5) (oi := _) (v := ?dv6) (by simp only [List.getElem?_toArray, List.getElem?_cons_zero, List.getElem?_cons_succ]; rfl) (by kernel_rfl) (by kernel_rfl) (by kernel_rfl) (Or.inl ⟨by rfl, ?dy6⟩) ?dr6
  case dy6 => (intro w hSw; have hS0 := hSw; (try dsimp only [SS] at hSw); go_simp; refine Came.value ?_ hS0; with_reducible rfl)
  try simp only [Act.put, List.setIfInBounds_toArray, List.set_cons_zero, List.set_cons_succ]
  refine wpDet_take (i := 6) (oi := _) (v := ?dv7) (by simp only [List.getElem?_toArray, List.getElem?_cons_zero, List.getElem?_cons_succ]; rfl) (by kernel_rfl) (by kernel_rfl) (by kernel_rfl) (Or.inl ⟨by rfl, ?dy7⟩) ?dr7
  case dy7 => (intro w hSw; have hS0 := hSw; (try dsimp only [SS] at hSw); go_simp; refine Came.value ?_ hS0; with_reducible rfl)
  try simp only [Act.put, List.setIfInBounds_toArray, List.set_cons_zero, List.set_cons_succ]
  refine wpDet_done (by kernel_rfl) ?_ _
  rintro w3 ⟨hF, _⟩
  go_wp2
  go_ret
  exact ⟨rfl, hF⟩
/-- Is there that hall call? -/
def Sp.hall (s : Sp) (z e : Int) : Bool := if e = 1 then hasB s.u z else if e = -1 then hasB s.d z else false
theorem hall_any (s : Sp) (z e : Int) (w : World) (h : s.ok) (b : Bool) (hb : b = s.hall z e) : Calls Tryz.prog 89 #[s.v, .int .i64 z, .int .i64 e] w fun e w' => e = .returned (.bool b) ∧ Fr w w' [] := by
  have BI := Lib.hid (fun W => bit_any z W)
  obtain ⟨p, u, d⟩ := s
  by_cases h1 : e = 1
  · obtain ⟨E1, E2⟩ := and_ne u z b h.u (by rw [hb, Sp.hall, if_pos h1])
    have HS := Lib.hid ((SS.new w 30 p u d).fr (Fr.drew _ []))
    subst h1
    clear hb h
    generalize oneN z = o at *
    dsimp only [Sp.v, Sp.box] at *
    go_enter Tryz.func89, Tryz.ntmps89
    go_wp2
    refine wp_region_det (S := SS w w.heap.size p u d) (by kernel_rfl) HS.out ?_
    refine wpDet_take (i := 0) (oi := _) (v := ?dv8) (by simp only [List.getElem?_toArray, List.getElem?_cons_zero]; rfl) (by kernel_rfl) (by kernel_rfl) (by kernel_rfl) (Or.inl ⟨by rfl, ?dy8⟩) ?dr8
    case dy8 => (intro w hSw; have hS0 := hSw; (try dsimp only [SS] at hSw); go_simp; refine Came.value ?_ hS0; with_reducible rfl)
    try simp only [Act.put, List.setIfInBounds_toArray, List.set_cons_zero, List.set_cons_succ]
    refine wpDet_take (i := 1) (oi := _) (v := ?dv9) (by simp only [List.getElem?_toArray, List.getElem?_cons_zero, List.getElem?_cons_succ]; rfl) (by kernel_rfl) (by kernel_rfl) (by kernel_rfl) (Or.inl ⟨by rfl, ?dy9⟩) ?dr9
    case dy9 => (intro w hSw; have hS0 := hSw; (try dsimp only [SS] at hSw); go_simp; refine Came.value ?_ hS0; with_reducible rfl)
    try simp only [Act.put, List.setIfInBounds_toArray, List.set_cons_zero, List.set_cons_succ]
    refine wpDet_take (i := 2) (oi := _) (v := ?dv10) (by simp only [List.getElem?_toArray, List.getElem?_cons_zero, List.getElem?_cons_succ]; rfl) (by kernel_rfl) (by kernel_rfl) (by kernel_rfl) (Or.inl ⟨by rfl, ?dy10⟩) ?dr10
    case dy10 => (intro w hSw; have hS0 := hSw; (try dsimp only [SS] at hSw); go_simp; refine Came.value ?_ hS0; with_reducible rfl)
    try simp only [Act.put, List.setIfInBounds_toArray, List.set_cons_zero, List.set_cons_succ]
    refine wpDet_take (i := 3) (oi := _) (v := ?dv11) (by simp only [List.getElem?_toArray, List.getElem?_cons_zero, List.getElem?_cons_succ]; rfl) (by kernel_rfl) (by kernel_rfl) (by kernel_rfl) (Or.inl ⟨by rfl, ?dy11⟩) ?dr11
    case dy11 => (intro w hSw; go_simp; exact Came.call ((BI.out w).mono fun e w' ⟨he, hw⟩ => ⟨he, hw ▸ hSw⟩) (by with_reducible rfl))
    try simp only [Act.put, List.setIfInBounds_toArray, List.set_cons_zero, List.set_cons_succ]
    refine wpDet_take (i := 4) (oi := _) (v := ?dv12) (by simp only [List.getElem?_toArray, List.getElem?_cons_zero, List.getElem?_cons_succ]; rfl) (by kernel_rfl) (by kernel_rfl) (by kernel_rfl) (Or.inl ⟨by rfl, ?dy12⟩) ?dr12
    case dy12 => (intro w hSw; have hS0 := hSw; (try dsimp only [SS] at hSw); go_simp; refine Came.value ?_ hS0; with_reducible rfl)
    try simp only [Act.put, List.setIfInBounds_toArray, List.set_cons_zero, List.set_cons_succ]
    refine wpDet_take (i := 5) (oi := _) (v := ?dv13) (by simp only [List.getElem?_toArray, List.getElem?_cons_zero, List.getElem?_cons_succ]; rfl) (by kernel_rfl) (by kernel_rfl) (by kernel_rfl) (Or.inl ⟨by rfl, ?dy13⟩) ?dr13
    case dy13 => (intro w hSw; have hS0 := hSw; (try dsimp only [SS] at hSw); go_simp; refine Came.value ?_ hS0; with_reducible rfl)
    try simp only [Act.put, List.setIfInBounds_toArray, List.set_cons_zero, List.set_cons_succ]
    refine wpDet_take (i := 6) (oi := _) (v := ?dv14) (by simp only [List.getElem?_toArray, List.getElem?_cons_zero, List.getElem?_cons_succ]; rfl) (by kernel_rfl) (by kernel_rfl) (by kernel_rfl) (Or.inl ⟨by rfl, ?dy14⟩) ?dr14
    case dy14 => (intro w hSw; have hS0 := hSw; (try dsimp only [SS] at hSw); go_simp; refine Came.value ?_ hS0; with_reducible rfl)
    try simp only [Act.put, List.setIfInBounds_toArray, List.set_cons_zero, List.set_cons_succ]
    refine wpDet_done (by kernel_rfl) ?_ _
    rintro w3 ⟨hF, _⟩
    go_wp2
    go_ret
    exact ⟨rfl, hF⟩
  · by_cases h2 : e = -1
    · obtain ⟨E1, E2⟩ := and_ne d z b h.d (by rw [hb, Sp.hall, if_neg h1, if_pos h2])
      have HS := Lib.hid ((SS.new w 30 p u d).fr (Fr.drew _ []))
      subst h2
      clear hb h h1
      generalize oneN z = o at *
      dsimp only [Sp.v, Sp.box] at *
      go_enter Tryz.func89, Tryz.ntmps89
      go_wp2
      refine wp_region_det (S := SS w w.heap.size p u d) (by kernel_rfl) HS.out ?_
      refine wpDet_take (i := 0) (oi := _) (v := ?dv15) (by simp only [List.getElem?_toArray, List.getElem?_cons_zero]; rfl) (by kernel_rfl) (by kernel_rfl) (by kernel_rfl) (Or.inl ⟨by rfl, ?dy15⟩) ?dr15
      case dy15 => (intro w hSw; have hS0 := hSw; (try dsimp only [SS] at hSw); go_simp; refine Came.value ?_ hS0; with_reducible rfl)
      try simp only [Act.put, List.setIfInBounds_toArray, List.set_cons_zero, List.set_cons_succ]
      refine wpDet_take (i := 1) (oi := _) (v := ?dv16) (by simp only [List.getElem?_toArray, List.getElem?_cons_zero, List.getElem?_cons_succ]; rfl) (by kernel_rfl) (by kernel_rfl) (by kernel_rfl) (Or.inl ⟨by rfl, ?dy16⟩) ?dr16
      case dy16 => (intro w hSw; have hS0 := hSw; (try dsimp only [SS] at hSw); go_simp; refine Came.value ?_ hS0; with_reducible rfl)
      try simp only [Act.put, List.setIfInBounds_toArray, List.set_cons_zero, List.set_cons_succ]
      refine wpDet_take (i := 2) (oi := _) (v := ?dv17) (by simp only [List.getElem?_toArray, List.getElem?_cons_zero, List.getElem?_cons_succ]; rfl) (by kernel_rfl) (by kernel_rfl) (by kernel_rfl) (Or.inl ⟨by rfl, ?dy17⟩) ?dr17
      case dy17 => (intro w hSw; have hS0 := hSw; (try dsimp only [SS] at hSw); go_simp; refine Came.value ?_ hS0; with_reducible rfl)
      try simp only [Act.put, List.setIfInBounds_toArray, List.set_cons_zero, List.set_cons_succ]
      refine wpDet_take (i := 3) (oi := _) (v := ?dv18) (by simp only [List.getElem?_toArray, List.getElem?_cons_zero, List.getElem?_cons_succ]; rfl) (by kernel_rfl) (by kernel_rfl) (by kernel_rfl) (Or.inl ⟨by rfl, ?dy18⟩) ?dr18
      case dy18 => (intro w hSw; go_simp; exact Came.call ((BI.out w).mono fun e w' ⟨he, hw⟩ => ⟨he, hw ▸ hSw⟩) (by with_reducible rfl))
      try simp only [Act.put, List.setIfInBounds_toArray, List.set_cons_zero, List.set_cons_succ]
      refine wpDet_take (i := 4) (oi := _) (v := ?dv19) (by simp only [List.getElem?_toArray, List.getElem?_cons_zero, List.getElem?_cons_succ]; rfl) (by kernel_rfl) (by kernel_rfl) (by kernel_rfl) (Or.inl ⟨by rfl, ?dy19⟩) ?dr19
      case dy19 => (intro w hSw; have hS0 := hSw; (try dsimp only [SS] at hSw); go_simp; refine Came.value ?_ hS0; with_reducible rfl)
      try simp only [Act.put, List.setIfInBounds_toArray, List.set_cons_zero, List.set_cons_succ]
      refine wpDet_take (i := 5) (oi := _) (v := ?dv20) (by simp only [List.getElem?_toArray, List.getElem?_cons_zero, List.getElem?_cons_succ]; rfl) (by kernel_rfl) (by kernel_rfl) (by kernel_rfl) (Or.inl ⟨by rfl, ?dy20⟩) ?dr20
      case dy20 => (intro w hSw; have hS0 := hSw; (try dsimp only [SS] at hSw); go_simp; refine Came.value ?_ hS0; with_reducible rfl)
      try simp only [Act.put, List.setIfInBounds_toArray, List.set_cons_zero, List.set_cons_succ]
      refine wpDet_take (i := 6) (oi := _) (v := ?dv21) (by simp only [List.getElem?_toArray, List.getElem?_cons_zero, List.getElem?_cons_succ]; rfl) (by kernel_rfl) (by kernel_rfl) (by kernel_rfl) (Or.inl ⟨by rfl, ?dy21⟩) ?dr21
      case dy21 => (intro w hSw; have hS0 := hSw; (try dsimp only [SS] at hSw); go_simp; refine Came.value ?_ hS0; with_reducible rfl)
      try simp only [Act.put, List.setIfInBounds_toArray, List.set_cons_zero, List.set_cons_succ]
      refine wpDet_done (by kernel_rfl) ?_ _
      rintro w3 ⟨hF, _⟩
      go_wp2
      go_ret
      exact ⟨rfl, hF⟩
    · have HR : Hid (b = false) := by show _ = _; rw [hb, Sp.hall, if_neg h1, if_neg h2]
      have FA := Lib.hid (Fr.alloc w (.cells #[.int .u64 p, .int .u64 u, .int .u64 d] 30) [])
      have e1 : (e == 1) = false := by simp [h1]
      have e2 : (e == -1) = false := by simp [h2]
      clear hb h h1 h2
      dsimp only [Sp.v, Sp.box] at *
      go_enter Tryz.func89, Tryz.ntmps89
      go_wp2
      go_ret
      exact ⟨by rw [HR.out]; rfl, FA.out⟩

/-- With a call more. -/
def Sp.put (s : Sp) (f e : Int) : Sp := if e = 1 then ⟨s.c, s.u ||| oneN f, s.d⟩ else if e = -1 then ⟨s.c, s.u, s.d ||| oneN f⟩ else s
theorem Sp.put_ok {s : Sp} (h : s.ok) (f e : Int) : (s.put f e).ok := by
  unfold Sp.put
  split
  · exact ⟨h.c, or_lt h.u (oneN_lt f), h.d⟩
  · split
    · exact ⟨h.c, h.u, or_lt h.d (oneN_lt f)⟩
    · exact h
theorem aset {w : World} {g : Nat} {a b c : Value} {T : TypeId} (h : w.heap[g]? = some (.cells #[a, b, c] T (0, 0))) (x y z : Value) :
    (((w.setCell ⟨g, 0, none⟩ x).setCell ⟨g, 1, none⟩ y).setCell ⟨g, 2, none⟩ z).heap[g]? = some (.cells #[x, y, z] T (0, 0)) := by
  have h1 : (w.setCell ⟨g, 0, none⟩ x).heap[g]? = some (.cells #[x, b, c] T (0, 0)) := by rw [heap_setCell_same _ g 0 _ _ _ h]; rfl
  have h2 : ((w.setCell ⟨g, 0, none⟩ x).setCell ⟨g, 1, none⟩ y).heap[g]? = some (.cells #[x, y, c] T (0, 0)) := by rw [heap_setCell_same _ g 1 _ _ _ h1]; rfl
  rw [heap_setCell_same _ g 2 _ _ _ h2]; rfl
theorem aset_fr (w : World) (g : Nat) (x y z : Value) : Fr w (((w.setCell ⟨g, 0, none⟩ x).setCell ⟨g, 1, none⟩ y).setCell ⟨g, 2, none⟩ z) [g] :=
  ((Fr.setCell w g 0 x (S := [g]) (by simp)).trans (Fr.setCell _ g 1 y (S := [g]) (by simp))).trans (Fr.setCell _ g 2 z (S := [g]) (by simp))

theorem aboveB_any (s : Sp) (z : Int) (w : World) (h : s.ok) (b : Bool) (hb : b = true ↔ ∃ y, z < y ∧ hasB s.all y = true) : Calls Tryz.prog 109 #[s.v, .int .i64 z] w fun e w' => e = .returned (.bool b) ∧ Fr w w' [] := by
  obtain ⟨c, hc⟩ : ∃ c, c = min (max z (-1)) 64 := ⟨_, rfl⟩
  obtain ⟨r, hr⟩ : ∃ r, r = upN s.all c := ⟨_, rfl⟩
  have AB := Lib.hid (fun W => above_any s z W h c hc r hr)
  have HR : ((r : Int) != 0) = b := by
    have k := upN_some (n := s.all) (c := c) (by omega)
    rw [← hr] at k
    have e : r ≠ 0 ↔ b = true := k.trans (Iff.trans ⟨fun ⟨y, a, q⟩ => ⟨y, ((near_cut h.all hc y q).1).2 a, q⟩, fun ⟨y, a, q⟩ => ⟨y, ((near_cut h.all hc y q).1).1 a, q⟩⟩ hb.symm)
    cases b
    · have : r = 0 := Decidable.not_not.1 (fun a => by simpa using e.1 a)
      rw [this]; rfl
    · have := e.2 rfl
      simp
      omega
  clear hb hc hr h
  obtain ⟨p, u, d⟩ := s
  have FA := Lib.hid (Fr.alloc w (.cells #[.int .u64 p, .int .u64 u, .int .u64 d] 30) [])
  dsimp only [Sp.v, Sp.box] at *
  go_enter Tryz.func109, Tryz.ntmps109
  go_wp2_with fail
  with_reducible refine (AB.out _).mono ?_
  rintro e w2 ⟨rfl, hf⟩
  have F2 := Lib.hid (FA.out.trans hf)
  clear hf
  go_wp2
  go_ret
  exact ⟨rfl, F2.out⟩
theorem belowB_any (s : Sp) (z : Int) (w : World) (h : s.ok) (b : Bool) (hb : b = true ↔ ∃ y, y < z ∧ hasB s.all y = true) : Calls Tryz.prog 110 #[s.v, .int .i64 z] w fun e w' => e = .returned (.bool b) ∧ Fr w w' [] := by
  obtain ⟨c, hc⟩ : ∃ c, c = min (max z (-1)) 64 := ⟨_, rfl⟩
  obtain ⟨r, hr⟩ : ∃ r, r = dnN s.all c := ⟨_, rfl⟩
  have AB := Lib.hid (fun W => below_any s z W h c hc r hr)
  have HR : ((r : Int) != 0) = b := by
    have k := dnN_some (n := s.all) (c := c) (by omega)
    rw [← hr] at k
    have e : r ≠ 0 ↔ b = true := k.trans (Iff.trans ⟨fun ⟨y, a, q⟩ => ⟨y, ((near_cut h.all hc y q).2).2 a, q⟩, fun ⟨y, a, q⟩ => ⟨y, ((near_cut h.all hc y q).2).1 a, q⟩⟩ hb.symm)
    cases b
    · have : r = 0 := Decidable.not_not.1 (fun a => by simpa using e.1 a)
      rw [this]; rfl
    · have := e.2 rfl
      simp
      omega
  clear hb hc hr h
  obtain ⟨p, u, d⟩ := s
  have FA := Lib.hid (Fr.alloc w (.cells #[.int .u64 p, .int .u64 u, .int .u64 d] 30) [])
  dsimp only [Sp.v, Sp.box] at *
  go_enter Tryz.func110, Tryz.ntmps110
  go_wp2_with fail
  with_reducible refine (AB.out _).mono ?_
  rintro e w2 ⟨rfl, hf⟩
  have F2 := Lib.hid (FA.out.trans hf)
  clear hf
  go_wp2
  go_ret
  exact ⟨rfl, F2.out⟩
end Go.Proofs.YtdmomnhacijmpaaGreatDoor

namespace Go.Proofs.YtdmomnhacijmpaaGreatDoor
open Go.RowKit

/-- Stops in a box, a call in the next, a result's cells behind them; in a world that came of W. -/
def PS (W : World) (T : TypeId) (p u d : Nat) (f e : Int) (a : World) : Prop := Fr W a [] ∧
  (a.cell? ⟨W.heap.size, 0, none⟩ = some (.int .u64 p) ∧ a.cell? ⟨W.heap.size, 1, none⟩ = some (.int .u64 u) ∧ a.cell? ⟨W.heap.size, 2, none⟩ = some (.int .u64 d)) ∧
  (a.cell? ⟨W.heap.size + 1, 0, none⟩ = some (.int .i64 f) ∧ a.cell? ⟨W.heap.size + 1, 1, none⟩ = some (.int .i64 e)) ∧
  a.heap[W.heap.size]? = some (.cells #[.int .u64 p, .int .u64 u, .int .u64 d] T (0, 0)) ∧
  a.heap[W.heap.size + 2]? = some (.cells #[.int .u64 0, .int .u64 0, .int .u64 0] T (0, 0))
theorem PS.fr {W : World} {T : TypeId} {p u d : Nat} {f e : Int} {a a' : World} (h : PS W T p u d f e a) (k : Fr a a' []) : PS W T p u d f e a' := by
  obtain ⟨h0, ⟨h1, h2, h3⟩, ⟨h4, h5⟩, h6, h7⟩ := h
  exact ⟨h0.trans k, ⟨k.cell h1 (by simp), k.cell h2 (by simp), k.cell h3 (by simp)⟩, ⟨k.cell h4 (by simp), k.cell h5 (by simp)⟩, k.heap h6 (by simp), k.heap h7 (by simp)⟩
theorem PS.new (w : World) (T : TypeId) (p u d : Nat) (f e : Int) : PS w T p u d f e (((w.alloc (.cells #[.int .u64 p, .int .u64 u, .int .u64 d] T)).alloc (.cells #[.int .i64 f, .int .i64 e] 32)).alloc (.cells #[.int .u64 0, .int .u64 0, .int .u64 0] T)) := by
  have a1 := heap_alloc_new w (.cells #[.int .u64 p, .int .u64 u, .int .u64 d] T)
  have f1 := Fr.alloc w (.cells #[.int .u64 p, .int .u64 u, .int .u64 d] T) []
  have s1 : (w.alloc (.cells #[.int .u64 p, .int .u64 u, .int .u64 d] T)).heap.size = w.heap.size + 1 := by simp
  generalize w.alloc (.cells #[.int .u64 p, .int .u64 u, .int .u64 d] T) = w1 at *
  have a2 := heap_alloc_new w1 (.cells #[.int .i64 f, .int .i64 e] 32)
  have f2 := Fr.alloc w1 (.cells #[.int .i64 f, .int .i64 e] 32) []
  have s2 : (w1.alloc (.cells #[.int .i64 f, .int .i64 e] 32)).heap.size = w1.heap.size + 1 := by simp
  generalize w1.alloc (.cells #[.int .i64 f, .int .i64 e] 32) = w2 at *
  have a3 := heap_alloc_new w2 (.cells #[.int .u64 0, .int .u64 0, .int .u64 0] T)
  have f3 := Fr.alloc w2 (.cells #[.int .u64 0, .int .u64 0, .int .u64 0] T) []
  rw [s2, s1] at a3
  rw [s1] at a2
  generalize w2.alloc (.cells #[.int .u64 0, .int .u64 0, .int .u64 0] T) = w3 at *
  have r1 := f3.heap (f2.heap a1 (by simp)) (by simp)
  have r2 := f3.heap a2 (by simp)
  exact ⟨(f1.trans f2).trans f3, arow r1, ⟨by rw [cell_of_row w3 _ 0 _ _ _ r2]; rfl, by rw [cell_of_row w3 _ 1 _ _ _ r2]; rfl⟩, r1, a3⟩
theorem aput0 {w : World} {g : Nat} {a b c : Value} {T : TypeId} (h : w.heap[g]? = some (.cells #[a, b, c] T (0, 0))) (x : Value) : (w.setCell ⟨g, 0, none⟩ x).heap[g]? = some (.cells #[x, b, c] T (0, 0)) := by rw [heap_setCell_same _ g 0 _ _ _ h]; rfl
theorem aput1 {w : World} {g : Nat} {a b c : Value} {T : TypeId} (h : w.heap[g]? = some (.cells #[a, b, c] T (0, 0))) (x : Value) : (w.setCell ⟨g, 1, none⟩ x).heap[g]? = some (.cells #[a, x, c] T (0, 0)) := by rw [heap_setCell_same _ g 1 _ _ _ h]; rfl
theorem aput2 {w : World} {g : Nat} {a b c : Value} {T : TypeId} (h : w.heap[g]? = some (.cells #[a, b, c] T (0, 0))) (x : Value) : (w.setCell ⟨g, 2, none⟩ x).heap[g]? = some (.cells #[a, b, x] T (0, 0)) := by rw [heap_setCell_same _ g 2 _ _ _ h]; rfl

set_option maxHeartbeats 1000000 in
set_option maxRecDepth 100000 in
theorem put_any (s : Sp) (f e : Int) (w : World) (h : s.ok) (r : Sp) (hr : r = s.put f e) : Calls Tryz.prog 25 #[s.v, .agg #[.int .i64 f, .int .i64 e]] w fun x w' => x = .returned r.v ∧ Fr w w' [] := by
  have BI := Lib.hid (fun W => bit_any f W)
  have ho := oneN_lt f
  obtain ⟨p, u, d⟩ := s
  obtain ⟨rp, ru, rd⟩ := r
  have HS := Lib.hid ((PS.new w 30 p u d f e).fr (Fr.drew _ []))
  have HS0 := Lib.hid (PS.new w 30 p u d f e)
  by_cases h1 : e = 1
  · have E1 := bits_or_u64_nat u (oneN f) h.u ho
    obtain ⟨rfl, rfl, rfl⟩ : p = rp ∧ u ||| oneN f = ru ∧ d = rd := by
      rw [Sp.put, if_pos h1] at hr
      simp only [Sp.mk.injEq] at hr
      exact ⟨hr.1.symm, hr.2.1.symm, hr.2.2.symm⟩
    subst h1
    clear hr h ho
    generalize oneN f = o at *
    dsimp only [Sp.v, Sp.box] at *
    go_enter Tryz.func25, Tryz.ntmps25
    obtain ⟨_, _, ⟨k0, k1⟩, _⟩ := HS0.out
    go_wp2
    refine wp_region_detL 7 (S := PS w 30 p u d f (1)) (by kernel_rfl) HS.out ?_
    refine wpDetL_take (j := 7) (by decide) (by kernel_rfl) (i := 0) (oi := _) (v := ?dv1) (by simp only [List.getElem?_toArray, List.getElem?_cons_zero]; rfl) (by kernel_rfl) (by kernel_rfl) (by kernel_rfl) (Or.inl ⟨by rfl, ?dy1⟩) ?dr1
    case dy1 => (intro w hSw; have hS0 := hSw; (try dsimp only [PS] at hSw); go_simp; refine Came.value ?_ hS0; with_reducible rfl)
    try simp only [Act.put, List.setIfInBounds_toArray, List.set_cons_zero, List.set_cons_succ]
    refine wpDetL_take (j := 7) (by decide) (by kernel_rfl) (i := 1) (oi := _) (v := ?dv2) (by simp only [List.getElem?_toArray, List.getElem?_cons_zero, List.getElem?_cons_succ]; rfl) (by kernel_rfl) (by kernel_rfl) (by kernel_rfl) (Or.inl ⟨by rfl, ?dy2⟩) ?dr2
    case dy2 => (intro w hSw; have hS0 := hSw; (try dsimp only [PS] at hSw); go_simp; refine Came.value ?_ hS0; with_reducible rfl)
    try simp only [Act.put, List.setIfInBounds_toArray, List.set_cons_zero, List.set_cons_succ]
    refine wpDetL_take (j := 7) (by decide) (by kernel_rfl) (i := 2) (oi := _) (v := ?dv3) (by simp only [List.getElem?_toArray, List.getElem?_cons_zero, List.getElem?_cons_succ]; rfl) (by kernel_rfl) (by kernel_rfl) (by kernel_rfl) (Or.inl ⟨by rfl, ?dy3⟩) ?dr3
    case dy3 => (intro w hSw; have hS0 := hSw; (try dsimp only [PS] at hSw); go_simp; refine Came.value ?_ hS0; with_reducible rfl)
    try simp only [Act.put, List.setIfInBounds_toArray, List.set_cons_zero, List.set_cons_succ]
    refine wpDetL_take (j := 7) (by decide) (by kernel_rfl) (i := 3) (oi := _) (v := ?dv4) (by simp only [List.getElem?_toArray, List.getElem?_cons_zero, List.getElem?_cons_succ]; rfl) (by kernel_rfl) (by kernel_rfl) (by kernel_rfl) (Or.inl ⟨by rfl, ?dy4⟩) ?dr4
    case dy4 => (intro w hSw; have hS0 := hSw; (try dsimp only [PS] at hSw); go_simp; refine Came.value ?_ hS0; with_reducible rfl)
    try simp only [Act.put, List.setIfInBounds_toArray, List.set_cons_zero, List.set_cons_succ]
    refine wpDetL_take (j := 7) (by decide) (by kernel_rfl) (i := 4) (oi := _) (v := ?dv5) (by simp only [List.getElem?_toArray, List.getElem?_cons_zero, List.getElem?_cons_succ]; rfl) (by kernel_rfl) (by kernel_rfl) (by kernel_rfl) (Or.inl ⟨by rfl, ?dy5⟩) ?dr5
    case dy5 => (intro w hSw; go_simp; exact Came.call ((BI.out w).mono fun e w' ⟨he, hw⟩ => ⟨he, hw ▸ hSw⟩) (by with_reducible rfl))
    try simp only [Act.put, List.setIfInBounds_toArray, List.set_cons_zero, List.set_cons_succ]
    refine wpDetL_take (j := 7) (by decide) (by kernel_rfl) (i := 5) (oi := _) (v := ?dv6) (by simp only [List.getElem?_toArray, List.getElem?_cons_zero, List.getElem?_cons_succ]; rfl) (by kernel_rfl) (by kernel_rfl) (by kernel_rfl) (Or.inl ⟨by rfl, ?dy6⟩) ?dr6
    case dy6 => (intro w hSw; have hS0 := hSw; (try dsimp only [PS] at hSw); go_simp; refine Came.value ?_ hS0; with_reducible rfl)
    try simp only [Act.put, List.setIfInBounds_toArray, List.set_cons_zero, List.set_cons_succ]
    refine wpDetL_take (j := 7) (by decide) (by kernel_rfl) (i := 6) (oi := _) (v := ?dv7) (by simp only [List.getElem?_toArray, List.getElem?_cons_zero, List.getElem?_cons_succ]; rfl) (by kernel_rfl) (by kernel_rfl) (by kernel_rfl) (Or.inl ⟨by rfl, ?dy7⟩) ?dr7
    case dy7 => (intro w hSw; have hS0 := hSw; (try dsimp only [PS] at hSw); go_simp; refine Came.value ?_ hS0; with_reducible rfl)
    try simp only [Act.put, List.setIfInBounds_toArray, List.set_cons_zero, List.set_cons_succ]
    refine wpDetL_last (oj := _) (by kernel_rfl) (by kernel_rfl) (by simp only [List.getElem?_toArray, List.getElem?_cons_zero, List.getElem?_cons_succ]; rfl) ?_
    intro w3 hS K hK
    obtain ⟨hF, ⟨c0, c1, c2⟩, ⟨k0, k1⟩, hR, hZ⟩ := hS
    have zb := fun i => frozen_of_row w3 _ i _ _ hR
    have zb0 := zb 0
    have zb1 := zb 1
    have zb2 := zb 2
    have hR2 := Lib.hid (aput1 hR (.int .u64 (((u ||| o : Nat)) : Int)))
    have FX := Fr.setCell w3 w.heap.size 1 (.int .u64 (((u ||| o : Nat)) : Int)) (S := [w.heap.size]) (by simp)
    have FS := Lib.hid (hF.new FX (by simp))
    have hZ2 := Lib.hid (FX.heap hZ (by simp))
    have m0 := Lib.hid (FX.cell k0 (by simp))
    have m1 := Lib.hid (FX.cell k1 (by simp))
    clear FX
    go_simp
    refine hK.out _ _ ?_
    clear hK zb hF hZ hR K zb0 zb1 zb2 c0 c1 c2 k0 k1
    generalize World.setCell w3 _ _ = w4 at *
    have k0 := m0.out
    have k1 := m1.out
    obtain ⟨c0, c1, c2⟩ := arow hR2.out
    obtain ⟨x0, x1, x2⟩ := arow hZ2.out
    have z := fun i => frozen_of_row w4 _ i _ _ hZ2.out
    have z0 := z 0
    have z1 := z 1
    have z2 := z 2
    have AF := Lib.hid (FS.out.new (aset_fr w4 (w.heap.size + 2) (.int .u64 (p : Int)) (.int .u64 (((u ||| o : Nat)) : Int)) (.int .u64 (d : Int))) (by simp))
    obtain ⟨y0, y1, y2⟩ := arow (aset hZ2.out (.int .u64 (p : Int)) (.int .u64 (((u ||| o : Nat)) : Int)) (.int .u64 (d : Int)))
    clear z
    go_wp2
    exact bodyPost_ret (v := .agg #[.int .u64 (p : Int), .int .u64 (((u ||| o : Nat)) : Int), .int .u64 (d : Int)]) (by simp [results, Tryz.results25, go_sem, y0, y1, y2]) rfl ⟨rfl, AF.out⟩
  · by_cases h2 : e = -1
    · have E1 := bits_or_u64_nat d (oneN f) h.d ho
      obtain ⟨rfl, rfl, rfl⟩ : p = rp ∧ u = ru ∧ d ||| oneN f = rd := by
        rw [Sp.put, if_neg h1, if_pos h2] at hr
        simp only [Sp.mk.injEq] at hr
        exact ⟨hr.1.symm, hr.2.1.symm, hr.2.2.symm⟩
      subst h2
      clear hr h ho h1
      generalize oneN f = o at *
      dsimp only [Sp.v, Sp.box] at *
      go_enter Tryz.func25, Tryz.ntmps25
      obtain ⟨_, _, ⟨k0, k1⟩, _⟩ := HS0.out
      go_wp2
      refine wp_region_detL 7 (S := PS w 30 p u d f (-1)) (by kernel_rfl) HS.out ?_
      refine wpDetL_take (j := 7) (by decide) (by kernel_rfl) (i := 0) (oi := _) (v := ?dv8) (by simp only [List.getElem?_toArray, List.getElem?_cons_zero]; rfl) (by kernel_rfl) (by kernel_rfl) (by kernel_rfl) (Or.inl ⟨by rfl, ?dy8⟩) ?dr8
      case dy8 => (intro w hSw; have hS0 := hSw; (try dsimp only [PS] at hSw); go_simp; refine Came.value ?_ hS0; with_reducible rfl)
      try simp only [Act.put, List.setIfInBounds_toArray, List.set_cons_zero, List.set_cons_succ]
      refine wpDetL_take (j := 7) (by decide) (by kernel_rfl) (i := 1) (oi := _) (v := ?dv9) (by simp only [List.getElem?_toArray, List.getElem?_cons_zero, List.getElem?_cons_succ]; rfl) (by kernel_rfl) (by kernel_rfl) (by kernel_rfl) (Or.inl ⟨by rfl, ?dy9⟩) ?dr9
      case dy9 => (intro w hSw; have hS0 := hSw; (try dsimp only [PS] at hSw); go_simp; refine Came.value ?_ hS0; with_reducible rfl)
      try simp only [Act.put, List.setIfInBounds_toArray, List.set_cons_zero, List.set_cons_succ]
      refine wpDetL_take (j := 7) (by decide) (by kernel_rfl) (i := 2) (oi := _) (v := ?dv10) (by simp only [List.getElem?_toArray, List.getElem?_cons_zero, List.getElem?_cons_succ]; rfl) (by kernel_rfl) (by kernel_rfl) (by kernel_rfl) (Or.inl ⟨by rfl, ?dy10⟩) ?dr10
      case dy10 => (intro w hSw; have hS0 := hSw; (try dsimp only [PS] at hSw); go_simp; refine Came.value ?_ hS0; with_reducible rfl)
      try simp only [Act.put, List.setIfInBounds_toArray, List.set_cons_zero, List.set_cons_succ]
      refine wpDetL_take (j := 7) (by decide) (by kernel_rfl) (i := 3) (oi := _) (v := ?dv11) (by simp only [List.getElem?_toArray, List.getElem?_cons_zero, List.getElem?_cons_succ]; rfl) (by kernel_rfl) (by kernel_rfl) (by kernel_rfl) (Or.inl ⟨by rfl, ?dy11⟩) ?dr11
      case dy11 => (intro w hSw; have hS0 := hSw; (try dsimp only [PS] at hSw); go_simp; refine Came.value ?_ hS0; with_reducible rfl)
      try simp only [Act.put, List.setIfInBounds_toArray, List.set_cons_zero, List.set_cons_succ]
      refine wpDetL_take (j := 7) (by decide) (by kernel_rfl) (i := 4) (oi := _) (v := ?dv12) (by simp only [List.getElem?_toArray, List.getElem?_cons_zero, List.getElem?_cons_succ]; rfl) (by kernel_rfl) (by kernel_rfl) (by kernel_rfl) (Or.inl ⟨by rfl, ?dy12⟩) ?dr12
      case dy12 => (intro w hSw; go_simp; exact Came.call ((BI.out w).mono fun e w' ⟨he, hw⟩ => ⟨he, hw ▸ hSw⟩) (by with_reducible rfl))
      try simp only [Act.put, List.setIfInBounds_toArray, List.set_cons_zero, List.set_cons_succ]
      refine wpDetL_take (j := 7) (by decide) (by kernel_rfl) (i := 5) (oi := _) (v := ?dv13) (by simp only [List.getElem?_toArray, List.getElem?_cons_zero, List.getElem?_cons_succ]; rfl) (by kernel_rfl) (by kernel_rfl) (by kernel_rfl) (Or.inl ⟨by rfl, ?dy13⟩) ?dr13
      case dy13 => (intro w hSw; have hS0 := hSw; (try dsimp only [PS] at hSw); go_simp; refine Came.value ?_ hS0; with_reducible rfl)
      try simp only [Act.put, List.setIfInBounds_toArray, List.set_cons_zero, List.set_cons_succ]
      refine wpDetL_take (j := 7) (by decide) (by kernel_rfl) (i := 6) (oi := _) (v := ?dv14) (by simp only [List.getElem?_toArray, List.getElem?_cons_zero, List.getElem?_cons_succ]; rfl) (by kernel_rfl) (by kernel_rfl) (by kernel_rfl) (Or.inl ⟨by rfl, ?dy14⟩) ?dr14
      case dy14 => (intro w hSw; have hS0 := hSw; (try dsimp only [PS] at hSw); go_simp; refine Came.value ?_ hS0; with_reducible rfl)
      try simp only [Act.put, List.setIfInBounds_toArray, List.set_cons_zero, List.set_cons_succ]
      refine wpDetL_last (oj := _) (by kernel_rfl) (by kernel_rfl) (by simp only [List.getElem?_toArray, List.getElem?_cons_zero, List.getElem?_cons_succ]; rfl) ?_
      intro w3 hS K hK
      obtain ⟨hF, ⟨c0, c1, c2⟩, ⟨k0, k1⟩, hR, hZ⟩ := hS
      have zb := fun i => frozen_of_row w3 _ i _ _ hR
      have zb0 := zb 0
      have zb1 := zb 1
      have zb2 := zb 2
      have hR2 := Lib.hid (aput2 hR (.int .u64 (((d ||| o : Nat)) : Int)))
      have FX := Fr.setCell w3 w.heap.size 2 (.int .u64 (((d ||| o : Nat)) : Int)) (S := [w.heap.size]) (by simp)
      have FS := Lib.hid (hF.new FX (by simp))
      have hZ2 := Lib.hid (FX.heap hZ (by simp))
      have m0 := Lib.hid (FX.cell k0 (by simp))
      have m1 := Lib.hid (FX.cell k1 (by simp))
      clear FX
      go_simp
      refine hK.out _ _ ?_
      clear hK zb hF hZ hR K zb0 zb1 zb2 c0 c1 c2 k0 k1
      generalize World.setCell w3 _ _ = w4 at *
      have k0 := m0.out
      have k1 := m1.out
      obtain ⟨c0, c1, c2⟩ := arow hR2.out
      obtain ⟨x0, x1, x2⟩ := arow hZ2.out
      have z := fun i => frozen_of_row w4 _ i _ _ hZ2.out
      have z0 := z 0
      have z1 := z 1
      have z2 := z 2
      have AF := Lib.hid (FS.out.new (aset_fr w4 (w.heap.size + 2) (.int .u64 (p : Int)) (.int .u64 (u : Int)) (.int .u64 (((d ||| o : Nat)) : Int))) (by simp))
      obtain ⟨y0, y1, y2⟩ := arow (aset hZ2.out (.int .u64 (p : Int)) (.int .u64 (u : Int)) (.int .u64 (((d ||| o : Nat)) : Int)))
      clear z
      go_wp2
      exact bodyPost_ret (v := .agg #[.int .u64 (p : Int), .int .u64 (u : Int), .int .u64 (((d ||| o : Nat)) : Int)]) (by simp [results, Tryz.results25, go_sem, y0, y1, y2]) rfl ⟨rfl, AF.out⟩
    · obtain ⟨rfl, rfl, rfl⟩ : p = rp ∧ u = ru ∧ d = rd := by
        rw [Sp.put, if_neg h1, if_neg h2] at hr
        simp only [Sp.mk.injEq] at hr
        exact ⟨hr.1.symm, hr.2.1.symm, hr.2.2.symm⟩
      have e1 : (e == 1) = false := by simp [h1]
      have e2 : (e == -1) = false := by simp [h2]
      clear hr h ho h1 h2 HS
      dsimp only [Sp.v, Sp.box] at *
      go_enter Tryz.func25, Tryz.ntmps25
      obtain ⟨_, _, ⟨k0, k1⟩, _⟩ := HS0.out
      have F4 := Lib.hid (((Fr.alloc w (.cells #[.int .u64 p, .int .u64 u, .int .u64 d] 30) []).trans (Fr.alloc _ (.cells #[.int .i64 f, .int .i64 e] 32) [])).trans (Fr.alloc _ (.cells #[.int .u64 p, .int .u64 u, .int .u64 d] 30) []))
      go_wp2
      exact bodyPost_ret (v := .agg #[.int .u64 p, .int .u64 u, .int .u64 d]) (by simp [results, Tryz.results25, go_sem]) rfl ⟨rfl, F4.out⟩
end Go.Proofs.YtdmomnhacijmpaaGreatDoor

namespace Go.Proofs.YtdmomnhacijmpaaGreatDoor
open Go.RowKit

def carOf (l : List Int) : Nat := l.foldl (fun n z => n ||| oneN z) 0
def ofL (s : Sp) (l : List La) : Sp := l.foldl (fun s x => s.put x.f x.d) s
def ofS (l : List Int) (m : List La) : Sp := ofL ⟨carOf l, 0, 0⟩ m
theorem carOf_snoc (l : List Int) (z : Int) : carOf (l ++ [z]) = carOf l ||| oneN z := by simp [carOf]
theorem carOf_lt (l : List Int) : carOf l < 18446744073709551616 := by
  have : ∀ (l : List Int) (n : Nat), n < 18446744073709551616 → l.foldl (fun n z => n ||| oneN z) n < 18446744073709551616 := by
    intro l
    induction l with
    | nil => intro n h; exact h
    | cons z l ih => intro n h; exact ih _ (or_lt h (oneN_lt z))
  exact this l 0 (by decide)
theorem ofL_snoc (s : Sp) (l : List La) (x : La) : ofL s (l ++ [x]) = (ofL s l).put x.f x.d := by simp [ofL]
theorem ofL_ok (s : Sp) (h : s.ok) (l : List La) : (ofL s l).ok := by
  induction l generalizing s with
  | nil => exact h
  | cons x l ih => exact ih _ (Sp.put_ok h x.f x.d)
theorem car_ok (l : List Int) : (Sp.mk (carOf l) 0 0).ok := ⟨carOf_lt l, (by decide : (0 : Nat) < 18446744073709551616), (by decide : (0 : Nat) < 18446744073709551616)⟩
theorem ofS_ok (l : List Int) (m : List La) : (ofS l m).ok := ofL_ok _ (car_ok l) m
theorem take_la (l : List La) (k : Nat) (h : k < l.length) : l.take (k + 1) = l.take k ++ [l.getD k zLa] := by
  rw [List.take_succ_eq_append_getElem h]; simp [h]

/-- A result's cells, behind them a box of stops; in a world that came of W. -/
def OD (W : World) (T : TypeId) (p u d : Nat) (a : World) : Prop := Fr W a [] ∧
  (a.cell? ⟨W.heap.size + 1, 0, none⟩ = some (.int .u64 p) ∧ a.cell? ⟨W.heap.size + 1, 1, none⟩ = some (.int .u64 u) ∧ a.cell? ⟨W.heap.size + 1, 2, none⟩ = some (.int .u64 d)) ∧
  a.heap[W.heap.size]? = some (.cells #[.int .u64 0, .int .u64 0, .int .u64 0] T (0, 0)) ∧
  a.heap[W.heap.size + 1]? = some (.cells #[.int .u64 p, .int .u64 u, .int .u64 d] T (0, 0))
theorem OD.of {W : World} {T : TypeId} {p u d : Nat} {a : World} (h : Fr W a []) (k : a.heap[W.heap.size]? = some (.cells #[.int .u64 0, .int .u64 0, .int .u64 0] T (0, 0))) (r : a.heap[W.heap.size + 1]? = some (.cells #[.int .u64 p, .int .u64 u, .int .u64 d] T (0, 0))) : OD W T p u d a := ⟨h, arow r, k, r⟩
theorem OD.fr {W : World} {T : TypeId} {p u d : Nat} {a a' : World} (h : OD W T p u d a) (k : Fr a a' []) : OD W T p u d a' :=
  OD.of (h.1.trans k) (k.heap h.2.2.1 (by simp)) (k.heap h.2.2.2 (by simp))
theorem OD.fz {W : World} {T : TypeId} {p u d : Nat} {a : World} (h : OD W T p u d a) (i : Nat) : a.frozen? ⟨W.heap.size + 1, i, none⟩ = false := frozen_of_row _ _ i _ _ h.2.2.2
theorem OD.fz0 {W : World} {T : TypeId} {p u d : Nat} {a : World} (h : OD W T p u d a) (i : Nat) : a.frozen? ⟨W.heap.size, i, none⟩ = false := frozen_of_row _ _ i _ _ h.2.2.1
theorem OD.car {W : World} {T : TypeId} {p u d : Nat} {a : World} (h : OD W T p u d a) (x : Nat) : OD W T x u d (a.setCell ⟨W.heap.size + 1, 0, none⟩ (.int .u64 x)) :=
  OD.of (h.1.new (Fr.setCell a (W.heap.size + 1) 0 _ (S := [W.heap.size + 1]) (by simp)) (by simp)) ((Fr.setCell a (W.heap.size + 1) 0 _ (S := [W.heap.size + 1]) (by simp)).heap h.2.2.1 (by simp)) (aput0 h.2.2.2 _)
theorem OD.set {W : World} {T : TypeId} {p u d : Nat} {a : World} (h : OD W T p u d a) (x y z : Nat) : OD W T x y z (((a.setCell ⟨W.heap.size + 1, 0, none⟩ (.int .u64 x)).setCell ⟨W.heap.size + 1, 1, none⟩ (.int .u64 y)).setCell ⟨W.heap.size + 1, 2, none⟩ (.int .u64 z)) :=
  OD.of (h.1.new (aset_fr a (W.heap.size + 1) _ _ _) (by simp)) ((aset_fr a (W.heap.size + 1) _ _ _).heap h.2.2.1 (by simp)) (aset h.2.2.2 _ _ _)
theorem OD.new (w : World) (T : TypeId) : OD w T 0 0 0 ((w.alloc (.cells #[.int .u64 0, .int .u64 0, .int .u64 0] T)).alloc (.cells #[.int .u64 0, .int .u64 0, .int .u64 0] T)) := by
  have a2 := heap_alloc_new (w.alloc (.cells #[.int .u64 0, .int .u64 0, .int .u64 0] T)) (.cells #[.int .u64 0, .int .u64 0, .int .u64 0] T)
  rw [show (w.alloc (.cells #[.int .u64 0, .int .u64 0, .int .u64 0] T)).heap.size = w.heap.size + 1 by simp] at a2
  exact OD.of ((Fr.alloc w _ []).trans (Fr.alloc _ _ [])) ((Fr.alloc _ _ []).heap (heap_alloc_new w _) (by simp)) a2

set_option maxHeartbeats 2000000 in
set_option maxRecDepth 100000 in
theorem of_any (v1 : Value) (l : List Int) (v2 : Value) (m : List La) (w : World) (h1 : HInts w v1 l) (h2 : HLs w v2 m) (r : Sp) (hr : r = ofS l m) :
    Calls Tryz.prog 91 #[v1, v2] w fun e w' => e = .returned r.v ∧ Fr w w' [] := by
  obtain ⟨a1, c1, rfl, p1, q1, r1⟩ := h1
  obtain ⟨a2, c2, rfl, p2, q2, r2⟩ := h2
  unfold maxLen at q1 q2
  have BI := Lib.hid (fun z W => bit_any z W)
  have PU := Lib.hid (fun (s : Sp) (f e : Int) W (h : s.ok) (r : Sp) (hr : r = s.put f e) => put_any s f e W h r hr)
  have HD0 := Lib.hid (OD.new w 30)
  have HR := Lib.hid hr
  clear hr
  dsimp only [Sp.v] at *
  go_enter Tryz.func91, Tryz.ntmps91
  go_wp2
  go_loopw [12] (fun i wr => ∃ k : Nat, k ≤ l.length ∧ i = .int .i64 k ∧ Hid (OD w 30 (carOf (l.take k)) 0 0 wr)) (fun i _ => l.length - (intOf i).toNat)
  case atStart => exact ⟨0, Nat.zero_le _, rfl, HD0⟩
  case round =>
    obtain ⟨k, hk, rfl, HD⟩ := hrel
    by_cases hlt : k < l.length
    · obtain ⟨b, off, rfl, hc⟩ := r1 (by omega)
      have hcell := HD.out.1.cell (hc k hlt) (by simp)
      obtain ⟨z, hz⟩ : ∃ z, z = l.getD k 0 := ⟨_, rfl⟩
      obtain ⟨p, hp⟩ : ∃ p, p = carOf (l.take k) := ⟨_, rfl⟩
      obtain ⟨o, ho⟩ : ∃ o, o = oneN z := ⟨_, rfl⟩
      have E1 := bits_or_u64_nat p o (by rw [hp]; exact carOf_lt _) (by rw [ho]; exact oneN_lt _)
      have HN : Hid (carOf (l.take (k + 1)) = p ||| o) := by show _ = _; rw [take_snoc l k hlt, carOf_snoc, hp, ho, hz]
      have BI := Lib.hid (fun W => BI.out z W)
      rw [← hp] at HD
      rw [← hz] at hcell
      rw [← ho] at BI
      have HS := Lib.hid (HD.out.fr (Fr.drew _ []))
      clear hz hp ho hc r1
      go_wp2
      refine wp_region_detL 6 (S := OD w 30 p 0 0) (by kernel_rfl) HS.out ?_
      refine wpDetL_take (j := 6) (by decide) (by kernel_rfl) (i := 0) (oi := _) (v := ?dv1) (by simp only [List.getElem?_toArray, List.getElem?_cons_zero]; rfl) (by kernel_rfl) (by kernel_rfl) (by kernel_rfl) (Or.inl ⟨by rfl, ?dy1⟩) ?dr1
      case dy1 => (intro w hSw; have hS0 := hSw; (try dsimp only [OD] at hSw); go_simp; refine Came.value ?_ hS0; with_reducible rfl)
      try simp only [Act.put, List.setIfInBounds_toArray, List.set_cons_zero, List.set_cons_succ]
      refine wpDetL_take (j := 6) (by decide) (by kernel_rfl) (i := 1) (oi := _) (v := ?dv2) (by simp only [List.getElem?_toArray, List.getElem?_cons_zero, List.getElem?_cons_succ]; rfl) (by kernel_rfl) (by kernel_rfl) (by kernel_rfl) (Or.inl ⟨by rfl, ?dy2⟩) ?dr2
      case dy2 => (intro w hSw; have hS0 := hSw; (try dsimp only [OD] at hSw); go_simp; refine Came.value ?_ hS0; with_reducible rfl)
      try simp only [Act.put, List.setIfInBounds_toArray, List.set_cons_zero, List.set_cons_succ]
      refine wpDetL_take (j := 6) (by decide) (by kernel_rfl) (i := 2) (oi := _) (v := ?dv3) (by simp only [List.getElem?_toArray, List.getElem?_cons_zero, List.getElem?_cons_succ]; rfl) (by kernel_rfl) (by kernel_rfl) (by kernel_rfl) (Or.inl ⟨by rfl, ?dy3⟩) ?dr3
      case dy3 => (intro w hSw; have hS0 := hSw; (try dsimp only [OD] at hSw); go_simp; refine Came.value ?_ hS0; with_reducible rfl)
      try simp only [Act.put, List.setIfInBounds_toArray, List.set_cons_zero, List.set_cons_succ]
      refine wpDetL_take (j := 6) (by decide) (by kernel_rfl) (i := 3) (oi := _) (v := ?dv4) (by simp only [List.getElem?_toArray, List.getElem?_cons_zero, List.getElem?_cons_succ]; rfl) (by kernel_rfl) (by kernel_rfl) (by kernel_rfl) (Or.inl ⟨by rfl, ?dy4⟩) ?dr4
      case dy4 => (intro w hSw; go_simp; exact Came.call ((BI.out w).mono fun e w' ⟨he, hw⟩ => ⟨he, hw ▸ hSw⟩) (by with_reducible rfl))
      try simp only [Act.put, List.setIfInBounds_toArray, List.set_cons_zero, List.set_cons_succ]
      refine wpDetL_take (j := 6) (by decide) (by kernel_rfl) (i := 4) (oi := _) (v := ?dv5) (by simp only [List.getElem?_toArray, List.getElem?_cons_zero, List.getElem?_cons_succ]; rfl) (by kernel_rfl) (by kernel_rfl) (by kernel_rfl) (Or.inl ⟨by rfl, ?dy5⟩) ?dr5
      case dy5 => (intro w hSw; have hS0 := hSw; (try dsimp only [OD] at hSw); go_simp; refine Came.value ?_ hS0; with_reducible rfl)
      try simp only [Act.put, List.setIfInBounds_toArray, List.set_cons_zero, List.set_cons_succ]
      refine wpDetL_take (j := 6) (by decide) (by kernel_rfl) (i := 5) (oi := _) (v := ?dv6) (by simp only [List.getElem?_toArray, List.getElem?_cons_zero, List.getElem?_cons_succ]; rfl) (by kernel_rfl) (by kernel_rfl) (by kernel_rfl) (Or.inl ⟨by rfl, ?dy6⟩) ?dr6
      case dy6 => (intro w hSw; have hS0 := hSw; (try dsimp only [OD] at hSw); go_simp; refine Came.value ?_ hS0; with_reducible rfl)
      try simp only [Act.put, List.setIfInBounds_toArray, List.set_cons_zero, List.set_cons_succ]
      refine wpDetL_last (oj := _) (by kernel_rfl) (by kernel_rfl) (by simp only [List.getElem?_toArray, List.getElem?_cons_zero, List.getElem?_cons_succ]; rfl) ?_
      intro w3 hS K hK
      have zb0 := hS.fz 0
      have HX := Lib.hid (hS.car (p ||| o))
      obtain ⟨_, ⟨c0, _⟩, _⟩ := hS
      go_simp
      refine hK.out _ _ ?_
      clear hK K zb0 c0
      go_wp2
      go_roundw
      case rel => exact ⟨k + 1, by omega, by go_num, by rw [HN.out]; exact HX⟩
      case measure => simp [intOf]; omega
    · obtain rfl : k = l.length := by omega
      rw [List.take_length] at HD
      clear r1 HD0
      go_wp2
      go_loopw [25] (fun i wx => ∃ j : Nat, j ≤ m.length ∧ i = .int .i64 j ∧ Hid (OD w 30 (ofS l (m.take j)).c (ofS l (m.take j)).u (ofS l (m.take j)).d wx)) (fun i _ => m.length - (intOf i).toNat)
      case atStart => exact ⟨0, Nat.zero_le _, rfl, HD⟩
      case round =>
        clear HD
        obtain ⟨j, hj, rfl, HD⟩ := hrel
        by_cases hlt : j < m.length
        · obtain ⟨b, off, rfl, hc⟩ := r2 (by omega)
          obtain ⟨d0, d1, d2⟩ := hc j hlt
          have d0 := HD.out.1.cell d0 (by simp)
          have d1 := HD.out.1.cell d1 (by simp)
          have d2 := HD.out.1.cell d2 (by simp)
          obtain ⟨y, hy⟩ : ∃ y, y = m.getD j zLa := ⟨_, rfl⟩
          have HN : Hid (ofS l (m.take (j + 1)) = (ofS l (m.take j)).put y.f y.d) := by show _ = _; rw [take_la m j hlt, ofS, ofL_snoc, hy]; rfl
          have hok := ofS_ok l (m.take j)
          rw [← hy] at d0 d1 d2
          obtain ⟨s, hs⟩ : ∃ s, s = ofS l (m.take j) := ⟨_, rfl⟩
          rw [← hs] at HN HD hok
          obtain ⟨t, ht⟩ : ∃ t, t = s.put y.f y.d := ⟨_, rfl⟩
          rw [← ht] at HN
          have PU := Lib.hid (fun W => PU.out s y.f y.d W hok t ht)
          obtain ⟨p, u, d⟩ := s
          obtain ⟨p', u', d'⟩ := t
          obtain ⟨yf, yd, yg⟩ := y
          have HD2 := Lib.hid (HD.out.fr (Fr.alloc wr (.cells #[.int .i64 yf, .int .i64 yd, .int .i64 yg] 149) []))
          obtain ⟨c0, c1, c2⟩ := HD2.out.2.1
          clear hy hs ht hok hc r2
          dsimp only at *
          go_wp2_with fail
          with_reducible refine (PU.out _).mono ?_
          rintro e w4 ⟨rfl, hf⟩
          have HD3 := Lib.hid (HD2.out.fr hf)
          have z0 := HD3.out.fz 0
          have z1 := HD3.out.fz 1
          have z2 := HD3.out.fz 2
          obtain ⟨x0, x1, x2⟩ := HD3.out.2.1
          have HX := Lib.hid (HD3.out.set p' u' d')
          clear hf c0 c1 c2
          go_wp2
          go_roundw
          case rel => exact ⟨j + 1, by omega, by go_num, by rw [HN.out]; exact HX⟩
          case measure => simp [intOf]; omega
        · obtain rfl : j = m.length := by omega
          rw [List.take_length, ← HR.out] at HD
          obtain ⟨p, u, d⟩ := r
          obtain ⟨c0, c1, c2⟩ := HD.out.2.1
          obtain ⟨x0, x1, x2⟩ := arow HD.out.2.2.1
          have z0 := HD.out.fz0 0
          have z1 := HD.out.fz0 1
          have z2 := HD.out.fz0 2
          have AF := Lib.hid (HD.out.1.new (aset_fr wr w.heap.size (.int .u64 p) (.int .u64 u) (.int .u64 d)) (by simp))
          obtain ⟨y0, y1, y2⟩ := arow (aset HD.out.2.2.1 (.int .u64 p) (.int .u64 u) (.int .u64 d))
          clear r2
          dsimp only at *
          go_wp2
          exact bodyPost_ret (v := .agg #[.int .u64 p, .int .u64 u, .int .u64 d]) (by simp [results, Tryz.results91, go_sem, y0, y1, y2]) rfl ⟨rfl, AF.out⟩
end Go.Proofs.YtdmomnhacijmpaaGreatDoor

namespace Go.Proofs.YtdmomnhacijmpaaGreatDoor
open Go.RowKit

/-- The library's table, as its initialiser lays it. -/
def Tz (w : World) : Prop := ∀ j, j < 64 → w.cell? ⟨0, j, none⟩ = some (.int .u8 (Lib.deBruijn64tab.getD j 0))
theorem Tz.fr {w w' : World} (h : Tz w) (k : Fr w w' []) : Tz w' := fun j hj => k.cell (h j hj) (by simp)

set_option maxHeartbeats 1000000 in
theorem tz_core (x k idx : Nat) (w : World) (hx0 : ((x : Int) == 0) = false)
    (key : IntKind.u64.wrap (bits BinOp.and IntKind.u64 (x : Int) (IntKind.u64.wrap (-(x : Int))) * 285870213051353865) / 288230376151711744 = (idx : Int))
    (hi : idx < 64) (hk : k < 64) (hcell : w.cell? ⟨0, idx, none⟩ = some (.int .u8 k)) :
    Calls Tryz.prog 107 #[.int .u64 x] w fun e w' => e = .returned (.int .i64 k) ∧ w' = w := by
  go_enter Tryz.func107, Tryz.ntmps107
  go_wp2_with (simp only [key])
  go_ret
  exact ⟨rfl, rfl⟩
theorem tz_any (x : Nat) (hx : x < 18446744073709551616) (hx0 : x ≠ 0) (w : World) (hT : Tz w) (r : Nat) (hr : r = Lib.ctz 64 x) :
    Calls Tryz.prog 107 #[.int .u64 x] w fun e w' => e = .returned (.int .i64 r) ∧ w' = w := by
  subst hr
  obtain ⟨hlow, hk⟩ := Lib.lowest_bit 64 x hx0 hx
  obtain ⟨hi, htab⟩ := Lib.deBruijn64_at _ hk
  have hcell := hT _ hi
  rw [htab] at hcell
  exact tz_core x _ _ w (by simp; omega) (tz64_key x _ hx hx0 hlow) hi hk hcell
theorem tz_zero (w : World) : Calls Tryz.prog 107 #[.int .u64 0] w fun e w' => e = .returned (.int .i64 64) ∧ w' = w := by
  go_enter Tryz.func107, Tryz.ntmps107
  go_wp2
  go_ret
  exact ⟨rfl, rfl⟩
theorem tz_all (x : Nat) (hx : x < 18446744073709551616) (w : World) (hT : Tz w) (r : Nat) (hr : r = Lib.ctz 64 x) :
    Calls Tryz.prog 107 #[.int .u64 x] w fun e w' => e = .returned (.int .i64 r) ∧ w' = w := by
  by_cases h0 : x = 0
  · subst h0
    subst hr
    exact tz_zero w
  · exact tz_any x hx h0 w hT r hr
theorem lz_any (x : Nat) (hx : x < 18446744073709551616) (w : World) (r : Int) (hr : r = 64 - (Lib.bitLen x : Int)) :
    Calls Tryz.prog 108 #[.int .u64 x] w fun e w' => e = .returned (.int .i64 r) ∧ w' = w := by
  have := Tryz.bits_LeadingZeros64 (x : Int) w (by omega) (by omega)
  rw [Int.toNat_natCast, ← hr] at this
  exact this

theorem near_any (s : Sp) (z : Int) (w : World) (h : s.ok) (hT : Tz w) (x : Int) (hx : NearIs s.all (min (max z (-1)) 64) x) :
    Calls Tryz.prog 102 #[s.v, .int .i64 z] w fun e w' => e = .returned (.int .i64 x) ∧ Fr w w' [] := by
  obtain ⟨c, hc⟩ : ∃ c, c = min (max z (-1)) 64 := ⟨_, rfl⟩
  rw [← hc] at hx
  obtain ⟨u, hu⟩ : ∃ u, u = upN s.all c := ⟨_, rfl⟩
  obtain ⟨d, hd⟩ : ∃ d, d = dnN s.all c := ⟨_, rfl⟩
  have AB := Lib.hid (fun W => above_any s z W h c hc u hu)
  have BE := Lib.hid (fun W => below_any s z W h c hc d hd)
  have hul : u < 18446744073709551616 := by rw [hu]; exact upN_lt h.all c
  have hdl : d < 18446744073709551616 := by rw [hd]; exact dnN_lt _ c
  have HX : Hid (x = nearC u d) := by
    show _ = _
    refine hx.unique ?_
    rw [hu, hd]
    exact near_code h.all (by omega) (by omega)
  have HT := Lib.hid hT
  clear hx hc hu hd h hT
  obtain ⟨sp, su, sd⟩ := s
  have HS := Lib.hid ((SS.new w 30 sp su sd).fr (Fr.drew _ []))
  obtain ⟨t, ht⟩ : ∃ t, t = Lib.ctz 64 u := ⟨_, rfl⟩
  obtain ⟨l, hl⟩ : ∃ l, l = 64 - (Lib.bitLen d : Int) := ⟨_, rfl⟩
  have LZ := Lib.hid (fun W => lz_any d hdl W l hl)
  have TZ := Lib.hid (fun W hT => tz_all u hul W hT t ht)
  have HC : Hid (x = if u = 0 ∧ d = 0 then 0 else if (t : Int) ≤ l then 1 else -1) := by
    show _ = _
    rw [HX.out, nearC, ht, hl]
    have hb : Lib.bitLen d ≤ 64 := Lib.bitLen_le d 64 (by decide) hdl
    by_cases h1 : u = 0 ∧ d = 0
    · rw [if_pos h1, if_pos h1]
    · rw [if_neg h1, if_neg h1]
      by_cases h2 : Lib.ctz 64 u ≤ 64 - Lib.bitLen d
      · rw [if_pos h2, if_pos (by omega)]
      · rw [if_neg h2, if_neg (by omega)]
  clear ht hl HX
  dsimp only [Sp.v, Sp.box] at *
  go_enter Tryz.func102, Tryz.ntmps102
  go_wp2
  refine wp_region_det (S := SS w w.heap.size sp su sd) (by kernel_rfl) HS.out ?_
  refine wpDet_take (i := 0) (oi := _) (v := ?dv1) (by simp only [List.getElem?_toArray, List.getElem?_cons_zero]; rfl) (by kernel_rfl) (by kernel_rfl) (by kernel_rfl) (Or.inl ⟨by rfl, ?dy1⟩) ?dr1
  case dy1 => (intro w hSw; have hS0 := hSw; (try dsimp only [SS] at hSw); go_simp; refine Came.value ?_ hS0; with_reducible rfl)
  try simp only [Act.put, List.setIfInBounds_toArray, List.set_cons_zero, List.set_cons_succ]
  refine wpDet_take (i := 1) (oi := _) (v := ?dv2) (by simp only [List.getElem?_toArray, List.getElem?_cons_zero, List.getElem?_cons_succ]; rfl) (by kernel_rfl) (by kernel_rfl) (by kernel_rfl) (Or.inl ⟨by rfl, ?dy2⟩) ?dr2
  case dy2 => (intro w hSw; have hS0 := hSw; (try dsimp only [SS] at hSw); go_simp; refine Came.value ?_ hS0; with_reducible rfl)
  try simp only [Act.put, List.setIfInBounds_toArray, List.set_cons_zero, List.set_cons_succ]
  refine wpDet_take (i := 2) (oi := _) (v := ?dv3) (by simp only [List.getElem?_toArray, List.getElem?_cons_zero, List.getElem?_cons_succ]; rfl) (by kernel_rfl) (by kernel_rfl) (by kernel_rfl) (Or.inl ⟨by rfl, ?dy3⟩) ?dr3
  case dy3 => (intro w hSw; go_simp; exact Came.call ((AB.out w).mono fun e w' ⟨he, hf⟩ => ⟨he, hSw.fr hf⟩) (by with_reducible rfl))
  try simp only [Act.put, List.setIfInBounds_toArray, List.set_cons_zero, List.set_cons_succ]
  refine wpDet_take (i := 3) (oi := _) (v := ?dv4) (by simp only [List.getElem?_toArray, List.getElem?_cons_zero, List.getElem?_cons_succ]; rfl) (by kernel_rfl) (by kernel_rfl) (by kernel_rfl) (Or.inl ⟨by rfl, ?dy4⟩) ?dr4
  case dy4 => (intro w hSw; have hS0 := hSw; (try dsimp only [SS] at hSw); go_simp; refine Came.value ?_ hS0; with_reducible rfl)
  try simp only [Act.put, List.setIfInBounds_toArray, List.set_cons_zero, List.set_cons_succ]
  refine wpDet_take (i := 4) (oi := _) (v := ?dv5) (by simp only [List.getElem?_toArray, List.getElem?_cons_zero, List.getElem?_cons_succ]; rfl) (by kernel_rfl) (by kernel_rfl) (by kernel_rfl) (Or.inl ⟨by rfl, ?dy5⟩) ?dr5
  case dy5 => (intro w hSw; have hS0 := hSw; (try dsimp only [SS] at hSw); go_simp; refine Came.value ?_ hS0; with_reducible rfl)
  try simp only [Act.put, List.setIfInBounds_toArray, List.set_cons_zero, List.set_cons_succ]
  refine wpDet_take (i := 5) (oi := _) (v := ?dv6) (by simp only [List.getElem?_toArray, List.getElem?_cons_zero, List.getElem?_cons_succ]; rfl) (by kernel_rfl) (by kernel_rfl) (by kernel_rfl) (Or.inl ⟨by rfl, ?dy6⟩) ?dr6
  case dy6 => (intro w hSw; go_simp; exact Came.call ((BE.out w).mono fun e w' ⟨he, hf⟩ => ⟨he, hSw.fr hf⟩) (by with_reducible rfl))
  try simp only [Act.put, List.setIfInBounds_toArray, List.set_cons_zero, List.set_cons_succ]
  refine wpDet_take (i := 6) (oi := _) (v := ?dv7) (by simp only [List.getElem?_toArray, List.getElem?_cons_zero, List.getElem?_cons_succ]; rfl) (by kernel_rfl) (by kernel_rfl) (by kernel_rfl) (Or.inl ⟨by rfl, ?dy7⟩) ?dr7
  case dy7 => (intro w hSw; have hS0 := hSw; (try dsimp only [SS] at hSw); go_simp; refine Came.value ?_ hS0; with_reducible rfl)
  try simp only [Act.put, List.setIfInBounds_toArray, List.set_cons_zero, List.set_cons_succ]
  refine wpDet_take (i := 7) (oi := _) (v := ?dv8) (by simp only [List.getElem?_toArray, List.getElem?_cons_zero, List.getElem?_cons_succ]; rfl) (by kernel_rfl) (by kernel_rfl) (by kernel_rfl) (Or.inl ⟨by rfl, ?dy8⟩) ?dr8
  case dy8 => (intro w hSw; have hS0 := hSw; (try dsimp only [SS] at hSw); go_simp; refine Came.value ?_ hS0; with_reducible rfl)
  try simp only [Act.put, List.setIfInBounds_toArray, List.set_cons_zero, List.set_cons_succ]
  refine wpDet_done (by kernel_rfl) ?_ _
  rintro w3 ⟨hF, _⟩
  have F3 := Lib.hid hF
  have T3 := Lib.hid (HT.out.fr hF)
  clear hF HS HT
  by_cases h1 : u = 0 ∧ d = 0
  · have HV : Hid (x = 0) := by show _ = _; rw [HC.out, if_pos h1]
    obtain ⟨rfl, rfl⟩ := h1
    clear HC
    go_wp2
    go_ret
    exact ⟨by rw [HV.out]; rfl, F3.out⟩
  · have HB : Hid ((((u : Int) == 0) && ((d : Int) == 0)) = false) := by
      show _ = _
      by_cases a : u = 0
      · have b : ¬ d = 0 := fun e => h1 ⟨a, e⟩
        simp [b]
      · simp [a]
    go_upto_region 2 with fail
    go_cut [13] (fun s13 wx => s13 = .bool false ∧ wx = w3)
    case first =>
      by_cases a : u = 0
      · have b : ¬ d = 0 := fun e => h1 ⟨a, e⟩
        have e1 : ((d : Int) == 0) = false := by simp [b]
        subst a
        clear h1 HB b
        go_wp2
        go_meet
        exact ⟨rfl, rfl⟩
      · have e1 : ((u : Int) == 0) = false := by simp [a]
        clear h1 HB a
        go_wp2
        go_meet
        exact ⟨rfl, rfl⟩
    case rest =>
      obtain ⟨rfl, rfl⟩ := hcut
      have HV : Hid (x = if (t : Int) ≤ l then 1 else -1) := by show _ = _; rw [HC.out, if_neg h1]
      clear HC h1 HB
      go_wp2_with fail
      with_reducible refine (TZ.out _ T3.out).mono ?_
      rintro e w4 ⟨rfl, rfl⟩
      go_wp2_with fail
      with_reducible refine (LZ.out _).mono ?_
      rintro e w4 ⟨rfl, rfl⟩
      by_cases h2 : (t : Int) ≤ l
      · have HW : Hid (x = 1) := by show _ = _; rw [HV.out, if_pos h2]
        clear HV
        go_wp2
        go_ret
        exact ⟨by rw [HW.out]; rfl, F3.out⟩
      · have HW : Hid (x = -1) := by show _ = _; rw [HV.out, if_neg h2]
        clear HV
        go_wp2
        go_ret
        exact ⟨by rw [HW.out]; rfl, F3.out⟩

theorem bitsOf_step {n : Nat} (h0 : n ≠ 0) (h : n < 18446744073709551616) : bitsOf n = (Lib.ctz 64 n : Int) :: bitsOf (n &&& (n - 1)) := by
  rw [bitsOf, bits_step h0 h, List.map_cons]; rfl
end Go.Proofs.YtdmomnhacijmpaaGreatDoor
