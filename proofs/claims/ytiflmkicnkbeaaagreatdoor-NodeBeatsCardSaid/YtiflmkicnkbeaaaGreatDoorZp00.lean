import Derived.Lib.TrailingZeros
import Derived.Lib.BitFns
import Derived.Shelf.Small.Bits
import Derived.Shelf.Strconv.Itoa0
import Derived.Test.YtiflmkicnkbeaaaGreatDoorProg
namespace Go.Proofs.YtiflmkicnkbeaaaGreatDoor
def hasB (n : Nat) (z : Int) : Bool := decide (0 ≤ z) && n.testBit z.toNat
def oneN (z : Int) : Nat := if 0 ≤ z ∧ z < 64 then 2 ^ z.toNat else 0
theorem oneN_in {z : Int} (h : 0 ≤ z) (k : z < 64) : oneN z = 2 ^ z.toNat := if_pos ⟨h, k⟩
theorem oneN_out {z : Int} (h : ¬ (0 ≤ z ∧ z < 64)) : oneN z = 0 := if_neg h
theorem two_lt {k : Nat} (h : k < 64) : 2 ^ k < 18446744073709551616 := by
 have : 2 ^ k < 2 ^ 64 := Nat.pow_lt_pow_right (by decide) h
 simpa using this
theorem oneN_lt (z : Int) : oneN z < 18446744073709551616 := by
 unfold oneN
 split
 · exact two_lt (by omega)
 · decide
theorem or_lt {a b : Nat} (ha : a < 18446744073709551616) (hb : b < 18446744073709551616) : a ||| b < 18446744073709551616 := Nat.or_lt_two_pow (n := 64) ha hb
theorem hasB_nat (n i : Nat) : hasB n (i : Int) = n.testBit i := by simp [hasB]
theorem hasB_neg {n : Nat} {z : Int} (h : z < 0) : hasB n z = false := by simp [hasB, Int.not_le.2 h]
theorem hasB_big {n : Nat} (hn : n < 18446744073709551616) {z : Int} (h : 64 ≤ z) : hasB n z = false := by
 obtain ⟨i, rfl⟩ : ∃ i : Nat, z = (i : Int) := ⟨z.toNat, by omega⟩
 rw [hasB_nat]
 exact Nat.testBit_lt_two_pow (Nat.lt_of_lt_of_le hn (by rw [show 18446744073709551616 = 2 ^ 64 from rfl]; exact Nat.pow_le_pow_right (by decide) (by omega)))
theorem hasB_range {n : Nat} (hn : n < 18446744073709551616) {z : Int} (h : hasB n z = true) : 0 ≤ z ∧ z < 64 := by
 refine ⟨?_, ?_⟩
 · refine Int.not_lt.1 fun k => ?_
   rw [hasB_neg k] at h; cases h
 · refine Int.not_le.1 fun k => ?_
   rw [hasB_big hn k] at h; cases h
theorem hasB_or (a b : Nat) (z : Int) : hasB (a ||| b) z = (hasB a z || hasB b z) := by
 unfold hasB
 rw [Nat.testBit_or]
 cases decide (0 ≤ z) <;> simp
theorem hasB_one (z y : Int) : hasB (oneN z) y = decide (y = z ∧ 0 ≤ z ∧ z < 64) := by
 by_cases h : 0 ≤ z ∧ z < 64
 · obtain ⟨i, rfl⟩ : ∃ i : Nat, z = (i : Int) := ⟨z.toNat, by omega⟩
   rw [oneN_in h.1 h.2, Int.toNat_natCast]
   by_cases hy : y < 0
   · rw [hasB_neg hy]
     exact (decide_eq_false (by omega)).symm
   · obtain ⟨j, rfl⟩ : ∃ j : Nat, y = (j : Int) := ⟨y.toNat, by omega⟩
     rw [hasB_nat, Nat.testBit_two_pow]
     exact decide_eq_decide.2 ⟨fun e => ⟨by omega, h⟩, fun e => by omega⟩
 · rw [oneN_out h]
   have : hasB 0 y = false := by simp [hasB]
   rw [this]
   exact (decide_eq_false (fun e => h e.2)).symm
theorem hasB_zero (z : Int) : hasB 0 z = false := by simp [hasB]
theorem and_one (n : Nat) (hn : n < 18446744073709551616) (z : Int) : n &&& oneN z ≠ 0 ↔ hasB n z = true := by
 by_cases h : 0 ≤ z ∧ z < 64
 · obtain ⟨i, rfl⟩ : ∃ i : Nat, z = (i : Int) := ⟨z.toNat, by omega⟩
   rw [oneN_in h.1 h.2, Int.toNat_natCast, hasB_nat]
   have B : ∀ j, (n &&& 2 ^ i).testBit j = (n.testBit j && decide (i = j)) := fun j => by rw [Nat.testBit_and, Nat.testBit_two_pow]
   constructor
   · intro e
     obtain ⟨j, hj⟩ := Nat.exists_testBit_of_ne_zero e
     rw [B] at hj
     simp only [Bool.and_eq_true, decide_eq_true_eq] at hj
     obtain ⟨a, rfl⟩ := hj
     exact a
   · intro e c
     have := B i
     rw [c, Nat.zero_testBit, e] at this
     simp at this
 · rw [oneN_out h, Nat.and_zero]
   refine ⟨fun e => absurd rfl e, fun e => absurd (hasB_range hn e) h⟩
theorem ext_hasB {a b : Nat} (h : ∀ z : Int, hasB a z = hasB b z) : a = b := Nat.eq_of_testBit_eq fun i => by rw [← hasB_nat, ← hasB_nat]; exact h i
def upN (n : Nat) (c : Int) : Nat := n / 2 ^ (c + 1).toNat
def dnN (n : Nat) (c : Int) : Nat := n * 2 ^ (64 - c).toNat % 18446744073709551616
theorem upN_lt {n : Nat} (hn : n < 18446744073709551616) (c : Int) : upN n c < 18446744073709551616 := Nat.lt_of_le_of_lt (Nat.div_le_self _ _) hn
theorem dnN_lt (n : Nat) (c : Int) : dnN n c < 18446744073709551616 := Nat.mod_lt _ (by decide)
theorem upN_bit {n : Nat} {c : Int} (hc : -1 ≤ c) (j : Nat) : (upN n c).testBit j = hasB n (c + 1 + j) := by
 obtain ⟨i, hi⟩ : ∃ i : Nat, c + 1 = (i : Int) := ⟨(c + 1).toNat, by omega⟩
 rw [upN, hi, Int.toNat_natCast, Nat.testBit_div_two_pow, show (i : Int) + (j : Int) = ((j + i : Nat) : Int) by omega, hasB_nat]
theorem dnN_bit {n : Nat} {c : Int} (hc : c ≤ 64) (j : Nat) : (dnN n c).testBit j = (decide (j < 64) && hasB n (c - 64 + j)) := by
 obtain ⟨i, hi⟩ : ∃ i : Nat, 64 - c = (i : Int) := ⟨(64 - c).toNat, by omega⟩
 rw [dnN, hi, Int.toNat_natCast, show 18446744073709551616 = 2 ^ 64 from rfl, Nat.testBit_mod_two_pow, Nat.testBit_mul_two_pow]
 congr 1
 by_cases h : i ≤ j
 · rw [show c - 64 + (j : Int) = ((j - i : Nat) : Int) by omega, hasB_nat]
   simp [h]
 · rw [hasB_neg (by omega)]
   simp [h]
theorem upN_some {n : Nat} {c : Int} (hc : -1 ≤ c) : upN n c ≠ 0 ↔ ∃ z, c < z ∧ hasB n z = true := by
 constructor
 · intro h
   obtain ⟨j, hj⟩ := Nat.exists_testBit_of_ne_zero h
   rw [upN_bit hc] at hj
   exact ⟨_, by omega, hj⟩
 · rintro ⟨z, hz, hb⟩ h
   have := upN_bit (n := n) hc (z - c - 1).toNat
   rw [h, Nat.zero_testBit, show c + 1 + ((z - c - 1).toNat : Int) = z by omega, hb] at this
   cases this
theorem dnN_some {n : Nat} {c : Int} (hc : c ≤ 64) : dnN n c ≠ 0 ↔ ∃ z, z < c ∧ hasB n z = true := by
 constructor
 · intro h
   obtain ⟨j, hj⟩ := Nat.exists_testBit_of_ne_zero h
   rw [dnN_bit hc] at hj
   simp only [Bool.and_eq_true, decide_eq_true_eq] at hj
   exact ⟨_, by omega, hj.2⟩
 · rintro ⟨z, hz, hb⟩ h
   have h0 : 0 ≤ z := by
    refine Int.not_lt.1 fun k => ?_
    rw [hasB_neg k] at hb; cases hb
   have := dnN_bit (n := n) hc (z - c + 64).toNat
   rw [h, Nat.zero_testBit, show c - 64 + ((z - c + 64).toNat : Int) = z by omega, hb] at this
   simp at this
   omega
theorem ctz_spec {u : Nat} (h0 : u ≠ 0) (h : u < 18446744073709551616) : u.testBit (Lib.ctz 64 u) = true ∧ (∀ j < Lib.ctz 64 u, u.testBit j = false) ∧ Lib.ctz 64 u < 64 := by
 obtain ⟨m, hm, hk⟩ := Lib.ctzFrom_spec 64 u (by omega) h
 have e : Lib.ctz 64 u = Lib.ctzFrom 64 u := by simp [Lib.ctz, h0]
 rw [e]
 generalize Lib.ctzFrom 64 u = k at *
 refine ⟨?_, fun j hj => ?_, hk⟩
 · rw [hm, Nat.mul_comm, Nat.testBit_mul_two_pow]
   simp
 · rw [hm, Nat.mul_comm, Nat.testBit_mul_two_pow]
   simp
   omega
theorem bitLen_zero : Lib.bitLen 0 = 0 := by decide
theorem bitLenAux_spec : ∀ (f x : Nat), x ≠ 0 → x < 2 ^ f → ∃ k, Lib.bitLenAux f x = k + 1 ∧ 2 ^ k ≤ x ∧ x < 2 ^ (k + 1)
 | 0, x, h0, h => by simp at h; omega
 | f + 1, x, h0, h => by
   rw [Lib.bitLenAux, if_neg h0]
   by_cases h1 : x / 2 = 0
   · rw [h1]
     refine ⟨0, ?_, by omega, by omega⟩
     cases f <;> simp [Lib.bitLenAux]
   · obtain ⟨k, e, a, b⟩ := bitLenAux_spec f (x / 2) h1 (by rw [Nat.pow_succ] at h; omega)
     exact ⟨k + 1, by rw [e]; omega, by rw [Nat.pow_succ]; omega, by rw [Nat.pow_succ]; omega⟩
theorem bitLen_spec {d : Nat} (h0 : d ≠ 0) (h : d < 18446744073709551616) : ∃ k, k < 64 ∧ Lib.bitLen d = k + 1 ∧ d.testBit k = true ∧ ∀ j, k < j → d.testBit j = false := by
 obtain ⟨k, e, a, b⟩ := bitLenAux_spec 64 d h0 h
 have hk : k < 64 := by
  refine Nat.not_le.1 fun c => ?_
  have : 2 ^ 64 ≤ 2 ^ k := Nat.pow_le_pow_right (by decide) c
  omega
 refine ⟨k, hk, e, ?_, fun j hj => ?_⟩
 · rw [Nat.testBit_eq_decide_div_mod_eq]
   have : d / 2 ^ k = 1 := by
    rw [Nat.pow_succ] at b
    exact Nat.div_eq_of_lt_le (by omega) (by omega)
   rw [this]; rfl
 · exact Nat.testBit_lt_two_pow (Nat.lt_of_lt_of_le b (Nat.pow_le_pow_right (by decide) hj))
def NearIs (n : Nat) (c x : Int) : Prop :=
 (x = 0 ∧ ∀ k : Int, 0 < k → hasB n (c + k) = false ∧ hasB n (c - k) = false) ∨
 (x = 1 ∧ ∃ k : Int, 0 < k ∧ hasB n (c + k) = true ∧ ∀ j : Int, 0 < j → j < k → hasB n (c - j) = false) ∨
 (x = -1 ∧ ∃ k : Int, 0 < k ∧ hasB n (c - k) = true ∧ ∀ j : Int, 0 < j → j ≤ k → hasB n (c + j) = false)
theorem NearIs.unique {n : Nat} {c x y : Int} (h : NearIs n c x) (k : NearIs n c y) : x = y := by
 rcases h with ⟨rfl, h⟩ | ⟨rfl, i, hi, hb, hj⟩ | ⟨rfl, i, hi, hb, hj⟩ <;> rcases k with ⟨rfl, k⟩ | ⟨rfl, i', hi', hb', hj'⟩ | ⟨rfl, i', hi', hb', hj'⟩
 · rfl
 · rw [(h i' hi').1] at hb'; cases hb'
 · rw [(h i' hi').2] at hb'; cases hb'
 · rw [(k i hi).1] at hb; cases hb
 · rfl
 · by_cases hc : i ≤ i'
   · rw [hj' i hi hc] at hb; cases hb
   · rw [hj i' hi' (by omega)] at hb'; cases hb'
 · rw [(k i hi).2] at hb; cases hb
 · by_cases hc : i' ≤ i
   · rw [hj i' hi' hc] at hb'; cases hb'
   · rw [hj' i hi (by omega)] at hb; cases hb
 · rfl
theorem NearIs.small {n : Nat} {c x : Int} (h : NearIs n c x) : x = 0 ∨ x = 1 ∨ x = -1 := by
 rcases h with ⟨h, _⟩ | ⟨h, _⟩ | ⟨h, _⟩ <;> simp [h]
def nearC (u d : Nat) : Int := if u = 0 ∧ d = 0 then 0 else if Lib.ctz 64 u ≤ 64 - Lib.bitLen d then 1 else -1
theorem near_code {n : Nat} {c : Int} (hn : n < 18446744073709551616) (h0 : -1 ≤ c) (h1 : c ≤ 64) : NearIs n c (nearC (upN n c) (dnN n c)) := by
 have U := fun j : Nat => upN_bit (n := n) h0 j
 have D := fun j : Nat => dnN_bit (n := n) h1 j
 have hu := upN_lt hn c
 have hd := dnN_lt n c
 generalize upN n c = u at *
 generalize dnN n c = d at *
 have UP : ∀ k : Int, 0 < k → hasB n (c + k) = u.testBit (k - 1).toNat := fun k hk => by rw [U, show c + 1 + ((k - 1).toNat : Int) = c + k by omega]
 have DN : ∀ k : Int, 0 < k → k ≤ 64 → hasB n (c - k) = d.testBit (64 - k).toNat := fun k hk hk2 => by
  rw [D, decide_eq_true (by omega), Bool.true_and, show c - 64 + ((64 - k).toNat : Int) = c - k by omega]
 have DF : ∀ k : Int, 64 < k → hasB n (c - k) = false := fun k hk => hasB_neg (by omega)
 unfold nearC
 split
 · rename_i h
   refine Or.inl ⟨rfl, fun k hk => ⟨by rw [UP k hk, h.1, Nat.zero_testBit], ?_⟩⟩
   by_cases h64 : k ≤ 64
   · rw [DN k hk h64, h.2, Nat.zero_testBit]
   · exact DF k (by omega)
 · rename_i hz
   split
   · rename_i hle
     have hu0 : u ≠ 0 := by
      rintro rfl
      have hd0 : d ≠ 0 := fun e => hz ⟨rfl, e⟩
      obtain ⟨k, _, e, _⟩ := bitLen_spec hd0 hd
      simp [Lib.ctz, e] at hle
      omega
     obtain ⟨t1, t2, t3⟩ := ctz_spec hu0 hu
     refine Or.inr (Or.inl ⟨rfl, (Lib.ctz 64 u : Int) + 1, by omega, ?_, fun j hj hj2 => ?_⟩)
     · rw [UP _ (by omega), show ((Lib.ctz 64 u : Int) + 1 - 1).toNat = Lib.ctz 64 u by omega]; exact t1
     · rw [DN j hj (by omega)]
       by_cases hd0 : d = 0
       · rw [hd0, Nat.zero_testBit]
       · obtain ⟨k, hk, e, b1, b2⟩ := bitLen_spec hd0 hd
         rw [e] at hle
         exact b2 _ (by omega)
   · rename_i hgt
     have hd0 : d ≠ 0 := by
      rintro rfl
      rw [bitLen_zero] at hgt
      by_cases hu0 : u = 0
      · exact hz ⟨hu0, rfl⟩
      · have := (ctz_spec hu0 hu).2.2
        omega
     obtain ⟨k, hk, e, b1, b2⟩ := bitLen_spec hd0 hd
     rw [e] at hgt
     refine Or.inr (Or.inr ⟨rfl, 64 - (k : Int), by omega, ?_, fun j hj hj2 => ?_⟩)
     · rw [DN _ (by omega) (by omega), show (64 - (64 - (k : Int))).toNat = k by omega]; exact b1
     · rw [UP j hj]
       by_cases hu0 : u = 0
       · rw [hu0, Nat.zero_testBit]
       · exact (ctz_spec hu0 hu).2.1 _ (by omega)
theorem near_cut {n : Nat} {f c : Int} (hn : n < 18446744073709551616) (hc : c = min (max f (-1)) 64) (z : Int) (hz : hasB n z = true) : (f < z ↔ c < z) ∧ (z < f ↔ z < c) := by
 have := hasB_range hn hz
 omega
def bitsN (n : Nat) : List Nat := (List.range 64).filter n.testBit
def bitsOf (n : Nat) : List Int := (bitsN n).map fun i : Nat => (i : Int)
theorem range_cut (k : Nat) (h : k < 64) : List.range 64 = List.range k ++ k :: (List.range (63 - k)).map (· + (k + 1)) := by
 have e : 64 = k + (1 + (63 - k)) := by omega
 conv => lhs; rw [e]
 rw [List.range_add, Nat.add_comm 1, List.range_succ_eq_map]
 simp only [List.map_cons, List.map_map, Nat.add_zero]
 congr 2
 apply List.map_congr_left
 intro i _
 simp
 omega
end Go.Proofs.YtiflmkicnkbeaaaGreatDoor
namespace Go.Proofs.YtiflmkicnkbeaaaGreatDoor
open Go.Shelf
def Tryz.lays134_ren : Go.Shelf.Ren := ⟨fun | 134 => 378 | 129 => 292 | n => n, fun | 53 => 212 | 3 => 3 | 4 => 4 | 46 => 243 | 5 => 5 | 9 => 9 | n => n, fun | n => n⟩
theorem Tryz.lays134 : Go.Proofs.Lays.n134 Tryz.prog Tryz.lays134_ren := {
 mixed := by kernel_rfl
 f129 := Tryz.func292.trans (congrArg some (by kernel_rfl))
 f134 := Tryz.func378.trans (congrArg some (by kernel_rfl))
 t3 := Tryz.underlying3
 a3 := Tryz.isAgg3
 z3 := Tryz.sizeOf3
 v3 := Tryz.zeroValue3
 t4 := Tryz.underlying4
 a4 := Tryz.isAgg4
 z4 := Tryz.sizeOf4
 v4 := Tryz.zeroValue4
 t5 := Tryz.underlying5
 a5 := Tryz.isAgg5
 z5 := Tryz.sizeOf5
 v5 := Tryz.zeroValue5
 t9 := Tryz.underlying9
 a9 := Tryz.isAgg9
 z9 := Tryz.sizeOf9
 v9 := Tryz.zeroValue9
 t46 := Tryz.underlying243
 a46 := Tryz.isAgg243
 z46 := Tryz.sizeOf243
 v46 := Tryz.zeroValue243
 t53 := Tryz.underlying212
 a53 := Tryz.isAgg212
 z53 := Tryz.sizeOf212
 v53 := Tryz.zeroValue212 }
theorem Tryz.bits_LeadingZeros64 (x : Int) (w : World) (h0 : 0 ≤ x) (h1 : x ≤ 18446744073709551615) :
 Calls Tryz.prog 378 #[.int .u64 x] w fun e w' => e = .returned (.int .i64 (64 - (Lib.bitLen x.toNat : Int))) ∧ w' = w := Any.bits_LeadingZeros64 Tryz.lays134 x w h0 h1
end Go.Proofs.YtiflmkicnkbeaaaGreatDoor
