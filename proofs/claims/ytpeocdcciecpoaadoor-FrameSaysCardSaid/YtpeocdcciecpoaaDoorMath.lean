/- The plain mathematics of the wire's numbers: the zig-zag, its bytes, and back. No program. -/
import Derived.WalkKit
import Derived.Lib.VarintBits
import Derived.Lib.Zigzag
import Derived.Laws.Bits64b
namespace Go.Proofs.YtpeocdcciecpoaaDoor
namespace Wm
open Go.RowKit

def zz (n : Int) : Nat := if 0 ≤ n then (2 * n).toNat else (-2 * n - 1).toNat
def unzz (u : Nat) : Int := if u % 2 = 0 then ((u / 2 : Nat) : Int) else -((u / 2 : Nat) : Int) - 1

theorem zz_lt {n : Int} (h0 : -9223372036854775808 ≤ n) (h1 : n ≤ 9223372036854775807) : zz n < 18446744073709551616 := by
  unfold zz; split <;> omega
theorem unzz_zz (n : Int) : unzz (zz n) = n := by
  unfold zz unzz; split <;> split <;> omega
theorem unzz_range (u : Nat) (h : u < 18446744073709551616) : -9223372036854775808 ≤ unzz u ∧ unzz u ≤ 9223372036854775807 := by
  unfold unzz; split <;> omega

theorem bits_xor_comm (a b : Int) : bits .xor .i64 a b = bits .xor .i64 b a := by
  show IntKind.i64.wrap ((BitVec.ofInt 64 a ^^^ BitVec.ofInt 64 b).toNat : Int) = IntKind.i64.wrap ((BitVec.ofInt 64 b ^^^ BitVec.ofInt 64 a).toNat : Int)
  rw [BitVec.xor_comm]

theorem zz_walk (n : Int) (h0 : -9223372036854775808 ≤ n) (h1 : n ≤ 9223372036854775807) :
    bits .xor .u64 (IntKind.u64.wrap (IntKind.u64.wrap n * 2)) (IntKind.u64.wrap (n / 9223372036854775808)) = (zz n : Int) := by
  by_cases h : 0 ≤ n
  · have e1 : IntKind.u64.wrap (IntKind.u64.wrap n * 2) = ((zz n : Nat) : Int) := by
      rw [IntKind.wrap_u64, IntKind.wrap_u64]; unfold zz; rw [if_pos h]; omega
    have e2 : IntKind.u64.wrap (n / 9223372036854775808) = ((0 : Nat) : Int) := by
      rw [IntKind.wrap_u64]; omega
    rw [e1, e2, bits_xor_u64_nat _ _ (zz_lt h0 h1) (by decide), Nat.xor_zero]
  · have e1 : IntKind.u64.wrap (IntKind.u64.wrap n * 2) = (((2 * n + 18446744073709551616).toNat : Nat) : Int) := by
      rw [IntKind.wrap_u64, IntKind.wrap_u64]; omega
    have e2 : IntKind.u64.wrap (n / 9223372036854775808) = ((2 ^ 64 - 1 : Nat) : Int) := by
      rw [IntKind.wrap_u64]; omega
    rw [e1, e2, bits_xor_u64_nat _ _ (by omega) (by decide), Nat.xor_comm, Lib.xor_ones64 _ (by omega)]
    unfold zz; rw [if_neg h]; omega

theorem xor_zero_i64 (x : Int) (h0 : 0 ≤ x) (h1 : x < 9223372036854775808) : bits .xor .i64 x 0 = x := by
  obtain ⟨m, rfl⟩ := Int.eq_ofNat_of_zero_le h0
  show IntKind.i64.wrap ((BitVec.ofInt 64 (m : Int) ^^^ BitVec.ofInt 64 0).toNat : Int) = _
  have h2 : (BitVec.ofInt 64 (m : Int)).toNat = m := by
    rw [BitVec.ofInt_natCast, BitVec.toNat_ofNat]; exact Nat.mod_eq_of_lt (by omega)
  have h3 : (BitVec.ofInt 64 0).toNat = 0 := by decide
  rw [BitVec.toNat_xor, h2, h3, Nat.xor_zero, IntKind.wrap_i64]
  omega

theorem unzz_walk (u : Nat) (h : u < 18446744073709551616) :
    bits .xor .i64 ((u : Int) / 2) (wrap64 (-wrap64 (bits .and .u64 (u : Int) 1))) = unzz u := by
  rw [Lib.u64_and1 _ (by omega) (by omega)]
  unfold unzz
  by_cases h2 : u % 2 = 0
  · rw [if_pos h2]
    have e : wrap64 (-wrap64 ((u : Int) % 2)) = 0 := by
      unfold wrap64; omega
    rw [e, xor_zero_i64 _ (by omega) (by omega)]; omega
  · rw [if_neg h2]
    have e : wrap64 (-wrap64 ((u : Int) % 2)) = -1 := by
      unfold wrap64; omega
    rw [e, bits_xor_comm]
    have := Lib.i64_not (u / 2) (by omega)
    rw [show (((u : Int) / 2)) = ((u / 2 : Nat) : Int) by omega]
    exact this

theorem or128 (y : Nat) (h : y < 256) : bits .or .u8 (y : Int) 128 = ((y % 128 + 128 : Nat) : Int) := by
  have h1 := (bits_nat .u8 8 (by decide) wraps_u8 y 128 (by omega) (by decide)).2
  have h2 : ∀ z < 256, z ||| 128 = z % 128 + 128 := by decide +kernel
  rw [h2 y h] at h1
  exact h1
theorem or128x (x : Nat) : bits .or .u8 ((x : Int) % 256) 128 = ((x % 128 + 128 : Nat) : Int) := by
  have h := or128 (x % 256) (by omega)
  rw [show ((x % 256 : Nat) : Int) = (x : Int) % 256 by omega] at h
  rw [h]; congr 1; omega

theorem or128ref (x : Nat) (h : x < 18446744073709551616) : bits .or .u64 (bits .and .u64 (x : Int) 127) 128 % 256 = ((x % 128 + 128 : Nat) : Int) := by
  have h1 : bits .and .u64 (x : Int) 127 = ((x % 128 : Nat) : Int) := by
    have := bits_and_u64_nat x 127 h (by decide)
    rw [show x &&& 127 = x % 128 from Nat.and_two_pow_sub_one_eq_mod x 7] at this
    exact this
  have h2 := bits_or_u64_nat (x % 128) 128 (by omega) (by decide)
  have h3 : ∀ z < 128, z ||| 128 = z + 128 := by decide +kernel
  rw [h3 _ (Nat.mod_lt _ (by decide))] at h2
  have h4 : bits .or .u64 ((x % 128 : Nat) : Int) 128 = ((x % 128 + 128 : Nat) : Int) := h2
  rw [h1, h4]; omega

/-- A number's bytes: seven bits a byte, the lowest first, 128 added to all but the last; 'f': how many bytes there may still be behind. -/
def encF : Nat → Nat → List Int
  | 0, u => [(u : Int)]
  | f + 1, u => if u < 128 then [(u : Int)] else ((u % 128 + 128 : Nat) : Int) :: encF f (u / 128)
def enc (n : Int) : List Int := encF 9 (zz n)

theorem encF_len : ∀ f u, 1 ≤ (encF f u).length ∧ (encF f u).length ≤ f + 1
  | 0, u => by simp [encF]
  | f + 1, u => by
    unfold encF; split
    · simp
    · have := encF_len f (u / 128); simp; omega
theorem enc_len (n : Int) : 1 ≤ (enc n).length ∧ (enc n).length ≤ 10 := encF_len 9 _

theorem enc_step {j x : Nat} {pre E : List Int} (hj : j ≤ 9) (hx : x * 2 ^ (7 * j) < 18446744073709551616) (h : 128 ≤ x) (he : pre ++ encF (9 - j) x = E) :
    j + 1 ≤ 9 ∧ x / 128 * 2 ^ (7 * (j + 1)) < 18446744073709551616 ∧ (pre ++ [((x % 128 + 128 : Nat) : Int)]) ++ encF (9 - (j + 1)) (x / 128) = E := by
  have h9 : j ≠ 9 := by
    rintro rfl
    rw [show (2 : Nat) ^ (7 * 9) = 9223372036854775808 by decide] at hx; omega
  refine ⟨by omega, ?_, ?_⟩
  · have hp : (2 : Nat) ^ (7 * (j + 1)) = 128 * 2 ^ (7 * j) := by rw [show 7 * (j + 1) = 7 + 7 * j by omega, Nat.pow_add]
    have hm : x / 128 * 2 ^ (7 * (j + 1)) + x % 128 * 2 ^ (7 * j) = x * 2 ^ (7 * j) := by
      rw [hp, ← Nat.mul_assoc, ← Nat.add_mul]; congr 1; omega
    omega
  · rw [← he, show 9 - j = (9 - (j + 1)) + 1 by omega]
    show _ = pre ++ (if x < 128 then _ else _)
    rw [if_neg (by omega)]
    simp
theorem enc_stop {j x : Nat} {pre E : List Int} (h : x < 128) (he : pre ++ encF (9 - j) x = E) : pre ++ [(x : Int)] = E := by
  rw [← he]
  cases 9 - j with
  | zero => rfl
  | succ f => show _ = pre ++ (if x < 128 then _ else _); rw [if_pos h]

/-- What is read at the beginning of bytes: the number, how many bytes, the error (0 none, 1 the end, 2 the shape). -/
def numF (i u : Nat) : List Int → Int × Nat × Nat
  | [] => (0, 0, 1)
  | x :: xs =>
    if i = 9 ∧ 1 < x ∨ 0 < i ∧ x = 0 then (0, 0, 2)
    else if x < 128 then (unzz (u + (x % 128).toNat * 2 ^ (7 * i)), i + 1, 0)
    else numF (i + 1) (u + (x % 128).toNat * 2 ^ (7 * i)) xs

theorem pow_step (i : Nat) : (2 : Nat) ^ (7 * (i + 1)) = 128 * 2 ^ (7 * i) := by
  rw [show 7 * (i + 1) = 7 + 7 * i by omega, Nat.pow_add]

/-- What was put is read, whatever is behind. -/
theorem numF_encF : ∀ (f i u v : Nat) (rest : List Int), i + f = 9 → v * 2 ^ (7 * i) < 18446744073709551616 → (0 < i → v ≠ 0) →
    numF i u (encF f v ++ rest) = (unzz (u + v * 2 ^ (7 * i)), i + (encF f v).length, 0)
  | 0, i, u, v, rest, hf, hv, h0 => by
    obtain rfl : i = 9 := by omega
    have : v < 2 := by
      rw [show (2 : Nat) ^ (7 * 9) = 9223372036854775808 by decide] at hv; omega
    have e : ((v : Int) % 128).toNat = v := by omega
    simp only [encF, List.cons_append, List.nil_append, numF]
    rw [if_neg (by omega), if_pos (by omega), e]; simp
  | f + 1, i, u, v, rest, hf, hv, h0 => by
    unfold encF
    by_cases h : v < 128
    · have e : ((v : Int) % 128).toNat = v := by omega
      rw [if_pos h]
      simp only [List.cons_append, List.nil_append, numF]
      rw [if_neg (by omega), if_pos (by omega), e]; simp
    · rw [if_neg h]
      simp only [List.cons_append, numF]
      have e : (((v % 128 + 128 : Nat) : Int) % 128).toNat = v % 128 := by omega
      rw [if_neg (by omega), if_neg (by omega), e]
      have hp := pow_step i
      have hm : v / 128 * 2 ^ (7 * (i + 1)) + v % 128 * 2 ^ (7 * i) = v * 2 ^ (7 * i) := by
        rw [hp, ← Nat.mul_assoc, ← Nat.add_mul]; congr 1; omega
      rw [numF_encF f (i + 1) _ (v / 128) rest (by omega) (by omega) (by omega)]
      simp only [List.length_cons]
      rw [show u + v % 128 * 2 ^ (7 * i) + v / 128 * 2 ^ (7 * (i + 1)) = u + v * 2 ^ (7 * i) by omega]
      refine Prod.ext rfl (Prod.ext ?_ rfl)
      show i + 1 + (encF f (v / 128)).length = i + ((encF f (v / 128)).length + 1)
      omega

theorem num_enc (n : Int) (h0 : -9223372036854775808 ≤ n) (h1 : n ≤ 9223372036854775807) (rest : List Int) : numF 0 0 (enc n ++ rest) = (n, (enc n).length, 0) := by
  unfold enc
  rw [numF_encF 9 0 0 _ rest rfl (by have := zz_lt h0 h1; simpa using this) (by omega)]
  simp [unzz_zz]

/-- Cut off anywhere it ends there. -/
theorem numF_cut : ∀ (f i u v k : Nat), i + f = 9 → v * 2 ^ (7 * i) < 18446744073709551616 → (0 < i → v ≠ 0) → k < (encF f v).length →
    numF i u ((encF f v).take k) = (0, 0, 1)
  | 0, i, u, v, k, hf, hv, h0, hk => by
    obtain rfl : k = 0 := by simp [encF] at hk; omega
    simp [numF]
  | f + 1, i, u, v, k, hf, hv, h0, hk => by
    unfold encF at hk ⊢
    by_cases h : v < 128
    · rw [if_pos h] at hk ⊢
      obtain rfl : k = 0 := by simp at hk; omega
      simp [numF]
    · rw [if_neg h] at hk ⊢
      match k with
      | 0 => simp [numF]
      | k + 1 =>
        simp only [List.take_succ_cons, numF]
        have hp := pow_step i
        have hm : v / 128 * 2 ^ (7 * (i + 1)) + v % 128 * 2 ^ (7 * i) = v * 2 ^ (7 * i) := by
          rw [hp, ← Nat.mul_assoc, ← Nat.add_mul]; congr 1; omega
        rw [if_neg (by omega), if_neg (by omega)]
        exact numF_cut f (i + 1) _ (v / 128) k (by omega) (by omega) (by omega) (by simpa using hk)
theorem num_cut (n : Int) (h0 : -9223372036854775808 ≤ n) (h1 : n ≤ 9223372036854775807) (k : Nat) (hk : k < (enc n).length) : numF 0 0 ((enc n).take k) = (0, 0, 1) :=
  numF_cut 9 0 0 _ k rfl (by have := zz_lt h0 h1; simpa using this) (by omega) hk

/-- The bytes of a number with 128 added to the last, and a 0 behind. -/
def longer : List Int → List Int
  | [] => []
  | [x] => [if x < 128 then x + 128 else x]
  | x :: xs => x :: longer xs

theorem encF_ne (f v : Nat) : encF f v ≠ [] := by
  intro h; have := (encF_len f v).1; rw [h] at this; simp at this

theorem numF_longer : ∀ (f i u v : Nat), i + f = 9 → v * 2 ^ (7 * i) < 18446744073709551616 → (0 < i → v ≠ 0) →
    numF i u (longer (encF f v) ++ [0]) = (0, 0, 2)
  | 0, i, u, v, hf, hv, h0 => by
    obtain rfl : i = 9 := by omega
    have : v < 2 := by
      rw [show (2 : Nat) ^ (7 * 9) = 9223372036854775808 by decide] at hv; omega
    simp only [encF, longer, List.cons_append, List.nil_append, numF]
    rw [if_pos (by left; refine ⟨trivial, ?_⟩; split <;> omega)]
  | f + 1, i, u, v, hf, hv, h0 => by
    unfold encF
    by_cases h : v < 128
    · rw [if_pos h]
      simp only [longer, List.cons_append, List.nil_append, numF]
      rw [if_pos (show (v : Int) < 128 by omega), if_neg (show ¬ (i = 9 ∧ 1 < (v : Int) + 128 ∨ 0 < i ∧ (v : Int) + 128 = 0) by omega), if_neg (show ¬ (v : Int) + 128 < 128 by omega)]
      simp
    · rw [if_neg h]
      have hl : longer (((v % 128 + 128 : Nat) : Int) :: encF f (v / 128)) = ((v % 128 + 128 : Nat) : Int) :: longer (encF f (v / 128)) := by
        cases hx : encF f (v / 128) with
        | nil => exact absurd hx (encF_ne _ _)
        | cons a l => rfl
      rw [hl]
      simp only [List.cons_append, numF]
      have hp := pow_step i
      have hm : v / 128 * 2 ^ (7 * (i + 1)) + v % 128 * 2 ^ (7 * i) = v * 2 ^ (7 * i) := by
        rw [hp, ← Nat.mul_assoc, ← Nat.add_mul]; congr 1; omega
      rw [if_neg (by omega), if_neg (by omega)]
      exact numF_longer f (i + 1) _ (v / 128) (by omega) (by omega) (by omega)
theorem num_longer (n : Int) (h0 : -9223372036854775808 ≤ n) (h1 : n ≤ 9223372036854775807) : numF 0 0 (longer (enc n) ++ [0]) = (0, 0, 2) :=
  numF_longer 9 0 0 _ rfl (by have := zz_lt h0 h1; simpa using this) (by omega)

/-- The forms of unlike numbers: neither begins the other. -/
theorem enc_apart (a b : Int) (ha0 : -9223372036854775808 ≤ a) (ha1 : a ≤ 9223372036854775807) (hb0 : -9223372036854775808 ≤ b) (hb1 : b ≤ 9223372036854775807)
    (h : (enc b).take (enc a).length = enc a) : a = b := by
  have e : enc b = enc a ++ (enc b).drop (enc a).length := by
    conv => lhs; rw [← List.take_append_drop (enc a).length (enc b)]
    rw [h]
  have h1 := num_enc b hb0 hb1 []
  rw [List.append_nil, e, num_enc a ha0 ha1] at h1
  exact congrArg Prod.fst h1

/-- All are bytes. -/
def Byte (l : List Int) : Prop := ∀ x ∈ l, 0 ≤ x ∧ x ≤ 255
theorem encF_byte : ∀ (f i v : Nat), i + f = 9 → v * 2 ^ (7 * i) < 18446744073709551616 → Byte (encF f v)
  | 0, i, v, hf, hv => by
    obtain rfl : i = 9 := by omega
    rw [show (2 : Nat) ^ (7 * 9) = 9223372036854775808 by decide] at hv
    intro x hx; simp [encF] at hx; omega
  | f + 1, i, v, hf, hv => by
    unfold encF; split
    · intro x hx; simp at hx; omega
    · have hp := pow_step i
      have hm : v / 128 * 2 ^ (7 * (i + 1)) + v % 128 * 2 ^ (7 * i) = v * 2 ^ (7 * i) := by
        rw [hp, ← Nat.mul_assoc, ← Nat.add_mul]; congr 1; omega
      intro x hx
      rcases List.mem_cons.1 hx with rfl | hx
      · omega
      · exact encF_byte f (i + 1) (v / 128) (by omega) (by omega) x hx
theorem enc_byte (n : Int) (h0 : -9223372036854775808 ≤ n) (h1 : n ≤ 9223372036854775807) : Byte (enc n) :=
  encF_byte 9 0 _ rfl (by have := zz_lt h0 h1; simpa using this)

/-- 'u | uint64(x & 127) << (7 * i)' is a sum. -/
theorem or_walk (i u y : Nat) (hi : i ≤ 9) (hu : u < 2 ^ (7 * i)) (hy : y < 128) (h9 : i = 9 → y ≤ 1) :
    bits .or .u64 (u : Int) (((y * 2 ^ (7 * i) : Nat)) : Int) = ((u + y * 2 ^ (7 * i) : Nat) : Int) := by
  have hb : y * 2 ^ (7 * i) < 18446744073709551616 := by
    have hs : i = 0 ∨ i = 1 ∨ i = 2 ∨ i = 3 ∨ i = 4 ∨ i = 5 ∨ i = 6 ∨ i = 7 ∨ i = 8 ∨ i = 9 := by omega
    rcases hs with rfl | rfl | rfl | rfl | rfl | rfl | rfl | rfl | rfl | rfl <;> omega
  have hu' : u < 18446744073709551616 := Nat.lt_of_lt_of_le hu (by
    have := Nat.pow_le_pow_right (show 0 < 2 by decide) (show 7 * i ≤ 64 by omega)
    exact Nat.le_trans this (by decide))
  rw [bits_or_u64_nat _ _ hu' hb]
  congr 1
  rw [Nat.or_comm, ← Nat.shiftLeft_eq, ← Nat.shiftLeft_add_eq_or_of_lt hu]
  omega
theorem or_small (k U : Nat) (x : Int) (hk : k ≤ 9) (hU : U < 2 ^ (7 * k)) (h0 : 0 ≤ x) (h1 : x ≤ 255) (h9 : k = 9 → x ≤ 1) :
    U + (x % 128).toNat * 2 ^ (7 * k) < 2 ^ (7 * (k + 1)) ∧ U + (x % 128).toNat * 2 ^ (7 * k) < 18446744073709551616 := by
  have hs : k = 0 ∨ k = 1 ∨ k = 2 ∨ k = 3 ∨ k = 4 ∨ k = 5 ∨ k = 6 ∨ k = 7 ∨ k = 8 ∨ k = 9 := by omega
  rcases hs with rfl | rfl | rfl | rfl | rfl | rfl | rfl | rfl | rfl | rfl <;> omega
/-- What a reader's Num answers at place k: the number, the place behind, the error (0 none, 1 the end, 2 the shape, 3 the range). -/
def numS (l : List Int) (k : Nat) (low high : Int) : Int × Nat × Nat :=
  if (numF 0 0 (l.drop k)).2.2 ≠ 0 then (0, k, (numF 0 0 (l.drop k)).2.2)
  else if (numF 0 0 (l.drop k)).1 < low ∨ high < (numF 0 0 (l.drop k)).1 then (0, k, 3)
  else ((numF 0 0 (l.drop k)).1, k + (numF 0 0 (l.drop k)).2.1, 0)
theorem numF_size : ∀ (l : List Int) (i u : Nat), (numF i u l).2.2 = 0 → i < (numF i u l).2.1 ∧ (numF i u l).2.1 ≤ i + l.length
  | [], i, u, h => by simp [numF] at h
  | x :: xs, i, u, h => by
    unfold numF at h ⊢
    split at h
    · simp at h
    · rename_i h1
      rw [if_neg h1]
      split at h
      · rename_i h2; rw [if_pos h2]; simp
      · rename_i h2
        rw [if_neg h2]
        have := numF_size xs (i + 1) _ h
        simp only [List.length_cons]; omega
theorem numF_code : ∀ (l : List Int) (i u : Nat), (numF i u l).2.2 ≤ 2
  | [], i, u => by simp [numF]
  | x :: xs, i, u => by
    unfold numF; split
    · simp
    · split
      · simp
      · exact numF_code xs _ _
theorem numF_range : ∀ (l : List Int) (i u : Nat), i ≤ 9 → u < 2 ^ (7 * i) → Byte l → -9223372036854775808 ≤ (numF i u l).1 ∧ (numF i u l).1 ≤ 9223372036854775807
  | [], i, u, _, _, _ => by simp [numF]
  | x :: xs, i, u, hi, hu, hb => by
    have hx := hb x (by simp)
    unfold numF; split
    · simp
    · split
      · exact unzz_range _ (or_small i u x hi hu hx.1 hx.2 (by omega)).2
      · exact numF_range xs (i + 1) _ (by omega) (or_small i u x hi hu hx.1 hx.2 (by omega)).1 (fun y hy => hb y (by simp [hy]))

/-- What a reader's Text answers at place k: the bytes, the place behind, the error. -/
def textS (l : List Int) (k : Nat) (most : Int) : List Int × Nat × Nat :=
  if (numS l k 0 most).2.2 ≠ 0 then ([], k, (numS l k 0 most).2.2)
  else if ((l.length - (numS l k 0 most).2.1 : Nat) : Int) < (numS l k 0 most).1 then ([], k, 1)
  else ((l.drop (numS l k 0 most).2.1).take (numS l k 0 most).1.toNat, (numS l k 0 most).2.1 + (numS l k 0 most).1.toNat, 0)
theorem numS_at (l : List Int) (k : Nat) (low high : Int) (hk : k ≤ l.length) : (numS l k low high).2.1 ≤ l.length := by
  unfold numS
  split
  · exact hk
  · rename_i h
    split
    · exact hk
    · have := numF_size (l.drop k) 0 0 (by simpa using h)
      rw [List.length_drop] at this
      show k + _ ≤ _
      omega
theorem numS_place (l : List Int) (k : Nat) (low high : Int) (h : (numS l k low high).2.2 ≠ 0) : (numS l k low high).2.1 = k ∧ (numS l k low high).1 = 0 := by
  unfold numS at h ⊢
  split
  · exact ⟨rfl, rfl⟩
  · rename_i h1
    rw [if_neg h1] at h
    split
    · exact ⟨rfl, rfl⟩
    · rename_i h2
      rw [if_neg h2] at h
      exact absurd rfl h
theorem numS_in (l : List Int) (k : Nat) (low high : Int) (h : (numS l k low high).2.2 = 0) : low ≤ (numS l k low high).1 ∧ (numS l k low high).1 ≤ high := by
  unfold numS at h ⊢
  split at h
  · rename_i h1; exact absurd h h1
  · rename_i h1
    rw [if_neg h1]
    split at h
    · simp at h
    · rename_i h2; rw [if_neg h2]; show low ≤ _ ∧ _ ≤ high; omega

theorem pow_cast (n : Nat) : ((2 : Int) ^ n) = ((2 ^ n : Nat) : Int) := by simp
theorem or_code (k U : Nat) (x : Int) (hk : k ≤ 9) (hU : U < 2 ^ (7 * k)) (h0 : 0 ≤ x) (h1 : x ≤ 255) (h9 : k = 9 → x ≤ 1) :
    bits .or .u64 (U : Int) (IntKind.u64.wrap (IntKind.u64.wrap (bits .and .u8 x 127) * 2 ^ (7 * k))) = ((U + (x % 128).toNat * 2 ^ (7 * k) : Nat) : Int) := by
  have hs := (or_small k U x hk hU h0 h1 h9).2
  rw [u8_and127 x h0 (by omega)]
  have e1 : IntKind.u64.wrap (x % 128) = (((x % 128).toNat : Nat) : Int) := by rw [IntKind.wrap_u64]; omega
  have e2 : IntKind.u64.wrap ((((x % 128).toNat : Nat) : Int) * 2 ^ (7 * k)) = (((x % 128).toNat * 2 ^ (7 * k) : Nat) : Int) := by
    rw [pow_cast, ← Int.natCast_mul, IntKind.wrap_u64]; omega
  rw [e1, e2]
  exact or_walk k U (x % 128).toNat hk hU (by omega) (by omega)
theorem or_code9 (U : Nat) (x : Int) (hU : U < 2 ^ (7 * 9)) (h0 : 0 ≤ x) (h1 : x ≤ 1) :
    bits .or .u64 (U : Int) (IntKind.u64.wrap (IntKind.u64.wrap (bits .and .u8 x 127) * 9223372036854775808)) = ((U + (x % 128).toNat * 2 ^ (7 * 9) : Nat) : Int) :=
  or_code 9 U x (by omega) hU h0 (by omega) (fun _ => h1)
theorem or_code0 (U : Nat) (x : Int) (hU : U < 2 ^ (7 * 0)) (h0 : 0 ≤ x) (h1 : x ≤ 255) :
    bits .or .u64 (U : Int) (IntKind.u64.wrap (IntKind.u64.wrap (bits .and .u8 x 127))) = ((U + (x % 128).toNat * 2 ^ (7 * 0) : Nat) : Int) := by
  have := or_code 0 U x (by omega) hU h0 h1 (by omega)
  simpa using this
end Wm
end Go.Proofs.YtpeocdcciecpoaaDoor
