/- The small calls of package store: number, sum, inRange, writeNumber, write. -/
import Derived.Test.YthiimkjhlndcoaaDoorCell2
import Derived.Test.YthiimkjhlndcoaaDoorSMath
import Derived.IntWalk
namespace Go.Proofs.YthiimkjhlndcoaaDoor
open Go.RowKit

def numL (l : List Int) : Int := l.foldl (fun n x => n * 256 + x) 0
theorem numL_snoc (l : List Int) (x : Int) : numL (l ++ [x]) = numL l * 256 + x := by simp [numL]
theorem fold_range (l : List Int) (h : By8 l) : ∀ a : Int, 0 ≤ a → 0 ≤ l.foldl (fun n x => n * 256 + x) a ∧ l.foldl (fun n x => n * 256 + x) a + 1 ≤ (a + 1) * 256 ^ l.length := by
  induction l with
  | nil => intro a ha; simp; omega
  | cons y l ih =>
    intro a ha
    have hy := h y (by simp)
    obtain ⟨h1, h2⟩ := ih (fun z hz => h z (by simp [hz])) (a * 256 + y) (by omega)
    refine ⟨h1, Int.le_trans h2 ?_⟩
    rw [List.length_cons, Int.pow_succ, Int.mul_comm (256 ^ l.length) 256, ← Int.mul_assoc]
    exact Int.mul_le_mul_of_nonneg_right (by omega) (by exact Int.le_of_lt (Int.pow_pos (by decide)))
theorem numL_range (l : List Int) (h : By8 l) (k : Nat) (hk : l.length ≤ k) : 0 ≤ numL l ∧ numL l + 1 ≤ 256 ^ k := by
  obtain ⟨h1, h2⟩ := fold_range l h 0 (by omega)
  refine ⟨h1, ?_⟩
  have : (256 : Int) ^ l.length ≤ 256 ^ k := by
    have h3 := Nat.pow_le_pow_right (show 0 < 256 by decide) hk
    have e : ∀ m : Nat, ((256 ^ m : Nat) : Int) = (256 : Int) ^ m := fun m => Int.natCast_pow 256 m
    rw [← e, ← e]; exact Int.ofNat_le.2 h3
  unfold numL; omega
theorem By8.take {l : List Int} (h : By8 l) (k : Nat) : By8 (l.take k) := fun x hx => h x (List.mem_of_mem_take hx)
theorem bits_or_comm64 (a b : Int) : bits .or .i64 a b = bits .or .i64 b a := by
  show IntKind.i64.wrap ((BitVec.ofInt 64 a ||| BitVec.ofInt 64 b).toNat : Int) = IntKind.i64.wrap ((BitVec.ofInt 64 b ||| BitVec.ofInt 64 a).toNat : Int)
  rw [BitVec.or_comm]
theorem or_byte (m x : Int) (h0 : 0 ≤ m) (h1 : m < 4294967296 * 256) (hx : 0 ≤ x ∧ x ≤ 255) : bits .or .i64 (m * 256) x = m * 256 + x := by
  rw [bits_or_comm64, bits_join_low .i64 63 (by decide) (fun n h0 h1 => IntWalk.i64_in n (by omega)) 8 x (m * 256) hx.1 (by omega) (by omega) (by omega) (by omega) (by omega)]
  omega

set_option maxRecDepth 100000 in
theorem number_any (l : List Int) (v : Value) (w : World) (h : Bytes w v l) (hb : By8 l) (h6 : l.length ≤ 6) :
    Calls Tryd.prog 38 #[v] w fun e w' => e = .returned (.int .i64 (numL l)) ∧ w = w' := by
  obtain ⟨a, cap, rfl, hcap, hcm, hcell⟩ := h
  unfold maxLen at hcm
  have HCELL := Lib.hid hcell
  have HB := Lib.hid hb
  clear hcell hb
  go_enter Tryd.func38, Tryd.ntmps38
  go_wp2
  go_loop [3, 8] (fun n i => ∃ k : Nat, k ≤ l.length ∧ i = .int .i64 k ∧ n = .int .i64 (numL (l.take k))) (fun _ i => l.length - (intOf i).toNat)
  case atStart => exact ⟨0, Nat.zero_le _, rfl, rfl⟩
  case round =>
    obtain ⟨k, hk, rfl, rfl⟩ := hrel
    by_cases hlt : k < l.length
    · obtain ⟨bb, off, rfl, hcl⟩ := HCELL.out (by omega)
      have hc := hcl k hlt
      have hr := numL_range (l.take k) (HB.out.take k) 5 (by simp; omega)
      obtain ⟨hr0, hr1⟩ := hr
      have hr2 : numL (l.take k) < 4294967296 * 256 := by omega
      have hx := HB.out.get k
      have hor := or_byte _ _ hr0 hr2 hx
      have HS : Hid (numL (l.take (k + 1)) = numL (l.take k) * 256 + l.getD k 0) := by show _ = _; rw [take_snoc l k hlt, numL_snoc]
      obtain ⟨x, hxx⟩ : ∃ x, x = l.getD k 0 := ⟨_, rfl⟩
      obtain ⟨m, hm⟩ : ∃ m, m = numL (l.take k) := ⟨_, rfl⟩
      rw [← hxx] at hc hx hor HS
      rw [← hm] at hr0 hr2 hor HS ⊢
      obtain ⟨hx0, hx1⟩ := hx
      clear hxx hm hr1 hcl
      go_wp2
      go_round
      case rel => exact ⟨k + 1, by omega, by go_num, by rw [HS.out]⟩
      case measure => simp [intOf]; omega
    · obtain rfl : k = l.length := by omega
      go_wp2
      go_ret
      exact ⟨rfl, rfl⟩

theorem sum_any (c n : Int) (w : World) (hc : 0 ≤ c ∧ c ≤ 281474976710655) (hn : 0 ≤ n ∧ n ≤ 281474976710655) :
    Calls Tryd.prog 31 #[.agg #[.int .i64 c, .int .i64 n]] w fun e w' => e = .returned (.int .i64 (c + n)) ∧ Fr w w' [] := by
  obtain ⟨c0, c1⟩ := hc
  obtain ⟨n0, n1⟩ := hn
  go_enter Tryd.func31, Tryd.ntmps31
  go_wp2
  go_ret
  exact ⟨rfl, Fr.alloc _ _ _⟩
theorem inRange_yes (n : Int) (w : World) (h0 : 0 ≤ n) (h1 : n ≤ 281474976710655) :
    Calls Tryd.prog 32 #[.int .i64 n] w fun e w' => e = .returned (.bool true) ∧ w = w' := by
  go_enter Tryd.func32, Tryd.ntmps32
  go_wp2
  go_ret
  exact ⟨rfl, rfl⟩
theorem inRange_no (n : Int) (w : World) (h : n < 0 ∨ 281474976710655 < n) :
    Calls Tryd.prog 32 #[.int .i64 n] w fun e w' => e = .returned (.bool false) ∧ w = w' := by
  have hcase : n < 0 ∨ (0 ≤ n ∧ ¬ n ≤ 281474976710655) := by omega
  clear h
  rcases hcase with h | ⟨h0, h1⟩
  all_goals
    go_enter Tryd.func32, Tryd.ntmps32
    go_wp2
    go_ret
    exact ⟨rfl, rfl⟩

theorem byteOf_lits (n : Int) : byteOf n 0 = n / 1099511627776 % 256 ∧ byteOf n 1 = n / 4294967296 % 256 ∧ byteOf n 2 = n / 16777216 % 256 ∧ byteOf n 3 = n / 65536 % 256 ∧ byteOf n 4 = n / 256 % 256 ∧ byteOf n 5 = n % 256 := by
  refine ⟨rfl, rfl, rfl, rfl, rfl, ?_⟩
  have e : byteOf n 5 = n / 1 % 256 := rfl
  rw [e, Int.ediv_one]
set_option maxHeartbeats 1000000 in
set_option maxRecDepth 100000 in
theorem writeNumber_any {is : List Nat} (p g : Nat) (s : CS) (i : Nat) (n : Int) (w : World) (A : Nat → Addr) (B : Nat) (h : Cl w p g s) (hi : i ≤ 4096) (hsn : s.n < 9223372036854775000) (h0 : 0 ≤ n) (h1 : n ≤ 281474976710655) (hE : EV is w A B) (hBp : B ≤ p) (hBg : B ≤ g) (hs : ∀ i ∈ [4, 5], i ∈ is := by decide) :
    Calls Tryd.prog 39 #[.pointer (some ⟨p, 0, none⟩), .int .i64 (i : Int), .int .i64 n] w fun e w' => e = .returned (ev A (s.run (six i n)).2) ∧ Cl w' p g (s.run (six i n)).1 ∧ Fr w w' [p, g] := by
  have H := Lib.hid h
  have HE := Lib.hid hE
  have HN := Lib.hid hsn
  clear h hE hsn
  go_enter Tryd.func39, Tryd.ntmps39
  go_wp2
  go_loopw [9] (fun x wr => ∃ j : Nat, j ≤ 6 ∧ x = .int .i64 j ∧ (s.run ((six i n).take j)).2 = 0 ∧ Cl wr p g (s.run ((six i n).take j)).1 ∧ Fr w wr [p, g]) (fun x _ => 6 - (intOf x).toNat)
  case atStart => exact ⟨0, Nat.zero_le _, rfl, rfl, H.out, Fr.refl _ _⟩
  case round =>
    obtain ⟨j, hj, rfl, hz, hc, hf⟩ := hrel
    have HZ := Lib.hid hz
    have HC := Lib.hid hc
    have HF := Lib.hid hf
    clear hz hc hf
    by_cases hlt : j < 6
    · have hrun := run_six s i n j hlt HZ.out
      have hput := cellPut_any p g _ ((i + j : Nat) : Int) (byteOf n j) wr A B HC.out (by have := CS.run_n ((six i n).take j) s; have h2 := HN.out; have h3 : ((six i n).take j).length ≤ j := List.length_take_le _ _; omega) (HE.out.fr HF.out (by simp; omega)) hBp hBg hs
      rw [← hrun] at hput
      obtain ⟨t, ht⟩ : ∃ t, t = s.run ((six i n).take (j + 1)) := ⟨_, rfl⟩
      rw [← ht] at hput
      have HT := Lib.hid ht
      clear hrun ht
      obtain ⟨y, I, hy, hI, hs⟩ : ∃ y I : Int, y = byteOf n j ∧ I = ((i + j : Nat) : Int) ∧ ((j = 0 ∧ y = n / 1099511627776 ∧ I = i) ∨ (j = 1 ∧ y = n / 4294967296 % 256 ∧ I = i + 1) ∨ (j = 2 ∧ y = n / 16777216 % 256 ∧ I = i + 2) ∨ (j = 3 ∧ y = n / 65536 % 256 ∧ I = i + 3) ∨ (j = 4 ∧ y = n / 256 % 256 ∧ I = i + 4) ∨ (j = 5 ∧ y = n % 256 ∧ I = i + 5)) := by
        refine ⟨_, _, rfl, rfl, ?_⟩
        have hs : j = 0 ∨ j = 1 ∨ j = 2 ∨ j = 3 ∨ j = 4 ∨ j = 5 := by omega
        obtain ⟨e0, e1, e2, e3, e4, e5⟩ := byteOf_lits n
        rcases hs with rfl | rfl | rfl | rfl | rfl | rfl
        · exact .inl ⟨rfl, by rw [e0]; omega, by omega⟩
        · exact .inr (.inl ⟨rfl, e1, by omega⟩)
        · exact .inr (.inr (.inl ⟨rfl, e2, by omega⟩))
        · exact .inr (.inr (.inr (.inl ⟨rfl, e3, by omega⟩)))
        · exact .inr (.inr (.inr (.inr (.inl ⟨rfl, e4, by omega⟩))))
        · exact .inr (.inr (.inr (.inr (.inr ⟨rfl, e5, by omega⟩))))
      rw [← hy, ← hI] at hput
      clear hy hI
      have hcd := CS.run_code ((six i n).take (j + 1)) s
      rw [← HT.out] at hcd
      obtain ⟨t1, cd⟩ := t
      obtain ⟨J, hJ⟩ : ∃ J, J = j + 1 := ⟨_, rfl⟩
      have HJ := Lib.hid hJ
      clear hJ
      match cd, hput, HT, hcd with
      | 0, hput, HT, _ =>
        rcases hs with ⟨rfl, rfl, rfl⟩ | ⟨rfl, rfl, rfl⟩ | ⟨rfl, rfl, rfl⟩ | ⟨rfl, rfl, rfl⟩ | ⟨rfl, rfl, rfl⟩ | ⟨rfl, rfl, rfl⟩
        all_goals
          rw [show ev A 0 = .nilIface from rfl] at hput
          have HP := Lib.hid hput
          clear hput
          go_wp2_with fail
          refine HP.out.mono ?_
          rintro e w1 ⟨rfl, h1', hf1⟩
          have H1 := Lib.hid h1'
          have HF1 := Lib.hid (HF.out.trans hf1)
          clear h1' hf1
          go_wp2
          go_roundw
          case rel => exact ⟨J, by have := HJ.out; omega, by rw [HJ.out]; rfl, by rw [HJ.out, ← HT.out], by rw [HJ.out, ← HT.out]; exact H1.out, HF1.out⟩
          case measure => simp [intOf]
      | d + 1, hput, HT, hcd =>
        have hst := run_stop s (six i n) (j + 1) (by rw [← HT.out]; simp)
        rw [← HT.out] at hst
        have HST := Lib.hid hst
        clear hst hcd
        rcases hs with ⟨rfl, rfl, rfl⟩ | ⟨rfl, rfl, rfl⟩ | ⟨rfl, rfl, rfl⟩ | ⟨rfl, rfl, rfl⟩ | ⟨rfl, rfl, rfl⟩ | ⟨rfl, rfl, rfl⟩
        all_goals
          rw [ev_some] at hput
          have HP := Lib.hid hput
          clear hput
          go_wp2_with fail
          refine HP.out.mono ?_
          rintro e w1 ⟨rfl, h1', hf1⟩
          have H1 := Lib.hid h1'
          have HF1 := Lib.hid (HF.out.trans hf1)
          clear h1' hf1
          go_wp2
          go_ret
          rw [HST.out]
          exact ⟨rfl, H1.out, HF1.out⟩
    · obtain rfl : j = 6 := by omega
      go_wp2
      go_ret
      refine ⟨?_, HC.out, HF.out⟩
      rw [show (s.run (six i n)).2 = 0 from HZ.out]; rfl
end Go.Proofs.YthiimkjhlndcoaaDoor
