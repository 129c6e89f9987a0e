/- The law of the ring: from any of a ring, next by next, each comes once, and then it is that one again: its walk. -/
import Derived.Test.YtojekkmdbkmpkaaRSet
import Derived.Test.YtojekkmdbkmpkaaOFirst
namespace Go.Proofs.Ytojekkmdbkmpkaa
open Go.RowKit

/-- From place p on, next by next, the first k. -/
def trip (s : List Int) (p k : Nat) : List Int := (List.range k).map fun i => s.getD ((p + i) % s.length) 0
theorem trip_len (s : List Int) (p k : Nat) : (trip s p k).length = k := by simp [trip]
theorem trip_snoc (s : List Int) (p k : Nat) : trip s p (k + 1) = trip s p k ++ [s.getD ((p + k) % s.length) 0] := by simp [trip, List.range_succ]
theorem mod_two {a b n : Nat} (ha : a < n) (hb : b < n) : (a + b) % n = if a + b < n then a + b else a + b - n := by
  by_cases h : a + b < n
  · rw [if_pos h, Nat.mod_eq_of_lt h]
  · rw [if_neg h, Nat.mod_eq_sub_mod (by omega), Nat.mod_eq_of_lt (by omega)]
theorem trip_new {s : List Int} (hs : Rises s) (p k : Nat) (hp : p < s.length) (hk : k < s.length) : s.getD ((p + k) % s.length) 0 ∉ trip s p k := by
  intro h
  obtain ⟨i, hi, e⟩ := List.mem_map.1 h
  have hi' := List.mem_range.1 hi
  have := rises_inj hs (Nat.mod_lt _ (by omega)) (Nat.mod_lt _ (by omega)) e
  rw [mod_two hp (by omega), mod_two hp hk] at this
  split at this <;> split at this <;> omega
theorem trip_all {s : List Int} (hs : Rises s) (p : Nat) (hp : p < s.length) : setOf (trip s p s.length) = s := by
  refine rises_unique (setOf_rises _) hs (fun x => ?_)
  rw [mem_setOf]
  constructor
  · intro h
    obtain ⟨i, hi, e⟩ := List.mem_map.1 h
    have hi' := List.mem_range.1 hi
    rw [← e]
    have : (p + i) % s.length < s.length := Nat.mod_lt _ (by omega)
    simp [this]
  · intro h
    obtain ⟨j, hj, e⟩ := List.getElem_of_mem h
    refine List.mem_map.2 ⟨(j + s.length - p) % s.length, List.mem_range.2 (Nat.mod_lt _ (by omega)), ?_⟩
    have : (p + (j + s.length - p) % s.length) % s.length = j := by
      rw [Nat.add_mod_mod, show p + (j + s.length - p) = j + s.length by omega, Nat.add_mod_right, Nat.mod_eq_of_lt hj]
    rw [this]
    simp [hj, e]

set_option maxHeartbeats 2000000 in
set_option maxRecDepth 100000 in
theorem oring_walk (v : Value) (l : List Int) (at_ : Int) (hat : (Lit.int .i64 at_).wf = true) (w : World) (h : HInts w v l) (hv : v = .slice none 0 0 ∨ ∃ x cp, v = .slice (some x) l.length cp) :
    Calls Try.prog 5 #[v, .int .i64 at_] w fun e w' => e = .returned (.bool true) ∧ w.grownBy w' none := by
  obtain ⟨i0, hi, hz0, hz1, hz2⟩ := info_parts infoI
  have HH := Lib.hid h
  have HV := Lib.hid hv
  obtain ⟨a, cap, rfl, _⟩ := h
  clear hv
  by_cases hl0 : l.length = 0
  · have he : ((l.length : Int) == 0) = true := by rw [hl0]; rfl
    go_enter Try.func5, Try.ntmps5
    go_wp2_with fail
    refine (first_any _).mono ?_
    rintro e w1 ⟨rfl, hf⟩
    go_wp2
    go_ret
    exact ⟨rfl, hf.grown (by simp)⟩
  have he : ((l.length : Int) == 0) = false := by rw [beq_eq_false_iff_ne]; omega
  by_cases hl : l.length ≤ 16
  · go_enter Try.func5, Try.ntmps5
    go_wp2_with fail
    refine (first_any _).mono ?_
    rintro e w1 ⟨rfl, hf⟩
    have H1 := Lib.hid (HH.out.keep hf)
    have F1 := Lib.hid hf
    clear hf
    go_wp2_with fail
    refine (set_any _ l w1 H1.out HV.out (by omega)).mono ?_
    rintro e w2 ⟨sv, rfl, ho, hf⟩
    obtain ⟨s, hs⟩ : ∃ s, s = setOf l := ⟨_, rfl⟩
    have HR : Hid (Rises s) := by rw [hs]; exact setOf_rises l
    have hle : s.length ≤ l.length := by rw [hs]; exact setOf_length l
    have hpos : 0 < s.length := by
      rw [hs]
      cases l with
      | nil => simp at hl0
      | cons x l => exact List.length_pos_of_mem (mem_setOf.2 (List.mem_cons_self (a := x)))
    rw [← hs] at ho
    have O2 := Lib.hid ho.holds
    have F2 := Lib.hid (F1.out.trans hf)
    obtain ⟨sa, sc, rfl⟩ := row_shape ho
    obtain ⟨a', c', he', _, _, hc⟩ := O2.out
    simp only [Value.slice.injEq, true_and] at he'
    obtain ⟨rfl, rfl⟩ := he'
    obtain ⟨b, off, rfl, hc2⟩ := hc hpos
    obtain ⟨p, hp, _, hnum⟩ := numberTo_nat at_ s.length hpos (by omega) hat
    have g1 := hc2 p hp
    obtain ⟨z, hz⟩ : ∃ z, z = s.getD p 0 := ⟨_, rfl⟩
    rw [← hz] at g1
    have HZ := Lib.hid hz
    have HN := Lib.hid hnum
    have he0 : ((s.length : Int) == 0) = false := by rw [beq_eq_false_iff_ne]; omega
    have hle' : ¬ ((s.length : Int) > (l.length : Int)) := by omega
    clear ho hf hs H1 F1 HH HV hc hc2 hz hnum hat
    go_wp2_with fail
    refine (HN.out _).mono ?_
    rintro e w3 ⟨rfl, rfl⟩
    go_wp2
    go_loopw [8, 9, 10] (fun car nv i wr => ∃ k : Nat, k ≤ s.length ∧ i = .int .i64 k ∧ car = .int .i64 (s.getD ((p + k) % s.length) 0) ∧ OwnI wr w2.heap.size nv (trip s p k) ∧ Fr w2 wr []) (fun _ _ i _ => s.length - (intOf i).toNat)
    case atStart => exact ⟨0, by omega, rfl, by rw [Nat.add_zero, Nat.mod_eq_of_lt hp, HZ.out], OwnI.nil _ _, Fr.refl _ _⟩
    case round =>
      obtain ⟨k, hk, rfl, rfl, ho, hf⟩ := hrel
      have O3 := Lib.hid ho
      have F3 := Lib.hid hf
      have S3 := Lib.hid (O2.out.keep hf)
      obtain ⟨na, nc, rfl⟩ := row_shape ho
      clear ho hf
      by_cases hlt : k < s.length
      · have hm : (p + k) % s.length < s.length := Nat.mod_lt _ hpos
        have hn := next_at HR.out ((p + k) % s.length) hm
        rw [Nat.mod_add_mod] at hn
        have hnew := trip_new HR.out p k hp hlt
        have hsn := trip_snoc s p k
        have hin : s.getD ((p + k) % s.length) 0 ∈ s := by simp [hm]
        have hnx : (p + k + 1) % s.length = (p + (k + 1)) % s.length := by rw [Nat.add_assoc]
        rw [hnx] at hn
        obtain ⟨y, hy⟩ : ∃ y, y = s.getD ((p + (k + 1)) % s.length) 0 := ⟨_, rfl⟩
        obtain ⟨x, hx⟩ : ∃ x, x = s.getD ((p + k) % s.length) 0 := ⟨_, rfl⟩
        rw [← hy] at hn
        rw [← hx] at hn hnew hsn hin ⊢
        have HN2 := Lib.hid hn
        have HW := Lib.hid hnew
        have HS := Lib.hid hsn
        have HI := Lib.hid hin
        have HY := Lib.hid hy
        have HLn := Lib.hid (trip_len s p k)
        clear hn hnew hsn hin hy hx hm hnx
        go_wp2_with fail
        refine (among_any _ _ x _ O3.out.holds false (by simp [HW.out])).mono ?_
        rintro e w4 ⟨rfl, rfl⟩
        go_wp2_with fail
        refine (has_any _ s x _ S3.out true (by simp [HI.out])).mono ?_
        rintro e w4 ⟨rfl, rfl⟩
        go_wp2_with (at_builtin; refine wpList_append_own _ rfl _ _ 22 rfl w2.heap.size 3 i0 (.int .i64 0) 1 8 Try.underlying22 hi hz0 hz1 hz2 rfl (by decide) _ _ _ rfl (World.ownsRow.alloc O3.out _) ⟨w4.heap.size, 0, none⟩ 1 1 [.int .i64 x] rfl rfl (cell_one_new _ _ _) (one_cell _ _) (by rw [HLn.out]; unfold maxLen; omega) (by rw [HLn.out]; omega) (by have := F3.out.size; simp; omega) ?_; intro v' w5 hown5 hg5 _)
        have O5 := Lib.hid (show OwnI w5 w2.heap.size v' (trip s p (k + 1)) by rw [HS.out]; exact OwnI.snoc hown5)
        have F5 := Lib.hid ((F3.out.trans (Fr.alloc _ (.cells #[.int .i64 x] 3) [])).grown_own hg5 (fun r hr => .inr (O3.out.block r hr).1))
        have S5 := Lib.hid (O2.out.keep F5.out)
        clear hown5 hg5
        go_wp2_with fail
        refine (next_any _ s x _ S5.out (by omega) y true HN2.out).mono ?_
        rintro e w6 ⟨rfl, rfl⟩
        go_wp2
        go_roundw
        case rel => exact ⟨k + 1, by omega, by go_num, by rw [HY.out], O5.out, F5.out⟩
        case measure => simp [intOf]; omega
      · obtain rfl : k = s.length := by omega
        have hend : s.getD ((p + s.length) % s.length) 0 = z := by rw [Nat.add_mod_right, Nat.mod_eq_of_lt hp, HZ.out]
        rw [hend]
        have HA := Lib.hid (trip_all HR.out p hp)
        have HLn := Lib.hid (trip_len s p s.length)
        clear hend
        go_wp2_with fail
        refine (set_any _ _ _ O3.out.holds O3.out.form (by rw [HLn.out]; omega)).mono ?_
        rintro e w5 ⟨u, rfl, ho, hf⟩
        rw [HA.out] at ho
        have O5 := Lib.hid ho.holds
        have S5 := Lib.hid (S3.out.keep hf)
        have F5 := Lib.hid (F2.out.trans (F3.out.trans hf))
        clear ho hf
        go_wp2_with fail
        refine (same_any _ s _ s w5 O5.out S5.out true (by simp)).mono ?_
        rintro e w6 ⟨rfl, q, rfl⟩
        have F6 := Lib.hid (F5.out.trans (Fr.drewN w5 q []))
        go_wp2
        go_ret
        exact ⟨rfl, F6.out.grown (by simp)⟩
  · have hl' : ((l.length : Int) > 16) := by omega
    go_enter Try.func5, Try.ntmps5
    go_wp2_with fail
    refine (first_any _).mono ?_
    rintro e w1 ⟨rfl, hf⟩
    go_wp2
    go_ret
    exact ⟨rfl, hf.grown (by simp)⟩
end Go.Proofs.Ytojekkmdbkmpkaa
