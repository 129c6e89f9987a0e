/- The law of turns: each of a ring comes next behind just one of it; whoever is not in it has nobody next: its walk. -/
import Derived.Test.YtojekkmdbkmpkaaRSet
import Derived.Test.YtojekkmdbkmpkaaOFirst
namespace Go.Proofs.Ytojekkmdbkmpkaa
open Go.RowKit

/-- Who comes next behind each of the first k. -/
def nexts (s : List Int) (k : Nat) : List Int := (List.range k).map fun i => s.getD ((i + 1) % s.length) 0
theorem nexts_len (s : List Int) (k : Nat) : (nexts s k).length = k := by simp [nexts]
theorem nexts_snoc (s : List Int) (k : Nat) : nexts s (k + 1) = nexts s k ++ [s.getD ((k + 1) % s.length) 0] := by simp [nexts, List.range_succ]
theorem mod_inj {n i j : Nat} (hi : i < n) (hj : j < n) (h : (i + 1) % n = (j + 1) % n) : i = j := by
  by_cases a : i + 1 < n <;> by_cases b : j + 1 < n
  · rw [Nat.mod_eq_of_lt a, Nat.mod_eq_of_lt b] at h; omega
  · have e : j + 1 = n := by omega
    rw [Nat.mod_eq_of_lt a, e, Nat.mod_self] at h; omega
  · have e : i + 1 = n := by omega
    rw [Nat.mod_eq_of_lt b, e, Nat.mod_self] at h; omega
  · omega
theorem nexts_new {s : List Int} (hs : Rises s) (k : Nat) (hk : k < s.length) : s.getD ((k + 1) % s.length) 0 ∉ nexts s k := by
  intro h
  obtain ⟨i, hi, e⟩ := List.mem_map.1 h
  have hi' := List.mem_range.1 hi
  have := rises_inj hs (Nat.mod_lt _ (by omega)) (Nat.mod_lt _ (by omega)) e
  have := mod_inj (by omega) hk this
  omega
theorem nexts_all {s : List Int} (hs : Rises s) : setOf (nexts s s.length) = s := by
  refine rises_unique (setOf_rises _) hs (fun x => ?_)
  rw [mem_setOf]
  constructor
  · intro h
    obtain ⟨i, hi, e⟩ := List.mem_map.1 h
    have hi' := List.mem_range.1 hi
    rw [← e]
    have : (i + 1) % s.length < s.length := Nat.mod_lt _ (by omega)
    simp [this]
  · intro h
    obtain ⟨j, hj, e⟩ := List.getElem_of_mem h
    refine List.mem_map.2 ⟨(j + s.length - 1) % s.length, List.mem_range.2 (Nat.mod_lt _ (by omega)), ?_⟩
    have : ((j + s.length - 1) % s.length + 1) % s.length = j := by
      by_cases h0 : j = 0
      · subst h0
        rw [Nat.zero_add, Nat.mod_eq_of_lt (a := s.length - 1) (by omega), Nat.sub_add_cancel (by omega), Nat.mod_self]
      · have : j + s.length - 1 = (j - 1) + s.length := by omega
        rw [this, Nat.add_mod_right, Nat.mod_eq_of_lt (a := j - 1) (b := s.length) (by omega), Nat.sub_add_cancel (by omega), Nat.mod_eq_of_lt hj]
    rw [this]
    simp [hj, e]

set_option maxHeartbeats 2000000 in
set_option maxRecDepth 100000 in
theorem oturns_walk (v : Value) (l : List Int) (c : Int) (w : World) (h : HInts w v l) (hv : v = .slice none 0 0 ∨ ∃ x cp, v = .slice (some x) l.length cp) :
    Calls Try.prog 3 #[v, .int .i64 c] w fun e w' => e = .returned (.bool true) ∧ w.grownBy w' none := by
  obtain ⟨i0, hi, hz0, hz1, hz2⟩ := info_parts infoI
  have HH := Lib.hid h
  have HV := Lib.hid hv
  obtain ⟨a, cap, rfl, _⟩ := h
  clear hv
  by_cases hl : l.length ≤ 16
  · go_enter Try.func3, Try.ntmps3
    go_wp2_with fail
    refine (first_any _).mono ?_
    rintro e w1 ⟨rfl, hf⟩
    have H1 := Lib.hid (HH.out.keep hf)
    have F1 := Lib.hid hf
    clear hf
    go_wp2_with fail
    refine (set_any _ l w1 H1.out HV.out (by omega)).mono ?_
    rintro e w2 ⟨sv, rfl, ho, hf⟩
    obtain ⟨s, hs⟩ : ∃ s, s = setOf l := ⟨_, rfl⟩
    have HR : Hid (Rises s) := by rw [hs]; exact setOf_rises l
    have HLs : Hid (s.length ≤ 16) := by have := setOf_length l; rw [← hs] at this; exact Nat.le_trans this hl
    rw [← hs] at ho
    have O2 := Lib.hid ho.holds
    have F2 := Lib.hid (F1.out.trans hf)
    obtain ⟨sa, sc, rfl⟩ := row_shape ho
    clear ho hf hs H1 F1 HH HV
    have hls := HLs.out
    go_wp2
    go_loopw [7, 8] (fun nv i wr => ∃ k : Nat, k ≤ s.length ∧ i = .int .i64 k ∧ OwnI wr w2.heap.size nv (nexts s k) ∧ Fr w2 wr []) (fun _ i _ => s.length - (intOf i).toNat)
    case atStart => exact ⟨0, by omega, rfl, OwnI.nil _ _, Fr.refl _ _⟩
    case round =>
      obtain ⟨k, hk, rfl, ho, hf⟩ := hrel
      have O3 := Lib.hid ho
      have F3 := Lib.hid hf
      have S3 := Lib.hid (O2.out.keep hf)
      obtain ⟨na, nc, rfl⟩ := row_shape ho
      clear ho hf
      by_cases hlt : k < s.length
      · obtain ⟨a', c', he, _, _, hc⟩ := S3.out
        simp only [Value.slice.injEq, true_and] at he
        obtain ⟨rfl, rfl⟩ := he
        obtain ⟨b, off, rfl, hc2⟩ := hc (by omega)
        have g1 := hc2 k hlt
        have hn := next_at HR.out k hlt
        have hnew := nexts_new HR.out k hlt
        have hsn := nexts_snoc s k
        obtain ⟨y, hy⟩ : ∃ y, y = s.getD ((k + 1) % s.length) 0 := ⟨_, rfl⟩
        obtain ⟨z, hz⟩ : ∃ z, z = s.getD k 0 := ⟨_, rfl⟩
        rw [← hy] at hn hnew hsn
        rw [← hz] at hn g1
        have HN := Lib.hid hn
        have HW := Lib.hid hnew
        have HS := Lib.hid hsn
        have HLn := Lib.hid (nexts_len s k)
        clear hn hnew hsn hy hz hc hc2
        go_wp2_with fail
        refine (next_any _ s z wr S3.out (by omega) y true HN.out).mono ?_
        rintro e w4 ⟨rfl, rfl⟩
        go_wp2_with fail
        refine (among_any _ _ y _ O3.out.holds false (by simp [HW.out])).mono ?_
        rintro e w4 ⟨rfl, rfl⟩
        go_wp2_with (at_builtin; refine wpList_append_own _ rfl _ _ 22 rfl w2.heap.size 3 i0 (.int .i64 0) 1 8 Try.underlying22 hi hz0 hz1 hz2 rfl (by decide) _ _ _ rfl (World.ownsRow.alloc O3.out _) ⟨w4.heap.size, 0, none⟩ 1 1 [.int .i64 y] rfl rfl (cell_one_new _ _ _) (one_cell _ _) (by rw [HLn.out]; unfold maxLen; omega) (by rw [HLn.out]; omega) (by have := F3.out.size; simp; omega) ?_; intro v' w5 hown5 hg5 _)
        have O5 := Lib.hid (show OwnI w5 w2.heap.size v' (nexts s (k + 1)) by rw [HS.out]; exact OwnI.snoc hown5)
        have F5 := Lib.hid ((F3.out.trans (Fr.alloc _ (.cells #[.int .i64 y] 3) [])).grown_own hg5 (fun r hr => .inr (O3.out.block r hr).1))
        clear hown5 hg5
        go_wp2
        go_roundw
        case rel => exact ⟨k + 1, by omega, by go_num, O5.out, F5.out⟩
        case measure => simp [intOf]; omega
      · obtain rfl : k = s.length := by omega
        obtain ⟨x, hx⟩ := next_some s c
        have HX := Lib.hid hx
        have HNil : Hid (NextIs [] c 0 false) := .inl ⟨by simp, rfl, rfl⟩
        have HA := Lib.hid (nexts_all HR.out)
        have HLn := Lib.hid (nexts_len s s.length)
        obtain ⟨d, hd⟩ : ∃ d, d = decide (c ∈ s) := ⟨_, rfl⟩
        rw [← hd] at hx
        have HX := Lib.hid hx
        have HD := Lib.hid hd
        clear hx hd
        go_wp2_with fail
        refine (next_any _ s c _ S3.out (by omega) x d HX.out).mono ?_
        rintro e w4 ⟨rfl, rfl⟩
        go_wp2_with fail
        refine (next_any _ [] c _ (nil_ints _) (by decide) 0 false HNil.out).mono ?_
        rintro e w4 ⟨rfl, rfl⟩
        go_wp2_with fail
        refine (set_any _ _ _ O3.out.holds O3.out.form (by rw [HLn.out]; omega)).mono ?_
        rintro e w5 ⟨u, rfl, ho, hf⟩
        rw [HA.out] at ho
        have O5 := Lib.hid ho.holds
        have S5 := Lib.hid (S3.out.keep hf)
        have F5 := Lib.hid (F2.out.trans (F3.out.trans hf))
        clear ho hf
        go_wp2_with fail
        refine (same_any _ s _ s w5 O5.out S5.out true (by simp)).mono ?_
        rintro e w6 ⟨rfl, q, rfl⟩
        have S6 := Lib.hid (S5.out.keep (Fr.drewN w5 q []))
        have F6 := Lib.hid (F5.out.trans (Fr.drewN w5 q []))
        go_wp2_with fail
        refine (has_any _ s c _ S6.out d HD.out).mono ?_
        rintro e w7 ⟨rfl, rfl⟩
        go_wp2_with fail
        refine (one_of _).mono ?_
        rintro e w7 ⟨rfl, rfl⟩
        go_wp2
        go_ret
        exact ⟨rfl, F6.out.grown (by simp)⟩
  · have hl' : ((l.length : Int) > 16) := by omega
    go_enter Try.func3, Try.ntmps3
    go_wp2_with fail
    refine (first_any _).mono ?_
    rintro e w1 ⟨rfl, hf⟩
    go_wp2
    go_ret
    exact ⟨rfl, hf.grown (by simp)⟩
end Go.Proofs.Ytojekkmdbkmpkaa
