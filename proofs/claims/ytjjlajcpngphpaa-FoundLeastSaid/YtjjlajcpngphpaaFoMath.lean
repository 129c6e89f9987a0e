/- Founding: all but one of those that rise, and that one, are all. -/
import Derived.Test.YtjjlajcpngphpaaFd2
namespace Go.Proofs.Ytjjlajcpngphpaa

/-- The first k of s but number i. -/
def oth (s : List Int) (i k : Nat) : List Int := ((List.range k).filter fun j => decide (j ≠ i)).map fun j => s.getD j 0
theorem oth_zero (s : List Int) (i : Nat) : oth s i 0 = [] := rfl
theorem oth_same (s : List Int) (k : Nat) : oth s k (k + 1) = oth s k k := by simp [oth, List.range_succ]
theorem oth_next (s : List Int) {i k : Nat} (h : k ≠ i) : oth s i (k + 1) = oth s i k ++ [s.getD k 0] := by simp [oth, List.range_succ, h]
theorem oth_le (s : List Int) (i k : Nat) : (oth s i k).length ≤ k := by
  unfold oth
  rw [List.length_map]
  exact Nat.le_trans (List.length_filter_le _ _) (by simp)
theorem mem_oth {s : List Int} {i k : Nat} {x : Int} : x ∈ oth s i k ↔ ∃ j, j < k ∧ j ≠ i ∧ s.getD j 0 = x := by
  unfold oth
  simp only [List.mem_map, List.mem_filter, List.mem_range, decide_eq_true_eq]
  constructor
  · rintro ⟨j, ⟨h1, h2⟩, h3⟩; exact ⟨j, h1, h2, h3⟩
  · rintro ⟨j, h1, h2, h3⟩; exact ⟨j, ⟨h1, h2⟩, h3⟩
theorem membs_oth {s : List Int} (hs : Rises s) {i : Nat} (hi : i < s.length) : membs (oth s i s.length) (s.getD i 0) = s := by
  refine rises_unique (membs_rises _ _) hs (fun x => ?_)
  rw [mem_membs, mem_oth]
  constructor
  · rintro (⟨j, hj, _, e⟩ | e)
    · rw [← e]; simp [hj]
    · rw [e]; simp [hi]
  · intro hx
    obtain ⟨j, hj, e⟩ := List.getElem_of_mem hx
    by_cases h : j = i
    · subst h; right; rw [← e]; simp [hj]
    · left; exact ⟨j, hj, h, by rw [← e]; simp [hj]⟩
theorem rises_zero {s : List Int} (hs : Rises s) {i : Nat} (hi : i < s.length) : decide (s.getD 0 0 = s.getD i 0) = decide (i = 0) := by
  rw [decide_eq_decide]
  constructor
  · intro e
    rcases Nat.eq_zero_or_pos i with h | h
    · exact h
    · have := List.pairwise_iff_getElem.1 hs 0 i (by omega) hi h
      have h0 : 0 < s.length := by omega
      have e0 : s.getD 0 0 = s[0] := by simp [h0]
      have e1 : s.getD i 0 = s[i] := by simp [hi]
      rw [e0, e1] at e
      omega
  · rintro rfl; rfl
/-- Each founds but where it should, and is the least. -/
theorem found_oth {s : List Int} (hs : Rises s) {i : Nat} (hi : i < s.length) (cs : Int) (an : Bool) (si fo : Int) :
    foundB (oth s i s.length) (if an = true then s else []) (s.getD i 0) cs false an si fo = (decide (i = 0) && (longB fo cs && (!an || longB si cs))) := by
  unfold foundB
  rw [membs_oth hs hi, rises_zero hs hi]
  cases an <;> simp
/-- How many founded, of the first k. -/
def cntF (b : Bool) (k : Nat) : Int := if b = true ∧ 0 < k then 1 else 0
theorem cntF_zero (b : Bool) : cntF b 0 = 0 := by simp [cntF]
theorem cntF_one : cntF true (0 + 1) = cntF true 0 + 1 := by simp [cntF]
theorem cntF_next {b : Bool} {k : Nat} (h : (decide (k = 0) && b) = false) : cntF b (k + 1) = cntF b k := by
  unfold cntF
  cases b
  · simp
  · have : 0 < k := by simp at h; omega
    simp [this]
theorem cntF_end {b : Bool} {k : Nat} (h : 0 < k) : cntF b k = if b = true then 1 else 0 := by simp [cntF, h]
end Go.Proofs.Ytjjlajcpngphpaa
