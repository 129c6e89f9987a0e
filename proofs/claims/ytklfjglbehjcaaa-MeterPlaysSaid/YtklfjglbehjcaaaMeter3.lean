/- A meter: which kind there is most of, as plain data. -/
import Derived.Test.YtklfjglbehjcaaaMeter2
namespace Go.Proofs.Ytklfjglbehjcaaa
open Go.RowKit

theorem mn_max (g : Nat → Int) (k : Nat) : ∀ j, j < k → g j ≤ mn g k := by
  induction k with
  | zero => intro j hj; omega
  | succ k ih =>
    intro j hj
    by_cases h : mn g k < g k
    · rw [(mk_yes g k h).2]
      by_cases e : j = k
      · subst e; omega
      · have := ih j (by omega); omega
    · rw [(mk_no g k h).2]
      by_cases e : j = k
      · subst e; omega
      · exact ih j (by omega)
theorem mk_least (g : Nat → Int) (k : Nat) : ∀ j, j + 1 < mk g k → g j < mn g k := by
  induction k with
  | zero => intro j hj; simp [mk] at hj
  | succ k ih =>
    intro j hj
    by_cases h : mn g k < g k
    · rw [(mk_yes g k h).1] at hj
      rw [(mk_yes g k h).2]
      have := mn_max g k j (by omega)
      omega
    · rw [(mk_no g k h).1] at hj
      rw [(mk_no g k h).2]
      exact ih j hj
theorem mn_at (g : Nat → Int) (k m : Nat) (h : mk g k = m + 1) : mn g k = g m := by unfold mn; rw [h]; simp
theorem sm_pos {g : Nat → Int} {m : Int} (h : Few g m) (k : Nat) : 0 < sm g k ↔ 0 < mk g k := by
  have hp := mn_pos g k
  have hs := (sm_few h k).1
  rw [← hp.2]
  constructor
  · intro h1
    refine Decidable.byContradiction fun h2 => ?_
    have hz : ∀ j, j ≤ k → sm g j = 0 := by
      intro j
      induction j with
      | zero => intro _; rfl
      | succ j ih =>
        intro hj
        have := mn_max g k j (by omega)
        have := (h j).1
        simp only [sm]
        rw [ih (by omega)]
        omega
    have := hz k (Nat.le_refl _)
    omega
  · intro h1
    have hk : 0 < mk g k := hp.2.1 h1
    obtain ⟨m', hm⟩ : ∃ m', mk g k = m' + 1 := ⟨mk g k - 1, by omega⟩
    have hle := mk_le g k
    rw [mn_at g k m' hm] at h1
    have hz : ∀ j, m' < j → 0 < sm g j := by
      intro j
      induction j with
      | zero => intro hj; omega
      | succ j ih =>
        intro hj
        have h0 := (h j).1
        have h3 := (sm_few h j).1
        simp only [sm]
        by_cases e : j = m'
        · subst e; omega
        · have := ih (by omega); omega
    exact hz k (by omega)
end Go.Proofs.Ytklfjglbehjcaaa
