/- Epochs: whether one may be, is ahead, is the same: the program's functions, and the document's. -/
import Derived.Test.YtlkpgpiklfbacaaHas
import Derived.Test.YtlkpgpiklfbacaaDet
namespace Go.Proofs.Ytlkpgpiklfbacaa
open Go.RowKit

/-- May it be? -/
def epOk (c f : Int) : Bool := decide (1 ≤ c ∧ c ≤ 4294967295 ∧ 0 ≤ f ∧ f < 16)
/-- Is it ahead? -/
def epLt (a1 a2 b1 b2 : Int) : Bool := decide (a1 < b1 ∨ a1 = b1 ∧ a2 < b2)
theorem epOk_cases (c f : Int) (v : Bool) (hv : epOk c f = v) : (1 ≤ c ∧ c ≤ 4294967295 ∧ 0 ≤ f ∧ f < 16 ∧ v = true) ∨ (1 ≤ c ∧ c ≤ 4294967295 ∧ 0 ≤ f ∧ ¬ f < 16 ∧ v = false) ∨ (1 ≤ c ∧ c ≤ 4294967295 ∧ ¬ 0 ≤ f ∧ v = false) ∨ (1 ≤ c ∧ ¬ c ≤ 4294967295 ∧ v = false) ∨ (¬ 1 ≤ c ∧ v = false) := by
  subst hv
  simp only [epOk, decide_eq_true_eq, decide_eq_false_iff_not]
  omega
theorem epLt_cases (a1 a2 b1 b2 : Int) (v : Bool) (hv : epLt a1 a2 b1 b2 = v) : (a1 < b1 ∧ ¬ a1 = b1 ∧ v = true) ∨ (¬ a1 < b1 ∧ ¬ a1 = b1 ∧ v = false) ∨ (¬ a1 < b1 ∧ a1 = b1 ∧ a2 < b2 ∧ v = true) ∨ (¬ a1 < b1 ∧ a1 = b1 ∧ ¬ a2 < b2 ∧ v = false) := by
  subst hv
  simp only [epLt, decide_eq_true_eq, decide_eq_false_iff_not]
  omega

set_option maxRecDepth 100000 in
theorem ep_valid (c f : Int) (w : World) : Calls Try.prog 29 #[.agg #[.int .i64 c, .int .i64 f]] w fun e w' => e = .returned (.bool (epOk c f)) ∧ Fr w w' [] := by
  obtain ⟨v, hv⟩ : ∃ v, epOk c f = v := ⟨_, rfl⟩
  have hcase := epOk_cases _ _ _ hv
  rw [hv]
  clear hv
  rcases hcase with ⟨h1, h2, h3, h4, rfl⟩ | ⟨h1, h2, h3, h4, rfl⟩ | ⟨h1, h2, h3, rfl⟩ | ⟨h1, h2, rfl⟩ | ⟨h1, rfl⟩
  all_goals
    go_enter Try.func29, Try.ntmps29
    go_wp2
    go_ret
    exact ⟨rfl, Fr.alloc _ _ _⟩
set_option maxRecDepth 100000 in
theorem ep_rvalid (c f : Int) (w : World) : Calls Try.prog 25 #[.agg #[.int .i64 c, .int .i64 f]] w fun e w' => e = .returned (.bool (epOk c f)) ∧ Fr w w' [] := by
  obtain ⟨v, hv⟩ : ∃ v, epOk c f = v := ⟨_, rfl⟩
  have hcase := epOk_cases _ _ _ hv
  rw [hv]
  clear hv
  rcases hcase with ⟨h1, h2, h3, h4, rfl⟩ | ⟨h1, h2, h3, h4, rfl⟩ | ⟨h1, h2, h3, rfl⟩ | ⟨h1, h2, rfl⟩ | ⟨h1, rfl⟩
  all_goals
    go_enter Try.func25, Try.ntmps25
    go_wp2
    go_ret
    exact ⟨rfl, Fr.alloc _ _ _⟩
set_option maxRecDepth 100000 in
theorem ep_less (a1 a2 b1 b2 : Int) (w : World) : Calls Try.prog 30 #[.agg #[.int .i64 a1, .int .i64 a2], .agg #[.int .i64 b1, .int .i64 b2]] w fun e w' => e = .returned (.bool (epLt a1 a2 b1 b2)) ∧ Fr w w' [] := by
  obtain ⟨v, hv⟩ : ∃ v, epLt a1 a2 b1 b2 = v := ⟨_, rfl⟩
  have hcase := epLt_cases _ _ _ _ _ hv
  rw [hv]
  clear hv
  rcases hcase with ⟨h1, h2, rfl⟩ | ⟨h1, h2, rfl⟩ | ⟨h1, h2, h3, rfl⟩ | ⟨h1, h2, h3, rfl⟩
  all_goals
    go_enter Try.func30, Try.ntmps30
    go_wp2
    go_ret
    refine ⟨?_, (Fr.alloc _ _ _).trans (Fr.alloc _ _ _)⟩
    simp [*]
set_option maxRecDepth 100000 in
theorem ep_rless (a1 a2 b1 b2 : Int) (w : World) : Calls Try.prog 23 #[.agg #[.int .i64 a1, .int .i64 a2], .agg #[.int .i64 b1, .int .i64 b2]] w fun e w' => e = .returned (.bool (epLt a1 a2 b1 b2)) ∧ Fr w w' [] := by
  obtain ⟨v, hv⟩ : ∃ v, epLt a1 a2 b1 b2 = v := ⟨_, rfl⟩
  have hcase := epLt_cases _ _ _ _ _ hv
  rw [hv]
  clear hv
  rcases hcase with ⟨h1, h2, rfl⟩ | ⟨h1, h2, rfl⟩ | ⟨h1, h2, h3, rfl⟩ | ⟨h1, h2, h3, rfl⟩
  all_goals
    go_enter Try.func23, Try.ntmps23
    go_wp2
    go_ret
    refine ⟨?_, (Fr.alloc _ _ _).trans (Fr.alloc _ _ _)⟩
    simp [*]
set_option maxRecDepth 100000 in
theorem ep_same (a1 a2 b1 b2 : Int) (w : World) : Calls Try.prog 22 #[.agg #[.int .i64 a1, .int .i64 a2], .agg #[.int .i64 b1, .int .i64 b2]] w fun e w' => e = .returned (.bool (decide (a1 = b1 ∧ a2 = b2))) ∧ Fr w w' [] := by
  have hcase : (a1 = b1 ∧ a2 = b2) ∨ (a1 = b1 ∧ ¬ a2 = b2) ∨ ¬ a1 = b1 := by omega
  rcases hcase with ⟨h1, h2⟩ | ⟨h1, h2⟩ | h1
  all_goals
    go_enter Try.func22, Try.ntmps22
    go_wp2
    go_ret
    refine ⟨?_, (Fr.alloc _ _ _).trans (Fr.alloc _ _ _)⟩
    simp [*]
end Go.Proofs.Ytlkpgpiklfbacaa
