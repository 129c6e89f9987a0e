/- Plain laws of a house: floors and places. -/
import Derived.Test.YtgcgbiaigbblkaaDoorPlant2
namespace Go.Proofs.YtgcgbiaigbblkaaDoor

theorem top_mod (h : Ho) : h.top % h.s = 0 := by unfold Ho.top; exact Int.mul_emod_left _ _
theorem top_div {h : Ho} (k : h.ok) : h.top / h.s = h.f - 1 := by
  unfold Ho.top
  exact Int.mul_ediv_cancel _ (by have := k.2.2.1.1; omega)
theorem lev_zero {h : Ho} (k : h.ok) : h.lev 0 := ⟨⟨k, by omega, by have := Ho.range k; omega⟩, Int.zero_emod _⟩
theorem lev_top {h : Ho} (k : h.ok) : h.lev h.top := ⟨⟨k, by have := Ho.range k; omega, by omega⟩, top_mod h⟩
theorem flr_in {h : Ho} (k : h.ok) {p : Int} (h0 : 0 ≤ p) (h1 : p ≤ h.top) : h.flr p = p / h.s := by
  rw [Ho.flr, if_pos k, show min (max p 0) h.top = p by omega]
theorem flr_top {h : Ho} (k : h.ok) : h.flr h.top = h.f - 1 := by
  rw [flr_in k (by have := Ho.range k; omega) (by omega), top_div k]
theorem flr_facts {h : Ho} (k : h.ok) {p : Int} (h0 : 0 ≤ p) (h1 : p ≤ h.top) :
    0 ≤ h.flr p ∧ h.flr p < h.f ∧ (0 ≤ h.flr p * h.s ∧ h.flr p * h.s ≤ 504) ∧ (0 ≤ p - h.flr p * h.s ∧ p - h.flr p * h.s < h.s) ∧ (h.lev p ↔ h.flr p * h.s = p) := by
  rw [flr_in k h0 h1]
  have hs := k.2.2.1.1
  have a := Int.ediv_nonneg h0 (show 0 ≤ h.s by omega)
  have b : p / h.s ≤ h.top / h.s := Int.ediv_le_ediv (by omega) h1
  rw [top_div k] at b
  have c := Int.mul_ediv_add_emod p h.s
  rw [Int.mul_comm] at c
  have d := Int.emod_nonneg p (show h.s ≠ 0 by omega)
  have e := Int.emod_lt_of_pos p (show 0 < h.s by omega)
  have g : 0 ≤ p / h.s * h.s := Int.mul_nonneg a (by omega)
  have r := Ho.range k
  refine ⟨a, by omega, ⟨g, by omega⟩, ⟨by omega, by omega⟩, fun q => ?_, fun q => ⟨⟨k, h0, h1⟩, by omega⟩⟩
  have := q.2
  omega
theorem sgn_small {m : Int} (h0 : -1 ≤ m) (h1 : m ≤ 1) : sgn m = m := by
  unfold sgn
  split
  · omega
  · split <;> omega
end Go.Proofs.YtgcgbiaigbblkaaDoor
