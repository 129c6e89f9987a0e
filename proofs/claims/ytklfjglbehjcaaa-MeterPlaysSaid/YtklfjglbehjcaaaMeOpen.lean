/- What came in: a slice of bools. -/
import Derived.Test.YtklfjglbehjcaaaBase
import Derived.ProofKit
import Derived.OpenShut
import Derived.Deep.Slices
import Derived.Deep.Fields
import Derived.ChangeSame
namespace Go.Proofs.Ytklfjglbehjcaaa
open Go.RowKit Go.ChangeShapes Go.WideShapes Go.Deep

theorem mlist_of {α : Type} (d : α) (Q : Nat → α → Prop) : ∀ n, (∀ i, i < n → ∃ a, Q i a) → ∃ l : List α, l.length = n ∧ ∀ i, i < n → Q i (l.getD i d)
  | 0, _ => ⟨[], rfl, fun i hi => by omega⟩
  | n + 1, h => by
    obtain ⟨l, hl, hq⟩ := mlist_of d Q n (fun i hi => h i (by omega))
    obtain ⟨a, ha⟩ := h n (by omega)
    refine ⟨l ++ [a], by simp [hl], fun i hi => ?_⟩
    by_cases e : i = n
    · subst e
      have : (l ++ [a]).getD i d = a := by simp [List.getD, ← hl]
      rw [this]; exact ha
    · have : (l ++ [a]).getD i d = l.getD i d := by simp [List.getD, List.getElem?_append_left (show i < l.length by omega)]
      rw [this]; exact hq i (by omega)
theorem madd_zero (a : Addr) : a.add 0 = a := by unfold Addr.add; simp
/-- A slice of bools that came in. -/
def HBl (w : World) (v : Value) (l : List Bool) : Prop := ∃ a cap, v = .slice a l.length cap ∧ l.length ≤ cap ∧ cap ≤ maxLen ∧ (0 < l.length → ∃ b off, a = some ⟨b, off, none⟩ ∧ ∀ i, i < l.length → w.cell? ⟨b, off + i, none⟩ = some (.bool (l.getD i false)))
section
variable {H : Type} {enc : TypeId × Value → H} {w : World} {base : Nat} {held : Bool}
set_option maxRecDepth 100000 in
theorem open_bls {fuel : Nat} {c : Value} {x : DataW H × List MemPlace} (h : DataW.trod enc Try.prog w base (fun _ => true) held fuel 23 [c] = some x) : ∃ l, HBl w c l := by
  rcases open_slice Try.underlying23 h with ⟨hcs, _⟩ | ⟨a, len, cap, m, n, D, Pl, hcs, _, hl, hm, hmm, _, hi⟩
  · simp at hcs
    subst hcs
    exact ⟨[], none, 0, rfl, by simp, by decide, fun h => absurd h (by simp)⟩
  · simp at hcs
    subst hcs
    have hmc : m = cap := by simpa using hmm
    have hc1 : Try.prog.cellsOf 4 = 1 := by kernel_rfl
    have key : ∀ i, i < len → ∃ e : Bool, w.cell? (a.add i) = some (.bool e) := by
      intro i hi'
      obtain ⟨cs, hcells, ht⟩ := hi i (by omega)
      rw [hc1] at hcells
      obtain ⟨_, hlen, hat⟩ := World.cells?_some hcells
      match cs, hlen with
      | [c0], _ =>
        obtain ⟨q, e, _⟩ := DataW.trod_bool Try.underlying4 ht
        simp at e
        subst e
        have a0 := hat 0 (by omega)
        simp at a0
        rw [madd_zero] at a0
        exact ⟨q, a0⟩
    obtain ⟨l, hll, hq⟩ := mlist_of false _ len key
    refine ⟨l, some a, cap, by rw [hll], by omega, hm, fun h0 => ?_⟩
    obtain ⟨b, off, spot⟩ := a
    have hspot : spot = none := by
      have := hq 0 (by omega)
      simpa [Addr.add] using World.cell?_spot this
    subst hspot
    refine ⟨b, off, rfl, fun i hi' => ?_⟩
    have g0 := hq i (by omega)
    rwa [Addr.add_lit] at g0
end
end Go.Proofs.Ytklfjglbehjcaaa
