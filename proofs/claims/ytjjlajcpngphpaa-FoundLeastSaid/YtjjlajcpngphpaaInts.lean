/- A slice of integers that came in. -/
import Derived.Test.YtjjlajcpngphpaaBase
import Derived.OpenShut
namespace Go.Proofs.Ytjjlajcpngphpaa
open Go.RowKit Go.ChangeShapes Go.WideShapes

/-- A slice of integers that came in: what it holds, and what it may be. -/
theorem holds_of_ints {k : IntKind} {W : World} {a : Option Addr} {len cap : Nat} {zs : List Int} (h : (a = none ∧ len = 0 ∧ cap = 0 ∧ zs = []) ∨
      ∃ x, a = some x ∧ len ≤ cap ∧ cap ≤ maxLen ∧ zs.length = cap ∧ (∀ i, i < zs.length → W.cell? (x.add i) = some (.int k (zs.getD i 0))) ∧ ∀ n ∈ zs, (Lit.int k n).wf = true) :
    Holds k W (.slice a len cap) (zs.take len) ∧ ((Value.slice a len cap = .slice none 0 0 ∧ zs.take len = []) ∨ ∃ x c, Value.slice a len cap = .slice (some x) (zs.take len).length c) ∧ (∀ n ∈ zs.take len, (Lit.int k n).wf = true) := by
  rcases h with ⟨rfl, rfl, rfl, rfl⟩ | ⟨x, rfl, hl, hm, hz, hc, hw⟩
  · exact ⟨⟨none, 0, by simp, by simp, by decide, fun h => by simp at h⟩, .inl ⟨rfl, by simp⟩, fun n hn => by simp at hn⟩
  · have hlen : (zs.take len).length = len := by simp; omega
    refine ⟨⟨some x, cap, by rw [hlen], by rw [hlen]; exact hl, hm, fun h0 => ?_⟩, .inr ⟨x, cap, by rw [hlen]⟩, fun n hn => hw n (List.mem_of_mem_take hn)⟩
    rw [hlen] at h0
    obtain ⟨b, off, spot⟩ := x
    have hc0 := hc 0 (by omega)
    have hspot : spot = none := by simpa [Addr.add] using World.cell?_spot hc0
    subst hspot
    refine ⟨b, off, rfl, fun i hi => ?_⟩
    rw [hlen] at hi
    have := hc i (by omega)
    rw [Addr.add_lit] at this
    rw [this]
    simp [List.getD, hi]
theorem byte_of_wf {l : List Int} (h : ∀ n ∈ l, (Lit.int .u8 n).wf = true) : ∀ x ∈ l, 0 ≤ x ∧ x ≤ 255 := fun x hx => bounds_u8 (h x hx)
end Go.Proofs.Ytjjlajcpngphpaa
