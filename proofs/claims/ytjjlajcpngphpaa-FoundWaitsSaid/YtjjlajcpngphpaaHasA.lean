/- Slices of integers: as arguments; their form. -/
import Derived.Test.YtjjlajcpngphpaaOwnI
namespace Go.Proofs.Ytjjlajcpngphpaa
open Go.RowKit

theorem HInts.args {w : World} {x : Addr} {n cap : Nat} {l : List Int} (h : HInts w (.slice (some x) n cap) l) : ∀ j u, (i64s l)[j]? = some u → w.cell? (x.add j) = some u := by
  intro j u hj
  have hjl : j < l.length := by have := (List.getElem?_eq_some_iff.1 hj).1; simpa using this
  have e : (i64s l)[j]? = some (.int .i64 (l.getD j 0)) := by simp [i64s, hjl]
  rw [e] at hj
  obtain rfl := Option.some.inj hj
  obtain ⟨a, cap', he, _, _, hc⟩ := h
  simp only [Value.slice.injEq] at he
  obtain ⟨rfl, rfl, rfl⟩ := he
  obtain ⟨b, off, he2, hc2⟩ := hc (by omega)
  simp only [Option.some.injEq] at he2
  subst he2
  rw [Addr.add_lit]
  exact hc2 j hjl
theorem i64s_one (l : List Int) : ∀ u ∈ i64s l, u.oneCell' = true := ints_oneCell _ _
theorem nil_ints (w : World) : HInts w (.slice none 0 0) [] := ⟨none, 0, rfl, by simp, by decide, fun h => absurd h (by simp)⟩

theorem OwnI.form {w : World} {B : Nat} {v : Value} {l : List Int} (h : OwnI w B v l) : v = .slice none 0 0 ∨ ∃ x c, v = .slice (some x) l.length c := by
  rcases h.2 with ⟨rfl, _⟩ | ⟨g, cap, cur, rfl, _⟩
  · exact .inl rfl
  · exact .inr ⟨_, _, rfl⟩
end Go.Proofs.Ytjjlajcpngphpaa
