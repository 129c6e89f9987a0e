/- Package found: a case in a box of the call's own. -/
import Derived.Test.YtjjlajcpngphpaaFd3
namespace Go.Proofs.Ytjjlajcpngphpaa
open Go.RowKit

theorem set8 {w : World} {g : Nat} {a b c d e f h i : Value} {T : TypeId} (k : w.heap[g]? = some (.cells #[a, b, c, d, e, f, h, i] T (0, 0))) (v0 v1 v2 v3 v4 v5 v6 v7 : Value) :
    ((((((((w.setCell ⟨g, 0, none⟩ v0).setCell ⟨g, 1, none⟩ v1).setCell ⟨g, 2, none⟩ v2).setCell ⟨g, 3, none⟩ v3).setCell ⟨g, 4, none⟩ v4).setCell ⟨g, 5, none⟩ v5).setCell ⟨g, 6, none⟩ v6).setCell ⟨g, 7, none⟩ v7).heap[g]? = some (.cells #[v0, v1, v2, v3, v4, v5, v6, v7] T (0, 0)) := by
  have h1 : (w.setCell ⟨g, 0, none⟩ v0).heap[g]? = some (.cells #[v0, b, c, d, e, f, h, i] T (0, 0)) := by rw [heap_setCell_same _ g 0 _ _ _ k]; rfl
  have h2 : ((w.setCell ⟨g, 0, none⟩ v0).setCell ⟨g, 1, none⟩ v1).heap[g]? = some (.cells #[v0, v1, c, d, e, f, h, i] T (0, 0)) := by rw [heap_setCell_same _ g 1 _ _ _ h1]; rfl
  have h3 : (((w.setCell ⟨g, 0, none⟩ v0).setCell ⟨g, 1, none⟩ v1).setCell ⟨g, 2, none⟩ v2).heap[g]? = some (.cells #[v0, v1, v2, d, e, f, h, i] T (0, 0)) := by rw [heap_setCell_same _ g 2 _ _ _ h2]; rfl
  have h4 : ((((w.setCell ⟨g, 0, none⟩ v0).setCell ⟨g, 1, none⟩ v1).setCell ⟨g, 2, none⟩ v2).setCell ⟨g, 3, none⟩ v3).heap[g]? = some (.cells #[v0, v1, v2, v3, e, f, h, i] T (0, 0)) := by rw [heap_setCell_same _ g 3 _ _ _ h3]; rfl
  have h5 : (((((w.setCell ⟨g, 0, none⟩ v0).setCell ⟨g, 1, none⟩ v1).setCell ⟨g, 2, none⟩ v2).setCell ⟨g, 3, none⟩ v3).setCell ⟨g, 4, none⟩ v4).heap[g]? = some (.cells #[v0, v1, v2, v3, v4, f, h, i] T (0, 0)) := by rw [heap_setCell_same _ g 4 _ _ _ h4]; rfl
  have h6 : ((((((w.setCell ⟨g, 0, none⟩ v0).setCell ⟨g, 1, none⟩ v1).setCell ⟨g, 2, none⟩ v2).setCell ⟨g, 3, none⟩ v3).setCell ⟨g, 4, none⟩ v4).setCell ⟨g, 5, none⟩ v5).heap[g]? = some (.cells #[v0, v1, v2, v3, v4, v5, h, i] T (0, 0)) := by rw [heap_setCell_same _ g 5 _ _ _ h5]; rfl
  have h7 : (((((((w.setCell ⟨g, 0, none⟩ v0).setCell ⟨g, 1, none⟩ v1).setCell ⟨g, 2, none⟩ v2).setCell ⟨g, 3, none⟩ v3).setCell ⟨g, 4, none⟩ v4).setCell ⟨g, 5, none⟩ v5).setCell ⟨g, 6, none⟩ v6).heap[g]? = some (.cells #[v0, v1, v2, v3, v4, v5, v6, i] T (0, 0)) := by rw [heap_setCell_same _ g 6 _ _ _ h6]; rfl
  rw [heap_setCell_same _ g 7 _ _ _ h7]; rfl
theorem set8_fr (w : World) (g : Nat) (v0 v1 v2 v3 v4 v5 v6 v7 : Value) :
    Fr w ((((((((w.setCell ⟨g, 0, none⟩ v0).setCell ⟨g, 1, none⟩ v1).setCell ⟨g, 2, none⟩ v2).setCell ⟨g, 3, none⟩ v3).setCell ⟨g, 4, none⟩ v4).setCell ⟨g, 5, none⟩ v5).setCell ⟨g, 6, none⟩ v6).setCell ⟨g, 7, none⟩ v7) [g] :=
  (((((((Fr.setCell w g 0 v0 (S := [g]) (by simp)).trans (Fr.setCell _ g 1 v1 (S := [g]) (by simp))).trans (Fr.setCell _ g 2 v2 (S := [g]) (by simp))).trans (Fr.setCell _ g 3 v3 (S := [g]) (by simp))).trans (Fr.setCell _ g 4 v4 (S := [g]) (by simp))).trans (Fr.setCell _ g 5 v5 (S := [g]) (by simp))).trans (Fr.setCell _ g 6 v6 (S := [g]) (by simp))).trans (Fr.setCell _ g 7 v7 (S := [g]) (by simp))
/-- A box made and filled. -/
theorem box8 {w : World} {a b c d e f h i : Value} {T : TypeId} (v0 v1 v2 v3 v4 v5 v6 v7 : Value) (W : World)
    (hW : W = (((((((((w.alloc (.cells #[a, b, c, d, e, f, h, i] T)).setCell ⟨w.heap.size, 0, none⟩ v0).setCell ⟨w.heap.size, 1, none⟩ v1).setCell ⟨w.heap.size, 2, none⟩ v2).setCell ⟨w.heap.size, 3, none⟩ v3).setCell ⟨w.heap.size, 4, none⟩ v4).setCell ⟨w.heap.size, 5, none⟩ v5).setCell ⟨w.heap.size, 6, none⟩ v6).setCell ⟨w.heap.size, 7, none⟩ v7)) :
    W.heap[w.heap.size]? = some (.cells #[v0, v1, v2, v3, v4, v5, v6, v7] T (0, 0)) ∧ Fr w W [] := by
  subst hW
  exact ⟨set8 (heap_alloc_new w _) _ _ _ _ _ _ _ _, (Fr.alloc w _ []).new (set8_fr _ _ _ _ _ _ _ _ _ _) (by simp)⟩
end Go.Proofs.Ytjjlajcpngphpaa
