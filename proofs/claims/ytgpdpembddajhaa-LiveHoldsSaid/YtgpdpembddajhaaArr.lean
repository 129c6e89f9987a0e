/- An array of sixteen ints; a list by a rule. -/
import Derived.Test.YtgpdpembddajhaaAlive
namespace Go.Proofs.Ytgpdpembddajhaa
open Go.RowKit

/-- Those below k of which p is told. -/
def flt (p : Nat → Bool) (k : Nat) : List Int := ((List.range k).filter p).map fun i : Nat => (i : Int)
theorem alV_flt (f : Nat → Pe) (k : Nat) : alV f k = flt (fun i => on (f i)) k := rfl
theorem flt_yes (p : Nat → Bool) (k : Nat) (h : p k = true) : flt p (k + 1) = flt p k ++ [(k : Int)] := by
  simp [flt, List.range_succ, List.filter_append, h]
theorem flt_no (p : Nat → Bool) (k : Nat) (h : p k = false) : flt p (k + 1) = flt p k := by
  simp [flt, List.range_succ, List.filter_append, h]
theorem flt_len (p : Nat → Bool) (k : Nat) : (flt p k).length ≤ k := by
  unfold flt
  rw [List.length_map]
  have := List.length_filter_le p (List.range k)
  simpa using this
theorem flt_congr (p q : Nat → Bool) (k : Nat) (h : ∀ i, i < k → p i = q i) : flt p k = flt q k := by
  unfold flt
  rw [List.filter_congr (fun i hi => h i (by simpa using hi))]

def updI (g : Nat → Int) (k : Nat) (x : Int) : Nat → Int := fun j => if j = k then x else g j
/-- An array of sixteen ints. -/
def Ar (w : World) (q : Nat) (g : Nat → Int) : Prop := ∃ cs, w.heap[q]? = some (.cells cs 43 (0, 0)) ∧ cs.size = 16 ∧ ∀ i, i < 16 → cs[i]? = some (.int .i64 (g i))
theorem Ar.fr {w w' : World} {q : Nat} {g : Nat → Int} {S : List Nat} (h : Ar w q g) (hf : Fr w w' S) (hq : q ∉ S) : Ar w' q g := h.imp fun _ hh => ⟨hf.heap hh.1 hq, hh.2⟩
theorem Ar.lt {w : World} {q : Nat} {g : Nat → Int} (h : Ar w q g) : q < w.heap.size := by
  obtain ⟨cs, h1, _⟩ := h; exact size_of_row h1
theorem Ar.at {w : World} {q : Nat} {g : Nat → Int} (h : Ar w q g) (i : Nat) (hi : i < 16) : w.cell? ⟨q, i, none⟩ = some (.int .i64 (g i)) := by
  obtain ⟨cs, h1, h2, h3⟩ := h
  rw [cell_of_row w q _ _ _ _ h1, h3 i hi]
theorem Ar.fz {w : World} {q : Nat} {g : Nat → Int} (h : Ar w q g) (j : Nat) : w.frozen? ⟨q, j, none⟩ = false := by
  obtain ⟨cs, h1, h2⟩ := h
  exact frozen_of_row _ _ _ _ _ h1
theorem Ar.set {w : World} {q : Nat} {g : Nat → Int} (h : Ar w q g) (k : Nat) (hk : k < 16) (x : Int) : Ar (w.setCell ⟨q, k, none⟩ (.int .i64 x)) q (updI g k x) := by
  obtain ⟨cs, h1, h2, h3⟩ := h
  refine ⟨_, heap_setCell_same _ _ _ _ _ _ h1, by simpa using h2, fun i hi => ?_⟩
  by_cases e : i = k
  · subst e
    rw [Array.getElem?_setIfInBounds_self_of_lt (by omega)]; simp [updI]
  · rw [Array.getElem?_setIfInBounds_ne (by omega), h3 i hi]; simp [updI, e]
theorem Ar.congr {w : World} {q : Nat} {f g : Nat → Int} (h : Ar w q f) (he : ∀ i, i < 16 → f i = g i) : Ar w q g := by
  obtain ⟨cs, h1, h2, h3⟩ := h
  exact ⟨cs, h1, h2, fun i hi => by rw [← he i hi]; exact h3 i hi⟩
theorem new_ar (w : World) : Ar (w.alloc (.cells #[.int .i64 0, .int .i64 0, .int .i64 0, .int .i64 0, .int .i64 0, .int .i64 0, .int .i64 0, .int .i64 0, .int .i64 0, .int .i64 0, .int .i64 0, .int .i64 0, .int .i64 0, .int .i64 0, .int .i64 0, .int .i64 0] 43)) w.heap.size (fun _ => 0) := by
  refine ⟨_, heap_alloc_new _ _, rfl, fun i hi => ?_⟩
  rcases (by omega : i = 0 ∨ i = 1 ∨ i = 2 ∨ i = 3 ∨ i = 4 ∨ i = 5 ∨ i = 6 ∨ i = 7 ∨ i = 8 ∨ i = 9 ∨ i = 10 ∨ i = 11 ∨ i = 12 ∨ i = 13 ∨ i = 14 ∨ i = 15) with rfl | rfl | rfl | rfl | rfl | rfl | rfl | rfl | rfl | rfl | rfl | rfl | rfl | rfl | rfl | rfl
  all_goals rfl
theorem Ar.tb {w w' : World} {p q : Nat} {f : Nat → Pe} {s : Int} {g : Nat → Int} (h : Ar w q g) (ht : Tb w p f s) (hf : Fr w w' [p]) : Ar w' q g := by
  refine h.fr hf ?_
  obtain ⟨cs, h1, _⟩ := h
  obtain ⟨ds, k1, _⟩ := ht
  simp only [List.mem_singleton]
  rintro rfl
  rw [h1] at k1
  simp at k1
theorem Tb.ar {w w' : World} {p q : Nat} {f : Nat → Pe} {s : Int} {g : Nat → Int} (ht : Tb w p f s) (h : Ar w q g) (hf : Fr w w' [q]) : Tb w' p f s := by
  refine ht.fr hf ?_
  obtain ⟨cs, h1, _⟩ := h
  obtain ⟨ds, k1, _⟩ := ht
  simp only [List.mem_singleton]
  rintro rfl
  rw [h1] at k1
  simp at k1
end Go.Proofs.Ytgpdpembddajhaa
