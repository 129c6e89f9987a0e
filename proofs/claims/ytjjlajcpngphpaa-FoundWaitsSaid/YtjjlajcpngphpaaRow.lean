/- Rows of the call's own, boxed structs of two cells; copies of slices; strings and bytes. -/
import Derived.Test.YtjjlajcpngphpaaBase
import Derived.Deep.AppendLies
import Derived.Laws.OwnMore
import Derived.Laws.BytesArg
import Derived.Laws.BytesString
import Derived.Lib.ConvBytes
import Derived.Lib.SliceRun
import Derived.Deep.RegionLaw
namespace Go.Proofs.Ytjjlajcpngphpaa
open Go.RowKit

theorem size_of_row {w : World} {g : Nat} {o : Obj} (h : w.heap[g]? = some o) : g < w.heap.size := (Array.getElem?_eq_some_iff.1 h).1
theorem row2 {w : World} {g : Nat} {a b : Value} {T : TypeId} (h : w.heap[g]? = some (.cells #[a, b] T (0, 0))) :
    w.cell? ⟨g, 0, none⟩ = some a ∧ w.cell? ⟨g, 1, none⟩ = some b :=
  ⟨by rw [cell_of_row w g 0 _ _ _ h]; rfl, by rw [cell_of_row w g 1 _ _ _ h]; rfl⟩
theorem Holds.shape {k : IntKind} {w : World} {v : Value} {l : List Int} (h : Holds k w v l) : ∃ a cap, v = .slice a l.length cap := by
  obtain ⟨a, cap, h, _⟩ := h; exact ⟨a, cap, h⟩
theorem Holds.keep {k : IntKind} {w w' : World} {v : Value} {l : List Int} (h : Holds k w v l) (hg : Fr w w' []) : Holds k w' v l := h.fr hg (by simp)
theorem row_shape {w : World} {B sz n : Nat} {T : TypeId} {v : Value} {xs : List Value} (h : w.ownsRow B T sz v n xs) : ∃ a c, v = .slice a n c := by
  rcases h.2 with ⟨rfl, h0⟩ | ⟨g, cap, cur, rfl, _⟩
  · exact ⟨none, 0, by rw [h0]⟩
  · exact ⟨_, _, rfl⟩
theorem row_head {w : World} {B sz n : Nat} {T : TypeId} {v : Value} {xs : List Value} (h : w.ownsRow B T sz v n xs) (h0 : 0 < n) : ∃ g c, v = .slice (some ⟨g, 0, none⟩) n c ∧ n ≤ c ∧ c ≤ maxLen ∧ w.heap.size > g := by
  rcases h.2 with ⟨_, h1⟩ | ⟨g, cap, cur, rfl, _, hg, hn, hm, _⟩
  · omega
  · exact ⟨g, cap, rfl, hn, hm, size_of_row hg⟩
theorem row_n {w : World} {B sz n m g c : Nat} {T : TypeId} {xs : List Value} (h : w.ownsRow B T sz (.slice (some ⟨g, 0, none⟩) m c) n xs) : m = n := by
  obtain ⟨a, c', he⟩ := row_shape h
  simp only [Value.slice.injEq] at he
  exact he.2.1
theorem row_at {w : World} {B sz n m g c : Nat} {T : TypeId} {xs : List Value} (h : w.ownsRow B T sz (.slice (some ⟨g, 0, none⟩) m c) n xs) : ∃ cs : Array Value, w.heap[g]? = some (.cells cs T (0, 0)) ∧ B ≤ g ∧ n ≤ c ∧ c ≤ maxLen ∧ cs.size = c * sz ∧ cs.toList.take (n * sz) = xs := by
  rcases h.2 with ⟨h, _⟩ | ⟨g', cap', cur, h, hb, hg, h1, h2, h3, h4⟩
  · simp at h
  · simp only [Value.slice.injEq, Option.some.injEq, Addr.mk.injEq, and_true] at h
    obtain ⟨rfl, rfl, rfl⟩ := h
    exact ⟨cur, hg, hb, h1, h2, h3, h4⟩
theorem row_fr {w w' : World} {B sz n : Nat} {T : TypeId} {v : Value} {xs : List Value} {S : List Nat} (h : w.ownsRow B T sz v n xs) (hg : Fr w w' S) (hne : ∀ r ∈ S, v.ownBlock ≠ some r) : w'.ownsRow B T sz v n xs := by
  refine ⟨h.1, ?_⟩
  rcases h.2 with h2 | ⟨g, cap, cur, rfl, hb, hgg, rest⟩
  · exact .inl h2
  · exact .inr ⟨g, cap, cur, rfl, hb, hg.heap hgg (fun hm => hne g hm rfl), rest⟩
theorem row_keep {w w' : World} {B sz n : Nat} {T : TypeId} {v : Value} {xs : List Value} (h : w.ownsRow B T sz v n xs) (hg : Fr w w' []) : w'.ownsRow B T sz v n xs := row_fr h hg (by simp)
theorem row_ne {w : World} {B sz n : Nat} {T T' : TypeId} {v : Value} {xs : List Value} {g : Nat} {cs : Array Value} {fz : Nat × Nat} (h : w.ownsRow B T sz v n xs) (hg : w.heap[g]? = some (.cells cs T' fz)) (hT : T' ≠ T) : v.ownBlock ≠ some g := by
  rcases h.2 with ⟨rfl, _⟩ | ⟨g', cap, cur, rfl, hb, hgg, rest⟩
  · simp [Value.ownBlock]
  · intro e
    obtain rfl : g' = g := by simpa [Value.ownBlock] using e
    rw [hg] at hgg
    simp at hgg
    exact hT hgg.2.1
/-- What is no row of this kind stays, where one of this kind turns. -/
theorem row_far {w w' : World} {B sz n : Nat} {T T' : TypeId} {v : Value} {xs : List Value} {g : Nat} {cs : Array Value} {fz : Nat × Nat} (hgr : w.grownBy w' v.ownBlock) (h : w.ownsRow B T sz v n xs) (hg : w.heap[g]? = some (.cells cs T' fz)) (hT : T' ≠ T) : w'.heap[g]? = some (.cells cs T' fz) := by
  rw [hgr.block g (size_of_row hg) (fun e => row_ne h hg hT e.symm)]; exact hg
theorem row_mono {w : World} {B B' sz n : Nat} {T : TypeId} {v : Value} {xs : List Value} (h : w.ownsRow B T sz v n xs) (hB : B' ≤ B) : w.ownsRow B' T sz v n xs :=
  ⟨h.1, h.2.imp id (fun ⟨g, cap, cur, a, b, c⟩ => ⟨g, cap, cur, a, by omega, c⟩)⟩
theorem row_set {w : World} {B sz n : Nat} {T T' : TypeId} {v : Value} {xs : List Value} {g : Nat} {cs : Array Value} {fz : Nat × Nat} (h : w.ownsRow B T sz v n xs) (hg : w.heap[g]? = some (.cells cs T' fz)) (hT : T' ≠ T) (i : Nat) (u : Value) : (w.setCell ⟨g, i, none⟩ u).ownsRow B T sz v n xs :=
  row_fr h (Fr.setCell w g i u (S := [g]) (by simp)) (by intro r hr; obtain rfl := List.mem_singleton.1 hr; exact row_ne h hg hT)
theorem Fr.grown_own {w0 w w' : World} {S : List Nat} {v : Value} (hf : Fr w0 w S) (hgr : w.grownBy w' v.ownBlock) (h : ∀ r, v.ownBlock = some r → r ∈ S ∨ w0.heap.size ≤ r) : Fr w0 w' S :=
  ⟨hgr.os.trans hf.os, hgr.tape.trans hf.tape, hgr.output.trans hf.output, Nat.le_trans hf.size hgr.size, fun k hk hn => by
    rw [hgr.block k (Nat.lt_of_lt_of_le hk hf.size) (fun e => (h k e.symm).elim hn (fun h1 => by omega))]; exact hf.block k hk hn⟩
theorem own_empty (w : World) (T : TypeId) (size : Nat) : (w.alloc (.cells #[] T)).ownsRow w.heap.size T size (.slice (some ⟨w.heap.size, 0, none⟩) 0 0) 0 [] :=
  ⟨by simp, .inr ⟨w.heap.size, 0, #[], rfl, Nat.le_refl _, heap_alloc_new _ _, Nat.le_refl _, by decide, by simp, by simp⟩⟩
theorem row_cells {w : World} {B sz n c : Nat} {T : TypeId} {x : Addr} {xs : List Value} (h : w.ownsRow B T sz (.slice (some x) n c) n xs) : ∀ j u, xs[j]? = some u → w.cell? (x.add j) = some u := by
  obtain ⟨a, c', he⟩ := row_shape h
  intro j u hu
  rcases h.2 with ⟨h1, _⟩ | ⟨g, cap, cur, h1, _⟩
  · simp at h1
  · simp only [Value.slice.injEq, Option.some.injEq] at h1
    obtain ⟨rfl, _, rfl⟩ := h1
    exact World.ownsRow.cells h rfl j u hu

/-- The numbers of a text's bytes. -/
def numsOf (s : ByteArray) : List Int := s.data.toList.map fun b => (b.toNat : Int)
theorem numsOf_len (s : ByteArray) : (numsOf s).length = s.size := by
  unfold numsOf; rw [List.length_map, Array.length_toList]; rfl
theorem numsOf_str (l : List Int) (h : ∀ x ∈ l, 0 ≤ x ∧ x < 256) : numsOf (strOfNums l) = l := by
  unfold numsOf
  rw [strOfNums_data, List.map_map]
  refine (List.map_congr_left (fun x hx => ?_)).trans (List.map_id l)
  obtain ⟨h0, h1⟩ := h x hx
  simp only [Function.comp, id, UInt8.toNat_ofNat']
  omega
end Go.Proofs.Ytjjlajcpngphpaa
