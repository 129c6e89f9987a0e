/- Slices of integers of the call's own; the document's copy of integers, and whether two are the same. -/
import Derived.Test.YtfphihhcclfmnaaRow
namespace Go.Proofs.Ytfphihhcclfmnaa
open Go.RowKit

theorem infoI : (Try.prog.info? 3).map (fun i => (i.zero, i.size, i.bytes)) = some (some (.int .i64 0), 1, 8) := by kernel_rfl
def i64s (l : List Int) : List Value := l.map (Value.int .i64)
@[simp] theorem i64s_len (l : List Int) : (i64s l).length = l.length := by simp [i64s]
theorem i64s_snoc (l : List Int) (x : Int) : i64s (l ++ [x]) = i64s l ++ [.int .i64 x] := by simp [i64s]
def OwnI (w : World) (B : Nat) (v : Value) (l : List Int) : Prop := w.ownsRow B 3 1 v l.length (i64s l)
abbrev HInts (w : World) (v : Value) (l : List Int) : Prop := Holds .i64 w v l
theorem OwnI.holds {w : World} {B : Nat} {v : Value} {l : List Int} (h : OwnI w B v l) : HInts w v l := by
  rcases h.2 with ⟨rfl, h0⟩ | ⟨g, cap, cur, rfl, hb, hg, hn, hm, hs, ht⟩
  · obtain rfl := List.eq_nil_of_length_eq_zero h0
    exact ⟨none, 0, rfl, by simp, by decide, fun h => absurd h (by simp)⟩
  · refine ⟨_, cap, rfl, hn, hm, fun _ => ⟨g, 0, rfl, fun i hi => ?_⟩⟩
    have e : (i64s l)[i]? = some (.int .i64 (l.getD i 0)) := by simp [i64s, hi]
    rw [← ht] at e
    rw [List.getElem?_take_of_lt (by omega)] at e
    rw [Nat.zero_add, cell_of_row w g i _ _ _ hg]
    simpa using e
theorem OwnI.fr {w w' : World} {B : Nat} {v : Value} {l : List Int} {S : List Nat} (h : OwnI w B v l) (hg : Fr w w' S) (hne : ∀ r ∈ S, v.ownBlock ≠ some r) : OwnI w' B v l := row_fr h hg hne
theorem OwnI.keep {w w' : World} {B : Nat} {v : Value} {l : List Int} (h : OwnI w B v l) (hg : Fr w w' []) : OwnI w' B v l := h.fr hg (by simp)
/-- Behind writes to a block of another kind. -/
theorem OwnI.far {w w' : World} {B p : Nat} {v : Value} {l : List Int} (h : OwnI w B v l) (hg : Fr w w' [p]) {cs : Array Value} {T : TypeId} {fz : Nat × Nat} (hp : w.heap[p]? = some (.cells cs T fz)) (hT : T ≠ 3) : OwnI w' B v l :=
  h.fr hg (by intro r hr; obtain rfl := List.mem_singleton.1 hr; exact row_ne h hp hT)
theorem OwnI.nil (w : World) (B : Nat) : OwnI w B (.slice none 0 0) [] := ⟨rfl, .inl ⟨rfl, rfl⟩⟩
theorem OwnI.snoc {w : World} {B : Nat} {v : Value} {l : List Int} {x : Int} (h : w.ownsRow B 3 1 v (l.length + 1) (i64s l ++ [.int .i64 x])) : OwnI w B v (l ++ [x]) := by
  unfold OwnI
  rw [i64s_snoc]
  simpa using h
theorem OwnI.block {w : World} {B : Nat} {v : Value} {l : List Int} (h : OwnI w B v l) : ∀ r, v.ownBlock = some r → B ≤ r ∧ r < w.heap.size := World.ownsRow.lt h
theorem OwnI.mono {w : World} {B B' : Nat} {v : Value} {l : List Int} (h : OwnI w B v l) (hB : B' ≤ B) : OwnI w B' v l := row_mono h hB

end Go.Proofs.Ytfphihhcclfmnaa
