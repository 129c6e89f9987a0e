/- Bids: slices of them, of the call's own and those that came in (FHold's and FRead's, alone). -/
import Derived.Test.YtfphihhcclfmnaaRow
import Derived.Test.YtfphihhcclfmnaaBiMath
namespace Go.Proofs.Ytfphihhcclfmnaa
open Go.RowKit

/-- The slice v holds the bids (FHold's, and: a nil one has no room). -/
def HB (w : World) (v : Value) (l : List (Int × Int)) : Prop :=
  ∃ a cap, v = .slice a l.length cap ∧ (l.length ≤ cap ∧ (a = none → cap = 0)) ∧ cap ≤ maxLen ∧ (0 < l.length → ∃ b off, a = some ⟨b, off, none⟩ ∧ ∀ i, i < l.length →
    w.cell? ⟨b, off + i * 2, none⟩ = some (.int .i64 (l.getD i (0, 0)).1) ∧ w.cell? ⟨b, off + i * 2 + 1, none⟩ = some (.int .i64 (l.getD i (0, 0)).2))
theorem HB.shape {w : World} {v : Value} {l : List (Int × Int)} (h : HB w v l) : ∃ a cap, v = .slice a l.length cap := by
  obtain ⟨a, cap, h, _⟩ := h; exact ⟨a, cap, h⟩
theorem HB.fr {w w' : World} {v : Value} {l : List (Int × Int)} {S : List Nat} (h : HB w v l) (hg : Fr w w' S) (hne : ∀ r ∈ S, v.ownBlock ≠ some r) : HB w' v l := by
  obtain ⟨a, cap, rfl, h1, h2, h3⟩ := h
  refine ⟨a, cap, rfl, h1, h2, fun h0 => ?_⟩
  obtain ⟨b, off, rfl, hc⟩ := h3 h0
  exact ⟨b, off, rfl, fun i hi => ⟨hg.cell (hc i hi).1 (fun hm => hne b hm rfl), hg.cell (hc i hi).2 (fun hm => hne b hm rfl)⟩⟩
theorem HB.keep {w w' : World} {v : Value} {l : List (Int × Int)} (h : HB w v l) (hg : Fr w w' []) : HB w' v l := h.fr hg (by simp)
theorem nil_bids {w : World} : HB w (.slice none 0 0) [] := ⟨none, 0, rfl, by simp, by decide, fun h => absurd h (by simp)⟩
def bdc (l : List (Int × Int)) : List Value := l.flatMap fun b => [.int .i64 b.1, .int .i64 b.2]
theorem bdc_len (l : List (Int × Int)) : (bdc l).length = l.length * 2 := by
  induction l with
  | nil => rfl
  | cons b l ih => simp only [bdc, List.flatMap_cons, List.length_append, List.length_cons, List.length_nil] at *; omega
theorem bdc_snoc (l : List (Int × Int)) (b : Int × Int) : bdc (l ++ [b]) = bdc l ++ [.int .i64 b.1, .int .i64 b.2] := by simp [bdc]
theorem bdc_app (l m : List (Int × Int)) : bdc (l ++ m) = bdc l ++ bdc m := by simp [bdc]
theorem bdc_get (l : List (Int × Int)) (i : Nat) (h : i < l.length) : (bdc l)[i * 2]? = some (.int .i64 (l.getD i (0, 0)).1) ∧ (bdc l)[i * 2 + 1]? = some (.int .i64 (l.getD i (0, 0)).2) := by
  induction l generalizing i with
  | nil => simp at h
  | cons b l ih =>
    cases i with
    | zero => simp [bdc]
    | succ i =>
      have h' : i < l.length := by simpa using h
      have := ih i h'
      have e : bdc (b :: l) = .int .i64 b.1 :: .int .i64 b.2 :: bdc l := by simp [bdc]
      rw [e, show (i + 1) * 2 = i * 2 + 1 + 1 by omega]
      simpa using this
theorem infoB : (Try.prog.info? 24).map (fun i => (i.zero, i.size, i.bytes)) = some (some (.agg #[.int .i64 0, .int .i64 0]), 2, 16) := by kernel_rfl
/-- The slice v is the call's own, and holds the bids. -/
def OwnB (w : World) (B : Nat) (v : Value) (l : List (Int × Int)) : Prop := w.ownsRow B 24 2 v l.length (bdc l)
theorem OwnB.nil (w : World) (B : Nat) : OwnB w B (.slice none 0 0) [] := ⟨rfl, .inl ⟨rfl, rfl⟩⟩
theorem OwnB.fr {w w' : World} {B : Nat} {v : Value} {l : List (Int × Int)} {S : List Nat} (h : OwnB w B v l) (hg : Fr w w' S) (hne : ∀ r ∈ S, v.ownBlock ≠ some r) : OwnB w' B v l := row_fr h hg hne
theorem OwnB.keep {w w' : World} {B : Nat} {v : Value} {l : List (Int × Int)} (h : OwnB w B v l) (hg : Fr w w' []) : OwnB w' B v l := h.fr hg (by simp)
theorem OwnB.mono {w : World} {B B' : Nat} {v : Value} {l : List (Int × Int)} (h : OwnB w B v l) (hB : B' ≤ B) : OwnB w B' v l := row_mono h hB
theorem OwnB.snoc {w : World} {B : Nat} {v : Value} {l : List (Int × Int)} {b : Int × Int} (h : w.ownsRow B 24 2 v (l.length + 1) (bdc l ++ [.int .i64 b.1, .int .i64 b.2])) : OwnB w B v (l ++ [b]) := by
  unfold OwnB
  rw [bdc_snoc]
  simpa using h
theorem OwnB.block {w : World} {B : Nat} {v : Value} {l : List (Int × Int)} (h : OwnB w B v l) : ∀ r, v.ownBlock = some r → B ≤ r ∧ r < w.heap.size := World.ownsRow.lt h
theorem OwnB.shape {w : World} {B : Nat} {v : Value} {l : List (Int × Int)} (h : OwnB w B v l) : ∃ a c, v = .slice a l.length c := row_shape h
theorem OwnB.holds {w : World} {B : Nat} {v : Value} {l : List (Int × Int)} (h : OwnB w B v l) : HB w v l := by
  by_cases h0 : 0 < l.length
  · obtain ⟨g, c, rfl, hc, hm, _⟩ := row_head h h0
    have h2 := World.ownsRow.cellAt h
    refine ⟨_, c, rfl, ⟨hc, by simp⟩, hm, fun _ => ⟨g, 0, rfl, fun i hi => ?_⟩⟩
    obtain ⟨g0, g1⟩ := bdc_get l i hi
    rw [Nat.zero_add]
    exact ⟨(h2 _ (by omega)).trans g0, (h2 _ (by omega)).trans g1⟩
  · obtain rfl := List.eq_nil_of_length_eq_zero (by omega : l.length = 0)
    rcases h.2 with ⟨rfl, _⟩ | ⟨g, cap, cur, rfl, hb, hg, hn, hm, _⟩
    · exact ⟨none, 0, rfl, by simp, by decide, fun h => absurd h (by simp)⟩
    · exact ⟨_, cap, rfl, ⟨hn, by simp⟩, hm, fun h => absurd h (by simp)⟩
/-- A bid by value, in a box. -/
abbrev bidV (b : Int × Int) : Value := .agg #[.int .i64 b.1, .int .i64 b.2]
abbrev bidBox (b : Int × Int) : Obj := .cells #[.int .i64 b.1, .int .i64 b.2] 24
/-- Its two cells. -/
theorem brow {w : World} {g : Nat} {a b : Value} {T : TypeId} (h : w.heap[g]? = some (.cells #[a, b] T (0, 0))) : w.cell? ⟨g, 0, none⟩ = some a ∧ w.cell? ⟨g, 1, none⟩ = some b :=
  ⟨by rw [cell_of_row w g 0 _ _ _ h]; rfl, by rw [cell_of_row w g 1 _ _ _ h]; rfl⟩
end Go.Proofs.Ytfphihhcclfmnaa
