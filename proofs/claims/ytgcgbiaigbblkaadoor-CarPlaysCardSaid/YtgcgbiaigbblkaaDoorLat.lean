/- Latches: slices of them, of the call's own and those that came in (out of Ris, for stages without a riser). -/
import Derived.Test.YtgcgbiaigbblkaaDoorRow
namespace Go.Proofs.YtgcgbiaigbblkaaDoor
open Go.RowKit

/-- A latch: the call, for the how manieth time. -/
structure La where
  f : Int
  d : Int
  g : Int
deriving DecidableEq
def zLa : La := ⟨0, 0, 0⟩
def La.cl (x : La) : List Value := [.int .i64 x.f, .int .i64 x.d, .int .i64 x.g]
def laC (l : List La) : List Value := l.flatMap La.cl
theorem laC_cons (x : La) (l : List La) : laC (x :: l) = .int .i64 x.f :: .int .i64 x.d :: .int .i64 x.g :: laC l := by simp [laC, La.cl]
theorem laC_snoc (l : List La) (x : La) : laC (l ++ [x]) = laC l ++ x.cl := by simp [laC]
theorem laC_get (T : List La) (i : Nat) (h : i < T.length) : (laC T)[i * 3]? = some (.int .i64 (T.getD i zLa).f) ∧ (laC T)[i * 3 + 1]? = some (.int .i64 (T.getD i zLa).d) ∧ (laC T)[i * 3 + 2]? = some (.int .i64 (T.getD i zLa).g) := by
  induction T generalizing i with
  | nil => simp at h
  | cons b l ih =>
    rw [laC_cons]
    cases i with
    | zero => simp
    | succ i =>
      have h' : i < l.length := by simpa using h
      have := ih i h'
      rw [show (i + 1) * 3 = i * 3 + 1 + 1 + 1 by omega]
      simpa using this
theorem infoL : (Tryd.prog.info? 80).map (fun i => (i.zero, i.size, i.bytes)) = some (some (.agg #[.int .i64 0, .int .i64 0, .int .i64 0]), 3, 24) := by kernel_rfl
/-- The slice v is the call's own, and holds the latches. -/
def OwnL (w : World) (B : Nat) (v : Value) (T : List La) : Prop := w.ownsRow B 80 3 v T.length (laC T)
theorem OwnL.nil (w : World) (B : Nat) : OwnL w B (.slice none 0 0) [] := ⟨rfl, .inl ⟨rfl, rfl⟩⟩
theorem OwnL.fr {w w' : World} {B : Nat} {v : Value} {l : List La} {S : List Nat} (h : OwnL w B v l) (hg : Fr w w' S) (hne : ∀ r ∈ S, v.ownBlock ≠ some r) : OwnL w' B v l := row_fr h hg hne
theorem OwnL.keep {w w' : World} {B : Nat} {v : Value} {l : List La} (h : OwnL w B v l) (hg : Fr w w' []) : OwnL w' B v l := h.fr hg (by simp)
theorem OwnL.snoc {w : World} {B : Nat} {v : Value} {l : List La} {x : La} (h : w.ownsRow B 80 3 v (l.length + 1) (laC l ++ x.cl)) : OwnL w B v (l ++ [x]) := by
  unfold OwnL
  rw [laC_snoc]
  simpa using h
theorem OwnL.block {w : World} {B : Nat} {v : Value} {l : List La} (h : OwnL w B v l) : ∀ r, v.ownBlock = some r → B ≤ r ∧ r < w.heap.size := World.ownsRow.lt h
theorem OwnL.shape {w : World} {B : Nat} {v : Value} {l : List La} (h : OwnL w B v l) : ∃ a c, v = .slice a l.length c := row_shape h
/-- The slice v holds the latches. -/
def HLs (w : World) (v : Value) (l : List La) : Prop :=
  ∃ a cap, v = .slice a l.length cap ∧ l.length ≤ cap ∧ cap ≤ maxLen ∧ (0 < l.length → ∃ b off, a = some ⟨b, off, none⟩ ∧ ∀ i, i < l.length →
    w.cell? ⟨b, off + i * 3, none⟩ = some (.int .i64 (l.getD i zLa).f) ∧ w.cell? ⟨b, off + i * 3 + 1, none⟩ = some (.int .i64 (l.getD i zLa).d) ∧ w.cell? ⟨b, off + i * 3 + 2, none⟩ = some (.int .i64 (l.getD i zLa).g))
theorem OwnL.holds {w : World} {B : Nat} {v : Value} {l : List La} (h : OwnL w B v l) : HLs w v l := by
  by_cases h0 : 0 < l.length
  · obtain ⟨g, c, rfl, hc, hm, _⟩ := row_head h h0
    have h2 := World.ownsRow.cellAt h
    refine ⟨_, c, rfl, hc, hm, fun _ => ⟨g, 0, rfl, fun i hi => ?_⟩⟩
    obtain ⟨g0, g1, g2⟩ := laC_get l i hi
    rw [Nat.zero_add]
    exact ⟨(h2 _ (by omega)).trans g0, (h2 _ (by omega)).trans g1, (h2 _ (by omega)).trans g2⟩
  · obtain rfl := List.eq_nil_of_length_eq_zero (by omega : l.length = 0)
    rcases h.2 with ⟨rfl, _⟩ | ⟨g, cap, cur, rfl, hb, hg, hn, hm, _⟩
    · exact ⟨none, 0, rfl, by simp, by decide, fun h => absurd h (by simp)⟩
    · exact ⟨_, cap, rfl, hn, hm, fun h => absurd h (by simp)⟩
theorem HLs.keep {w w' : World} {v : Value} {l : List La} (h : HLs w v l) (hf : Fr w w' []) : HLs w' v l := by
  obtain ⟨a, cap, rfl, h1, h2, h3⟩ := h
  refine ⟨a, cap, rfl, h1, h2, fun h0 => ?_⟩
  obtain ⟨b, off, rfl, hc⟩ := h3 h0
  exact ⟨b, off, rfl, fun i hi => ⟨hf.cell (hc i hi).1 (by simp), hf.cell (hc i hi).2.1 (by simp), hf.cell (hc i hi).2.2 (by simp)⟩⟩

/-- Its three cells. -/
theorem row3 {w : World} {g : Nat} {a b c : Value} {T : TypeId} (h : w.heap[g]? = some (.cells #[a, b, c] T (0, 0))) :
    w.cell? ⟨g, 0, none⟩ = some a ∧ w.cell? ⟨g, 1, none⟩ = some b ∧ w.cell? ⟨g, 2, none⟩ = some c :=
  ⟨by rw [cell_of_row w g 0 _ _ _ h]; rfl, by rw [cell_of_row w g 1 _ _ _ h]; rfl, by rw [cell_of_row w g 2 _ _ _ h]; rfl⟩

theorem set3_fr (w : World) (g : Nat) (a b c : Value) : Fr w (((w.setCell ⟨g, 0, none⟩ a).setCell ⟨g, 1, none⟩ b).setCell ⟨g, 2, none⟩ c) [g] :=
  ((Fr.setCell w g 0 a (by simp)).trans (Fr.setCell _ g 1 b (by simp))).trans (Fr.setCell _ g 2 c (by simp))
theorem set3_row {w : World} {g : Nat} {x y z : Value} {T : TypeId} (h : w.heap[g]? = some (.cells #[x, y, z] T (0, 0))) (a b c : Value) :
    (((w.setCell ⟨g, 0, none⟩ a).setCell ⟨g, 1, none⟩ b).setCell ⟨g, 2, none⟩ c).heap[g]? = some (.cells #[a, b, c] T (0, 0)) :=
  heap_setCell_same _ _ _ _ _ _ (heap_setCell_same _ _ _ _ _ _ (heap_setCell_same _ _ _ _ _ _ h))
theorem row_new3 (w : World) (a b c : Value) (T : TypeId) : ∀ j u, [a, b, c][j]? = some u → (w.alloc (.cells #[a, b, c] T)).cell? (Addr.add ⟨w.heap.size, 0, none⟩ j) = some u := by
  intro j u hu
  have h := heap_alloc_new w (.cells #[a, b, c] T)
  rw [Addr.add_lit, Nat.zero_add, cell_of_row _ _ _ _ _ _ h]
  simpa using hu
theorem la_one (x : La) : ∀ u ∈ x.cl, u.oneCell' = true := by
  intro u hu
  simp [La.cl] at hu
  rcases hu with rfl | rfl | rfl <;> rfl
end Go.Proofs.YtgcgbiaigbblkaaDoor
