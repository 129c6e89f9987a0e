/- What a slice of bids, of entries, a frame hold; cells of a boxed struct. -/
import Derived.Test.YtpeocdcciecpoaaDoorErr
import Derived.Test.YtpeocdcciecpoaaDoorFMath
namespace Go.Proofs.YtpeocdcciecpoaaDoor
open Go.RowKit Fm

/-- The slice v holds the bids. -/
def HB (w : World) (v : Value) (l : List (Int × Int)) : Prop :=
  ∃ a cap, v = .slice a l.length cap ∧ l.length ≤ cap ∧ cap ≤ maxLen ∧ (0 < l.length → ∃ b off, a = some ⟨b, off, none⟩ ∧ ∀ i, i < l.length →
    w.cell? ⟨b, off + i * 2, none⟩ = some (.int .i64 (l.getD i (0, 0)).1) ∧ w.cell? ⟨b, off + i * 2 + 1, none⟩ = some (.int .i64 (l.getD i (0, 0)).2))
/-- The slice v holds the entries. -/
def HE (w : World) (v : Value) (l : List En) : Prop :=
  ∃ a cap, v = .slice a l.length cap ∧ l.length ≤ cap ∧ cap ≤ maxLen ∧ (0 < l.length → ∃ b off, a = some ⟨b, off, none⟩ ∧ ∀ i, i < l.length → ∃ vb,
    w.cell? ⟨b, off + i * 5, none⟩ = some (.int .i64 (l.getD i zeroE).fl) ∧ w.cell? ⟨b, off + i * 5 + 1, none⟩ = some (.int .i64 (l.getD i zeroE).di) ∧
    w.cell? ⟨b, off + i * 5 + 2, none⟩ = some (.int .i64 (l.getD i zeroE).ge) ∧ w.cell? ⟨b, off + i * 5 + 3, none⟩ = some vb ∧
    w.cell? ⟨b, off + i * 5 + 4, none⟩ = some (.int .i64 (l.getD i zeroE).aw) ∧ HB w vb (l.getD i zeroE).bs)
/-- An entry, a ring, a frame by value. -/
def enV (e : En) (vb : Value) : Value := .agg #[.int .i64 e.fl, .int .i64 e.di, .int .i64 e.ge, vb, .int .i64 e.aw]
def rgV (r : Rg) (vm ve : Value) : Value := .agg #[.int .i64 r.co, .int .i64 r.fo, .int .i64 r.ho, vm, ve]
def frV (f : F) (vm ve : Value) : Value := .agg #[.int .i64 f.ki, .int .i64 f.fr, .int .i64 f.to, .int .i64 f.li, .int .i64 f.se, .bool f.ou, .int .i64 f.rg.co, .int .i64 f.rg.fo, .int .i64 f.rg.ho, vm, ve]

theorem HB.shape {w : World} {v : Value} {l : List (Int × Int)} (h : HB w v l) : ∃ a cap, v = .slice a l.length cap := by
  obtain ⟨a, cap, h, _⟩ := h; exact ⟨a, cap, h⟩
theorem HE.shape {w : World} {v : Value} {l : List En} (h : HE w v l) : ∃ a cap, v = .slice a l.length cap := by
  obtain ⟨a, cap, h, _⟩ := h; exact ⟨a, cap, h⟩
theorem Holds.shape {k : IntKind} {w : World} {v : Value} {l : List Int} (h : Holds k w v l) : ∃ a cap, v = .slice a l.length cap := by
  obtain ⟨a, cap, h, _⟩ := h; exact ⟨a, cap, h⟩
theorem HB.fr {w w' : World} {v : Value} {l : List (Int × Int)} {S : List Nat} (h : HB w v l) (hg : Fr w w' S) (hne : ∀ r ∈ S, v.ownBlock ≠ some r) : HB w' v l := by
  obtain ⟨a, cap, rfl, h1, h2, h3⟩ := h
  refine ⟨a, cap, rfl, h1, h2, fun h0 => ?_⟩
  obtain ⟨b, off, rfl, hc⟩ := h3 h0
  exact ⟨b, off, rfl, fun i hi => ⟨hg.cell (hc i hi).1 (fun hm => hne b hm rfl), hg.cell (hc i hi).2 (fun hm => hne b hm rfl)⟩⟩
theorem HB.keep {w w' : World} {v : Value} {l : List (Int × Int)} (h : HB w v l) (hg : Fr w w' []) : HB w' v l := h.fr hg (by simp)
theorem HE.keep {w w' : World} {v : Value} {l : List En} (h : HE w v l) (hg : Fr w w' []) : HE w' v l := by
  obtain ⟨a, cap, rfl, h1, h2, h3⟩ := h
  refine ⟨a, cap, rfl, h1, h2, fun h0 => ?_⟩
  obtain ⟨b, off, rfl, hc⟩ := h3 h0
  refine ⟨b, off, rfl, fun i hi => ?_⟩
  obtain ⟨vb, c0, c1, c2, c3, c4, hb⟩ := hc i hi
  exact ⟨vb, hg.cell c0 (by simp), hg.cell c1 (by simp), hg.cell c2 (by simp), hg.cell c3 (by simp), hg.cell c4 (by simp), hb.keep hg⟩
theorem Holds.keep {k : IntKind} {w w' : World} {v : Value} {l : List Int} (h : Holds k w v l) (hg : Fr w w' []) : Holds k w' v l := h.fr hg (by simp)
theorem nil_ints {w : World} {k : IntKind} : Holds k w (.slice none 0 0) [] := ⟨none, 0, rfl, by simp, by decide, fun h => absurd h (by simp)⟩
theorem nil_bids {w : World} : HB w (.slice none 0 0) [] := ⟨none, 0, rfl, by simp, by decide, fun h => absurd h (by simp)⟩
theorem nil_ents {w : World} : HE w (.slice none 0 0) [] := ⟨none, 0, rfl, by simp, by decide, fun h => absurd h (by simp)⟩

theorem EV.shape {is : List Nat} {w : World} {A : Nat → Addr} {B : Nat} (h : EV is w A B) (hm : 1 ∈ is) : w.cell? ⟨2, 0, none⟩ = some (.iface 137 (.pointer (some (A 2)))) := (h.cell 1 hm).1
theorem EV.range {is : List Nat} {w : World} {A : Nat → Addr} {B : Nat} (h : EV is w A B) (hm : 2 ∈ is) : w.cell? ⟨1, 0, none⟩ = some (.iface 137 (.pointer (some (A 3)))) := (h.cell 2 hm).1
theorem EV.many {is : List Nat} {w : World} {A : Nat → Addr} {B : Nat} (h : EV is w A B) (hm : 3 ∈ is) : w.cell? ⟨3, 0, none⟩ = some (.iface 137 (.pointer (some (A 4)))) := (h.cell 3 hm).1
theorem EV.kind {is : List Nat} {w : World} {A : Nat → Addr} {B : Nat} (h : EV is w A B) (hm : 6 ∈ is) : w.cell? ⟨0, 0, none⟩ = some (.iface 137 (.pointer (some (A 7)))) := (h.cell 6 hm).1
theorem EV.twice {is : List Nat} {w : World} {A : Nat → Addr} {B : Nat} (h : EV is w A B) (hm : 10 ∈ is) : w.cell? ⟨4, 0, none⟩ = some (.iface 137 (.pointer (some (A 11)))) := (h.cell 10 hm).1
theorem EV.keep {is : List Nat} {w w' : World} {A : Nat → Addr} {B : Nat} (h : EV is w A B) (hg : Fr w w' []) : EV is w' A B := h.fr hg (by simp)
/-- A boxed struct's cells. -/
theorem row2 {w : World} {g : Nat} {a b : Value} {T : TypeId} (h : w.heap[g]? = some (.cells #[a, b] T (0, 0))) :
    w.cell? ⟨g, 0, none⟩ = some a ∧ w.cell? ⟨g, 1, none⟩ = some b :=
  ⟨by rw [cell_of_row w g 0 _ _ _ h]; rfl, by rw [cell_of_row w g 1 _ _ _ h]; rfl⟩
theorem row5 {w : World} {g : Nat} {a b c d e : Value} {T : TypeId} (h : w.heap[g]? = some (.cells #[a, b, c, d, e] T (0, 0))) :
    w.cell? ⟨g, 0, none⟩ = some a ∧ w.cell? ⟨g, 1, none⟩ = some b ∧ w.cell? ⟨g, 2, none⟩ = some c ∧ w.cell? ⟨g, 3, none⟩ = some d ∧ w.cell? ⟨g, 4, none⟩ = some e :=
  ⟨by rw [cell_of_row w g 0 _ _ _ h]; rfl, by rw [cell_of_row w g 1 _ _ _ h]; rfl, by rw [cell_of_row w g 2 _ _ _ h]; rfl, by rw [cell_of_row w g 3 _ _ _ h]; rfl, by rw [cell_of_row w g 4 _ _ _ h]; rfl⟩
theorem row11 {w : World} {g : Nat} {a b c d e f h i j k l : Value} {T : TypeId} (hh : w.heap[g]? = some (.cells #[a, b, c, d, e, f, h, i, j, k, l] T (0, 0))) :
    w.cell? ⟨g, 0, none⟩ = some a ∧ w.cell? ⟨g, 1, none⟩ = some b ∧ w.cell? ⟨g, 2, none⟩ = some c ∧ w.cell? ⟨g, 3, none⟩ = some d ∧ w.cell? ⟨g, 4, none⟩ = some e ∧ w.cell? ⟨g, 5, none⟩ = some f ∧
    w.cell? ⟨g, 6, none⟩ = some h ∧ w.cell? ⟨g, 7, none⟩ = some i ∧ w.cell? ⟨g, 8, none⟩ = some j ∧ w.cell? ⟨g, 9, none⟩ = some k ∧ w.cell? ⟨g, 10, none⟩ = some l :=
  ⟨by rw [cell_of_row w g 0 _ _ _ hh]; rfl, by rw [cell_of_row w g 1 _ _ _ hh]; rfl, by rw [cell_of_row w g 2 _ _ _ hh]; rfl, by rw [cell_of_row w g 3 _ _ _ hh]; rfl, by rw [cell_of_row w g 4 _ _ _ hh]; rfl, by rw [cell_of_row w g 5 _ _ _ hh]; rfl,
   by rw [cell_of_row w g 6 _ _ _ hh]; rfl, by rw [cell_of_row w g 7 _ _ _ hh]; rfl, by rw [cell_of_row w g 8 _ _ _ hh]; rfl, by rw [cell_of_row w g 9 _ _ _ hh]; rfl, by rw [cell_of_row w g 10 _ _ _ hh]; rfl⟩
theorem two_boxes (w : World) (o1 o2 : Obj) : ((w.alloc o1).alloc o2).heap[w.heap.size]? = some o1 ∧ ((w.alloc o1).alloc o2).heap[w.heap.size + 1]? = some o2 := by
  refine ⟨(Fr.alloc (w.alloc o1) o2 []).heap (heap_alloc_new w o1) (by simp), ?_⟩
  have h := heap_alloc_new (w.alloc o1) o2
  rwa [show (w.alloc o1).heap.size = w.heap.size + 1 by simp] at h
theorem size_of_row {w : World} {g : Nat} {o : Obj} (h : w.heap[g]? = some o) : g < w.heap.size := (Array.getElem?_eq_some_iff.1 h).1

theorem tk_snoc {α : Type} (l : List α) (k : Nat) (h : k < l.length) (d : α) : l.take (k + 1) = l.take k ++ [l.getD k d] := by
  rw [List.take_succ_eq_append_getElem h]; simp [h]
theorem dr_cons {α : Type} (l : List α) (k : Nat) (h : k < l.length) (d : α) : l.drop k = l.getD k d :: l.drop (k + 1) := by
  rw [List.drop_eq_getElem_cons h]; simp [h]
end Go.Proofs.YtpeocdcciecpoaaDoor
