/- Latches: slices of them, of the call's own and those that came in (out of Ris, for stages without a riser). Lists that rise: the set of a list, the least above, who comes next. What is on the token, plainly: purged, added, wanted, bid, awarded, whose it is, passed on; a new ring. No program. The document's: a number put among those that rise. The set of some numbers: the document's. The document's sameness: of calls, of latches, of lists of latches (RSame over Lat). Whether a latch is among some: the document's. The document's ledger: a new ring, passed on, purged. -/
import Derived.Test.YtldheaamcnmlgaaGLa
import Derived.Lib.SlicesCompact
import Derived.Lib.RowBridge
import Derived.Test.YtldheaamcnmlgaaGLb
import Derived.Deep.DeepCutAuto
import Derived.Deep.CutBlock
namespace Go.Proofs.Ytldheaamcnmlgaa
open Go.RowKit

/-- A latch: the call, for the how manieth time. -/
structure La where
  f : Int
  d : Int
  g : Int
deriving DecidableEq
def zLa : La := ⟨0, 0, 0⟩
def La.cl (x : La) : List Value := [.int .i64 x.f, .int .i64 x.d, .int .i64 x.g]
def laC (l : List La) : List Value := l.flatMap La.cl
theorem laC_cons (x : La) (l : List La) : laC (x :: l) = .int .i64 x.f :: .int .i64 x.d :: .int .i64 x.g :: laC l := by simp [laC, La.cl]
theorem laC_snoc (l : List La) (x : La) : laC (l ++ [x]) = laC l ++ x.cl := by simp [laC]
theorem laC_get (T : List La) (i : Nat) (h : i < T.length) : (laC T)[i * 3]? = some (.int .i64 (T.getD i zLa).f) ∧ (laC T)[i * 3 + 1]? = some (.int .i64 (T.getD i zLa).d) ∧ (laC T)[i * 3 + 2]? = some (.int .i64 (T.getD i zLa).g) := by
  induction T generalizing i with
  | nil => simp at h
  | cons b l ih =>
    rw [laC_cons]
    cases i with
    | zero => simp
    | succ i =>
      have h' : i < l.length := by simpa using h
      have := ih i h'
      rw [show (i + 1) * 3 = i * 3 + 1 + 1 + 1 by omega]
      simpa using this
theorem infoL : (Try.prog.info? 37).map (fun i => (i.zero, i.size, i.bytes)) = some (some (.agg #[.int .i64 0, .int .i64 0, .int .i64 0]), 3, 24) := by kernel_rfl
/-- The slice v is the call's own, and holds the latches. -/
def OwnL (w : World) (B : Nat) (v : Value) (T : List La) : Prop := w.ownsRow B 37 3 v T.length (laC T)
theorem OwnL.nil (w : World) (B : Nat) : OwnL w B (.slice none 0 0) [] := ⟨rfl, .inl ⟨rfl, rfl⟩⟩
theorem OwnL.fr {w w' : World} {B : Nat} {v : Value} {l : List La} {S : List Nat} (h : OwnL w B v l) (hg : Fr w w' S) (hne : ∀ r ∈ S, v.ownBlock ≠ some r) : OwnL w' B v l := row_fr h hg hne
theorem OwnL.keep {w w' : World} {B : Nat} {v : Value} {l : List La} (h : OwnL w B v l) (hg : Fr w w' []) : OwnL w' B v l := h.fr hg (by simp)
theorem OwnL.snoc {w : World} {B : Nat} {v : Value} {l : List La} {x : La} (h : w.ownsRow B 37 3 v (l.length + 1) (laC l ++ x.cl)) : OwnL w B v (l ++ [x]) := by
  unfold OwnL
  rw [laC_snoc]
  simpa using h
theorem OwnL.block {w : World} {B : Nat} {v : Value} {l : List La} (h : OwnL w B v l) : ∀ r, v.ownBlock = some r → B ≤ r ∧ r < w.heap.size := World.ownsRow.lt h
theorem OwnL.shape {w : World} {B : Nat} {v : Value} {l : List La} (h : OwnL w B v l) : ∃ a c, v = .slice a l.length c := row_shape h
/-- The slice v holds the latches. -/
def HLs (w : World) (v : Value) (l : List La) : Prop :=
  ∃ a cap, v = .slice a l.length cap ∧ l.length ≤ cap ∧ cap ≤ maxLen ∧ (0 < l.length → ∃ b off, a = some ⟨b, off, none⟩ ∧ ∀ i, i < l.length →
    w.cell? ⟨b, off + i * 3, none⟩ = some (.int .i64 (l.getD i zLa).f) ∧ w.cell? ⟨b, off + i * 3 + 1, none⟩ = some (.int .i64 (l.getD i zLa).d) ∧ w.cell? ⟨b, off + i * 3 + 2, none⟩ = some (.int .i64 (l.getD i zLa).g))
theorem OwnL.holds {w : World} {B : Nat} {v : Value} {l : List La} (h : OwnL w B v l) : HLs w v l := by
  by_cases h0 : 0 < l.length
  · obtain ⟨g, c, rfl, hc, hm, _⟩ := row_head h h0
    have h2 := World.ownsRow.cellAt h
    refine ⟨_, c, rfl, hc, hm, fun _ => ⟨g, 0, rfl, fun i hi => ?_⟩⟩
    obtain ⟨g0, g1, g2⟩ := laC_get l i hi
    rw [Nat.zero_add]
    exact ⟨(h2 _ (by omega)).trans g0, (h2 _ (by omega)).trans g1, (h2 _ (by omega)).trans g2⟩
  · obtain rfl := List.eq_nil_of_length_eq_zero (by omega : l.length = 0)
    rcases h.2 with ⟨rfl, _⟩ | ⟨g, cap, cur, rfl, hb, hg, hn, hm, _⟩
    · exact ⟨none, 0, rfl, by simp, by decide, fun h => absurd h (by simp)⟩
    · exact ⟨_, cap, rfl, hn, hm, fun h => absurd h (by simp)⟩
theorem HLs.keep {w w' : World} {v : Value} {l : List La} (h : HLs w v l) (hf : Fr w w' []) : HLs w' v l := by
  obtain ⟨a, cap, rfl, h1, h2, h3⟩ := h
  refine ⟨a, cap, rfl, h1, h2, fun h0 => ?_⟩
  obtain ⟨b, off, rfl, hc⟩ := h3 h0
  exact ⟨b, off, rfl, fun i hi => ⟨hf.cell (hc i hi).1 (by simp), hf.cell (hc i hi).2.1 (by simp), hf.cell (hc i hi).2.2 (by simp)⟩⟩

/-- Its three cells. -/
theorem row3 {w : World} {g : Nat} {a b c : Value} {T : TypeId} (h : w.heap[g]? = some (.cells #[a, b, c] T (0, 0))) :
    w.cell? ⟨g, 0, none⟩ = some a ∧ w.cell? ⟨g, 1, none⟩ = some b ∧ w.cell? ⟨g, 2, none⟩ = some c :=
  ⟨by rw [cell_of_row w g 0 _ _ _ h]; rfl, by rw [cell_of_row w g 1 _ _ _ h]; rfl, by rw [cell_of_row w g 2 _ _ _ h]; rfl⟩

theorem set3_fr (w : World) (g : Nat) (a b c : Value) : Fr w (((w.setCell ⟨g, 0, none⟩ a).setCell ⟨g, 1, none⟩ b).setCell ⟨g, 2, none⟩ c) [g] :=
  ((Fr.setCell w g 0 a (by simp)).trans (Fr.setCell _ g 1 b (by simp))).trans (Fr.setCell _ g 2 c (by simp))
theorem set3_row {w : World} {g : Nat} {x y z : Value} {T : TypeId} (h : w.heap[g]? = some (.cells #[x, y, z] T (0, 0))) (a b c : Value) :
    (((w.setCell ⟨g, 0, none⟩ a).setCell ⟨g, 1, none⟩ b).setCell ⟨g, 2, none⟩ c).heap[g]? = some (.cells #[a, b, c] T (0, 0)) :=
  heap_setCell_same _ _ _ _ _ _ (heap_setCell_same _ _ _ _ _ _ (heap_setCell_same _ _ _ _ _ _ h))
theorem row_new3 (w : World) (a b c : Value) (T : TypeId) : ∀ j u, [a, b, c][j]? = some u → (w.alloc (.cells #[a, b, c] T)).cell? (Addr.add ⟨w.heap.size, 0, none⟩ j) = some u := by
  intro j u hu
  have h := heap_alloc_new w (.cells #[a, b, c] T)
  rw [Addr.add_lit, Nat.zero_add, cell_of_row _ _ _ _ _ _ h]
  simpa using hu
theorem la_one (x : La) : ∀ u ∈ x.cl, u.oneCell' = true := by
  intro u hu
  simp [La.cl] at hu
  rcases hu with rfl | rfl | rfl <;> rfl
end Go.Proofs.Ytldheaamcnmlgaa

namespace Go.Proofs.Ytldheaamcnmlgaa

/-- It rises, each once. -/
abbrev Rises (l : List Int) : Prop := l.Pairwise (· < ·)

theorem rises_unique : ∀ {l m : List Int}, Rises l → Rises m → (∀ x, x ∈ l ↔ x ∈ m) → l = m
  | [], [], _, _, _ => rfl
  | [], b :: m, _, _, h => by have := (h b).2 (by simp); simp at this
  | a :: l, [], _, _, h => by have := (h a).1 (by simp); simp at this
  | a :: l, b :: m, hl, hm, h => by
    obtain ⟨h1, h2⟩ := List.pairwise_cons.1 hl
    obtain ⟨h3, h4⟩ := List.pairwise_cons.1 hm
    have hab : a = b := by
      rcases List.mem_cons.1 ((h a).1 (by simp)) with e | e
      · exact e
      · rcases List.mem_cons.1 ((h b).2 (by simp)) with e' | e'
        · exact e'.symm
        · have := h3 a e; have := h1 b e'; omega
    subst hab
    congr 1
    refine rises_unique h2 h4 (fun x => ?_)
    constructor
    · intro hx
      rcases List.mem_cons.1 ((h x).1 (List.mem_cons_of_mem _ hx)) with e | e
      · have := h1 x hx; omega
      · exact e
    · intro hx
      rcases List.mem_cons.1 ((h x).2 (List.mem_cons_of_mem _ hx)) with e | e
      · have := h3 x hx; omega
      · exact e

theorem compact_inv (d : Array Int) (hd : ∀ i j, i ≤ j → j < d.size → d[i]! ≤ d[j]!) : ∀ m, m ≤ d.size →
    Rises (Lib.compactUpTo d m) ∧ (∀ x ∈ Lib.compactUpTo d m, x ≤ d[m - 1]!) ∧ ∀ x, x ∈ Lib.compactUpTo d m ↔ ∃ j, j < m ∧ d[j]! = x := by
  intro m
  induction m with
  | zero => intro _; simp [Lib.compactUpTo]
  | succ m ih =>
    intro hm
    obtain ⟨h1, h2, h3⟩ := ih (by omega)
    rw [Lib.compactUpTo_succ]
    by_cases hk : Lib.keeps d m = true
    · rw [if_pos hk]
      refine ⟨List.pairwise_append.2 ⟨h1, by simp, fun x hx y hy => ?_⟩, fun x hx => ?_, fun x => ?_⟩
      · obtain rfl := List.mem_singleton.1 hy
        have hx2 := h2 x hx
        rcases Nat.eq_zero_or_pos m with rfl | h0
        · simp [Lib.compactUpTo] at hx
        · have hne : d[m]! ≠ d[m - 1]! := by
            intro e
            rw [Lib.keeps_neg h0 e] at hk
            exact absurd hk (by simp)
          have := hd (m - 1) m (by omega) (by omega)
          omega
      · rw [Nat.add_sub_cancel]
        rcases List.mem_append.1 hx with h | h
        · have := h2 x h; have := hd (m - 1) m (by omega) (by omega); omega
        · obtain rfl := List.mem_singleton.1 h; exact Int.le_refl _
      · rw [List.mem_append, h3, List.mem_singleton]
        constructor
        · rintro (⟨j, hj, e⟩ | e)
          · exact ⟨j, by omega, e⟩
          · exact ⟨m, by omega, e.symm⟩
        · rintro ⟨j, hj, e⟩
          by_cases hjm : j = m
          · subst hjm; exact .inr e.symm
          · exact .inl ⟨j, by omega, e⟩
    · rw [if_neg hk, List.append_nil]
      have h0 : 0 < m := by
        rcases Nat.eq_zero_or_pos m with rfl | h0
        · exact absurd (Lib.keeps_lt_one d 0 (by omega)) hk
        · exact h0
      have he : d[m]! = d[m - 1]! := by
        by_cases e : d[m]! = d[m - 1]!
        · exact e
        · exact absurd (Lib.keeps_pos e) hk
      refine ⟨h1, fun x hx => ?_, fun x => ?_⟩
      · rw [Nat.add_sub_cancel, he]; exact h2 x hx
      · rw [h3]
        constructor
        · rintro ⟨j, hj, e⟩; exact ⟨j, by omega, e⟩
        · rintro ⟨j, hj, e⟩
          by_cases hjm : j = m
          · exact ⟨m - 1, by omega, by rw [← he, ← hjm]; exact e⟩
          · exact ⟨j, by omega, e⟩

/-- The set of a list. -/
def setOf (l : List Int) : List Int := Lib.compact (l.mergeSort fun x y => decide (x ≤ y))
theorem setOf_inv (l : List Int) : Rises (setOf l) ∧ ∀ x, x ∈ setOf l ↔ x ∈ l := by
  have hp := List.mergeSort_perm l (fun x y => decide (x ≤ y))
  have hs := List.pairwise_mergeSort (le := fun x y : Int => decide (x ≤ y)) (by intro a b c; simp; omega) (by intro a b; simp; omega) l
  obtain ⟨m, hm⟩ : ∃ m, m = l.mergeSort (fun x y => decide (x ≤ y)) := ⟨_, rfl⟩
  rw [← hm] at hp hs
  have hd : ∀ i j, i ≤ j → j < m.toArray.size → m.toArray[i]! ≤ m.toArray[j]! := by
    intro i j hij hj
    have hj' : j < m.length := by simpa using hj
    rw [getElem!_pos _ i (by simp; omega), getElem!_pos _ j hj]
    rcases Nat.lt_or_eq_of_le hij with h | rfl
    · have := List.pairwise_iff_getElem.1 hs i j (by omega) hj' h
      simpa using this
    · exact Int.le_refl _
  have := compact_inv m.toArray hd m.length (by simp)
  have hE : setOf l = Lib.compactUpTo m.toArray m.length := by unfold setOf Lib.compact; rw [← hm]
  rw [hE]
  refine ⟨this.1, fun x => ?_⟩
  rw [this.2.2, ← hp.mem_iff]
  constructor
  · rintro ⟨j, hj, e⟩
    rw [getElem!_pos _ j (by simpa using hj)] at e
    rw [← e]
    simp
  · intro hx
    obtain ⟨j, hj, e⟩ := List.getElem_of_mem hx
    exact ⟨j, hj, by rw [getElem!_pos _ j (by simpa using hj)]; simpa using e⟩
theorem setOf_rises (l : List Int) : Rises (setOf l) := (setOf_inv l).1
theorem mem_setOf {l : List Int} {x : Int} : x ∈ setOf l ↔ x ∈ l := (setOf_inv l).2 x
theorem setOf_nil : setOf [] = [] := by simp [setOf, Lib.compact, Lib.compactUpTo]
theorem setOf_eq {l m : List Int} (h : ∀ x, x ∈ l ↔ x ∈ m) : setOf l = setOf m := rises_unique (setOf_rises l) (setOf_rises m) (fun x => by rw [mem_setOf, mem_setOf, h])
theorem setOf_self {l : List Int} (h : Rises l) : setOf l = l := rises_unique (setOf_rises l) h (fun _ => mem_setOf)
theorem setOf_length (l : List Int) : (setOf l).length ≤ l.length := by
  unfold setOf
  refine Nat.le_trans (Lib.compact_length_le _) ?_
  simp

/-- The least above n, of a list; and whether there is one. -/
def AboveIs (l : List Int) (n x : Int) (b : Bool) : Prop := (b = false ∧ x = 0 ∧ ∀ y ∈ l, ¬ n < y) ∨ (b = true ∧ x ∈ l ∧ n < x ∧ ∀ y ∈ l, n < y → x ≤ y)
/-- The least of a list; and whether there is one. -/
def LeastIs (l : List Int) (x : Int) (b : Bool) : Prop := (l = [] ∧ x = 0 ∧ b = false) ∨ (b = true ∧ x ∈ l ∧ ∀ y ∈ l, x ≤ y)
/-- Who comes next. -/
def NextIs (l : List Int) (c x : Int) (b : Bool) : Prop := (c ∉ l ∧ x = 0 ∧ b = false) ∨ (c ∈ l ∧ b = true ∧ (AboveIs l c x true ∨ (AboveIs l c 0 false ∧ LeastIs l x true)))

theorem AboveIs.unique {l : List Int} {n x y : Int} {b c : Bool} (h : AboveIs l n x b) (k : AboveIs l n y c) : x = y ∧ b = c := by
  rcases h with ⟨rfl, rfl, h⟩ | ⟨rfl, h1, h2, h3⟩ <;> rcases k with ⟨rfl, rfl, k⟩ | ⟨rfl, k1, k2, k3⟩
  · exact ⟨rfl, rfl⟩
  · exact absurd k2 (h y k1)
  · exact absurd h2 (k x h1)
  · have := h3 y k1 k2; have := k3 x h1 h2; exact ⟨by omega, rfl⟩
theorem LeastIs.unique {l : List Int} {x y : Int} {b c : Bool} (h : LeastIs l x b) (k : LeastIs l y c) : x = y ∧ b = c := by
  rcases h with ⟨rfl, rfl, rfl⟩ | ⟨rfl, h1, h2⟩ <;> rcases k with ⟨e, rfl, rfl⟩ | ⟨rfl, k1, k2⟩
  · exact ⟨rfl, rfl⟩
  · simp at k1
  · subst e; simp at h1
  · have := h2 y k1; have := k2 x h1; exact ⟨by omega, rfl⟩
theorem AboveIs.nil (n : Int) : AboveIs [] n 0 false := .inl ⟨rfl, rfl, by simp⟩
theorem AboveIs.not {l : List Int} {n x y : Int} {b : Bool} (h : AboveIs l n x b) (hy : ¬ n < y) : AboveIs (l ++ [y]) n x b := by
  rcases h with ⟨rfl, rfl, h⟩ | ⟨rfl, h1, h2, h3⟩
  · refine .inl ⟨rfl, rfl, fun z hz => ?_⟩
    rcases List.mem_append.1 hz with h' | h'
    · exact h z h'
    · obtain rfl := List.mem_singleton.1 h'; exact hy
  · refine .inr ⟨rfl, by simp [h1], h2, fun z hz hn => ?_⟩
    rcases List.mem_append.1 hz with h' | h'
    · exact h3 z h' hn
    · obtain rfl := List.mem_singleton.1 h'; exact absurd hn hy
theorem AboveIs.new {l : List Int} {n x y : Int} {b : Bool} (h : AboveIs l n x b) (hy : n < y) (hx : b = false ∨ y < x) : AboveIs (l ++ [y]) n y true := by
  refine .inr ⟨rfl, by simp, hy, fun z hz hn => ?_⟩
  rcases List.mem_append.1 hz with h' | h'
  · rcases h with ⟨rfl, rfl, h⟩ | ⟨rfl, h1, h2, h3⟩
    · exact absurd hn (h z h')
    · have := h3 z h' hn
      rcases hx with e | e
      · simp at e
      · omega
  · obtain rfl := List.mem_singleton.1 h'; exact Int.le_refl _
theorem AboveIs.old {l : List Int} {n x y : Int} (h : AboveIs l n x true) (hy : ¬ y < x) : AboveIs (l ++ [y]) n x true := by
  rcases h with ⟨h, _⟩ | ⟨_, h1, h2, h3⟩
  · simp at h
  · refine .inr ⟨rfl, by simp [h1], h2, fun z hz hn => ?_⟩
    rcases List.mem_append.1 hz with h' | h'
    · exact h3 z h' hn
    · obtain rfl := List.mem_singleton.1 h'; omega
theorem above_some (n : Int) : ∀ (l : List Int), ∃ x b, AboveIs l n x b := by
  suffices h : ∀ (l : List Int) (k : List Int), (∃ x b, AboveIs k n x b) → ∃ x b, AboveIs (k ++ l) n x b by
    intro l; simpa using h l [] ⟨0, false, .nil n⟩
  intro l
  induction l with
  | nil => intro k h; simpa using h
  | cons y l ih =>
    rintro k ⟨x, b, h⟩
    have := ih (k ++ [y]) (by
      by_cases hy : n < y
      · cases b with
        | false => exact ⟨_, _, h.new hy (.inl rfl)⟩
        | true =>
          by_cases hx : y < x
          · exact ⟨_, _, h.new hy (.inr hx)⟩
          · exact ⟨_, _, h.old hx⟩
      · exact ⟨_, _, h.not hy⟩)
    simpa using this
theorem least_cons {l : List Int} (h : l ≠ []) : ∃ x, LeastIs l x true := by
  induction l with
  | nil => exact absurd rfl h
  | cons y l ih =>
    by_cases hl : l = []
    · subst hl; exact ⟨y, .inr ⟨rfl, by simp, by simp⟩⟩
    · obtain ⟨x, hx⟩ := ih hl
      rcases hx with ⟨_, _, e⟩ | ⟨_, h1, h2⟩
      · simp at e
      · by_cases hxy : y < x
        · refine ⟨y, .inr ⟨rfl, by simp, fun z hz => ?_⟩⟩
          rcases List.mem_cons.1 hz with rfl | hz
          · exact Int.le_refl _
          · have := h2 z hz; omega
        · refine ⟨x, .inr ⟨rfl, by simp [h1], fun z hz => ?_⟩⟩
          rcases List.mem_cons.1 hz with rfl | hz
          · omega
          · exact h2 z hz
theorem LeastIs.some (l : List Int) : ∃ x b, LeastIs l x b := by
  by_cases h : l = []
  · exact ⟨0, false, .inl ⟨h, rfl, rfl⟩⟩
  · obtain ⟨x, hx⟩ := least_cons h; exact ⟨x, true, hx⟩
theorem next_some (l : List Int) (c : Int) : ∃ x, NextIs l c x (decide (c ∈ l)) := by
  by_cases hc : c ∈ l
  · obtain ⟨x, b, h⟩ := above_some c l
    cases b with
    | true => exact ⟨x, .inr ⟨hc, by simp [hc], .inl h⟩⟩
    | false =>
      obtain ⟨y, hy⟩ := least_cons (l := l) (by rintro rfl; simp at hc)
      refine ⟨y, .inr ⟨hc, by simp [hc], .inr ⟨?_, hy⟩⟩⟩
      rcases h with ⟨_, _, h⟩ | ⟨h, _⟩
      · exact .inl ⟨rfl, rfl, h⟩
      · simp at h
  · exact ⟨0, .inl ⟨hc, rfl, by simp [hc]⟩⟩
theorem NextIs.unique {l : List Int} {c x y : Int} {b d : Bool} (h : NextIs l c x b) (k : NextIs l c y d) : x = y ∧ b = d := by
  rcases h with ⟨hc, rfl, rfl⟩ | ⟨hc, rfl, h⟩ <;> rcases k with ⟨kc, rfl, rfl⟩ | ⟨kc, rfl, k⟩
  · exact ⟨rfl, rfl⟩
  · exact absurd kc hc
  · exact absurd hc kc
  · refine ⟨?_, rfl⟩
    rcases h with h | ⟨h, h'⟩ <;> rcases k with k | ⟨k, k'⟩
    · exact (h.unique k).1
    · exact absurd (h.unique k).2 (by simp)
    · exact absurd (h.unique k).2 (by simp)
    · exact (h'.unique k').1

/-- Of a list that rises: behind the one at a place comes the one at the next place, behind the last the first. -/
theorem next_at {l : List Int} (hl : Rises l) (i : Nat) (hi : i < l.length) : NextIs l (l.getD i 0) (l.getD ((i + 1) % l.length) 0) true := by
  have hg : ∀ j, j < l.length → ∀ k, k < l.length → j < k → l.getD j 0 < l.getD k 0 := by
    intro j hj k hk hjk
    have := List.pairwise_iff_getElem.1 hl j k hj hk hjk
    simpa [hj, hk] using this
  have hm : ∀ j, j < l.length → l.getD j 0 ∈ l := by intro j hj; simp [hj]
  have hx : ∀ y ∈ l, ∃ j, j < l.length ∧ l.getD j 0 = y := by
    intro y hy
    obtain ⟨j, hj, e⟩ := List.getElem_of_mem hy
    exact ⟨j, hj, by simp [hj, e]⟩
  have hmono : ∀ j, j < l.length → ∀ k, k < l.length → l.getD j 0 < l.getD k 0 → j < k := by
    intro j hj k hk h
    rcases Nat.lt_trichotomy j k with h' | h' | h'
    · exact h'
    · subst h'; omega
    · have := hg k hk j hj h'; omega
  have hle : ∀ j, j < l.length → ∀ k, k < l.length → j ≤ k → l.getD j 0 ≤ l.getD k 0 := by
    intro j hj k hk h
    rcases Nat.lt_or_eq_of_le h with h' | rfl
    · have := hg j hj k hk h'; omega
    · exact Int.le_refl _
  refine .inr ⟨hm i hi, rfl, ?_⟩
  by_cases hlast : i + 1 < l.length
  · rw [Nat.mod_eq_of_lt hlast]
    refine .inl (.inr ⟨rfl, hm _ hlast, hg i hi _ hlast (by omega), fun y hy hn => ?_⟩)
    obtain ⟨j, hj, rfl⟩ := hx y hy
    exact hle _ hlast j hj (hmono i hi j hj hn)
  · obtain e : i + 1 = l.length := by omega
    rw [e, Nat.mod_self]
    refine .inr ⟨.inl ⟨rfl, rfl, fun y hy hn => ?_⟩, .inr ⟨rfl, hm 0 (by omega), fun y hy => ?_⟩⟩
    · obtain ⟨j, hj, rfl⟩ := hx y hy
      have := hmono i hi j hj hn
      omega
    · obtain ⟨j, hj, rfl⟩ := hx y hy
      exact hle 0 (by omega) j hj (by omega)
theorem rises_inj {l : List Int} (hl : Rises l) {i j : Nat} (hi : i < l.length) (hj : j < l.length) (h : l.getD i 0 = l.getD j 0) : i = j := by
  rcases Nat.lt_trichotomy i j with h' | h' | h'
  · have := List.pairwise_iff_getElem.1 hl i j hi hj h'
    simp [hi, hj] at h; omega
  · exact h'
  · have := List.pairwise_iff_getElem.1 hl j i hj hi h'
    simp [hi, hj] at h; omega
end Go.Proofs.Ytldheaamcnmlgaa

namespace Go.Proofs.Ytldheaamcnmlgaa
open Go.RowKit Fm

def laOf (e : En) : La := ⟨e.fl, e.di, e.ge⟩
def callOf (e : En) : Int × Int := (e.fl, e.di)
def purgeE (es : List En) (L : List La) : List En := es.filter fun e => decide (laOf e ∈ L)
def purgeR (r : Rg) (L : List La) : Rg := { r with es := purgeE r.es L }
def wantE (car : Int) (e : En) : Bool := decide (e.aw = -1) && (bidOf e.bs car).isNone
def wantsR (r : Rg) (car : Int) : List (Int × Int) := if car ∈ r.ms then (r.es.filter (wantE car)).map callOf else []
def mineR (r : Rg) (car : Int) : List La := if 0 ≤ car then (r.es.filter fun e => decide (e.aw = car)).map laOf else []
def newR (co fo : Int) (l : List Int) : Rg := ⟨co, fo, 0, setOf l, []⟩
def passR (r : Rg) : Rg := if 1099511627776 ≤ r.ho then r else { r with ho := r.ho + 1 }
def passB (r : Rg) : Bool := decide (¬ 1099511627776 ≤ r.ho)
/-- Where the first entry of a call stands. -/
def placeE (es : List En) (f d : Int) : Nat := (es.takeWhile fun e => !(decide (e.fl = f) && decide (e.di = d))).length
theorem placeE_le (es : List En) (f d : Int) : placeE es f d ≤ es.length := (List.takeWhile_sublist _).length_le
theorem placeE_is {f d : Int} : ∀ {es : List En} {k : Nat}, k ≤ es.length → (∀ i, i < k → ¬ ((es.getD i zeroE).fl = f ∧ (es.getD i zeroE).di = d)) → (k < es.length → (es.getD k zeroE).fl = f ∧ (es.getD k zeroE).di = d) → placeE es f d = k
  | [], k, h, _, _ => by
    have : k = 0 := by simpa using h
    rw [this]; rfl
  | x :: l, 0, _, _, h => by
    have := h (by simp)
    unfold placeE
    rw [List.takeWhile_cons, if_neg (by simpa using this)]; rfl
  | x :: l, k + 1, h, a, b => by
    have g : ¬ (x.fl = f ∧ x.di = d) := a 0 (by omega)
    unfold placeE
    rw [List.takeWhile_cons, if_pos (by rw [← Bool.decide_and, decide_eq_false g]; rfl), List.length_cons]
    congr 1
    exact placeE_is (by simpa using h) (fun i hi => a (i + 1) (by omega)) (fun hk => b (by simpa using hk))
/-- Whether a bid may be put on a call's entry. -/
def bidMay (r : Rg) (b : Int × Int) (k : Nat) : Prop := k < r.es.length ∧ (r.es.getD k zeroE).aw = -1 ∧ b.1 ∈ r.ms ∧ 0 ≤ b.2 ∧ b.2 ≤ 1048576
instance (r : Rg) (b : Int × Int) (k : Nat) : Decidable (bidMay r b k) := by unfold bidMay; exact inferInstance
def bidE (e : En) (b : Int × Int) : En := { e with bs := putB e.bs b }
def bidR (r : Rg) (b : Int × Int) (k : Nat) : Rg := if bidMay r b k then { r with es := r.es.set k (bidE (r.es.getD k zeroE) b) } else r
def bidRB (r : Rg) (b : Int × Int) (k : Nat) : Bool := decide (bidMay r b k) && (bidOf (r.es.getD k zeroE).bs b.1).isNone
/-- The least of some. -/
def leastB : List (Int × Int) → Int × Int
  | [] => (0, 0)
  | x :: l => leastOf x l
theorem leastB_is {l : List (Int × Int)} (h : l ≠ []) : LeastB l (leastB l) := by
  cases l with
  | nil => exact absurd rfl h
  | cons x l => exact leastOf_is l x
def winE (ms : List Int) (e : En) : Bool := decide (e.aw = -1) && fullB ms e.bs && !e.bs.isEmpty
def awardE (ms : List Int) (e : En) : En := if winE ms e = true then { e with aw := (leastB e.bs).1 } else e
def awardR (r : Rg) : Rg := { r with es := r.es.map (awardE r.ms) }
def wonR (r : Rg) : List En := (r.es.filter (winE r.ms)).map (awardE r.ms)
/-- By the calls' order. -/
def ltC (f d f' d' : Int) : Bool := decide (f < f') || (decide (f = f') && decide (d < d'))
def insL (x : La) : List La → List La
  | [] => [x]
  | y :: l => if ltC x.f x.d y.f y.d = true then x :: y :: l else y :: insL x l
def sortL (L : List La) : List La := L.foldl (fun s x => insL x s) []
def insE (x : La) : List En → List En
  | [] => [⟨x.f, x.d, x.g, [], -1⟩]
  | e :: l => if ltC e.fl e.di x.f x.d = true then e :: insE x l else ⟨x.f, x.d, x.g, [], -1⟩ :: e :: l
def addStep (es : List En) (x : La) : List En := if 128 ≤ es.length ∨ placeE es x.f x.d < es.length then es else insE x es
def addR (r : Rg) (L : List La) : Rg := { r with es := (sortL L).foldl addStep r.es }
end Go.Proofs.Ytldheaamcnmlgaa

namespace Go.Proofs.Ytldheaamcnmlgaa
open Go.RowKit

/-- A number put among those that rise. -/
def putS : List Int → Int → List Int
  | [], x => [x]
  | y :: l, x => if y < x then y :: putS l x else if y = x then y :: l else x :: y :: l
theorem mem_putS {l : List Int} {x y : Int} : y ∈ putS l x ↔ y = x ∨ y ∈ l := by
  induction l with
  | nil => simp [putS]
  | cons z l ih =>
    unfold putS
    by_cases h1 : z < x
    · rw [if_pos h1, List.mem_cons, ih, List.mem_cons]
      constructor
      · rintro (h | h | h)
        · exact .inr (.inl h)
        · exact .inl h
        · exact .inr (.inr h)
      · rintro (h | h | h)
        · exact .inr (.inl h)
        · exact .inl h
        · exact .inr (.inr h)
    · rw [if_neg h1]
      by_cases h2 : z = x
      · rw [if_pos h2]; subst h2; simp
      · rw [if_neg h2]; simp
theorem putS_at : ∀ (l : List Int) (x : Int), ∃ k, k ≤ l.length ∧ (∀ j, j < k → l.getD j 0 < x) ∧ (k < l.length → ¬ l.getD k 0 < x) ∧
    ((k < l.length ∧ l.getD k 0 = x ∧ putS l x = l) ∨ ((k < l.length → l.getD k 0 ≠ x) ∧ putS l x = l.take k ++ [x] ++ l.drop k))
  | [], x => ⟨0, by simp, by simp, by simp, .inr ⟨by simp, by simp [putS]⟩⟩
  | z :: l, x => by
    by_cases h1 : z < x
    · obtain ⟨k, hk, a, b, c⟩ := putS_at l x
      refine ⟨k + 1, by simpa using hk, fun j hj => ?_, fun h => ?_, ?_⟩
      · cases j with
        | zero => simpa using h1
        | succ j => simpa using a j (by omega)
      · have := b (by simpa using h)
        simpa using this
      · rcases c with ⟨c1, c2, c3⟩ | ⟨c1, c2⟩
        · refine .inl ⟨by simpa using c1, by simpa using c2, ?_⟩
          unfold putS; rw [if_pos h1, c3]
        · refine .inr ⟨fun h => ?_, ?_⟩
          · have := c1 (by simpa using h)
            simpa using this
          · unfold putS; rw [if_pos h1, c2]; simp
    · refine ⟨0, by simp, by simp, by simpa using h1, ?_⟩
      by_cases h2 : z = x
      · refine .inl ⟨by simp, by simpa using h2, ?_⟩
        unfold putS; rw [if_neg h1, if_pos h2]
      · refine .inr ⟨fun _ => by simpa using h2, ?_⟩
        unfold putS; rw [if_neg h1, if_neg h2]; simp

end Go.Proofs.Ytldheaamcnmlgaa

namespace Go.Proofs.Ytldheaamcnmlgaa
open Go.RowKit
theorem putS_rises {l : List Int} {x : Int} (h : Rises l) : Rises (putS l x) := by
  induction l with
  | nil => simp [putS]
  | cons z l ih =>
    obtain ⟨a, b⟩ := List.pairwise_cons.1 h
    unfold putS
    by_cases h1 : z < x
    · rw [if_pos h1]
      refine List.pairwise_cons.2 ⟨fun y hy => ?_, ih b⟩
      rcases mem_putS.1 hy with rfl | hy
      · exact h1
      · exact a y hy
    · rw [if_neg h1]
      by_cases h2 : z = x
      · rw [if_pos h2]; exact h
      · rw [if_neg h2]
        refine List.pairwise_cons.2 ⟨fun y hy => ?_, h⟩
        rcases List.mem_cons.1 hy with rfl | hy
        · omega
        · have := a y hy; omega
theorem setS_inv (l : List Int) : ∀ (s : List Int), Rises s → Rises (l.foldl putS s) ∧ ∀ x, x ∈ l.foldl putS s ↔ x ∈ s ∨ x ∈ l := by
  induction l with
  | nil => intro s hs; exact ⟨hs, by simp⟩
  | cons y l ih =>
    intro s hs
    obtain ⟨a, b⟩ := ih (putS s y) (putS_rises hs)
    refine ⟨a, fun x => ?_⟩
    rw [List.foldl_cons, b, mem_putS, List.mem_cons]
    constructor
    · rintro ((h | h) | h)
      · exact .inr (.inl h)
      · exact .inl h
      · exact .inr (.inr h)
    · rintro (h | h | h)
      · exact .inl (.inr h)
      · exact .inl (.inl h)
      · exact .inr h
theorem setS_eq (l : List Int) : l.foldl putS [] = setOf l := by
  obtain ⟨a, b⟩ := setS_inv l [] List.Pairwise.nil
  exact rises_unique a (setOf_rises l) (fun x => by rw [b, mem_setOf]; simp)
end Go.Proofs.Ytldheaamcnmlgaa

namespace Go.Proofs.Ytldheaamcnmlgaa
open Go.RowKit

theorem call_same (f d f' d' : Int) (w : World) (b : Bool) (hb : decide (f = f' ∧ d = d') = b) :
    Calls Try.prog 13 #[.agg #[.int .i64 f, .int .i64 d], .agg #[.int .i64 f', .int .i64 d']] w fun e w' => e = .returned (.bool b) ∧ Fr w w' [] := by
  have HF := Lib.hid ((Fr.alloc w (.cells #[.int .i64 f, .int .i64 d] 35) []).trans (Fr.alloc _ (.cells #[.int .i64 f', .int .i64 d'] 35) []))
  by_cases h1 : f = f'
  · subst h1
    have HB : Hid (b = decide (d = d')) := by show _ = _; rw [← hb]; simp
    clear hb
    go_enter Try.func13, Try.ntmps13
    go_wp2
    go_ret
    exact ⟨by rw [HB.out]; rfl, HF.out⟩
  · have HB : Hid (b = false) := by show _ = _; rw [← hb]; simp [h1]
    have e1 : (f == f') = false := by simp [h1]
    clear hb h1
    go_enter Try.func13, Try.ntmps13
    go_wp2
    go_ret
    exact ⟨by rw [HB.out]; rfl, HF.out⟩
set_option maxRecDepth 100000 in
theorem latch_same (x y : La) (w : World) (b : Bool) (hb : decide (x = y) = b) :
    Calls Try.prog 42 #[.agg #[.int .i64 x.f, .int .i64 x.d, .int .i64 x.g], .agg #[.int .i64 y.f, .int .i64 y.d, .int .i64 y.g]] w fun e w' => e = .returned (.bool b) ∧ Fr w w' [] := by
  obtain ⟨f, d, g⟩ := x
  obtain ⟨f', d', g'⟩ := y
  have HF := Lib.hid ((Fr.alloc w (.cells #[.int .i64 f, .int .i64 d, .int .i64 g] 37) []).trans (Fr.alloc _ (.cells #[.int .i64 f', .int .i64 d', .int .i64 g'] 37) []))
  have H1 := Lib.hid ((Fr.alloc _ (.cells #[.int .i64 f', .int .i64 d', .int .i64 g'] 37) []).heap (heap_alloc_new w (.cells #[.int .i64 f, .int .i64 d, .int .i64 g] 37)) (by simp))
  have H2 := Lib.hid (heap_alloc_new (w.alloc (.cells #[.int .i64 f, .int .i64 d, .int .i64 g] 37)) (.cells #[.int .i64 f', .int .i64 d', .int .i64 g'] 37))
  rw [show (w.alloc (.cells #[.int .i64 f, .int .i64 d, .int .i64 g] 37)).heap.size = w.heap.size + 1 by simp] at H2
  by_cases h1 : f = f' ∧ d = d'
  · obtain ⟨rfl, rfl⟩ := h1
    have HB : Hid (b = decide (g = g')) := by show _ = _; rw [← hb]; simp
    clear hb
    go_enter Try.func42, Try.ntmps42
    go_wp2_with fail
    refine (call_same f d f d _ true (by simp)).mono ?_
    rintro e w1 ⟨rfl, hf⟩
    obtain ⟨_, _, r2⟩ := row3 (hf.heap H1.out (by simp))
    obtain ⟨_, _, q2⟩ := row3 (hf.heap H2.out (by simp))
    have HF1 := Lib.hid (HF.out.trans hf)
    clear hf
    go_wp2
    go_ret
    exact ⟨by rw [HB.out]; rfl, HF1.out⟩
  · have HB : Hid (b = false) := by
      show _ = _
      rw [← hb, decide_eq_false_iff_not]
      intro e
      rw [La.mk.injEq] at e
      exact h1 ⟨e.1, e.2.1⟩
    have HN := Lib.hid (show decide (f = f' ∧ d = d') = false by simp; exact fun a => fun c => h1 ⟨a, c⟩)
    clear hb h1
    go_enter Try.func42, Try.ntmps42
    go_wp2_with fail
    refine (call_same f d f' d' _ false HN.out).mono ?_
    rintro e w1 ⟨rfl, hf⟩
    have HF1 := Lib.hid (HF.out.trans hf)
    clear hf
    go_wp2
    go_ret
    exact ⟨by rw [HB.out]; rfl, HF1.out⟩
end Go.Proofs.Ytldheaamcnmlgaa

namespace Go.Proofs.Ytldheaamcnmlgaa
open Go.RowKit
/-- A latch in its place, another in its box. -/
def SH (W : World) (b o bx : Nat) (x y : La) (a : World) : Prop := Fr W a [] ∧
  (a.cell? ⟨b, o, none⟩ = some (.int .i64 x.f) ∧ a.cell? ⟨b, o + 1, none⟩ = some (.int .i64 x.d) ∧ a.cell? ⟨b, o + 2, none⟩ = some (.int .i64 x.g)) ∧
  (a.cell? ⟨bx, 0, none⟩ = some (.int .i64 y.f) ∧ a.cell? ⟨bx, 1, none⟩ = some (.int .i64 y.d) ∧ a.cell? ⟨bx, 2, none⟩ = some (.int .i64 y.g))
theorem SH.fr {W a a' : World} {b o bx : Nat} {x y : La} (h : SH W b o bx x y a) (k : Fr a a' []) : SH W b o bx x y a' := by
  obtain ⟨h0, ⟨h1, h2, h3⟩, h4, h5, h6⟩ := h
  exact ⟨h0.trans k, ⟨k.cell h1 (by simp), k.cell h2 (by simp), k.cell h3 (by simp)⟩, k.cell h4 (by simp), k.cell h5 (by simp), k.cell h6 (by simp)⟩
set_option maxRecDepth 100000 in
theorem hasLatch_any (v : Value) (l : List La) (y : La) (w : World) (hv : HLs w v l) (b : Bool) (hb : b = decide (y ∈ l)) :
    Calls Try.prog 22 #[v, .agg #[.int .i64 y.f, .int .i64 y.d, .int .i64 y.g]] w fun e w' => e = .returned (.bool b) ∧ Fr w w' [] := by
  obtain ⟨a, c, rfl, p1, q1, r1⟩ := hv
  unfold maxLen at q1
  have HLS := Lib.hid r1
  have HB := Lib.hid hb
  obtain ⟨n, hn⟩ : ∃ n, n = l.length := ⟨_, rfl⟩
  have HN := Lib.hid hn
  rw [← hn] at p1 HLS ⊢
  have HF0 := Lib.hid (Fr.alloc w (.cells #[.int .i64 y.f, .int .i64 y.d, .int .i64 y.g] 37) [])
  have HX := Lib.hid (heap_alloc_new w (.cells #[.int .i64 y.f, .int .i64 y.d, .int .i64 y.g] 37))
  clear r1 hb hn
  go_enter Try.func22, Try.ntmps22
  go_wp2
  go_loopw [5] (fun s5 wr => ∃ k : Nat, k ≤ n ∧ s5 = .int .i64 k ∧ Hid (∀ j, j < k → l.getD j zLa ≠ y) ∧ Hid (Fr (w.alloc (.cells #[.int .i64 y.f, .int .i64 y.d, .int .i64 y.g] 37)) wr [])) (fun i _ => n - (intOf i).toNat)
  case atStart => exact ⟨0, Nat.zero_le _, rfl, fun j hj => absurd hj (Nat.not_lt_zero _), (Fr.refl _ _ : Fr _ _ _)⟩
  case round =>
    obtain ⟨k, hk, rfl, HP, HG⟩ := hrel
    by_cases hlt : k < n
    · obtain ⟨bk, off, rfl, hc⟩ := HLS.out (by omega)
      obtain ⟨x, hx⟩ : ∃ x, x = l.getD k zLa := ⟨_, rfl⟩
      have g1 := hc k hlt
      rw [← hx] at g1
      obtain ⟨z0, z1, z2⟩ := row3 (HG.out.heap HX.out (by simp))
      have HK := Lib.hid ((HF0.out.trans HG.out).trans (Fr.drew wr []))
      have HSH := Lib.hid (show SH (w.alloc (.cells #[.int .i64 y.f, .int .i64 y.d, .int .i64 y.g] 37)) bk (off + k * 3) w.heap.size x y wr.drew from
        ⟨HG.out.trans (Fr.drew wr []), ⟨HK.out.cell g1.1 (by simp), HK.out.cell g1.2.1 (by simp), HK.out.cell g1.2.2 (by simp)⟩, (Fr.drew wr []).cell z0 (by simp), (Fr.drew wr []).cell z1 (by simp), (Fr.drew wr []).cell z2 (by simp)⟩)
      by_cases hxy : x = y
      · have HV := Lib.hid (fun W => latch_same x y W true (by simp [hxy]))
        have HN2 : Hid (b = true) := by
          show _ = _
          rw [HB.out, decide_eq_true_iff, ← hxy, hx, List.getD_eq_getElem?_getD, List.getElem?_eq_getElem (by have := HN.out; omega)]
          exact List.getElem_mem _
        clear hx hc g1 z0 z1 z2 hxy
        go_wp2
        refine wp_region_det (S := SH (w.alloc (.cells #[.int .i64 y.f, .int .i64 y.d, .int .i64 y.g] 37)) bk (off + k * 3) w.heap.size x y) (by kernel_rfl) HSH.out ?_
        refine wpDet_take (i := 0) (oi := _) (v := ?dv1) (by simp only [List.getElem?_toArray, List.getElem?_cons_zero]; rfl) (by kernel_rfl) (by kernel_rfl) (by kernel_rfl) (Or.inl ⟨by rfl, ?dy1⟩) ?dr1
        case dy1 => (intro w hSw; have hS0 := hSw; (try dsimp only [SH] at hSw); go_simp; refine Came.value ?_ hS0; with_reducible rfl)
        try simp only [Act.put, List.setIfInBounds_toArray, List.set_cons_zero, List.set_cons_succ]
        refine wpDet_take (i := 1) (oi := _) (v := ?dv2) (by simp only [List.getElem?_toArray, List.getElem?_cons_zero, List.getElem?_cons_succ]; rfl) (by kernel_rfl) (by kernel_rfl) (by kernel_rfl) (Or.inl ⟨by rfl, ?dy2⟩) ?dr2
        case dy2 => (intro w hSw; have hS0 := hSw; (try dsimp only [SH] at hSw); go_simp; refine Came.value ?_ hS0; with_reducible rfl)
        try simp only [Act.put, List.setIfInBounds_toArray, List.set_cons_zero, List.set_cons_succ]
        refine wpDet_take (i := 2) (oi := _) (v := ?dv3) (by simp only [List.getElem?_toArray, List.getElem?_cons_zero, List.getElem?_cons_succ]; rfl) (by kernel_rfl) (by kernel_rfl) (by kernel_rfl) (Or.inl ⟨by rfl, ?dy3⟩) ?dr3
        case dy3 => (intro w hSw; have hS0 := hSw; (try dsimp only [SH] at hSw); go_simp; refine Came.value ?_ hS0; with_reducible rfl)
        try simp only [Act.put, List.setIfInBounds_toArray, List.set_cons_zero, List.set_cons_succ]
        refine wpDet_take (i := 3) (oi := _) (v := ?dv4) (by simp only [List.getElem?_toArray, List.getElem?_cons_zero, List.getElem?_cons_succ]; rfl) (by kernel_rfl) (by kernel_rfl) (by kernel_rfl) (Or.inl ⟨by rfl, ?dy4⟩) ?dr4
        case dy4 => (intro w hSw; have hS0 := hSw; (try dsimp only [SH] at hSw); go_simp; refine Came.value ?_ hS0; with_reducible rfl)
        try simp only [Act.put, List.setIfInBounds_toArray, List.set_cons_zero, List.set_cons_succ]
        refine wpDet_take (i := 4) (oi := _) (v := ?dv5) (by simp only [List.getElem?_toArray, List.getElem?_cons_zero, List.getElem?_cons_succ]; rfl) (by kernel_rfl) (by kernel_rfl) (by kernel_rfl) (Or.inl ⟨by rfl, ?dy5⟩) ?dr5
        case dy5 => (intro w hSw; have hS0 := hSw; (try dsimp only [SH] at hSw); go_simp; refine Came.value ?_ hS0; with_reducible rfl)
        try simp only [Act.put, List.setIfInBounds_toArray, List.set_cons_zero, List.set_cons_succ]
        refine wpDet_take (i := 5) (oi := _) (v := ?dv6) (by simp only [List.getElem?_toArray, List.getElem?_cons_zero, List.getElem?_cons_succ]; rfl) (by kernel_rfl) (by kernel_rfl) (by kernel_rfl) (Or.inl ⟨by rfl, ?dy6⟩) ?dr6
        case dy6 => (intro w hSw; go_simp; exact Came.call ((HV.out w).mono fun e w' ⟨he, hf⟩ => ⟨he, hSw.fr hf⟩) (by with_reducible rfl))
        try simp only [Act.put, List.setIfInBounds_toArray, List.set_cons_zero, List.set_cons_succ]
        refine wpDet_done (by kernel_rfl) ?_ _
        rintro w1 ⟨hF, _, _⟩
        have HF := Lib.hid (HF0.out.trans hF)
        clear hF
        go_wp2
        go_ret
        exact ⟨by rw [HN2.out]; rfl, HF.out⟩
      · have HV := Lib.hid (fun W => latch_same x y W false (by simp [hxy]))
        have HP2 : Hid (∀ j, j < k + 1 → l.getD j zLa ≠ y) := by
          intro j hj
          by_cases e : j = k
          · rw [e, ← hx]; exact hxy
          · exact HP.out j (by omega)
        clear hx hc g1 z0 z1 z2 hxy
        go_wp2
        refine wp_region_det (S := SH (w.alloc (.cells #[.int .i64 y.f, .int .i64 y.d, .int .i64 y.g] 37)) bk (off + k * 3) w.heap.size x y) (by kernel_rfl) HSH.out ?_
        refine wpDet_take (i := 0) (oi := _) (v := ?dv7) (by simp only [List.getElem?_toArray, List.getElem?_cons_zero]; rfl) (by kernel_rfl) (by kernel_rfl) (by kernel_rfl) (Or.inl ⟨by rfl, ?dy7⟩) ?dr7
        case dy7 => (intro w hSw; have hS0 := hSw; (try dsimp only [SH] at hSw); go_simp; refine Came.value ?_ hS0; with_reducible rfl)
        try simp only [Act.put, List.setIfInBounds_toArray, List.set_cons_zero, List.set_cons_succ]
        refine wpDet_take (i := 1) (oi := _) (v := ?dv8) (by simp only [List.getElem?_toArray, List.getElem?_cons_zero, List.getElem?_cons_succ]; rfl) (by kernel_rfl) (by kernel_rfl) (by kernel_rfl) (Or.inl ⟨by rfl, ?dy8⟩) ?dr8
        case dy8 => (intro w hSw; have hS0 := hSw; (try dsimp only [SH] at hSw); go_simp; refine Came.value ?_ hS0; with_reducible rfl)
        try simp only [Act.put, List.setIfInBounds_toArray, List.set_cons_zero, List.set_cons_succ]
        refine wpDet_take (i := 2) (oi := _) (v := ?dv9) (by simp only [List.getElem?_toArray, List.getElem?_cons_zero, List.getElem?_cons_succ]; rfl) (by kernel_rfl) (by kernel_rfl) (by kernel_rfl) (Or.inl ⟨by rfl, ?dy9⟩) ?dr9
        case dy9 => (intro w hSw; have hS0 := hSw; (try dsimp only [SH] at hSw); go_simp; refine Came.value ?_ hS0; with_reducible rfl)
        try simp only [Act.put, List.setIfInBounds_toArray, List.set_cons_zero, List.set_cons_succ]
        refine wpDet_take (i := 3) (oi := _) (v := ?dv10) (by simp only [List.getElem?_toArray, List.getElem?_cons_zero, List.getElem?_cons_succ]; rfl) (by kernel_rfl) (by kernel_rfl) (by kernel_rfl) (Or.inl ⟨by rfl, ?dy10⟩) ?dr10
        case dy10 => (intro w hSw; have hS0 := hSw; (try dsimp only [SH] at hSw); go_simp; refine Came.value ?_ hS0; with_reducible rfl)
        try simp only [Act.put, List.setIfInBounds_toArray, List.set_cons_zero, List.set_cons_succ]
        refine wpDet_take (i := 4) (oi := _) (v := ?dv11) (by simp only [List.getElem?_toArray, List.getElem?_cons_zero, List.getElem?_cons_succ]; rfl) (by kernel_rfl) (by kernel_rfl) (by kernel_rfl) (Or.inl ⟨by rfl, ?dy11⟩) ?dr11
        case dy11 => (intro w hSw; have hS0 := hSw; (try dsimp only [SH] at hSw); go_simp; refine Came.value ?_ hS0; with_reducible rfl)
        try simp only [Act.put, List.setIfInBounds_toArray, List.set_cons_zero, List.set_cons_succ]
        refine wpDet_take (i := 5) (oi := _) (v := ?dv12) (by simp only [List.getElem?_toArray, List.getElem?_cons_zero, List.getElem?_cons_succ]; rfl) (by kernel_rfl) (by kernel_rfl) (by kernel_rfl) (Or.inl ⟨by rfl, ?dy12⟩) ?dr12
        case dy12 => (intro w hSw; go_simp; exact Came.call ((HV.out w).mono fun e w' ⟨he, hf⟩ => ⟨he, hSw.fr hf⟩) (by with_reducible rfl))
        try simp only [Act.put, List.setIfInBounds_toArray, List.set_cons_zero, List.set_cons_succ]
        refine wpDet_done (by kernel_rfl) ?_ _
        rintro w1 ⟨hF, _, _⟩
        have HF := Lib.hid hF
        clear hF
        go_wp2
        go_roundw
        case rel => exact ⟨k + 1, by omega, by go_num, HP2, HF⟩
        case measure => simp [intOf]; omega
    · obtain rfl : n = k := by omega
      have HN2 : Hid (b = false) := by
        show _ = _
        rw [HB.out, decide_eq_false_iff_not]
        intro hm
        obtain ⟨j, hj, hy⟩ := List.getElem_of_mem hm
        refine HP.out j (by have := HN.out; omega) ?_
        rw [List.getD_eq_getElem?_getD, List.getElem?_eq_getElem hj]
        exact hy
      have HF := Lib.hid (HF0.out.trans HG.out)
      go_wp2
      go_ret
      exact ⟨by rw [HN2.out]; rfl, HF.out⟩
end Go.Proofs.Ytldheaamcnmlgaa

namespace Go.Proofs.Ytldheaamcnmlgaa
open Go.RowKit Fm

/-- Behind CopyRing: what it answered lies in a box of its own. -/
theorem RB.of_copy {r : Rg} {V w1 : World} {u : Value} (h : CopyR r V u w1) : ∃ vm ve xs, u = rgV r vm ve ∧ RB V w1.heap.size r.co r.fo r.ho vm ve r.ms xs (w1.alloc (.cells #[.int .i64 r.co, .int .i64 r.fo, .int .i64 r.ho, vm, ve] 27)) ∧ xs.map (·.1) = r.es := by
  obtain ⟨vm, ve, xs, e, h1, h2, h3, h4⟩ := h
  have k := Fr.alloc w1 (.cells #[.int .i64 r.co, .int .i64 r.fo, .int .i64 r.ho, vm, ve] 27) []
  exact ⟨vm, ve, xs, e, ⟨h4.trans k, h4.size, heap_alloc_new w1 _, h1.keep k, h2.keep k⟩, h3⟩
/-- The ring handed out by its answer's box. -/
theorem RB.ret {w V a : World} {g g2 : Nat} {co fo ho : Int} {um ve : Value} {ms : List Int} {xs : List (En × Value)} {z0 z1 z2 z3 z4 : Value} (h : RB V g co fo ho um ve ms xs a) (hV : Fr w V []) (hz : V.heap[g2]? = some (.cells #[z0, z1, z2, z3, z4] 27 (0, 0))) (hg : w.heap.size ≤ g2) :
    C5 g2 (.int .i64 co) (.int .i64 fo) (.int .i64 ho) um ve (((((a.setCell ⟨g2, 0, none⟩ (.int .i64 co)).setCell ⟨g2, 1, none⟩ (.int .i64 fo)).setCell ⟨g2, 2, none⟩ (.int .i64 ho)).setCell ⟨g2, 3, none⟩ um).setCell ⟨g2, 4, none⟩ ve) ∧
    HInts (((((a.setCell ⟨g2, 0, none⟩ (.int .i64 co)).setCell ⟨g2, 1, none⟩ (.int .i64 fo)).setCell ⟨g2, 2, none⟩ (.int .i64 ho)).setCell ⟨g2, 3, none⟩ um).setCell ⟨g2, 4, none⟩ ve) um ms ∧
    HE (((((a.setCell ⟨g2, 0, none⟩ (.int .i64 co)).setCell ⟨g2, 1, none⟩ (.int .i64 fo)).setCell ⟨g2, 2, none⟩ (.int .i64 ho)).setCell ⟨g2, 3, none⟩ um).setCell ⟨g2, 4, none⟩ ve) ve (xs.map (·.1)) ∧
    Fr w (((((a.setCell ⟨g2, 0, none⟩ (.int .i64 co)).setCell ⟨g2, 1, none⟩ (.int .i64 fo)).setCell ⟨g2, 2, none⟩ (.int .i64 ho)).setCell ⟨g2, 3, none⟩ um).setCell ⟨g2, 4, none⟩ ve) [] := by
  have hz2 := h.f.heap hz (by simp)
  have hF := set5_fr a g2 (.int .i64 co) (.int .i64 fo) (.int .i64 ho) um ve
  exact ⟨row5 (set5 hz2 _ _ _ _ _), (h.oi.far hF hz2 (by decide)).holds, (h.oe.fr hF (by intro r hr; obtain rfl := List.mem_singleton.1 hr; exact ⟨_, _, hz2, by decide, by decide⟩)).he, (hV.trans h.f).new hF (by intro r hr; obtain rfl := List.mem_singleton.1 hr; exact hg)⟩
/-- A number of the box stored anew. -/
theorem RB.hop {V a : World} {g : Nat} {co fo ho : Int} {um ve : Value} {ms : List Int} {xs : List (En × Value)} (h : RB V g co fo ho um ve ms xs a) (x : Int) : RB V g co fo x um ve ms xs (a.setCell ⟨g, 2, none⟩ (.int .i64 x)) := by
  have hf : Fr a (a.setCell ⟨g, 2, none⟩ (.int .i64 x)) [g] := Fr.setCell a g 2 _ (by simp)
  refine ⟨h.f.new hf (by intro r hr; obtain rfl := List.mem_singleton.1 hr; exact h.hg), h.hg, ?_, h.oi.far hf h.row (by decide), h.oe.fr hf (by intro r hr; obtain rfl := List.mem_singleton.1 hr; exact ⟨_, _, h.row, by decide, by decide⟩)⟩
  rw [heap_setCell_same _ g 2 _ _ _ h.row]; rfl
/-- Its entries gone. -/
theorem RB.gone {V a : World} {g : Nat} {co fo ho : Int} {um ve : Value} {ms : List Int} {xs : List (En × Value)} (h : RB V g co fo ho um ve ms xs a) : RB V g co fo ho um (.slice none 0 0) ms [] (a.setCell ⟨g, 4, none⟩ (.slice none 0 0)) := by
  have hf : Fr a (a.setCell ⟨g, 4, none⟩ (.slice none 0 0)) [g] := Fr.setCell a g 4 _ (by simp)
  refine ⟨h.f.new hf (by intro r hr; obtain rfl := List.mem_singleton.1 hr; exact h.hg), h.hg, ?_, h.oi.far hf h.row (by decide), OwnE.nil _ _⟩
  rw [heap_setCell_same _ g 4 _ _ _ h.row]; rfl
/-- What Pass answers. -/
def PassE (r' : Rg) (b : Bool) (w : World) (u : Value) (w' : World) : Prop := ∃ x, u = .tuple #[x, .bool b] ∧ HR w' x r' ∧ Fr w w' []
end Go.Proofs.Ytldheaamcnmlgaa
