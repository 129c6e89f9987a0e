/- Lists that rise: the set of a list, the least above, who comes next. -/
import Derived.Test.YtjjlajcpngphpaaBase
import Derived.Lib.SlicesCompact
import Derived.Lib.RowBridge
namespace Go.Proofs.Ytjjlajcpngphpaa

/-- It rises, each once. -/
abbrev Rises (l : List Int) : Prop := l.Pairwise (· < ·)

theorem rises_unique : ∀ {l m : List Int}, Rises l → Rises m → (∀ x, x ∈ l ↔ x ∈ m) → l = m
  | [], [], _, _, _ => rfl
  | [], b :: m, _, _, h => by have := (h b).2 (by simp); simp at this
  | a :: l, [], _, _, h => by have := (h a).1 (by simp); simp at this
  | a :: l, b :: m, hl, hm, h => by
    obtain ⟨h1, h2⟩ := List.pairwise_cons.1 hl
    obtain ⟨h3, h4⟩ := List.pairwise_cons.1 hm
    have hab : a = b := by
      rcases List.mem_cons.1 ((h a).1 (by simp)) with e | e
      · exact e
      · rcases List.mem_cons.1 ((h b).2 (by simp)) with e' | e'
        · exact e'.symm
        · have := h3 a e; have := h1 b e'; omega
    subst hab
    congr 1
    refine rises_unique h2 h4 (fun x => ?_)
    constructor
    · intro hx
      rcases List.mem_cons.1 ((h x).1 (List.mem_cons_of_mem _ hx)) with e | e
      · have := h1 x hx; omega
      · exact e
    · intro hx
      rcases List.mem_cons.1 ((h x).2 (List.mem_cons_of_mem _ hx)) with e | e
      · have := h3 x hx; omega
      · exact e

theorem compact_inv (d : Array Int) (hd : ∀ i j, i ≤ j → j < d.size → d[i]! ≤ d[j]!) : ∀ m, m ≤ d.size →
    Rises (Lib.compactUpTo d m) ∧ (∀ x ∈ Lib.compactUpTo d m, x ≤ d[m - 1]!) ∧ ∀ x, x ∈ Lib.compactUpTo d m ↔ ∃ j, j < m ∧ d[j]! = x := by
  intro m
  induction m with
  | zero => intro _; simp [Lib.compactUpTo]
  | succ m ih =>
    intro hm
    obtain ⟨h1, h2, h3⟩ := ih (by omega)
    rw [Lib.compactUpTo_succ]
    by_cases hk : Lib.keeps d m = true
    · rw [if_pos hk]
      refine ⟨List.pairwise_append.2 ⟨h1, by simp, fun x hx y hy => ?_⟩, fun x hx => ?_, fun x => ?_⟩
      · obtain rfl := List.mem_singleton.1 hy
        have hx2 := h2 x hx
        rcases Nat.eq_zero_or_pos m with rfl | h0
        · simp [Lib.compactUpTo] at hx
        · have hne : d[m]! ≠ d[m - 1]! := by
            intro e
            rw [Lib.keeps_neg h0 e] at hk
            exact absurd hk (by simp)
          have := hd (m - 1) m (by omega) (by omega)
          omega
      · rw [Nat.add_sub_cancel]
        rcases List.mem_append.1 hx with h | h
        · have := h2 x h; have := hd (m - 1) m (by omega) (by omega); omega
        · obtain rfl := List.mem_singleton.1 h; exact Int.le_refl _
      · rw [List.mem_append, h3, List.mem_singleton]
        constructor
        · rintro (⟨j, hj, e⟩ | e)
          · exact ⟨j, by omega, e⟩
          · exact ⟨m, by omega, e.symm⟩
        · rintro ⟨j, hj, e⟩
          by_cases hjm : j = m
          · subst hjm; exact .inr e.symm
          · exact .inl ⟨j, by omega, e⟩
    · rw [if_neg hk, List.append_nil]
      have h0 : 0 < m := by
        rcases Nat.eq_zero_or_pos m with rfl | h0
        · exact absurd (Lib.keeps_lt_one d 0 (by omega)) hk
        · exact h0
      have he : d[m]! = d[m - 1]! := by
        by_cases e : d[m]! = d[m - 1]!
        · exact e
        · exact absurd (Lib.keeps_pos e) hk
      refine ⟨h1, fun x hx => ?_, fun x => ?_⟩
      · rw [Nat.add_sub_cancel, he]; exact h2 x hx
      · rw [h3]
        constructor
        · rintro ⟨j, hj, e⟩; exact ⟨j, by omega, e⟩
        · rintro ⟨j, hj, e⟩
          by_cases hjm : j = m
          · exact ⟨m - 1, by omega, by rw [← he, ← hjm]; exact e⟩
          · exact ⟨j, by omega, e⟩

/-- The set of a list. -/
def setOf (l : List Int) : List Int := Lib.compact (l.mergeSort fun x y => decide (x ≤ y))
theorem setOf_inv (l : List Int) : Rises (setOf l) ∧ ∀ x, x ∈ setOf l ↔ x ∈ l := by
  have hp := List.mergeSort_perm l (fun x y => decide (x ≤ y))
  have hs := List.pairwise_mergeSort (le := fun x y : Int => decide (x ≤ y)) (by intro a b c; simp; omega) (by intro a b; simp; omega) l
  obtain ⟨m, hm⟩ : ∃ m, m = l.mergeSort (fun x y => decide (x ≤ y)) := ⟨_, rfl⟩
  rw [← hm] at hp hs
  have hd : ∀ i j, i ≤ j → j < m.toArray.size → m.toArray[i]! ≤ m.toArray[j]! := by
    intro i j hij hj
    have hj' : j < m.length := by simpa using hj
    rw [getElem!_pos _ i (by simp; omega), getElem!_pos _ j hj]
    rcases Nat.lt_or_eq_of_le hij with h | rfl
    · have := List.pairwise_iff_getElem.1 hs i j (by omega) hj' h
      simpa using this
    · exact Int.le_refl _
  have := compact_inv m.toArray hd m.length (by simp)
  have hE : setOf l = Lib.compactUpTo m.toArray m.length := by unfold setOf Lib.compact; rw [← hm]
  rw [hE]
  refine ⟨this.1, fun x => ?_⟩
  rw [this.2.2, ← hp.mem_iff]
  constructor
  · rintro ⟨j, hj, e⟩
    rw [getElem!_pos _ j (by simpa using hj)] at e
    rw [← e]
    simp
  · intro hx
    obtain ⟨j, hj, e⟩ := List.getElem_of_mem hx
    exact ⟨j, hj, by rw [getElem!_pos _ j (by simpa using hj)]; simpa using e⟩
theorem setOf_rises (l : List Int) : Rises (setOf l) := (setOf_inv l).1
theorem mem_setOf {l : List Int} {x : Int} : x ∈ setOf l ↔ x ∈ l := (setOf_inv l).2 x
theorem setOf_nil : setOf [] = [] := by simp [setOf, Lib.compact, Lib.compactUpTo]
theorem setOf_eq {l m : List Int} (h : ∀ x, x ∈ l ↔ x ∈ m) : setOf l = setOf m := rises_unique (setOf_rises l) (setOf_rises m) (fun x => by rw [mem_setOf, mem_setOf, h])
theorem setOf_self {l : List Int} (h : Rises l) : setOf l = l := rises_unique (setOf_rises l) h (fun _ => mem_setOf)
theorem setOf_length (l : List Int) : (setOf l).length ≤ l.length := by
  unfold setOf
  refine Nat.le_trans (Lib.compact_length_le _) ?_
  simp

/-- The least above n, of a list; and whether there is one. -/
def AboveIs (l : List Int) (n x : Int) (b : Bool) : Prop := (b = false ∧ x = 0 ∧ ∀ y ∈ l, ¬ n < y) ∨ (b = true ∧ x ∈ l ∧ n < x ∧ ∀ y ∈ l, n < y → x ≤ y)
/-- The least of a list; and whether there is one. -/
def LeastIs (l : List Int) (x : Int) (b : Bool) : Prop := (l = [] ∧ x = 0 ∧ b = false) ∨ (b = true ∧ x ∈ l ∧ ∀ y ∈ l, x ≤ y)
/-- Who comes next. -/
def NextIs (l : List Int) (c x : Int) (b : Bool) : Prop := (c ∉ l ∧ x = 0 ∧ b = false) ∨ (c ∈ l ∧ b = true ∧ (AboveIs l c x true ∨ (AboveIs l c 0 false ∧ LeastIs l x true)))

theorem AboveIs.unique {l : List Int} {n x y : Int} {b c : Bool} (h : AboveIs l n x b) (k : AboveIs l n y c) : x = y ∧ b = c := by
  rcases h with ⟨rfl, rfl, h⟩ | ⟨rfl, h1, h2, h3⟩ <;> rcases k with ⟨rfl, rfl, k⟩ | ⟨rfl, k1, k2, k3⟩
  · exact ⟨rfl, rfl⟩
  · exact absurd k2 (h y k1)
  · exact absurd h2 (k x h1)
  · have := h3 y k1 k2; have := k3 x h1 h2; exact ⟨by omega, rfl⟩
theorem LeastIs.unique {l : List Int} {x y : Int} {b c : Bool} (h : LeastIs l x b) (k : LeastIs l y c) : x = y ∧ b = c := by
  rcases h with ⟨rfl, rfl, rfl⟩ | ⟨rfl, h1, h2⟩ <;> rcases k with ⟨e, rfl, rfl⟩ | ⟨rfl, k1, k2⟩
  · exact ⟨rfl, rfl⟩
  · simp at k1
  · subst e; simp at h1
  · have := h2 y k1; have := k2 x h1; exact ⟨by omega, rfl⟩
theorem AboveIs.nil (n : Int) : AboveIs [] n 0 false := .inl ⟨rfl, rfl, by simp⟩
theorem AboveIs.not {l : List Int} {n x y : Int} {b : Bool} (h : AboveIs l n x b) (hy : ¬ n < y) : AboveIs (l ++ [y]) n x b := by
  rcases h with ⟨rfl, rfl, h⟩ | ⟨rfl, h1, h2, h3⟩
  · refine .inl ⟨rfl, rfl, fun z hz => ?_⟩
    rcases List.mem_append.1 hz with h' | h'
    · exact h z h'
    · obtain rfl := List.mem_singleton.1 h'; exact hy
  · refine .inr ⟨rfl, by simp [h1], h2, fun z hz hn => ?_⟩
    rcases List.mem_append.1 hz with h' | h'
    · exact h3 z h' hn
    · obtain rfl := List.mem_singleton.1 h'; exact absurd hn hy
theorem AboveIs.new {l : List Int} {n x y : Int} {b : Bool} (h : AboveIs l n x b) (hy : n < y) (hx : b = false ∨ y < x) : AboveIs (l ++ [y]) n y true := by
  refine .inr ⟨rfl, by simp, hy, fun z hz hn => ?_⟩
  rcases List.mem_append.1 hz with h' | h'
  · rcases h with ⟨rfl, rfl, h⟩ | ⟨rfl, h1, h2, h3⟩
    · exact absurd hn (h z h')
    · have := h3 z h' hn
      rcases hx with e | e
      · simp at e
      · omega
  · obtain rfl := List.mem_singleton.1 h'; exact Int.le_refl _
theorem AboveIs.old {l : List Int} {n x y : Int} (h : AboveIs l n x true) (hy : ¬ y < x) : AboveIs (l ++ [y]) n x true := by
  rcases h with ⟨h, _⟩ | ⟨_, h1, h2, h3⟩
  · simp at h
  · refine .inr ⟨rfl, by simp [h1], h2, fun z hz hn => ?_⟩
    rcases List.mem_append.1 hz with h' | h'
    · exact h3 z h' hn
    · obtain rfl := List.mem_singleton.1 h'; omega
theorem above_some (n : Int) : ∀ (l : List Int), ∃ x b, AboveIs l n x b := by
  suffices h : ∀ (l : List Int) (k : List Int), (∃ x b, AboveIs k n x b) → ∃ x b, AboveIs (k ++ l) n x b by
    intro l; simpa using h l [] ⟨0, false, .nil n⟩
  intro l
  induction l with
  | nil => intro k h; simpa using h
  | cons y l ih =>
    rintro k ⟨x, b, h⟩
    have := ih (k ++ [y]) (by
      by_cases hy : n < y
      · cases b with
        | false => exact ⟨_, _, h.new hy (.inl rfl)⟩
        | true =>
          by_cases hx : y < x
          · exact ⟨_, _, h.new hy (.inr hx)⟩
          · exact ⟨_, _, h.old hx⟩
      · exact ⟨_, _, h.not hy⟩)
    simpa using this
theorem least_cons {l : List Int} (h : l ≠ []) : ∃ x, LeastIs l x true := by
  induction l with
  | nil => exact absurd rfl h
  | cons y l ih =>
    by_cases hl : l = []
    · subst hl; exact ⟨y, .inr ⟨rfl, by simp, by simp⟩⟩
    · obtain ⟨x, hx⟩ := ih hl
      rcases hx with ⟨_, _, e⟩ | ⟨_, h1, h2⟩
      · simp at e
      · by_cases hxy : y < x
        · refine ⟨y, .inr ⟨rfl, by simp, fun z hz => ?_⟩⟩
          rcases List.mem_cons.1 hz with rfl | hz
          · exact Int.le_refl _
          · have := h2 z hz; omega
        · refine ⟨x, .inr ⟨rfl, by simp [h1], fun z hz => ?_⟩⟩
          rcases List.mem_cons.1 hz with rfl | hz
          · omega
          · exact h2 z hz
theorem LeastIs.some (l : List Int) : ∃ x b, LeastIs l x b := by
  by_cases h : l = []
  · exact ⟨0, false, .inl ⟨h, rfl, rfl⟩⟩
  · obtain ⟨x, hx⟩ := least_cons h; exact ⟨x, true, hx⟩
theorem next_some (l : List Int) (c : Int) : ∃ x, NextIs l c x (decide (c ∈ l)) := by
  by_cases hc : c ∈ l
  · obtain ⟨x, b, h⟩ := above_some c l
    cases b with
    | true => exact ⟨x, .inr ⟨hc, by simp [hc], .inl h⟩⟩
    | false =>
      obtain ⟨y, hy⟩ := least_cons (l := l) (by rintro rfl; simp at hc)
      refine ⟨y, .inr ⟨hc, by simp [hc], .inr ⟨?_, hy⟩⟩⟩
      rcases h with ⟨_, _, h⟩ | ⟨h, _⟩
      · exact .inl ⟨rfl, rfl, h⟩
      · simp at h
  · exact ⟨0, .inl ⟨hc, rfl, by simp [hc]⟩⟩
theorem NextIs.unique {l : List Int} {c x y : Int} {b d : Bool} (h : NextIs l c x b) (k : NextIs l c y d) : x = y ∧ b = d := by
  rcases h with ⟨hc, rfl, rfl⟩ | ⟨hc, rfl, h⟩ <;> rcases k with ⟨kc, rfl, rfl⟩ | ⟨kc, rfl, k⟩
  · exact ⟨rfl, rfl⟩
  · exact absurd kc hc
  · exact absurd hc kc
  · refine ⟨?_, rfl⟩
    rcases h with h | ⟨h, h'⟩ <;> rcases k with k | ⟨k, k'⟩
    · exact (h.unique k).1
    · exact absurd (h.unique k).2 (by simp)
    · exact absurd (h.unique k).2 (by simp)
    · exact (h'.unique k').1

/-- Of a list that rises: behind the one at a place comes the one at the next place, behind the last the first. -/
theorem next_at {l : List Int} (hl : Rises l) (i : Nat) (hi : i < l.length) : NextIs l (l.getD i 0) (l.getD ((i + 1) % l.length) 0) true := by
  have hg : ∀ j, j < l.length → ∀ k, k < l.length → j < k → l.getD j 0 < l.getD k 0 := by
    intro j hj k hk hjk
    have := List.pairwise_iff_getElem.1 hl j k hj hk hjk
    simpa [hj, hk] using this
  have hm : ∀ j, j < l.length → l.getD j 0 ∈ l := by intro j hj; simp [hj]
  have hx : ∀ y ∈ l, ∃ j, j < l.length ∧ l.getD j 0 = y := by
    intro y hy
    obtain ⟨j, hj, e⟩ := List.getElem_of_mem hy
    exact ⟨j, hj, by simp [hj, e]⟩
  have hmono : ∀ j, j < l.length → ∀ k, k < l.length → l.getD j 0 < l.getD k 0 → j < k := by
    intro j hj k hk h
    rcases Nat.lt_trichotomy j k with h' | h' | h'
    · exact h'
    · subst h'; omega
    · have := hg k hk j hj h'; omega
  have hle : ∀ j, j < l.length → ∀ k, k < l.length → j ≤ k → l.getD j 0 ≤ l.getD k 0 := by
    intro j hj k hk h
    rcases Nat.lt_or_eq_of_le h with h' | rfl
    · have := hg j hj k hk h'; omega
    · exact Int.le_refl _
  refine .inr ⟨hm i hi, rfl, ?_⟩
  by_cases hlast : i + 1 < l.length
  · rw [Nat.mod_eq_of_lt hlast]
    refine .inl (.inr ⟨rfl, hm _ hlast, hg i hi _ hlast (by omega), fun y hy hn => ?_⟩)
    obtain ⟨j, hj, rfl⟩ := hx y hy
    exact hle _ hlast j hj (hmono i hi j hj hn)
  · obtain e : i + 1 = l.length := by omega
    rw [e, Nat.mod_self]
    refine .inr ⟨.inl ⟨rfl, rfl, fun y hy hn => ?_⟩, .inr ⟨rfl, hm 0 (by omega), fun y hy => ?_⟩⟩
    · obtain ⟨j, hj, rfl⟩ := hx y hy
      have := hmono i hi j hj hn
      omega
    · obtain ⟨j, hj, rfl⟩ := hx y hy
      exact hle 0 (by omega) j hj (by omega)
theorem rises_inj {l : List Int} (hl : Rises l) {i j : Nat} (hi : i < l.length) (hj : j < l.length) (h : l.getD i 0 = l.getD j 0) : i = j := by
  rcases Nat.lt_trichotomy i j with h' | h' | h'
  · have := List.pairwise_iff_getElem.1 hl i j hi hj h'
    simp [hi, hj] at h; omega
  · exact h'
  · have := List.pairwise_iff_getElem.1 hl j i hj hi h'
    simp [hi, hj] at h; omega
end Go.Proofs.Ytjjlajcpngphpaa
