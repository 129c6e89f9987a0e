/- Bids, plainly: which is less, the least of some, whose one is, one more by cars, whether all have bid. -/
import Derived.Test.YtfphihhcclfmnaaBase
namespace Go.Proofs.Ytfphihhcclfmnaa

/-- A bid: a car, ticks. -/
def ltB (a b : Int × Int) : Bool := decide (a.2 < b.2) || (decide (a.2 = b.2) && decide (a.1 < b.1))
theorem ltB_iff (a b : Int × Int) : ltB a b = true ↔ a.2 < b.2 ∨ (a.2 = b.2 ∧ a.1 < b.1) := by
  unfold ltB
  simp only [Bool.or_eq_true, Bool.and_eq_true, decide_eq_true_eq]
theorem ltB_no (a b : Int × Int) : ltB a b = false ↔ ¬ (a.2 < b.2 ∨ (a.2 = b.2 ∧ a.1 < b.1)) := by
  rw [← ltB_iff, Bool.not_eq_true]
theorem ltB_self (a : Int × Int) : ltB a a = false := (ltB_no a a).2 (by omega)
theorem ltB_trans {a b c : Int × Int} (h : ltB a b = true) (k : ltB b c = true) : ltB a c = true := by
  rw [ltB_iff] at *; omega
theorem ltB_asymm {a b : Int × Int} (h : ltB a b = true) : ltB b a = false := by
  rw [ltB_no]; rw [ltB_iff] at h; omega
theorem ltB_same {a b : Int × Int} (h : ltB a b = false) (k : ltB b a = false) : a = b := by
  rw [ltB_no] at *
  exact Prod.ext (by omega) (by omega)
theorem ltB_of_no {a b c : Int × Int} (h : ltB a b = false) (k : ltB b c = false) : ltB a c = false := by
  rw [ltB_no] at *; omega
/-- The least: none of them is less. -/
def LeastB (l : List (Int × Int)) (x : Int × Int) : Prop := x ∈ l ∧ ∀ y ∈ l, ltB y x = false
theorem LeastB.unique {l : List (Int × Int)} {x y : Int × Int} (h : LeastB l x) (k : LeastB l y) : x = y := ltB_same (k.2 x h.1) (h.2 y k.1)
/-- One by one. -/
def leastOf (x : Int × Int) (l : List (Int × Int)) : Int × Int := l.foldl (fun b y => if ltB y b = true then y else b) x
theorem leastOf_is : ∀ (l : List (Int × Int)) (x : Int × Int), LeastB (x :: l) (leastOf x l)
  | [], x => ⟨by simp [leastOf], fun y hy => by
      rcases List.mem_cons.1 hy with rfl | h
      · exact ltB_self _
      · cases h⟩
  | a :: l, x => by
    have e : leastOf x (a :: l) = leastOf (if ltB a x = true then a else x) l := rfl
    obtain ⟨m, n⟩ := leastOf_is l (if ltB a x = true then a else x)
    rw [← e] at m n
    refine ⟨?_, ?_⟩
    · rcases List.mem_cons.1 m with h | h
      · rw [h]; split <;> simp
      · exact List.mem_cons_of_mem _ (List.mem_cons_of_mem _ h)
    · have hz := n _ (List.mem_cons_self ..)
      intro y hy
      rcases List.mem_cons.1 hy with rfl | hy
      · refine ltB_of_no (b := if ltB a y = true then a else y) ?_ hz
        split
        · rename_i g; exact ltB_asymm g
        · exact ltB_self _
      · rcases List.mem_cons.1 hy with rfl | hy
        · refine ltB_of_no (b := if ltB y x = true then y else x) ?_ hz
          split
          · exact ltB_self _
          · rename_i g; simpa using g
        · exact n y (List.mem_cons_of_mem _ hy)
theorem LeastB.some : ∀ {l : List (Int × Int)}, l ≠ [] → ∃ x, LeastB l x
  | [], h => absurd rfl h
  | x :: l, _ => ⟨_, leastOf_is l x⟩
/-- One more behind: it, if it is less. -/
theorem LeastB.snoc {l : List (Int × Int)} {x : Int × Int} (h : LeastB l x) (b : Int × Int) : LeastB (l ++ [b]) (if ltB b x = true then b else x) := by
  refine ⟨?_, fun y hy => ?_⟩
  · split
    · simp
    · exact List.mem_append_left _ h.1
  · rcases List.mem_append.1 hy with m | m
    · have := h.2 y m
      split
      · rename_i g
        exact ltB_of_no this (ltB_asymm g)
      · exact this
    · obtain rfl : y = b := by simpa using m
      split
      · exact ltB_self _
      · rename_i g; simpa using g
/-- The first of a car. -/
def bidOf (l : List (Int × Int)) (c : Int) : Option (Int × Int) := l.find? (fun x => decide (x.1 = c))
theorem bidOf_car {l : List (Int × Int)} {c : Int} {x : Int × Int} (h : bidOf l c = some x) : x.1 = c ∧ x ∈ l := by
  unfold bidOf at h
  exact ⟨by simpa using List.find?_some h, List.mem_of_find?_eq_some h⟩
theorem bidOf_none {l : List (Int × Int)} {c : Int} : bidOf l c = none ↔ ∀ x ∈ l, x.1 ≠ c := by
  unfold bidOf
  rw [List.find?_eq_none]
  simp
/-- One more, by cars: ahead of the first whose car is greater. -/
def insB (b : Int × Int) : List (Int × Int) → List (Int × Int)
  | [] => [b]
  | x :: l => if x.1 ≤ b.1 then x :: insB b l else b :: x :: l
theorem mem_insB {b y : Int × Int} : ∀ {l : List (Int × Int)}, y ∈ insB b l ↔ y = b ∨ y ∈ l
  | [] => by simp [insB]
  | x :: l => by
    unfold insB
    split
    · rw [List.mem_cons, mem_insB, List.mem_cons]
      constructor
      · rintro (h | h | h)
        · exact .inr (.inl h)
        · exact .inl h
        · exact .inr (.inr h)
      · rintro (h | h | h)
        · exact .inr (.inl h)
        · exact .inl h
        · exact .inr (.inr h)
    · rw [List.mem_cons]
theorem insB_length (b : Int × Int) : ∀ l : List (Int × Int), (insB b l).length = l.length + 1
  | [] => rfl
  | x :: l => by
    unfold insB
    split
    · rw [List.length_cons, insB_length b l, List.length_cons]
    · rfl
/-- By its place: how many stand ahead of it. -/
def placeB (l : List (Int × Int)) (c : Int) : Nat := (l.takeWhile (fun x => decide (x.1 ≤ c))).length
theorem insB_split (b : Int × Int) : ∀ l : List (Int × Int), insB b l = l.take (placeB l b.1) ++ b :: l.drop (placeB l b.1)
  | [] => rfl
  | x :: l => by
    unfold insB placeB
    by_cases g : x.1 ≤ b.1
    · rw [if_pos g, List.takeWhile_cons, if_pos (decide_eq_true g), insB_split b l]
      rfl
    · rw [if_neg g, List.takeWhile_cons, if_neg (by simpa using g)]
      rfl
theorem placeB_le (l : List (Int × Int)) (c : Int) : placeB l c ≤ l.length := (List.takeWhile_sublist _).length_le
/-- A place is it, where all ahead are no greater, and the one there is. -/
theorem placeB_is {c : Int} : ∀ {l : List (Int × Int)} {k : Nat}, k ≤ l.length → (∀ i, i < k → (l.getD i (0, 0)).1 ≤ c) → (k < l.length → c < (l.getD k (0, 0)).1) → placeB l c = k
  | [], k, h, _, _ => by
    have : k = 0 := by simpa using h
    rw [this]; rfl
  | x :: l, 0, _, _, h => by
    have := h (by simp)
    unfold placeB
    rw [List.takeWhile_cons, if_neg (by simpa using this)]; rfl
  | x :: l, k + 1, h, a, b => by
    have g : x.1 ≤ c := a 0 (by omega)
    unfold placeB
    rw [List.takeWhile_cons, if_pos (decide_eq_true g), List.length_cons]
    congr 1
    exact placeB_is (by simpa using h) (fun i hi => a (i + 1) (by omega)) (fun hk => b (by simpa using hk))
def putB (l : List (Int × Int)) (b : Int × Int) : List (Int × Int) := if (bidOf l b.1).isSome = true then l else insB b l
/-- They rise by cars. -/
def RiseB (l : List (Int × Int)) : Prop := l.Pairwise (fun a b => a.1 < b.1)
theorem RiseB.ins {b : Int × Int} : ∀ {l : List (Int × Int)}, RiseB l → (∀ x ∈ l, x.1 ≠ b.1) → RiseB (insB b l)
  | [], _, _ => List.pairwise_singleton _ _
  | x :: l, h, n => by
    unfold RiseB at h
    obtain ⟨h1, h2⟩ := List.pairwise_cons.1 h
    have nx := n x (List.mem_cons_self ..)
    unfold insB
    split
    · rename_i g
      refine List.pairwise_cons.2 ⟨fun y hy => ?_, RiseB.ins h2 (fun z hz => n z (List.mem_cons_of_mem _ hz))⟩
      rcases mem_insB.1 hy with rfl | hy
      · omega
      · exact h1 y hy
    · rename_i g
      refine List.pairwise_cons.2 ⟨fun y hy => ?_, h⟩
      rcases List.mem_cons.1 hy with rfl | hy
      · omega
      · have := h1 y hy; omega
theorem RiseB.put {l : List (Int × Int)} (h : RiseB l) (b : Int × Int) : RiseB (putB l b) := by
  unfold putB
  split
  · exact h
  · rename_i g
    refine h.ins fun x hx => ?_
    have : bidOf l b.1 = none := by
      cases k : bidOf l b.1 with
      | none => rfl
      | some y => rw [k] at g; simp at g
    exact bidOf_none.1 this x hx
theorem RiseB.at {l : List (Int × Int)} (h : RiseB l) {i : Nat} (hi : i + 1 < l.length) : (l.getD i (0, 0)).1 < (l.getD (i + 1) (0, 0)).1 := by
  have := List.pairwise_iff_getElem.1 h i (i + 1) (by omega) hi (by omega)
  rw [List.getD_eq_getElem?_getD, List.getD_eq_getElem?_getD, List.getElem?_eq_getElem (show i < l.length by omega), List.getElem?_eq_getElem hi]
  exact this
/-- Who is told in it. -/
theorem bidOf_put (l : List (Int × Int)) (b : Int × Int) (c : Int) : (bidOf (putB l b) c).isSome = ((bidOf l c).isSome || decide (c = b.1)) := by
  have key : ∀ (m : List (Int × Int)) (z : Int), (bidOf m z).isSome = true ↔ ∃ x ∈ m, x.1 = z := fun m z => by
    rw [Option.isSome_iff_ne_none, ne_eq, bidOf_none]
    constructor
    · intro h
      refine Decidable.by_contra fun k => h fun x hx e => k ⟨x, hx, e⟩
    · rintro ⟨x, hx, e⟩ h
      exact h x hx e
  rw [Bool.eq_iff_iff, Bool.or_eq_true, key, key, decide_eq_true_iff]
  unfold putB
  split
  · rename_i g
    constructor
    · exact .inl
    · rintro (h | h)
      · exact h
      · rw [h]; exact (key l b.1).1 g
  · constructor
    · rintro ⟨x, hx, e⟩
      rcases mem_insB.1 hx with rfl | hx
      · exact .inr e.symm
      · exact .inl ⟨x, hx, e⟩
    · rintro (⟨x, hx, e⟩ | h)
      · exact ⟨x, mem_insB.2 (.inr hx), e⟩
      · exact ⟨b, mem_insB.2 (.inl rfl), h.symm⟩
def fullB (ms : List Int) (l : List (Int × Int)) : Bool := ms.all fun m => (bidOf l m).isSome
end Go.Proofs.Ytfphihhcclfmnaa
