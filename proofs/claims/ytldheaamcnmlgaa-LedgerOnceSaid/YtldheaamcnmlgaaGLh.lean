/- A stable order: sorted, and those that are alike in the order in which they stood; what halves, blocks come to. Plain: no program. Sorting a row of latches by sort.SliceStable: the row, what less and swap are asked; the insertion sort of a block. Sorting a row of latches: two parts exchanged, a rotation. Sorting a row of latches: two sorted parts merged (symMerge_func). Sorting a row of latches: one put into a sorted part from the right. -/
import Derived.Test.YtldheaamcnmlgaaGLc
import Derived.Test.YtldheaamcnmlgaaGLf
import Derived.Lib.ReflectliteSwap
namespace Go.Proofs.Ytldheaamcnmlgaa
open Go.RowKit
section
variable {α : Type}
/-- One is ahead of another: a strict weak order. -/
structure WkO (lt : α → α → Bool) : Prop where
  irr : ∀ x, lt x x = false
  tr : ∀ x y z, lt x y = true → lt y z = true → lt x z = true
  wk : ∀ x y z, lt x y = true → lt x z = true ∨ lt z y = true
variable {lt : α → α → Bool}
theorem WkO.asy (H : WkO lt) {x y : α} (h : lt x y = true) : lt y x = false := by
  cases g : lt y x with
  | false => rfl
  | true => have := H.tr _ _ _ h g; rw [H.irr] at this; cases this
theorem WkO.le (H : WkO lt) {x y z : α} (h : lt y x = false) (k : lt z y = false) : lt z x = false := by
  cases g : lt z x with
  | false => rfl
  | true => rcases H.wk _ _ y g with g | g
            · rw [k] at g; cases g
            · rw [h] at g; cases g
theorem WkO.lt_le (H : WkO lt) {x y z : α} (h : lt x y = true) (k : lt z y = false) : lt x z = true := by
  rcases H.wk _ _ z h with g | g
  · exact g
  · rw [k] at g; cases g
theorem WkO.le_lt (H : WkO lt) {x y z : α} (h : lt y x = false) (k : lt y z = true) : lt x z = true := by
  rcases H.wk _ _ x k with g | g
  · rw [h] at g; cases g
  · exact g
variable (lt) in
/-- Sorted. -/
def AscS (l : List α) : Prop := l.Pairwise fun x y => lt y x = false
variable (lt) in
def eqS (x y : α) : Bool := !lt x y && !lt y x
variable (lt) in
/-- The same, and those that are alike in the same order. -/
def StbS (l m : List α) : Prop := l.Perm m ∧ ∀ c, l.filter (eqS lt c) = m.filter (eqS lt c)
theorem StbS.refl (l : List α) : StbS lt l l := ⟨List.Perm.refl _, fun _ => rfl⟩
theorem StbS.trans {l m n : List α} (h : StbS lt l m) (k : StbS lt m n) : StbS lt l n := ⟨h.1.trans k.1, fun c => (h.2 c).trans (k.2 c)⟩
theorem StbS.symm {l m : List α} (h : StbS lt l m) : StbS lt m l := ⟨h.1.symm, fun c => (h.2 c).symm⟩
theorem StbS.app {l m l' m' : List α} (h : StbS lt l m) (k : StbS lt l' m') : StbS lt (l ++ l') (m ++ m') :=
  ⟨h.1.append k.1, fun c => by rw [List.filter_append, List.filter_append, h.2 c, k.2 c]⟩
theorem StbS.len {l m : List α} (h : StbS lt l m) : l.length = m.length := h.1.length_eq
theorem StbS.mem {l m : List α} (h : StbS lt l m) {x : α} : x ∈ l ↔ x ∈ m := h.1.mem_iff
/-- Two parts one of which is ahead of the other may be exchanged. -/
theorem StbS.swp (H : WkO lt) {X Y : List α} (h : ∀ x ∈ X, ∀ y ∈ Y, lt y x = true) : StbS lt (X ++ Y) (Y ++ X) := by
  refine ⟨List.perm_append_comm, fun c => ?_⟩
  rw [List.filter_append, List.filter_append]
  by_cases hx : X.filter (eqS lt c) = []
  · rw [hx]; simp
  · have hy : Y.filter (eqS lt c) = [] := by
      obtain ⟨x, hx⟩ := List.exists_mem_of_ne_nil _ hx
      obtain ⟨hx, hc⟩ := List.mem_filter.1 hx
      rw [List.filter_eq_nil_iff]
      intro y hy he
      have hyx := h x hx y hy
      unfold eqS at he hc
      simp only [Bool.and_eq_true, Bool.not_eq_true'] at he hc
      rcases H.wk _ _ c hyx with g | g
      · rw [he.2] at g; cases g
      · rw [hc.1] at g; cases g
    rw [hy]; simp
/-- There is just one such order. -/
theorem stb_one (H : WkO lt) : ∀ {l m : List α}, AscS lt l → AscS lt m → StbS lt l m → l = m
  | [], m, _, _, h => by
    have := h.len
    exact (List.eq_nil_of_length_eq_zero this.symm).symm
  | x :: l, [], _, _, h => by have := h.len; simp at this
  | x :: l, y :: m, hl, hm, h => by
    have hl' := List.pairwise_cons.1 hl
    have hm' := List.pairwise_cons.1 hm
    have e1 : lt x y = false := by
      cases g : lt x y with
      | false => rfl
      | true =>
        have : x ∈ y :: m := h.mem.1 (by simp)
        rcases List.mem_cons.1 this with e | e
        · rw [e, H.irr] at g; cases g
        · rw [hm'.1 x e] at g; cases g
    have e2 : lt y x = false := by
      cases g : lt y x with
      | false => rfl
      | true =>
        have : y ∈ x :: l := h.mem.2 (by simp)
        rcases List.mem_cons.1 this with e | e
        · rw [e, H.irr] at g; cases g
        · rw [hl'.1 y e] at g; cases g
    have exx : eqS lt x x = true := by unfold eqS; rw [H.irr]; rfl
    have exy : eqS lt x y = true := by unfold eqS; rw [e1, e2]; rfl
    have k := h.2 x
    rw [List.filter_cons, List.filter_cons, if_pos exx, if_pos exy] at k
    obtain ⟨rfl, k⟩ := List.cons.inj k
    congr 1
    refine stb_one H hl'.2 hm'.2 ⟨(List.perm_cons x).1 h.1, fun c => ?_⟩
    have := h.2 c
    rw [List.filter_cons, List.filter_cons] at this
    split at this
    · exact (List.cons.inj this).2
    · exact this
/-- What two halves come to. -/
theorem halves (H : WkO lt) {L1 L2 R1 R2 M1 M2 : List α} (hL : AscS lt (L1 ++ L2)) (hR : AscS lt (R1 ++ R2)) (h1 : ∀ x ∈ L1, ∀ y ∈ R2, lt y x = false) (h2 : ∀ x ∈ L2, ∀ y ∈ R1, lt y x = true)
    (m1 : AscS lt M1) (s1 : StbS lt (L1 ++ R1) M1) (m2 : AscS lt M2) (s2 : StbS lt (L2 ++ R2) M2) : AscS lt (M1 ++ M2) ∧ StbS lt ((L1 ++ L2) ++ (R1 ++ R2)) (M1 ++ M2) := by
  constructor
  · refine List.pairwise_append.2 ⟨m1, m2, fun x hx y hy => ?_⟩
    have hx := s1.mem.2 hx
    have hy := s2.mem.2 hy
    rcases List.mem_append.1 hx with hx | hx <;> rcases List.mem_append.1 hy with hy | hy
    · exact (List.pairwise_append.1 hL).2.2 x hx y hy
    · exact h1 x hx y hy
    · exact H.asy (h2 y hy x hx)
    · exact (List.pairwise_append.1 hR).2.2 x hx y hy
  · have e1 : (L1 ++ L2) ++ (R1 ++ R2) = L1 ++ ((L2 ++ R1) ++ R2) := by simp
    have e2 : L1 ++ ((R1 ++ L2) ++ R2) = (L1 ++ R1) ++ (L2 ++ R2) := by simp
    have k : StbS lt (L1 ++ ((L2 ++ R1) ++ R2)) (L1 ++ ((R1 ++ L2) ++ R2)) := (StbS.refl L1).app ((StbS.swp H h2).app (StbS.refl R2))
    rw [e1]
    rw [e2] at k
    exact k.trans (s1.app s2)
/-- One put into its place. -/
theorem put_left (H : WkO lt) {x : α} {R1 R2 : List α} (hR : AscS lt (R1 ++ R2)) (h1 : ∀ y ∈ R1, lt y x = true) (h2 : ∀ y ∈ R2, lt y x = false) : AscS lt (R1 ++ x :: R2) ∧ StbS lt (x :: (R1 ++ R2)) (R1 ++ x :: R2) := by
  have hp := List.pairwise_append.1 hR
  constructor
  · refine List.pairwise_append.2 ⟨hp.1, List.pairwise_cons.2 ⟨fun y hy => h2 y hy, hp.2.1⟩, fun y hy z hz => ?_⟩
    rcases List.mem_cons.1 hz with rfl | hz
    · exact H.asy (h1 y hy)
    · exact hp.2.2 y hy z hz
  · have k : StbS lt (([x] ++ R1) ++ R2) ((R1 ++ [x]) ++ R2) := (StbS.swp H (X := [x]) (Y := R1) (fun a ha y hy => by obtain rfl := List.mem_singleton.1 ha; exact h1 y hy)).app (StbS.refl R2)
    simpa using k
theorem put_right (H : WkO lt) {y : α} {L1 L2 : List α} (hL : AscS lt (L1 ++ L2)) (h1 : ∀ x ∈ L1, lt y x = false) (h2 : ∀ x ∈ L2, lt y x = true) : AscS lt (L1 ++ y :: L2) ∧ StbS lt ((L1 ++ L2) ++ [y]) (L1 ++ y :: L2) := by
  have hp := List.pairwise_append.1 hL
  constructor
  · refine List.pairwise_append.2 ⟨hp.1, List.pairwise_cons.2 ⟨fun z hz => H.asy (h2 z hz), hp.2.1⟩, fun x hx z hz => ?_⟩
    rcases List.mem_cons.1 hz with rfl | hz
    · exact h1 x hx
    · exact hp.2.2 x hx z hz
  · have k : StbS lt (L1 ++ (L2 ++ [y])) (L1 ++ ([y] ++ L2)) := (StbS.refl L1).app (StbS.swp H (fun x hx a ha => by obtain rfl := List.mem_singleton.1 ha; exact h2 x hx))
    simpa using k
theorem asc_le (H : WkO lt) {l : List α} (h : AscS lt l) {i j : Nat} (hij : i ≤ j) (hj : j < l.length) (z : α) : lt (l.getD j z) (l.getD i z) = false := by
  by_cases e : i = j
  · subst e; exact H.irr _
  · have := List.pairwise_iff_getElem.1 h i j (by omega) hj (by omega)
    simpa [List.getD, List.getElem?_eq_getElem hj, List.getElem?_eq_getElem (show i < l.length by omega)] using this
/-- Where the two cross: what the search finds. -/
theorem cross (H : WkO lt) (z : α) {L R : List α} (hL : AscS lt L) (hR : AscS lt R) {s t : Nat} (hs : s ≤ L.length) (ht : t ≤ R.length)
    (h1 : 0 < s → t < R.length → lt (R.getD t z) (L.getD (s - 1) z) = false) (h2 : s < L.length → 0 < t → lt (R.getD (t - 1) z) (L.getD s z) = true) :
    (∀ x ∈ L.take s, ∀ y ∈ R.drop t, lt y x = false) ∧ (∀ x ∈ L.drop s, ∀ y ∈ R.take t, lt y x = true) := by
  have tk : ∀ {l : List α} {k : Nat} {x : α}, x ∈ l.take k → ∃ i, i < k ∧ i < l.length ∧ l.getD i z = x := fun {l k x} h => by
    obtain ⟨i, hi, rfl⟩ := List.getElem_of_mem h
    rw [List.length_take] at hi
    exact ⟨i, by omega, by omega, by simp [List.getD, List.getElem?_eq_getElem (show i < l.length by omega)]⟩
  have dr : ∀ {l : List α} {k : Nat} {x : α}, x ∈ l.drop k → ∃ i, k ≤ i ∧ i < l.length ∧ l.getD i z = x := fun {l k x} h => by
    obtain ⟨i, hi, rfl⟩ := List.getElem_of_mem h
    rw [List.length_drop] at hi
    exact ⟨k + i, by omega, by omega, by simp [List.getD, List.getElem?_eq_getElem (show k + i < l.length by omega)]⟩
  constructor
  · intro x hx y hy
    obtain ⟨i, a, b, rfl⟩ := tk hx
    obtain ⟨j, c, d, rfl⟩ := dr hy
    have := h1 (by omega) (by omega)
    exact H.le (asc_le H hL (show i ≤ s - 1 by omega) (by omega) z) (H.le this (asc_le H hR c d z))
  · intro x hx y hy
    obtain ⟨i, a, b, rfl⟩ := dr hx
    obtain ⟨j, c, d, rfl⟩ := tk hy
    have := h2 (by omega) (by omega)
    exact H.lt_le (H.le_lt (asc_le H hR (show j ≤ t - 1 by omega) (by omega) z) this) (asc_le H hL a b z)

/-- Two exchanged. -/
def swapS (z : α) (D : List α) (i j : Nat) : List α := (D.set i (D.getD j z)).set j (D.getD i z)
theorem swapS_len (z : α) (D : List α) (i j : Nat) : (swapS z D i j).length = D.length := by simp [swapS]
theorem swapS_up (z : α) (P Q S : List α) (x y : α) (i j : Nat) (hi : i = P.length) (hj : j = P.length + 1 + Q.length) : swapS z (P ++ x :: (Q ++ y :: S)) i j = P ++ y :: (Q ++ x :: S) := by
  subst hi hj
  have e1 : (P ++ x :: (Q ++ y :: S)).getD (P.length + 1 + Q.length) z = y := by
    simp [List.getD, List.getElem?_append_right, show P.length ≤ P.length + 1 + Q.length by omega, show P.length + 1 + Q.length - P.length = Q.length + 1 by omega]
  have e2 : (P ++ x :: (Q ++ y :: S)).getD P.length z = x := by simp [List.getD]
  unfold swapS
  rw [e1, e2, List.set_append_right _ _ (Nat.le_refl _), Nat.sub_self, List.set_cons_zero, List.set_append_right _ _ (by omega), show P.length + 1 + Q.length - P.length = Q.length + 1 by omega, List.set_cons_succ, List.set_append_right _ _ (Nat.le_refl _), Nat.sub_self, List.set_cons_zero]
theorem swapS_dn (z : α) (P Q S : List α) (x y : α) (i j : Nat) (hi : i = P.length + 1 + Q.length) (hj : j = P.length) : swapS z (P ++ x :: (Q ++ y :: S)) i j = P ++ y :: (Q ++ x :: S) := by
  have h := swapS_up z P Q S x y j i hj hi
  rw [← h]
  unfold swapS
  rw [List.set_comm _ _ (by omega)]
/-- A part of it. -/
def segS (D : List α) (s e : Nat) : List α := (D.take e).drop s
theorem segS_len (D : List α) (s e : Nat) (h : e ≤ D.length) : (segS D s e).length = e - s := by simp [segS]; omega
theorem segS_cut (D : List α) (a b : Nat) (h : a ≤ b) : D.take a ++ (segS D a b ++ D.drop b) = D := by
  unfold segS
  have e : D.take a = (D.take b).take a := by rw [List.take_take, Nat.min_eq_left h]
  rw [e, ← List.append_assoc, List.take_append_drop, List.take_append_drop]
theorem segS_lo (A X Y : List α) (s e : Nat) (h : e ≤ A.length) : segS (A ++ X) s e = segS (A ++ Y) s e := by
  unfold segS; rw [List.take_append_of_le_length h, List.take_append_of_le_length h]
theorem segS_hi (A X Y B : List α) (s e : Nat) (h : X.length = Y.length) (hs : A.length + X.length ≤ s) : segS (A ++ (X ++ B)) s e = segS (A ++ (Y ++ B)) s e := by
  unfold segS
  rw [List.drop_take, List.drop_take]
  have k : ∀ Z : List α, Z.length = X.length → (A ++ (Z ++ B)).drop s = B.drop (s - (A.length + X.length)) := fun Z hz => by
    rw [← List.append_assoc, List.drop_append, List.drop_eq_nil_of_le (by simp; omega)]
    simp [hz]
  rw [k X rfl, k Y h.symm]
theorem segS_at (A X B : List α) (a b : Nat) (ha : A.length = a) (hb : A.length + X.length = b) : segS (A ++ (X ++ B)) a b = X := by
  subst ha hb
  unfold segS
  rw [← List.append_assoc, List.take_append_of_le_length (by simp), List.take_of_length_le (by simp), List.drop_left]
theorem segS_far (D : List α) (s e : Nat) (h : D.length ≤ s) : segS D s e = [] := by
  unfold segS; exact List.drop_eq_nil_of_le (by simp; omega)
theorem segS_end (D : List α) (s e e' : Nat) (h : D.length ≤ e) (h' : D.length ≤ e') : segS D s e = segS D s e' := by
  unfold segS; rw [List.take_of_length_le h, List.take_of_length_le h']
variable (lt) in
/-- As far as blocks of m that begin at the p-th, ahead of q, they are sorted. -/
def BlkS (m q : Nat) (D : List α) : Prop := ∀ p, p < q → AscS lt (segS D (p * m) (p * m + m))
variable (lt) in
def BlkR (m q : Nat) (D : List α) : Prop := ∀ p, q ≤ p → AscS lt (segS D (p * m) (p * m + m))
theorem blk_step {m q : Nat} {D M : List α} (h : BlkS lt m q D) (hb : q * m + m ≤ D.length) (hl : M.length = m) (hM : AscS lt M) : BlkS lt m (q + 1) (D.take (q * m) ++ (M ++ D.drop (q * m + m))) := by
  intro p hp
  have hA : (D.take (q * m)).length = q * m := by simp; omega
  by_cases e : p = q
  · subst e
    rw [segS_at _ _ _ _ _ hA (by rw [hA, hl])]; exact hM
  · have hpq : p * m + m ≤ q * m := by
      have := Nat.mul_le_mul_right m (show p + 1 ≤ q by omega); rwa [Nat.add_mul, Nat.one_mul] at this
    have k := h p (by omega)
    rw [← segS_cut D (q * m) (q * m + m) (by omega)] at k
    rwa [segS_lo _ _ (M ++ D.drop (q * m + m)) _ _ (by rw [hA]; exact hpq)] at k
theorem blk_last {m q : Nat} {D M : List α} (h : BlkS lt m q D) (ha : q * m ≤ D.length) (hb : D.length ≤ q * m + m) (hl : M.length = D.length - q * m) (hM : AscS lt M) : BlkR lt m 0 (D.take (q * m) ++ M) := by
  intro p _
  have hA : (D.take (q * m)).length = q * m := by simp; omega
  by_cases e : p = q
  · subst e
    rw [segS_end _ _ _ (p * m + M.length) (by simp; omega) (by simp; omega)]
    have := segS_at (D.take (p * m)) M [] (p * m) (p * m + M.length) hA (by rw [hA])
    rw [List.append_nil] at this
    rw [this]; exact hM
  · by_cases g : p < q
    · have hpq : p * m + m ≤ q * m := by
        have := Nat.mul_le_mul_right m (show p + 1 ≤ q by omega); rwa [Nat.add_mul, Nat.one_mul] at this
      have k := h p g
      rw [← List.take_append_drop (q * m) D] at k
      rwa [segS_lo _ _ M _ _ (by rw [hA]; exact hpq)] at k
    · have hpq : q * m + m ≤ p * m := by
        have := Nat.mul_le_mul_right m (show q + 1 ≤ p by omega); rwa [Nat.add_mul, Nat.one_mul] at this
      rw [segS_far _ _ _ (by simp; omega)]
      exact List.Pairwise.nil
theorem blkR_step {m q : Nat} {D M : List α} (h : BlkR lt m (2 * q) D) (hb : q * (2 * m) + 2 * m ≤ D.length) (hl : M.length = 2 * m) : BlkR lt m (2 * (q + 1)) (D.take (q * (2 * m)) ++ (M ++ D.drop (q * (2 * m) + 2 * m))) := by
  intro p hp
  have hA : (D.take (q * (2 * m))).length = q * (2 * m) := by simp; omega
  have k := h p (by omega)
  have hpq : q * (2 * m) + 2 * m ≤ p * m := by
    have := Nat.mul_le_mul_right m hp
    have e : 2 * (q + 1) * m = q * (2 * m) + 2 * m := by rw [Nat.mul_comm 2 (q + 1), Nat.mul_assoc, Nat.add_mul, Nat.one_mul]
    rwa [e] at this
  rw [← segS_cut D (q * (2 * m)) (q * (2 * m) + 2 * m) (by omega)] at k
  rwa [segS_hi _ _ M _ _ _ (by rw [segS_len _ _ _ hb, hl]; omega) (by rw [hA, segS_len _ _ _ hb]; omega)] at k
theorem blk_none {m q : Nat} {D : List α} (h : BlkS lt (2 * m) q D) (k : BlkR lt m (2 * q) D) (ha : q * (2 * m) ≤ D.length) (hb : D.length ≤ q * (2 * m) + m) : BlkR lt (2 * m) 0 D := by
  intro p _
  by_cases e : p = q
  · subst e
    have := k (2 * p) (Nat.le_refl _)
    rw [show 2 * p * m = p * (2 * m) by rw [Nat.mul_comm 2 p, Nat.mul_assoc]] at this
    rwa [segS_end _ _ _ (p * (2 * m) + m) (by omega) (by omega)]
  · by_cases g : p < q
    · exact h p g
    · have hpq : q * (2 * m) + 2 * m ≤ p * (2 * m) := by
        have := Nat.mul_le_mul_right (2 * m) (show q + 1 ≤ p by omega); rwa [Nat.add_mul, Nat.one_mul] at this
      rw [segS_far _ _ _ (by omega)]
      exact List.Pairwise.nil
theorem blk_all {m : Nat} {D : List α} (h : BlkR lt m 0 D) (hl : D.length ≤ m) : AscS lt D := by
  have := h 0 (Nat.le_refl _)
  unfold segS at this
  rwa [Nat.zero_mul, Nat.zero_add, List.take_of_length_le hl, List.drop_zero] at this
theorem blk_two {m q : Nat} {D : List α} (k : BlkR lt m (2 * q) D) (a : Nat) (ha : a = q * (2 * m)) : AscS lt (segS D a (a + m)) ∧ AscS lt (segS D (a + m) (a + 2 * m)) := by
  subst ha
  have e : 2 * q * m = q * (2 * m) := by rw [Nat.mul_comm 2 q, Nat.mul_assoc]
  have h1 := k (2 * q) (Nat.le_refl _)
  have h2 := k (2 * q + 1) (by omega)
  rw [e] at h1
  rw [Nat.add_mul, Nat.one_mul, e] at h2
  exact ⟨h1, by rw [show q * (2 * m) + 2 * m = q * (2 * m) + m + m by omega]; exact h2⟩
end

/-- By the calls' order. -/
def ltL (x y : La) : Bool := ltC x.f x.d y.f y.d
theorem ltL_is (x y : La) : ltL x y = true ↔ x.f < y.f ∨ (x.f = y.f ∧ x.d < y.d) := by
  unfold ltL ltC; simp
theorem ltL_not (x y : La) : ltL x y = false ↔ ¬ (x.f < y.f ∨ (x.f = y.f ∧ x.d < y.d)) := by
  rw [← ltL_is]; simp
theorem ltL_wk : WkO ltL where
  irr := fun x => by rw [ltL_not]; omega
  tr := fun x y z h k => by rw [ltL_is] at *; omega
  wk := fun x y z h => by rw [ltL_is, ltL_is] at *; omega
theorem insL_stb (x : La) : ∀ {l : List La}, AscS ltL l → AscS ltL (insL x l) ∧ StbS ltL (l ++ [x]) (insL x l)
  | [], _ => ⟨List.pairwise_singleton _ _, StbS.refl _⟩
  | y :: l, h => by
    have hp := List.pairwise_cons.1 h
    unfold insL
    by_cases g : ltC x.f x.d y.f y.d = true
    · rw [if_pos g]
      have gx : ltL x y = true := g
      have all : ∀ z ∈ y :: l, ltL x z = true := fun z hz => by
        rcases List.mem_cons.1 hz with rfl | hz
        · exact gx
        · exact ltL_wk.lt_le gx (hp.1 z hz)
      refine ⟨List.pairwise_cons.2 ⟨fun z hz => ltL_wk.asy (all z hz), h⟩, ?_⟩
      exact StbS.swp ltL_wk (X := y :: l) (Y := [x]) (fun z hz w hw => by obtain rfl := List.mem_singleton.1 hw; exact all z hz)
    · rw [if_neg g]
      have gx : ltL x y = false := by
        have : ltL x y = ltC x.f x.d y.f y.d := rfl
        rw [this]; simpa using g
      obtain ⟨h1, h2⟩ := insL_stb x hp.2
      refine ⟨List.pairwise_cons.2 ⟨fun z hz => ?_, h1⟩, ?_⟩
      · have := h2.mem.2 hz
        rcases List.mem_append.1 this with hz | hz
        · exact hp.1 z hz
        · obtain rfl := List.mem_singleton.1 hz
          exact gx
      · exact (StbS.refl [y]).app h2
theorem foldL_stb : ∀ (L : List La) {s : List La}, AscS ltL s → AscS ltL (L.foldl (fun s x => insL x s) s) ∧ StbS ltL (s ++ L) (L.foldl (fun s x => insL x s) s)
  | [], s, h => ⟨h, by simpa using StbS.refl s⟩
  | x :: L, s, h => by
    obtain ⟨h1, h2⟩ := insL_stb x h
    obtain ⟨k1, k2⟩ := foldL_stb L h1
    refine ⟨k1, ?_⟩
    have : StbS ltL ((s ++ [x]) ++ L) (insL x s ++ L) := h2.app (StbS.refl L)
    rw [List.append_assoc] at this
    exact StbS.trans this k2
/-- What is sorted so is sortL. -/
theorem sortL_one {L M : List La} (h : AscS ltL M) (k : StbS ltL L M) : M = sortL L := by
  obtain ⟨h1, h2⟩ := foldL_stb L (s := []) List.Pairwise.nil
  exact stb_one ltL_wk h h1 (k.symm.trans h2)
end Go.Proofs.Ytldheaamcnmlgaa

namespace Go.Proofs.Ytldheaamcnmlgaa
open Go.RowKit

/-- The row of block g holds the latches (and Z behind them). -/
def RowS (w : World) (g : Nat) (Z : List Value) (D : List La) : Prop := w.heap[g]? = some (.cells (laC D ++ Z).toArray 37 (0, 0))
theorem RowS.fr {w w' : World} {g : Nat} {Z : List Value} {D : List La} (h : RowS w g Z D) (hf : Fr w w' []) : RowS w' g Z D := hf.heap h (by simp)
theorem RowS.lt {w : World} {g : Nat} {Z : List Value} {D : List La} (h : RowS w g Z D) : g < w.heap.size := (Array.getElem?_eq_some_iff.1 h).1
theorem RowS.cell {w : World} {g : Nat} {Z : List Value} {D : List La} (h : RowS w g Z D) (i : Nat) (hi : i < D.length) : w.cell? ⟨g, i * 3, none⟩ = some (.int .i64 (D.getD i zLa).f) ∧ w.cell? ⟨g, i * 3 + 1, none⟩ = some (.int .i64 (D.getD i zLa).d) ∧ w.cell? ⟨g, i * 3 + 2, none⟩ = some (.int .i64 (D.getD i zLa).g) := by
  obtain ⟨a, b, c⟩ := laC_get D i hi
  have key : ∀ k u, (laC D)[k]? = some u → w.cell? ⟨g, k, none⟩ = some u := fun k u hk => by
    rw [cell_of_row w g k _ _ _ h]
    have := (List.getElem?_eq_some_iff.1 hk).1
    simpa [List.getElem?_append_left this] using hk
  exact ⟨key _ _ a, key _ _ b, key _ _ c⟩
theorem laC_set (D : List La) (i : Nat) (x : La) : (((laC D).set (i * 3) (.int .i64 x.f)).set (i * 3 + 1) (.int .i64 x.d)).set (i * 3 + 2) (.int .i64 x.g) = laC (D.set i x) := by
  induction D generalizing i with
  | nil => rfl
  | cons b l ih =>
    cases i with
    | zero => simp [laC_cons]
    | succ i =>
      rw [List.set_cons_succ, laC_cons, laC_cons, ← ih i, show (i + 1) * 3 = i * 3 + 1 + 1 + 1 by omega]
      simp
theorem laC_len3 (D : List La) : (laC D).length = D.length * 3 := by
  induction D with
  | nil => rfl
  | cons b l ih => rw [laC_cons]; simp only [List.length_cons, ih]; omega
theorem rowS_put {w : World} {g : Nat} {Z : List Value} {D : List La} (h : RowS w g Z D) (i : Nat) (hi : i < D.length) (x : La) : RowS (w.setCells g (i * 3) x.cl) g Z (D.set i x) ∧ Fr w (w.setCells g (i * 3) x.cl) [g] := by
  have hl := laC_len3 D
  constructor
  · have e : w.setCells g (i * 3) x.cl = ((w.setCell ⟨g, i * 3, none⟩ (.int .i64 x.f)).setCell ⟨g, i * 3 + 1, none⟩ (.int .i64 x.d)).setCell ⟨g, i * 3 + 2, none⟩ (.int .i64 x.g) := rfl
    rw [e]
    unfold RowS
    have := heap_setCell_same _ g (i * 3 + 2) _ _ (.int .i64 x.g) (heap_setCell_same _ g (i * 3 + 1) _ _ (.int .i64 x.d) (heap_setCell_same _ g (i * 3) _ _ (.int .i64 x.f) h))
    rw [this]
    congr 2
    rw [List.setIfInBounds_toArray, List.setIfInBounds_toArray, List.setIfInBounds_toArray, List.set_append_left _ _ (by omega), List.set_append_left _ _ (by simp; omega), List.set_append_left _ _ (by simp; omega), laC_set]
  · exact ((Fr.setCell w g _ _ (by simp)).trans (Fr.setCell _ g _ _ (by simp))).trans (Fr.setCell _ g _ _ (by simp))
theorem rowS_swap {w : World} {g : Nat} {Z : List Value} {D : List La} (h : RowS w g Z D) (i j : Nat) (hi : i < D.length) (hj : j < D.length) : RowS ((w.setCells g (i * 3) (D.getD j zLa).cl).setCells g (j * 3) (D.getD i zLa).cl) g Z (swapS zLa D i j) ∧ Fr w ((w.setCells g (i * 3) (D.getD j zLa).cl).setCells g (j * 3) (D.getD i zLa).cl) [g] := by
  obtain ⟨h1, f1⟩ := rowS_put h i hi (D.getD j zLa)
  obtain ⟨h2, f2⟩ := rowS_put h1 j (by simpa using hj) (D.getD i zLa)
  exact ⟨h2, f1.trans f2⟩
/-- What is asked of less, of swap: in every world behind W0 in which no other block has turned. -/
def LessP (W0 : World) (p g n : Nat) (Z : List Value) : Prop := ∀ (w : World) (D : List La) (i j : Nat), Fr W0 w [g] → RowS w g Z D → D.length = n → i < n → j < n → Calls Try.prog 55 #[.int .i64 i, .int .i64 j, .pointer (some ⟨p, 0, none⟩)] w fun e w' => e = .returned (.bool (ltL (D.getD i zLa) (D.getD j zLa))) ∧ Fr w w' []
def SwapP (g n : Nat) (Z : List Value) (sf : Nat) (sb : Array Value) : Prop := ∀ (w : World) (D : List La) (i j : Nat), RowS w g Z D → D.length = n → i < n → j < n → i ≠ j → ∃ w', (callFunc sf (#[.int .i64 i, .int .i64 j] ++ sb)).run Try.prog w = .ok (.value (.tuple #[])) w' ∧ RowS w' g Z (swapS zLa D i j) ∧ Fr w w' [g]
def lessV (p : Nat) : Value := .func (.func 55) #[] #[.pointer (some ⟨p, 0, none⟩)]
/-- What a step of the sort leaves. -/
def SPost (w : World) (g : Nat) (Z : List Value) (Q : List La → Prop) (w' : World) : Prop := ∃ D, Q D ∧ RowS w' g Z D ∧ Fr w w' [g]
/-- A box of two. -/
theorem row2S {w : World} {b : Nat} {x y : Value} {T : TypeId} (h : w.heap[b]? = some (.cells #[x, y] T (0, 0))) : w.cell? ⟨b, 0, none⟩ = some x ∧ w.cell? ⟨b, 1, none⟩ = some y :=
  ⟨by rw [cell_of_row w b 0 _ _ _ h]; rfl, by rw [cell_of_row w b 1 _ _ _ h]; rfl⟩
theorem getD_mid (P Q : List La) (x : La) (i : Nat) (h : i = P.length) : (P ++ x :: Q).getD i zLa = x := by subst h; simp [List.getD]
/-- The box of less and swap, in every world behind it. -/
theorem boxS {W w : World} {g : Nat} {x y : Value} {T : TypeId} (hg : g < W.heap.size) (h : Fr (W.alloc (.cells #[x, y] T)) w [g]) : w.cell? ⟨W.heap.size, 0, none⟩ = some x ∧ w.cell? ⟨W.heap.size, 1, none⟩ = some y :=
  row2S (h.heap (heap_alloc_new W _) (by intro hm; have := List.mem_singleton.1 hm; omega))

set_option maxHeartbeats 2000000 in
set_option maxRecDepth 100000 in
theorem ins_sort (W0 : World) (p g n : Nat) (Z : List Value) (sf : Nat) (sb : Array Value) (LS : LessP W0 p g n Z) (SW : SwapP g n Z sf sb) (A S B : List La) (hn : (A ++ (S ++ B)).length = n) (hn6 : n ≤ 1000000) (a b : Nat) (ha : a = A.length) (hb : b = a + S.length) (w : World) (hf : Fr W0 w [g]) (hr : RowS w g Z (A ++ (S ++ B))) :
    Calls Try.prog 100 #[.agg #[lessV p, .func (.func sf) #[] sb], .int .i64 a, .int .i64 b] w fun e w' => e = .returned (.tuple #[]) ∧ SPost w g Z (fun D => ∃ M, D = A ++ (M ++ B) ∧ AscS ltL M ∧ StbS ltL S M) w' := by
  have hgl := hr.lt
  obtain ⟨H, hH⟩ : ∃ H, H = w.heap.size := ⟨_, rfl⟩
  obtain ⟨W1, hW1⟩ : ∃ W1, W1 = w.alloc (.cells #[lessV p, .func (.func sf) #[] sb] 109) := ⟨_, rfl⟩
  have FW := Lib.hid (show Fr w W1 [] by rw [hW1]; exact Fr.alloc w _ [])
  have BX : Hid (∀ W, Fr W1 W [g] → W.cell? ⟨H, 0, none⟩ = some (lessV p) ∧ W.cell? ⟨H, 1, none⟩ = some (.func (.func sf) #[] sb)) := Lib.hid (fun W h => by rw [hH]; rw [hW1] at h; exact boxS hgl h)
  have HR1 := Lib.hid (hr.fr FW.out)
  have HLS := Lib.hid LS
  have HSW := Lib.hid SW
  have HF0 := Lib.hid (show Fr W0 W1 [g] from hf.trans (FW.out.mono (by simp)))
  have HN := Lib.hid hn
  have HA := Lib.hid ha
  have HB := Lib.hid hb
  have hab : a + S.length ≤ n := by rw [← hn, ha]; simp
  clear LS SW hf hr hn ha hb hgl
  unfold lessV at *
  cases S with
  | nil =>
    have hb : b = a := HB.out
    subst hb
    have HFIN : Hid (SPost w g Z (fun D => ∃ M, D = A ++ (M ++ B) ∧ AscS ltL M ∧ StbS ltL [] M) W1) := Lib.hid ⟨_, ⟨[], rfl, List.Pairwise.nil, StbS.refl _⟩, HR1.out, FW.out.mono (by simp)⟩
    clear HR1 HLS HSW HF0 HN HA HB BX FW hH
    simp only [List.length_nil, Nat.add_zero] at hab
    go_enter Try.func100, Try.ntmps100
    go_wp2
    refine wp_loop_rounds 1 ?_
    rw [rounds_succ]
    go_wp2
    go_end0
    exact ⟨rfl, by rw [← hW1]; exact HFIN.out⟩
  | cons x0 S0 =>
    generalize hS : x0 :: S0 = S at *
    have hS0 : 0 < S.length := by rw [← hS]; simp
    have HT0 : Hid (S.take 1 = [x0]) := Lib.hid (by rw [← hS]; rfl)
    clear hS
    obtain ⟨m, hm⟩ : ∃ m, m = S.length := ⟨_, rfl⟩
    have HM := Lib.hid hm
    have HBM : Hid (b = a + m) := Lib.hid (by rw [hm]; exact HB.out)
    rw [← hm] at hab hS0
    clear hm HB
    go_enter Try.func100, Try.ntmps100
    go_wp2
    rw [← hW1, ← hH]
    clear hW1 hH
    go_loopw [6] (fun s6 wx => ∃ (i k : Nat) (T : List La), s6 = .int .i64 i ∧ Hid (i = a + k) ∧ Hid (1 ≤ k ∧ k ≤ m ∧ T.length = k) ∧ Hid (AscS ltL T ∧ StbS ltL (S.take k) T) ∧ Hid (RowS wx g Z (A ++ (T ++ (S.drop k ++ B))) ∧ Fr W1 wx [g])) (fun s6 _ => b - (intOf s6).toNat)
    case atStart =>
      refine ⟨a + 1, 1, [x0], by go_num, Lib.hid rfl, Lib.hid ⟨Nat.le_refl _, hS0, rfl⟩, Lib.hid ⟨List.pairwise_singleton _ _, by rw [HT0.out]; exact StbS.refl _⟩, Lib.hid ⟨?_, Fr.refl _ _⟩⟩
      have e : [x0] ++ (S.drop 1 ++ B) = S ++ B := by rw [← HT0.out, ← List.append_assoc, List.take_append_drop]
      rw [e]; exact HR1.out
    case round =>
      obtain ⟨i, k, T, rfl, HI, HK, HT, HRX⟩ := hrel
      have hin : i ≤ n := by have := HI.out; have := HK.out; omega
      have hai : a < i := by have := HI.out; have := HK.out; omega
      by_cases hlt : i < b
      · obtain ⟨x, hx⟩ : ∃ x, S.drop k = x :: S.drop (k + 1) := by
          have : k < S.length := by have := HM.out; have := HI.out; have := HBM.out; omega
          exact ⟨S[k], List.drop_eq_getElem_cons this⟩
        have HX := Lib.hid hx
        clear hx
        go_wp2
        go_loopw [7] (fun s7 wx => ∃ (jj j : Nat) (T1 T2 : List La), s7 = .int .i64 jj ∧ Hid (jj = a + j ∧ j ≤ k ∧ T1.length = j) ∧ Hid (T = T1 ++ T2 ∧ ∀ y ∈ T2, ltL x y = true) ∧ Hid (RowS wx g Z (A ++ (T1 ++ (x :: (T2 ++ (S.drop (k + 1) ++ B))))) ∧ Fr W1 wx [g])) (fun s7 _ => (intOf s7).toNat)
        case atStart =>
          refine ⟨i, k, T, [], rfl, Lib.hid ⟨HI.out, Nat.le_refl _, HK.out.2.2⟩, Lib.hid ⟨by simp, by simp⟩, Lib.hid ⟨?_, HRX.out.2⟩⟩
          have := HRX.out.1
          rw [HX.out] at this
          simpa using this
        case round =>
          obtain ⟨jj, j, T1, T2, rfl, HJ, HTT, HRY⟩ := hrel
          have hjn : jj ≤ n := by have := HJ.out; have := HI.out; have := HK.out; omega
          have haj : a ≤ jj := by have := HJ.out; omega
          obtain ⟨D, hD⟩ : ∃ D, D = A ++ (T1 ++ (x :: (T2 ++ (S.drop (k + 1) ++ B)))) := ⟨_, rfl⟩
          have HDL : Hid (D.length = n) := Lib.hid (by
            have := HN.out
            have h2 := congrArg List.length HX.out
            have h3 := congrArg List.length HTT.out.1
            have h4 := HM.out
            have h5 := HK.out
            have h6 := HI.out
            have h7 := HBM.out
            rw [hD]
            simp at this h2 h3 ⊢
            omega)
          have OUT : Hid ((T1 = [] ∨ ltL x (T1.getLastD zLa) = false) → ∀ w2, Fr wr w2 [] → ∃ (i' k' : Nat) (T' : List La), Value.int .i64 ((i : Int) + 1) = .int .i64 i' ∧ Hid (i' = a + k') ∧ Hid (1 ≤ k' ∧ k' ≤ m ∧ T'.length = k') ∧ Hid (AscS ltL T' ∧ StbS ltL (S.take k') T') ∧ Hid (RowS w2 g Z (A ++ (T' ++ (S.drop k' ++ B))) ∧ Fr W1 w2 [g])) := Lib.hid (fun hs w2 hf2 => by
            have hT := HT.out
            rw [HTT.out.1] at hT
            have h1 : ∀ y ∈ T1, ltL x y = false := by
              rcases hs with rfl | hs
              · simp
              · intro y hy
                obtain ⟨T0, z, rfl⟩ : ∃ T0 z, T1 = T0 ++ [z] := by
                  rcases List.eq_nil_or_concat T1 with e | ⟨T0, z, e⟩
                  · rw [e] at hy; simp at hy
                  · exact ⟨T0, z, by simpa using e⟩
                have ez : (T0 ++ [z]).getLastD zLa = z := by simp
                rw [ez] at hs
                rcases List.mem_append.1 hy with hy | hy
                · have : ltL z y = false := (List.pairwise_append.1 (List.pairwise_append.1 hT.1).1).2.2 y hy z (by simp)
                  exact ltL_wk.le this hs
                · obtain rfl := List.mem_singleton.1 hy; exact hs
            obtain ⟨p1, p2⟩ := put_right ltL_wk hT.1 h1 HTT.out.2
            have hl := congrArg List.length HTT.out.1
            have hk := HK.out
            refine ⟨i + 1, k + 1, T1 ++ x :: T2, by go_num, Lib.hid (by have := HI.out; omega), Lib.hid ⟨by omega, by have := HI.out; have := HBM.out; omega, by simp at hl ⊢; omega⟩, Lib.hid ⟨p1, ?_⟩, Lib.hid ⟨?_, HRY.out.2.trans (hf2.mono (by simp))⟩⟩
            · have e : S.take (k + 1) = S.take k ++ [x] := by
                have h := List.take_append_drop k S
                rw [HX.out] at h
                have hlk : (S.take k).length = k := by have := HM.out; have := HI.out; have := HBM.out; simp; omega
                conv => lhs; rw [← h]
                rw [List.take_append, hlk, List.take_of_length_le (by omega), show k + 1 - k = 1 by omega]
                rfl
              rw [e]
              exact StbS.trans (hT.2.app (StbS.refl [x])) p2
            · have := HRY.out.1.fr hf2
              simpa using this)
          have HDX : Hid (D.getD jj zLa = x) := Lib.hid (by
            rw [hD, ← List.append_assoc]
            exact getD_mid _ _ _ _ (by have := HA.out; have := HJ.out; simp; omega))
          have HWW := Lib.hid HRY.out.2
          have HD := Lib.hid hD
          rw [← hD] at HRY
          clear hD
          obtain ⟨c0, c1⟩ := BX.out wr HWW.out
          have HJN : Hid (jj < n ∧ jj - 1 < n) := Lib.hid (by have := HJ.out; have := HI.out; have := HBM.out; have := HK.out; omega)
          by_cases hja : a < jj
          · obtain ⟨T0, z, rfl⟩ : ∃ T0 z, T1 = T0 ++ [z] := by
              rcases List.eq_nil_or_concat T1 with e | ⟨T0, z, e⟩
              · have hj := HJ.out; rw [e] at hj; simp at hj; omega
              · exact ⟨T0, z, by simpa using e⟩
            have HDZ : Hid (D.getD (jj - 1) zLa = z) := Lib.hid (by
              rw [HD.out, show A ++ (T0 ++ [z] ++ (x :: (T2 ++ (S.drop (k + 1) ++ B)))) = (A ++ T0) ++ z :: (x :: (T2 ++ (S.drop (k + 1) ++ B))) by simp]
              exact getD_mid _ _ _ _ (by have := HA.out; have hj := HJ.out; simp at hj ⊢; omega))
            have hl := HLS.out wr D jj (jj - 1) (HF0.out.trans HWW.out) HRY.out.1 HDL.out HJN.out.1 HJN.out.2
            rw [HDX.out, HDZ.out, show ((jj - 1 : Nat) : Int) = (jj : Int) - 1 by omega] at hl
            have HL := Lib.hid hl
            clear hl
            cases hlv : ltL x z with
            | true =>
              rw [hlv] at HL
              have NXT : Hid (∀ w2 w3, Fr wr w2 [] → RowS w3 g Z (swapS zLa D jj (jj - 1)) → Fr w2 w3 [g] → ∃ (jj' j' : Nat) (T1' T2' : List La), Value.int .i64 ((jj : Int) - 1) = .int .i64 jj' ∧ Hid (jj' = a + j' ∧ j' ≤ k ∧ T1'.length = j') ∧ Hid (T = T1' ++ T2' ∧ ∀ y ∈ T2', ltL x y = true) ∧ Hid (RowS w3 g Z (A ++ (T1' ++ (x :: (T2' ++ (S.drop (k + 1) ++ B))))) ∧ Fr W1 w3 [g])) := Lib.hid (fun w2 w3 hf2 hr3 hf3 => by
                have hj := HJ.out
                simp at hj
                refine ⟨jj - 1, j - 1, T0, z :: T2, by congr 1; omega, Lib.hid ⟨by omega, by omega, by omega⟩, Lib.hid ⟨by rw [HTT.out.1]; simp, fun y hy => ?_⟩, Lib.hid ⟨?_, (HWW.out.trans (hf2.mono (by simp))).trans hf3⟩⟩
                · rcases List.mem_cons.1 hy with rfl | hy
                  · exact hlv
                  · exact HTT.out.2 y hy
                · rw [HD.out, show A ++ (T0 ++ [z] ++ (x :: (T2 ++ (S.drop (k + 1) ++ B)))) = (A ++ T0) ++ z :: ([] ++ x :: (T2 ++ (S.drop (k + 1) ++ B))) by simp,
                    swapS_dn zLa (A ++ T0) [] (T2 ++ (S.drop (k + 1) ++ B)) z x _ _ (by have := HA.out; simp; omega) (by have := HA.out; simp; omega)] at hr3
                  simpa using hr3)
              clear OUT HDX HDZ HD
              go_wp2_with fail
              with_reducible refine (HL.out).mono ?_
              rintro e w2 ⟨rfl, hf2⟩
              obtain ⟨w3, hs, hr3, hf3⟩ := HSW.out w2 D jj (jj - 1) (HRY.out.1.fr hf2) HDL.out HJN.out.1 HJN.out.2 (by omega)
              rw [show ((jj - 1 : Nat) : Int) = (jj : Int) - 1 by omega] at hs
              have d1 := hf2.cell c1 (by simp)
              have HN2 := Lib.hid (NXT.out w2 w3 hf2 hr3 hf3)
              clear NXT hr3 hf3 hf2
              go_wp2
              go_roundw
              case rel => exact HN2.out
              case measure => simp [intOf]; omega
            | false =>
              rw [hlv] at HL
              have OUT2 : Hid (∀ w2, Fr wr w2 [] → _) := Lib.hid (OUT.out (.inr (by rw [show (T0 ++ [z]).getLastD zLa = z by simp]; exact hlv)))
              clear OUT HDX HDZ HD
              go_wp2_with fail
              with_reducible refine (HL.out).mono ?_
              rintro e w2 ⟨rfl, hf2⟩
              have HO := Lib.hid (OUT2.out w2 hf2)
              clear OUT2 hf2
              go_wp2
              go_roundw
              case rel => exact HO.out
              case measure => simp [intOf]; omega
          · have HO := Lib.hid (OUT.out (.inl (List.eq_nil_of_length_eq_zero (by have := HJ.out; omega))) wr (Fr.refl _ _))
            clear OUT HDX HD
            obtain rfl : jj = a := by omega
            go_wp2
            go_roundw
            case rel => exact HO.out
            case measure => simp [intOf]; omega
      · obtain rfl : k = m := by have := HI.out; have := HBM.out; have := HK.out; omega
        have HFIN : Hid (SPost w g Z (fun D => ∃ M, D = A ++ (M ++ B) ∧ AscS ltL M ∧ StbS ltL S M) wr) := Lib.hid (by
          have hT := HT.out
          have hR := HRX.out
          rw [HM.out, List.take_length] at hT
          rw [HM.out, List.drop_length, List.nil_append] at hR
          exact ⟨_, ⟨T, rfl, hT⟩, hR.1, (FW.out.mono (by simp)).trans hR.2⟩)
        go_wp2
        go_end0
        exact ⟨rfl, HFIN.out⟩
end Go.Proofs.Ytldheaamcnmlgaa

namespace Go.Proofs.Ytldheaamcnmlgaa
open Go.RowKit

set_option maxHeartbeats 2000000 in
set_option maxRecDepth 100000 in
theorem swap_range (p g n : Nat) (Z : List Value) (sf : Nat) (sb : Array Value) (SW : SwapP g n Z sf sb) (A X Y V B : List La) (hn : (A ++ (X ++ (Y ++ (V ++ B)))).length = n) (hn6 : n ≤ 1000000) (hxv : X.length = V.length) (a b m : Nat) (ha : a = A.length) (hb : b = A.length + X.length + Y.length) (hm : m = X.length) (w : World) (hr : RowS w g Z (A ++ (X ++ (Y ++ (V ++ B))))) :
    Calls Try.prog 114 #[.agg #[lessV p, .func (.func sf) #[] sb], .int .i64 a, .int .i64 b, .int .i64 m] w fun e w' => e = .returned (.tuple #[]) ∧ SPost w g Z (fun D => D = A ++ (V ++ (Y ++ (X ++ B)))) w' := by
  have hgl := hr.lt
  obtain ⟨H, hH⟩ : ∃ H, H = w.heap.size := ⟨_, rfl⟩
  obtain ⟨W1, hW1⟩ : ∃ W1, W1 = w.alloc (.cells #[lessV p, .func (.func sf) #[] sb] 109) := ⟨_, rfl⟩
  have FW := Lib.hid (show Fr w W1 [] by rw [hW1]; exact Fr.alloc w _ [])
  have BX : Hid (∀ W, Fr W1 W [g] → W.cell? ⟨H, 0, none⟩ = some (lessV p) ∧ W.cell? ⟨H, 1, none⟩ = some (.func (.func sf) #[] sb)) := Lib.hid (fun W h => by rw [hH]; rw [hW1] at h; exact boxS hgl h)
  have HR1 := Lib.hid (hr.fr FW.out)
  have HSW := Lib.hid SW
  have HN := Lib.hid hn
  have HA := Lib.hid ha
  have HB := Lib.hid hb
  have HM := Lib.hid hm
  have HXV := Lib.hid hxv
  have hbn : a + m ≤ n ∧ b + m ≤ n := by rw [← hn, ha, hb, hm]; simp; omega
  obtain ⟨han, hbn⟩ := hbn
  clear SW hr hn ha hb hgl hm hxv
  unfold lessV at *
  go_enter Try.func114, Try.ntmps114
  go_wp2
  rw [← hW1, ← hH]
  clear hW1 hH
  go_loopw [8] (fun s8 wx => ∃ (k : Nat), s8 = .int .i64 k ∧ Hid (k ≤ m) ∧ Hid (RowS wx g Z (A ++ ((V.take k ++ X.drop k) ++ (Y ++ ((X.take k ++ V.drop k) ++ B)))) ∧ Fr W1 wx [g])) (fun s8 _ => m - (intOf s8).toNat)
  case atStart =>
    exact ⟨0, rfl, Lib.hid (Nat.zero_le _), Lib.hid ⟨by simpa using HR1.out, Fr.refl _ _⟩⟩
  case round =>
    obtain ⟨k, rfl, HK, HRX⟩ := hrel
    have hk := HK.out
    by_cases hlt : k < m
    · obtain ⟨x, hx⟩ : ∃ x, X.drop k = x :: X.drop (k + 1) := ⟨X[k]'(by have := HM.out; omega), List.drop_eq_getElem_cons (by have := HM.out; omega)⟩
      obtain ⟨v, hv⟩ : ∃ v, V.drop k = v :: V.drop (k + 1) := ⟨V[k]'(by have := HM.out; have := HXV.out; omega), List.drop_eq_getElem_cons (by have := HM.out; have := HXV.out; omega)⟩
      have ex : X.take (k + 1) = X.take k ++ [x] := by
        have h := List.take_append_drop k X
        rw [hx] at h
        have hlk : (X.take k).length = k := by have := HM.out; simp; omega
        conv => lhs; rw [← h]
        rw [List.take_append, hlk, List.take_of_length_le (by omega), show k + 1 - k = 1 by omega]
        rfl
      have ev : V.take (k + 1) = V.take k ++ [v] := by
        have h := List.take_append_drop k V
        rw [hv] at h
        have hlk : (V.take k).length = k := by have := HM.out; have := HXV.out; simp; omega
        conv => lhs; rw [← h]
        rw [List.take_append, hlk, List.take_of_length_le (by omega), show k + 1 - k = 1 by omega]
        rfl
      have hrow := HRX.out.1
      have NX : Hid (swapS zLa (A ++ ((V.take k ++ X.drop k) ++ (Y ++ ((X.take k ++ V.drop k) ++ B)))) (a + k) (b + k) = A ++ ((V.take (k + 1) ++ X.drop (k + 1)) ++ (Y ++ ((X.take (k + 1) ++ V.drop (k + 1)) ++ B)))) := Lib.hid (by
        rw [hx, hv, ex, ev]
        have e1 : A ++ ((V.take k ++ x :: X.drop (k + 1)) ++ (Y ++ ((X.take k ++ v :: V.drop (k + 1)) ++ B))) = (A ++ V.take k) ++ x :: ((X.drop (k + 1) ++ (Y ++ X.take k)) ++ v :: (V.drop (k + 1) ++ B)) := by simp
        have h1 := HM.out
        have h2 := HXV.out
        rw [e1, swapS_up zLa _ _ _ x v _ _ (by have := HA.out; simp; omega) (by have := HA.out; have := HB.out; simp; omega)]
        simp)
      obtain ⟨D, hD⟩ : ∃ D, D = A ++ ((V.take k ++ X.drop k) ++ (Y ++ ((X.take k ++ V.drop k) ++ B))) := ⟨_, rfl⟩
      have hDL : D.length = n := by
        have := HN.out
        have h1 := HM.out
        have h2 := HXV.out
        rw [hD]
        simp at this ⊢
        omega
      rw [← hD] at hrow NX
      obtain ⟨w3, hs, hr3, hf3⟩ := HSW.out wr D (a + k) (b + k) hrow hDL (by omega) (by omega) (by have := HA.out; have := HB.out; have := HM.out; omega)
      rw [show ((a + k : Nat) : Int) = (a : Int) + (k : Int) by omega, show ((b + k : Nat) : Int) = (b : Int) + (k : Int) by omega] at hs
      rw [NX.out] at hr3
      have HR3 := Lib.hid hr3
      have HF3 := Lib.hid (HRX.out.2.trans hf3)
      obtain ⟨c0, c1⟩ := BX.out wr HRX.out.2
      clear hr3 hf3 hrow NX hD hDL ex ev hx hv
      go_wp2
      go_roundw
      case rel => exact ⟨k + 1, by go_num, Lib.hid (by omega), Lib.hid ⟨HR3.out, HF3.out⟩⟩
      case measure => simp [intOf]; omega
    · obtain rfl : k = m := by omega
      have HFIN : Hid (SPost w g Z (fun D => D = A ++ (V ++ (Y ++ (X ++ B)))) wr) := Lib.hid (by
        have h := HRX.out.1
        have h1 := HM.out
        have h2 := HXV.out
        rw [List.take_of_length_le (show V.length ≤ k by omega), List.drop_eq_nil_of_le (show X.length ≤ k by omega), List.take_of_length_le (show X.length ≤ k by omega), List.drop_eq_nil_of_le (show V.length ≤ k by omega), List.append_nil, List.append_nil] at h
        exact ⟨_, rfl, h, (FW.out.mono (by simp)).trans HRX.out.2⟩)
      go_wp2
      go_end0
      exact ⟨rfl, HFIN.out⟩
set_option maxHeartbeats 2000000 in
set_option maxRecDepth 100000 in
theorem rotate_row (p g n : Nat) (Z : List Value) (sf : Nat) (sb : Array Value) (SW : SwapP g n Z sf sb) (A X Y B : List La) (hn : (A ++ (X ++ (Y ++ B))).length = n) (hn6 : n ≤ 1000000) (hx0 : 0 < X.length) (hy0 : 0 < Y.length) (a m b : Nat) (ha : a = A.length) (hm : m = a + X.length) (hb : b = m + Y.length) (w : World) (hr : RowS w g Z (A ++ (X ++ (Y ++ B)))) :
    Calls Try.prog 112 #[.agg #[lessV p, .func (.func sf) #[] sb], .int .i64 a, .int .i64 m, .int .i64 b] w fun e w' => e = .returned (.tuple #[]) ∧ SPost w g Z (fun D => D = A ++ (Y ++ (X ++ B))) w' := by
  have hgl := hr.lt
  obtain ⟨H, hH⟩ : ∃ H, H = w.heap.size := ⟨_, rfl⟩
  obtain ⟨W1, hW1⟩ : ∃ W1, W1 = w.alloc (.cells #[lessV p, .func (.func sf) #[] sb] 109) := ⟨_, rfl⟩
  have FW := Lib.hid (show Fr w W1 [] by rw [hW1]; exact Fr.alloc w _ [])
  have BX : Hid (∀ W, Fr W1 W [g] → W.cell? ⟨H, 0, none⟩ = some (lessV p) ∧ W.cell? ⟨H, 1, none⟩ = some (.func (.func sf) #[] sb)) := Lib.hid (fun W h => by rw [hH]; rw [hW1] at h; exact boxS hgl h)
  have HR1 := Lib.hid (hr.fr FW.out)
  have SR : Hid (∀ (A X Y V B : List La), (A ++ (X ++ (Y ++ (V ++ B)))).length = n → X.length = V.length → ∀ (a b m : Nat), a = A.length → b = A.length + X.length + Y.length → m = X.length → ∀ w, RowS w g Z (A ++ (X ++ (Y ++ (V ++ B)))) →
    Calls Try.prog 114 #[.agg #[lessV p, .func (.func sf) #[] sb], .int .i64 a, .int .i64 b, .int .i64 m] w fun e w' => e = .returned (.tuple #[]) ∧ SPost w g Z (fun D => D = A ++ (V ++ (Y ++ (X ++ B)))) w') := Lib.hid (fun A X Y V B h1 h2 a b m h3 h4 h5 w h6 => swap_range p g n Z sf sb SW A X Y V B h1 hn6 h2 a b m h3 h4 h5 w h6)
  obtain ⟨T, hT⟩ : ∃ T, T = A ++ (Y ++ (X ++ B)) := ⟨_, rfl⟩
  have HT := Lib.hid hT
  have hbn : a ≤ m ∧ m ≤ b ∧ b ≤ n := by rw [← hn, hb, hm, ha]; simp; omega
  obtain ⟨ham, hmb, hbn⟩ := hbn
  have HN := Lib.hid hn
  have ham' : (0 : Int) ≤ (m : Int) - a := by omega
  obtain ⟨i0, hi0⟩ : ∃ i0 : Nat, i0 = X.length := ⟨_, rfl⟩
  obtain ⟨j0, hj0⟩ : ∃ j0 : Nat, j0 = Y.length := ⟨_, rfl⟩
  have ei : (m : Int) - a = (i0 : Int) := by omega
  have ej : (b : Int) - m = (j0 : Int) := by omega
  have HST : Hid (∃ P X' Y' Q : List La, X'.length = i0 ∧ Y'.length = j0 ∧ (P ++ X').length = m ∧ P ++ (Y' ++ (X' ++ Q)) = T ∧ RowS W1 g Z (P ++ (X' ++ (Y' ++ Q)))) := Lib.hid ⟨A, X, Y, B, hi0.symm, hj0.symm, by simp; omega, hT.symm, HR1.out⟩
  have hi1 : 0 < i0 := by omega
  have hj1 : 0 < j0 := by omega
  have him : i0 + j0 ≤ b := by omega
  clear SW hr hn ha hb hgl hm hT hi0 hj0 hx0 hy0 HR1
  unfold lessV at *
  go_enter Try.func112, Try.ntmps112
  go_wp2
  rw [← hW1, ← hH]
  clear hW1 hH
  go_loopw [8, 9] (fun s8 s9 wx => ∃ (i j : Nat) (P X' Y' Q : List La), s8 = .int .i64 i ∧ s9 = .int .i64 j ∧ Hid (0 < i ∧ 0 < j ∧ i + j ≤ b ∧ X'.length = i ∧ Y'.length = j ∧ P.length + i = m ∧ m + j ≤ n) ∧ Hid (P ++ (Y' ++ (X' ++ Q)) = T) ∧ Hid (RowS wx g Z (P ++ (X' ++ (Y' ++ Q))) ∧ Fr W1 wx [g])) (fun s8 s9 _ => (intOf s8).toNat + (intOf s9).toNat)
  case atStart =>
    obtain ⟨P, X', Y', Q, h1, h2, h3, h4, h5⟩ := HST.out
    refine ⟨i0, j0, P, X', Y', Q, by first | rfl | rw [ei], by first | rfl | rw [ej], Lib.hid ⟨hi1, hj1, him, h1, h2, by simp at h3; omega, by omega⟩, Lib.hid h4, Lib.hid ⟨h5, Fr.refl _ _⟩⟩
  case round =>
    obtain ⟨i, j, P, X', Y', Q, rfl, rfl, HIJ, HPT, HRX⟩ := hrel
    obtain ⟨hi0, hj0, hij, hXl, hYl, hPm, hmj⟩ := HIJ.out
    have HDN : Hid ((P ++ (X' ++ (Y' ++ Q))).length = n) := Lib.hid (by
      have h := congrArg List.length HPT.out
      have h2 := congrArg List.length HT.out
      have h3 := HN.out
      simp at h h2 h3 ⊢
      omega)
    have hmi : i ≤ m := by omega
    have HXL := Lib.hid hXl
    have HYL := Lib.hid hYl
    have HPM := Lib.hid hPm
    clear hXl hYl hPm HIJ HST ei ej hi1 hj1 him
    obtain ⟨c0, c1⟩ := BX.out wr HRX.out.2
    have eA : ((m - i : Nat) : Int) = (m : Int) - (i : Int) := by omega
    by_cases hne : i = j
    · subst hne
      have C := Lib.hid (SR.out P X' [] Y' Q (by simpa using HDN.out) (by rw [HXL.out, HYL.out]) (m - i) m i (by have := HPM.out; omega) (by have := HPM.out; have := HXL.out; simp; omega) HXL.out.symm wr (by simpa using HRX.out.1))
      rw [eA] at C
      have HFIN : Hid (∀ w2, SPost wr g Z (fun D => D = P ++ (Y' ++ ([] ++ (X' ++ Q)))) w2 → SPost w g Z (fun D => D = A ++ (Y ++ (X ++ B))) w2) := Lib.hid (fun w2 ⟨D, h1, h2, h3⟩ => ⟨D, by rw [h1, ← HT.out, ← HPT.out]; rfl, h2, (FW.out.mono (by simp)).trans (HRX.out.2.trans h3)⟩)
      clear HRX HDN eA
      go_wp2_with fail
      with_reducible refine (C.out).mono ?_
      rintro e w2 ⟨rfl, hp⟩
      have HP := Lib.hid (HFIN.out w2 hp)
      clear hp
      go_wp2
      go_end0
      exact ⟨rfl, HP.out⟩
    · have hneb : ((i : Int) != (j : Int)) = true := by simp; omega
      by_cases hgt : j < i
      · have C := Lib.hid (SR.out P (X'.take j) (X'.drop j) Y' Q (by have := HDN.out; have := HXL.out; simp at *; omega) (by rw [List.length_take, HXL.out, HYL.out]; omega) (m - i) m j (by have := HPM.out; omega) (by have := HPM.out; have := HXL.out; simp; omega) (by rw [List.length_take, HXL.out]; omega) wr (by have := HRX.out.1; rw [← List.append_assoc (X'.take j), List.take_append_drop]; exact this))
        rw [eA] at C
        have NX : Hid (∀ w2, SPost wr g Z (fun D => D = P ++ (Y' ++ (X'.drop j ++ (X'.take j ++ Q)))) w2 → ∃ (i2 j2 : Nat) (P X'' Y'' Q : List La), Value.int .i64 ((i : Int) - (j : Int)) = .int .i64 i2 ∧ Value.int .i64 (j : Int) = .int .i64 j2 ∧ Hid (0 < i2 ∧ 0 < j2 ∧ i2 + j2 ≤ b ∧ X''.length = i2 ∧ Y''.length = j2 ∧ P.length + i2 = m ∧ m + j2 ≤ n) ∧ Hid (P ++ (Y'' ++ (X'' ++ Q)) = T) ∧ Hid (RowS w2 g Z (P ++ (X'' ++ (Y'' ++ Q))) ∧ Fr W1 w2 [g])) := Lib.hid (fun w2 ⟨D, h1, h2, h3⟩ => by
          have k1 := HXL.out
          have k2 := HYL.out
          have k3 := HPM.out
          refine ⟨i - j, j, P ++ Y', X'.drop j, X'.take j, Q, by congr 1; omega, rfl, Lib.hid ⟨by omega, hj0, by omega, by simp; omega, by simp; omega, by simp; omega, hmj⟩, Lib.hid ?_, Lib.hid ⟨?_, HRX.out.2.trans h3⟩⟩
          · rw [← HPT.out, List.append_assoc, ← List.append_assoc (X'.take j), List.take_append_drop]
          · rw [h1] at h2
            rwa [List.append_assoc])
        clear HRX HDN eA
        go_wp2_with fail
        with_reducible refine (C.out).mono ?_
        rintro e w2 ⟨rfl, hp⟩
        have HP := Lib.hid (NX.out w2 hp)
        clear hp NX C
        go_wp2
        go_roundw
        case rel => exact HP.out
        case measure => simp [intOf]; omega
      · have hle : i < j := by omega
        have eB : ((m + j - i : Nat) : Int) = (m : Int) + (j : Int) - (i : Int) := by omega
        have C := Lib.hid (SR.out P X' (Y'.take (j - i)) (Y'.drop (j - i)) Q (by have := HDN.out; have := HYL.out; simp at *; omega) (by rw [List.length_drop, HXL.out, HYL.out]; omega) (m - i) (m + j - i) i (by have := HPM.out; omega) (by have := HPM.out; have := HXL.out; have := HYL.out; simp; omega) HXL.out.symm wr (by have := HRX.out.1; rw [← List.append_assoc (Y'.take (j - i)), List.take_append_drop]; exact this))
        rw [eA, eB] at C
        have NX : Hid (∀ w2, SPost wr g Z (fun D => D = P ++ (Y'.drop (j - i) ++ (Y'.take (j - i) ++ (X' ++ Q)))) w2 → ∃ (i2 j2 : Nat) (P X'' Y'' Q : List La), Value.int .i64 (i : Int) = .int .i64 i2 ∧ Value.int .i64 ((j : Int) - (i : Int)) = .int .i64 j2 ∧ Hid (0 < i2 ∧ 0 < j2 ∧ i2 + j2 ≤ b ∧ X''.length = i2 ∧ Y''.length = j2 ∧ P.length + i2 = m ∧ m + j2 ≤ n) ∧ Hid (P ++ (Y'' ++ (X'' ++ Q)) = T) ∧ Hid (RowS w2 g Z (P ++ (X'' ++ (Y'' ++ Q))) ∧ Fr W1 w2 [g])) := Lib.hid (fun w2 ⟨D, h1, h2, h3⟩ => by
          have k1 := HXL.out
          have k2 := HYL.out
          have k3 := HPM.out
          refine ⟨i, j - i, P, Y'.drop (j - i), Y'.take (j - i), X' ++ Q, rfl, by congr 1; omega, Lib.hid ⟨hi0, by omega, by omega, by simp; omega, by simp; omega, k3, by omega⟩, Lib.hid ?_, Lib.hid ⟨?_, HRX.out.2.trans h3⟩⟩
          · rw [← HPT.out, ← List.append_assoc (Y'.take (j - i)), List.take_append_drop]
          · rw [h1] at h2
            exact h2)
        clear HRX HDN eA eB
        go_wp2_with fail
        with_reducible refine (C.out).mono ?_
        rintro e w2 ⟨rfl, hp⟩
        have HP := Lib.hid (NX.out w2 hp)
        clear hp NX C
        go_wp2
        go_roundw
        case rel => exact HP.out
        case measure => simp [intOf]; omega
end Go.Proofs.Ytldheaamcnmlgaa

namespace Go.Proofs.Ytldheaamcnmlgaa
open Go.RowKit

theorem low_take {R : List La} {x : La} (hR : AscS ltL R) {t : Nat} (ht : t < R.length) (h : ltL (R.getD t zLa) x = true) : ∀ y ∈ R.take (t + 1), ltL y x = true := by
  intro y hy
  obtain ⟨i, hi, rfl⟩ := List.getElem_of_mem hy
  rw [List.length_take] at hi
  have := asc_le ltL_wk hR (show i ≤ t by omega) ht zLa
  have e : (R.take (t + 1))[i] = R.getD i zLa := by simp [List.getD, List.getElem?_eq_getElem (show i < R.length by omega)]
  rw [e]
  exact ltL_wk.le_lt this h
theorem high_drop {R : List La} {x : La} (hR : AscS ltL R) {t : Nat} (h : ltL (R.getD t zLa) x = false) : ∀ y ∈ R.drop t, ltL y x = false := by
  intro y hy
  obtain ⟨i, hi, rfl⟩ := List.getElem_of_mem hy
  rw [List.length_drop] at hi
  have := asc_le ltL_wk hR (show t ≤ t + i by omega) (by omega) zLa
  have e : (R.drop t)[i] = R.getD (t + i) zLa := by simp [List.getD, List.getElem?_eq_getElem (show t + i < R.length by omega)]
  rw [e]
  exact ltL_wk.le h this
theorem low_take' {L : List La} {y : La} (hL : AscS ltL L) {t : Nat} (ht : t < L.length) (h : ltL y (L.getD t zLa) = false) : ∀ x ∈ L.take (t + 1), ltL y x = false := by
  intro x hx
  obtain ⟨i, hi, rfl⟩ := List.getElem_of_mem hx
  rw [List.length_take] at hi
  have := asc_le ltL_wk hL (show i ≤ t by omega) ht zLa
  have e : (L.take (t + 1))[i] = L.getD i zLa := by simp [List.getD, List.getElem?_eq_getElem (show i < L.length by omega)]
  rw [e]
  exact ltL_wk.le this h
theorem high_drop' {L : List La} {y : La} (hL : AscS ltL L) {t : Nat} (h : ltL y (L.getD t zLa) = true) : ∀ x ∈ L.drop t, ltL y x = true := by
  intro x hx
  obtain ⟨i, hi, rfl⟩ := List.getElem_of_mem hx
  rw [List.length_drop] at hi
  have := asc_le ltL_wk hL (show t ≤ t + i by omega) (by omega) zLa
  have e : (L.drop t)[i] = L.getD (t + i) zLa := by simp [List.getD, List.getElem?_eq_getElem (show t + i < L.length by omega)]
  rw [e]
  exact ltL_wk.lt_le h this
theorem getD_seg (A L B : List La) (i : Nat) (h1 : A.length ≤ i) (h2 : i < A.length + L.length) : (A ++ (L ++ B)).getD i zLa = L.getD (i - A.length) zLa := by
  simp only [List.getD]
  rw [List.getElem?_append_right h1, List.getElem?_append_left (by omega)]
theorem drop_one {L : List La} {k : Nat} (h : k < L.length) : ∃ x, L.drop k = x :: L.drop (k + 1) ∧ L.take (k + 1) = L.take k ++ [x] :=
  ⟨L[k], List.drop_eq_getElem_cons h, by rw [List.take_succ_eq_append_getElem h]⟩
/-- What is asked of a merge. -/
def SymQ (w : World) (g : Nat) (Z : List Value) (A L R B : List La) : World → Prop := SPost w g Z (fun D => ∃ M, D = A ++ (M ++ B) ∧ AscS ltL M ∧ StbS ltL (L ++ R) M)

set_option maxHeartbeats 2000000 in
set_option maxRecDepth 100000 in
theorem sym_one (W0 : World) (p g n : Nat) (Z : List Value) (sf : Nat) (sb : Array Value) (LS : LessP W0 p g n Z) (SW : SwapP g n Z sf sb) (A R B : List La) (x : La) (hn : (A ++ (x :: (R ++ B))).length = n) (hn6 : n ≤ 1000000) (hR : AscS ltL R) (a m b : Nat) (ha : a = A.length) (hm : m = a + 1) (hb : b = m + R.length) (w : World) (hf : Fr W0 w [g]) (hr : RowS w g Z (A ++ (x :: (R ++ B)))) :
    Calls Try.prog 101 #[.agg #[lessV p, .func (.func sf) #[] sb], .int .i64 a, .int .i64 m, .int .i64 b] w fun e w' => e = .returned (.tuple #[]) ∧ SymQ w g Z A [x] R B w' := by
  have hgl := hr.lt
  obtain ⟨H, hH⟩ : ∃ H, H = w.heap.size := ⟨_, rfl⟩
  obtain ⟨W1, hW1⟩ : ∃ W1, W1 = w.alloc (.cells #[lessV p, .func (.func sf) #[] sb] 109) := ⟨_, rfl⟩
  have FW := Lib.hid (show Fr w W1 [] by rw [hW1]; exact Fr.alloc w _ [])
  have BX : Hid (∀ W, Fr W1 W [g] → W.cell? ⟨H, 0, none⟩ = some (lessV p) ∧ W.cell? ⟨H, 1, none⟩ = some (.func (.func sf) #[] sb)) := Lib.hid (fun W h => by rw [hH]; rw [hW1] at h; exact boxS hgl h)
  have HR1 := Lib.hid (hr.fr FW.out)
  have HLS := Lib.hid LS
  have HSW := Lib.hid SW
  have HAR := Lib.hid hR
  have HF0 := Lib.hid (show Fr W0 W1 [g] from hf.trans (FW.out.mono (by simp)))
  have HN := Lib.hid hn
  have HA := Lib.hid ha
  have HB := Lib.hid hb
  have hbn : b ≤ n := by rw [← hn, hb, hm, ha]; simp; omega
  have hmb : m ≤ b := by omega
  obtain ⟨D, hD⟩ : ∃ D, D = A ++ (x :: (R ++ B)) := ⟨_, rfl⟩
  have HDX : Hid (D.getD a zLa = x) := Lib.hid (by rw [hD]; exact getD_mid _ _ _ _ ha)
  have HDR : Hid (∀ t, t < R.length → D.getD (m + t) zLa = R.getD t zLa) := Lib.hid (fun t ht => by
    rw [hD, show A ++ (x :: (R ++ B)) = (A ++ [x]) ++ (R ++ B) by simp, getD_seg _ _ _ _ (by simp; omega) (by simp; omega)]
    congr 1; simp; omega)
  have HDL : Hid (D.length = n) := Lib.hid (by rw [hD]; exact hn)
  have HD := Lib.hid hD
  rw [← hD] at HR1
  have hma : (m : Int) - (a : Int) = 1 := by omega
  have hmm := Lib.hid hm
  clear LS SW hf hr hn ha hb hgl hD hR hm
  unfold lessV at *
  go_enter Try.func101, Try.ntmps101
  go_wp2
  rw [← hW1, ← hH]
  clear hW1 hH
  go_loopw [8, 9] (fun s8 s9 wx => ∃ (i j : Nat), s8 = .int .i64 i ∧ s9 = .int .i64 j ∧ Hid (m ≤ i ∧ i ≤ j ∧ j ≤ b) ∧ Hid ((∀ y ∈ R.take (i - m), ltL y x = true) ∧ (∀ y ∈ R.drop (j - m), ltL y x = false)) ∧ Hid (RowS wx g Z D ∧ Fr W1 wx [])) (fun s8 s9 _ => (intOf s9).toNat - (intOf s8).toNat)
  case atStart =>
    exact ⟨m, b, rfl, rfl, Lib.hid ⟨Nat.le_refl _, hmb, Nat.le_refl _⟩, Lib.hid ⟨by simp, by rw [List.drop_eq_nil_of_le (by have := HB.out; omega)]; simp⟩, Lib.hid ⟨HR1.out, Fr.refl _ _⟩⟩
  case round =>
    obtain ⟨i, j, rfl, rfl, HIJ, HX, HRX⟩ := hrel
    obtain ⟨hmi, hij, hjb⟩ := HIJ.out
    clear HIJ
    obtain ⟨c0, c1⟩ := BX.out wr (HRX.out.2.mono (by simp))
    by_cases hlt : i < j
    · obtain ⟨h, hh⟩ : ∃ h, h = (i + j) / 2 := ⟨_, rfl⟩
      have eh : ((i : Int) + (j : Int)) / 2 = (h : Int) := by omega
      have hhi : i ≤ h := by omega
      have hhj : h < j := by omega
      clear hh
      have hl := HLS.out wr D h a (HF0.out.trans (HRX.out.2.mono (by simp))) HRX.out.1 HDL.out (by omega) (by have := hmm.out; omega)
      have hdr := HDR.out (h - m) (by have := HB.out; omega)
      rw [show m + (h - m) = h by omega] at hdr
      rw [hdr, HDX.out] at hl
      have HL := Lib.hid hl
      clear hl hdr
      cases hlv : ltL (R.getD (h - m) zLa) x with
      | true =>
        rw [hlv] at HL
        have NX : Hid (∀ y ∈ R.take (h + 1 - m), ltL y x = true) := Lib.hid (by
          rw [show h + 1 - m = h - m + 1 by omega]
          exact low_take HAR.out (by have := HB.out; omega) hlv)
        clear hlv
        go_wp2_with fail
        with_reducible refine (HL.out).mono ?_
        rintro e w2 ⟨rfl, hf2⟩
        have HF2 := Lib.hid hf2
        clear hf2
        go_wp2
        go_roundw
        case rel => exact ⟨h + 1, j, by go_num, rfl, Lib.hid ⟨by omega, by omega, hjb⟩, Lib.hid ⟨NX.out, HX.out.2⟩, Lib.hid ⟨HRX.out.1.fr HF2.out, HRX.out.2.trans HF2.out⟩⟩
        case measure => simp [intOf]; omega
      | false =>
        rw [hlv] at HL
        have NX : Hid (∀ y ∈ R.drop (h - m), ltL y x = false) := Lib.hid (high_drop HAR.out hlv)
        clear hlv
        go_wp2_with fail
        with_reducible refine (HL.out).mono ?_
        rintro e w2 ⟨rfl, hf2⟩
        have HF2 := Lib.hid hf2
        clear hf2
        go_wp2
        go_roundw
        case rel => exact ⟨i, h, rfl, by go_num, Lib.hid ⟨hmi, hhi, by omega⟩, Lib.hid ⟨HX.out.1, NX.out⟩, Lib.hid ⟨HRX.out.1.fr HF2.out, HRX.out.2.trans HF2.out⟩⟩
        case measure => simp [intOf]; omega
    · obtain rfl : i = j := by omega
      have HFIN : Hid (∀ w2, RowS w2 g Z (A ++ (R.take (i - m) ++ (x :: (R.drop (i - m) ++ B)))) → Fr W1 w2 [g] → SymQ w g Z A [x] R B w2) := Lib.hid (fun w2 h1 h2 => by
        have hR := HAR.out
        rw [← List.take_append_drop (i - m) R] at hR
        obtain ⟨k1, k2⟩ := put_left ltL_wk hR HX.out.1 HX.out.2
        rw [List.take_append_drop] at k2
        exact ⟨_, ⟨R.take (i - m) ++ x :: R.drop (i - m), by simp, k1, k2⟩, h1, (FW.out.mono (by simp)).trans h2⟩)
      have HFZ := Lib.hid HRX.out.2
      have HROW : Hid (RowS wr g Z (A ++ (R.take (a - a) ++ (x :: (R.drop (a - a) ++ B))))) := Lib.hid (by
        have := HRX.out.1
        rw [HD.out] at this
        simpa using this)
      have hmm2 : m = a + 1 := hmm.out
      clear HX HRX HAR HDX HDR hij c0 c1 HLS HDL HD
      go_wp2
      go_loopw [11] (fun s11 wx => ∃ k : Nat, s11 = .int .i64 k ∧ Hid (a ≤ k ∧ k + 1 ≤ i) ∧ Hid (RowS wx g Z (A ++ (R.take (k - a) ++ (x :: (R.drop (k - a) ++ B)))) ∧ Fr W1 wx [g])) (fun s11 _ => i - (intOf s11).toNat)
      case atStart => exact ⟨a, rfl, Lib.hid ⟨Nat.le_refl _, by omega⟩, Lib.hid ⟨HROW.out, HFZ.out.mono (by simp)⟩⟩
      case round =>
        obtain ⟨k, rfl, HK, HRX⟩ := hrel
        obtain ⟨hak, hki⟩ := HK.out
        clear HK
        by_cases hlt : k < i - 1
        · have hlt' : (k : Int) < (i : Int) - 1 := by omega
          obtain ⟨y, hy1, hy2⟩ := drop_one (L := R) (k := k - a) (by have := HB.out; omega)
          obtain ⟨w3, hs, hr3, hf3⟩ := HSW.out wr _ k (k + 1) HRX.out.1 (by
            have := HN.out
            have := HB.out
            simp at *
            omega) (by omega) (by omega) (by omega)
          have hsw : swapS zLa (A ++ (R.take (k - a) ++ (x :: (R.drop (k - a) ++ B)))) k (k + 1) = A ++ (R.take (k + 1 - a) ++ (x :: (R.drop (k + 1 - a) ++ B))) := by
            rw [show k + 1 - a = k - a + 1 by omega, hy1, hy2, show A ++ (R.take (k - a) ++ (x :: (y :: R.drop (k - a + 1) ++ B))) = (A ++ R.take (k - a)) ++ x :: ([] ++ y :: (R.drop (k - a + 1) ++ B)) by simp,
              swapS_up zLa _ [] _ x y _ _ (by have := HA.out; have := HB.out; simp; omega) (by have := HA.out; have := HB.out; simp; omega)]
            simp
          rw [hsw] at hr3
          rw [show ((k + 1 : Nat) : Int) = (k : Int) + 1 by omega] at hs
          have HR3 := Lib.hid hr3
          have HF3 := Lib.hid (HRX.out.2.trans hf3)
          obtain ⟨c0, c1⟩ := BX.out wr HRX.out.2
          clear hr3 hf3 hsw hy1 hy2 hlt
          go_wp2
          go_roundw
          case rel => exact ⟨k + 1, by go_num, Lib.hid ⟨by omega, by omega⟩, Lib.hid ⟨HR3.out, HF3.out⟩⟩
          case measure => simp [intOf]; omega
        · have hge : ¬ (k : Int) < (i : Int) - 1 := by omega
          have HE := Lib.hid (HFIN.out wr (by have := HRX.out.1; rwa [show k - a = i - m by omega] at this) HRX.out.2)
          clear hlt
          go_wp2
          (try simp only [Exit.inBlock, Exit.then])
          refine bodyPost_ret (results_none rfl _ _ _) rfl ?_
          exact ⟨rfl, HE.out⟩
end Go.Proofs.Ytldheaamcnmlgaa

namespace Go.Proofs.Ytldheaamcnmlgaa
open Go.RowKit

set_option maxHeartbeats 2000000 in
set_option maxRecDepth 100000 in
theorem sym_last (W0 : World) (p g n : Nat) (Z : List Value) (sf : Nat) (sb : Array Value) (LS : LessP W0 p g n Z) (SW : SwapP g n Z sf sb) (A L B : List La) (y : La) (hn : (A ++ (L ++ (y :: B))).length = n) (hn6 : n ≤ 1000000) (hL : AscS ltL L) (hl1 : L.length ≠ 1) (a m b : Nat) (ha : a = A.length) (hm : m = a + L.length) (hb : b = m + 1) (w : World) (hf : Fr W0 w [g]) (hr : RowS w g Z (A ++ (L ++ (y :: B)))) :
    Calls Try.prog 101 #[.agg #[lessV p, .func (.func sf) #[] sb], .int .i64 a, .int .i64 m, .int .i64 b] w fun e w' => e = .returned (.tuple #[]) ∧ SymQ w g Z A L [y] B w' := by
  have hgl := hr.lt
  obtain ⟨H, hH⟩ : ∃ H, H = w.heap.size := ⟨_, rfl⟩
  obtain ⟨W1, hW1⟩ : ∃ W1, W1 = w.alloc (.cells #[lessV p, .func (.func sf) #[] sb] 109) := ⟨_, rfl⟩
  have FW := Lib.hid (show Fr w W1 [] by rw [hW1]; exact Fr.alloc w _ [])
  have BX : Hid (∀ W, Fr W1 W [g] → W.cell? ⟨H, 0, none⟩ = some (lessV p) ∧ W.cell? ⟨H, 1, none⟩ = some (.func (.func sf) #[] sb)) := Lib.hid (fun W h => by rw [hH]; rw [hW1] at h; exact boxS hgl h)
  have HR1 := Lib.hid (hr.fr FW.out)
  have HLS := Lib.hid LS
  have HSW := Lib.hid SW
  have HAL := Lib.hid hL
  have HF0 := Lib.hid (show Fr W0 W1 [g] from hf.trans (FW.out.mono (by simp)))
  have HN := Lib.hid hn
  have HA := Lib.hid ha
  have HM := Lib.hid hm
  have hbn : b ≤ n := by rw [← hn, hb, hm, ha]; simp; omega
  have ham : a ≤ m := by omega
  have hne : ((m : Int) - (a : Int) == 1) = false := by simp; omega
  have hb1 : (b : Int) - (m : Int) = 1 := by omega
  have hmn : m < n := by omega
  obtain ⟨D, hD⟩ : ∃ D, D = A ++ (L ++ (y :: B)) := ⟨_, rfl⟩
  have HDY : Hid (D.getD m zLa = y) := Lib.hid (by rw [hD, ← List.append_assoc]; exact getD_mid _ _ _ _ (by simp; omega))
  have HDE : Hid (∀ t, t < L.length → D.getD (a + t) zLa = L.getD t zLa) := Lib.hid (fun t ht => by
    rw [hD, getD_seg _ _ _ _ (by omega) (by omega)]
    congr 1; omega)
  have HDL : Hid (D.length = n) := Lib.hid (by rw [hD]; exact hn)
  have HD := Lib.hid hD
  rw [← hD] at HR1
  clear LS SW hf hr hn ha hb hgl hD hL hm hl1
  unfold lessV at *
  go_enter Try.func101, Try.ntmps101
  go_wp2
  rw [← hW1, ← hH]
  clear hW1 hH
  go_loopw [12, 13] (fun s8 s9 wx => ∃ (i j : Nat), s8 = .int .i64 i ∧ s9 = .int .i64 j ∧ Hid (a ≤ i ∧ i ≤ j ∧ j ≤ m) ∧ Hid ((∀ x ∈ L.take (i - a), ltL y x = false) ∧ (∀ x ∈ L.drop (j - a), ltL y x = true)) ∧ Hid (RowS wx g Z D ∧ Fr W1 wx [])) (fun s8 s9 _ => (intOf s9).toNat - (intOf s8).toNat)
  case atStart =>
    exact ⟨a, m, rfl, rfl, Lib.hid ⟨Nat.le_refl _, ham, Nat.le_refl _⟩, Lib.hid ⟨by simp, by rw [List.drop_eq_nil_of_le (by have := HM.out; omega)]; simp⟩, Lib.hid ⟨HR1.out, Fr.refl _ _⟩⟩
  case round =>
    obtain ⟨i, j, rfl, rfl, HIJ, HX, HRX⟩ := hrel
    obtain ⟨hmi, hij, hjb⟩ := HIJ.out
    clear HIJ
    obtain ⟨c0, c1⟩ := BX.out wr (HRX.out.2.mono (by simp))
    by_cases hlt : i < j
    · obtain ⟨h, hh⟩ : ∃ h, h = (i + j) / 2 := ⟨_, rfl⟩
      have eh : ((i : Int) + (j : Int)) / 2 = (h : Int) := by omega
      have hhi : i ≤ h := by omega
      have hhj : h < j := by omega
      clear hh
      have hl := HLS.out wr D m h (HF0.out.trans (HRX.out.2.mono (by simp))) HRX.out.1 HDL.out hmn (by omega)
      have hdr := HDE.out (h - a) (by have := HM.out; omega)
      rw [show a + (h - a) = h by omega] at hdr
      rw [hdr, HDY.out] at hl
      have HL := Lib.hid hl
      clear hl hdr
      cases hlv : ltL y (L.getD (h - a) zLa) with
      | false =>
        rw [hlv] at HL
        have NX : Hid (∀ x ∈ L.take (h + 1 - a), ltL y x = false) := Lib.hid (by
          rw [show h + 1 - a = h - a + 1 by omega]
          exact low_take' HAL.out (by have := HM.out; omega) hlv)
        clear hlv
        go_wp2_with fail
        with_reducible refine (HL.out).mono ?_
        rintro e w2 ⟨rfl, hf2⟩
        have HF2 := Lib.hid hf2
        clear hf2
        go_wp2
        go_roundw
        case rel => exact ⟨h + 1, j, by go_num, rfl, Lib.hid ⟨by omega, by omega, hjb⟩, Lib.hid ⟨NX.out, HX.out.2⟩, Lib.hid ⟨HRX.out.1.fr HF2.out, HRX.out.2.trans HF2.out⟩⟩
        case measure => simp [intOf]; omega
      | true =>
        rw [hlv] at HL
        have NX : Hid (∀ x ∈ L.drop (h - a), ltL y x = true) := Lib.hid (high_drop' HAL.out hlv)
        clear hlv
        go_wp2_with fail
        with_reducible refine (HL.out).mono ?_
        rintro e w2 ⟨rfl, hf2⟩
        have HF2 := Lib.hid hf2
        clear hf2
        go_wp2
        go_roundw
        case rel => exact ⟨i, h, rfl, by go_num, Lib.hid ⟨hmi, hhi, by omega⟩, Lib.hid ⟨HX.out.1, NX.out⟩, Lib.hid ⟨HRX.out.1.fr HF2.out, HRX.out.2.trans HF2.out⟩⟩
        case measure => simp [intOf]; omega
    · obtain rfl : i = j := by omega
      have HFIN : Hid (∀ w2, RowS w2 g Z (A ++ (L.take (i - a) ++ (y :: (L.drop (i - a) ++ B)))) → Fr W1 w2 [g] → SymQ w g Z A L [y] B w2) := Lib.hid (fun w2 h1 h2 => by
        have hL := HAL.out
        rw [← List.take_append_drop (i - a) L] at hL
        obtain ⟨k1, k2⟩ := put_right ltL_wk hL HX.out.1 HX.out.2
        rw [List.take_append_drop] at k2
        exact ⟨_, ⟨L.take (i - a) ++ y :: L.drop (i - a), by simp, k1, k2⟩, h1, (FW.out.mono (by simp)).trans h2⟩)
      have HFZ := Lib.hid HRX.out.2
      have HROW : Hid (RowS wr g Z (A ++ (L.take (m - a) ++ (y :: (L.drop (m - a) ++ B))))) := Lib.hid (by
        have := HRX.out.1
        have hm := HM.out
        rw [List.take_of_length_le (by omega), List.drop_eq_nil_of_le (by omega)]
        rw [HD.out] at this
        simpa using this)
      clear HX HRX HAL HDY HDE hij c0 c1 HLS HDL HD
      go_wp2
      go_loopw [15] (fun s11 wx => ∃ k : Nat, s11 = .int .i64 k ∧ Hid (i ≤ k ∧ k ≤ m) ∧ Hid (RowS wx g Z (A ++ (L.take (k - a) ++ (y :: (L.drop (k - a) ++ B)))) ∧ Fr W1 wx [g])) (fun s11 _ => (intOf s11).toNat)
      case atStart => exact ⟨m, rfl, Lib.hid ⟨hjb, Nat.le_refl _⟩, Lib.hid ⟨HROW.out, HFZ.out.mono (by simp)⟩⟩
      case round =>
        obtain ⟨k, rfl, HK, HRX⟩ := hrel
        obtain ⟨hik, hkm⟩ := HK.out
        clear HK
        by_cases hlt : i < k
        · obtain ⟨x, hx1, hx2⟩ := drop_one (L := L) (k := k - 1 - a) (by have := HM.out; omega)
          obtain ⟨w3, hs, hr3, hf3⟩ := HSW.out wr _ k (k - 1) HRX.out.1 (by
            have := HN.out
            have := HM.out
            simp at *
            omega) (by omega) (by omega) (by omega)
          have hsw : swapS zLa (A ++ (L.take (k - a) ++ (y :: (L.drop (k - a) ++ B)))) k (k - 1) = A ++ (L.take (k - 1 - a) ++ (y :: (L.drop (k - 1 - a) ++ B))) := by
            rw [show k - a = k - 1 - a + 1 by omega, hx1, hx2, show A ++ (L.take (k - 1 - a) ++ [x] ++ (y :: (L.drop (k - 1 - a + 1) ++ B))) = (A ++ L.take (k - 1 - a)) ++ x :: ([] ++ y :: (L.drop (k - 1 - a + 1) ++ B)) by simp,
              swapS_dn zLa _ [] _ x y _ _ (by have := HA.out; have := HM.out; simp; omega) (by have := HA.out; have := HM.out; simp; omega)]
            simp
          rw [hsw] at hr3
          rw [show ((k - 1 : Nat) : Int) = (k : Int) - 1 by omega] at hs
          have HR3 := Lib.hid hr3
          have HF3 := Lib.hid (HRX.out.2.trans hf3)
          obtain ⟨c0, c1⟩ := BX.out wr HRX.out.2
          clear hr3 hf3 hsw hx1 hx2
          go_wp2
          go_roundw
          case rel => exact ⟨k - 1, by congr 1; omega, Lib.hid ⟨by omega, by omega⟩, Lib.hid ⟨HR3.out, HF3.out⟩⟩
          case measure => simp [intOf]; omega
        · obtain rfl : k = i := by omega
          have HE := Lib.hid (HFIN.out wr HRX.out.1 HRX.out.2)
          clear hlt
          go_wp2
          (try simp only [Exit.inBlock, Exit.then])
          refine bodyPost_ret (results_none rfl _ _ _) rfl ?_
          exact ⟨rfl, HE.out⟩
end Go.Proofs.Ytldheaamcnmlgaa
