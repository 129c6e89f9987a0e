/- What a car wants, bid by bid. Plain: no program. -/
import Derived.Test.YtldheaamcnmlgaaGLj
namespace Go.Proofs.Ytldheaamcnmlgaa
open Go.RowKit Fm

theorem placeE_mid {f d : Int} : ∀ {A B : List En} {e : En}, (∀ a ∈ A, ¬ (a.fl = f ∧ a.di = d)) → (e.fl = f ∧ e.di = d) → placeE (A ++ e :: B) f d = A.length
  | [], B, e, _, h => by
    show placeE (e :: B) f d = 0
    unfold placeE
    rw [List.takeWhile_cons, if_neg (by simpa using h)]; rfl
  | a :: A, B, e, h, k => by
    have g := h a (by simp)
    show placeE (a :: (A ++ e :: B)) f d = A.length + 1
    have ih := placeE_mid (A := A) (B := B) (e := e) (fun x hx => h x (by simp [hx])) k
    unfold placeE at ih ⊢
    rw [List.takeWhile_cons, if_pos (by rw [← Bool.decide_and, decide_eq_false g]; rfl), List.length_cons, ih]
theorem set_mid {α : Type} : ∀ (A B : List α) (e y : α), (A ++ e :: B).set A.length y = A ++ y :: B
  | [], _, _, _ => rfl
  | a :: A, B, e, y => by
    show a :: (A ++ e :: B).set A.length y = _
    rw [set_mid A B e y]; rfl
theorem getD_midE {α : Type} (A B : List α) (e z : α) : (A ++ e :: B).getD A.length z = e := by
  simp [List.getD_eq_getElem?_getD]
theorem bidE_call (e : En) (b : Int × Int) : callOf (bidE e b) = callOf e ∧ laOf (bidE e b) = laOf e ∧ (bidE e b).aw = e.aw := ⟨rfl, rfl, rfl⟩
theorem putB_len (l : List (Int × Int)) (b : Int × Int) : (putB l b).length ≤ l.length + 1 := by
  unfold putB
  split
  · omega
  · rw [insB_length]; exact Nat.le_refl _
theorem pair_swap {A B : List En} {e y : En} (h : (A ++ e :: B).Pairwise Less) (h1 : y.fl = e.fl) (h2 : y.di = e.di) : (A ++ y :: B).Pairwise Less := by
  have k1 := List.pairwise_append.1 h
  have k2 := List.pairwise_cons.1 k1.2.1
  refine List.pairwise_append.2 ⟨k1.1, List.pairwise_cons.2 ⟨fun b hb => ?_, k2.2⟩, fun a ha b hb => ?_⟩
  · have := k2.1 b hb
    unfold Less at this ⊢
    rw [h1, h2]; exact this
  · rcases List.mem_cons.1 hb with rfl | hb
    · have := k1.2.2 a ha e (by simp)
      unfold Less at this ⊢
      rw [h1, h2]; exact this
    · exact k1.2.2 a ha b (by simp [hb])
/-- A bid on the first that is wanted: it may be put, the entry is wanted no more, the others are as they were. -/
structure WantStep (r r' : Rg) (car t : Int) (c : Int × Int) (cs : List (Int × Int)) (k : Nat) : Prop where
  at_ : k < r.es.length
  may : bidMay r (car, t) k
  is : bidRB r (car, t) k = true
  again : ∀ t', bidRB r' (car, t') k = false
  place : placeE r'.es c.1 c.2 = k
  wants : wantsR r' car = cs
  rise : r'.es.Pairwise Less
  ms : r'.ms = r.ms
  head : r'.co = r.co ∧ r'.fo = r.fo ∧ r'.ho = r.ho
  len : r'.es.length = r.es.length
  es : ∃ A B e, r.es = A ++ e :: B ∧ r'.es = A ++ bidE e (car, t) :: B ∧ wantE car e = true ∧ A.length = k
  bs : ∀ N, (∀ e ∈ r.es, e.bs.length ≤ N) → ∀ e ∈ r'.es, e.bs.length ≤ N + 1
theorem bid_wanted {r : Rg} {car t : Int} {c : Int × Int} {cs : List (Int × Int)} (hp : r.es.Pairwise Less) (ht : 0 ≤ t ∧ t ≤ 1048576) (hw : wantsR r car = c :: cs) :
    WantStep r (bidR r (car, t) (placeE r.es c.1 c.2)) car t c cs (placeE r.es c.1 c.2) := by
  unfold wantsR at hw
  by_cases hin : car ∈ r.ms
  rotate_left
  · rw [if_neg hin] at hw; cases hw
  rw [if_pos hin] at hw
  obtain ⟨e, rest, hf, hc, hr⟩ := List.map_eq_cons_iff.1 hw
  obtain ⟨A, B, hs, hA, he, hB⟩ := List.filter_eq_cons_iff.1 hf
  have hpp := hp
  rw [hs] at hpp
  have hAe : ∀ a ∈ A, Less a e := fun a ha => (List.pairwise_append.1 hpp).2.2 a ha e (by simp)
  have hpl : placeE r.es c.1 c.2 = A.length := by
    rw [hs, ← hc]
    exact placeE_mid (fun a ha q => by have := hAe a ha; unfold Less at this; simp only [callOf] at q; omega) ⟨rfl, rfl⟩
  have hwe := he
  unfold wantE at hwe
  simp only [Bool.and_eq_true, decide_eq_true_eq, Option.isNone_iff_eq_none] at hwe
  have hk : A.length < r.es.length := by rw [hs]; simp
  have hg : r.es.getD A.length zeroE = e := by rw [hs]; exact getD_midE A B e zeroE
  have hmay : bidMay r (car, t) A.length := ⟨hk, by rw [hg]; exact hwe.1, hin, ht.1, ht.2⟩
  rw [hpl]
  have hr' : bidR r (car, t) A.length = { r with es := A ++ bidE e (car, t) :: B } := by
    unfold bidR
    rw [if_pos hmay, hg, hs, set_mid]
  have hsome : (bidOf (putB e.bs (car, t)) car).isSome = true := by rw [bidOf_put]; simp
  have hnw : wantE car (bidE e (car, t)) = false := by
    unfold wantE bidE
    have : (bidOf (putB e.bs (car, t)) car).isNone = false := by
      cases q : bidOf (putB e.bs (car, t)) car with
      | none => rw [q] at hsome; cases hsome
      | some _ => rfl
    simp [this]
  refine ⟨hk, hmay, ?_, ?_, ?_, ?_, ?_, ?_, ?_, ?_, ?_, ?_⟩
  · unfold bidRB
    rw [decide_eq_true hmay, hg, hwe.2]; rfl
  · intro t'
    unfold bidRB
    rw [hr']
    have : ((bidOf ((A ++ bidE e (car, t) :: B).getD A.length zeroE).bs (car, t').1)).isNone = false := by
      rw [getD_midE]
      show (bidOf (putB e.bs (car, t)) car).isNone = false
      cases q : bidOf (putB e.bs (car, t)) car with
      | none => rw [q] at hsome; cases hsome
      | some _ => rfl
    rw [this, Bool.and_false]
  · rw [hr', ← hc]
    exact placeE_mid (fun a ha q => by have := hAe a ha; unfold Less at this; simp only [callOf] at q; omega) ⟨rfl, rfl⟩
  · rw [hr']
    unfold wantsR
    rw [if_pos hin]
    show ((A ++ bidE e (car, t) :: B).filter (wantE car)).map callOf = cs
    rw [List.filter_append, List.filter_cons, if_neg (by rw [hnw]; decide), List.filter_eq_nil_iff.2 hA, List.nil_append, hB, hr]
  · rw [hr']
    exact pair_swap hpp rfl rfl
  · rw [hr']
  · rw [hr']; exact ⟨rfl, rfl, rfl⟩
  · rw [hr', hs]; simp
  · exact ⟨A, B, e, hs, by rw [hr'], he, rfl⟩
  · intro N hN x hx
    rw [hr'] at hx
    rcases List.mem_append.1 hx with q | q
    · have := hN x (by rw [hs]; simp [q]); omega
    · rcases List.mem_cons.1 q with rfl | q
      · have := hN e (by rw [hs]; simp)
        have h2 := putB_len e.bs (car, t)
        show (putB e.bs (car, t)).length ≤ N + 1
        omega
      · have := hN x (by rw [hs]; simp [q]); omega
/-- The n-th of those that are so. -/
theorem filter_at {α : Type} (p : α → Bool) (z : α) : ∀ (l : List α) (i : Nat), i < l.length → p (l.getD i z) = true → (l.filter p).getD (((l.take i).filter p).length) z = l.getD i z ∧ ((l.take i).filter p).length < (l.filter p).length
  | [], i, h, _ => by simp at h
  | a :: l, 0, _, h => by
    have h0 : p a = true := h
    rw [List.filter_cons, if_pos h0]; simp
  | a :: l, i + 1, h, k => by
    have ih := filter_at p z l i (by simpa using h) (by simpa using k)
    rw [List.take_succ_cons, List.filter_cons, List.filter_cons]
    by_cases q : p a = true
    · rw [if_pos q, if_pos q]
      simpa using ih
    · rw [if_neg q, if_neg q]
      simpa using ih
theorem want_is {ms : List Int} {car : Int} {e : En} (hv : ValE ms e) (hc : ∀ m ∈ ms, Car m) : wantE car e = true ↔ ¬ (0 ≤ e.aw) ∧ ∀ b ∈ e.bs, b.1 ≠ car := by
  unfold wantE
  simp only [Bool.and_eq_true, decide_eq_true_eq, Option.isNone_iff_eq_none, bidOf_none]
  refine and_congr_left fun _ => ⟨fun h => by omega, fun h => ?_⟩
  rcases hv.aw with q | q
  · exact q
  · have := hc _ q; unfold Car at this; omega
end Go.Proofs.Ytldheaamcnmlgaa
