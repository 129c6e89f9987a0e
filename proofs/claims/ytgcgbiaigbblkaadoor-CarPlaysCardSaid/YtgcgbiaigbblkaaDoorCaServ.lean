/- Car calls at some floors: what counts of them, how much there is to do. Plain. -/
import Derived.Test.YtgcgbiaigbblkaaDoorCaRun
import Derived.Test.YtgcgbiaigbblkaaDoorAOf
namespace Go.Proofs.YtgcgbiaigbblkaaDoor

theorem countP_or (p q : Nat → Bool) : ∀ l : List Nat, l.countP (fun i => p i || q i) ≤ l.countP p + l.countP q
  | [] => by simp
  | a :: l => by
    have := countP_or p q l
    simp only [List.countP_cons]
    cases p a <;> cases q a <;> simp <;> omega
theorem countP_one (z : Int) : ∀ k : Nat, (List.range k).countP (fun i : Nat => decide ((i : Int) = z)) ≤ if z < k then 1 else 0
  | 0 => by simp
  | k + 1 => by
    have := countP_one z k
    rw [List.range_succ, List.countP_append, List.countP_singleton]
    by_cases h : (k : Int) = z
    · rw [if_neg (by omega)] at this
      rw [if_pos (by simpa using h), if_pos (by omega)]
      omega
    · rw [if_neg (by simpa using h)]
      split at this <;> split <;> omega
theorem cnt_or (n : Nat) (z : Int) : cntN (n ||| oneN z) ≤ cntN n + 1 := by
  have a := countP_or n.testBit (oneN z).testBit (List.range 64)
  have b : (List.range 64).countP (oneN z).testBit ≤ 1 := by
    have c := countP_one z 64
    refine Nat.le_trans (List.countP_mono_left (q := fun i : Nat => decide ((i : Int) = z)) fun i _ hi => ?_) (Nat.le_trans c (by split <;> omega))
    rw [← hasB_nat, hasB_one, decide_eq_true_iff] at hi
    exact decide_eq_true hi.1
  have e : cntN (n ||| oneN z) = (List.range 64).countP (fun i => n.testBit i || (oneN z).testBit i) := by
    unfold cntN
    congr 1
    funext i
    exact Nat.testBit_or n (oneN z) i
  rw [e]
  unfold cntN
  omega
theorem cnt_none : cntN 0 = 0 := by decide
theorem cnt_car (l : List Int) : cntN (carOf l) ≤ l.length := by
  have : ∀ (l : List Int) (n : Nat), cntN (l.foldl (fun n z => n ||| oneN z) n) ≤ cntN n + l.length := by
    intro l
    induction l with
    | nil => intro n; simp
    | cons z l ih =>
      intro n
      have := ih (n ||| oneN z)
      have := cnt_or n z
      simp only [List.foldl_cons, List.length_cons]
      omega
  have := this l 0
  rw [cnt_none] at this
  unfold carOf
  omega
theorem hasB_car (l : List Int) (z : Int) : hasB (carOf l) z = true ↔ z ∈ l ∧ 0 ≤ z ∧ z < 64 := by
  have : ∀ (l : List Int) (n : Nat), hasB (l.foldl (fun n z => n ||| oneN z) n) z = true ↔ hasB n z = true ∨ (z ∈ l ∧ 0 ≤ z ∧ z < 64) := by
    intro l
    induction l with
    | nil => intro n; simp
    | cons y l ih =>
      intro n
      rw [List.foldl_cons, ih, hasB_or, Bool.or_eq_true, hasB_one, decide_eq_true_iff, List.mem_cons]
      constructor
      · rintro ((k | k) | k)
        · exact .inl k
        · exact .inr ⟨.inl k.1, by omega⟩
        · exact .inr ⟨.inr k.1, k.2⟩
      · rintro (k | ⟨k | k, r⟩)
        · exact .inl (.inl k)
        · exact .inl (.inr ⟨k, by omega⟩)
        · exact .inr ⟨k, r⟩
  have := this l 0
  rw [hasB_zero] at this
  simpa [carOf] using this
/-- Car calls alone. -/
def onlyC (n : Nat) : Sp := ⟨n, 0, 0⟩
theorem onlyC_ok {n : Nat} (h : n < 18446744073709551616) : (onlyC n).ok := ⟨h, (by decide : (0 : Nat) < 18446744073709551616), (by decide : (0 : Nat) < 18446744073709551616)⟩
theorem onlyC_cnt (n : Nat) : (onlyC n).cnt = cntN n := by
  show cntN n + cntN 0 + cntN 0 = _
  rw [cnt_none]; rfl
theorem fit_onlyC {h : Ho} (k : h.ok) {n : Nat} (hn : n < 18446744073709551616) (r : ∀ z, hasB n z = true → z < h.f) : h.fit (onlyC n) = onlyC n := by
  refine sp_ext (fun z => ?_) (fun z => ?_) (fun z => ?_)
  · rw [fit_car k]
    show (hasB n z && _) = hasB n z
    cases q : hasB n z with
    | false => rfl
    | true => rw [decide_eq_true (r z q)]; rfl
  · rw [fit_up k, show (onlyC n).u = 0 from rfl, hasB_zero]; rfl
  · rw [fit_dn k (onlyC_ok hn), show (onlyC n).d = 0 from rfl, hasB_zero]; rfl
theorem onlyC_less (n : Nat) (d : Sp) : (onlyC n).less d = onlyC (n &&& (18446744073709551615 - d.c)) := by
  unfold Sp.less onlyC
  dsimp only
  rw [Nat.zero_and, Nat.zero_and]
theorem onlyC_all (n : Nat) : (onlyC n).all = n := by
  unfold Sp.all onlyC
  dsimp only
  rw [Nat.or_zero, Nat.or_zero]
/-- A car that starts. -/
def startC (h : Ho) (p : Int) : Ca := ⟨⟨p, 0, 0, !decide (h.lev p)⟩, 0⟩
theorem start_right {h : Ho} (k : h.ok) {p : Int} (p0 : 0 ≤ p) (p1 : p ≤ h.top) : RightIs h (startC h p) := by
  refine ⟨k, p0, p1, show (-1 : Int) ≤ 0 by decide, show (0 : Int) ≤ 1 by decide, show (0 : Int) ≤ 0 by decide, show (0 : Int) ≤ h.d by have := k.2.2.2; omega, fun g => absurd g (show ¬ (0 : Int) < 0 by decide), ?_, .inl rfl⟩
  by_cases l : h.lev p
  · exact .inl l
  · refine .inr (.inr ?_)
    show (!decide (h.lev p)) = true
    rw [decide_eq_false l]; rfl
/-- With car calls at some floors, within thrice the house's length and a door's time a call. -/
theorem start_run {h : Ho} (k : h.ok) {p : Int} (p0 : 0 ≤ p) (p1 : p ≤ h.top) {l : List Int} (r : ∀ z ∈ l, 0 ≤ z ∧ z < h.f) {M : Int} (m : h.s + 3 * h.top + (h.d + 2) * (l.length + 1) ≤ M) : Run h (onlyC (carOf l)) (startC h p) M := by
  have hn := carOf_lt l
  have F := fit_onlyC k hn (fun z q => (r z ((hasB_car l z).1 q).1).2)
  have R := start_right k p0 p1
  refine (Run.first R (onlyC_ok hn) F).mono ?_
  have c := cnt_car l
  have hd := k.2.2.2
  have w : wrk h (onlyC (carOf l)) ≤ h.d * l.length + l.length := by
    have := Int.mul_le_mul_of_nonneg_left (show (cntN (carOf l) : Int) ≤ (l.length : Int) by omega) (show 0 ≤ h.d + 1 by omega)
    unfold wrk
    rw [onlyC_cnt]
    rw [Int.add_mul, Int.one_mul, Int.add_mul, Int.one_mul] at this
    exact this
  have e : (h.d + 2) * ((l.length : Int) + 1) = h.d * l.length + 2 * l.length + h.d + 2 := by
    rw [Int.mul_add, Int.add_mul]; omega
  have z : (startC h p).x.o = 0 := rfl
  rw [z]
  omega
end Go.Proofs.YtgcgbiaigbblkaaDoor
