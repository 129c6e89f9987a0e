/- A car call above, a hall call down on the way: it is passed, and answered on the way back. Plain. -/
import Derived.Test.YtgcgbiaigbblkaaDoorCaRun
namespace Go.Proofs.YtgcgbiaigbblkaaDoor

/-- A car call at t, a hall call down at a; the hall call alone. -/
def psA (a t : Int) : Sp := ⟨oneN t, 0, oneN a⟩
def psB (a : Int) : Sp := ⟨0, 0, oneN a⟩
theorem zero_lt64 : (0 : Nat) < 18446744073709551616 := by decide
theorem psA_ok (a t : Int) : (psA a t).ok := ⟨oneN_lt t, zero_lt64, oneN_lt a⟩
theorem psB_ok (a : Int) : (psB a).ok := ⟨zero_lt64, zero_lt64, oneN_lt a⟩
theorem psA_car (a t y : Int) : hasB (psA a t).c y = decide (y = t ∧ 0 ≤ t ∧ t < 64) := hasB_one t y
theorem psB_car (a y : Int) : hasB (psB a).c y = false := hasB_zero y
theorem down_hall (n : Nat) (a y e : Int) : (Sp.mk n 0 (oneN a)).hall y e = decide (e = -1 ∧ y = a ∧ 0 ≤ a ∧ a < 64) := by
  unfold Sp.hall
  by_cases h1 : e = 1
  · rw [if_pos h1, hasB_zero]
    exact (decide_eq_false (by omega)).symm
  · rw [if_neg h1]
    by_cases h2 : e = -1
    · rw [if_pos h2, hasB_one]
      exact decide_eq_decide.2 ⟨fun k => ⟨h2, k⟩, fun k => k.2⟩
    · rw [if_neg h2]
      exact (decide_eq_false (by omega)).symm
theorem psA_hall (a t y e : Int) : (psA a t).hall y e = decide (e = -1 ∧ y = a ∧ 0 ≤ a ∧ a < 64) := down_hall _ a y e
theorem psB_hall (a y e : Int) : (psB a).hall y e = decide (e = -1 ∧ y = a ∧ 0 ≤ a ∧ a < 64) := down_hall _ a y e
theorem psA_all {a t : Int} (a0 : 0 ≤ a) (a1 : a < 64) (t0 : 0 ≤ t) (t1 : t < 64) (y : Int) : hasB (psA a t).all y = true ↔ y = a ∨ y = t := by
  rw [all_parts, psA_car, psA_hall, psA_hall, show decide ((1 : Int) = -1 ∧ y = a ∧ 0 ≤ a ∧ a < 64) = false from decide_eq_false (by omega), Bool.or_false, Bool.or_eq_true, decide_eq_true_iff, decide_eq_true_iff]
  constructor
  · rintro (k | k)
    · exact .inr k.1
    · exact .inl k.2.1
  · rintro (k | k)
    · exact .inr ⟨rfl, k, a0, a1⟩
    · exact .inl ⟨k, t0, t1⟩
theorem psB_all {a : Int} (a0 : 0 ≤ a) (a1 : a < 64) (y : Int) : hasB (psB a).all y = true ↔ y = a := by
  rw [all_parts, psB_car, psB_hall, psB_hall, show decide ((1 : Int) = -1 ∧ y = a ∧ 0 ≤ a ∧ a < 64) = false from decide_eq_false (by omega), Bool.or_false, Bool.false_or, decide_eq_true_iff]
  exact ⟨fun k => k.2.1, fun k => ⟨rfl, k, a0, a1⟩⟩
theorem fit_psA {h : Ho} (k : h.ok) {a t : Int} (a0 : 0 < a) (a1 : a < h.f) (_ : 0 ≤ t) (t1 : t < h.f) : h.fit (psA a t) = psA a t := by
  have hf := k.2.1.2
  refine sp_ext (fun z => ?_) (fun z => ?_) (fun z => ?_)
  · rw [fit_car k, psA_car]
    by_cases g : z = t
    · rw [decide_eq_true (show z < h.f by omega), Bool.and_true]
    · rw [decide_eq_false (fun q => g q.1)]; rfl
  · rw [fit_up k, show (psA a t).u = 0 from rfl, hasB_zero]; rfl
  · rw [fit_dn k (psA_ok a t), show (psA a t).d = oneN a from rfl, hasB_one]
    by_cases g : z = a
    · rw [decide_eq_true (show z ≠ 0 ∧ z < h.f by omega), Bool.and_true]
    · rw [decide_eq_false (fun q => g q.1)]; rfl
theorem fit_psB {h : Ho} (k : h.ok) {a : Int} (a0 : 0 < a) (a1 : a < h.f) : h.fit (psB a) = psB a := by
  refine sp_ext (fun z => ?_) (fun z => ?_) (fun z => ?_)
  · rw [fit_car k, show (psB a).c = 0 from rfl, hasB_zero]; rfl
  · rw [fit_up k, show (psB a).u = 0 from rfl, hasB_zero]; rfl
  · rw [fit_dn k (psB_ok a), show (psB a).d = oneN a from rfl, hasB_one]
    by_cases g : z = a
    · rw [decide_eq_true (show z ≠ 0 ∧ z < h.f by omega), Bool.and_true]
    · rw [decide_eq_false (fun q => g q.1)]; rfl
/-- What is done with both, below the car call; at it. -/
theorem psA_up {a t q e : Int} (a0 : 0 < a) (at_ : a < t) (t1 : t < 64) (q0 : 0 ≤ q) (qt : q < t) (he : e = 1 ∨ (e = 0 ∧ q = 0)) : (psA a t).head q e = 1 ∧ (psA a t).stop q e = false := by
  have K := head_is (psA_ok a t) q0 (show q < 64 by omega) (show e = 0 ∨ e = 1 ∨ e = -1 by omega)
  have A := psA_all (a := a) (t := t) (by omega) (by omega) (by omega) t1
  have tw : towB (psA a t).all q 1 = true := (towB_iff (psA_ok a t).all q 1).2 ⟨t, .inl ⟨rfl, qt⟩, (A t).2 (.inr rfl)⟩
  have hx : (psA a t).head q e = 1 := by
    rcases he with rfl | ⟨rfl, rfl⟩
    · exact K.keep (by decide) (.inl tw)
    · rcases K.small with z | z | z
      · have := (K.none z).1
        rw [tw] at this; cases this
      · exact z
      · rcases K.why (by omega) with g | g
        · rw [z] at g
          obtain ⟨y, b, c⟩ := (towB_iff (psA_ok a t).all 0 (-1)).1 g
          have := (A y).1 c
          unfold ah at b
          omega
        · rw [psA_hall, decide_eq_true_iff] at g
          omega
  refine ⟨hx, ?_⟩
  rw [Sp.stop, hx, psA_car, psA_hall, decide_eq_false (by omega), decide_eq_false (by omega)]; rfl
theorem psA_turn {a t e : Int} (a0 : 0 < a) (at_ : a < t) (t1 : t < 64) (he : e = 1) : (psA a t).head t e = -1 ∧ (psA a t).stop t e = true := by
  have K := head_is (psA_ok a t) (show 0 ≤ t by omega) t1 (show e = 0 ∨ e = 1 ∨ e = -1 by omega)
  have A := psA_all (a := a) (t := t) (by omega) (by omega) (by omega) t1
  have tw : towB (psA a t).all t (-1) = true := (towB_iff (psA_ok a t).all t (-1)).2 ⟨a, .inr ⟨rfl, at_⟩, (A a).2 (.inl rfl)⟩
  have hx : (psA a t).head t e = -1 := by
    rcases K.small with z | z | z
    · have := (K.none z).2.1
      rw [tw] at this; cases this
    · rcases K.why (by omega) with g | g
      · rw [z] at g
        obtain ⟨y, b, c⟩ := (towB_iff (psA_ok a t).all t 1).1 g
        have := (A y).1 c
        unfold ah at b
        omega
      · rw [psA_hall, decide_eq_true_iff] at g
        omega
    · exact z
  refine ⟨hx, ?_⟩
  rw [Sp.stop, hx, psA_car, decide_eq_true (by omega)]; rfl
theorem psA_left {a t : Int} (at_ : a < t) (a0 : 0 < a) (t1 : t < 64) : (psA a t).left t (-1) = psB a := by
  refine sp_ext (fun z => ?_) (fun z => ?_) (fun z => ?_)
  · show hasB (clrN (oneN t) t) z = hasB 0 z
    rw [hasB_clr (oneN_lt t) (by omega) t1, hasB_one, hasB_zero]
    by_cases g : z = t
    · rw [decide_eq_true g, Bool.not_true, Bool.and_false]
    · rw [decide_eq_false (fun q => g q.1)]; rfl
  · rfl
  · show hasB (clrN (oneN a) t) z = hasB (oneN a) z
    rw [hasB_clr (oneN_lt a) (by omega) t1, hasB_one]
    by_cases g : z = a
    · rw [decide_eq_false (show ¬ z = t by omega), Bool.not_false, Bool.and_true]
    · rw [decide_eq_false (fun q => g q.1)]; rfl
/-- What is done with the hall call alone, above it; at it. -/
theorem psB_down {a q : Int} (a0 : 0 < a) (aq : a < q) (q1 : q < 64) : (psB a).head q (-1) = -1 ∧ (psB a).stop q (-1) = false := by
  have K := head_is (psB_ok a) (show 0 ≤ q by omega) q1 (show (-1 : Int) = 0 ∨ (-1 : Int) = 1 ∨ (-1 : Int) = -1 by omega)
  have A := psB_all (a := a) (by omega) (by omega)
  have tw : towB (psB a).all q (-1) = true := (towB_iff (psB_ok a).all q (-1)).2 ⟨a, .inr ⟨rfl, aq⟩, (A a).2 rfl⟩
  have hx : (psB a).head q (-1) = -1 := K.keep (by decide) (.inl tw)
  refine ⟨hx, ?_⟩
  rw [Sp.stop, hx, psB_car, psB_hall, decide_eq_false (by omega)]; rfl
theorem psB_stop {a : Int} (a0 : 0 < a) (a1 : a < 64) : (psB a).head a (-1) = -1 ∧ (psB a).stop a (-1) = true := by
  have K := head_is (psB_ok a) (show 0 ≤ a by omega) a1 (show (-1 : Int) = 0 ∨ (-1 : Int) = 1 ∨ (-1 : Int) = -1 by omega)
  have tw : (psB a).hall a (-1) = true := by rw [psB_hall]; exact decide_eq_true (by omega)
  have hx : (psB a).head a (-1) = -1 := K.keep (by decide) (.inr tw)
  refine ⟨hx, ?_⟩
  rw [Sp.stop, hx, tw, Bool.or_true]
theorem psB_left {a : Int} (a0 : 0 < a) (a1 : a < 64) : (psB a).left a (-1) = zSp := by
  refine sp_ext (fun z => ?_) (fun z => ?_) (fun z => ?_)
  · show hasB (clrN 0 a) z = hasB 0 z
    rw [hasB_clr zero_lt64 (by omega) a1, hasB_zero]; rfl
  · rfl
  · show hasB (clrN (oneN a) a) z = hasB 0 z
    rw [hasB_clr (oneN_lt a) (by omega) a1, hasB_one, hasB_zero]
    by_cases g : z = a
    · rw [decide_eq_true g, Bool.not_true, Bool.and_false]
    · rw [decide_eq_false (fun q => g q.1)]; rfl

/-- On its way: up, past the call; down, to it; done. What was opened at, how many ticks are to come at most. -/
inductive Ps (h : Ho) (a t : Int) : Sp → Ca → List Int → Int → Prop
  | up {p e M : Int} (p0 : 0 ≤ p) (p1 : p ≤ t * h.s) (he : e = 1 ∨ (e = 0 ∧ p = 0)) (m : t * h.s - p + (t * h.s - a * h.s) + 2 * h.d + 2 ≤ M) : Ps h a t (psA a t) ⟨⟨p, e, 0, false⟩, 0⟩ [] M
  | dn {p o M : Int} (p0 : a * h.s ≤ p) (p1 : p ≤ t * h.s) (o0 : 0 ≤ o) (o1 : o ≤ h.d) (op : o = 0 ∨ p = t * h.s) (m : p - a * h.s + o + h.d + 1 ≤ M) : Ps h a t (psB a) ⟨⟨p, -1, o, false⟩, 0⟩ [t] M
  | done {e o M : Int} (he : e = 0 ∨ e = -1) (o0 : 0 ≤ o) (o1 : o ≤ h.d) (m : o ≤ M) (m0 : 0 ≤ M) : Ps h a t zSp ⟨⟨a * h.s, e, o, false⟩, 0⟩ [t, a] M
theorem Ps.ends {h : Ho} (k : h.ok) {a t : Int} (at_ : a < t) {s : Sp} {c : Ca} {l : List Int} (H : Ps h a t s c l 0) : s = zSp ∧ l = [t, a] := by
  have hd := k.2.2.2
  have hs := k.2.2.1
  have := mul_lt_lev hs.1 at_
  cases H with
  | up p0 p1 he m => omega
  | dn p0 p1 o0 o1 op m => omega
  | done he o0 o1 m m0 => exact ⟨rfl, rfl⟩
theorem flr_lev {h : Ho} (k : h.ok) {y : Int} (y0 : 0 ≤ y) (y1 : y < h.f) : 0 ≤ y * h.s ∧ y * h.s ≤ h.top ∧ h.flr (y * h.s) = y ∧ h.lev (y * h.s) := by
  have hs := k.2.2.1.1
  have a : 0 ≤ y * h.s := Int.mul_nonneg y0 (by omega)
  have b : y * h.s ≤ h.top := by
    unfold Ho.top
    exact Int.mul_le_mul_of_nonneg_right (by omega) (by omega)
  have f := flr_is k a b (Int.le_refl _) (by omega)
  exact ⟨a, b, f, (lev_iff k a b f).2 rfl⟩
theorem lev_lt {h : Ho} (k : h.ok) {x y : Int} (g : x * h.s < y * h.s) : x < y := by
  have hs := k.2.2.1.1
  refine Int.not_le.1 fun q => ?_
  have := Int.mul_le_mul_of_nonneg_right q (show 0 ≤ h.s by omega)
  omega
theorem z_lt : ¬ (0 : Int) < 0 := by decide
/-- A tick: the stops that are left, the floors that it opened at. -/
theorem Ps.tick {h : Ho} (k : h.ok) {a t : Int} (a0 : 0 < a) (at_ : a < t) (t1 : t < h.f) {s : Sp} {c : Ca} {l : List Int} {M : Int} (H : Ps h a t s c l M) :
    Ps h a t (s.less (c.tick h s false).2.st) (c.tick h s false).1 (if (c.tick h s false).2.op = true then l ++ [(c.tick h s false).2.fl] else l) (max (M - 1) 0) ∧
    ((c.tick h s false).2.op = false → (c.tick h s false).2.st = zSp) := by
  have hs := k.2.2.1
  have hd := k.2.2.2
  have hf := k.2.1.2
  have ma := mul_lt_lev hs.1 at_
  obtain ⟨ta0, ta1, ta2, ta3⟩ := flr_lev k (show 0 ≤ t by omega) t1
  obtain ⟨aa0, aa1, aa2, aa3⟩ := flr_lev k (show 0 ≤ a by omega) (show a < h.f by omega)
  cases H with
  | @up p e M p0 p1 he m =>
    have ok := psA_ok a t
    have F := fit_psA k (a := a) (t := t) a0 (by omega) (by omega) t1
    obtain ⟨q0, q1, _, q3, q4⟩ := flr_facts k p0 (show p ≤ h.top by omega)
    have R : RightIs h ⟨⟨p, e, 0, false⟩, 0⟩ := by
      refine ⟨k, p0, by show p ≤ h.top; omega, by show -1 ≤ e; omega, by show e ≤ 1; omega, show (0 : Int) ≤ 0 by decide, by show (0 : Int) ≤ h.d; omega, fun g => absurd g z_lt, ?_, .inl rfl⟩
      rcases he with g | ⟨_, g⟩
      · exact .inr (.inl (by show e ≠ 0; omega))
      · left
        show h.lev p
        rw [g]; exact lev_zero k
    by_cases l : h.lev p
    · have e4 := q4.1 l
      by_cases g : p = t * h.s
      · have fq : h.flr p = t := by rw [g]; exact ta2
        have e1 : e = 1 := by
          rcases he with z | ⟨_, z⟩
          · exact z
          · omega
        have P := psA_turn a0 at_ (by omega) e1
        have E := tick_stop R z_lt l (s := psA a t) false (by rw [F]; dsimp only; rw [fq]; exact P.2)
        rw [F] at E
        dsimp only at E
        rw [fq, P.1] at E
        rw [E]
        dsimp only
        rw [less_done ok (by omega) (by omega) (.inr (.inr rfl)), psA_left at_ a0 (by omega), if_pos rfl]
        refine ⟨?_, fun z => by cases z⟩
        rw [g]
        exact .dn (by omega) (by omega) (by omega) (by omega) (.inr rfl) (by omega)
      · have qt : h.flr p < t := lev_lt k (by omega)
        have he' : e = 1 ∨ (e = 0 ∧ h.flr p = 0) := by
          rcases he with z | ⟨z, y⟩
          · exact .inl z
          · refine .inr ⟨z, ?_⟩
            rw [y]
            have := (flr_lev k (show (0 : Int) ≤ 0 by omega) (by omega)).2.2.1
            rwa [Int.zero_mul] at this
        have P := psA_up a0 at_ (by omega) q0 qt he'
        have E := tick_go R z_lt l (s := psA a t) false (by rw [F]; exact P.2)
        rw [F] at E
        dsimp only at E
        rw [P.1] at E
        rw [E]
        dsimp only
        rw [less_none ok, if_neg (by simp)]
        exact ⟨.up (by omega) (by omega) (.inl rfl) (by omega), fun _ => rfl⟩
    · have e1 : e = 1 := by
        rcases he with z | ⟨_, z⟩
        · exact z
        · exact absurd (by rw [z]; exact lev_zero k) l
      have g : p ≠ t * h.s := fun z => l (by rw [z]; exact ta3)
      subst e1
      have E := tick_on R z_lt l (psA a t) false (fun z => by cases z.2)
      rw [show (Ca.mk ⟨p, 1, 0, false⟩ 0).way = 1 from rfl] at E
      rw [E]
      dsimp only
      rw [less_none ok, if_neg (by simp)]
      exact ⟨.up (by omega) (by omega) (.inl rfl) (by omega), fun _ => rfl⟩
  | @dn p o M p0 p1 o0 o1 op m =>
    have ok := psB_ok a
    have F := fit_psB k (a := a) a0 (by omega)
    have pp0 : 0 ≤ p := by omega
    obtain ⟨q0, q1, _, q3, q4⟩ := flr_facts k pp0 (show p ≤ h.top by omega)
    have R : RightIs h ⟨⟨p, -1, o, false⟩, 0⟩ := by
      refine ⟨k, pp0, by show p ≤ h.top; omega, show (-1 : Int) ≤ -1 by decide, show (-1 : Int) ≤ 1 by decide, o0, o1, fun g => ⟨?_, rfl⟩, .inr (.inl (show (-1 : Int) ≠ 0 by decide)), .inl rfl⟩
      have g' : 0 < o := g
      show h.lev p
      rw [op.resolve_left (by omega)]; exact ta3
    by_cases g : 0 < o
    · have E := tick_open R g (psB a) false
      dsimp only at E
      rw [tickL_less g, show heldK o 0 false = 0 by unfold heldK; split; rfl; split <;> rfl] at E
      rw [E]
      dsimp only
      rw [less_none ok, if_neg (by simp)]
      exact ⟨.dn p0 p1 (by omega) (by omega) (.inr (op.resolve_left (by omega))) (by omega), fun _ => rfl⟩
    · have oz : o = 0 := by omega
      subst oz
      by_cases l : h.lev p
      · have e4 := q4.1 l
        by_cases y : p = a * h.s
        · have fq : h.flr p = a := by rw [y]; exact aa2
          have P := psB_stop a0 (show a < 64 by omega)
          have E := tick_stop R z_lt l (s := psB a) false (by rw [F]; dsimp only; rw [fq]; exact P.2)
          rw [F] at E
          dsimp only at E
          rw [fq, P.1] at E
          rw [E]
          dsimp only
          rw [less_done ok (by omega) (by omega) (.inr (.inr rfl)), psB_left a0 (by omega), if_pos rfl]
          refine ⟨?_, fun z => by cases z⟩
          rw [y]
          exact .done (.inr rfl) (by omega) (by omega) (by omega) (by omega)
        · have aq : a < h.flr p := lev_lt k (by omega)
          have P := psB_down a0 aq (by omega)
          have E := tick_go R z_lt l (s := psB a) false (by rw [F]; exact P.2)
          rw [F] at E
          dsimp only at E
          rw [P.1] at E
          rw [E]
          dsimp only
          rw [less_none ok, if_neg (by simp)]
          exact ⟨.dn (by omega) (by omega) (by omega) (by omega) (.inl rfl) (by omega), fun _ => rfl⟩
      · have y : p ≠ a * h.s := fun z => l (by rw [z]; exact aa3)
        have E := tick_on R z_lt l (psB a) false (fun z => by cases z.2)
        rw [show (Ca.mk ⟨p, -1, 0, false⟩ 0).way = -1 from rfl] at E
        rw [E]
        dsimp only
        rw [less_none ok, if_neg (by simp)]
        exact ⟨.dn (by omega) (by omega) (by omega) (by omega) (.inl rfl) (by omega), fun _ => rfl⟩
  | @done e o M he o0 o1 m m0 =>
    have ok : zSp.ok := ⟨zero_lt64, zero_lt64, zero_lt64⟩
    have R : RightIs h ⟨⟨a * h.s, e, o, false⟩, 0⟩ :=
      ⟨k, aa0, aa1, by show -1 ≤ e; omega, by show e ≤ 1; omega, o0, o1, fun _ => ⟨aa3, rfl⟩, .inl aa3, .inl rfl⟩
    by_cases g : 0 < o
    · have E := tick_open R g zSp false
      dsimp only at E
      rw [tickL_less g, show heldK o 0 false = 0 by unfold heldK; split; rfl; split <;> rfl] at E
      rw [E]
      dsimp only
      rw [less_none ok, if_neg (by simp)]
      exact ⟨.done he (by omega) (by omega) (by omega) (by omega), fun _ => rfl⟩
    · have oz : o = 0 := by omega
      subst oz
      have F : h.fit zSp = zSp := by
        refine sp_ext (fun z => ?_) (fun z => ?_) (fun z => ?_)
        · rw [fit_car k, show zSp.c = 0 from rfl, hasB_zero]; rfl
        · rw [fit_up k, show zSp.u = 0 from rfl, hasB_zero]; rfl
        · rw [fit_dn k ok, show zSp.d = 0 from rfl, hasB_zero]; rfl
      have Z := zero_head ok (show zSp.all = 0 by decide) (f := h.flr (a * h.s)) (d := e) (by rw [aa2]; omega) (by rw [aa2]; omega) (by omega)
      have E := tick_go R z_lt aa3 (s := zSp) false (by rw [F]; exact Z.2)
      rw [F] at E
      dsimp only at E
      rw [Z.1, Int.add_zero] at E
      rw [E]
      dsimp only
      rw [less_none ok, if_neg (by simp)]
      exact ⟨.done (.inl rfl) (by omega) (by omega) (by omega) (by omega), fun _ => rfl⟩
end Go.Proofs.YtgcgbiaigbblkaaDoor
