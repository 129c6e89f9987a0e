/- One call alone: plain. -/
import Derived.Test.YtkdfnnikgliglaaDoorPlMath
namespace Go.Proofs.YtkdfnnikgliglaaDoor

def oneS (t w : Int) : Sp := (Sp.mk 0 0 0).put t w
theorem zero_ok : (Sp.mk 0 0 0).ok := ⟨by decide, by decide, by decide⟩
theorem oneS_ok (t w : Int) : (oneS t w).ok := Sp.put_ok zero_ok t w
theorem oneS_up (t : Int) : oneS t 1 = ⟨0, oneN t, 0⟩ := by
  unfold oneS Sp.put; rw [if_pos rfl]; simp
theorem oneS_dn (t : Int) : oneS t (-1) = ⟨0, 0, oneN t⟩ := by
  unfold oneS Sp.put; rw [if_neg (by decide), if_pos rfl]; simp
theorem one_hall {t w : Int} (t0 : 0 ≤ t) (t1 : t < 64) (hw : w = 1 ∨ w = -1) (y e : Int) : (oneS t w).hall y e = decide (y = t ∧ e = w) := by
  rcases hw with rfl | rfl
  · rw [oneS_up, Sp.hall]
    by_cases h1 : e = 1
    · rw [if_pos h1, hasB_one]
      exact decide_eq_decide.2 ⟨fun k => ⟨k.1, h1⟩, fun k => ⟨k.1, t0, t1⟩⟩
    · rw [if_neg h1]
      split
      · rw [hasB_zero]; exact (decide_eq_false (by omega)).symm
      · exact (decide_eq_false (by omega)).symm
  · rw [oneS_dn, Sp.hall]
    by_cases h1 : e = 1
    · rw [if_pos h1, hasB_zero]
      exact (decide_eq_false (by omega)).symm
    · rw [if_neg h1]
      by_cases h2 : e = -1
      · rw [if_pos h2, hasB_one]
        exact decide_eq_decide.2 ⟨fun k => ⟨k.1, h2⟩, fun k => ⟨k.1, t0, t1⟩⟩
      · rw [if_neg h2]
        exact (decide_eq_false (by omega)).symm
theorem one_car {t w : Int} (y : Int) : hasB (oneS t w).c y = false := by
  have : (oneS t w).c = 0 := by
    unfold oneS Sp.put
    split
    · rfl
    · split <;> rfl
  rw [this]; exact hasB_zero y
theorem one_all {t w : Int} (t0 : 0 ≤ t) (t1 : t < 64) (hw : w = 1 ∨ w = -1) (y : Int) : hasB (oneS t w).all y = decide (y = t) := by
  rw [all_parts, one_car, one_hall t0 t1 hw, one_hall t0 t1 hw, Bool.false_or, ← Bool.decide_or]
  exact decide_eq_decide.2 (by omega)
theorem one_tow {t w : Int} (t0 : 0 ≤ t) (t1 : t < 64) (hw : w = 1 ∨ w = -1) (f e : Int) : towB (oneS t w).all f e = true ↔ ah e f t := by
  rw [towB_iff (oneS_ok t w).all]
  constructor
  · rintro ⟨y, a, b⟩
    rw [one_all t0 t1 hw, decide_eq_true_iff] at b
    rw [← b]; exact a
  · intro h
    exact ⟨t, h, by rw [one_all t0 t1 hw]; exact decide_eq_true rfl⟩
theorem one_deed {t w f d : Int} (t0 : 0 ≤ t) (t1 : t < 64) (hw : w = 1 ∨ w = -1) (f0 : 0 ≤ f) (f1 : f < 64) (hd : d = 0 ∨ d = 1 ∨ d = -1) :
    (oneS t w).deed f d = if f = t then ⟨true, w, 0⟩ else if t < f then ⟨false, -1, -1⟩ else ⟨false, 1, 1⟩ := by
  have K := head_is (oneS_ok t w) f0 f1 hd
  have T := fun e => one_tow (w := w) t0 t1 hw f e
  have HA := fun e => one_hall t0 t1 hw f e
  have kt := K.small
  have kw := K.why
  have kn := K.none
  rw [deed_in (by omega), Sp.stop, one_car, Bool.false_or]
  generalize (oneS t w).head f d = x at *
  rw [HA] at *
  rw [T] at kw
  by_cases e : f = t
  · rw [if_pos e]
    have hx : x = w := by
      by_cases x0 : x = 0
      · obtain ⟨_, _, c1, c2⟩ := kn x0
        have c1' := HA 1
        have c2' := HA (-1)
        first | rw [c1'] at c1 | skip
        first | rw [c2'] at c2 | skip
        simp only [decide_eq_false_iff_not] at c1 c2
        omega
      · have := kw x0
        simp only [decide_eq_true_iff] at this
        unfold ah at this
        omega
    rw [hx, decide_eq_true ⟨e, rfl⟩]; rfl
  · rw [if_neg e, decide_eq_false (fun k => e k.1)]
    have tn : ∀ g, ah g f t → x = 0 → (g = 1 ∨ g = -1) → False := fun g hg x0 hg2 => by
      have := kn x0
      rcases hg2 with rfl | rfl
      · rw [(T 1).2 hg] at this; cases this.1
      · rw [(T (-1)).2 hg] at this; cases this.2.1
    by_cases g : t < f
    · rw [if_pos g]
      have hx : x = -1 := by
        by_cases x0 : x = 0
        · exact (tn (-1) (.inr ⟨rfl, g⟩) x0 (.inr rfl)).elim
        · have := kw x0
          simp only [decide_eq_true_iff] at this
          unfold ah at this
          omega
      rw [hx]; rfl
    · rw [if_neg g]
      have hx : x = 1 := by
        by_cases x0 : x = 0
        · exact (tn 1 (.inl ⟨rfl, by omega⟩) x0 (.inl rfl)).elim
        · have := kw x0
          simp only [decide_eq_true_iff] at this
          unfold ah at this
          omega
      rw [hx]; rfl
end Go.Proofs.YtkdfnnikgliglaaDoor
