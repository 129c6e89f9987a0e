/- What is done at a floor, plainly: the new direction, whether a car stops, the way in which it goes on; a sweep's measure. -/
import Derived.Test.YtgcgbiaigbblkaaDoorAhd2
namespace Go.Proofs.YtgcgbiaigbblkaaDoor

/-- Something lies above, below. -/
def upB (n : Nat) (f : Int) : Bool := decide (upN n (min (max f (-1)) 64) ≠ 0)
def dnB (n : Nat) (f : Int) : Bool := decide (dnN n (min (max f (-1)) 64) ≠ 0)
theorem upB_iff {n : Nat} (hn : n < 18446744073709551616) (f : Int) : upB n f = true ↔ ∃ y, f < y ∧ hasB n y = true := by
  obtain ⟨c, hc⟩ : ∃ c, c = min (max f (-1)) 64 := ⟨_, rfl⟩
  rw [upB, ← hc, decide_eq_true_iff]
  exact (upN_some (by omega)).trans ⟨fun ⟨y, a, q⟩ => ⟨y, ((near_cut hn hc y q).1).2 a, q⟩, fun ⟨y, a, q⟩ => ⟨y, ((near_cut hn hc y q).1).1 a, q⟩⟩
theorem dnB_iff {n : Nat} (hn : n < 18446744073709551616) (f : Int) : dnB n f = true ↔ ∃ y, y < f ∧ hasB n y = true := by
  obtain ⟨c, hc⟩ : ∃ c, c = min (max f (-1)) 64 := ⟨_, rfl⟩
  rw [dnB, ← hc, decide_eq_true_iff]
  exact (dnN_some (by omega)).trans ⟨fun ⟨y, a, q⟩ => ⟨y, ((near_cut hn hc y q).2).2 a, q⟩, fun ⟨y, a, q⟩ => ⟨y, ((near_cut hn hc y q).2).1 a, q⟩⟩
/-- The way e of f. -/
def ah (e f y : Int) : Prop := (e = 1 ∧ f < y) ∨ (e = -1 ∧ y < f)
def towB (n : Nat) (f e : Int) : Bool := if e = 1 then upB n f else if e = -1 then dnB n f else false
theorem towB_iff {n : Nat} (hn : n < 18446744073709551616) (f e : Int) : towB n f e = true ↔ ∃ y, ah e f y ∧ hasB n y = true := by
  unfold towB ah
  split
  · rename_i h; subst h
    rw [upB_iff hn]
    exact ⟨fun ⟨y, a, b⟩ => ⟨y, .inl ⟨rfl, a⟩, b⟩, fun ⟨y, a, b⟩ => ⟨y, by omega, b⟩⟩
  · split
    · rename_i h; subst h
      rw [dnB_iff hn]
      exact ⟨fun ⟨y, a, b⟩ => ⟨y, .inr ⟨rfl, a⟩, b⟩, fun ⟨y, a, b⟩ => ⟨y, by omega, b⟩⟩
    · refine ⟨fun e => (by cases e), fun ⟨y, a, b⟩ => by omega⟩
def nearN (n : Nat) (f : Int) : Int := nearC (upN n (min (max f (-1)) 64)) (dnN n (min (max f (-1)) 64))
theorem nearN_is {n : Nat} (hn : n < 18446744073709551616) (f : Int) : NearIs n (min (max f (-1)) 64) (nearN n f) := near_code hn (by omega) (by omega)

/-- The new direction; whether it stops. -/
def Sp.head (s : Sp) (f d : Int) : Int :=
  if d = 0 then (if s.hall f 1 = true then 1 else if s.hall f (-1) = true then -1 else nearN s.all f)
  else if (towB s.all f d || s.hall f d) = true then d
  else if (towB s.all f (-d) || s.hall f (-d)) = true then -d else 0
def Sp.stop (s : Sp) (f d : Int) : Bool := hasB s.c f || s.hall f (s.head f d)
/-- What is done at a floor. -/
structure De where
  stop : Bool
  dir : Int
  move : Int
def zDe : De := ⟨false, 0, 0⟩
def Sp.deed (s : Sp) (f d : Int) : De :=
  if 0 ≤ f ∧ f < 64 ∧ -1 ≤ d ∧ d ≤ 1 then ⟨s.stop f d, s.head f d, if s.stop f d = true then 0 else s.head f d⟩ else zDe
theorem deed_in {s : Sp} {f d : Int} (h : 0 ≤ f ∧ f < 64 ∧ -1 ≤ d ∧ d ≤ 1) : s.deed f d = ⟨s.stop f d, s.head f d, if s.stop f d = true then 0 else s.head f d⟩ := if_pos h
theorem deed_out {s : Sp} {f d : Int} (h : ¬ (0 ≤ f ∧ f < 64 ∧ -1 ≤ d ∧ d ≤ 1)) : s.deed f d = zDe := if_neg h

theorem hall_all {s : Sp} {f e : Int} (h : s.hall f e = true) : hasB s.all f = true := by
  unfold Sp.hall at h
  rw [Sp.all, hasB_or, hasB_or]
  split at h
  · rw [h]; simp
  · split at h
    · rw [h]; simp
    · cases h
theorem hall_none (s : Sp) (f : Int) : s.hall f 0 = false := rfl
theorem car_all {s : Sp} {f : Int} (h : hasB s.c f = true) : hasB s.all f = true := by
  rw [Sp.all, hasB_or, hasB_or, h]; rfl
theorem all_parts (s : Sp) (f : Int) : hasB s.all f = (hasB s.c f || s.hall f 1 || s.hall f (-1)) := by
  rw [Sp.all, hasB_or, hasB_or]; rfl
theorem hall_dir {s : Sp} {f e : Int} (h : s.hall f e = true) : e = 1 ∨ e = -1 := by
  unfold Sp.hall at h
  split at h
  · rename_i k; exact .inl k
  · split at h
    · rename_i k; exact .inr k
    · cases h

/-- What the new direction tells. -/
structure HeadIs (s : Sp) (f d x : Int) : Prop where
  small : x = 0 ∨ x = 1 ∨ x = -1
  keep : d ≠ 0 → (towB s.all f d = true ∨ s.hall f d = true) → x = d
  turn : d ≠ 0 → x = -d → towB s.all f d = false ∧ s.hall f d = false
  why : x ≠ 0 → towB s.all f x = true ∨ s.hall f x = true
  none : x = 0 → towB s.all f 1 = false ∧ towB s.all f (-1) = false ∧ s.hall f 1 = false ∧ s.hall f (-1) = false
theorem head_is {s : Sp} (h : s.ok) {f d : Int} (f0 : 0 ≤ f) (f1 : f < 64) (hd : d = 0 ∨ d = 1 ∨ d = -1) : HeadIs s f d (s.head f d) := by
  have NI := nearN_is h.all f
  rw [show min (max f (-1)) 64 = f by omega] at NI
  obtain ⟨x, hx⟩ : ∃ x, x = s.head f d := ⟨_, rfl⟩
  rw [← hx]
  unfold Sp.head at hx
  by_cases d0 : d = 0
  · rw [if_pos d0] at hx
    subst d0
    by_cases h1 : s.hall f 1 = true
    · rw [if_pos h1] at hx
      subst hx
      exact ⟨by simp, fun a => absurd rfl a, fun a => absurd rfl a, fun _ => .inr h1, fun a => by cases a⟩
    · rw [if_neg h1] at hx
      by_cases h2 : s.hall f (-1) = true
      · rw [if_pos h2] at hx
        subst hx
        exact ⟨by simp, fun a => absurd rfl a, fun a => absurd rfl a, fun _ => .inr h2, fun a => by cases a⟩
      · rw [if_neg h2] at hx
        rw [← hx] at NI
        refine ⟨NI.small, fun a => absurd rfl a, fun a => absurd rfl a, fun hne => .inl ?_, fun h0 => ?_⟩
        · rw [towB_iff h.all]
          rcases NI with ⟨rfl, _⟩ | ⟨rfl, k, hk, hb, _⟩ | ⟨rfl, k, hk, hb, _⟩
          · exact absurd rfl hne
          · exact ⟨_, .inl ⟨rfl, by omega⟩, hb⟩
          · exact ⟨_, .inr ⟨rfl, by omega⟩, hb⟩
        · subst h0
          rcases NI with ⟨_, a⟩ | ⟨a, _⟩ | ⟨a, _⟩
          · refine ⟨?_, ?_, by simpa using h1, by simpa using h2⟩
            · refine Bool.eq_false_iff.2 fun t => ?_
              obtain ⟨y, q, r⟩ := (towB_iff h.all f 1).1 t
              have := (a (y - f) (by unfold ah at q; omega)).1
              rw [show f + (y - f) = y by omega, r] at this
              cases this
            · refine Bool.eq_false_iff.2 fun t => ?_
              obtain ⟨y, q, r⟩ := (towB_iff h.all f (-1)).1 t
              have := (a (f - y) (by unfold ah at q; omega)).2
              rw [show f - (f - y) = y by omega, r] at this
              cases this
          · cases a
          · cases a
  · rw [if_neg d0] at hx
    by_cases h1 : (towB s.all f d || s.hall f d) = true
    · rw [if_pos h1] at hx
      subst hx
      rw [Bool.or_eq_true] at h1
      exact ⟨hd, fun _ _ => rfl, fun _ a => by omega, fun _ => h1, fun a => absurd a d0⟩
    · rw [if_neg h1] at hx
      have g1 : towB s.all f d = false ∧ s.hall f d = false := by simpa using h1
      by_cases h2 : (towB s.all f (-d) || s.hall f (-d)) = true
      · rw [if_pos h2] at hx
        subst hx
        rw [Bool.or_eq_true] at h2
        exact ⟨by omega, fun _ a => by rw [g1.1, g1.2] at a; simp at a, fun _ _ => g1, fun _ => h2, fun a => by omega⟩
      · rw [if_neg h2] at hx
        subst hx
        have g2 : towB s.all f (-d) = false ∧ s.hall f (-d) = false := by simpa using h2
        refine ⟨by simp, fun _ a => by rw [g1.1, g1.2] at a; simp at a, fun _ a => by omega, fun a => absurd rfl a, fun _ => ?_⟩
        rcases hd with rfl | rfl | rfl
        · exact absurd rfl d0
        · exact ⟨g1.1, g2.1, g1.2, g2.2⟩
        · exact ⟨g2.1, g1.1, g2.2, g1.2⟩
theorem tow_none {s : Sp} (h : s.ok) {f : Int} (a : towB s.all f 1 = false) (b : towB s.all f (-1) = false) (c : hasB s.all f = false) : s.all = 0 := by
  refine ext_hasB fun y => ?_
  rw [hasB_zero]
  refine Bool.eq_false_iff.2 fun t => ?_
  rcases Int.lt_trichotomy y f with g | g | g
  · rw [(towB_iff h.all f (-1)).2 ⟨y, .inr ⟨rfl, g⟩, t⟩] at b; cases b
  · rw [← g, t] at c; cases c
  · rw [(towB_iff h.all f 1).2 ⟨y, .inl ⟨rfl, g⟩, t⟩] at a; cases a
end Go.Proofs.YtgcgbiaigbblkaaDoor
