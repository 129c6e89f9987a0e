/- A car's tick, plainly: what counts of the stops, whether a car may be, what a tick makes of it. A car that ticks on, with nothing coming: all that there is is done within thrice the house's length, a door's time a stop. Plain. Car calls at some floors: what counts of them, how much there is to do. Plain. One tick of a car: what it tells, where it opens, that what is out of the house counts for nothing. Plain. How long a car takes to a call: tick by tick, what was done gone; within the bound. Plain. -/
import Derived.Test.YtdmomnhacijmpaaGreatDoorGPlant
import Derived.Test.YtdmomnhacijmpaaGreatDoorGDoor
import Derived.Test.YtdmomnhacijmpaaGreatDoorGPlan
import Derived.Test.YtdmomnhacijmpaaGreatDoorGAhd
namespace Go.Proofs.YtdmomnhacijmpaaGreatDoor

/-- The bits below k. -/
def lowN (n : Nat) (k : Int) : Nat := n % 2 ^ k.toNat
theorem lowN_lt {n : Nat} (h : n < 18446744073709551616) (k : Int) : lowN n k < 18446744073709551616 := Nat.lt_of_le_of_lt (Nat.mod_le _ _) h
theorem hasB_low (n : Nat) {k : Int} (hk : 0 ≤ k) (z : Int) : hasB (lowN n k) z = (hasB n z && decide (z < k)) := by
  by_cases hz : z < 0
  · rw [hasB_neg hz, hasB_neg hz]; rfl
  · obtain ⟨i, rfl⟩ : ∃ i : Nat, z = (i : Int) := ⟨z.toNat, by omega⟩
    rw [hasB_nat, hasB_nat, lowN, Nat.testBit_mod_two_pow, Bool.and_comm]
    congr 1
    exact decide_eq_decide.2 (by omega)
/-- What counts of the stops. -/
def Ho.fit (h : Ho) (s : Sp) : Sp := ⟨lowN s.c h.f, lowN s.u (h.f - 1), clrN (lowN s.d h.f) 0⟩
theorem fit_ok (h : Ho) {s : Sp} (k : s.ok) : (h.fit s).ok := ⟨lowN_lt k.c _, lowN_lt k.u _, clrN_lt (lowN_lt k.d _) 0⟩
theorem fit_car {h : Ho} (k : h.ok) (s : Sp) (z : Int) : hasB (h.fit s).c z = (hasB s.c z && decide (z < h.f)) := hasB_low _ (by have := k.2.1.1; omega) z
theorem fit_up {h : Ho} (k : h.ok) (s : Sp) (z : Int) : hasB (h.fit s).u z = (hasB s.u z && decide (z < h.f - 1)) := hasB_low _ (by have := k.2.1.1; omega) z
theorem fit_dn {h : Ho} (k : h.ok) {s : Sp} (ok : s.ok) (z : Int) : hasB (h.fit s).d z = (hasB s.d z && decide (z ≠ 0 ∧ z < h.f)) := by
  show hasB (clrN (lowN s.d h.f) 0) z = _
  rw [hasB_clr (lowN_lt ok.d _) (by omega) (by omega), hasB_low _ (by have := k.2.1.1; omega), Bool.and_assoc, Bool.decide_and, Bool.and_comm (decide (z < h.f)), decide_not]
/-- May it be? -/
def mayC (f z e : Int) : Prop := 0 ≤ z ∧ z < f ∧ ((e = 1 ∧ z < f - 1) ∨ (e = -1 ∧ 0 < z))
instance (f z e : Int) : Decidable (mayC f z e) := by unfold mayC; infer_instance
theorem fit_hall {h : Ho} (k : h.ok) {s : Sp} (ok : s.ok) (z e : Int) : (h.fit s).hall z e = (s.hall z e && decide (mayC h.f z e)) := by
  unfold Sp.hall
  by_cases h1 : e = 1
  · rw [if_pos h1, if_pos h1, fit_up k]
    cases q : hasB s.u z with
    | false => rfl
    | true =>
      have := hasB_range ok.u q
      congr 1
      exact decide_eq_decide.2 (by unfold mayC; omega)
  · rw [if_neg h1, if_neg h1]
    by_cases h2 : e = -1
    · rw [if_pos h2, if_pos h2, fit_dn k ok]
      cases q : hasB s.d z with
      | false => rfl
      | true =>
        have := hasB_range ok.d q
        congr 1
        exact decide_eq_decide.2 (by unfold mayC; omega)
    · rw [if_neg h2, if_neg h2]; rfl
theorem fit_sub {h : Ho} (k : h.ok) {s : Sp} (ok : s.ok) : (h.fit s).sub s :=
  ⟨fun z q => by rw [fit_car k, Bool.and_eq_true] at q; exact q.1, fun z q => by rw [fit_up k, Bool.and_eq_true] at q; exact q.1, fun z q => by rw [fit_dn k ok, Bool.and_eq_true] at q; exact q.1⟩
theorem sp_ext {s t : Sp} (a : ∀ z, hasB s.c z = hasB t.c z) (b : ∀ z, hasB s.u z = hasB t.u z) (c : ∀ z, hasB s.d z = hasB t.d z) : s = t := by
  cases s; cases t
  simp only [Sp.mk.injEq]
  exact ⟨ext_hasB a, ext_hasB b, ext_hasB c⟩
/-- A part of what counts counts. -/
theorem fit_part {h : Ho} (k : h.ok) {s t : Sp} (ok : s.ok) (tk : t.ok) (S : t.sub s) (F : h.fit s = s) : h.fit t = t := by
  refine sp_ext (fun z => ?_) (fun z => ?_) (fun z => ?_)
  · rw [fit_car k]
    cases q : hasB t.c z with
    | false => rfl
    | true =>
      have := S.c z q
      rw [← F, fit_car k, Bool.and_eq_true] at this
      rw [this.2]; rfl
  · rw [fit_up k]
    cases q : hasB t.u z with
    | false => rfl
    | true =>
      have := S.u z q
      rw [← F, fit_up k, Bool.and_eq_true] at this
      rw [this.2]; rfl
  · rw [fit_dn k tk]
    cases q : hasB t.d z with
    | false => rfl
    | true =>
      have := S.d z q
      rw [← F, fit_dn k ok, Bool.and_eq_true] at this
      rw [this.2]; rfl
theorem fit_fit {h : Ho} (k : h.ok) {s : Sp} (ok : s.ok) : h.fit (h.fit s) = h.fit s := by
  refine sp_ext (fun z => ?_) (fun z => ?_) (fun z => ?_)
  · rw [fit_car k, fit_car k, Bool.and_assoc, Bool.and_self]
  · rw [fit_up k, fit_up k, Bool.and_assoc, Bool.and_self]
  · rw [fit_dn k (fit_ok h ok), fit_dn k ok, Bool.and_assoc, Bool.and_self]
theorem fit_in {h : Ho} (k : h.ok) {s : Sp} (ok : s.ok) {z : Int} (q : hasB (h.fit s).all z = true) : 0 ≤ z ∧ z < h.f := by
  refine ⟨(hasB_range (fit_ok h ok).all q).1, ?_⟩
  rw [all_parts, fit_car k, fit_hall k ok, fit_hall k ok] at q
  simp only [Bool.or_eq_true, Bool.and_eq_true, decide_eq_true_eq] at q
  unfold mayC at q
  omega

/-- A car. -/
structure Ca where
  x : St
  k : Int
/-- What a tick did. -/
structure Dn where
  op : Bool
  cl : Bool
  fl : Int
  la : Int
  mv : Int
  st : Sp
def zSp : Sp := ⟨0, 0, 0⟩
def zDn : Dn := ⟨false, false, 0, 0, 0, zSp⟩
/-- What it stopped for: of s, of what counts of it. -/
def doneS (s t : Sp) (q e : Int) : Sp := ⟨if hasB s.c q = true then oneN q else 0, if t.hall q e = true ∧ e = 1 then oneN q else 0, if t.hall q e = true ∧ e = -1 then oneN q else 0⟩
def Ca.right (h : Ho) (c : Ca) : Bool := h.may c.x && (decide (c.k = 0) || (decide (0 < c.k) && decide (c.x.o = 1)))
/-- Its way, between floors. -/
def Ca.way (c : Ca) : Int := if c.x.r = true then -1 else c.x.e
def Ca.tick (h : Ho) (c : Ca) (s : Sp) (ob : Bool) : Ca × Dn :=
  if c.right h = true then
    if 0 < c.x.o then (⟨⟨c.x.p, c.x.e, tickL c.x.o ob, c.x.r⟩, heldK c.x.o c.k ob⟩, ⟨false, tickB c.x.o ob, h.flr c.x.p, 0, 0, zSp⟩)
    else if h.lev c.x.p then
      if (h.fit s).stop (h.flr c.x.p) c.x.e = true then
        (⟨⟨c.x.p, (h.fit s).head (h.flr c.x.p) c.x.e, h.d, false⟩, 0⟩,
          ⟨true, false, h.flr c.x.p, (h.fit s).head (h.flr c.x.p) c.x.e, 0, doneS s (h.fit s) (h.flr c.x.p) ((h.fit s).head (h.flr c.x.p) c.x.e)⟩)
      else (⟨⟨c.x.p + (h.fit s).head (h.flr c.x.p) c.x.e, (h.fit s).head (h.flr c.x.p) c.x.e, 0, false⟩, 0⟩,
          ⟨false, false, h.flr (c.x.p + (h.fit s).head (h.flr c.x.p) c.x.e), 0, (h.fit s).head (h.flr c.x.p) c.x.e, zSp⟩)
    else if h.lev (c.x.p + c.way) ∧ c.x.r = true then (⟨⟨c.x.p + c.way, 0, 0, false⟩, 0⟩, ⟨false, false, h.flr (c.x.p + c.way), 0, c.way, zSp⟩)
    else (⟨⟨c.x.p + c.way, c.way, 0, c.x.r⟩, 0⟩, ⟨false, false, h.flr (c.x.p + c.way), 0, c.way, zSp⟩)
  else (c, zDn)

/-- What is right of a car. -/
structure RightIs (h : Ho) (c : Ca) : Prop where
  ok : h.ok
  p0 : 0 ≤ c.x.p
  p1 : c.x.p ≤ h.top
  e0 : -1 ≤ c.x.e
  e1 : c.x.e ≤ 1
  o0 : 0 ≤ c.x.o
  o1 : c.x.o ≤ h.d
  opn : 0 < c.x.o → h.lev c.x.p ∧ c.x.r = false
  btw : h.lev c.x.p ∨ c.x.e ≠ 0 ∨ c.x.r = true
  held : c.k = 0 ∨ (0 < c.k ∧ c.x.o = 1)
theorem right_iff (h : Ho) (c : Ca) : c.right h = true ↔ RightIs h c := by
  unfold Ca.right Ho.may
  simp only [Bool.and_eq_true, decide_eq_true_eq, Bool.or_eq_true]
  constructor
  · rintro ⟨⟨⟨ok, p0, p1⟩, ⟨e0, e1⟩, ⟨o0, o1⟩, m⟩, hk⟩
    refine ⟨ok, p0, p1, e0, e1, o0, o1, fun g => ?_, ?_, hk⟩
    · rw [if_pos g] at m
      simpa using m
    · by_cases g : 0 < c.x.o
      · rw [if_pos g] at m
        have m' : h.lev c.x.p ∧ c.x.r = false := by simpa using m
        exact .inl m'.1
      · rw [if_neg g] at m
        simpa using m
  · intro R
    refine ⟨⟨⟨R.ok, R.p0, R.p1⟩, ⟨R.e0, R.e1⟩, ⟨R.o0, R.o1⟩, ?_⟩, R.held⟩
    by_cases g : 0 < c.x.o
    · rw [if_pos g]
      have := R.opn g
      simp [this.1, this.2]
    · rw [if_neg g]
      simpa using R.btw
theorem mul_lt_lev {a b s : Int} (hs : 1 ≤ s) (h : a < b) : a * s + s ≤ b * s := by
  have := Int.mul_le_mul_of_nonneg_right (show a + 1 ≤ b by omega) (show 0 ≤ s by omega)
  rw [Int.add_mul, Int.one_mul] at this
  exact this
/-- The four ways of a tick. -/
theorem tick_open {h : Ho} {c : Ca} (R : RightIs h c) (g : 0 < c.x.o) (s : Sp) (ob : Bool) :
    c.tick h s ob = (⟨⟨c.x.p, c.x.e, tickL c.x.o ob, c.x.r⟩, heldK c.x.o c.k ob⟩, ⟨false, tickB c.x.o ob, h.flr c.x.p, 0, 0, zSp⟩) := by
  rw [Ca.tick, if_pos ((right_iff h c).2 R), if_pos g]
theorem tick_stop {h : Ho} {c : Ca} (R : RightIs h c) (g : ¬ 0 < c.x.o) (l : h.lev c.x.p) {s : Sp} (ob : Bool) (k : (h.fit s).stop (h.flr c.x.p) c.x.e = true) :
    c.tick h s ob = (⟨⟨c.x.p, (h.fit s).head (h.flr c.x.p) c.x.e, h.d, false⟩, 0⟩,
          ⟨true, false, h.flr c.x.p, (h.fit s).head (h.flr c.x.p) c.x.e, 0, doneS s (h.fit s) (h.flr c.x.p) ((h.fit s).head (h.flr c.x.p) c.x.e)⟩) := by
  rw [Ca.tick, if_pos ((right_iff h c).2 R), if_neg g, if_pos l, if_pos k]
theorem tick_go {h : Ho} {c : Ca} (R : RightIs h c) (g : ¬ 0 < c.x.o) (l : h.lev c.x.p) {s : Sp} (ob : Bool) (k : (h.fit s).stop (h.flr c.x.p) c.x.e = false) :
    c.tick h s ob = (⟨⟨c.x.p + (h.fit s).head (h.flr c.x.p) c.x.e, (h.fit s).head (h.flr c.x.p) c.x.e, 0, false⟩, 0⟩,
          ⟨false, false, h.flr (c.x.p + (h.fit s).head (h.flr c.x.p) c.x.e), 0, (h.fit s).head (h.flr c.x.p) c.x.e, zSp⟩) := by
  rw [Ca.tick, if_pos ((right_iff h c).2 R), if_neg g, if_pos l, if_neg (by rw [k]; simp)]
theorem tick_relev {h : Ho} {c : Ca} (R : RightIs h c) (g : ¬ 0 < c.x.o) (l : ¬ h.lev c.x.p) (s : Sp) (ob : Bool) (k : h.lev (c.x.p + c.way) ∧ c.x.r = true) :
    c.tick h s ob = (⟨⟨c.x.p + c.way, 0, 0, false⟩, 0⟩, ⟨false, false, h.flr (c.x.p + c.way), 0, c.way, zSp⟩) := by
  rw [Ca.tick, if_pos ((right_iff h c).2 R), if_neg g, if_neg l, if_pos k]
theorem tick_on {h : Ho} {c : Ca} (R : RightIs h c) (g : ¬ 0 < c.x.o) (l : ¬ h.lev c.x.p) (s : Sp) (ob : Bool) (k : ¬ (h.lev (c.x.p + c.way) ∧ c.x.r = true)) :
    c.tick h s ob = (⟨⟨c.x.p + c.way, c.way, 0, c.x.r⟩, 0⟩, ⟨false, false, h.flr (c.x.p + c.way), 0, c.way, zSp⟩) := by
  rw [Ca.tick, if_pos ((right_iff h c).2 R), if_neg g, if_neg l, if_neg k]
theorem tick_wrong {h : Ho} {c : Ca} (R : ¬ RightIs h c) (s : Sp) (ob : Bool) : c.tick h s ob = (c, zDn) := by
  rw [Ca.tick, if_neg (fun q => R ((right_iff h c).1 q))]
theorem way_is {h : Ho} {c : Ca} (R : RightIs h c) (l : ¬ h.lev c.x.p) : c.way = 1 ∨ c.way = -1 := by
  unfold Ca.way
  have := R.e0
  have := R.e1
  split
  · exact .inr rfl
  · rename_i g
    have := (R.btw.resolve_left l).resolve_right g
    omega
/-- Between floors it has room either way. -/
theorem btw_room {h : Ho} {c : Ca} (R : RightIs h c) (l : ¬ h.lev c.x.p) : 0 < c.x.p ∧ c.x.p < h.top := by
  have p0 := R.p0
  have p1 := R.p1
  refine ⟨?_, ?_⟩
  · refine Int.not_le.1 fun q => l ?_
    rw [show c.x.p = 0 by omega]
    exact lev_zero R.ok
  · refine Int.not_le.1 fun q => l ?_
    rw [show c.x.p = h.top by omega]
    exact lev_top R.ok
theorem door_more {o : Int} (g : 1 < o) {b : Bool} : tickL o b = o - 1 := by rw [tickL, if_neg (by omega), if_pos g]
theorem doorH_more {o : Int} (g : 1 < o) {k : Int} {b : Bool} : heldK o k b = k := by rw [heldK, if_neg (by omega), if_pos g]
theorem doorB_more {o : Int} (g : 1 < o) {b : Bool} : tickB o b = false := by rw [tickB, if_neg (by omega), if_pos g]
theorem small_dir {e : Int} (e0 : -1 ≤ e) (e1 : e ≤ 1) : e = 0 ∨ e = 1 ∨ e = -1 := by omega
/-- At a floor: where the new direction leads there is room, if it does not stop. -/
theorem go_room {h : Ho} {c : Ca} (R : RightIs h c) (l : h.lev c.x.p) {s : Sp} (ok : s.ok) (k : (h.fit s).stop (h.flr c.x.p) c.x.e = false) :
    0 ≤ c.x.p + (h.fit s).head (h.flr c.x.p) c.x.e ∧ c.x.p + (h.fit s).head (h.flr c.x.p) c.x.e ≤ h.top := by
  obtain ⟨q0, q1, _, _, q4⟩ := flr_facts R.ok R.p0 R.p1
  have q5 := q4.1 l
  have hs := R.ok.2.2.1.1
  have hf := R.ok.2.1.2
  have p0 := R.p0
  have p1 := R.p1
  have K := head_is (fit_ok h ok) q0 (show h.flr c.x.p < 64 by omega) (small_dir R.e0 R.e1)
  unfold Sp.stop at k
  rw [Bool.or_eq_false_iff] at k
  generalize (h.fit s).head (h.flr c.x.p) c.x.e = x at *
  rcases K.small with rfl | rfl | rfl
  · omega
  · have t := (K.why (by omega)).resolve_right (by rw [k.2]; simp)
    obtain ⟨y, a, b⟩ := (towB_iff (fit_ok h ok).all _ _).1 t
    have r := fit_in R.ok ok b
    unfold ah at a
    have := mul_lt_lev hs (show h.flr c.x.p < h.f - 1 by omega)
    unfold Ho.top
    omega
  · have t := (K.why (by omega)).resolve_right (by rw [k.2]; simp)
    obtain ⟨y, a, b⟩ := (towB_iff (fit_ok h ok).all _ _).1 t
    have r := fit_in R.ok ok b
    unfold ah at a
    have := mul_lt_lev hs (show 0 < h.flr c.x.p by omega)
    omega
theorem RightIs.tick {h : Ho} {c : Ca} (R : RightIs h c) {s : Sp} (ok : s.ok) (ob : Bool) : RightIs h (c.tick h s ob).1 := by
  have hd := R.ok.2.2.2
  by_cases g : 0 < c.x.o
  · rw [tick_open R g]
    have op := R.opn g
    have := R.o1
    have hk := R.held
    by_cases g1 : 1 < c.x.o
    · rw [door_more g1, doorH_more g1]
      exact ⟨R.ok, R.p0, R.p1, R.e0, R.e1, by dsimp only; omega, by dsimp only; omega, fun _ => op, .inl op.1, .inl (by dsimp only; omega)⟩
    · have o1 : c.x.o = 1 := by omega
      rw [o1]
      cases ob
      · exact ⟨R.ok, R.p0, R.p1, R.e0, R.e1, show (0 : Int) ≤ 0 by decide, show (0 : Int) ≤ h.d by omega, fun _ => op, .inl op.1, .inl rfl⟩
      · exact ⟨R.ok, R.p0, R.p1, R.e0, R.e1, show (0 : Int) ≤ 1 by decide, show (1 : Int) ≤ h.d by omega, fun _ => op, .inl op.1, .inr ⟨show 0 < min c.k 9223372036854775806 + 1 by omega, rfl⟩⟩
  · by_cases l : h.lev c.x.p
    · cases k : (h.fit s).stop (h.flr c.x.p) c.x.e with
      | true =>
        rw [tick_stop R g l ob k]
        obtain ⟨q0, q1, _⟩ := flr_facts R.ok R.p0 R.p1
        have hf := R.ok.2.1.2
        have K := (head_is (fit_ok h ok) q0 (show h.flr c.x.p < 64 by omega) (small_dir R.e0 R.e1)).small
        exact ⟨R.ok, R.p0, R.p1, by dsimp only; omega, by dsimp only; omega, by dsimp only; omega, by dsimp only; omega, fun _ => ⟨l, rfl⟩, .inl l, .inl rfl⟩
      | false =>
        have rm := go_room R l ok k
        rw [tick_go R g l ob k]
        obtain ⟨q0, q1, _⟩ := flr_facts R.ok R.p0 R.p1
        have hf := R.ok.2.1.2
        have K := (head_is (fit_ok h ok) q0 (show h.flr c.x.p < 64 by omega) (small_dir R.e0 R.e1)).small
        refine ⟨R.ok, rm.1, rm.2, by dsimp only; omega, by dsimp only; omega, by dsimp only; omega, by dsimp only; omega, fun q => absurd q (by dsimp only; omega), ?_, .inl rfl⟩
        by_cases z : (h.fit s).head (h.flr c.x.p) c.x.e = 0
        · left
          dsimp only
          rw [z, Int.add_zero]; exact l
        · exact .inr (.inl z)
    · have w := way_is R l
      have b := btw_room R l
      by_cases k : h.lev (c.x.p + c.way) ∧ c.x.r = true
      · rw [tick_relev R g l s ob k]
        exact ⟨R.ok, by dsimp only; omega, by dsimp only; omega, by dsimp only; omega, by dsimp only; omega, by dsimp only; omega, by dsimp only; omega, fun q => absurd q (by dsimp only; omega), .inl k.1, .inl rfl⟩
      · rw [tick_on R g l s ob k]
        exact ⟨R.ok, by dsimp only; omega, by dsimp only; omega, by dsimp only; omega, by dsimp only; omega, by dsimp only; omega, by dsimp only; omega, fun q => absurd q (by dsimp only; omega), .inr (.inl (by dsimp only; omega)), .inl rfl⟩
end Go.Proofs.YtdmomnhacijmpaaGreatDoor

namespace Go.Proofs.YtdmomnhacijmpaaGreatDoor

/-- Without what was done. -/
def Sp.less (s d : Sp) : Sp := ⟨s.c &&& (18446744073709551615 - d.c), s.u &&& (18446744073709551615 - d.u), s.d &&& (18446744073709551615 - d.d)⟩
theorem and_ones {n : Nat} (h : n < 18446744073709551616) : n &&& (18446744073709551615 - 0) = n := by
  have := Nat.and_two_pow_sub_one_of_lt_two_pow (n := 64) (x := n) h
  simpa using this
theorem less_none {s : Sp} (ok : s.ok) : s.less zSp = s := by
  show Sp.mk _ _ _ = s
  rw [show zSp.c = 0 from rfl, show zSp.u = 0 from rfl, show zSp.d = 0 from rfl, and_ones ok.c, and_ones ok.u, and_ones ok.d]
theorem clr_none {n : Nat} (hn : n < 18446744073709551616) {f : Int} (f0 : 0 ≤ f) (f1 : f < 64) (h : hasB n f = false) : clrN n f = n := by
  refine ext_hasB fun z => ?_
  rw [hasB_clr hn f0 f1]
  by_cases e : z = f
  · rw [e, h]; rfl
  · rw [decide_eq_false e]; simp
theorem less_done {s : Sp} (ok : s.ok) {q x : Int} (q0 : 0 ≤ q) (q1 : q < 64) (hx : x = 0 ∨ x = 1 ∨ x = -1) : s.less (doneS s s q x) = s.left q x := by
  have C : s.c &&& (18446744073709551615 - (doneS s s q x).c) = clrN s.c q := by
    unfold doneS
    dsimp only
    split
    · rfl
    · rename_i g
      rw [and_ones ok.c, clr_none ok.c q0 q1 (by simpa using g)]
  have U : s.u &&& (18446744073709551615 - (doneS s s q x).u) = if 0 < x then clrN s.u q else s.u := by
    unfold doneS
    dsimp only
    rcases hx with rfl | rfl | rfl
    · rw [if_neg (by simp), if_neg (by decide), and_ones ok.u]
    · rw [if_pos (show (0 : Int) < 1 by decide)]
      by_cases g : s.hall q 1 = true
      · rw [if_pos ⟨g, rfl⟩]; rfl
      · rw [if_neg (fun k => g k.1), and_ones ok.u, clr_none ok.u q0 q1 (show s.hall q 1 = false by simpa using g)]
    · rw [if_neg (fun k => by omega), if_neg (by decide), and_ones ok.u]
  have D : s.d &&& (18446744073709551615 - (doneS s s q x).d) = if x < 0 then clrN s.d q else s.d := by
    unfold doneS
    dsimp only
    rcases hx with rfl | rfl | rfl
    · rw [if_neg (fun k => by omega), if_neg (by decide), and_ones ok.d]
    · rw [if_neg (fun k => by omega), if_neg (by decide), and_ones ok.d]
    · rw [if_pos (show (-1 : Int) < 0 by decide)]
      by_cases g : s.hall q (-1) = true
      · rw [if_pos ⟨g, rfl⟩]; rfl
      · rw [if_neg (fun k => g k.1), and_ones ok.d, clr_none ok.d q0 q1 (show s.hall q (-1) = false by simpa using g)]
  unfold Sp.less Sp.left
  rw [C, U, D]
theorem cnt_zero {s : Sp} (ok : s.ok) (h : s.cnt = 0) : s.all = 0 := by
  refine Decidable.not_not.1 fun k => ?_
  obtain ⟨z, hz⟩ := hasB_some k
  have r := hasB_range ok.all hz
  have P : ∀ n : Nat, hasB n z = true → 0 < cntN n := fun n q => Nat.lt_of_le_of_lt (Nat.zero_le (cntN 0)) (cnt_lt (fun y a => by rw [hasB_zero] at a; cases a) r.1 r.2 q (hasB_zero z))
  unfold Sp.cnt at h
  rw [Sp.all, hasB_or, hasB_or] at hz
  simp only [Bool.or_eq_true] at hz
  rcases hz with (q | q) | q <;> have := P _ q <;> omega
theorem zero_head {s : Sp} (ok : s.ok) (h : s.all = 0) {f d : Int} (f0 : 0 ≤ f) (f1 : f < 64) (hd : d = 0 ∨ d = 1 ∨ d = -1) : s.head f d = 0 ∧ s.stop f d = false := by
  have K := head_is ok f0 f1 hd
  have z := fun e => all_zero h f e
  have e : s.head f d = 0 := by
    refine Decidable.not_not.1 fun g => ?_
    have := K.why g
    rw [(z _).1, (z _).2.1] at this
    simp at this
  refine ⟨e, ?_⟩
  rw [Sp.stop, e, (z 0).2.2, (z 0).2.1]; rfl
theorem stop_last {s : Sp} (ok : s.ok) {f d : Int} (f0 : 0 ≤ f) (f1 : f < 64) (hd : d = 0 ∨ d = 1 ∨ d = -1) (h : s.head f d = 0) : (s.left f 0).all = 0 := by
  have n := (head_is ok f0 f1 hd).none h
  have L := Sp.left_ok ok f 0
  have S := left_sub ok (x := 0) f0 f1
  have tn : ∀ g, towB s.all f g = false → towB (s.left f 0).all f g = false := fun g k => Bool.eq_false_iff.2 fun q => by
    obtain ⟨y, i, j⟩ := (towB_iff L.all f g).1 q
    rw [S.all (tow_no ok k i)] at j; cases j
  refine tow_none L (tn 1 n.1) (tn (-1) n.2.1) ?_
  rw [all_parts, S.hall n.2.2.1, S.hall n.2.2.2, show hasB (s.left f 0).c f = false from clr_self ok.c f0 f1]; rfl

/-- Which floor a place belongs to. -/
theorem flr_is {h : Ho} (k : h.ok) {p y : Int} (p0 : 0 ≤ p) (p1 : p ≤ h.top) (a : y * h.s ≤ p) (b : p < y * h.s + h.s) : h.flr p = y := by
  obtain ⟨_, _, _, c, _⟩ := flr_facts k p0 p1
  have hs := k.2.2.1.1
  rcases Int.lt_trichotomy (h.flr p) y with g | g | g
  · have := mul_lt_lev hs g
    omega
  · exact g
  · have := mul_lt_lev hs g
    omega
theorem lev_iff {h : Ho} (k : h.ok) {p y : Int} (p0 : 0 ≤ p) (p1 : p ≤ h.top) (e : h.flr p = y) : h.lev p ↔ y * h.s = p := by
  rw [← e]; exact (flr_facts k p0 p1).2.2.2.2
/-- The floor at which it is, or to which it goes. -/
def Ca.dest (h : Ho) (c : Ca) : Int := if h.lev c.x.p then h.flr c.x.p else if c.x.e = 1 then h.flr c.x.p + 1 else h.flr c.x.p
theorem dest_lev {h : Ho} {c : Ca} (l : h.lev c.x.p) : c.dest h = h.flr c.x.p := if_pos l
theorem dest_at {h : Ho} (k : h.ok) {p e o kk : Int} {r : Bool} {y z : Int} (p0 : 0 ≤ p) (p1 : p ≤ h.top) (a : y * h.s ≤ p) (b : p < y * h.s + h.s)
    (hz : (y * h.s = p ∧ z = y) ∨ (y * h.s ≠ p ∧ e = 1 ∧ z = y + 1) ∨ (y * h.s ≠ p ∧ e = -1 ∧ z = y)) : (Ca.mk ⟨p, e, o, r⟩ kk).dest h = z := by
  have F := flr_is k p0 p1 a b
  have L := lev_iff k p0 p1 F
  unfold Ca.dest
  dsimp only
  rw [F]
  rcases hz with ⟨g, rfl⟩ | ⟨g, rfl, rfl⟩ | ⟨g, rfl, rfl⟩
  · rw [if_pos (L.2 g)]
  · rw [if_neg (fun q => g (L.1 q)), if_pos rfl]
  · rw [if_neg (fun q => g (L.1 q)), if_neg (by decide)]
/-- Leaving a floor. -/
theorem dest_go {h : Ho} (k : h.ok) {p x o kk : Int} {r : Bool} (p0 : 0 ≤ p) (p1 : p ≤ h.top) (l : h.lev p) (hx : x = 1 ∨ x = -1) (q0 : 0 ≤ p + x) (q1 : p + x ≤ h.top) :
    (Ca.mk ⟨p + x, x, o, r⟩ kk).dest h = h.flr p + x := by
  obtain ⟨_, _, _, _, L⟩ := flr_facts k p0 p1
  have e := L.1 l
  have hs := k.2.2.1.1
  have m1 : (h.flr p + 1) * h.s = h.flr p * h.s + h.s := by rw [Int.add_mul, Int.one_mul]
  have m2 : (h.flr p + -1) * h.s = h.flr p * h.s + -h.s := by rw [Int.add_mul]; omega
  rcases hx with rfl | rfl
  · by_cases g : h.s = 1
    · exact dest_at k q0 q1 (y := h.flr p + 1) (by omega) (by omega) (.inl ⟨by omega, rfl⟩)
    · exact dest_at k q0 q1 (y := h.flr p) (by omega) (by omega) (.inr (.inl ⟨by omega, rfl, rfl⟩))
  · by_cases g : h.s = 1
    · exact dest_at k q0 q1 (y := h.flr p + -1) (by omega) (by omega) (.inl ⟨by omega, rfl⟩)
    · exact dest_at k q0 q1 (y := h.flr p + -1) (by omega) (by omega) (.inr (.inr ⟨by omega, rfl, rfl⟩))
/-- Between floors. -/
theorem dest_on {h : Ho} (k : h.ok) {p e o kk o' kk' : Int} {r r' : Bool} (p0 : 0 ≤ p) (p1 : p ≤ h.top) (l : ¬ h.lev p) (he : e = 1 ∨ e = -1) (q0 : 0 ≤ p + e) (q1 : p + e ≤ h.top) :
    (Ca.mk ⟨p + e, e, o, r⟩ kk).dest h = (Ca.mk ⟨p, e, o', r'⟩ kk').dest h := by
  obtain ⟨_, _, _, c, L⟩ := flr_facts k p0 p1
  have g : h.flr p * h.s ≠ p := fun q => l (L.2 q)
  have m1 : (h.flr p + 1) * h.s = h.flr p * h.s + h.s := by rw [Int.add_mul, Int.one_mul]
  rcases he with rfl | rfl
  · rw [dest_at k p0 p1 (z := h.flr p + 1) (y := h.flr p) (by omega) (by omega) (.inr (.inl ⟨g, rfl, rfl⟩))]
    by_cases q : p + 1 = (h.flr p + 1) * h.s
    · exact dest_at k q0 q1 (y := h.flr p + 1) (by omega) (by omega) (.inl ⟨by omega, rfl⟩)
    · exact dest_at k q0 q1 (y := h.flr p) (by omega) (by omega) (.inr (.inl ⟨by omega, rfl, rfl⟩))
  · rw [dest_at k p0 p1 (z := h.flr p) (y := h.flr p) (by omega) (by omega) (.inr (.inr ⟨g, rfl, rfl⟩))]
    by_cases q : h.flr p * h.s = p + -1
    · exact dest_at k q0 q1 (y := h.flr p) (by omega) (by omega) (.inl ⟨by omega, rfl⟩)
    · exact dest_at k q0 q1 (y := h.flr p) (by omega) (by omega) (.inr (.inr ⟨by omega, rfl, rfl⟩))

/-- It stays: its door closed, level, nothing to do. -/
def restC (h : Ho) (s : Sp) (c : Ca) : Prop := c.x.o = 0 ∧ h.lev c.x.p ∧ s.all = 0
def trv (h : Ho) (t : Int) : Int := if t = 0 then 2 * h.top else if t = 1 then h.top else 0
def farP (h : Ho) (e p : Int) : Int := if e = 1 then h.top - p else p
def wrk (h : Ho) (s : Sp) : Int := h.d * s.cnt + s.cnt
theorem trv_nn {h : Ho} (k : h.ok) (t : Int) : 0 ≤ trv h t := by
  have := (Ho.range k).1
  unfold trv
  split
  · omega
  · split <;> omega
theorem trv_turn {h : Ho} {t : Int} (t0 : 0 ≤ t) (t1 : t + 1 ≤ 2) : trv h t = trv h (t + 1) + h.top := by
  unfold trv
  by_cases g : t = 0
  · subst g
    rw [if_pos rfl, if_neg (by decide), if_pos (by decide)]; omega
  · have g1 : t = 1 := by omega
    subst g1
    rw [if_neg (by decide), if_pos rfl, if_neg (by decide), if_neg (by decide)]; omega
theorem wrk_nn {h : Ho} (k : h.ok) (s : Sp) : 0 ≤ wrk h s := by
  have := Int.mul_nonneg (show 0 ≤ h.d by have := k.2.2.2.1; omega) (show (0 : Int) ≤ (s.cnt : Int) by omega)
  unfold wrk; omega
theorem wrk_less {h : Ho} (k : h.ok) {s l : Sp} (c : l.cnt < s.cnt) : wrk h l + h.d + 1 ≤ wrk h s := by
  have := Int.mul_le_mul_of_nonneg_left (show (l.cnt : Int) + 1 ≤ (s.cnt : Int) by omega) (show 0 ≤ h.d by have := k.2.2.2.1; omega)
  rw [Int.mul_add, Int.mul_one] at this
  unfold wrk; omega
theorem far_room {h : Ho} {e p : Int} (p0 : 0 ≤ p) (p1 : p ≤ h.top) : 0 ≤ farP h e p ∧ farP h e p ≤ h.top := by unfold farP; split <;> omega
theorem far_go {h : Ho} {e p : Int} (he : e = 1 ∨ e = -1) : farP h e (p + e) = farP h e p - 1 := by
  rcases he with rfl | rfl <;> unfold farP
  · rw [if_pos rfl, if_pos rfl]; omega
  · rw [if_neg (by decide), if_neg (by decide)]; omega
/-- Under way, M ticks to come at most. -/
structure Run (h : Ho) (s : Sp) (c : Ca) (M : Int) : Prop where
  R : RightIs h c
  ok : s.ok
  F : h.fit s = s
  m0 : 0 ≤ M
  ph : restC h s c ∨
    (c.x.o = 0 ∧ ¬ h.lev c.x.p ∧ c.x.r = true ∧ wrk h s + 3 * h.top + c.x.p % h.s ≤ M) ∨
    (c.x.e = 0 ∧ s.all = 0 ∧ h.lev c.x.p ∧ c.x.o ≤ M) ∨
    ((h.lev c.x.p ∨ c.x.r = false) ∧ ∃ t N, Sw s (c.dest h) c.x.e t N ∧ ((c.x.e = 0 ∧ t = 0 ∧ wrk h s + c.x.o + 3 * h.top ≤ M) ∨ (c.x.e ≠ 0 ∧ wrk h s + c.x.o + trv h t + farP h c.x.e c.x.p ≤ M)))
theorem Run.mono {h : Ho} {s : Sp} {c : Ca} {M K : Int} (H : Run h s c M) (k : M ≤ K) : Run h s c K := by
  obtain ⟨R, ok, F, m0, ph⟩ := H
  refine ⟨R, ok, F, by omega, ?_⟩
  rcases ph with a | ⟨a, b, d, e⟩ | ⟨a, b, d, e⟩ | ⟨a, t, N, sw, b⟩
  · exact .inl a
  · exact .inr (.inl ⟨a, b, d, by omega⟩)
  · exact .inr (.inr (.inl ⟨a, b, d, by omega⟩))
  · refine .inr (.inr (.inr ⟨a, t, N, sw, ?_⟩))
    rcases b with ⟨b, d, e⟩ | ⟨b, d⟩
    · exact .inl ⟨b, d, by omega⟩
    · exact .inr ⟨b, by omega⟩
theorem dest_in {h : Ho} {c : Ca} (R : RightIs h c) (_ : h.lev c.x.p ∨ c.x.e ≠ 0) : 0 ≤ c.dest h ∧ c.dest h < h.f := by
  obtain ⟨a, b, _, d, L⟩ := flr_facts R.ok R.p0 R.p1
  unfold Ca.dest
  split
  · exact ⟨a, b⟩
  · rename_i l
    have g : h.flr c.x.p * h.s ≠ c.x.p := fun q => l (L.2 q)
    split
    · refine ⟨by omega, ?_⟩
      refine Int.not_le.1 fun q => ?_
      have e : h.flr c.x.p = h.f - 1 := by omega
      have p1 := R.p1
      unfold Ho.top at p1
      rw [e] at d g
      omega
    · exact ⟨a, b⟩
/-- From anywhere. -/
theorem Run.first {h : Ho} {s : Sp} {c : Ca} (R : RightIs h c) (ok : s.ok) (F : h.fit s = s) : Run h s c (wrk h s + c.x.o + 3 * h.top + (h.s - 1)) := by
  have hs := R.ok.2.2.1
  have hw := wrk_nn R.ok s
  have ht := (Ho.range R.ok).1
  have o0 := R.o0
  have hf := R.ok.2.1.2
  refine ⟨R, ok, F, by omega, ?_⟩
  have hm0 := Int.emod_nonneg c.x.p (show h.s ≠ 0 by omega)
  have hm1 := Int.emod_lt_of_pos c.x.p (show 0 < h.s by omega)
  by_cases l : h.lev c.x.p
  · have D := dest_in R (.inl l)
    refine .inr (.inr (.inr ⟨.inl l, 0, 381, Sw.first ok D.1 (by omega) (small_dir R.e0 R.e1), ?_⟩))
    by_cases e : c.x.e = 0
    · exact .inl ⟨e, rfl, by omega⟩
    · have := far_room (e := c.x.e) R.p0 R.p1
      refine .inr ⟨e, ?_⟩
      have : trv h 0 = 2 * h.top := if_pos rfl
      omega
  · have og : c.x.o = 0 := by
      refine Decidable.not_not.1 fun q => ?_
      exact l (R.opn (by omega)).1
    cases r : c.x.r with
    | true => exact .inr (.inl ⟨og, l, rfl, by omega⟩)
    | false =>
      have e : c.x.e ≠ 0 := (R.btw.resolve_left l).resolve_right (by rw [r]; simp)
      have D := dest_in R (.inr e)
      refine .inr (.inr (.inr ⟨.inr rfl, 0, 381, Sw.first ok D.1 (by omega) (small_dir R.e0 R.e1), .inr ⟨e, ?_⟩⟩))
      have := far_room (e := c.x.e) R.p0 R.p1
      have : trv h 0 = 2 * h.top := if_pos rfl
      omega
/-- With nothing to come it stays. -/
theorem Run.rests {h : Ho} {s : Sp} {c : Ca} (H : Run h s c 0) : restC h s c := by
  obtain ⟨R, ok, F, m0, ph⟩ := H
  have hw := wrk_nn R.ok s
  have ht := (Ho.range R.ok).1
  have o0 := R.o0
  have hs := R.ok.2.2.1
  have hm0 := Int.emod_nonneg c.x.p (show h.s ≠ 0 by omega)
  rcases ph with a | ⟨a, b, d, e⟩ | ⟨a, b, d, e⟩ | ⟨a, t, N, sw, b⟩
  · exact a
  · omega
  · exact ⟨by omega, d, b⟩
  · rcases b with ⟨b, d, e⟩ | ⟨b, d⟩
    · omega
    · have f := far_room (e := c.x.e) R.p0 R.p1
      have v := trv_nn R.ok t
      have hc : s.cnt = 0 := by
        have := Int.mul_nonneg (show 0 ≤ h.d by have := R.ok.2.2.2.1; omega) (show (0 : Int) ≤ (s.cnt : Int) by omega)
        unfold wrk at hw d
        omega
      refine ⟨by omega, ?_, cnt_zero ok hc⟩
      have fz : farP h c.x.e c.x.p = 0 := by omega
      unfold farP at fz
      split at fz
      · rw [show c.x.p = h.top by omega]; exact lev_top R.ok
      · rw [fz]; exact lev_zero R.ok
theorem tickL_less {o : Int} (g : 0 < o) : tickL o false = o - 1 := by
  by_cases g1 : 1 < o
  · exact door_more g1
  · have : o = 1 := by omega
    rw [this]; rfl
/-- A tick, nothing obstructed: what was done is no more. -/
theorem Run.tick {h : Ho} {s : Sp} {c : Ca} {M : Int} (H : Run h s c M) : Run h (s.less (c.tick h s false).2.st) (c.tick h s false).1 (max (M - 1) 0) := by
  obtain ⟨R, ok, F, m0, ph⟩ := H
  have R' := R.tick ok false
  have hs := R.ok.2.2.1
  have hf := R.ok.2.1.2
  have ht := (Ho.range R.ok).1
  have hw := wrk_nn R.ok s
  by_cases g : 0 < c.x.o
  · have E := tick_open R g s false
    rw [E] at R' ⊢
    have op := R.opn g
    dsimp only at R' ⊢
    rw [less_none ok]
    refine ⟨R', ok, F, by omega, ?_⟩
    unfold restC Ca.dest
    dsimp only
    rw [tickL_less g]
    rcases ph with a | ⟨a, _⟩ | ⟨a, b, d, e⟩ | ⟨a, t, N, sw, b⟩
    · exact absurd a.1 (by omega)
    · omega
    · by_cases z : c.x.o = 1
      · exact .inl ⟨by omega, d, b⟩
      · exact .inr (.inr (.inl ⟨a, b, d, by omega⟩))
    · refine .inr (.inr (.inr ⟨.inl op.1, t, N, sw, ?_⟩))
      rcases b with ⟨b, d, e⟩ | ⟨b, d⟩
      · exact .inl ⟨b, d, by omega⟩
      · exact .inr ⟨b, by omega⟩
  · have o0 : c.x.o = 0 := by have := R.o0; omega
    by_cases l : h.lev c.x.p
    · obtain ⟨q0, q1, _, _, _⟩ := flr_facts R.ok R.p0 R.p1
      have hd := small_dir R.e0 R.e1
      by_cases z : s.all = 0
      · have Z := zero_head ok z q0 (show h.flr c.x.p < 64 by omega) hd
        have E := tick_go R g l (s := s) false (by rw [F]; exact Z.2)
        rw [F, Z.1, Int.add_zero] at E
        rw [E] at R' ⊢
        dsimp only at R' ⊢
        rw [less_none ok]
        exact ⟨R', ok, F, by omega, .inl ⟨rfl, l, z⟩⟩
      · obtain ⟨t, N, sw, b⟩ : ∃ t N, Sw s (c.dest h) c.x.e t N ∧ ((c.x.e = 0 ∧ t = 0 ∧ wrk h s + c.x.o + 3 * h.top ≤ M) ∨ (c.x.e ≠ 0 ∧ wrk h s + c.x.o + trv h t + farP h c.x.e c.x.p ≤ M)) := by
          rcases ph with a | ⟨_, a, _⟩ | ⟨_, a, _⟩ | ⟨_, a⟩
          · exact absurd a.2.2 z
          · exact absurd l a
          · exact absurd a z
          · exact a
        rw [dest_lev l] at sw
        have K := head_is ok q0 (show h.flr c.x.p < 64 by omega) hd
        have fr := fun e => far_room (e := e) R.p0 R.p1
        have HT : ∀ x, x = s.head (h.flr c.x.p) c.x.e → x ≠ 0 → t + turnN c.x.e x ≤ 2 → 0 ≤ t → wrk h s + trv h (t + turnN c.x.e x) + farP h x c.x.p ≤ M := by
          intro x hx x0 t2 t0
          have f1 := fr x
          have f2 := fr c.x.e
          rcases b with ⟨b, d, e⟩ | ⟨b, d⟩
          · have : turnN c.x.e x = 0 := if_neg (fun k => k.1 b)
            rw [this, d, show trv h (0 + 0) = 2 * h.top from if_pos rfl]
            omega
          · by_cases u : x = -c.x.e
            · have : turnN c.x.e x = 1 := if_pos ⟨b, u⟩
              rw [this] at t2 ⊢
              have := trv_turn (h := h) t0 t2
              omega
            · have : turnN c.x.e x = 0 := if_neg (fun k => u k.2)
              have ks := K.small
              rw [← hx] at ks
              have ex : x = c.x.e := by omega
              rw [this, Int.add_zero, ex]
              omega
        cases k : s.stop (h.flr c.x.p) c.x.e with
        | true =>
          have E := tick_stop R g l (s := s) false (by rw [F]; exact k)
          rw [F] at E
          rw [E] at R' ⊢
          dsimp only at R' ⊢
          rw [less_done ok q0 (by omega) K.small]
          obtain ⟨S1, S2, S3, S4⟩ := sw.stop k
          have C := left_cnt ok q0 (by omega) k
          have W := wrk_less R.ok C
          have LS := left_sub ok (x := s.head (h.flr c.x.p) c.x.e) q0 (show h.flr c.x.p < 64 by omega)
          have LO := S1.ok
          refine ⟨R', LO, fit_part R.ok ok LO LS F, by omega, ?_⟩
          have wl := wrk_nn R.ok (s.left (h.flr c.x.p) (s.head (h.flr c.x.p) c.x.e))
          by_cases x0 : s.head (h.flr c.x.p) c.x.e = 0
          · refine .inr (.inr (.inl ⟨x0, ?_, l, ?_⟩))
            · rw [x0]; exact stop_last ok q0 (by omega) hd x0
            · dsimp only
              have v := trv_nn R.ok t
              have f2 := fr c.x.e
              rcases b with ⟨b, d, e⟩ | ⟨b, d⟩ <;> omega
          · refine .inr (.inr (.inr ⟨.inl l, _, _, by unfold Ca.dest; dsimp only; rw [if_pos l]; exact S1, .inr ⟨x0, ?_⟩⟩))
            have := HT _ rfl x0 S1.t2 sw.t0
            dsimp only
            omega
        | false =>
          have x0 : s.head (h.flr c.x.p) c.x.e ≠ 0 := fun q => z (sw.ends k q)
          have rm := go_room R l ok (by rw [F]; exact k)
          have E := tick_go R g l (s := s) false (by rw [F]; exact k)
          rw [F] at E rm
          rw [E] at R' ⊢
          dsimp only at R' ⊢
          rw [less_none ok]
          obtain ⟨S1, S2, S3⟩ := sw.move k x0
          have hx : s.head (h.flr c.x.p) c.x.e = 1 ∨ s.head (h.flr c.x.p) c.x.e = -1 := K.small.resolve_left x0
          refine ⟨R', ok, F, by omega, .inr (.inr (.inr ⟨.inr rfl, _, _, by rw [dest_go R.ok R.p0 R.p1 l hx rm.1 rm.2]; exact S1, .inr ⟨x0, ?_⟩⟩))⟩
          have := HT _ rfl x0 S1.t2 sw.t0
          dsimp only
          rw [far_go hx]
          omega
    · have br := btw_room R l
      have hm0 := Int.emod_nonneg c.x.p (show h.s ≠ 0 by omega)
      have hm1 := Int.emod_lt_of_pos c.x.p (show 0 < h.s by omega)
      have hm2 : c.x.p % h.s ≠ 0 := fun q => l ⟨⟨R.ok, R.p0, R.p1⟩, q⟩
      have hm3 : (c.x.p + -1) % h.s = c.x.p % h.s - 1 := by
        have e := Int.mul_ediv_add_emod c.x.p h.s
        have e2 : c.x.p + -1 = (c.x.p % h.s - 1) + h.s * (c.x.p / h.s) := by omega
        rw [e2, Int.add_mul_emod_self_left]
        exact Int.emod_eq_of_lt (by omega) (by omega)
      rcases ph with a | ⟨_, _, a, b⟩ | ⟨_, _, a, _⟩ | ⟨a, t, N, sw, b⟩
      · exact absurd a.2.1 l
      · have wy : c.way = -1 := if_pos a
        by_cases k : h.lev (c.x.p + c.way) ∧ c.x.r = true
        · have E := tick_relev R g l s false k
          rw [E] at R' ⊢
          rw [wy] at k R' ⊢
          dsimp only at R' ⊢
          rw [less_none ok]
          have D := dest_in R' (.inl k.1)
          exact ⟨R', ok, F, by omega, .inr (.inr (.inr ⟨.inl k.1, 0, 381, Sw.first ok D.1 (by omega) (.inl rfl), .inl ⟨rfl, rfl, by dsimp only; omega⟩⟩))⟩
        · have E := tick_on R g l s false k
          rw [E] at R' ⊢
          rw [wy] at k R' ⊢
          dsimp only at R' ⊢
          rw [less_none ok]
          refine ⟨R', ok, F, by omega, .inr (.inl ⟨rfl, fun q => k ⟨q, a⟩, a, ?_⟩)⟩
          dsimp only
          rw [hm3]
          omega
      · exact absurd a l
      · have r0 : c.x.r = false := a.resolve_left l
        have e0 : c.x.e ≠ 0 := (R.btw.resolve_left l).resolve_right (by rw [r0]; simp)
        have wy : c.way = c.x.e := if_neg (by rw [r0]; simp)
        have he : c.x.e = 1 ∨ c.x.e = -1 := (small_dir R.e0 R.e1).resolve_left e0
        have k : ¬ (h.lev (c.x.p + c.way) ∧ c.x.r = true) := fun q => by rw [r0] at q; cases q.2
        have E := tick_on R g l s false k
        rw [E] at R' ⊢
        rw [wy] at R' ⊢
        dsimp only at R' ⊢
        rw [less_none ok]
        have D : (Ca.mk ⟨c.x.p + c.x.e, c.x.e, 0, c.x.r⟩ 0).dest h = c.dest h := dest_on R.ok R.p0 R.p1 l he (by omega) (by omega)
        refine ⟨R', ok, F, by omega, .inr (.inr (.inr ⟨.inr r0, t, N, by rw [D]; exact sw, .inr ⟨e0, ?_⟩⟩))⟩
        dsimp only
        rw [far_go he]
        rcases b with ⟨b, _⟩ | ⟨_, d⟩
        · exact absurd b e0
        · omega
end Go.Proofs.YtdmomnhacijmpaaGreatDoor

namespace Go.Proofs.YtdmomnhacijmpaaGreatDoor

theorem countP_or (p q : Nat → Bool) : ∀ l : List Nat, l.countP (fun i => p i || q i) ≤ l.countP p + l.countP q
  | [] => by simp
  | a :: l => by
    have := countP_or p q l
    simp only [List.countP_cons]
    cases p a <;> cases q a <;> simp <;> omega
theorem countP_one (z : Int) : ∀ k : Nat, (List.range k).countP (fun i : Nat => decide ((i : Int) = z)) ≤ if z < k then 1 else 0
  | 0 => by simp
  | k + 1 => by
    have := countP_one z k
    rw [List.range_succ, List.countP_append, List.countP_singleton]
    by_cases h : (k : Int) = z
    · rw [if_neg (by omega)] at this
      rw [if_pos (by simpa using h), if_pos (by omega)]
      omega
    · rw [if_neg (by simpa using h)]
      split at this <;> split <;> omega
theorem cnt_or (n : Nat) (z : Int) : cntN (n ||| oneN z) ≤ cntN n + 1 := by
  have a := countP_or n.testBit (oneN z).testBit (List.range 64)
  have b : (List.range 64).countP (oneN z).testBit ≤ 1 := by
    have c := countP_one z 64
    refine Nat.le_trans (List.countP_mono_left (q := fun i : Nat => decide ((i : Int) = z)) fun i _ hi => ?_) (Nat.le_trans c (by split <;> omega))
    rw [← hasB_nat, hasB_one, decide_eq_true_iff] at hi
    exact decide_eq_true hi.1
  have e : cntN (n ||| oneN z) = (List.range 64).countP (fun i => n.testBit i || (oneN z).testBit i) := by
    unfold cntN
    congr 1
    funext i
    exact Nat.testBit_or n (oneN z) i
  rw [e]
  unfold cntN
  omega
theorem cnt_none : cntN 0 = 0 := by decide
theorem cnt_car (l : List Int) : cntN (carOf l) ≤ l.length := by
  have : ∀ (l : List Int) (n : Nat), cntN (l.foldl (fun n z => n ||| oneN z) n) ≤ cntN n + l.length := by
    intro l
    induction l with
    | nil => intro n; simp
    | cons z l ih =>
      intro n
      have := ih (n ||| oneN z)
      have := cnt_or n z
      simp only [List.foldl_cons, List.length_cons]
      omega
  have := this l 0
  rw [cnt_none] at this
  unfold carOf
  omega
theorem hasB_car (l : List Int) (z : Int) : hasB (carOf l) z = true ↔ z ∈ l ∧ 0 ≤ z ∧ z < 64 := by
  have : ∀ (l : List Int) (n : Nat), hasB (l.foldl (fun n z => n ||| oneN z) n) z = true ↔ hasB n z = true ∨ (z ∈ l ∧ 0 ≤ z ∧ z < 64) := by
    intro l
    induction l with
    | nil => intro n; simp
    | cons y l ih =>
      intro n
      rw [List.foldl_cons, ih, hasB_or, Bool.or_eq_true, hasB_one, decide_eq_true_iff, List.mem_cons]
      constructor
      · rintro ((k | k) | k)
        · exact .inl k
        · exact .inr ⟨.inl k.1, by omega⟩
        · exact .inr ⟨.inr k.1, k.2⟩
      · rintro (k | ⟨k | k, r⟩)
        · exact .inl (.inl k)
        · exact .inl (.inr ⟨k, by omega⟩)
        · exact .inr ⟨k, r⟩
  have := this l 0
  rw [hasB_zero] at this
  simpa [carOf] using this
/-- Car calls alone. -/
def onlyC (n : Nat) : Sp := ⟨n, 0, 0⟩
theorem onlyC_ok {n : Nat} (h : n < 18446744073709551616) : (onlyC n).ok := ⟨h, (by decide : (0 : Nat) < 18446744073709551616), (by decide : (0 : Nat) < 18446744073709551616)⟩
theorem onlyC_cnt (n : Nat) : (onlyC n).cnt = cntN n := by
  show cntN n + cntN 0 + cntN 0 = _
  rw [cnt_none]; rfl
theorem fit_onlyC {h : Ho} (k : h.ok) {n : Nat} (hn : n < 18446744073709551616) (r : ∀ z, hasB n z = true → z < h.f) : h.fit (onlyC n) = onlyC n := by
  refine sp_ext (fun z => ?_) (fun z => ?_) (fun z => ?_)
  · rw [fit_car k]
    show (hasB n z && _) = hasB n z
    cases q : hasB n z with
    | false => rfl
    | true => rw [decide_eq_true (r z q)]; rfl
  · rw [fit_up k, show (onlyC n).u = 0 from rfl, hasB_zero]; rfl
  · rw [fit_dn k (onlyC_ok hn), show (onlyC n).d = 0 from rfl, hasB_zero]; rfl
theorem onlyC_less (n : Nat) (d : Sp) : (onlyC n).less d = onlyC (n &&& (18446744073709551615 - d.c)) := by
  unfold Sp.less onlyC
  dsimp only
  rw [Nat.zero_and, Nat.zero_and]
theorem onlyC_all (n : Nat) : (onlyC n).all = n := by
  unfold Sp.all onlyC
  dsimp only
  rw [Nat.or_zero, Nat.or_zero]
/-- A car that starts. -/
def startC (h : Ho) (p : Int) : Ca := ⟨⟨p, 0, 0, !decide (h.lev p)⟩, 0⟩
theorem start_right {h : Ho} (k : h.ok) {p : Int} (p0 : 0 ≤ p) (p1 : p ≤ h.top) : RightIs h (startC h p) := by
  refine ⟨k, p0, p1, show (-1 : Int) ≤ 0 by decide, show (0 : Int) ≤ 1 by decide, show (0 : Int) ≤ 0 by decide, show (0 : Int) ≤ h.d by have := k.2.2.2; omega, fun g => absurd g (show ¬ (0 : Int) < 0 by decide), ?_, .inl rfl⟩
  by_cases l : h.lev p
  · exact .inl l
  · refine .inr (.inr ?_)
    show (!decide (h.lev p)) = true
    rw [decide_eq_false l]; rfl
/-- With car calls at some floors, within thrice the house's length and a door's time a call. -/
theorem start_run {h : Ho} (k : h.ok) {p : Int} (p0 : 0 ≤ p) (p1 : p ≤ h.top) {l : List Int} (r : ∀ z ∈ l, 0 ≤ z ∧ z < h.f) {M : Int} (m : h.s + 3 * h.top + (h.d + 2) * (l.length + 1) ≤ M) : Run h (onlyC (carOf l)) (startC h p) M := by
  have hn := carOf_lt l
  have F := fit_onlyC k hn (fun z q => (r z ((hasB_car l z).1 q).1).2)
  have R := start_right k p0 p1
  refine (Run.first R (onlyC_ok hn) F).mono ?_
  have c := cnt_car l
  have hd := k.2.2.2
  have w : wrk h (onlyC (carOf l)) ≤ h.d * l.length + l.length := by
    have := Int.mul_le_mul_of_nonneg_left (show (cntN (carOf l) : Int) ≤ (l.length : Int) by omega) (show 0 ≤ h.d + 1 by omega)
    unfold wrk
    rw [onlyC_cnt]
    rw [Int.add_mul, Int.one_mul, Int.add_mul, Int.one_mul] at this
    exact this
  have e : (h.d + 2) * ((l.length : Int) + 1) = h.d * l.length + 2 * l.length + h.d + 2 := by
    rw [Int.mul_add, Int.add_mul]; omega
  have z : (startC h p).x.o = 0 := rfl
  rw [z]
  omega
end Go.Proofs.YtdmomnhacijmpaaGreatDoor

namespace Go.Proofs.YtdmomnhacijmpaaGreatDoor

/-- What counts is all that a tick looks at. -/
theorem tick_same {h : Ho} {c : Ca} {t u : Sp} (F : h.fit t = h.fit u) (C : ∀ z, 0 ≤ z → z < h.f → hasB t.c z = hasB u.c z) (ob : Bool) : c.tick h t ob = c.tick h u ob := by
  by_cases R : RightIs h c
  · by_cases g : 0 < c.x.o
    · rw [tick_open R g, tick_open R g]
    · by_cases l : h.lev c.x.p
      · obtain ⟨q0, q1, _⟩ := flr_facts R.ok R.p0 R.p1
        cases k : (h.fit t).stop (h.flr c.x.p) c.x.e with
        | true =>
          rw [tick_stop R g l ob k, tick_stop R g l ob (by rw [← F]; exact k), F]
          unfold doneS
          rw [C _ q0 q1]
        | false => rw [tick_go R g l ob k, tick_go R g l ob (by rw [← F]; exact k), F]
      · by_cases k : h.lev (c.x.p + c.way) ∧ c.x.r = true
        · rw [tick_relev R g l _ ob k, tick_relev R g l _ ob k]
        · rw [tick_on R g l _ ob k, tick_on R g l _ ob k]
  · rw [tick_wrong R, tick_wrong R]

/-- Where it opens. -/
structure StopIs (h : Ho) (c : Ca) (s : Sp) (x : Ca × Dn) : Prop where
  R : RightIs h c
  o0 : c.x.o = 0
  lev : h.lev c.x.p
  car : x.1 = ⟨⟨c.x.p, x.2.la, h.d, false⟩, 0⟩
  fl : x.2.fl = h.flr c.x.p
  cl : x.2.cl = false
  mv : x.2.mv = 0
  la : x.2.la = 0 ∨ x.2.la = 1 ∨ x.2.la = -1
  st : x.2.st = doneS s (h.fit s) x.2.fl x.2.la
  why : hasB (h.fit s).c x.2.fl = true ∨ (h.fit s).hall x.2.fl x.2.la = true
/-- A tick opens so, or tells of no stops. -/
theorem tick_opens (h : Ho) (c : Ca) {s : Sp} (ok : s.ok) (ob : Bool) : ((c.tick h s ob).2.op = true ∧ StopIs h c s (c.tick h s ob)) ∨ ((c.tick h s ob).2.op = false ∧ (c.tick h s ob).2.st = zSp ∧ (c.tick h s ob).2.la = 0) := by
  by_cases R : RightIs h c
  · by_cases g : 0 < c.x.o
    · rw [tick_open R g]; exact .inr ⟨rfl, rfl, rfl⟩
    · by_cases l : h.lev c.x.p
      · obtain ⟨q0, q1, _⟩ := flr_facts R.ok R.p0 R.p1
        have hf := R.ok.2.1.2
        cases k : (h.fit s).stop (h.flr c.x.p) c.x.e with
        | true =>
          rw [tick_stop R g l ob k]
          have K := head_is (fit_ok h ok) q0 (show h.flr c.x.p < 64 by omega) (small_dir R.e0 R.e1)
          unfold Sp.stop at k
          rw [Bool.or_eq_true] at k
          exact .inl ⟨rfl, R, by have := R.o0; omega, l, rfl, rfl, rfl, rfl, K.small, rfl, k⟩
        | false => rw [tick_go R g l ob k]; exact .inr ⟨rfl, rfl, rfl⟩
      · by_cases k : h.lev (c.x.p + c.way) ∧ c.x.r = true
        · rw [tick_relev R g l _ ob k]; exact .inr ⟨rfl, rfl, rfl⟩
        · rw [tick_on R g l _ ob k]; exact .inr ⟨rfl, rfl, rfl⟩
  · rw [tick_wrong R]; exact .inr ⟨rfl, rfl, rfl⟩
theorem one_bits {q : Int} (q0 : 0 ≤ q) (q1 : q < 64) : bitsOf (oneN q) = [q] := by
  obtain ⟨i, rfl⟩ : ∃ i : Nat, q = (i : Int) := ⟨q.toNat, by omega⟩
  have e : bitsN (oneN (i : Int)) = [i] := by
    unfold bitsN
    have : (List.range 64).filter (oneN (i : Int)).testBit = (List.range 64).filter (fun j => decide (j = i)) := by
      apply List.filter_congr
      intro j _
      rw [← hasB_nat, hasB_one]
      exact decide_eq_decide.2 (by omega)
    rw [this, range_cut i (by omega), List.filter_append, List.filter_cons_of_pos (by simp)]
    have l1 : (List.range i).filter (fun j => decide (j = i)) = [] := List.filter_eq_nil_iff.2 fun j hj => by
      have := List.mem_range.1 hj
      simp; omega
    have l2 : ((List.range (63 - i)).map (· + (i + 1))).filter (fun j => decide (j = i)) = [] := List.filter_eq_nil_iff.2 fun j hj => by
      obtain ⟨y, _, rfl⟩ := List.mem_map.1 hj
      simp; omega
    rw [l1, l2]; rfl
  rw [bitsOf, e]; rfl
/-- What it tells of the stops. -/
theorem done_facts {h : Ho} {c : Ca} {s : Sp} (ok : s.ok) {x : Ca × Dn} (H : StopIs h c s x) :
    (hasB s.c x.2.fl = true ∨ (x.2.la ≠ 0 ∧ s.hall x.2.fl x.2.la = true)) ∧ hasB x.2.st.c x.2.fl = hasB s.c x.2.fl ∧ bitsOf x.2.st.all = [x.2.fl] ∧
    (x.2.la ≠ 0 → x.2.st.hall x.2.fl (-x.2.la) = false) ∧ x.1.x.e = x.2.la ∧ x.2.st.ok ∧ ¬ (x.2.st.c = 0 ∧ x.2.st.u = 0 ∧ x.2.st.d = 0) := by
  have R := H.R
  obtain ⟨q0, q1, _⟩ := flr_facts R.ok R.p0 R.p1
  have hf := R.ok.2.1.2
  have S := fit_sub R.ok ok
  have la := H.la
  have why := H.why
  have st := H.st
  have cr := H.car
  have fl := H.fl
  obtain ⟨x1, ⟨op, cl, f, a, mv, d⟩⟩ := x
  dsimp only at *
  rw [← fl] at q0 q1
  have hz : ∀ y, hasB 0 y = false := hasB_zero
  have ho : hasB (oneN f) f = true := by rw [hasB_one]; exact decide_eq_true (by omega)
  have w : hasB s.c f = true ∨ (a ≠ 0 ∧ (h.fit s).hall f a = true) := by
    rcases why with k | k
    · exact .inl (S.c _ k)
    · have := hall_dir k
      exact .inr ⟨by omega, k⟩
  have ct : hasB d.c f = hasB s.c f := by
    rw [st, doneS]
    dsimp only
    cases q : hasB s.c f with
    | true => rw [if_pos rfl]; exact ho
    | false => rw [if_neg (by simp)]; exact hz f
  have cu : d.u = if (h.fit s).hall f a = true ∧ a = 1 then oneN f else 0 := by rw [st]; rfl
  have cd : d.d = if (h.fit s).hall f a = true ∧ a = -1 then oneN f else 0 := by rw [st]; rfl
  have cc : d.c = if hasB s.c f = true then oneN f else 0 := by rw [st]; rfl
  have dok : d.ok := by
    refine ⟨?_, ?_, ?_⟩
    · rw [cc]; split; exact oneN_lt f; decide
    · rw [cu]; split; exact oneN_lt f; decide
    · rw [cd]; split; exact oneN_lt f; decide
  have al : d.all = oneN f := by
    refine ext_hasB fun z => ?_
    rw [Sp.all, hasB_or, hasB_or]
    have le : ∀ n : Nat, n = 0 ∨ n = oneN f → hasB n z = true → hasB (oneN f) z = true := fun n k q => by
      rcases k with k | k
      · rw [k, hz] at q; cases q
      · rw [k] at q; exact q
    have c1 : d.c = 0 ∨ d.c = oneN f := by rw [cc]; split <;> simp
    have c2 : d.u = 0 ∨ d.u = oneN f := by rw [cu]; split <;> simp
    have c3 : d.d = 0 ∨ d.d = oneN f := by rw [cd]; split <;> simp
    rw [Bool.eq_iff_iff, Bool.or_eq_true, Bool.or_eq_true]
    constructor
    · rintro ((k | k) | k)
      · exact le _ c1 k
      · exact le _ c2 k
      · exact le _ c3 k
    · intro k
      rcases w with q | ⟨a0, q⟩
      · rw [cc, if_pos q]; exact .inl (.inl k)
      · rcases hall_dir q with e | e
        · rw [cu, if_pos ⟨q, e⟩]; exact .inl (.inr k)
        · rw [cd, if_pos ⟨q, e⟩]; exact .inr k
  refine ⟨?_, ct, by rw [al]; exact one_bits q0 (by omega), fun a0 => ?_, by rw [cr], dok, ?_⟩
  · rcases w with q | ⟨a0, q⟩
    · exact .inl q
    · refine .inr ⟨a0, Bool.not_eq_false _ ▸ fun k => ?_⟩
      rw [S.hall k] at q; cases q
  · rcases la with e | e | e
    · exact absurd e a0
    · rw [e]
      show hasB d.d f = false
      rw [cd, if_neg (fun k => by omega)]; exact hz f
    · rw [e]
      show hasB d.u f = false
      rw [cu, if_neg (fun k => by omega)]; exact hz f
  · rintro ⟨k1, k2, k3⟩
    have : d.all = 0 := by unfold Sp.all; rw [k1, k2, k3]; rfl
    rw [al] at this
    rw [this, hz] at ho
    cases ho
/-- What a tick keeps. -/
theorem tick_facts {h : Ho} {c : Ca} (R : RightIs h c) {s : Sp} (ok : s.ok) (ob : Bool) {x : Ca} {d : Dn} (e : c.tick h s ob = (x, d)) :
    x.x.p - c.x.p = d.mv ∧ (-1 ≤ d.mv ∧ d.mv ≤ 1) ∧ (0 < x.x.o → d.mv = 0) ∧ (0 < c.x.o → d.mv = 0) ∧ (d.op = true → c.x.o = 0 ∧ 0 < x.x.o ∧ h.lev x.x.p) ∧ (d.cl = true → x.x.o = 0 ∧ 0 < c.x.o) ∧ d.fl = h.flr x.x.p := by
  have hd := R.ok.2.2.2
  have r0 := R.o0
  by_cases g : 0 < c.x.o
  · rw [tick_open R g, Prod.mk.injEq] at e
    obtain ⟨rfl, rfl⟩ := e
    dsimp only
    refine ⟨by omega, by decide, fun _ => rfl, fun _ => rfl, fun k => (by cases k), fun k => ⟨?_, g⟩, rfl⟩
    by_cases g1 : 1 < c.x.o
    · rw [doorB_more g1] at k; cases k
    · have o1 : c.x.o = 1 := by omega
      rw [o1] at k ⊢
      cases ob
      · rfl
      · cases k
  · by_cases l : h.lev c.x.p
    · obtain ⟨q0, q1, _⟩ := flr_facts R.ok R.p0 R.p1
      have hf := R.ok.2.1.2
      have K := (head_is (fit_ok h ok) q0 (show h.flr c.x.p < 64 by omega) (small_dir R.e0 R.e1)).small
      cases k : (h.fit s).stop (h.flr c.x.p) c.x.e with
      | true =>
        rw [tick_stop R g l ob k, Prod.mk.injEq] at e
        obtain ⟨rfl, rfl⟩ := e
        dsimp only
        exact ⟨by omega, by decide, fun _ => rfl, fun _ => rfl, fun _ => ⟨by omega, by omega, l⟩, fun k => (by cases k), rfl⟩
      | false =>
        rw [tick_go R g l ob k, Prod.mk.injEq] at e
        obtain ⟨rfl, rfl⟩ := e
        dsimp only
        exact ⟨by omega, by omega, fun k => absurd k (by decide), fun k => absurd k g, fun k => (by cases k), fun k => (by cases k), rfl⟩
    · have w := way_is R l
      by_cases k : h.lev (c.x.p + c.way) ∧ c.x.r = true
      · rw [tick_relev R g l _ ob k, Prod.mk.injEq] at e
        obtain ⟨rfl, rfl⟩ := e
        dsimp only
        exact ⟨by omega, by omega, fun k => absurd k (by decide), fun k => absurd k g, fun k => (by cases k), fun k => (by cases k), rfl⟩
      · rw [tick_on R g l _ ob k, Prod.mk.injEq] at e
        obtain ⟨rfl, rfl⟩ := e
        dsimp only
        exact ⟨by omega, by omega, fun k => absurd k (by decide), fun k => absurd k g, fun k => (by cases k), fun k => (by cases k), rfl⟩
end Go.Proofs.YtdmomnhacijmpaaGreatDoor

namespace Go.Proofs.YtdmomnhacijmpaaGreatDoor

/-- A car and its stops, behind k ticks. -/
def goC (h : Ho) (c : Ca) (s : Sp) : Nat → Ca × Sp
  | 0 => (c, s)
  | k + 1 => (((goC h c s k).1.tick h (goC h c s k).2 false).1, (goC h c s k).2.less ((goC h c s k).1.tick h (goC h c s k).2 false).2.st)
/-- Does it open there so? -/
def opD (d : Dn) (q e : Int) : Bool := d.op && decide (d.fl = q) && decide (d.la = e)
theorem opD_iff (d : Dn) (q e : Int) : opD d q e = true ↔ d.op = true ∧ d.fl = q ∧ d.la = e := by
  unfold opD
  simp only [Bool.and_eq_true, decide_eq_true_eq, and_assoc]
def hitC (h : Ho) (c : Ca) (s : Sp) (q e : Int) (k : Nat) : Bool := opD ((goC h c s k).1.tick h (goC h c s k).2 false).2 q e
/-- The first tick that opens there so is the one behind n others. -/
structure EtaIs (h : Ho) (c : Ca) (s : Sp) (q e : Int) (n : Nat) : Prop where
  hit : hitC h c s q e n = true
  no : ∀ k, k < n → hitC h c s q e k = false
theorem EtaIs.one {h : Ho} {c : Ca} {s : Sp} {q e : Int} {n m : Nat} (a : EtaIs h c s q e n) (b : EtaIs h c s q e m) : n = m := by
  rcases Nat.lt_trichotomy n m with g | g | g
  · have := b.no n g; rw [a.hit] at this; cases this
  · exact g
  · have := a.no m g; rw [b.hit] at this; cases this
theorem goC_add (h : Ho) (c : Ca) (s : Sp) (j : Nat) : ∀ k, goC h c s (j + k) = goC h (goC h c s j).1 (goC h c s j).2 k
  | 0 => rfl
  | k + 1 => by
    show goC h c s ((j + k) + 1) = _
    simp only [goC]
    rw [goC_add h c s j k]
theorem hitC_add (h : Ho) (c : Ca) (s : Sp) (q e : Int) (j k : Nat) : hitC h c s q e (j + k) = hitC h (goC h c s j).1 (goC h c s j).2 q e k := by
  unfold hitC
  rw [goC_add]
theorem EtaIs.shift {h : Ho} {c : Ca} {s : Sp} {q e : Int} {n : Nat} (j : Nat) (no : ∀ k, k < j → hitC h c s q e k = false) (H : EtaIs h (goC h c s j).1 (goC h c s j).2 q e n) : EtaIs h c s q e (j + n) := by
  refine ⟨by rw [hitC_add]; exact H.hit, fun k hk => ?_⟩
  by_cases g : k < j
  · exact no k g
  · rw [show k = j + (k - j) by omega, hitC_add]
    exact H.no _ (by omega)
/-- One tick ahead of the others. -/
theorem EtaIs.next {h : Ho} {c : Ca} {s : Sp} {q e : Int} {n : Nat} {x : Ca} {d : Dn} (t : c.tick h s false = (x, d)) (no : opD d q e = false) (H : EtaIs h x (s.less d.st) q e n) : EtaIs h c s q e (n + 1) := by
  rw [Nat.add_comm]
  refine EtaIs.shift 1 (fun k hk => ?_) ?_
  · obtain rfl : k = 0 := by omega
    show opD (c.tick h s false).2 q e = false
    rw [t]; exact no
  · show EtaIs h (c.tick h s false).1 (s.less (c.tick h s false).2.st) q e n
    rw [t]; exact H
theorem EtaIs.now {h : Ho} {c : Ca} {s : Sp} {q e : Int} {x : Ca} {d : Dn} (t : c.tick h s false = (x, d)) (y : opD d q e = true) : EtaIs h c s q e 0 := by
  refine ⟨?_, fun k hk => by omega⟩
  show opD (c.tick h s false).2 q e = true
  rw [t]; exact y

theorem hasB_less {n d : Nat} (hn : n < 18446744073709551616) (hd : d < 18446744073709551616) (z : Int) : hasB (n &&& (18446744073709551615 - d)) z = (hasB n z && !hasB d z) := by
  have hl : n &&& (18446744073709551615 - d) < 18446744073709551616 := Nat.lt_of_le_of_lt Nat.and_le_left hn
  by_cases hz : z < 0
  · rw [hasB_neg hz, hasB_neg hz]; rfl
  · by_cases hb : 64 ≤ z
    · rw [hasB_big hl hb, hasB_big hn hb]; rfl
    · obtain ⟨i, rfl⟩ : ∃ i : Nat, z = (i : Int) := ⟨z.toNat, by omega⟩
      rw [hasB_nat, hasB_nat, hasB_nat, Nat.testBit_and, show 18446744073709551615 - d = 2 ^ 64 - (d + 1) by rw [show (2 : Nat) ^ 64 = 18446744073709551616 from rfl]; omega,
        Nat.testBit_two_pow_sub_succ (show d < 2 ^ 64 by simpa using hd), decide_eq_true (by omega), Bool.true_and]
theorem less_ok {s : Sp} (ok : s.ok) (d : Sp) : (s.less d).ok := ⟨Nat.lt_of_le_of_lt Nat.and_le_left ok.c, Nat.lt_of_le_of_lt Nat.and_le_left ok.u, Nat.lt_of_le_of_lt Nat.and_le_left ok.d⟩
theorem hall_less {s d : Sp} (ok : s.ok) (dk : d.ok) (q e : Int) : (s.less d).hall q e = (s.hall q e && !d.hall q e) := by
  unfold Sp.hall Sp.less
  dsimp only
  split
  · exact hasB_less ok.u dk.u q
  · split
    · exact hasB_less ok.d dk.d q
    · rfl
theorem done_ok (s t : Sp) (q e : Int) : (doneS s t q e).ok := by
  refine ⟨?_, ?_, ?_⟩ <;> (unfold doneS; dsimp only; split; exact oneN_lt q; decide)
theorem tick_st_fine (h : Ho) (c : Ca) {s : Sp} (ok : s.ok) (ob : Bool) : (c.tick h s ob).2.st.ok := by
  rcases tick_opens h c ok ob with ⟨_, H⟩ | ⟨_, e, _⟩
  · rw [H.st]; exact done_ok _ _ _ _
  · rw [e]; exact ⟨by decide, by decide, by decide⟩
theorem goC_ok {h : Ho} {c : Ca} {s : Sp} (ok : s.ok) : ∀ k, (goC h c s k).2.ok
  | 0 => ok
  | k + 1 => less_ok (goC_ok ok k) _
theorem goC_right {h : Ho} {c : Ca} {s : Sp} (R : RightIs h c) (ok : s.ok) : ∀ k, RightIs h (goC h c s k).1
  | 0 => R
  | k + 1 => (goC_right R ok k).tick (goC_ok ok k) false
/-- What is out of the house counts for nothing. -/
theorem fit_eq_less {h : Ho} (k : h.ok) {t u d : Sp} (tk : t.ok) (uk : u.ok) (dk : d.ok) (F : h.fit t = h.fit u) : h.fit (t.less d) = h.fit (u.less d) := by
  refine sp_ext (fun z => ?_) (fun z => ?_) (fun z => ?_)
  · have e := congrArg (fun x : Sp => hasB x.c z) F
    rw [fit_car k, fit_car k] at e
    rw [fit_car k, fit_car k]
    unfold Sp.less
    dsimp only
    rw [hasB_less tk.c dk.c, hasB_less uk.c dk.c, Bool.and_right_comm, e, Bool.and_right_comm]
  · have e := congrArg (fun x : Sp => hasB x.u z) F
    rw [fit_up k, fit_up k] at e
    rw [fit_up k, fit_up k]
    unfold Sp.less
    dsimp only
    rw [hasB_less tk.u dk.u, hasB_less uk.u dk.u, Bool.and_right_comm, e, Bool.and_right_comm]
  · have e := congrArg (fun x : Sp => hasB x.d z) F
    rw [fit_dn k tk, fit_dn k uk] at e
    rw [fit_dn k (less_ok tk d), fit_dn k (less_ok uk d)]
    unfold Sp.less
    dsimp only
    rw [hasB_less tk.d dk.d, hasB_less uk.d dk.d, Bool.and_right_comm, e, Bool.and_right_comm]
theorem tick_fit {h : Ho} {c : Ca} (k : h.ok) {t u : Sp} (F : h.fit t = h.fit u) (ob : Bool) : c.tick h t ob = c.tick h u ob :=
  tick_same F (fun z _ z1 => by
    have e := congrArg (fun x : Sp => hasB x.c z) F
    rw [fit_car k, fit_car k, decide_eq_true z1, Bool.and_true, Bool.and_true] at e
    exact e) ob
theorem goC_same {h : Ho} {c : Ca} (hk : h.ok) {t u : Sp} (tk : t.ok) (uk : u.ok) (F : h.fit t = h.fit u) : ∀ k, (goC h c t k).1 = (goC h c u k).1 ∧ h.fit (goC h c t k).2 = h.fit (goC h c u k).2
  | 0 => ⟨rfl, F⟩
  | k + 1 => by
    obtain ⟨a, b⟩ := goC_same hk tk uk F k
    have T : (goC h c t k).1.tick h (goC h c t k).2 false = (goC h c u k).1.tick h (goC h c u k).2 false := by rw [a]; exact tick_fit hk b false
    simp only [goC]
    rw [T]
    exact ⟨rfl, fit_eq_less hk (goC_ok tk k) (goC_ok uk k) (tick_st_fine h _ (goC_ok uk k) false) b⟩
theorem hitC_same {h : Ho} {c : Ca} (hk : h.ok) {t u : Sp} (tk : t.ok) (uk : u.ok) (F : h.fit t = h.fit u) (q e : Int) (k : Nat) : hitC h c t q e k = hitC h c u q e k := by
  obtain ⟨a, b⟩ := goC_same (c := c) hk tk uk F k
  unfold hitC
  rw [a, tick_fit hk b false]
theorem EtaIs.same {h : Ho} {c : Ca} (hk : h.ok) {t u : Sp} (tk : t.ok) (uk : u.ok) (F : h.fit t = h.fit u) {q e : Int} {n : Nat} (H : EtaIs h c t q e n) : EtaIs h c u q e n :=
  ⟨by rw [← hitC_same hk tk uk F]; exact H.hit, fun k g => by rw [← hitC_same hk tk uk F]; exact H.no k g⟩

theorem least_nat (p : Nat → Bool) : ∀ K : Nat, (∃ k, k < K ∧ p k = true) → ∃ n, n < K ∧ p n = true ∧ ∀ k, k < n → p k = false
  | 0, h => by obtain ⟨k, hk, _⟩ := h; omega
  | K + 1, h => by
    by_cases g : ∃ k, k < K ∧ p k = true
    · obtain ⟨n, a, b⟩ := least_nat p K g
      exact ⟨n, by omega, b⟩
    · obtain ⟨k, hk, hp⟩ := h
      refine ⟨k, hk, hp, fun j hj => Bool.eq_false_iff.2 fun q => g ⟨j, by omega, q⟩⟩
theorem countP_below (m : Nat) : ∀ k : Nat, (List.range k).countP (fun i : Nat => decide (i < m)) ≤ m
  | 0 => by simp
  | k + 1 => by
    have a := countP_below m k
    have b : (List.range k).countP (fun i : Nat => decide (i < m)) ≤ k := by
      have := List.countP_le_length (p := fun i : Nat => decide (i < m)) (l := List.range k)
      simpa using this
    rw [List.range_succ, List.countP_append, List.countP_singleton]
    by_cases g : k < m
    · rw [if_pos (by simpa using g)]; omega
    · rw [if_neg (by simpa using g)]; omega
theorem cnt_below {n : Nat} {f : Int} (f0 : 0 ≤ f) (h : ∀ z, hasB n z = true → z < f) : (cntN n : Int) ≤ f := by
  have a : cntN n ≤ (List.range 64).countP (fun i : Nat => decide (i < f.toNat)) := List.countP_mono_left fun i _ hi => by
    rw [← hasB_nat] at hi
    have := h _ hi
    exact decide_eq_true (by omega)
  have b := countP_below f.toNat 64
  omega
theorem fit_cnt {h : Ho} (k : h.ok) {s : Sp} (ok : s.ok) : ((h.fit s).cnt : Int) ≤ 3 * h.f := by
  have f0 : 0 ≤ h.f := by have := k.2.1.1; omega
  have a := cnt_below f0 (n := (h.fit s).c) (fun z q => by rw [fit_car k, Bool.and_eq_true, decide_eq_true_iff] at q; exact q.2)
  have b := cnt_below f0 (n := (h.fit s).u) (fun z q => by rw [fit_up k, Bool.and_eq_true, decide_eq_true_iff] at q; omega)
  have c := cnt_below f0 (n := (h.fit s).d) (fun z q => by rw [fit_dn k ok, Bool.and_eq_true, decide_eq_true_iff] at q; exact q.2.2)
  unfold Sp.cnt
  omega
theorem put_hall_self {s : Sp} {q e : Int} (q0 : 0 ≤ q) (q1 : q < 64) (he : e = 1 ∨ e = -1) : (s.put q e).hall q e = true := by
  have o : hasB (oneN q) q = true := by rw [hasB_one]; exact decide_eq_true (by omega)
  rcases he with rfl | rfl
  · show hasB (s.put q 1).u q = true
    unfold Sp.put
    rw [if_pos rfl]
    dsimp only
    rw [hasB_or, o, Bool.or_true]
  · show hasB (s.put q (-1)).d q = true
    unfold Sp.put
    rw [if_neg (by decide), if_pos rfl]
    dsimp only
    rw [hasB_or, o, Bool.or_true]
/-- What was not opened for is still there. -/
theorem tick_keeps {h : Ho} {c : Ca} {s : Sp} (ok : s.ok) {q e : Int} (H : s.hall q e = true) (no : opD (c.tick h s false).2 q e = false) : (s.less (c.tick h s false).2.st).hall q e = true := by
  rw [hall_less ok (tick_st_fine h c ok false), H, Bool.true_and]
  rcases tick_opens h c ok false with ⟨o, S⟩ | ⟨_, z, _⟩
  · cases g : (c.tick h s false).2.st.hall q e with
    | false => rfl
    | true =>
      refine absurd ((opD_iff _ q e).2 ?_) (by rw [no]; simp)
      have hd := hall_dir g
      rw [S.st] at g
      refine ⟨o, ?_⟩
      rcases hd with rfl | rfl
      · have g' : hasB (doneS s (h.fit s) (c.tick h s false).2.fl (c.tick h s false).2.la).u q = true := g
        unfold doneS at g'
        dsimp only at g'
        split at g'
        · rename_i w
          rw [hasB_one, decide_eq_true_iff] at g'
          exact ⟨g'.1.symm, w.2⟩
        · rw [hasB_zero] at g'; cases g'
      · have g' : hasB (doneS s (h.fit s) (c.tick h s false).2.fl (c.tick h s false).2.la).d q = true := g
        unfold doneS at g'
        dsimp only at g'
        split at g'
        · rename_i w
          rw [hasB_one, decide_eq_true_iff] at g'
          exact ⟨g'.1.symm, w.2⟩
        · rw [hasB_zero] at g'; cases g'
  · rw [z]
    unfold Sp.hall
    split
    · rw [show zSp.u = 0 from rfl, hasB_zero]; rfl
    · split
      · rw [show zSp.d = 0 from rfl, hasB_zero]; rfl
      · rfl
/-- It comes, within the bound. -/
theorem eta_some {h : Ho} {c : Ca} (R : RightIs h c) {s : Sp} (ok : s.ok) {q e : Int} (m : mayC h.f q e) :
    ∃ n : Nat, EtaIs h c (s.put q e) q e n ∧ (n : Int) + 1 ≤ 3 * h.f * (h.s + h.d + 2) + 2 * h.d + h.s ∧ n < 4000 := by
  have hk := R.ok
  have pk := Sp.put_ok ok q e
  have hf := hk.2.1
  have hs := hk.2.2.1
  have hd := hk.2.2.2
  have m' := m
  unfold mayC at m'
  obtain ⟨t, ht⟩ : ∃ t, t = h.fit (s.put q e) := ⟨_, rfl⟩
  have tk : t.ok := by rw [ht]; exact fit_ok h pk
  have F : h.fit t = t := by rw [ht]; exact fit_fit hk pk
  have F2 : h.fit t = h.fit (s.put q e) := by rw [F, ht]
  have H0 : t.hall q e = true := by
    rw [ht, fit_hall hk pk, put_hall_self (by omega) (by omega) (by omega), decide_eq_true m]; rfl
  have c1 : (t.cnt : Int) ≤ 3 * h.f := by rw [ht]; exact fit_cnt hk pk
  have w0 := wrk_nn hk t
  have t0 := (Ho.range hk).1
  have o0 := R.o0
  have o1 := R.o1
  obtain ⟨M, hM⟩ : ∃ M, M = wrk h t + c.x.o + 3 * h.top + (h.s - 1) := ⟨_, rfl⟩
  have RF : Run h t c M := by rw [hM]; exact Run.first R tk F
  have ex : ∃ k, k < M.toNat ∧ hitC h c t q e k = true := by
    refine Decidable.by_contra fun no => ?_
    have no' : ∀ k, k < M.toNat → hitC h c t q e k = false := fun k hk => Bool.eq_false_iff.2 fun y => no ⟨k, hk, y⟩
    have A : ∀ k : Nat, k ≤ M.toNat → Run h (goC h c t k).2 (goC h c t k).1 (M - k) ∧ (goC h c t k).2.hall q e = true := by
      intro k
      induction k with
      | zero => intro _; exact ⟨by show Run h t c (M - ((0 : Nat) : Int)); rw [show M - ((0 : Nat) : Int) = M by omega]; exact RF, H0⟩
      | succ k ih =>
        intro g
        obtain ⟨a, b⟩ := ih (by omega)
        refine ⟨?_, tick_keeps (goC_ok tk k) b (no' k (by omega))⟩
        have := a.tick
        exact this.mono (by omega)
    obtain ⟨a, b⟩ := A M.toNat (Nat.le_refl _)
    have a' := a.mono (show M - (M.toNat : Int) ≤ 0 by omega)
    have z := a'.rests.2.2
    have := hall_all b
    rw [z, hasB_zero] at this
    cases this
  obtain ⟨n, n1, n2, n3⟩ := least_nat _ _ ex
  refine ⟨n, EtaIs.same hk tk pk F2 ⟨n2, n3⟩, ?_⟩
  have w1 : wrk h t ≤ h.d * (3 * h.f) + 3 * h.f := by
    have := Int.mul_le_mul_of_nonneg_left c1 (show 0 ≤ h.d by omega)
    unfold wrk
    omega
  have e1 : h.d * (3 * h.f) = 3 * (h.f * h.d) := by rw [Int.mul_left_comm, Int.mul_comm h.d h.f]
  have e2 : 3 * h.f * (h.s + h.d + 2) = 3 * (h.f * h.s) + 3 * (h.f * h.d) + 6 * h.f := by
    rw [Int.mul_add, Int.mul_add, Int.mul_assoc, Int.mul_assoc]; omega
  have e3 : h.top = h.f * h.s - h.s := by unfold Ho.top; rw [Int.sub_mul, Int.one_mul]
  have b1 : h.f * h.s ≤ 64 * 8 := Int.mul_le_mul hf.2 hs.2 (by omega) (by omega)
  have b2 : h.f * h.d ≤ 64 * 8 := Int.mul_le_mul hf.2 hd.2 (by omega) (by omega)
  refine ⟨by omega, by omega⟩

/-- A car that stands with its door open. -/
theorem open_eta {h : Ho} {p d : Int} (R : RightIs h ⟨⟨p, d, 0, false⟩, 0⟩) (l : h.lev p) {s : Sp} (ok : s.ok) {q e : Int} {n : Nat} (H : EtaIs h ⟨⟨p, d, 0, false⟩, 0⟩ s q e n) :
    ∀ o : Nat, (o : Int) ≤ h.d → EtaIs h ⟨⟨p, d, (o : Int), false⟩, 0⟩ s q e (n + o)
  | 0, _ => H
  | o + 1, ho => by
    have ih := open_eta R l ok H o (by omega)
    have R' : RightIs h ⟨⟨p, d, ((o + 1 : Nat) : Int), false⟩, 0⟩ := ⟨R.ok, R.p0, R.p1, R.e0, R.e1, by dsimp only; omega, ho, fun _ => ⟨l, rfl⟩, .inl l, .inl rfl⟩
    have g : 0 < (Ca.mk ⟨p, d, ((o + 1 : Nat) : Int), false⟩ 0).x.o := by dsimp only; omega
    have T := tick_open R' g s false
    dsimp only at T g
    have e1 : heldK ((o + 1 : Nat) : Int) 0 false = 0 := by
      unfold heldK
      split
      · rfl
      · split
        · rfl
        · rw [if_neg (by simp)]
    rw [tickL_less g, e1, show ((o + 1 : Nat) : Int) - 1 = o by omega] at T
    refine EtaIs.next T rfl ?_
    show EtaIs h _ (s.less zSp) q e (n + o)
    rw [less_none ok]
    exact ih
/-- A car that finds its level first. -/
theorem level_eta {h : Ho} (hk : h.ok) {s : Sp} (ok : s.ok) {q e : Int} {n : Nat} :
    ∀ (m : Nat) (p d : Int), 0 ≤ p → p ≤ h.top → p % h.s = m → (d = 0 ∨ d = -1) → EtaIs h ⟨⟨p - m, 0, 0, false⟩, 0⟩ s q e n → EtaIs h ⟨⟨p, if m = 0 then 0 else d, 0, decide (0 < m)⟩, 0⟩ s q e (n + m)
  | 0, p, d, _, _, _, _, H => by
    rw [show p - ((0 : Nat) : Int) = p by omega] at H
    exact H
  | m + 1, p, d, p0, p1, pm, hd, H => by
    have hs := hk.2.2.1
    have b := Int.emod_lt_of_pos p (show 0 < h.s by omega)
    have c := Int.mul_ediv_add_emod p h.s
    have hq : 0 ≤ h.s * (p / h.s) := Int.mul_nonneg (by omega) (Int.ediv_nonneg p0 (by omega))
    have m2 : (p - 1) % h.s = m := by
      have e2 : p - 1 = (p % h.s - 1) + h.s * (p / h.s) := by omega
      rw [e2, Int.add_mul_emod_self_left, pm, show ((m + 1 : Nat) : Int) - 1 = m by omega]
      exact Int.emod_eq_of_lt (by omega) (by omega)
    have ih := level_eta hk ok m (p - 1) (-1) (by omega) (by omega) m2 (.inr rfl) (by rw [show p - 1 - (m : Int) = p - ((m + 1 : Nat) : Int) by omega]; exact H)
    rw [if_neg (by omega), decide_eq_true (by omega : 0 < m + 1)]
    have nl : ¬ h.lev p := fun l => by have := l.2; omega
    have g : ¬ 0 < (Ca.mk ⟨p, d, 0, true⟩ 0).x.o := show ¬ (0 : Int) < 0 by decide
    have R : RightIs h ⟨⟨p, d, 0, true⟩, 0⟩ := ⟨hk, p0, p1, by dsimp only; omega, by dsimp only; omega, Int.le_refl 0, show (0 : Int) ≤ h.d by have := hk.2.2.2.1; omega, fun q => absurd q g, .inr (.inr rfl), .inl rfl⟩
    have w : (Ca.mk ⟨p, d, 0, true⟩ 0).way = -1 := if_pos rfl
    have e1 : (Ca.mk ⟨p, d, 0, true⟩ 0).x.p + (Ca.mk ⟨p, d, 0, true⟩ 0).way = p - 1 := by rw [w]; show p + -1 = _; omega
    by_cases z : m = 0
    · have lv : h.lev (p - 1) := ⟨⟨hk, by omega, by omega⟩, by omega⟩
      have T := tick_relev R g nl s false (by rw [e1]; exact ⟨lv, rfl⟩)
      rw [e1] at T
      refine EtaIs.next T rfl ?_
      show EtaIs h _ (s.less zSp) q e (n + m)
      rw [less_none ok]
      rw [if_pos z, decide_eq_false (by omega)] at ih
      exact ih
    · have lv : ¬ h.lev (p - 1) := fun l => by have := l.2; omega
      have T := tick_on R g nl s false (by rw [e1]; exact fun q => lv q.1)
      rw [e1, w] at T
      refine EtaIs.next T rfl ?_
      show EtaIs h _ (s.less zSp) q e (n + m)
      rw [less_none ok]
      rw [if_neg z, decide_eq_true (by omega)] at ih
      exact ih
theorem fit_oneS {h : Ho} (hk : h.ok) {q e : Int} (m : mayC h.f q e) : h.fit (oneS q e) = oneS q e := by
  have hf := hk.2.1
  have m' := m
  unfold mayC at m'
  have he : e = 1 ∨ e = -1 := by omega
  have ok := oneS_ok q e
  refine sp_ext (fun z => ?_) (fun z => ?_) (fun z => ?_)
  · rw [fit_car hk, one_car]; rfl
  · have a := fit_hall hk ok z 1
    have b := one_hall (show 0 ≤ q by omega) (by omega) he z 1
    rw [b] at a
    show (h.fit (oneS q e)).hall z 1 = (oneS q e).hall z 1
    rw [a, b]
    by_cases g : z = q ∧ 1 = e
    · rw [decide_eq_true g, g.1, g.2, decide_eq_true m]; rfl
    · rw [decide_eq_false g]; rfl
  · have a := fit_hall hk ok z (-1)
    have b := one_hall (show 0 ≤ q by omega) (by omega) he z (-1)
    rw [b] at a
    show (h.fit (oneS q e)).hall z (-1) = (oneS q e).hall z (-1)
    rw [a, b]
    by_cases g : z = q ∧ -1 = e
    · rw [decide_eq_true g, g.1, g.2, decide_eq_true m]; rfl
    · rw [decide_eq_false g]; rfl
/-- One call alone: a car takes as long as it has to go. -/
theorem near_eta {h : Ho} (hk : h.ok) {q e : Int} (m : mayC h.f q e) :
    ∀ (n : Nat) (p d : Int), 0 ≤ p → p ≤ h.top → ((p = q * h.s + n ∧ d ≤ 0) ∨ (p = q * h.s - n ∧ 0 ≤ d)) → -1 ≤ d → d ≤ 1 → (h.lev p ∨ d ≠ 0) → EtaIs h ⟨⟨p, d, 0, false⟩, 0⟩ (oneS q e) q e n := by
  have hf := hk.2.1
  have hs := hk.2.2.1
  have m' := m
  unfold mayC at m'
  have he : e = 1 ∨ e = -1 := by omega
  have ok := oneS_ok q e
  have F := fit_oneS hk m
  have qq : 0 ≤ q * h.s ∧ q * h.s ≤ h.top := by
    refine ⟨Int.mul_nonneg (by omega) (by omega), ?_⟩
    unfold Ho.top
    exact Int.mul_le_mul_of_nonneg_right (by omega) (by omega)
  have lq : h.lev (q * h.s) := ⟨⟨hk, qq.1, qq.2⟩, Int.mul_emod_left _ _⟩
  have fq : h.flr (q * h.s) = q := flr_is hk qq.1 qq.2 (Int.le_refl _) (by omega)
  have RR : ∀ p d : Int, 0 ≤ p → p ≤ h.top → -1 ≤ d → d ≤ 1 → (h.lev p ∨ d ≠ 0) → RightIs h ⟨⟨p, d, 0, false⟩, 0⟩ := fun p d p0 p1 d0 d1 lv =>
    ⟨hk, p0, p1, d0, d1, Int.le_refl 0, show (0 : Int) ≤ h.d by have := hk.2.2.2.1; omega, fun q => absurd q (show ¬ (0 : Int) < 0 by decide), lv.imp id .inl, .inl rfl⟩
  have g0 : ∀ p d : Int, ¬ 0 < (Ca.mk ⟨p, d, 0, false⟩ 0).x.o := fun _ _ => show ¬ (0 : Int) < 0 by decide
  intro n
  induction n with
  | zero =>
    intro p d p0 p1 hp d0 d1 lv
    obtain rfl : p = q * h.s := by omega
    have D := one_deed (show 0 ≤ q by omega) (show q < 64 by omega) he (show 0 ≤ q by omega) (show q < 64 by omega) (small_dir d0 d1)
    rw [deed_in (by omega), if_pos rfl] at D
    simp only [De.mk.injEq] at D
    have T := tick_stop (RR _ d p0 p1 d0 d1 lv) (g0 _ d) lq (s := oneS q e) false (by rw [F, fq]; exact D.1)
    refine EtaIs.now T ((opD_iff _ q e).2 ⟨rfl, fq, ?_⟩)
    show (h.fit (oneS q e)).head (h.flr (q * h.s)) d = e
    rw [F, fq]; exact D.2.1
  | succ n ih =>
    intro p d p0 p1 hp d0 d1 lv
    have R := RR p d p0 p1 d0 d1 lv
    by_cases l : h.lev p
    · obtain ⟨a0, a1, _, _, L⟩ := flr_facts hk p0 p1
      have lp := L.1 l
      have D := one_deed (show 0 ≤ q by omega) (show q < 64 by omega) he a0 (show h.flr p < 64 by omega) (small_dir d0 d1)
      rw [deed_in (by omega)] at D
      have fne : h.flr p ≠ q := fun k => by rw [k] at lp; omega
      rw [if_neg fne] at D
      rcases hp with ⟨hp, hd⟩ | ⟨hp, hd⟩
      · have lt : q < h.flr p := by
          refine Int.not_le.1 fun k => ?_
          have := Int.mul_le_mul_of_nonneg_right k (show 0 ≤ h.s by omega)
          omega
        rw [if_pos lt] at D
        simp only [De.mk.injEq] at D
        have T := tick_go R (g0 p d) l (s := oneS q e) false (by rw [F]; exact D.1)
        dsimp only at T
        rw [F, D.2.1] at T
        refine EtaIs.next T rfl ?_
        show EtaIs h _ ((oneS q e).less zSp) q e n
        rw [less_none ok]
        exact ih (p + -1) (-1) (by omega) (by omega) (.inl ⟨by omega, by decide⟩) (by decide) (by decide) (.inr (by decide))
      · have lt : ¬ q < h.flr p := by
          intro k
          have := Int.mul_le_mul_of_nonneg_right (show q ≤ h.flr p by omega) (show 0 ≤ h.s by omega)
          omega
        rw [if_neg lt] at D
        simp only [De.mk.injEq] at D
        have T := tick_go R (g0 p d) l (s := oneS q e) false (by rw [F]; exact D.1)
        dsimp only at T
        rw [F, D.2.1] at T
        refine EtaIs.next T rfl ?_
        show EtaIs h _ ((oneS q e).less zSp) q e n
        rw [less_none ok]
        exact ih (p + 1) 1 (by omega) (by omega) (.inr ⟨by omega, by decide⟩) (by decide) (by decide) (.inr (by decide))
    · have dn := lv.resolve_left l
      have w : (Ca.mk ⟨p, d, 0, false⟩ 0).way = d := if_neg (by simp)
      have T := tick_on R (g0 p d) l (oneS q e) false (fun k => by cases k.2)
      dsimp only at T
      rw [w] at T
      refine EtaIs.next T rfl ?_
      show EtaIs h _ ((oneS q e).less zSp) q e n
      rw [less_none ok]
      rcases hp with ⟨hp, hd⟩ | ⟨hp, hd⟩
      · obtain rfl : d = -1 := by omega
        exact ih (p + -1) (-1) (by omega) (by omega) (.inl ⟨by omega, by decide⟩) (by decide) (by decide) (.inr (by decide))
      · obtain rfl : d = 1 := by omega
        exact ih (p + 1) 1 (by omega) (by omega) (.inr ⟨by omega, by decide⟩) (by decide) (by decide) (.inr (by decide))
end Go.Proofs.YtdmomnhacijmpaaGreatDoor
