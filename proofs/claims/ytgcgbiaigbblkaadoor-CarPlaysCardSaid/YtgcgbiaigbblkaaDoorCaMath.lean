/- A car's tick, plainly: what counts of the stops, whether a car may be, what a tick makes of it. -/
import Derived.Test.YtgcgbiaigbblkaaDoorPMath
import Derived.Test.YtgcgbiaigbblkaaDoorPlant3
import Derived.Test.YtgcgbiaigbblkaaDoorDoor2
import Derived.Test.YtgcgbiaigbblkaaDoorCaHeld
import Derived.Test.YtgcgbiaigbblkaaDoorPlSweep
namespace Go.Proofs.YtgcgbiaigbblkaaDoor

/-- The bits below k. -/
def lowN (n : Nat) (k : Int) : Nat := n % 2 ^ k.toNat
theorem lowN_lt {n : Nat} (h : n < 18446744073709551616) (k : Int) : lowN n k < 18446744073709551616 := Nat.lt_of_le_of_lt (Nat.mod_le _ _) h
theorem hasB_low (n : Nat) {k : Int} (hk : 0 ≤ k) (z : Int) : hasB (lowN n k) z = (hasB n z && decide (z < k)) := by
  by_cases hz : z < 0
  · rw [hasB_neg hz, hasB_neg hz]; rfl
  · obtain ⟨i, rfl⟩ : ∃ i : Nat, z = (i : Int) := ⟨z.toNat, by omega⟩
    rw [hasB_nat, hasB_nat, lowN, Nat.testBit_mod_two_pow, Bool.and_comm]
    congr 1
    exact decide_eq_decide.2 (by omega)
/-- What counts of the stops. -/
def Ho.fit (h : Ho) (s : Sp) : Sp := ⟨lowN s.c h.f, lowN s.u (h.f - 1), clrN (lowN s.d h.f) 0⟩
theorem fit_ok (h : Ho) {s : Sp} (k : s.ok) : (h.fit s).ok := ⟨lowN_lt k.c _, lowN_lt k.u _, clrN_lt (lowN_lt k.d _) 0⟩
theorem fit_car {h : Ho} (k : h.ok) (s : Sp) (z : Int) : hasB (h.fit s).c z = (hasB s.c z && decide (z < h.f)) := hasB_low _ (by have := k.2.1.1; omega) z
theorem fit_up {h : Ho} (k : h.ok) (s : Sp) (z : Int) : hasB (h.fit s).u z = (hasB s.u z && decide (z < h.f - 1)) := hasB_low _ (by have := k.2.1.1; omega) z
theorem fit_dn {h : Ho} (k : h.ok) {s : Sp} (ok : s.ok) (z : Int) : hasB (h.fit s).d z = (hasB s.d z && decide (z ≠ 0 ∧ z < h.f)) := by
  show hasB (clrN (lowN s.d h.f) 0) z = _
  rw [hasB_clr (lowN_lt ok.d _) (by omega) (by omega), hasB_low _ (by have := k.2.1.1; omega), Bool.and_assoc, Bool.decide_and, Bool.and_comm (decide (z < h.f)), decide_not]
/-- May it be? -/
def mayC (f z e : Int) : Prop := 0 ≤ z ∧ z < f ∧ ((e = 1 ∧ z < f - 1) ∨ (e = -1 ∧ 0 < z))
instance (f z e : Int) : Decidable (mayC f z e) := by unfold mayC; infer_instance
theorem fit_hall {h : Ho} (k : h.ok) {s : Sp} (ok : s.ok) (z e : Int) : (h.fit s).hall z e = (s.hall z e && decide (mayC h.f z e)) := by
  unfold Sp.hall
  by_cases h1 : e = 1
  · rw [if_pos h1, if_pos h1, fit_up k]
    cases q : hasB s.u z with
    | false => rfl
    | true =>
      have := hasB_range ok.u q
      congr 1
      exact decide_eq_decide.2 (by unfold mayC; omega)
  · rw [if_neg h1, if_neg h1]
    by_cases h2 : e = -1
    · rw [if_pos h2, if_pos h2, fit_dn k ok]
      cases q : hasB s.d z with
      | false => rfl
      | true =>
        have := hasB_range ok.d q
        congr 1
        exact decide_eq_decide.2 (by unfold mayC; omega)
    · rw [if_neg h2, if_neg h2]; rfl
theorem fit_sub {h : Ho} (k : h.ok) {s : Sp} (ok : s.ok) : (h.fit s).sub s :=
  ⟨fun z q => by rw [fit_car k, Bool.and_eq_true] at q; exact q.1, fun z q => by rw [fit_up k, Bool.and_eq_true] at q; exact q.1, fun z q => by rw [fit_dn k ok, Bool.and_eq_true] at q; exact q.1⟩
theorem sp_ext {s t : Sp} (a : ∀ z, hasB s.c z = hasB t.c z) (b : ∀ z, hasB s.u z = hasB t.u z) (c : ∀ z, hasB s.d z = hasB t.d z) : s = t := by
  cases s; cases t
  simp only [Sp.mk.injEq]
  exact ⟨ext_hasB a, ext_hasB b, ext_hasB c⟩
/-- A part of what counts counts. -/
theorem fit_part {h : Ho} (k : h.ok) {s t : Sp} (ok : s.ok) (tk : t.ok) (S : t.sub s) (F : h.fit s = s) : h.fit t = t := by
  refine sp_ext (fun z => ?_) (fun z => ?_) (fun z => ?_)
  · rw [fit_car k]
    cases q : hasB t.c z with
    | false => rfl
    | true =>
      have := S.c z q
      rw [← F, fit_car k, Bool.and_eq_true] at this
      rw [this.2]; rfl
  · rw [fit_up k]
    cases q : hasB t.u z with
    | false => rfl
    | true =>
      have := S.u z q
      rw [← F, fit_up k, Bool.and_eq_true] at this
      rw [this.2]; rfl
  · rw [fit_dn k tk]
    cases q : hasB t.d z with
    | false => rfl
    | true =>
      have := S.d z q
      rw [← F, fit_dn k ok, Bool.and_eq_true] at this
      rw [this.2]; rfl
theorem fit_fit {h : Ho} (k : h.ok) {s : Sp} (ok : s.ok) : h.fit (h.fit s) = h.fit s := by
  refine sp_ext (fun z => ?_) (fun z => ?_) (fun z => ?_)
  · rw [fit_car k, fit_car k, Bool.and_assoc, Bool.and_self]
  · rw [fit_up k, fit_up k, Bool.and_assoc, Bool.and_self]
  · rw [fit_dn k (fit_ok h ok), fit_dn k ok, Bool.and_assoc, Bool.and_self]
theorem fit_in {h : Ho} (k : h.ok) {s : Sp} (ok : s.ok) {z : Int} (q : hasB (h.fit s).all z = true) : 0 ≤ z ∧ z < h.f := by
  refine ⟨(hasB_range (fit_ok h ok).all q).1, ?_⟩
  rw [all_parts, fit_car k, fit_hall k ok, fit_hall k ok] at q
  simp only [Bool.or_eq_true, Bool.and_eq_true, decide_eq_true_eq] at q
  unfold mayC at q
  omega

/-- A car. -/
structure Ca where
  x : St
  k : Int
/-- What a tick did. -/
structure Dn where
  op : Bool
  cl : Bool
  fl : Int
  la : Int
  mv : Int
  st : Sp
def zSp : Sp := ⟨0, 0, 0⟩
def zDn : Dn := ⟨false, false, 0, 0, 0, zSp⟩
/-- What it stopped for: of s, of what counts of it. -/
def doneS (s t : Sp) (q e : Int) : Sp := ⟨if hasB s.c q = true then oneN q else 0, if t.hall q e = true ∧ e = 1 then oneN q else 0, if t.hall q e = true ∧ e = -1 then oneN q else 0⟩
def Ca.right (h : Ho) (c : Ca) : Bool := h.may c.x && (decide (c.k = 0) || (decide (0 < c.k) && decide (c.x.o = 1)))
/-- Its way, between floors. -/
def Ca.way (c : Ca) : Int := if c.x.r = true then -1 else c.x.e
def Ca.tick (h : Ho) (c : Ca) (s : Sp) (ob : Bool) : Ca × Dn :=
  if c.right h = true then
    if 0 < c.x.o then (⟨⟨c.x.p, c.x.e, tickL c.x.o ob, c.x.r⟩, heldK c.x.o c.k ob⟩, ⟨false, tickB c.x.o ob, h.flr c.x.p, 0, 0, zSp⟩)
    else if h.lev c.x.p then
      if (h.fit s).stop (h.flr c.x.p) c.x.e = true then
        (⟨⟨c.x.p, (h.fit s).head (h.flr c.x.p) c.x.e, h.d, false⟩, 0⟩,
          ⟨true, false, h.flr c.x.p, (h.fit s).head (h.flr c.x.p) c.x.e, 0, doneS s (h.fit s) (h.flr c.x.p) ((h.fit s).head (h.flr c.x.p) c.x.e)⟩)
      else (⟨⟨c.x.p + (h.fit s).head (h.flr c.x.p) c.x.e, (h.fit s).head (h.flr c.x.p) c.x.e, 0, false⟩, 0⟩,
          ⟨false, false, h.flr (c.x.p + (h.fit s).head (h.flr c.x.p) c.x.e), 0, (h.fit s).head (h.flr c.x.p) c.x.e, zSp⟩)
    else if h.lev (c.x.p + c.way) ∧ c.x.r = true then (⟨⟨c.x.p + c.way, 0, 0, false⟩, 0⟩, ⟨false, false, h.flr (c.x.p + c.way), 0, c.way, zSp⟩)
    else (⟨⟨c.x.p + c.way, c.way, 0, c.x.r⟩, 0⟩, ⟨false, false, h.flr (c.x.p + c.way), 0, c.way, zSp⟩)
  else (c, zDn)

/-- What is right of a car. -/
structure RightIs (h : Ho) (c : Ca) : Prop where
  ok : h.ok
  p0 : 0 ≤ c.x.p
  p1 : c.x.p ≤ h.top
  e0 : -1 ≤ c.x.e
  e1 : c.x.e ≤ 1
  o0 : 0 ≤ c.x.o
  o1 : c.x.o ≤ h.d
  opn : 0 < c.x.o → h.lev c.x.p ∧ c.x.r = false
  btw : h.lev c.x.p ∨ c.x.e ≠ 0 ∨ c.x.r = true
  held : c.k = 0 ∨ (0 < c.k ∧ c.x.o = 1)
theorem right_iff (h : Ho) (c : Ca) : c.right h = true ↔ RightIs h c := by
  unfold Ca.right Ho.may
  simp only [Bool.and_eq_true, decide_eq_true_eq, Bool.or_eq_true]
  constructor
  · rintro ⟨⟨⟨ok, p0, p1⟩, ⟨e0, e1⟩, ⟨o0, o1⟩, m⟩, hk⟩
    refine ⟨ok, p0, p1, e0, e1, o0, o1, fun g => ?_, ?_, hk⟩
    · rw [if_pos g] at m
      simpa using m
    · by_cases g : 0 < c.x.o
      · rw [if_pos g] at m
        have m' : h.lev c.x.p ∧ c.x.r = false := by simpa using m
        exact .inl m'.1
      · rw [if_neg g] at m
        simpa using m
  · intro R
    refine ⟨⟨⟨R.ok, R.p0, R.p1⟩, ⟨R.e0, R.e1⟩, ⟨R.o0, R.o1⟩, ?_⟩, R.held⟩
    by_cases g : 0 < c.x.o
    · rw [if_pos g]
      have := R.opn g
      simp [this.1, this.2]
    · rw [if_neg g]
      simpa using R.btw
theorem mul_lt_lev {a b s : Int} (hs : 1 ≤ s) (h : a < b) : a * s + s ≤ b * s := by
  have := Int.mul_le_mul_of_nonneg_right (show a + 1 ≤ b by omega) (show 0 ≤ s by omega)
  rw [Int.add_mul, Int.one_mul] at this
  exact this
/-- The four ways of a tick. -/
theorem tick_open {h : Ho} {c : Ca} (R : RightIs h c) (g : 0 < c.x.o) (s : Sp) (ob : Bool) :
    c.tick h s ob = (⟨⟨c.x.p, c.x.e, tickL c.x.o ob, c.x.r⟩, heldK c.x.o c.k ob⟩, ⟨false, tickB c.x.o ob, h.flr c.x.p, 0, 0, zSp⟩) := by
  rw [Ca.tick, if_pos ((right_iff h c).2 R), if_pos g]
theorem tick_stop {h : Ho} {c : Ca} (R : RightIs h c) (g : ¬ 0 < c.x.o) (l : h.lev c.x.p) {s : Sp} (ob : Bool) (k : (h.fit s).stop (h.flr c.x.p) c.x.e = true) :
    c.tick h s ob = (⟨⟨c.x.p, (h.fit s).head (h.flr c.x.p) c.x.e, h.d, false⟩, 0⟩,
          ⟨true, false, h.flr c.x.p, (h.fit s).head (h.flr c.x.p) c.x.e, 0, doneS s (h.fit s) (h.flr c.x.p) ((h.fit s).head (h.flr c.x.p) c.x.e)⟩) := by
  rw [Ca.tick, if_pos ((right_iff h c).2 R), if_neg g, if_pos l, if_pos k]
theorem tick_go {h : Ho} {c : Ca} (R : RightIs h c) (g : ¬ 0 < c.x.o) (l : h.lev c.x.p) {s : Sp} (ob : Bool) (k : (h.fit s).stop (h.flr c.x.p) c.x.e = false) :
    c.tick h s ob = (⟨⟨c.x.p + (h.fit s).head (h.flr c.x.p) c.x.e, (h.fit s).head (h.flr c.x.p) c.x.e, 0, false⟩, 0⟩,
          ⟨false, false, h.flr (c.x.p + (h.fit s).head (h.flr c.x.p) c.x.e), 0, (h.fit s).head (h.flr c.x.p) c.x.e, zSp⟩) := by
  rw [Ca.tick, if_pos ((right_iff h c).2 R), if_neg g, if_pos l, if_neg (by rw [k]; simp)]
theorem tick_relev {h : Ho} {c : Ca} (R : RightIs h c) (g : ¬ 0 < c.x.o) (l : ¬ h.lev c.x.p) (s : Sp) (ob : Bool) (k : h.lev (c.x.p + c.way) ∧ c.x.r = true) :
    c.tick h s ob = (⟨⟨c.x.p + c.way, 0, 0, false⟩, 0⟩, ⟨false, false, h.flr (c.x.p + c.way), 0, c.way, zSp⟩) := by
  rw [Ca.tick, if_pos ((right_iff h c).2 R), if_neg g, if_neg l, if_pos k]
theorem tick_on {h : Ho} {c : Ca} (R : RightIs h c) (g : ¬ 0 < c.x.o) (l : ¬ h.lev c.x.p) (s : Sp) (ob : Bool) (k : ¬ (h.lev (c.x.p + c.way) ∧ c.x.r = true)) :
    c.tick h s ob = (⟨⟨c.x.p + c.way, c.way, 0, c.x.r⟩, 0⟩, ⟨false, false, h.flr (c.x.p + c.way), 0, c.way, zSp⟩) := by
  rw [Ca.tick, if_pos ((right_iff h c).2 R), if_neg g, if_neg l, if_neg k]
theorem tick_wrong {h : Ho} {c : Ca} (R : ¬ RightIs h c) (s : Sp) (ob : Bool) : c.tick h s ob = (c, zDn) := by
  rw [Ca.tick, if_neg (fun q => R ((right_iff h c).1 q))]
theorem way_is {h : Ho} {c : Ca} (R : RightIs h c) (l : ¬ h.lev c.x.p) : c.way = 1 ∨ c.way = -1 := by
  unfold Ca.way
  have := R.e0
  have := R.e1
  split
  · exact .inr rfl
  · rename_i g
    have := (R.btw.resolve_left l).resolve_right g
    omega
/-- Between floors it has room either way. -/
theorem btw_room {h : Ho} {c : Ca} (R : RightIs h c) (l : ¬ h.lev c.x.p) : 0 < c.x.p ∧ c.x.p < h.top := by
  have p0 := R.p0
  have p1 := R.p1
  refine ⟨?_, ?_⟩
  · refine Int.not_le.1 fun q => l ?_
    rw [show c.x.p = 0 by omega]
    exact lev_zero R.ok
  · refine Int.not_le.1 fun q => l ?_
    rw [show c.x.p = h.top by omega]
    exact lev_top R.ok
theorem door_more {o : Int} (g : 1 < o) {b : Bool} : tickL o b = o - 1 := by rw [tickL, if_neg (by omega), if_pos g]
theorem doorH_more {o : Int} (g : 1 < o) {k : Int} {b : Bool} : heldK o k b = k := by rw [heldK, if_neg (by omega), if_pos g]
theorem doorB_more {o : Int} (g : 1 < o) {b : Bool} : tickB o b = false := by rw [tickB, if_neg (by omega), if_pos g]
theorem small_dir {e : Int} (e0 : -1 ≤ e) (e1 : e ≤ 1) : e = 0 ∨ e = 1 ∨ e = -1 := by omega
/-- At a floor: where the new direction leads there is room, if it does not stop. -/
theorem go_room {h : Ho} {c : Ca} (R : RightIs h c) (l : h.lev c.x.p) {s : Sp} (ok : s.ok) (k : (h.fit s).stop (h.flr c.x.p) c.x.e = false) :
    0 ≤ c.x.p + (h.fit s).head (h.flr c.x.p) c.x.e ∧ c.x.p + (h.fit s).head (h.flr c.x.p) c.x.e ≤ h.top := by
  obtain ⟨q0, q1, _, _, q4⟩ := flr_facts R.ok R.p0 R.p1
  have q5 := q4.1 l
  have hs := R.ok.2.2.1.1
  have hf := R.ok.2.1.2
  have p0 := R.p0
  have p1 := R.p1
  have K := head_is (fit_ok h ok) q0 (show h.flr c.x.p < 64 by omega) (small_dir R.e0 R.e1)
  unfold Sp.stop at k
  rw [Bool.or_eq_false_iff] at k
  generalize (h.fit s).head (h.flr c.x.p) c.x.e = x at *
  rcases K.small with rfl | rfl | rfl
  · omega
  · have t := (K.why (by omega)).resolve_right (by rw [k.2]; simp)
    obtain ⟨y, a, b⟩ := (towB_iff (fit_ok h ok).all _ _).1 t
    have r := fit_in R.ok ok b
    unfold ah at a
    have := mul_lt_lev hs (show h.flr c.x.p < h.f - 1 by omega)
    unfold Ho.top
    omega
  · have t := (K.why (by omega)).resolve_right (by rw [k.2]; simp)
    obtain ⟨y, a, b⟩ := (towB_iff (fit_ok h ok).all _ _).1 t
    have r := fit_in R.ok ok b
    unfold ah at a
    have := mul_lt_lev hs (show 0 < h.flr c.x.p by omega)
    omega
theorem RightIs.tick {h : Ho} {c : Ca} (R : RightIs h c) {s : Sp} (ok : s.ok) (ob : Bool) : RightIs h (c.tick h s ob).1 := by
  have hd := R.ok.2.2.2
  by_cases g : 0 < c.x.o
  · rw [tick_open R g]
    have op := R.opn g
    have := R.o1
    have hk := R.held
    by_cases g1 : 1 < c.x.o
    · rw [door_more g1, doorH_more g1]
      exact ⟨R.ok, R.p0, R.p1, R.e0, R.e1, by dsimp only; omega, by dsimp only; omega, fun _ => op, .inl op.1, .inl (by dsimp only; omega)⟩
    · have o1 : c.x.o = 1 := by omega
      rw [o1]
      cases ob
      · exact ⟨R.ok, R.p0, R.p1, R.e0, R.e1, show (0 : Int) ≤ 0 by decide, show (0 : Int) ≤ h.d by omega, fun _ => op, .inl op.1, .inl rfl⟩
      · exact ⟨R.ok, R.p0, R.p1, R.e0, R.e1, show (0 : Int) ≤ 1 by decide, show (1 : Int) ≤ h.d by omega, fun _ => op, .inl op.1, .inr ⟨show 0 < min c.k 9223372036854775806 + 1 by omega, rfl⟩⟩
  · by_cases l : h.lev c.x.p
    · cases k : (h.fit s).stop (h.flr c.x.p) c.x.e with
      | true =>
        rw [tick_stop R g l ob k]
        obtain ⟨q0, q1, _⟩ := flr_facts R.ok R.p0 R.p1
        have hf := R.ok.2.1.2
        have K := (head_is (fit_ok h ok) q0 (show h.flr c.x.p < 64 by omega) (small_dir R.e0 R.e1)).small
        exact ⟨R.ok, R.p0, R.p1, by dsimp only; omega, by dsimp only; omega, by dsimp only; omega, by dsimp only; omega, fun _ => ⟨l, rfl⟩, .inl l, .inl rfl⟩
      | false =>
        have rm := go_room R l ok k
        rw [tick_go R g l ob k]
        obtain ⟨q0, q1, _⟩ := flr_facts R.ok R.p0 R.p1
        have hf := R.ok.2.1.2
        have K := (head_is (fit_ok h ok) q0 (show h.flr c.x.p < 64 by omega) (small_dir R.e0 R.e1)).small
        refine ⟨R.ok, rm.1, rm.2, by dsimp only; omega, by dsimp only; omega, by dsimp only; omega, by dsimp only; omega, fun q => absurd q (by dsimp only; omega), ?_, .inl rfl⟩
        by_cases z : (h.fit s).head (h.flr c.x.p) c.x.e = 0
        · left
          dsimp only
          rw [z, Int.add_zero]; exact l
        · exact .inr (.inl z)
    · have w := way_is R l
      have b := btw_room R l
      by_cases k : h.lev (c.x.p + c.way) ∧ c.x.r = true
      · rw [tick_relev R g l s ob k]
        exact ⟨R.ok, by dsimp only; omega, by dsimp only; omega, by dsimp only; omega, by dsimp only; omega, by dsimp only; omega, by dsimp only; omega, fun q => absurd q (by dsimp only; omega), .inl k.1, .inl rfl⟩
      · rw [tick_on R g l s ob k]
        exact ⟨R.ok, by dsimp only; omega, by dsimp only; omega, by dsimp only; omega, by dsimp only; omega, by dsimp only; omega, by dsimp only; omega, fun q => absurd q (by dsimp only; omega), .inr (.inl (by dsimp only; omega)), .inl rfl⟩
end Go.Proofs.YtgcgbiaigbblkaaDoor
