/- A car that ticks on, with nothing coming: all that there is is done within thrice the house's length, a door's time a stop. Plain. -/
import Derived.Test.YtgcgbiaigbblkaaDoorCaMath
namespace Go.Proofs.YtgcgbiaigbblkaaDoor

/-- Without what was done. -/
def Sp.less (s d : Sp) : Sp := ⟨s.c &&& (18446744073709551615 - d.c), s.u &&& (18446744073709551615 - d.u), s.d &&& (18446744073709551615 - d.d)⟩
theorem and_ones {n : Nat} (h : n < 18446744073709551616) : n &&& (18446744073709551615 - 0) = n := by
  have := Nat.and_two_pow_sub_one_of_lt_two_pow (n := 64) (x := n) h
  simpa using this
theorem less_none {s : Sp} (ok : s.ok) : s.less zSp = s := by
  show Sp.mk _ _ _ = s
  rw [show zSp.c = 0 from rfl, show zSp.u = 0 from rfl, show zSp.d = 0 from rfl, and_ones ok.c, and_ones ok.u, and_ones ok.d]
theorem clr_none {n : Nat} (hn : n < 18446744073709551616) {f : Int} (f0 : 0 ≤ f) (f1 : f < 64) (h : hasB n f = false) : clrN n f = n := by
  refine ext_hasB fun z => ?_
  rw [hasB_clr hn f0 f1]
  by_cases e : z = f
  · rw [e, h]; rfl
  · rw [decide_eq_false e]; simp
theorem less_done {s : Sp} (ok : s.ok) {q x : Int} (q0 : 0 ≤ q) (q1 : q < 64) (hx : x = 0 ∨ x = 1 ∨ x = -1) : s.less (doneS s s q x) = s.left q x := by
  have C : s.c &&& (18446744073709551615 - (doneS s s q x).c) = clrN s.c q := by
    unfold doneS
    dsimp only
    split
    · rfl
    · rename_i g
      rw [and_ones ok.c, clr_none ok.c q0 q1 (by simpa using g)]
  have U : s.u &&& (18446744073709551615 - (doneS s s q x).u) = if 0 < x then clrN s.u q else s.u := by
    unfold doneS
    dsimp only
    rcases hx with rfl | rfl | rfl
    · rw [if_neg (by simp), if_neg (by decide), and_ones ok.u]
    · rw [if_pos (show (0 : Int) < 1 by decide)]
      by_cases g : s.hall q 1 = true
      · rw [if_pos ⟨g, rfl⟩]; rfl
      · rw [if_neg (fun k => g k.1), and_ones ok.u, clr_none ok.u q0 q1 (show s.hall q 1 = false by simpa using g)]
    · rw [if_neg (fun k => by omega), if_neg (by decide), and_ones ok.u]
  have D : s.d &&& (18446744073709551615 - (doneS s s q x).d) = if x < 0 then clrN s.d q else s.d := by
    unfold doneS
    dsimp only
    rcases hx with rfl | rfl | rfl
    · rw [if_neg (fun k => by omega), if_neg (by decide), and_ones ok.d]
    · rw [if_neg (fun k => by omega), if_neg (by decide), and_ones ok.d]
    · rw [if_pos (show (-1 : Int) < 0 by decide)]
      by_cases g : s.hall q (-1) = true
      · rw [if_pos ⟨g, rfl⟩]; rfl
      · rw [if_neg (fun k => g k.1), and_ones ok.d, clr_none ok.d q0 q1 (show s.hall q (-1) = false by simpa using g)]
  unfold Sp.less Sp.left
  rw [C, U, D]
theorem cnt_zero {s : Sp} (ok : s.ok) (h : s.cnt = 0) : s.all = 0 := by
  refine Decidable.not_not.1 fun k => ?_
  obtain ⟨z, hz⟩ := hasB_some k
  have r := hasB_range ok.all hz
  have P : ∀ n : Nat, hasB n z = true → 0 < cntN n := fun n q => Nat.lt_of_le_of_lt (Nat.zero_le (cntN 0)) (cnt_lt (fun y a => by rw [hasB_zero] at a; cases a) r.1 r.2 q (hasB_zero z))
  unfold Sp.cnt at h
  rw [Sp.all, hasB_or, hasB_or] at hz
  simp only [Bool.or_eq_true] at hz
  rcases hz with (q | q) | q <;> have := P _ q <;> omega
theorem zero_head {s : Sp} (ok : s.ok) (h : s.all = 0) {f d : Int} (f0 : 0 ≤ f) (f1 : f < 64) (hd : d = 0 ∨ d = 1 ∨ d = -1) : s.head f d = 0 ∧ s.stop f d = false := by
  have K := head_is ok f0 f1 hd
  have z := fun e => all_zero h f e
  have e : s.head f d = 0 := by
    refine Decidable.not_not.1 fun g => ?_
    have := K.why g
    rw [(z _).1, (z _).2.1] at this
    simp at this
  refine ⟨e, ?_⟩
  rw [Sp.stop, e, (z 0).2.2, (z 0).2.1]; rfl
theorem stop_last {s : Sp} (ok : s.ok) {f d : Int} (f0 : 0 ≤ f) (f1 : f < 64) (hd : d = 0 ∨ d = 1 ∨ d = -1) (h : s.head f d = 0) : (s.left f 0).all = 0 := by
  have n := (head_is ok f0 f1 hd).none h
  have L := Sp.left_ok ok f 0
  have S := left_sub ok (x := 0) f0 f1
  have tn : ∀ g, towB s.all f g = false → towB (s.left f 0).all f g = false := fun g k => Bool.eq_false_iff.2 fun q => by
    obtain ⟨y, i, j⟩ := (towB_iff L.all f g).1 q
    rw [S.all (tow_no ok k i)] at j; cases j
  refine tow_none L (tn 1 n.1) (tn (-1) n.2.1) ?_
  rw [all_parts, S.hall n.2.2.1, S.hall n.2.2.2, show hasB (s.left f 0).c f = false from clr_self ok.c f0 f1]; rfl

/-- Which floor a place belongs to. -/
theorem flr_is {h : Ho} (k : h.ok) {p y : Int} (p0 : 0 ≤ p) (p1 : p ≤ h.top) (a : y * h.s ≤ p) (b : p < y * h.s + h.s) : h.flr p = y := by
  obtain ⟨_, _, _, c, _⟩ := flr_facts k p0 p1
  have hs := k.2.2.1.1
  rcases Int.lt_trichotomy (h.flr p) y with g | g | g
  · have := mul_lt_lev hs g
    omega
  · exact g
  · have := mul_lt_lev hs g
    omega
theorem lev_iff {h : Ho} (k : h.ok) {p y : Int} (p0 : 0 ≤ p) (p1 : p ≤ h.top) (e : h.flr p = y) : h.lev p ↔ y * h.s = p := by
  rw [← e]; exact (flr_facts k p0 p1).2.2.2.2
/-- The floor at which it is, or to which it goes. -/
def Ca.dest (h : Ho) (c : Ca) : Int := if h.lev c.x.p then h.flr c.x.p else if c.x.e = 1 then h.flr c.x.p + 1 else h.flr c.x.p
theorem dest_lev {h : Ho} {c : Ca} (l : h.lev c.x.p) : c.dest h = h.flr c.x.p := if_pos l
theorem dest_at {h : Ho} (k : h.ok) {p e o kk : Int} {r : Bool} {y z : Int} (p0 : 0 ≤ p) (p1 : p ≤ h.top) (a : y * h.s ≤ p) (b : p < y * h.s + h.s)
    (hz : (y * h.s = p ∧ z = y) ∨ (y * h.s ≠ p ∧ e = 1 ∧ z = y + 1) ∨ (y * h.s ≠ p ∧ e = -1 ∧ z = y)) : (Ca.mk ⟨p, e, o, r⟩ kk).dest h = z := by
  have F := flr_is k p0 p1 a b
  have L := lev_iff k p0 p1 F
  unfold Ca.dest
  dsimp only
  rw [F]
  rcases hz with ⟨g, rfl⟩ | ⟨g, rfl, rfl⟩ | ⟨g, rfl, rfl⟩
  · rw [if_pos (L.2 g)]
  · rw [if_neg (fun q => g (L.1 q)), if_pos rfl]
  · rw [if_neg (fun q => g (L.1 q)), if_neg (by decide)]
/-- Leaving a floor. -/
theorem dest_go {h : Ho} (k : h.ok) {p x o kk : Int} {r : Bool} (p0 : 0 ≤ p) (p1 : p ≤ h.top) (l : h.lev p) (hx : x = 1 ∨ x = -1) (q0 : 0 ≤ p + x) (q1 : p + x ≤ h.top) :
    (Ca.mk ⟨p + x, x, o, r⟩ kk).dest h = h.flr p + x := by
  obtain ⟨_, _, _, _, L⟩ := flr_facts k p0 p1
  have e := L.1 l
  have hs := k.2.2.1.1
  have m1 : (h.flr p + 1) * h.s = h.flr p * h.s + h.s := by rw [Int.add_mul, Int.one_mul]
  have m2 : (h.flr p + -1) * h.s = h.flr p * h.s + -h.s := by rw [Int.add_mul]; omega
  rcases hx with rfl | rfl
  · by_cases g : h.s = 1
    · exact dest_at k q0 q1 (y := h.flr p + 1) (by omega) (by omega) (.inl ⟨by omega, rfl⟩)
    · exact dest_at k q0 q1 (y := h.flr p) (by omega) (by omega) (.inr (.inl ⟨by omega, rfl, rfl⟩))
  · by_cases g : h.s = 1
    · exact dest_at k q0 q1 (y := h.flr p + -1) (by omega) (by omega) (.inl ⟨by omega, rfl⟩)
    · exact dest_at k q0 q1 (y := h.flr p + -1) (by omega) (by omega) (.inr (.inr ⟨by omega, rfl, rfl⟩))
/-- Between floors. -/
theorem dest_on {h : Ho} (k : h.ok) {p e o kk o' kk' : Int} {r r' : Bool} (p0 : 0 ≤ p) (p1 : p ≤ h.top) (l : ¬ h.lev p) (he : e = 1 ∨ e = -1) (q0 : 0 ≤ p + e) (q1 : p + e ≤ h.top) :
    (Ca.mk ⟨p + e, e, o, r⟩ kk).dest h = (Ca.mk ⟨p, e, o', r'⟩ kk').dest h := by
  obtain ⟨_, _, _, c, L⟩ := flr_facts k p0 p1
  have g : h.flr p * h.s ≠ p := fun q => l (L.2 q)
  have m1 : (h.flr p + 1) * h.s = h.flr p * h.s + h.s := by rw [Int.add_mul, Int.one_mul]
  rcases he with rfl | rfl
  · rw [dest_at k p0 p1 (z := h.flr p + 1) (y := h.flr p) (by omega) (by omega) (.inr (.inl ⟨g, rfl, rfl⟩))]
    by_cases q : p + 1 = (h.flr p + 1) * h.s
    · exact dest_at k q0 q1 (y := h.flr p + 1) (by omega) (by omega) (.inl ⟨by omega, rfl⟩)
    · exact dest_at k q0 q1 (y := h.flr p) (by omega) (by omega) (.inr (.inl ⟨by omega, rfl, rfl⟩))
  · rw [dest_at k p0 p1 (z := h.flr p) (y := h.flr p) (by omega) (by omega) (.inr (.inr ⟨g, rfl, rfl⟩))]
    by_cases q : h.flr p * h.s = p + -1
    · exact dest_at k q0 q1 (y := h.flr p) (by omega) (by omega) (.inl ⟨by omega, rfl⟩)
    · exact dest_at k q0 q1 (y := h.flr p) (by omega) (by omega) (.inr (.inr ⟨by omega, rfl, rfl⟩))

/-- It stays: its door closed, level, nothing to do. -/
def restC (h : Ho) (s : Sp) (c : Ca) : Prop := c.x.o = 0 ∧ h.lev c.x.p ∧ s.all = 0
def trv (h : Ho) (t : Int) : Int := if t = 0 then 2 * h.top else if t = 1 then h.top else 0
def farP (h : Ho) (e p : Int) : Int := if e = 1 then h.top - p else p
def wrk (h : Ho) (s : Sp) : Int := h.d * s.cnt + s.cnt
theorem trv_nn {h : Ho} (k : h.ok) (t : Int) : 0 ≤ trv h t := by
  have := (Ho.range k).1
  unfold trv
  split
  · omega
  · split <;> omega
theorem trv_turn {h : Ho} {t : Int} (t0 : 0 ≤ t) (t1 : t + 1 ≤ 2) : trv h t = trv h (t + 1) + h.top := by
  unfold trv
  by_cases g : t = 0
  · subst g
    rw [if_pos rfl, if_neg (by decide), if_pos (by decide)]; omega
  · have g1 : t = 1 := by omega
    subst g1
    rw [if_neg (by decide), if_pos rfl, if_neg (by decide), if_neg (by decide)]; omega
theorem wrk_nn {h : Ho} (k : h.ok) (s : Sp) : 0 ≤ wrk h s := by
  have := Int.mul_nonneg (show 0 ≤ h.d by have := k.2.2.2.1; omega) (show (0 : Int) ≤ (s.cnt : Int) by omega)
  unfold wrk; omega
theorem wrk_less {h : Ho} (k : h.ok) {s l : Sp} (c : l.cnt < s.cnt) : wrk h l + h.d + 1 ≤ wrk h s := by
  have := Int.mul_le_mul_of_nonneg_left (show (l.cnt : Int) + 1 ≤ (s.cnt : Int) by omega) (show 0 ≤ h.d by have := k.2.2.2.1; omega)
  rw [Int.mul_add, Int.mul_one] at this
  unfold wrk; omega
theorem far_room {h : Ho} {e p : Int} (p0 : 0 ≤ p) (p1 : p ≤ h.top) : 0 ≤ farP h e p ∧ farP h e p ≤ h.top := by unfold farP; split <;> omega
theorem far_go {h : Ho} {e p : Int} (he : e = 1 ∨ e = -1) : farP h e (p + e) = farP h e p - 1 := by
  rcases he with rfl | rfl <;> unfold farP
  · rw [if_pos rfl, if_pos rfl]; omega
  · rw [if_neg (by decide), if_neg (by decide)]; omega
/-- Under way, M ticks to come at most. -/
structure Run (h : Ho) (s : Sp) (c : Ca) (M : Int) : Prop where
  R : RightIs h c
  ok : s.ok
  F : h.fit s = s
  m0 : 0 ≤ M
  ph : restC h s c ∨
    (c.x.o = 0 ∧ ¬ h.lev c.x.p ∧ c.x.r = true ∧ wrk h s + 3 * h.top + c.x.p % h.s ≤ M) ∨
    (c.x.e = 0 ∧ s.all = 0 ∧ h.lev c.x.p ∧ c.x.o ≤ M) ∨
    ((h.lev c.x.p ∨ c.x.r = false) ∧ ∃ t N, Sw s (c.dest h) c.x.e t N ∧ ((c.x.e = 0 ∧ t = 0 ∧ wrk h s + c.x.o + 3 * h.top ≤ M) ∨ (c.x.e ≠ 0 ∧ wrk h s + c.x.o + trv h t + farP h c.x.e c.x.p ≤ M)))
theorem Run.mono {h : Ho} {s : Sp} {c : Ca} {M K : Int} (H : Run h s c M) (k : M ≤ K) : Run h s c K := by
  obtain ⟨R, ok, F, m0, ph⟩ := H
  refine ⟨R, ok, F, by omega, ?_⟩
  rcases ph with a | ⟨a, b, d, e⟩ | ⟨a, b, d, e⟩ | ⟨a, t, N, sw, b⟩
  · exact .inl a
  · exact .inr (.inl ⟨a, b, d, by omega⟩)
  · exact .inr (.inr (.inl ⟨a, b, d, by omega⟩))
  · refine .inr (.inr (.inr ⟨a, t, N, sw, ?_⟩))
    rcases b with ⟨b, d, e⟩ | ⟨b, d⟩
    · exact .inl ⟨b, d, by omega⟩
    · exact .inr ⟨b, by omega⟩
theorem dest_in {h : Ho} {c : Ca} (R : RightIs h c) (_ : h.lev c.x.p ∨ c.x.e ≠ 0) : 0 ≤ c.dest h ∧ c.dest h < h.f := by
  obtain ⟨a, b, _, d, L⟩ := flr_facts R.ok R.p0 R.p1
  unfold Ca.dest
  split
  · exact ⟨a, b⟩
  · rename_i l
    have g : h.flr c.x.p * h.s ≠ c.x.p := fun q => l (L.2 q)
    split
    · refine ⟨by omega, ?_⟩
      refine Int.not_le.1 fun q => ?_
      have e : h.flr c.x.p = h.f - 1 := by omega
      have p1 := R.p1
      unfold Ho.top at p1
      rw [e] at d g
      omega
    · exact ⟨a, b⟩
/-- From anywhere. -/
theorem Run.first {h : Ho} {s : Sp} {c : Ca} (R : RightIs h c) (ok : s.ok) (F : h.fit s = s) : Run h s c (wrk h s + c.x.o + 3 * h.top + (h.s - 1)) := by
  have hs := R.ok.2.2.1
  have hw := wrk_nn R.ok s
  have ht := (Ho.range R.ok).1
  have o0 := R.o0
  have hf := R.ok.2.1.2
  refine ⟨R, ok, F, by omega, ?_⟩
  have hm0 := Int.emod_nonneg c.x.p (show h.s ≠ 0 by omega)
  have hm1 := Int.emod_lt_of_pos c.x.p (show 0 < h.s by omega)
  by_cases l : h.lev c.x.p
  · have D := dest_in R (.inl l)
    refine .inr (.inr (.inr ⟨.inl l, 0, 381, Sw.first ok D.1 (by omega) (small_dir R.e0 R.e1), ?_⟩))
    by_cases e : c.x.e = 0
    · exact .inl ⟨e, rfl, by omega⟩
    · have := far_room (e := c.x.e) R.p0 R.p1
      refine .inr ⟨e, ?_⟩
      have : trv h 0 = 2 * h.top := if_pos rfl
      omega
  · have og : c.x.o = 0 := by
      refine Decidable.not_not.1 fun q => ?_
      exact l (R.opn (by omega)).1
    cases r : c.x.r with
    | true => exact .inr (.inl ⟨og, l, rfl, by omega⟩)
    | false =>
      have e : c.x.e ≠ 0 := (R.btw.resolve_left l).resolve_right (by rw [r]; simp)
      have D := dest_in R (.inr e)
      refine .inr (.inr (.inr ⟨.inr rfl, 0, 381, Sw.first ok D.1 (by omega) (small_dir R.e0 R.e1), .inr ⟨e, ?_⟩⟩))
      have := far_room (e := c.x.e) R.p0 R.p1
      have : trv h 0 = 2 * h.top := if_pos rfl
      omega
/-- With nothing to come it stays. -/
theorem Run.rests {h : Ho} {s : Sp} {c : Ca} (H : Run h s c 0) : restC h s c := by
  obtain ⟨R, ok, F, m0, ph⟩ := H
  have hw := wrk_nn R.ok s
  have ht := (Ho.range R.ok).1
  have o0 := R.o0
  have hs := R.ok.2.2.1
  have hm0 := Int.emod_nonneg c.x.p (show h.s ≠ 0 by omega)
  rcases ph with a | ⟨a, b, d, e⟩ | ⟨a, b, d, e⟩ | ⟨a, t, N, sw, b⟩
  · exact a
  · omega
  · exact ⟨by omega, d, b⟩
  · rcases b with ⟨b, d, e⟩ | ⟨b, d⟩
    · omega
    · have f := far_room (e := c.x.e) R.p0 R.p1
      have v := trv_nn R.ok t
      have hc : s.cnt = 0 := by
        have := Int.mul_nonneg (show 0 ≤ h.d by have := R.ok.2.2.2.1; omega) (show (0 : Int) ≤ (s.cnt : Int) by omega)
        unfold wrk at hw d
        omega
      refine ⟨by omega, ?_, cnt_zero ok hc⟩
      have fz : farP h c.x.e c.x.p = 0 := by omega
      unfold farP at fz
      split at fz
      · rw [show c.x.p = h.top by omega]; exact lev_top R.ok
      · rw [fz]; exact lev_zero R.ok
theorem tickL_less {o : Int} (g : 0 < o) : tickL o false = o - 1 := by
  by_cases g1 : 1 < o
  · exact door_more g1
  · have : o = 1 := by omega
    rw [this]; rfl
/-- A tick, nothing obstructed: what was done is no more. -/
theorem Run.tick {h : Ho} {s : Sp} {c : Ca} {M : Int} (H : Run h s c M) : Run h (s.less (c.tick h s false).2.st) (c.tick h s false).1 (max (M - 1) 0) := by
  obtain ⟨R, ok, F, m0, ph⟩ := H
  have R' := R.tick ok false
  have hs := R.ok.2.2.1
  have hf := R.ok.2.1.2
  have ht := (Ho.range R.ok).1
  have hw := wrk_nn R.ok s
  by_cases g : 0 < c.x.o
  · have E := tick_open R g s false
    rw [E] at R' ⊢
    have op := R.opn g
    dsimp only at R' ⊢
    rw [less_none ok]
    refine ⟨R', ok, F, by omega, ?_⟩
    unfold restC Ca.dest
    dsimp only
    rw [tickL_less g]
    rcases ph with a | ⟨a, _⟩ | ⟨a, b, d, e⟩ | ⟨a, t, N, sw, b⟩
    · exact absurd a.1 (by omega)
    · omega
    · by_cases z : c.x.o = 1
      · exact .inl ⟨by omega, d, b⟩
      · exact .inr (.inr (.inl ⟨a, b, d, by omega⟩))
    · refine .inr (.inr (.inr ⟨.inl op.1, t, N, sw, ?_⟩))
      rcases b with ⟨b, d, e⟩ | ⟨b, d⟩
      · exact .inl ⟨b, d, by omega⟩
      · exact .inr ⟨b, by omega⟩
  · have o0 : c.x.o = 0 := by have := R.o0; omega
    by_cases l : h.lev c.x.p
    · obtain ⟨q0, q1, _, _, _⟩ := flr_facts R.ok R.p0 R.p1
      have hd := small_dir R.e0 R.e1
      by_cases z : s.all = 0
      · have Z := zero_head ok z q0 (show h.flr c.x.p < 64 by omega) hd
        have E := tick_go R g l (s := s) false (by rw [F]; exact Z.2)
        rw [F, Z.1, Int.add_zero] at E
        rw [E] at R' ⊢
        dsimp only at R' ⊢
        rw [less_none ok]
        exact ⟨R', ok, F, by omega, .inl ⟨rfl, l, z⟩⟩
      · obtain ⟨t, N, sw, b⟩ : ∃ t N, Sw s (c.dest h) c.x.e t N ∧ ((c.x.e = 0 ∧ t = 0 ∧ wrk h s + c.x.o + 3 * h.top ≤ M) ∨ (c.x.e ≠ 0 ∧ wrk h s + c.x.o + trv h t + farP h c.x.e c.x.p ≤ M)) := by
          rcases ph with a | ⟨_, a, _⟩ | ⟨_, a, _⟩ | ⟨_, a⟩
          · exact absurd a.2.2 z
          · exact absurd l a
          · exact absurd a z
          · exact a
        rw [dest_lev l] at sw
        have K := head_is ok q0 (show h.flr c.x.p < 64 by omega) hd
        have fr := fun e => far_room (e := e) R.p0 R.p1
        have HT : ∀ x, x = s.head (h.flr c.x.p) c.x.e → x ≠ 0 → t + turnN c.x.e x ≤ 2 → 0 ≤ t → wrk h s + trv h (t + turnN c.x.e x) + farP h x c.x.p ≤ M := by
          intro x hx x0 t2 t0
          have f1 := fr x
          have f2 := fr c.x.e
          rcases b with ⟨b, d, e⟩ | ⟨b, d⟩
          · have : turnN c.x.e x = 0 := if_neg (fun k => k.1 b)
            rw [this, d, show trv h (0 + 0) = 2 * h.top from if_pos rfl]
            omega
          · by_cases u : x = -c.x.e
            · have : turnN c.x.e x = 1 := if_pos ⟨b, u⟩
              rw [this] at t2 ⊢
              have := trv_turn (h := h) t0 t2
              omega
            · have : turnN c.x.e x = 0 := if_neg (fun k => u k.2)
              have ks := K.small
              rw [← hx] at ks
              have ex : x = c.x.e := by omega
              rw [this, Int.add_zero, ex]
              omega
        cases k : s.stop (h.flr c.x.p) c.x.e with
        | true =>
          have E := tick_stop R g l (s := s) false (by rw [F]; exact k)
          rw [F] at E
          rw [E] at R' ⊢
          dsimp only at R' ⊢
          rw [less_done ok q0 (by omega) K.small]
          obtain ⟨S1, S2, S3, S4⟩ := sw.stop k
          have C := left_cnt ok q0 (by omega) k
          have W := wrk_less R.ok C
          have LS := left_sub ok (x := s.head (h.flr c.x.p) c.x.e) q0 (show h.flr c.x.p < 64 by omega)
          have LO := S1.ok
          refine ⟨R', LO, fit_part R.ok ok LO LS F, by omega, ?_⟩
          have wl := wrk_nn R.ok (s.left (h.flr c.x.p) (s.head (h.flr c.x.p) c.x.e))
          by_cases x0 : s.head (h.flr c.x.p) c.x.e = 0
          · refine .inr (.inr (.inl ⟨x0, ?_, l, ?_⟩))
            · rw [x0]; exact stop_last ok q0 (by omega) hd x0
            · dsimp only
              have v := trv_nn R.ok t
              have f2 := fr c.x.e
              rcases b with ⟨b, d, e⟩ | ⟨b, d⟩ <;> omega
          · refine .inr (.inr (.inr ⟨.inl l, _, _, by unfold Ca.dest; dsimp only; rw [if_pos l]; exact S1, .inr ⟨x0, ?_⟩⟩))
            have := HT _ rfl x0 S1.t2 sw.t0
            dsimp only
            omega
        | false =>
          have x0 : s.head (h.flr c.x.p) c.x.e ≠ 0 := fun q => z (sw.ends k q)
          have rm := go_room R l ok (by rw [F]; exact k)
          have E := tick_go R g l (s := s) false (by rw [F]; exact k)
          rw [F] at E rm
          rw [E] at R' ⊢
          dsimp only at R' ⊢
          rw [less_none ok]
          obtain ⟨S1, S2, S3⟩ := sw.move k x0
          have hx : s.head (h.flr c.x.p) c.x.e = 1 ∨ s.head (h.flr c.x.p) c.x.e = -1 := K.small.resolve_left x0
          refine ⟨R', ok, F, by omega, .inr (.inr (.inr ⟨.inr rfl, _, _, by rw [dest_go R.ok R.p0 R.p1 l hx rm.1 rm.2]; exact S1, .inr ⟨x0, ?_⟩⟩))⟩
          have := HT _ rfl x0 S1.t2 sw.t0
          dsimp only
          rw [far_go hx]
          omega
    · have br := btw_room R l
      have hm0 := Int.emod_nonneg c.x.p (show h.s ≠ 0 by omega)
      have hm1 := Int.emod_lt_of_pos c.x.p (show 0 < h.s by omega)
      have hm2 : c.x.p % h.s ≠ 0 := fun q => l ⟨⟨R.ok, R.p0, R.p1⟩, q⟩
      have hm3 : (c.x.p + -1) % h.s = c.x.p % h.s - 1 := by
        have e := Int.mul_ediv_add_emod c.x.p h.s
        have e2 : c.x.p + -1 = (c.x.p % h.s - 1) + h.s * (c.x.p / h.s) := by omega
        rw [e2, Int.add_mul_emod_self_left]
        exact Int.emod_eq_of_lt (by omega) (by omega)
      rcases ph with a | ⟨_, _, a, b⟩ | ⟨_, _, a, _⟩ | ⟨a, t, N, sw, b⟩
      · exact absurd a.2.1 l
      · have wy : c.way = -1 := if_pos a
        by_cases k : h.lev (c.x.p + c.way) ∧ c.x.r = true
        · have E := tick_relev R g l s false k
          rw [E] at R' ⊢
          rw [wy] at k R' ⊢
          dsimp only at R' ⊢
          rw [less_none ok]
          have D := dest_in R' (.inl k.1)
          exact ⟨R', ok, F, by omega, .inr (.inr (.inr ⟨.inl k.1, 0, 381, Sw.first ok D.1 (by omega) (.inl rfl), .inl ⟨rfl, rfl, by dsimp only; omega⟩⟩))⟩
        · have E := tick_on R g l s false k
          rw [E] at R' ⊢
          rw [wy] at k R' ⊢
          dsimp only at R' ⊢
          rw [less_none ok]
          refine ⟨R', ok, F, by omega, .inr (.inl ⟨rfl, fun q => k ⟨q, a⟩, a, ?_⟩)⟩
          dsimp only
          rw [hm3]
          omega
      · exact absurd a l
      · have r0 : c.x.r = false := a.resolve_left l
        have e0 : c.x.e ≠ 0 := (R.btw.resolve_left l).resolve_right (by rw [r0]; simp)
        have wy : c.way = c.x.e := if_neg (by rw [r0]; simp)
        have he : c.x.e = 1 ∨ c.x.e = -1 := (small_dir R.e0 R.e1).resolve_left e0
        have k : ¬ (h.lev (c.x.p + c.way) ∧ c.x.r = true) := fun q => by rw [r0] at q; cases q.2
        have E := tick_on R g l s false k
        rw [E] at R' ⊢
        rw [wy] at R' ⊢
        dsimp only at R' ⊢
        rw [less_none ok]
        have D : (Ca.mk ⟨c.x.p + c.x.e, c.x.e, 0, c.x.r⟩ 0).dest h = c.dest h := dest_on R.ok R.p0 R.p1 l he (by omega) (by omega)
        refine ⟨R', ok, F, by omega, .inr (.inr (.inr ⟨.inr r0, t, N, by rw [D]; exact sw, .inr ⟨e0, ?_⟩⟩))⟩
        dsimp only
        rw [far_go he]
        rcases b with ⟨b, _⟩ | ⟨_, d⟩
        · exact absurd b e0
        · omega
end Go.Proofs.YtgcgbiaigbblkaaDoor
