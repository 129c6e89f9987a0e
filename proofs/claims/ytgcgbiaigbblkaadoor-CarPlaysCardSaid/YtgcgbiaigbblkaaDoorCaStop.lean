/- One tick of a car: what it tells, where it opens, that what is out of the house counts for nothing. Plain. -/
import Derived.Test.YtgcgbiaigbblkaaDoorCaRun
namespace Go.Proofs.YtgcgbiaigbblkaaDoor

/-- What counts is all that a tick looks at. -/
theorem tick_same {h : Ho} {c : Ca} {t u : Sp} (F : h.fit t = h.fit u) (C : ∀ z, 0 ≤ z → z < h.f → hasB t.c z = hasB u.c z) (ob : Bool) : c.tick h t ob = c.tick h u ob := by
  by_cases R : RightIs h c
  · by_cases g : 0 < c.x.o
    · rw [tick_open R g, tick_open R g]
    · by_cases l : h.lev c.x.p
      · obtain ⟨q0, q1, _⟩ := flr_facts R.ok R.p0 R.p1
        cases k : (h.fit t).stop (h.flr c.x.p) c.x.e with
        | true =>
          rw [tick_stop R g l ob k, tick_stop R g l ob (by rw [← F]; exact k), F]
          unfold doneS
          rw [C _ q0 q1]
        | false => rw [tick_go R g l ob k, tick_go R g l ob (by rw [← F]; exact k), F]
      · by_cases k : h.lev (c.x.p + c.way) ∧ c.x.r = true
        · rw [tick_relev R g l _ ob k, tick_relev R g l _ ob k]
        · rw [tick_on R g l _ ob k, tick_on R g l _ ob k]
  · rw [tick_wrong R, tick_wrong R]

/-- Where it opens. -/
structure StopIs (h : Ho) (c : Ca) (s : Sp) (x : Ca × Dn) : Prop where
  R : RightIs h c
  o0 : c.x.o = 0
  lev : h.lev c.x.p
  car : x.1 = ⟨⟨c.x.p, x.2.la, h.d, false⟩, 0⟩
  fl : x.2.fl = h.flr c.x.p
  cl : x.2.cl = false
  mv : x.2.mv = 0
  la : x.2.la = 0 ∨ x.2.la = 1 ∨ x.2.la = -1
  st : x.2.st = doneS s (h.fit s) x.2.fl x.2.la
  why : hasB (h.fit s).c x.2.fl = true ∨ (h.fit s).hall x.2.fl x.2.la = true
/-- A tick opens so, or tells of no stops. -/
theorem tick_opens (h : Ho) (c : Ca) {s : Sp} (ok : s.ok) (ob : Bool) : ((c.tick h s ob).2.op = true ∧ StopIs h c s (c.tick h s ob)) ∨ ((c.tick h s ob).2.op = false ∧ (c.tick h s ob).2.st = zSp ∧ (c.tick h s ob).2.la = 0) := by
  by_cases R : RightIs h c
  · by_cases g : 0 < c.x.o
    · rw [tick_open R g]; exact .inr ⟨rfl, rfl, rfl⟩
    · by_cases l : h.lev c.x.p
      · obtain ⟨q0, q1, _⟩ := flr_facts R.ok R.p0 R.p1
        have hf := R.ok.2.1.2
        cases k : (h.fit s).stop (h.flr c.x.p) c.x.e with
        | true =>
          rw [tick_stop R g l ob k]
          have K := head_is (fit_ok h ok) q0 (show h.flr c.x.p < 64 by omega) (small_dir R.e0 R.e1)
          unfold Sp.stop at k
          rw [Bool.or_eq_true] at k
          exact .inl ⟨rfl, R, by have := R.o0; omega, l, rfl, rfl, rfl, rfl, K.small, rfl, k⟩
        | false => rw [tick_go R g l ob k]; exact .inr ⟨rfl, rfl, rfl⟩
      · by_cases k : h.lev (c.x.p + c.way) ∧ c.x.r = true
        · rw [tick_relev R g l _ ob k]; exact .inr ⟨rfl, rfl, rfl⟩
        · rw [tick_on R g l _ ob k]; exact .inr ⟨rfl, rfl, rfl⟩
  · rw [tick_wrong R]; exact .inr ⟨rfl, rfl, rfl⟩
theorem one_bits {q : Int} (q0 : 0 ≤ q) (q1 : q < 64) : bitsOf (oneN q) = [q] := by
  obtain ⟨i, rfl⟩ : ∃ i : Nat, q = (i : Int) := ⟨q.toNat, by omega⟩
  have e : bitsN (oneN (i : Int)) = [i] := by
    unfold bitsN
    have : (List.range 64).filter (oneN (i : Int)).testBit = (List.range 64).filter (fun j => decide (j = i)) := by
      apply List.filter_congr
      intro j _
      rw [← hasB_nat, hasB_one]
      exact decide_eq_decide.2 (by omega)
    rw [this, range_cut i (by omega), List.filter_append, List.filter_cons_of_pos (by simp)]
    have l1 : (List.range i).filter (fun j => decide (j = i)) = [] := List.filter_eq_nil_iff.2 fun j hj => by
      have := List.mem_range.1 hj
      simp; omega
    have l2 : ((List.range (63 - i)).map (· + (i + 1))).filter (fun j => decide (j = i)) = [] := List.filter_eq_nil_iff.2 fun j hj => by
      obtain ⟨y, _, rfl⟩ := List.mem_map.1 hj
      simp; omega
    rw [l1, l2]; rfl
  rw [bitsOf, e]; rfl
/-- What it tells of the stops. -/
theorem done_facts {h : Ho} {c : Ca} {s : Sp} (ok : s.ok) {x : Ca × Dn} (H : StopIs h c s x) :
    (hasB s.c x.2.fl = true ∨ (x.2.la ≠ 0 ∧ s.hall x.2.fl x.2.la = true)) ∧ hasB x.2.st.c x.2.fl = hasB s.c x.2.fl ∧ bitsOf x.2.st.all = [x.2.fl] ∧
    (x.2.la ≠ 0 → x.2.st.hall x.2.fl (-x.2.la) = false) ∧ x.1.x.e = x.2.la ∧ x.2.st.ok ∧ ¬ (x.2.st.c = 0 ∧ x.2.st.u = 0 ∧ x.2.st.d = 0) := by
  have R := H.R
  obtain ⟨q0, q1, _⟩ := flr_facts R.ok R.p0 R.p1
  have hf := R.ok.2.1.2
  have S := fit_sub R.ok ok
  have la := H.la
  have why := H.why
  have st := H.st
  have cr := H.car
  have fl := H.fl
  obtain ⟨x1, ⟨op, cl, f, a, mv, d⟩⟩ := x
  dsimp only at *
  rw [← fl] at q0 q1
  have hz : ∀ y, hasB 0 y = false := hasB_zero
  have ho : hasB (oneN f) f = true := by rw [hasB_one]; exact decide_eq_true (by omega)
  have w : hasB s.c f = true ∨ (a ≠ 0 ∧ (h.fit s).hall f a = true) := by
    rcases why with k | k
    · exact .inl (S.c _ k)
    · have := hall_dir k
      exact .inr ⟨by omega, k⟩
  have ct : hasB d.c f = hasB s.c f := by
    rw [st, doneS]
    dsimp only
    cases q : hasB s.c f with
    | true => rw [if_pos rfl]; exact ho
    | false => rw [if_neg (by simp)]; exact hz f
  have cu : d.u = if (h.fit s).hall f a = true ∧ a = 1 then oneN f else 0 := by rw [st]; rfl
  have cd : d.d = if (h.fit s).hall f a = true ∧ a = -1 then oneN f else 0 := by rw [st]; rfl
  have cc : d.c = if hasB s.c f = true then oneN f else 0 := by rw [st]; rfl
  have dok : d.ok := by
    refine ⟨?_, ?_, ?_⟩
    · rw [cc]; split; exact oneN_lt f; decide
    · rw [cu]; split; exact oneN_lt f; decide
    · rw [cd]; split; exact oneN_lt f; decide
  have al : d.all = oneN f := by
    refine ext_hasB fun z => ?_
    rw [Sp.all, hasB_or, hasB_or]
    have le : ∀ n : Nat, n = 0 ∨ n = oneN f → hasB n z = true → hasB (oneN f) z = true := fun n k q => by
      rcases k with k | k
      · rw [k, hz] at q; cases q
      · rw [k] at q; exact q
    have c1 : d.c = 0 ∨ d.c = oneN f := by rw [cc]; split <;> simp
    have c2 : d.u = 0 ∨ d.u = oneN f := by rw [cu]; split <;> simp
    have c3 : d.d = 0 ∨ d.d = oneN f := by rw [cd]; split <;> simp
    rw [Bool.eq_iff_iff, Bool.or_eq_true, Bool.or_eq_true]
    constructor
    · rintro ((k | k) | k)
      · exact le _ c1 k
      · exact le _ c2 k
      · exact le _ c3 k
    · intro k
      rcases w with q | ⟨a0, q⟩
      · rw [cc, if_pos q]; exact .inl (.inl k)
      · rcases hall_dir q with e | e
        · rw [cu, if_pos ⟨q, e⟩]; exact .inl (.inr k)
        · rw [cd, if_pos ⟨q, e⟩]; exact .inr k
  refine ⟨?_, ct, by rw [al]; exact one_bits q0 (by omega), fun a0 => ?_, by rw [cr], dok, ?_⟩
  · rcases w with q | ⟨a0, q⟩
    · exact .inl q
    · refine .inr ⟨a0, Bool.not_eq_false _ ▸ fun k => ?_⟩
      rw [S.hall k] at q; cases q
  · rcases la with e | e | e
    · exact absurd e a0
    · rw [e]
      show hasB d.d f = false
      rw [cd, if_neg (fun k => by omega)]; exact hz f
    · rw [e]
      show hasB d.u f = false
      rw [cu, if_neg (fun k => by omega)]; exact hz f
  · rintro ⟨k1, k2, k3⟩
    have : d.all = 0 := by unfold Sp.all; rw [k1, k2, k3]; rfl
    rw [al] at this
    rw [this, hz] at ho
    cases ho
/-- What a tick keeps. -/
theorem tick_facts {h : Ho} {c : Ca} (R : RightIs h c) {s : Sp} (ok : s.ok) (ob : Bool) {x : Ca} {d : Dn} (e : c.tick h s ob = (x, d)) :
    x.x.p - c.x.p = d.mv ∧ (-1 ≤ d.mv ∧ d.mv ≤ 1) ∧ (0 < x.x.o → d.mv = 0) ∧ (0 < c.x.o → d.mv = 0) ∧ (d.op = true → c.x.o = 0 ∧ 0 < x.x.o ∧ h.lev x.x.p) ∧ (d.cl = true → x.x.o = 0 ∧ 0 < c.x.o) ∧ d.fl = h.flr x.x.p := by
  have hd := R.ok.2.2.2
  have r0 := R.o0
  by_cases g : 0 < c.x.o
  · rw [tick_open R g, Prod.mk.injEq] at e
    obtain ⟨rfl, rfl⟩ := e
    dsimp only
    refine ⟨by omega, by decide, fun _ => rfl, fun _ => rfl, fun k => (by cases k), fun k => ⟨?_, g⟩, rfl⟩
    by_cases g1 : 1 < c.x.o
    · rw [doorB_more g1] at k; cases k
    · have o1 : c.x.o = 1 := by omega
      rw [o1] at k ⊢
      cases ob
      · rfl
      · cases k
  · by_cases l : h.lev c.x.p
    · obtain ⟨q0, q1, _⟩ := flr_facts R.ok R.p0 R.p1
      have hf := R.ok.2.1.2
      have K := (head_is (fit_ok h ok) q0 (show h.flr c.x.p < 64 by omega) (small_dir R.e0 R.e1)).small
      cases k : (h.fit s).stop (h.flr c.x.p) c.x.e with
      | true =>
        rw [tick_stop R g l ob k, Prod.mk.injEq] at e
        obtain ⟨rfl, rfl⟩ := e
        dsimp only
        exact ⟨by omega, by decide, fun _ => rfl, fun _ => rfl, fun _ => ⟨by omega, by omega, l⟩, fun k => (by cases k), rfl⟩
      | false =>
        rw [tick_go R g l ob k, Prod.mk.injEq] at e
        obtain ⟨rfl, rfl⟩ := e
        dsimp only
        exact ⟨by omega, by omega, fun k => absurd k (by decide), fun k => absurd k g, fun k => (by cases k), fun k => (by cases k), rfl⟩
    · have w := way_is R l
      by_cases k : h.lev (c.x.p + c.way) ∧ c.x.r = true
      · rw [tick_relev R g l _ ob k, Prod.mk.injEq] at e
        obtain ⟨rfl, rfl⟩ := e
        dsimp only
        exact ⟨by omega, by omega, fun k => absurd k (by decide), fun k => absurd k g, fun k => (by cases k), fun k => (by cases k), rfl⟩
      · rw [tick_on R g l _ ob k, Prod.mk.injEq] at e
        obtain ⟨rfl, rfl⟩ := e
        dsimp only
        exact ⟨by omega, by omega, fun k => absurd k (by decide), fun k => absurd k g, fun k => (by cases k), fun k => (by cases k), rfl⟩
end Go.Proofs.YtgcgbiaigbblkaaDoor
