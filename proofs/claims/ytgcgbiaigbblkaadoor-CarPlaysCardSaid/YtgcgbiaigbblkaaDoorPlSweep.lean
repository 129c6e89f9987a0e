/- A car that does what is done at each floor: it turns twice at most, each step brings it nearer to the end. Plain. -/
import Derived.Test.YtgcgbiaigbblkaaDoorPlMath
namespace Go.Proofs.YtgcgbiaigbblkaaDoor

/-- Without a floor's bit. -/
def clrN (n : Nat) (f : Int) : Nat := n &&& (18446744073709551615 - oneN f)
theorem clrN_lt {n : Nat} (h : n < 18446744073709551616) (f : Int) : clrN n f < 18446744073709551616 := Nat.lt_of_le_of_lt Nat.and_le_left h
theorem hasB_clr {n : Nat} (hn : n < 18446744073709551616) {f : Int} (_ : 0 ≤ f) (_ : f < 64) (z : Int) : hasB (clrN n f) z = (hasB n z && !decide (z = f)) := by
  by_cases hz : z < 0
  · rw [hasB_neg hz, hasB_neg hz]; rfl
  · by_cases hb : 64 ≤ z
    · rw [hasB_big (clrN_lt hn f) hb, hasB_big hn hb]; rfl
    · obtain ⟨i, rfl⟩ : ∃ i : Nat, z = (i : Int) := ⟨z.toNat, by omega⟩
      rw [hasB_nat, hasB_nat, clrN, Nat.testBit_and, show 18446744073709551615 - oneN f = 2 ^ 64 - (oneN f + 1) by rw [show (2 : Nat) ^ 64 = 18446744073709551616 from rfl]; omega,
        Nat.testBit_two_pow_sub_succ (show oneN f < 2 ^ 64 by have := oneN_lt f; simpa using this), decide_eq_true (by omega), Bool.true_and, ← hasB_nat (oneN f), hasB_one]
      congr 2
      exact decide_eq_decide.2 (by omega)
/-- How many bits. -/
def cntN (n : Nat) : Nat := (List.range 64).countP n.testBit
theorem countP_lt {p q : Nat → Bool} : ∀ (l : List Nat), (∀ x, p x = true → q x = true) → (∃ x ∈ l, q x = true ∧ p x = false) → l.countP p < l.countP q
  | [], _, h => by obtain ⟨x, hx, _⟩ := h; cases hx
  | a :: l, hs, h => by
    have hle : l.countP p ≤ l.countP q := List.countP_mono_left fun x _ hx => hs x hx
    rw [List.countP_cons, List.countP_cons]
    obtain ⟨x, hx, hq, hp⟩ := h
    rcases List.mem_cons.1 hx with rfl | hx
    · rw [hq, hp]; simp; omega
    · have := countP_lt l hs ⟨x, hx, hq, hp⟩
      cases e : p a
      · simp; omega
      · rw [hs a e]; simp; omega
theorem cnt_le {m n : Nat} (h : ∀ z : Int, hasB m z = true → hasB n z = true) : cntN m ≤ cntN n :=
  List.countP_mono_left fun i _ hi => by rw [← hasB_nat] at hi ⊢; exact h _ hi
theorem cnt_lt {m n : Nat} (h : ∀ z : Int, hasB m z = true → hasB n z = true) {f : Int} (f0 : 0 ≤ f) (f1 : f < 64) (a : hasB n f = true) (b : hasB m f = false) : cntN m < cntN n := by
  refine countP_lt _ (fun i hi => by rw [← hasB_nat] at hi ⊢; exact h _ hi) ⟨f.toNat, List.mem_range.2 (by omega), ?_, ?_⟩
  · rw [← hasB_nat, Int.toNat_of_nonneg f0]; exact a
  · rw [← hasB_nat, Int.toNat_of_nonneg f0]; exact b
theorem cnt_64 (n : Nat) : cntN n ≤ 64 := by
  have := List.countP_le_length (p := n.testBit) (l := List.range 64)
  simpa [cntN] using this
def Sp.cnt (s : Sp) : Nat := cntN s.c + cntN s.u + cntN s.d
theorem Sp.cnt_192 (s : Sp) : s.cnt ≤ 192 := by
  have := cnt_64 s.c
  have := cnt_64 s.u
  have := cnt_64 s.d
  unfold Sp.cnt; omega
/-- What is left behind a stop. -/
def Sp.left (s : Sp) (f x : Int) : Sp := ⟨clrN s.c f, if 0 < x then clrN s.u f else s.u, if x < 0 then clrN s.d f else s.d⟩
theorem Sp.left_ok {s : Sp} (h : s.ok) (f x : Int) : (s.left f x).ok := by
  refine ⟨clrN_lt h.c f, ?_, ?_⟩ <;> dsimp only [Sp.left]
  · split
    · exact clrN_lt h.u f
    · exact h.u
  · split
    · exact clrN_lt h.d f
    · exact h.d
/-- A part of it. -/
structure Sp.sub (t s : Sp) : Prop where
  c : ∀ z, hasB t.c z = true → hasB s.c z = true
  u : ∀ z, hasB t.u z = true → hasB s.u z = true
  d : ∀ z, hasB t.d z = true → hasB s.d z = true
theorem clr_sub {n : Nat} (hn : n < 18446744073709551616) {f : Int} (f0 : 0 ≤ f) (f1 : f < 64) (z : Int) (h : hasB (clrN n f) z = true) : hasB n z = true := by
  rw [hasB_clr hn f0 f1, Bool.and_eq_true] at h; exact h.1
theorem clr_self {n : Nat} (hn : n < 18446744073709551616) {f : Int} (f0 : 0 ≤ f) (f1 : f < 64) : hasB (clrN n f) f = false := by
  rw [hasB_clr hn f0 f1]; simp
theorem left_sub {s : Sp} (h : s.ok) {f x : Int} (f0 : 0 ≤ f) (f1 : f < 64) : (s.left f x).sub s := by
  refine ⟨fun z => clr_sub h.c f0 f1 z, fun z => ?_, fun z => ?_⟩ <;> dsimp only [Sp.left] <;> split
  · exact clr_sub h.u f0 f1 z
  · exact id
  · exact clr_sub h.d f0 f1 z
  · exact id
theorem Sp.sub.hall {t s : Sp} (h : t.sub s) {y e : Int} (k : s.hall y e = false) : t.hall y e = false := by
  unfold Sp.hall at *
  split
  · rename_i g
    rw [if_pos g] at k
    exact Bool.eq_false_iff.2 fun q => by rw [h.u y q] at k; cases k
  · rename_i g
    rw [if_neg g] at k
    split
    · rename_i g'
      rw [if_pos g'] at k
      exact Bool.eq_false_iff.2 fun q => by rw [h.d y q] at k; cases k
    · rfl
theorem Sp.sub.car {t s : Sp} (h : t.sub s) {y : Int} (k : hasB s.c y = false) : hasB t.c y = false := Bool.eq_false_iff.2 fun q => by rw [h.c y q] at k; cases k
theorem Sp.sub.all {t s : Sp} (h : t.sub s) {y : Int} (k : hasB s.all y = false) : hasB t.all y = false := by
  rw [all_parts] at *
  simp only [Bool.or_eq_false_iff] at *
  exact ⟨⟨h.car k.1.1, h.hall k.1.2⟩, h.hall k.2⟩
theorem left_cnt {s : Sp} (h : s.ok) {f d : Int} (f0 : 0 ≤ f) (f1 : f < 64) (hs : s.stop f d = true) : (s.left f (s.head f d)).cnt < s.cnt := by
  obtain ⟨x, hx⟩ : ∃ x, x = s.head f d := ⟨_, rfl⟩
  unfold Sp.stop at hs
  rw [← hx] at hs ⊢
  have S := left_sub h (x := x) f0 f1
  have A := cnt_le S.c
  have B := cnt_le S.u
  have C := cnt_le S.d
  rw [Bool.or_eq_true] at hs
  rcases hs with k | k
  · have : cntN (s.left f x).c < cntN s.c := cnt_lt S.c f0 f1 k (clr_self h.c f0 f1)
    unfold Sp.cnt; omega
  · rcases hall_dir k with e | e
    · have : cntN (s.left f x).u < cntN s.u := by
        refine cnt_lt S.u f0 f1 (by rw [e] at k; exact k) ?_
        rw [e]; exact clr_self h.u f0 f1
      unfold Sp.cnt; omega
    · have : cntN (s.left f x).d < cntN s.d := by
        refine cnt_lt S.d f0 f1 (by rw [e] at k; exact k) ?_
        rw [e]; exact clr_self h.d f0 f1
      unfold Sp.cnt; omega
/-- How far it is to the end of the house. -/
def farN (d f : Int) : Int := if d = 1 then 63 - f else f
/-- Under way: t turns done, M steps to come at most. -/
structure Sw (s : Sp) (f d t M : Int) : Prop where
  ok : s.ok
  f0 : 0 ≤ f
  f1 : f < 64
  hd : d = 0 ∨ d = 1 ∨ d = -1
  t0 : 0 ≤ t
  t2 : t ≤ 2
  m0 : 0 ≤ M
  ph : (s.all = 0 ∧ d = 0) ∨ (t = 0 ∧ d = 0 ∧ s.cnt + 189 ≤ M) ∨ (t = 0 ∧ d ≠ 0 ∧ s.cnt + 126 + farN d f ≤ M) ∨
    (t = 1 ∧ d ≠ 0 ∧ s.cnt + 63 + farN d f ≤ M ∧ ∀ y, ah (-d) f y → hasB s.c y = false ∧ s.hall y d = false) ∨
    (t = 2 ∧ d ≠ 0 ∧ s.cnt + farN d f ≤ M ∧ (∀ y, ah (-d) f y → hasB s.all y = false) ∧ ∀ y, s.hall y (-d) = false)
theorem far_in {f d : Int} (f0 : 0 ≤ f) (f1 : f < 64) : 0 ≤ farN d f ∧ farN d f ≤ 63 := by unfold farN; split <;> omega
theorem Sw.first {s : Sp} (h : s.ok) {f d : Int} (f0 : 0 ≤ f) (f1 : f < 64) (hd : d = 0 ∨ d = 1 ∨ d = -1) : Sw s f d 0 381 := by
  have c := s.cnt_192
  have k := far_in (d := d) f0 f1
  refine ⟨h, f0, f1, hd, by omega, by omega, by omega, ?_⟩
  by_cases e : d = 0
  · exact .inr (.inl ⟨rfl, e, by omega⟩)
  · exact .inr (.inr (.inl ⟨rfl, e, by omega⟩))
theorem tow_no {s : Sp} (h : s.ok) {f e y : Int} (k : towB s.all f e = false) (a : ah e f y) : hasB s.all y = false :=
  Bool.eq_false_iff.2 fun q => by rw [(towB_iff h.all f e).2 ⟨y, a, q⟩] at k; cases k
theorem no_all {s : Sp} {y : Int} (k : hasB s.all y = false) (e : Int) : hasB s.c y = false ∧ s.hall y e = false := by
  refine ⟨Bool.eq_false_iff.2 fun q => ?_, Bool.eq_false_iff.2 fun q => ?_⟩
  · rw [car_all q] at k; cases k
  · rw [hall_all q] at k; cases k
theorem all_zero {s : Sp} (h : s.all = 0) (f e : Int) : towB s.all f e = false ∧ s.hall f e = false ∧ hasB s.c f = false := by
  have z : hasB s.all f = false := by rw [h]; exact hasB_zero f
  refine ⟨Bool.eq_false_iff.2 fun q => ?_, (no_all z e).2, (no_all z e).1⟩
  rw [h] at q
  obtain ⟨y, _, r⟩ := (towB_iff (by decide) f e).1 q
  rw [hasB_zero] at r; cases r
/-- Is it a turn? -/
def turnN (d x : Int) : Int := if d ≠ 0 ∧ x = -d then 1 else 0
theorem Sw.turn {s : Sp} {f d t M : Int} (H : Sw s f d t M) {x : Int} (K : HeadIs s f d x) (hx : x ≠ 0) : Sw s f x (t + turnN d x) M := by
  obtain ⟨ok, f0, f1, hd, t0, t2, m0, ph⟩ := H
  have fx := far_in (d := x) f0 f1
  have fd := far_in (d := d) f0 f1
  have hxs := K.small
  have hw := K.why hx
  rcases ph with ⟨a, _⟩ | ⟨rfl, rfl, a⟩ | ⟨rfl, d0, a⟩ | ⟨rfl, d0, a, b⟩ | ⟨rfl, d0, a, b, c⟩
  · have z := all_zero a f x
    rw [z.1, z.2.1] at hw
    simp at hw
  · have e : turnN 0 x = 0 := if_neg (fun k => k.1 rfl)
    rw [e]
    exact ⟨ok, f0, f1, hxs, by omega, by omega, m0, .inr (.inr (.inl ⟨rfl, hx, by omega⟩))⟩
  · by_cases h : x = -d
    · have e : turnN d x = 1 := if_pos ⟨d0, h⟩
      have n := K.turn d0 h
      rw [e]
      refine ⟨ok, f0, f1, hxs, by omega, by omega, m0, .inr (.inr (.inr (.inl ⟨rfl, hx, by omega, fun y hy => ?_⟩)))⟩
      rw [h, Int.neg_neg] at hy
      exact no_all (tow_no ok n.1 hy) x
    · have e : turnN d x = 0 := if_neg (fun k => h k.2)
      have ed : x = d := by omega
      rw [e, ed]
      exact ⟨ok, f0, f1, hd, by omega, by omega, m0, .inr (.inr (.inl ⟨rfl, d0, a⟩))⟩
  · by_cases h : x = -d
    · have e : turnN d x = 1 := if_pos ⟨d0, h⟩
      have n := K.turn d0 h
      rw [e]
      refine ⟨ok, f0, f1, hxs, by omega, by omega, m0, .inr (.inr (.inr (.inr ⟨rfl, hx, by omega, fun y hy => ?_, fun y => ?_⟩)))⟩
      · rw [h, Int.neg_neg] at hy
        exact tow_no ok n.1 hy
      · rw [h, Int.neg_neg]
        by_cases g : y = f
        · rw [g]; exact n.2
        · by_cases g2 : ah d f y
          · exact (no_all (tow_no ok n.1 g2) d).2
          · exact (b y (by unfold ah at g2 ⊢; omega)).2
    · have e : turnN d x = 0 := if_neg (fun k => h k.2)
      have ed : x = d := by omega
      rw [e, ed]
      exact ⟨ok, f0, f1, hd, by omega, by omega, m0, .inr (.inr (.inr (.inl ⟨rfl, d0, a, b⟩)))⟩
  · by_cases h : x = -d
    · rw [h] at hw
      rcases hw with k | k
      · obtain ⟨y, g, q⟩ := (towB_iff ok.all f (-d)).1 k
        rw [b y g] at q; cases q
      · rw [c f] at k; cases k
    · have e : turnN d x = 0 := if_neg (fun k => h k.2)
      have ed : x = d := by omega
      rw [e, ed]
      exact ⟨ok, f0, f1, hd, by omega, by omega, m0, .inr (.inr (.inr (.inr ⟨rfl, d0, a, b, c⟩)))⟩
theorem Sw.stays {s l : Sp} {f x t M : Int} (H : Sw s f x t M) (hx : x ≠ 0) (lo : l.ok) (S : l.sub s) (C : l.cnt < s.cnt) : Sw l f x t (M - 1) := by
  obtain ⟨ok, f0, f1, hd, t0, t2, m0, ph⟩ := H
  have fx := far_in (d := x) f0 f1
  rcases ph with ⟨_, a⟩ | ⟨_, a, _⟩ | ⟨rfl, d0, a⟩ | ⟨rfl, d0, a, b⟩ | ⟨rfl, d0, a, b, c⟩
  · exact absurd a hx
  · exact absurd a hx
  · exact ⟨lo, f0, f1, hd, t0, t2, by omega, .inr (.inr (.inl ⟨rfl, d0, by omega⟩))⟩
  · exact ⟨lo, f0, f1, hd, t0, t2, by omega, .inr (.inr (.inr (.inl ⟨rfl, d0, by omega, fun y hy => ⟨S.car (b y hy).1, S.hall (b y hy).2⟩⟩)))⟩
  · exact ⟨lo, f0, f1, hd, t0, t2, by omega, .inr (.inr (.inr (.inr ⟨rfl, d0, by omega, fun y hy => S.all (b y hy), fun y => S.hall (c y)⟩)))⟩
theorem Sw.moves {s : Sp} {f x t M : Int} (H : Sw s f x t M) (hx : x ≠ 0) (T : towB s.all f x = true) (N1 : hasB s.c f = false) (N2 : s.hall f x = false) : Sw s (f + x) x t (M - 1) ∧ 0 ≤ f + x ∧ f + x < 64 := by
  obtain ⟨ok, f0, f1, hd, t0, t2, m0, ph⟩ := H
  obtain ⟨y, g, q⟩ := (towB_iff ok.all f x).1 T
  have r := hasB_range ok.all q
  have R : 0 ≤ f + x ∧ f + x < 64 := by unfold ah at g; omega
  have e : farN x (f + x) = farN x f - 1 := by
    unfold farN
    split <;> omega
  have fx := far_in (d := x) R.1 R.2
  have ha : ∀ z, ah (-x) (f + x) z → z = f ∨ ah (-x) f z := fun z k => by unfold ah at *; omega
  refine ⟨?_, R⟩
  rcases ph with ⟨_, a⟩ | ⟨_, a, _⟩ | ⟨rfl, d0, a⟩ | ⟨rfl, d0, a, b⟩ | ⟨rfl, d0, a, b, c⟩
  · exact absurd a hx
  · exact absurd a hx
  · exact ⟨ok, R.1, R.2, hd, t0, t2, by omega, .inr (.inr (.inl ⟨rfl, d0, by omega⟩))⟩
  · refine ⟨ok, R.1, R.2, hd, t0, t2, by omega, .inr (.inr (.inr (.inl ⟨rfl, d0, by omega, fun z hz => ?_⟩)))⟩
    rcases ha z hz with rfl | k
    · exact ⟨N1, N2⟩
    · exact b z k
  · refine ⟨ok, R.1, R.2, hd, t0, t2, by omega, .inr (.inr (.inr (.inr ⟨rfl, d0, by omega, fun z hz => ?_, c⟩)))⟩
    rcases ha z hz with rfl | k
    · rw [all_parts, N1]
      have c' := c z
      rcases hd with rfl | rfl | rfl
      · exact absurd rfl hx
      · rw [N2, c']; rfl
      · have c'' : s.hall z 1 = false := c'
        rw [N2, c'']; rfl
    · exact b z k
/-- What is left behind a stop is less, and is under way. -/
theorem Sw.stop {s : Sp} {f d t M : Int} (H : Sw s f d t M) (hs : s.stop f d = true) :
    Sw (s.left f (s.head f d)) f (s.head f d) (t + turnN d (s.head f d)) (M - 1) ∧ 0 < M ∧ s.all ≠ 0 ∧ ¬ ((s.left f (s.head f d)).c = s.c ∧ (s.left f (s.head f d)).u = s.u ∧ (s.left f (s.head f d)).d = s.d) := by
  have K := head_is H.ok H.f0 H.f1 H.hd
  have C := left_cnt H.ok H.f0 H.f1 hs
  have S := left_sub H.ok (x := s.head f d) H.f0 H.f1
  have L := Sp.left_ok H.ok f (s.head f d)
  have hs' : hasB s.c f = true ∨ s.hall f (s.head f d) = true := by unfold Sp.stop at hs; rwa [Bool.or_eq_true] at hs
  have A : hasB s.all f = true := hs'.elim car_all hall_all
  have A0 : s.all ≠ 0 := fun e => by rw [e, hasB_zero] at A; cases A
  have NE : ¬ ((s.left f (s.head f d)).c = s.c ∧ (s.left f (s.head f d)).u = s.u ∧ (s.left f (s.head f d)).d = s.d) := fun ⟨a, b, c⟩ => by
    unfold Sp.cnt at C; rw [a, b, c] at C; omega
  have fx := far_in (d := d) H.f0 H.f1
  have M0 : 0 < M := by
    rcases H.ph with ⟨a, _⟩ | ⟨_, _, a⟩ | ⟨_, _, a⟩ | ⟨_, _, a, _⟩ | ⟨_, _, a, _⟩
    · exact absurd a A0
    all_goals omega
  refine ⟨?_, M0, A0, NE⟩
  obtain ⟨x, hxx⟩ : ∃ x, x = s.head f d := ⟨_, rfl⟩
  rw [← hxx] at K C S L hs' NE ⊢
  by_cases hx : x = 0
  · have n := K.none hx
    have e : turnN d x = 0 := if_neg (fun k => by omega)
    have e' : t + 0 = t := by omega
    rw [e, e']
    clear hxx
    subst hx
    refine ⟨L, H.f0, H.f1, .inl rfl, H.t0, H.t2, by omega, .inl ⟨?_, rfl⟩⟩
    have tn : ∀ g, towB s.all f g = false → towB (s.left f 0).all f g = false := fun g k => Bool.eq_false_iff.2 fun q => by
      obtain ⟨y, i, j⟩ := (towB_iff L.all f g).1 q
      rw [S.all (tow_no H.ok k i)] at j; cases j
    refine tow_none L (tn 1 n.1) (tn (-1) n.2.1) ?_
    rw [all_parts, S.hall n.2.2.1, S.hall n.2.2.2, show hasB (s.left f 0).c f = false from clr_self H.ok.c H.f0 H.f1]; rfl
  · exact (H.turn K hx).stays hx L S C
theorem Sw.move {s : Sp} {f d t M : Int} (H : Sw s f d t M) (hs : s.stop f d = false) (hx : s.head f d ≠ 0) :
    Sw s (f + s.head f d) (s.head f d) (t + turnN d (s.head f d)) (M - 1) ∧ 0 ≤ f + s.head f d ∧ f + s.head f d < 64 := by
  have K := head_is H.ok H.f0 H.f1 H.hd
  unfold Sp.stop at hs
  rw [Bool.or_eq_false_iff] at hs
  refine (H.turn K hx).moves hx ?_ hs.1 hs.2
  exact (K.why hx).resolve_right (by rw [hs.2]; simp)
theorem Sw.ends {s : Sp} {f d t M : Int} (H : Sw s f d t M) (hs : s.stop f d = false) (hx : s.head f d = 0) : s.all = 0 := by
  have n := (head_is H.ok H.f0 H.f1 H.hd).none hx
  unfold Sp.stop at hs
  rw [Bool.or_eq_false_iff] at hs
  refine tow_none H.ok n.1 n.2.1 ?_
  rw [all_parts, hs.1, n.2.2.1, n.2.2.2]; rfl
end Go.Proofs.YtgcgbiaigbblkaaDoor
