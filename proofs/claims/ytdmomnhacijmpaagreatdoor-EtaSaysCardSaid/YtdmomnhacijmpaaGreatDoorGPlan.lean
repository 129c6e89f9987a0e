/- Does something lie that way? What is done at a floor, plainly: the new direction, whether a car stops, the way in which it goes on; a sweep's measure. A car that does what is done at each floor: it turns twice at most, each step brings it nearer to the end. Plain. One call alone: plain. What is done at a floor: the package's. -/
import Derived.Test.YtdmomnhacijmpaaGreatDoorGAhd
namespace Go.Proofs.YtdmomnhacijmpaaGreatDoor
open Go.RowKit

/-- Does something lie that way? -/
theorem toward_any (s : Sp) (z e : Int) (w : World) (h : s.ok) (b : Bool) (h1 : e = 1 → (b = true ↔ ∃ y, z < y ∧ hasB s.all y = true)) (h2 : e = -1 → (b = true ↔ ∃ y, y < z ∧ hasB s.all y = true)) (h3 : e ≠ 1 → e ≠ -1 → b = false) :
    Calls Tryz.prog 103 #[s.v, .int .i64 z, .int .i64 e] w fun x w' => x = .returned (.bool b) ∧ Fr w w' [] := by
  have AB := Lib.hid (fun (hb : e = 1) W => aboveB_any s z W h b (h1 hb))
  have BE := Lib.hid (fun (hb : e = -1) W => belowB_any s z W h b (h2 hb))
  have H3 := Lib.hid h3
  obtain ⟨p, u, d⟩ := s
  have HS := Lib.hid (SS.new w 30 p u d)
  clear h1 h2 h3 h
  dsimp only [Sp.v] at *
  by_cases e1 : e = 1
  · have AX := Lib.hid (fun W => AB.out e1 W)
    subst e1
    clear AB BE H3
    obtain ⟨_, c0, c1, c2⟩ := HS.out
    go_enter Tryz.func103, Tryz.ntmps103
    go_wp2_with fail
    with_reducible refine (AX.out _).mono ?_
    rintro e w2 ⟨rfl, hf⟩
    have F2 := Lib.hid (HS.out.1.trans hf)
    clear hf c0 c1 c2
    go_wp2
    go_ret
    exact ⟨rfl, F2.out⟩
  · have k1 : (e == 1) = false := by simp [e1]
    by_cases e2 : e = -1
    · have AX := Lib.hid (fun W => BE.out e2 W)
      have k2 : (e == -1) = true := by simp [e2]
      clear AB BE H3 e1 e2
      obtain ⟨_, c0, c1, c2⟩ := HS.out
      go_enter Tryz.func103, Tryz.ntmps103
      go_wp2_with fail
      with_reducible refine (AX.out _).mono ?_
      rintro x w2 ⟨rfl, hf⟩
      have F2 := Lib.hid (HS.out.1.trans hf)
      clear hf c0 c1 c2
      go_wp2
      go_ret
      exact ⟨rfl, F2.out⟩
    · have HV := Lib.hid (H3.out e1 e2)
      have k2 : (e == -1) = false := by simp [e2]
      clear AB BE H3 e1 e2
      go_enter Tryz.func103, Tryz.ntmps103
      go_wp2
      go_ret
      exact ⟨by rw [HV.out]; rfl, HS.out.1⟩

end Go.Proofs.YtdmomnhacijmpaaGreatDoor

namespace Go.Proofs.YtdmomnhacijmpaaGreatDoor

/-- Something lies above, below. -/
def upB (n : Nat) (f : Int) : Bool := decide (upN n (min (max f (-1)) 64) ≠ 0)
def dnB (n : Nat) (f : Int) : Bool := decide (dnN n (min (max f (-1)) 64) ≠ 0)
theorem upB_iff {n : Nat} (hn : n < 18446744073709551616) (f : Int) : upB n f = true ↔ ∃ y, f < y ∧ hasB n y = true := by
  obtain ⟨c, hc⟩ : ∃ c, c = min (max f (-1)) 64 := ⟨_, rfl⟩
  rw [upB, ← hc, decide_eq_true_iff]
  exact (upN_some (by omega)).trans ⟨fun ⟨y, a, q⟩ => ⟨y, ((near_cut hn hc y q).1).2 a, q⟩, fun ⟨y, a, q⟩ => ⟨y, ((near_cut hn hc y q).1).1 a, q⟩⟩
theorem dnB_iff {n : Nat} (hn : n < 18446744073709551616) (f : Int) : dnB n f = true ↔ ∃ y, y < f ∧ hasB n y = true := by
  obtain ⟨c, hc⟩ : ∃ c, c = min (max f (-1)) 64 := ⟨_, rfl⟩
  rw [dnB, ← hc, decide_eq_true_iff]
  exact (dnN_some (by omega)).trans ⟨fun ⟨y, a, q⟩ => ⟨y, ((near_cut hn hc y q).2).2 a, q⟩, fun ⟨y, a, q⟩ => ⟨y, ((near_cut hn hc y q).2).1 a, q⟩⟩
/-- The way e of f. -/
def ah (e f y : Int) : Prop := (e = 1 ∧ f < y) ∨ (e = -1 ∧ y < f)
def towB (n : Nat) (f e : Int) : Bool := if e = 1 then upB n f else if e = -1 then dnB n f else false
theorem towB_iff {n : Nat} (hn : n < 18446744073709551616) (f e : Int) : towB n f e = true ↔ ∃ y, ah e f y ∧ hasB n y = true := by
  unfold towB ah
  split
  · rename_i h; subst h
    rw [upB_iff hn]
    exact ⟨fun ⟨y, a, b⟩ => ⟨y, .inl ⟨rfl, a⟩, b⟩, fun ⟨y, a, b⟩ => ⟨y, by omega, b⟩⟩
  · split
    · rename_i h; subst h
      rw [dnB_iff hn]
      exact ⟨fun ⟨y, a, b⟩ => ⟨y, .inr ⟨rfl, a⟩, b⟩, fun ⟨y, a, b⟩ => ⟨y, by omega, b⟩⟩
    · refine ⟨fun e => (by cases e), fun ⟨y, a, b⟩ => by omega⟩
def nearN (n : Nat) (f : Int) : Int := nearC (upN n (min (max f (-1)) 64)) (dnN n (min (max f (-1)) 64))
theorem nearN_is {n : Nat} (hn : n < 18446744073709551616) (f : Int) : NearIs n (min (max f (-1)) 64) (nearN n f) := near_code hn (by omega) (by omega)

/-- The new direction; whether it stops. -/
def Sp.head (s : Sp) (f d : Int) : Int :=
  if d = 0 then (if s.hall f 1 = true then 1 else if s.hall f (-1) = true then -1 else nearN s.all f)
  else if (towB s.all f d || s.hall f d) = true then d
  else if (towB s.all f (-d) || s.hall f (-d)) = true then -d else 0
def Sp.stop (s : Sp) (f d : Int) : Bool := hasB s.c f || s.hall f (s.head f d)
/-- What is done at a floor. -/
structure De where
  stop : Bool
  dir : Int
  move : Int
def zDe : De := ⟨false, 0, 0⟩
def Sp.deed (s : Sp) (f d : Int) : De :=
  if 0 ≤ f ∧ f < 64 ∧ -1 ≤ d ∧ d ≤ 1 then ⟨s.stop f d, s.head f d, if s.stop f d = true then 0 else s.head f d⟩ else zDe
theorem deed_in {s : Sp} {f d : Int} (h : 0 ≤ f ∧ f < 64 ∧ -1 ≤ d ∧ d ≤ 1) : s.deed f d = ⟨s.stop f d, s.head f d, if s.stop f d = true then 0 else s.head f d⟩ := if_pos h
theorem deed_out {s : Sp} {f d : Int} (h : ¬ (0 ≤ f ∧ f < 64 ∧ -1 ≤ d ∧ d ≤ 1)) : s.deed f d = zDe := if_neg h

theorem hall_all {s : Sp} {f e : Int} (h : s.hall f e = true) : hasB s.all f = true := by
  unfold Sp.hall at h
  rw [Sp.all, hasB_or, hasB_or]
  split at h
  · rw [h]; simp
  · split at h
    · rw [h]; simp
    · cases h
theorem hall_none (s : Sp) (f : Int) : s.hall f 0 = false := rfl
theorem car_all {s : Sp} {f : Int} (h : hasB s.c f = true) : hasB s.all f = true := by
  rw [Sp.all, hasB_or, hasB_or, h]; rfl
theorem all_parts (s : Sp) (f : Int) : hasB s.all f = (hasB s.c f || s.hall f 1 || s.hall f (-1)) := by
  rw [Sp.all, hasB_or, hasB_or]; rfl
theorem hall_dir {s : Sp} {f e : Int} (h : s.hall f e = true) : e = 1 ∨ e = -1 := by
  unfold Sp.hall at h
  split at h
  · rename_i k; exact .inl k
  · split at h
    · rename_i k; exact .inr k
    · cases h

/-- What the new direction tells. -/
structure HeadIs (s : Sp) (f d x : Int) : Prop where
  small : x = 0 ∨ x = 1 ∨ x = -1
  keep : d ≠ 0 → (towB s.all f d = true ∨ s.hall f d = true) → x = d
  turn : d ≠ 0 → x = -d → towB s.all f d = false ∧ s.hall f d = false
  why : x ≠ 0 → towB s.all f x = true ∨ s.hall f x = true
  none : x = 0 → towB s.all f 1 = false ∧ towB s.all f (-1) = false ∧ s.hall f 1 = false ∧ s.hall f (-1) = false
theorem head_is {s : Sp} (h : s.ok) {f d : Int} (f0 : 0 ≤ f) (f1 : f < 64) (hd : d = 0 ∨ d = 1 ∨ d = -1) : HeadIs s f d (s.head f d) := by
  have NI := nearN_is h.all f
  rw [show min (max f (-1)) 64 = f by omega] at NI
  obtain ⟨x, hx⟩ : ∃ x, x = s.head f d := ⟨_, rfl⟩
  rw [← hx]
  unfold Sp.head at hx
  by_cases d0 : d = 0
  · rw [if_pos d0] at hx
    subst d0
    by_cases h1 : s.hall f 1 = true
    · rw [if_pos h1] at hx
      subst hx
      exact ⟨by simp, fun a => absurd rfl a, fun a => absurd rfl a, fun _ => .inr h1, fun a => by cases a⟩
    · rw [if_neg h1] at hx
      by_cases h2 : s.hall f (-1) = true
      · rw [if_pos h2] at hx
        subst hx
        exact ⟨by simp, fun a => absurd rfl a, fun a => absurd rfl a, fun _ => .inr h2, fun a => by cases a⟩
      · rw [if_neg h2] at hx
        rw [← hx] at NI
        refine ⟨NI.small, fun a => absurd rfl a, fun a => absurd rfl a, fun hne => .inl ?_, fun h0 => ?_⟩
        · rw [towB_iff h.all]
          rcases NI with ⟨rfl, _⟩ | ⟨rfl, k, hk, hb, _⟩ | ⟨rfl, k, hk, hb, _⟩
          · exact absurd rfl hne
          · exact ⟨_, .inl ⟨rfl, by omega⟩, hb⟩
          · exact ⟨_, .inr ⟨rfl, by omega⟩, hb⟩
        · subst h0
          rcases NI with ⟨_, a⟩ | ⟨a, _⟩ | ⟨a, _⟩
          · refine ⟨?_, ?_, by simpa using h1, by simpa using h2⟩
            · refine Bool.eq_false_iff.2 fun t => ?_
              obtain ⟨y, q, r⟩ := (towB_iff h.all f 1).1 t
              have := (a (y - f) (by unfold ah at q; omega)).1
              rw [show f + (y - f) = y by omega, r] at this
              cases this
            · refine Bool.eq_false_iff.2 fun t => ?_
              obtain ⟨y, q, r⟩ := (towB_iff h.all f (-1)).1 t
              have := (a (f - y) (by unfold ah at q; omega)).2
              rw [show f - (f - y) = y by omega, r] at this
              cases this
          · cases a
          · cases a
  · rw [if_neg d0] at hx
    by_cases h1 : (towB s.all f d || s.hall f d) = true
    · rw [if_pos h1] at hx
      subst hx
      rw [Bool.or_eq_true] at h1
      exact ⟨hd, fun _ _ => rfl, fun _ a => by omega, fun _ => h1, fun a => absurd a d0⟩
    · rw [if_neg h1] at hx
      have g1 : towB s.all f d = false ∧ s.hall f d = false := by simpa using h1
      by_cases h2 : (towB s.all f (-d) || s.hall f (-d)) = true
      · rw [if_pos h2] at hx
        subst hx
        rw [Bool.or_eq_true] at h2
        exact ⟨by omega, fun _ a => by rw [g1.1, g1.2] at a; simp at a, fun _ _ => g1, fun _ => h2, fun a => by omega⟩
      · rw [if_neg h2] at hx
        subst hx
        have g2 : towB s.all f (-d) = false ∧ s.hall f (-d) = false := by simpa using h2
        refine ⟨by simp, fun _ a => by rw [g1.1, g1.2] at a; simp at a, fun _ a => by omega, fun a => absurd rfl a, fun _ => ?_⟩
        rcases hd with rfl | rfl | rfl
        · exact absurd rfl d0
        · exact ⟨g1.1, g2.1, g1.2, g2.2⟩
        · exact ⟨g2.1, g1.1, g2.2, g1.2⟩
theorem tow_none {s : Sp} (h : s.ok) {f : Int} (a : towB s.all f 1 = false) (b : towB s.all f (-1) = false) (c : hasB s.all f = false) : s.all = 0 := by
  refine ext_hasB fun y => ?_
  rw [hasB_zero]
  refine Bool.eq_false_iff.2 fun t => ?_
  rcases Int.lt_trichotomy y f with g | g | g
  · rw [(towB_iff h.all f (-1)).2 ⟨y, .inr ⟨rfl, g⟩, t⟩] at b; cases b
  · rw [← g, t] at c; cases c
  · rw [(towB_iff h.all f 1).2 ⟨y, .inl ⟨rfl, g⟩, t⟩] at a; cases a
end Go.Proofs.YtdmomnhacijmpaaGreatDoor

namespace Go.Proofs.YtdmomnhacijmpaaGreatDoor

/-- Without a floor's bit. -/
def clrN (n : Nat) (f : Int) : Nat := n &&& (18446744073709551615 - oneN f)
theorem clrN_lt {n : Nat} (h : n < 18446744073709551616) (f : Int) : clrN n f < 18446744073709551616 := Nat.lt_of_le_of_lt Nat.and_le_left h
theorem hasB_clr {n : Nat} (hn : n < 18446744073709551616) {f : Int} (_ : 0 ≤ f) (_ : f < 64) (z : Int) : hasB (clrN n f) z = (hasB n z && !decide (z = f)) := by
  by_cases hz : z < 0
  · rw [hasB_neg hz, hasB_neg hz]; rfl
  · by_cases hb : 64 ≤ z
    · rw [hasB_big (clrN_lt hn f) hb, hasB_big hn hb]; rfl
    · obtain ⟨i, rfl⟩ : ∃ i : Nat, z = (i : Int) := ⟨z.toNat, by omega⟩
      rw [hasB_nat, hasB_nat, clrN, Nat.testBit_and, show 18446744073709551615 - oneN f = 2 ^ 64 - (oneN f + 1) by rw [show (2 : Nat) ^ 64 = 18446744073709551616 from rfl]; omega,
        Nat.testBit_two_pow_sub_succ (show oneN f < 2 ^ 64 by have := oneN_lt f; simpa using this), decide_eq_true (by omega), Bool.true_and, ← hasB_nat (oneN f), hasB_one]
      congr 2
      exact decide_eq_decide.2 (by omega)
/-- How many bits. -/
def cntN (n : Nat) : Nat := (List.range 64).countP n.testBit
theorem countP_lt {p q : Nat → Bool} : ∀ (l : List Nat), (∀ x, p x = true → q x = true) → (∃ x ∈ l, q x = true ∧ p x = false) → l.countP p < l.countP q
  | [], _, h => by obtain ⟨x, hx, _⟩ := h; cases hx
  | a :: l, hs, h => by
    have hle : l.countP p ≤ l.countP q := List.countP_mono_left fun x _ hx => hs x hx
    rw [List.countP_cons, List.countP_cons]
    obtain ⟨x, hx, hq, hp⟩ := h
    rcases List.mem_cons.1 hx with rfl | hx
    · rw [hq, hp]; simp; omega
    · have := countP_lt l hs ⟨x, hx, hq, hp⟩
      cases e : p a
      · simp; omega
      · rw [hs a e]; simp; omega
theorem cnt_le {m n : Nat} (h : ∀ z : Int, hasB m z = true → hasB n z = true) : cntN m ≤ cntN n :=
  List.countP_mono_left fun i _ hi => by rw [← hasB_nat] at hi ⊢; exact h _ hi
theorem cnt_lt {m n : Nat} (h : ∀ z : Int, hasB m z = true → hasB n z = true) {f : Int} (f0 : 0 ≤ f) (f1 : f < 64) (a : hasB n f = true) (b : hasB m f = false) : cntN m < cntN n := by
  refine countP_lt _ (fun i hi => by rw [← hasB_nat] at hi ⊢; exact h _ hi) ⟨f.toNat, List.mem_range.2 (by omega), ?_, ?_⟩
  · rw [← hasB_nat, Int.toNat_of_nonneg f0]; exact a
  · rw [← hasB_nat, Int.toNat_of_nonneg f0]; exact b
theorem cnt_64 (n : Nat) : cntN n ≤ 64 := by
  have := List.countP_le_length (p := n.testBit) (l := List.range 64)
  simpa [cntN] using this
def Sp.cnt (s : Sp) : Nat := cntN s.c + cntN s.u + cntN s.d
theorem Sp.cnt_192 (s : Sp) : s.cnt ≤ 192 := by
  have := cnt_64 s.c
  have := cnt_64 s.u
  have := cnt_64 s.d
  unfold Sp.cnt; omega
/-- What is left behind a stop. -/
def Sp.left (s : Sp) (f x : Int) : Sp := ⟨clrN s.c f, if 0 < x then clrN s.u f else s.u, if x < 0 then clrN s.d f else s.d⟩
theorem Sp.left_ok {s : Sp} (h : s.ok) (f x : Int) : (s.left f x).ok := by
  refine ⟨clrN_lt h.c f, ?_, ?_⟩ <;> dsimp only [Sp.left]
  · split
    · exact clrN_lt h.u f
    · exact h.u
  · split
    · exact clrN_lt h.d f
    · exact h.d
/-- A part of it. -/
structure Sp.sub (t s : Sp) : Prop where
  c : ∀ z, hasB t.c z = true → hasB s.c z = true
  u : ∀ z, hasB t.u z = true → hasB s.u z = true
  d : ∀ z, hasB t.d z = true → hasB s.d z = true
theorem clr_sub {n : Nat} (hn : n < 18446744073709551616) {f : Int} (f0 : 0 ≤ f) (f1 : f < 64) (z : Int) (h : hasB (clrN n f) z = true) : hasB n z = true := by
  rw [hasB_clr hn f0 f1, Bool.and_eq_true] at h; exact h.1
theorem clr_self {n : Nat} (hn : n < 18446744073709551616) {f : Int} (f0 : 0 ≤ f) (f1 : f < 64) : hasB (clrN n f) f = false := by
  rw [hasB_clr hn f0 f1]; simp
theorem left_sub {s : Sp} (h : s.ok) {f x : Int} (f0 : 0 ≤ f) (f1 : f < 64) : (s.left f x).sub s := by
  refine ⟨fun z => clr_sub h.c f0 f1 z, fun z => ?_, fun z => ?_⟩ <;> dsimp only [Sp.left] <;> split
  · exact clr_sub h.u f0 f1 z
  · exact id
  · exact clr_sub h.d f0 f1 z
  · exact id
theorem Sp.sub.hall {t s : Sp} (h : t.sub s) {y e : Int} (k : s.hall y e = false) : t.hall y e = false := by
  unfold Sp.hall at *
  split
  · rename_i g
    rw [if_pos g] at k
    exact Bool.eq_false_iff.2 fun q => by rw [h.u y q] at k; cases k
  · rename_i g
    rw [if_neg g] at k
    split
    · rename_i g'
      rw [if_pos g'] at k
      exact Bool.eq_false_iff.2 fun q => by rw [h.d y q] at k; cases k
    · rfl
theorem Sp.sub.car {t s : Sp} (h : t.sub s) {y : Int} (k : hasB s.c y = false) : hasB t.c y = false := Bool.eq_false_iff.2 fun q => by rw [h.c y q] at k; cases k
theorem Sp.sub.all {t s : Sp} (h : t.sub s) {y : Int} (k : hasB s.all y = false) : hasB t.all y = false := by
  rw [all_parts] at *
  simp only [Bool.or_eq_false_iff] at *
  exact ⟨⟨h.car k.1.1, h.hall k.1.2⟩, h.hall k.2⟩
theorem left_cnt {s : Sp} (h : s.ok) {f d : Int} (f0 : 0 ≤ f) (f1 : f < 64) (hs : s.stop f d = true) : (s.left f (s.head f d)).cnt < s.cnt := by
  obtain ⟨x, hx⟩ : ∃ x, x = s.head f d := ⟨_, rfl⟩
  unfold Sp.stop at hs
  rw [← hx] at hs ⊢
  have S := left_sub h (x := x) f0 f1
  have A := cnt_le S.c
  have B := cnt_le S.u
  have C := cnt_le S.d
  rw [Bool.or_eq_true] at hs
  rcases hs with k | k
  · have : cntN (s.left f x).c < cntN s.c := cnt_lt S.c f0 f1 k (clr_self h.c f0 f1)
    unfold Sp.cnt; omega
  · rcases hall_dir k with e | e
    · have : cntN (s.left f x).u < cntN s.u := by
        refine cnt_lt S.u f0 f1 (by rw [e] at k; exact k) ?_
        rw [e]; exact clr_self h.u f0 f1
      unfold Sp.cnt; omega
    · have : cntN (s.left f x).d < cntN s.d := by
        refine cnt_lt S.d f0 f1 (by rw [e] at k; exact k) ?_
        rw [e]; exact clr_self h.d f0 f1
      unfold Sp.cnt; omega
/-- How far it is to the end of the house. -/
def farN (d f : Int) : Int := if d = 1 then 63 - f else f
/-- Under way: t turns done, M steps to come at most. -/
structure Sw (s : Sp) (f d t M : Int) : Prop where
  ok : s.ok
  f0 : 0 ≤ f
  f1 : f < 64
  hd : d = 0 ∨ d = 1 ∨ d = -1
  t0 : 0 ≤ t
  t2 : t ≤ 2
  m0 : 0 ≤ M
  ph : (s.all = 0 ∧ d = 0) ∨ (t = 0 ∧ d = 0 ∧ s.cnt + 189 ≤ M) ∨ (t = 0 ∧ d ≠ 0 ∧ s.cnt + 126 + farN d f ≤ M) ∨
    (t = 1 ∧ d ≠ 0 ∧ s.cnt + 63 + farN d f ≤ M ∧ ∀ y, ah (-d) f y → hasB s.c y = false ∧ s.hall y d = false) ∨
    (t = 2 ∧ d ≠ 0 ∧ s.cnt + farN d f ≤ M ∧ (∀ y, ah (-d) f y → hasB s.all y = false) ∧ ∀ y, s.hall y (-d) = false)
theorem far_in {f d : Int} (f0 : 0 ≤ f) (f1 : f < 64) : 0 ≤ farN d f ∧ farN d f ≤ 63 := by unfold farN; split <;> omega
theorem Sw.first {s : Sp} (h : s.ok) {f d : Int} (f0 : 0 ≤ f) (f1 : f < 64) (hd : d = 0 ∨ d = 1 ∨ d = -1) : Sw s f d 0 381 := by
  have c := s.cnt_192
  have k := far_in (d := d) f0 f1
  refine ⟨h, f0, f1, hd, by omega, by omega, by omega, ?_⟩
  by_cases e : d = 0
  · exact .inr (.inl ⟨rfl, e, by omega⟩)
  · exact .inr (.inr (.inl ⟨rfl, e, by omega⟩))
theorem tow_no {s : Sp} (h : s.ok) {f e y : Int} (k : towB s.all f e = false) (a : ah e f y) : hasB s.all y = false :=
  Bool.eq_false_iff.2 fun q => by rw [(towB_iff h.all f e).2 ⟨y, a, q⟩] at k; cases k
theorem no_all {s : Sp} {y : Int} (k : hasB s.all y = false) (e : Int) : hasB s.c y = false ∧ s.hall y e = false := by
  refine ⟨Bool.eq_false_iff.2 fun q => ?_, Bool.eq_false_iff.2 fun q => ?_⟩
  · rw [car_all q] at k; cases k
  · rw [hall_all q] at k; cases k
theorem all_zero {s : Sp} (h : s.all = 0) (f e : Int) : towB s.all f e = false ∧ s.hall f e = false ∧ hasB s.c f = false := by
  have z : hasB s.all f = false := by rw [h]; exact hasB_zero f
  refine ⟨Bool.eq_false_iff.2 fun q => ?_, (no_all z e).2, (no_all z e).1⟩
  rw [h] at q
  obtain ⟨y, _, r⟩ := (towB_iff (by decide) f e).1 q
  rw [hasB_zero] at r; cases r
/-- Is it a turn? -/
def turnN (d x : Int) : Int := if d ≠ 0 ∧ x = -d then 1 else 0
theorem Sw.turn {s : Sp} {f d t M : Int} (H : Sw s f d t M) {x : Int} (K : HeadIs s f d x) (hx : x ≠ 0) : Sw s f x (t + turnN d x) M := by
  obtain ⟨ok, f0, f1, hd, t0, t2, m0, ph⟩ := H
  have fx := far_in (d := x) f0 f1
  have fd := far_in (d := d) f0 f1
  have hxs := K.small
  have hw := K.why hx
  rcases ph with ⟨a, _⟩ | ⟨rfl, rfl, a⟩ | ⟨rfl, d0, a⟩ | ⟨rfl, d0, a, b⟩ | ⟨rfl, d0, a, b, c⟩
  · have z := all_zero a f x
    rw [z.1, z.2.1] at hw
    simp at hw
  · have e : turnN 0 x = 0 := if_neg (fun k => k.1 rfl)
    rw [e]
    exact ⟨ok, f0, f1, hxs, by omega, by omega, m0, .inr (.inr (.inl ⟨rfl, hx, by omega⟩))⟩
  · by_cases h : x = -d
    · have e : turnN d x = 1 := if_pos ⟨d0, h⟩
      have n := K.turn d0 h
      rw [e]
      refine ⟨ok, f0, f1, hxs, by omega, by omega, m0, .inr (.inr (.inr (.inl ⟨rfl, hx, by omega, fun y hy => ?_⟩)))⟩
      rw [h, Int.neg_neg] at hy
      exact no_all (tow_no ok n.1 hy) x
    · have e : turnN d x = 0 := if_neg (fun k => h k.2)
      have ed : x = d := by omega
      rw [e, ed]
      exact ⟨ok, f0, f1, hd, by omega, by omega, m0, .inr (.inr (.inl ⟨rfl, d0, a⟩))⟩
  · by_cases h : x = -d
    · have e : turnN d x = 1 := if_pos ⟨d0, h⟩
      have n := K.turn d0 h
      rw [e]
      refine ⟨ok, f0, f1, hxs, by omega, by omega, m0, .inr (.inr (.inr (.inr ⟨rfl, hx, by omega, fun y hy => ?_, fun y => ?_⟩)))⟩
      · rw [h, Int.neg_neg] at hy
        exact tow_no ok n.1 hy
      · rw [h, Int.neg_neg]
        by_cases g : y = f
        · rw [g]; exact n.2
        · by_cases g2 : ah d f y
          · exact (no_all (tow_no ok n.1 g2) d).2
          · exact (b y (by unfold ah at g2 ⊢; omega)).2
    · have e : turnN d x = 0 := if_neg (fun k => h k.2)
      have ed : x = d := by omega
      rw [e, ed]
      exact ⟨ok, f0, f1, hd, by omega, by omega, m0, .inr (.inr (.inr (.inl ⟨rfl, d0, a, b⟩)))⟩
  · by_cases h : x = -d
    · rw [h] at hw
      rcases hw with k | k
      · obtain ⟨y, g, q⟩ := (towB_iff ok.all f (-d)).1 k
        rw [b y g] at q; cases q
      · rw [c f] at k; cases k
    · have e : turnN d x = 0 := if_neg (fun k => h k.2)
      have ed : x = d := by omega
      rw [e, ed]
      exact ⟨ok, f0, f1, hd, by omega, by omega, m0, .inr (.inr (.inr (.inr ⟨rfl, d0, a, b, c⟩)))⟩
theorem Sw.stays {s l : Sp} {f x t M : Int} (H : Sw s f x t M) (hx : x ≠ 0) (lo : l.ok) (S : l.sub s) (C : l.cnt < s.cnt) : Sw l f x t (M - 1) := by
  obtain ⟨ok, f0, f1, hd, t0, t2, m0, ph⟩ := H
  have fx := far_in (d := x) f0 f1
  rcases ph with ⟨_, a⟩ | ⟨_, a, _⟩ | ⟨rfl, d0, a⟩ | ⟨rfl, d0, a, b⟩ | ⟨rfl, d0, a, b, c⟩
  · exact absurd a hx
  · exact absurd a hx
  · exact ⟨lo, f0, f1, hd, t0, t2, by omega, .inr (.inr (.inl ⟨rfl, d0, by omega⟩))⟩
  · exact ⟨lo, f0, f1, hd, t0, t2, by omega, .inr (.inr (.inr (.inl ⟨rfl, d0, by omega, fun y hy => ⟨S.car (b y hy).1, S.hall (b y hy).2⟩⟩)))⟩
  · exact ⟨lo, f0, f1, hd, t0, t2, by omega, .inr (.inr (.inr (.inr ⟨rfl, d0, by omega, fun y hy => S.all (b y hy), fun y => S.hall (c y)⟩)))⟩
theorem Sw.moves {s : Sp} {f x t M : Int} (H : Sw s f x t M) (hx : x ≠ 0) (T : towB s.all f x = true) (N1 : hasB s.c f = false) (N2 : s.hall f x = false) : Sw s (f + x) x t (M - 1) ∧ 0 ≤ f + x ∧ f + x < 64 := by
  obtain ⟨ok, f0, f1, hd, t0, t2, m0, ph⟩ := H
  obtain ⟨y, g, q⟩ := (towB_iff ok.all f x).1 T
  have r := hasB_range ok.all q
  have R : 0 ≤ f + x ∧ f + x < 64 := by unfold ah at g; omega
  have e : farN x (f + x) = farN x f - 1 := by
    unfold farN
    split <;> omega
  have fx := far_in (d := x) R.1 R.2
  have ha : ∀ z, ah (-x) (f + x) z → z = f ∨ ah (-x) f z := fun z k => by unfold ah at *; omega
  refine ⟨?_, R⟩
  rcases ph with ⟨_, a⟩ | ⟨_, a, _⟩ | ⟨rfl, d0, a⟩ | ⟨rfl, d0, a, b⟩ | ⟨rfl, d0, a, b, c⟩
  · exact absurd a hx
  · exact absurd a hx
  · exact ⟨ok, R.1, R.2, hd, t0, t2, by omega, .inr (.inr (.inl ⟨rfl, d0, by omega⟩))⟩
  · refine ⟨ok, R.1, R.2, hd, t0, t2, by omega, .inr (.inr (.inr (.inl ⟨rfl, d0, by omega, fun z hz => ?_⟩)))⟩
    rcases ha z hz with rfl | k
    · exact ⟨N1, N2⟩
    · exact b z k
  · refine ⟨ok, R.1, R.2, hd, t0, t2, by omega, .inr (.inr (.inr (.inr ⟨rfl, d0, by omega, fun z hz => ?_, c⟩)))⟩
    rcases ha z hz with rfl | k
    · rw [all_parts, N1]
      have c' := c z
      rcases hd with rfl | rfl | rfl
      · exact absurd rfl hx
      · rw [N2, c']; rfl
      · have c'' : s.hall z 1 = false := c'
        rw [N2, c'']; rfl
    · exact b z k
/-- What is left behind a stop is less, and is under way. -/
theorem Sw.stop {s : Sp} {f d t M : Int} (H : Sw s f d t M) (hs : s.stop f d = true) :
    Sw (s.left f (s.head f d)) f (s.head f d) (t + turnN d (s.head f d)) (M - 1) ∧ 0 < M ∧ s.all ≠ 0 ∧ ¬ ((s.left f (s.head f d)).c = s.c ∧ (s.left f (s.head f d)).u = s.u ∧ (s.left f (s.head f d)).d = s.d) := by
  have K := head_is H.ok H.f0 H.f1 H.hd
  have C := left_cnt H.ok H.f0 H.f1 hs
  have S := left_sub H.ok (x := s.head f d) H.f0 H.f1
  have L := Sp.left_ok H.ok f (s.head f d)
  have hs' : hasB s.c f = true ∨ s.hall f (s.head f d) = true := by unfold Sp.stop at hs; rwa [Bool.or_eq_true] at hs
  have A : hasB s.all f = true := hs'.elim car_all hall_all
  have A0 : s.all ≠ 0 := fun e => by rw [e, hasB_zero] at A; cases A
  have NE : ¬ ((s.left f (s.head f d)).c = s.c ∧ (s.left f (s.head f d)).u = s.u ∧ (s.left f (s.head f d)).d = s.d) := fun ⟨a, b, c⟩ => by
    unfold Sp.cnt at C; rw [a, b, c] at C; omega
  have fx := far_in (d := d) H.f0 H.f1
  have M0 : 0 < M := by
    rcases H.ph with ⟨a, _⟩ | ⟨_, _, a⟩ | ⟨_, _, a⟩ | ⟨_, _, a, _⟩ | ⟨_, _, a, _⟩
    · exact absurd a A0
    all_goals omega
  refine ⟨?_, M0, A0, NE⟩
  obtain ⟨x, hxx⟩ : ∃ x, x = s.head f d := ⟨_, rfl⟩
  rw [← hxx] at K C S L hs' NE ⊢
  by_cases hx : x = 0
  · have n := K.none hx
    have e : turnN d x = 0 := if_neg (fun k => by omega)
    have e' : t + 0 = t := by omega
    rw [e, e']
    clear hxx
    subst hx
    refine ⟨L, H.f0, H.f1, .inl rfl, H.t0, H.t2, by omega, .inl ⟨?_, rfl⟩⟩
    have tn : ∀ g, towB s.all f g = false → towB (s.left f 0).all f g = false := fun g k => Bool.eq_false_iff.2 fun q => by
      obtain ⟨y, i, j⟩ := (towB_iff L.all f g).1 q
      rw [S.all (tow_no H.ok k i)] at j; cases j
    refine tow_none L (tn 1 n.1) (tn (-1) n.2.1) ?_
    rw [all_parts, S.hall n.2.2.1, S.hall n.2.2.2, show hasB (s.left f 0).c f = false from clr_self H.ok.c H.f0 H.f1]; rfl
  · exact (H.turn K hx).stays hx L S C
theorem Sw.move {s : Sp} {f d t M : Int} (H : Sw s f d t M) (hs : s.stop f d = false) (hx : s.head f d ≠ 0) :
    Sw s (f + s.head f d) (s.head f d) (t + turnN d (s.head f d)) (M - 1) ∧ 0 ≤ f + s.head f d ∧ f + s.head f d < 64 := by
  have K := head_is H.ok H.f0 H.f1 H.hd
  unfold Sp.stop at hs
  rw [Bool.or_eq_false_iff] at hs
  refine (H.turn K hx).moves hx ?_ hs.1 hs.2
  exact (K.why hx).resolve_right (by rw [hs.2]; simp)
theorem Sw.ends {s : Sp} {f d t M : Int} (H : Sw s f d t M) (hs : s.stop f d = false) (hx : s.head f d = 0) : s.all = 0 := by
  have n := (head_is H.ok H.f0 H.f1 H.hd).none hx
  unfold Sp.stop at hs
  rw [Bool.or_eq_false_iff] at hs
  refine tow_none H.ok n.1 n.2.1 ?_
  rw [all_parts, hs.1, n.2.2.1, n.2.2.2]; rfl
end Go.Proofs.YtdmomnhacijmpaaGreatDoor

namespace Go.Proofs.YtdmomnhacijmpaaGreatDoor

def oneS (t w : Int) : Sp := (Sp.mk 0 0 0).put t w
theorem zero_ok : (Sp.mk 0 0 0).ok := ⟨by decide, by decide, by decide⟩
theorem oneS_ok (t w : Int) : (oneS t w).ok := Sp.put_ok zero_ok t w
theorem oneS_up (t : Int) : oneS t 1 = ⟨0, oneN t, 0⟩ := by
  unfold oneS Sp.put; rw [if_pos rfl]; simp
theorem oneS_dn (t : Int) : oneS t (-1) = ⟨0, 0, oneN t⟩ := by
  unfold oneS Sp.put; rw [if_neg (by decide), if_pos rfl]; simp
theorem one_hall {t w : Int} (t0 : 0 ≤ t) (t1 : t < 64) (hw : w = 1 ∨ w = -1) (y e : Int) : (oneS t w).hall y e = decide (y = t ∧ e = w) := by
  rcases hw with rfl | rfl
  · rw [oneS_up, Sp.hall]
    by_cases h1 : e = 1
    · rw [if_pos h1, hasB_one]
      exact decide_eq_decide.2 ⟨fun k => ⟨k.1, h1⟩, fun k => ⟨k.1, t0, t1⟩⟩
    · rw [if_neg h1]
      split
      · rw [hasB_zero]; exact (decide_eq_false (by omega)).symm
      · exact (decide_eq_false (by omega)).symm
  · rw [oneS_dn, Sp.hall]
    by_cases h1 : e = 1
    · rw [if_pos h1, hasB_zero]
      exact (decide_eq_false (by omega)).symm
    · rw [if_neg h1]
      by_cases h2 : e = -1
      · rw [if_pos h2, hasB_one]
        exact decide_eq_decide.2 ⟨fun k => ⟨k.1, h2⟩, fun k => ⟨k.1, t0, t1⟩⟩
      · rw [if_neg h2]
        exact (decide_eq_false (by omega)).symm
theorem one_car {t w : Int} (y : Int) : hasB (oneS t w).c y = false := by
  have : (oneS t w).c = 0 := by
    unfold oneS Sp.put
    split
    · rfl
    · split <;> rfl
  rw [this]; exact hasB_zero y
theorem one_all {t w : Int} (t0 : 0 ≤ t) (t1 : t < 64) (hw : w = 1 ∨ w = -1) (y : Int) : hasB (oneS t w).all y = decide (y = t) := by
  rw [all_parts, one_car, one_hall t0 t1 hw, one_hall t0 t1 hw, Bool.false_or, ← Bool.decide_or]
  exact decide_eq_decide.2 (by omega)
theorem one_tow {t w : Int} (t0 : 0 ≤ t) (t1 : t < 64) (hw : w = 1 ∨ w = -1) (f e : Int) : towB (oneS t w).all f e = true ↔ ah e f t := by
  rw [towB_iff (oneS_ok t w).all]
  constructor
  · rintro ⟨y, a, b⟩
    rw [one_all t0 t1 hw, decide_eq_true_iff] at b
    rw [← b]; exact a
  · intro h
    exact ⟨t, h, by rw [one_all t0 t1 hw]; exact decide_eq_true rfl⟩
theorem one_deed {t w f d : Int} (t0 : 0 ≤ t) (t1 : t < 64) (hw : w = 1 ∨ w = -1) (f0 : 0 ≤ f) (f1 : f < 64) (hd : d = 0 ∨ d = 1 ∨ d = -1) :
    (oneS t w).deed f d = if f = t then ⟨true, w, 0⟩ else if t < f then ⟨false, -1, -1⟩ else ⟨false, 1, 1⟩ := by
  have K := head_is (oneS_ok t w) f0 f1 hd
  have T := fun e => one_tow (w := w) t0 t1 hw f e
  have HA := fun e => one_hall t0 t1 hw f e
  have kt := K.small
  have kw := K.why
  have kn := K.none
  rw [deed_in (by omega), Sp.stop, one_car, Bool.false_or]
  generalize (oneS t w).head f d = x at *
  rw [HA] at *
  rw [T] at kw
  by_cases e : f = t
  · rw [if_pos e]
    have hx : x = w := by
      by_cases x0 : x = 0
      · obtain ⟨_, _, c1, c2⟩ := kn x0
        have c1' := HA 1
        have c2' := HA (-1)
        first | rw [c1'] at c1 | skip
        first | rw [c2'] at c2 | skip
        simp only [decide_eq_false_iff_not] at c1 c2
        omega
      · have := kw x0
        simp only [decide_eq_true_iff] at this
        unfold ah at this
        omega
    rw [hx, decide_eq_true ⟨e, rfl⟩]; rfl
  · rw [if_neg e, decide_eq_false (fun k => e k.1)]
    have tn : ∀ g, ah g f t → x = 0 → (g = 1 ∨ g = -1) → False := fun g hg x0 hg2 => by
      have := kn x0
      rcases hg2 with rfl | rfl
      · rw [(T 1).2 hg] at this; cases this.1
      · rw [(T (-1)).2 hg] at this; cases this.2.1
    by_cases g : t < f
    · rw [if_pos g]
      have hx : x = -1 := by
        by_cases x0 : x = 0
        · exact (tn (-1) (.inr ⟨rfl, g⟩) x0 (.inr rfl)).elim
        · have := kw x0
          simp only [decide_eq_true_iff] at this
          unfold ah at this
          omega
      rw [hx]; rfl
    · rw [if_neg g]
      have hx : x = 1 := by
        by_cases x0 : x = 0
        · exact (tn 1 (.inl ⟨rfl, by omega⟩) x0 (.inl rfl)).elim
        · have := kw x0
          simp only [decide_eq_true_iff] at this
          unfold ah at this
          omega
      rw [hx]; rfl
end Go.Proofs.YtdmomnhacijmpaaGreatDoor

namespace Go.Proofs.YtdmomnhacijmpaaGreatDoor
open Go.RowKit

theorem tow_any (s : Sp) (z e : Int) (w : World) (h : s.ok) (b : Bool) (hb : b = towB s.all z e) :
    Calls Tryz.prog 103 #[s.v, .int .i64 z, .int .i64 e] w fun x w' => x = .returned (.bool b) ∧ Fr w w' [] := by
  refine toward_any s z e w h b (fun k => ?_) (fun k => ?_) (fun k1 k2 => ?_)
  · rw [hb, towB, if_pos k]; exact upB_iff h.all z
  · rw [hb, towB, if_neg (by omega), if_pos k]; exact dnB_iff h.all z
  · rw [hb, towB, if_neg k1, if_neg k2]
theorem nr_any (s : Sp) (z : Int) (w : World) (h : s.ok) (hT : Tz w) (x : Int) (hx : x = nearN s.all z) :
    Calls Tryz.prog 102 #[s.v, .int .i64 z] w fun e w' => e = .returned (.int .i64 x) ∧ Fr w w' [] :=
  near_any s z w h hT x (by rw [hx]; exact nearN_is h.all z)

set_option maxHeartbeats 1000000 in
theorem wanted_any (s : Sp) (z e : Int) (w : World) (h : s.ok) (b : Bool) (hb : b = (towB s.all z e || s.hall z e)) :
    Calls Tryz.prog 100 #[s.v, .int .i64 z, .int .i64 e] w fun x w' => x = .returned (.bool b) ∧ Fr w w' [] := by
  obtain ⟨b1, h1⟩ : ∃ b1, b1 = towB s.all z e := ⟨_, rfl⟩
  obtain ⟨b2, h2⟩ : ∃ b2, b2 = s.hall z e := ⟨_, rfl⟩
  rw [← h1, ← h2] at hb
  have TO := Lib.hid (fun W => tow_any s z e W h b1 h1)
  have HA := Lib.hid (fun W => hall_any s z e W h b2 h2)
  obtain ⟨p, u, d⟩ := s
  have HS := Lib.hid (SS.new w 30 p u d)
  have HB := Lib.hid hb
  clear h1 h2 hb h
  dsimp only [Sp.v] at *
  obtain ⟨_, c0, c1, c2⟩ := HS.out
  go_enter Tryz.func100, Tryz.ntmps100
  go_wp2_with fail
  with_reducible refine (TO.out _).mono ?_
  rintro x w2 ⟨rfl, hf⟩
  have HS2 := Lib.hid (HS.out.fr hf)
  clear hf c0 c1 c2
  cases b1 with
  | true =>
    have HV : Hid (b = true) := by show _ = _; rw [HB.out]; rfl
    go_wp2
    go_ret
    exact ⟨by rw [HV.out]; rfl, HS2.out.1⟩
  | false =>
    have HV : Hid (b = b2) := by show _ = _; rw [HB.out]; rfl
    obtain ⟨_, c0, c1, c2⟩ := HS2.out
    go_wp2_with fail
    with_reducible refine (HA.out _).mono ?_
    rintro x w3 ⟨rfl, hf⟩
    have HS3 := Lib.hid (HS2.out.fr hf)
    clear hf c0 c1 c2
    go_wp2
    go_ret
    exact ⟨by rw [HV.out]; rfl, HS3.out.1⟩

set_option maxHeartbeats 1000000 in
theorem start_any (s : Sp) (z : Int) (w : World) (h : s.ok) (hT : Tz w) (x : Int) (hx : x = if s.hall z 1 = true then 1 else if s.hall z (-1) = true then -1 else nearN s.all z) :
    Calls Tryz.prog 99 #[s.v, .int .i64 z] w fun e w' => e = .returned (.int .i64 x) ∧ Fr w w' [] := by
  obtain ⟨b1, h1⟩ : ∃ b1, b1 = s.hall z 1 := ⟨_, rfl⟩
  obtain ⟨b2, h2⟩ : ∃ b2, b2 = s.hall z (-1) := ⟨_, rfl⟩
  obtain ⟨n, hn⟩ : ∃ n, n = nearN s.all z := ⟨_, rfl⟩
  rw [← h1, ← h2, ← hn] at hx
  have HU := Lib.hid (fun W => hall_any s z 1 W h b1 h1)
  have HD := Lib.hid (fun W => hall_any s z (-1) W h b2 h2)
  have NE := Lib.hid (fun W hT => nr_any s z W h hT n hn)
  obtain ⟨p, u, d⟩ := s
  have HS := Lib.hid (SS.new w 30 p u d)
  have HX := Lib.hid hx
  have HT := Lib.hid hT
  clear h1 h2 hn hx h hT
  dsimp only [Sp.v] at *
  obtain ⟨_, c0, c1, c2⟩ := HS.out
  go_enter Tryz.func99, Tryz.ntmps99
  go_wp2_with fail
  with_reducible refine (HU.out _).mono ?_
  rintro x w2 ⟨rfl, hf⟩
  have HS2 := Lib.hid (HS.out.fr hf)
  clear hf c0 c1 c2
  cases b1 with
  | true =>
    have HV : Hid (x = 1) := by show _ = _; rw [HX.out]; rfl
    go_wp2
    go_ret
    exact ⟨by rw [HV.out]; rfl, HS2.out.1⟩
  | false =>
    obtain ⟨_, c0, c1, c2⟩ := HS2.out
    go_wp2_with fail
    with_reducible refine (HD.out _).mono ?_
    rintro x w3 ⟨rfl, hf⟩
    have HS3 := Lib.hid (HS2.out.fr hf)
    clear hf c0 c1 c2
    cases b2 with
    | true =>
      have HV : Hid (x = -1) := by show _ = _; rw [HX.out]; rfl
      go_wp2
      go_ret
      exact ⟨by rw [HV.out]; rfl, HS3.out.1⟩
    | false =>
      have HV : Hid (x = n) := by show _ = _; rw [HX.out]; rfl
      obtain ⟨_, c0, c1, c2⟩ := HS3.out
      have T3 := Lib.hid (HT.out.fr HS3.out.1)
      go_wp2_with fail
      with_reducible refine (NE.out _ T3.out).mono ?_
      rintro x w4 ⟨rfl, hf⟩
      have HS4 := Lib.hid (HS3.out.fr hf)
      clear hf c0 c1 c2
      go_wp2
      go_ret
      exact ⟨by rw [HV.out]; rfl, HS4.out.1⟩

set_option maxHeartbeats 1000000 in
theorem heading_any (s : Sp) (z e : Int) (w : World) (h : s.ok) (hT : Tz w) (he : -1 ≤ e ∧ e ≤ 1) (x : Int) (hx : x = s.head z e) :
    Calls Tryz.prog 87 #[s.v, .int .i64 z, .int .i64 e] w fun r w' => r = .returned (.int .i64 x) ∧ Fr w w' [] := by
  unfold Sp.head at hx
  by_cases e0 : e = 0
  · rw [if_pos e0] at hx
    have ST := Lib.hid (fun W hT => start_any s z W h hT x hx)
    obtain ⟨p, u, d⟩ := s
    have HS := Lib.hid (SS.new w 30 p u d)
    have T1 := Lib.hid (hT.fr (Fr.alloc w (.cells #[.int .u64 p, .int .u64 u, .int .u64 d] 30) []))
    subst e0
    clear hx h hT he
    dsimp only [Sp.v] at *
    obtain ⟨_, c0, c1, c2⟩ := HS.out
    go_enter Tryz.func87, Tryz.ntmps87
    go_wp2_with fail
    with_reducible refine (ST.out _ T1.out).mono ?_
    rintro r w2 ⟨rfl, hf⟩
    have HS2 := Lib.hid (HS.out.fr hf)
    clear hf c0 c1 c2
    go_wp2
    go_ret
    exact ⟨rfl, HS2.out.1⟩
  · rw [if_neg e0] at hx
    obtain ⟨b1, h1⟩ : ∃ b1, b1 = (towB s.all z e || s.hall z e) := ⟨_, rfl⟩
    obtain ⟨b2, h2⟩ : ∃ b2, b2 = (towB s.all z (-e) || s.hall z (-e)) := ⟨_, rfl⟩
    rw [← h1, ← h2] at hx
    have W1 := Lib.hid (fun W => wanted_any s z e W h b1 h1)
    have W2 := Lib.hid (fun W => wanted_any s z (-e) W h b2 h2)
    have hw : IntKind.i64.wrap (-e) = -e := IntWalk.i64_in _ (by omega)
    have k0 : (e == 0) = false := by simp [e0]
    obtain ⟨p, u, d⟩ := s
    have HS := Lib.hid (SS.new w 30 p u d)
    have HX := Lib.hid hx
    obtain ⟨ne, hne⟩ : ∃ ne, ne = -e := ⟨_, rfl⟩
    rw [← hne] at W2 HX hw
    clear h1 h2 hx h hT he e0
    have hng := Lib.hid hne
    have hwn : IntKind.i64.wrap (-e) = ne := by rw [← hng.out]; exact hw
    clear hne hw
    dsimp only [Sp.v] at *
    obtain ⟨_, c0, c1, c2⟩ := HS.out
    go_enter Tryz.func87, Tryz.ntmps87
    go_wp2_with fail
    with_reducible refine (W1.out _).mono ?_
    rintro r w2 ⟨rfl, hf⟩
    have HS2 := Lib.hid (HS.out.fr hf)
    clear hf c0 c1 c2
    cases b1 with
    | true =>
      have HV : Hid (x = e) := by show _ = _; rw [HX.out]; rfl
      go_wp2
      go_ret
      exact ⟨by rw [HV.out]; rfl, HS2.out.1⟩
    | false =>
      obtain ⟨_, c0, c1, c2⟩ := HS2.out
      go_wp2_with fail
      with_reducible refine (W2.out _).mono ?_
      rintro r w3 ⟨rfl, hf⟩
      have HS3 := Lib.hid (HS2.out.fr hf)
      clear hf c0 c1 c2
      cases b2 with
      | true =>
        have HV : Hid (x = ne) := by show _ = _; rw [HX.out]; rfl
        go_wp2
        go_ret
        exact ⟨by rw [HV.out]; rfl, HS3.out.1⟩
      | false =>
        have HV : Hid (x = 0) := by show _ = _; rw [HX.out]; rfl
        go_wp2
        go_ret
        exact ⟨by rw [HV.out]; rfl, HS3.out.1⟩

/-- A deed as a value; as a box. -/
abbrev De.v (x : De) : Value := .agg #[.bool x.stop, .int .i64 x.dir, .int .i64 x.move]
abbrev De.box (T : TypeId) (x : De) : Obj := .cells #[.bool x.stop, .int .i64 x.dir, .int .i64 x.move] T
/-- The stops' cells, behind them a box of a deed that is nothing; in a world that came of W. -/
def DB (W : World) (T : TypeId) (p u d : Nat) (a : World) : Prop := SS W W.heap.size p u d a ∧ a.heap[W.heap.size + 1]? = some (.cells #[.bool false, .int .i64 0, .int .i64 0] T (0, 0))
theorem DB.fr {W : World} {T : TypeId} {p u d : Nat} {a a' : World} (h : DB W T p u d a) (k : Fr a a' []) : DB W T p u d a' := ⟨h.1.fr k, k.heap h.2 (by simp)⟩
theorem DB.new (w : World) (T1 T : TypeId) (p u d : Nat) : DB w T p u d ((w.alloc (.cells #[.int .u64 p, .int .u64 u, .int .u64 d] T1)).alloc (.cells #[.bool false, .int .i64 0, .int .i64 0] T)) := by
  have a2 := heap_alloc_new (w.alloc (.cells #[.int .u64 p, .int .u64 u, .int .u64 d] T1)) (.cells #[.bool false, .int .i64 0, .int .i64 0] T)
  rw [show (w.alloc (.cells #[.int .u64 p, .int .u64 u, .int .u64 d] T1)).heap.size = w.heap.size + 1 by simp] at a2
  exact ⟨(SS.new w T1 p u d).fr (Fr.alloc _ _ []), a2⟩

set_option maxHeartbeats 2000000 in
set_option maxRecDepth 100000 in
theorem deed_any (s : Sp) (f e : Int) (w : World) (h : s.ok) (hT : Tz w) (r : De) (hr : r = s.deed f e) :
    Calls Tryz.prog 74 #[s.v, .int .i64 f, .int .i64 e] w fun x w' => x = .returned r.v ∧ Fr w w' [] := by
  by_cases hin : 0 ≤ f ∧ f < 64 ∧ -1 ≤ e ∧ e ≤ 1
  · rw [deed_in hin] at hr
    obtain ⟨x, hx⟩ : ∃ x, x = s.head f e := ⟨_, rfl⟩
    obtain ⟨b1, h1⟩ : ∃ b1, b1 = hasB s.c f := ⟨_, rfl⟩
    obtain ⟨b2, h2⟩ : ∃ b2, b2 = s.hall f x := ⟨_, rfl⟩
    have hst : s.stop f e = (b1 || b2) := by rw [Sp.stop, ← hx, h1, h2]
    rw [hst, ← hx] at hr
    have HE := Lib.hid (fun W hT => heading_any s f e W h hT hin.2.2 x hx)
    have AT := Lib.hid (fun W => at_any s f W h b1 h1)
    have HA := Lib.hid (fun W => hall_any s f x W h b2 h2)
    have HR := Lib.hid hr
    obtain ⟨f0, f1, e0, e1⟩ := hin
    obtain ⟨p, u, d⟩ := s
    have HD := Lib.hid (DB.new w 30 124 p u d)
    have T1 := Lib.hid (hT.fr HD.out.1.1)
    clear hx h1 h2 hst hr hT h
    dsimp only [Sp.v] at *
    obtain ⟨_, c0, c1, c2⟩ := HD.out.1
    go_enter Tryz.func74, Tryz.ntmps74
    go_wp2_with fail
    with_reducible refine (HE.out _ T1.out).mono ?_
    rintro x w2 ⟨rfl, hf⟩
    have HD2 := Lib.hid (HD.out.fr hf)
    clear hf c0 c1 c2 T1
    obtain ⟨_, c0, c1, c2⟩ := HD2.out.1
    go_wp2_with fail
    with_reducible refine (AT.out _).mono ?_
    rintro x w3 ⟨rfl, hf⟩
    have HD3 := Lib.hid (HD2.out.fr hf)
    clear hf c0 c1 c2
    cases b1 with
    | true =>
      have HV : Hid (r = ⟨true, x, 0⟩) := by show _ = _; rw [HR.out]; rfl
      obtain ⟨x0, x1, x2⟩ := arow HD3.out.2
      have z := fun i => frozen_of_row _ _ i _ _ HD3.out.2
      have z0 := z 0
      have z1 := z 1
      have z2 := z 2
      have AF := Lib.hid (HD3.out.1.1.new (aset_fr _ (w.heap.size + 1) (.bool true) (.int .i64 x) (.int .i64 0)) (by simp))
      obtain ⟨y0, y1, y2⟩ := arow (aset HD3.out.2 (.bool true) (.int .i64 x) (.int .i64 0))
      clear z
      go_wp2
      exact bodyPost_ret (v := .agg #[.bool true, .int .i64 x, .int .i64 0]) (by simp [results, Tryz.results74, go_sem, y0, y1, y2]) rfl ⟨by rw [HV.out], AF.out⟩
    | false =>
      obtain ⟨_, c0, c1, c2⟩ := HD3.out.1
      go_wp2_with fail
      with_reducible refine (HA.out _).mono ?_
      rintro y w4 ⟨rfl, hf⟩
      have HD4 := Lib.hid (HD3.out.fr hf)
      clear hf c0 c1 c2
      cases b2 with
      | true =>
        have HV : Hid (r = ⟨true, x, 0⟩) := by show _ = _; rw [HR.out]; rfl
        obtain ⟨x0, x1, x2⟩ := arow HD4.out.2
        have z := fun i => frozen_of_row _ _ i _ _ HD4.out.2
        have z0 := z 0
        have z1 := z 1
        have z2 := z 2
        have AF := Lib.hid (HD4.out.1.1.new (aset_fr _ (w.heap.size + 1) (.bool true) (.int .i64 x) (.int .i64 0)) (by simp))
        obtain ⟨y0, y1, y2⟩ := arow (aset HD4.out.2 (.bool true) (.int .i64 x) (.int .i64 0))
        clear z
        go_wp2
        exact bodyPost_ret (v := .agg #[.bool true, .int .i64 x, .int .i64 0]) (by simp [results, Tryz.results74, go_sem, y0, y1, y2]) rfl ⟨by rw [HV.out], AF.out⟩
      | false =>
        have HV : Hid (r = ⟨false, x, x⟩) := by show _ = _; rw [HR.out]; rfl
        obtain ⟨x0, x1, x2⟩ := arow HD4.out.2
        have z := fun i => frozen_of_row _ _ i _ _ HD4.out.2
        have z0 := z 0
        have z1 := z 1
        have z2 := z 2
        have AF := Lib.hid (HD4.out.1.1.new (aset_fr _ (w.heap.size + 1) (.bool false) (.int .i64 x) (.int .i64 x)) (by simp))
        obtain ⟨y0, y1, y2⟩ := arow (aset HD4.out.2 (.bool false) (.int .i64 x) (.int .i64 x))
        clear z
        go_wp2
        exact bodyPost_ret (v := .agg #[.bool false, .int .i64 x, .int .i64 x]) (by simp [results, Tryz.results74, go_sem, y0, y1, y2]) rfl ⟨by rw [HV.out], AF.out⟩
  · rw [deed_out hin] at hr
    obtain ⟨p, u, d⟩ := s
    have HF := Lib.hid (DB.new w 30 124 p u d).1.1
    subst hr
    clear hT h
    dsimp only [Sp.v, De.v, zDe] at *
    by_cases g1 : f < 0
    · clear hin
      go_enter Tryz.func74, Tryz.ntmps74
      go_wp2
      exact bodyPost_ret (v := .agg #[.bool false, .int .i64 0, .int .i64 0]) (by simp [results, Tryz.results74, go_sem]) rfl ⟨rfl, HF.out⟩
    · have g1' : 0 ≤ f := by omega
      clear g1
      by_cases g2 : 64 ≤ f
      · clear hin
        go_enter Tryz.func74, Tryz.ntmps74
        go_wp2
        exact bodyPost_ret (v := .agg #[.bool false, .int .i64 0, .int .i64 0]) (by simp [results, Tryz.results74, go_sem]) rfl ⟨rfl, HF.out⟩
      · have g2' : f < 64 := by omega
        clear g2
        by_cases g3 : e < -1
        · clear hin
          go_enter Tryz.func74, Tryz.ntmps74
          go_wp2
          exact bodyPost_ret (v := .agg #[.bool false, .int .i64 0, .int .i64 0]) (by simp [results, Tryz.results74, go_sem]) rfl ⟨rfl, HF.out⟩
        · have g3' : -1 ≤ e := by omega
          have g4 : 1 < e := by omega
          clear g3 hin
          go_enter Tryz.func74, Tryz.ntmps74
          go_wp2
          exact bodyPost_ret (v := .agg #[.bool false, .int .i64 0, .int .i64 0]) (by simp [results, Tryz.results74, go_sem]) rfl ⟨rfl, HF.out⟩
end Go.Proofs.YtdmomnhacijmpaaGreatDoor
