/- Two estimates are apart; each is reckoned once, however often it is asked, and not ahead. -/
import Derived.Test.YtdmomnhacijmpaaDoorELaw
import Derived.Test.YtdmomnhacijmpaaDoorRun2
namespace Go.Proofs.YtdmomnhacijmpaaDoor
open Go.RowKit

/-- The boxes of a house, a car, stops, a call (all at m). -/
def SN (m : Nat) (h : Ho) (c : Ca) (s : Sp) (q e q2 e2 : Int) (a : World) : Prop :=
  (a.cell? ⟨m, 0, none⟩ = some (.int .i64 h.c) ∧ a.cell? ⟨m, 1, none⟩ = some (.int .i64 h.f) ∧ a.cell? ⟨m, 2, none⟩ = some (.int .i64 h.s) ∧ a.cell? ⟨m, 3, none⟩ = some (.int .i64 h.d)) ∧
  (a.cell? ⟨m + 1, 0, none⟩ = some (.int .i64 c.x.p) ∧ a.cell? ⟨m + 1, 1, none⟩ = some (.int .i64 c.x.e) ∧ a.cell? ⟨m + 1, 2, none⟩ = some (.int .i64 c.x.o) ∧ a.cell? ⟨m + 1, 3, none⟩ = some (.bool c.x.r) ∧ a.cell? ⟨m + 1, 4, none⟩ = some (.int .i64 c.k)) ∧
  (a.cell? ⟨m + 2, 0, none⟩ = some (.int .u64 s.c) ∧ a.cell? ⟨m + 2, 1, none⟩ = some (.int .u64 s.u) ∧ a.cell? ⟨m + 2, 2, none⟩ = some (.int .u64 s.d)) ∧
  (a.cell? ⟨m + 3, 0, none⟩ = some (.int .i64 q) ∧ a.cell? ⟨m + 3, 1, none⟩ = some (.int .i64 e)) ∧
  (a.cell? ⟨m + 4, 0, none⟩ = some (.int .i64 q2) ∧ a.cell? ⟨m + 4, 1, none⟩ = some (.int .i64 e2))
theorem LE.past {W : World} {h : Ho} {c : Ca} {s : Sp} {q e : Int} {a a' : World} {p : Nat} (k : LE W h c s q e a) (f : Fr a a' [p]) (hp : W.heap.size + 4 < p) : LE W h c s q e a' :=
  ⟨k.f.new f (by simp; omega), f.heap k.h (by simp; omega), k.c.fr f (by simp; omega), f.heap k.s (by simp; omega), f.heap k.t (by simp; omega)⟩
/-- Those boxes, and another call's. -/
structure LR (W : World) (h : Ho) (c : Ca) (s : Sp) (q e q2 e2 : Int) (a : World) : Prop where
  l : LE W h c s q e a
  b : a.heap[W.heap.size + 4]? = some (callBox q2 e2)
theorem LR.fr {W : World} {h : Ho} {c : Ca} {s : Sp} {q e q2 e2 : Int} {a a' : World} (k : LR W h c s q e q2 e2 a) (f : Fr a a' []) : LR W h c s q e q2 e2 a' := ⟨k.l.fr f, f.heap k.b (by simp)⟩
theorem LR.past {W : World} {h : Ho} {c : Ca} {s : Sp} {q e q2 e2 : Int} {a a' : World} {p : Nat} (k : LR W h c s q e q2 e2 a) (f : Fr a a' [p]) (hp : W.heap.size + 4 < p) : LR W h c s q e q2 e2 a' := ⟨k.l.past f hp, f.heap k.b (by simp; omega)⟩
theorem LR.new (w : World) (h : Ho) (c : Ca) (s : Sp) (q e q2 e2 : Int) : LR w h c s q e q2 e2 (((((w.alloc h.box).alloc c.box).alloc (Sp.box 39 s)).alloc (callBox q e)).alloc (callBox q2 e2)) := by
  have a5 := heap_alloc_new ((((w.alloc h.box).alloc c.box).alloc (Sp.box 39 s)).alloc (callBox q e)) (callBox q2 e2)
  rw [show ((((w.alloc h.box).alloc c.box).alloc (Sp.box 39 s)).alloc (callBox q e)).heap.size = w.heap.size + 4 by simp] at a5
  exact ⟨(LE.new w h c s q e).fr (Fr.alloc _ _ []), a5⟩
theorem LR.sn {W : World} {h : Ho} {c : Ca} {s : Sp} {q e q2 e2 : Int} {a : World} (k : LR W h c s q e q2 e2 a) : SN W.heap.size h c s q e q2 e2 a := ⟨k.l.h.cells, k.l.c.cells, arow k.l.s, two_row k.l.t, two_row k.b⟩
/-- And the two runs. -/
structure TR (W : World) (h : Ho) (c : Ca) (s : Sp) (q e q2 e2 : Int) (p1 p2 : Nat) (d1 t1 n1 d2 t2 n2 : Int) (a : World) : Prop where
  k : LR W h c s q e q2 e2 a
  x : RO a p1 h c s q e d1 0 t1 n1
  y : RO a p2 h c s q2 e2 d2 0 t2 n2
  lo : W.heap.size + 4 < p1
  lt : p1 < p2
theorem TR.fr {W : World} {h : Ho} {c : Ca} {s : Sp} {q e q2 e2 : Int} {p1 p2 : Nat} {d1 t1 n1 d2 t2 n2 : Int} {a a' : World} (k : TR W h c s q e q2 e2 p1 p2 d1 t1 n1 d2 t2 n2 a) (f : Fr a a' []) : TR W h c s q e q2 e2 p1 p2 d1 t1 n1 d2 t2 n2 a' :=
  ⟨k.k.fr f, k.x.fr f (by simp), k.y.fr f (by simp), k.lo, k.lt⟩
theorem TR.one {W : World} {h : Ho} {c : Ca} {s : Sp} {q e q2 e2 : Int} {p1 p2 : Nat} {d1 t1 n1 d2 t2 n2 d t n : Int} {a a' : World} (k : TR W h c s q e q2 e2 p1 p2 d1 t1 n1 d2 t2 n2 a) (f : Fr a a' [p1]) (x : RO a' p1 h c s q e d 0 t n) : TR W h c s q e q2 e2 p1 p2 d t n d2 t2 n2 a' :=
  have lt := k.lt
  ⟨k.k.past f k.lo, x, k.y.fr f (by simp; omega), k.lo, k.lt⟩
theorem TR.two {W : World} {h : Ho} {c : Ca} {s : Sp} {q e q2 e2 : Int} {p1 p2 : Nat} {d1 t1 n1 d2 t2 n2 d t n : Int} {a a' : World} (k : TR W h c s q e q2 e2 p1 p2 d1 t1 n1 d2 t2 n2 a) (f : Fr a a' [p2]) (y : RO a' p2 h c s q2 e2 d 0 t n) : TR W h c s q e q2 e2 p1 p2 d1 t1 n1 d t n a' :=
  have lt := k.lt
  have lo := k.lo
  ⟨k.k.past f (by omega), k.x.fr f (by simp; omega), y, k.lo, k.lt⟩
/-- Ticks, whether it was reckoned or not. -/
theorem ticks_any (h : Ho) (c : Ca) (s : Sp) (q e : Int) (hk : h.ok) (ok : s.ok) (hc : c.k ≤ 9223372036854775807) (r : Int) (H : EtaV h c s q e r) (d t n : Int) (g : (d = 0 ∧ t = 0 ∧ n = 0) ∨ (d = 1 ∧ t = r ∧ n = 1)) (p : Nat) (w : World) (hT : Tz w) (R0 : RO w p h c s q e d 0 t n) :
    Calls Tryd.prog 20 #[runP p] w fun x w' => x = .returned (.int .i64 r) ∧ RO w' p h c s q e 1 0 r 1 ∧ Fr w w' [p] := by
  rcases g with ⟨rfl, rfl, rfl⟩ | ⟨rfl, rfl, rfl⟩
  · exact ticks_first h c s q e p w hk ok hT hc r H R0
  · exact (ticks_again h c s q e _ 1 p w R0).mono fun x w' ⟨a, b⟩ => by
      subst b
      exact ⟨a, R0, Fr.refl _ _⟩

set_option maxHeartbeats 8000000 in
set_option maxRecDepth 100000 in
theorem eruns_true (h : Ho) (c : Ca) (s : Sp) (q e q2 e2 k5 : Int) (hc : c.k ≤ 9223372036854775807) (ok : s.ok) (a50 : -9223372036854775808 ≤ k5) (a51 : k5 ≤ 9223372036854775807) (w : World) (hT : Tz w) :
    Calls Tryd.prog 8 #[h.v, c.v, s.v, callV q e, callV q2 e2, .int .i64 k5] w fun x w' => x = .returned (.bool true) ∧ Fr w w' [] := by
  have TB := Lib.hid (LR.new w h c s q e q2 e2)
  have HT := Lib.hid hT
  by_cases hk : h.ok
  · have V := Lib.hid (fun W => valid_any h W true (decide_eq_true hk).symm)
    have NU := Lib.hid (fun W => numberTo_any k5 9 W (by omega) (by omega) a50 a51)
    have M0 := Int.emod_nonneg k5 (show (9 : Int) ≠ 0 by omega)
    have M1 := Int.emod_lt_of_pos k5 (show (0 : Int) < 9 by omega)
    obtain ⟨m, hm⟩ : ∃ m, k5 % 9 = m := ⟨_, rfl⟩
    rw [hm] at NU M0 M1
    obtain ⟨ra, HA⟩ := EtaV.some h c ok q e
    obtain ⟨rb, HB⟩ := EtaV.some h c ok q2 e2
    have OA := Lib.hid (fun W hT => eta_any h c s q e W hk ok hT hc ra HA)
    have OB := Lib.hid (fun W hT => eta_any h c s q2 e2 W hk ok hT hc rb HB)
    have NA := Lib.hid (fun W => new_any h c s q e W)
    have NB' := Lib.hid (fun W => new_any h c s q2 e2 W)
    have TA := Lib.hid (fun d t n g p W hT R => ticks_any h c s q e hk ok hc ra HA d t n g p W hT R)
    have TC := Lib.hid (fun d t n g p W hT R => ticks_any h c s q2 e2 hk ok hc rb HB d t n g p W hT R)
    have XA := Lib.hid (fun d st t n p W R hn => times_any h c s q e d st t n p W R hn)
    have XB := Lib.hid (fun d st t n p W R hn => times_any h c s q2 e2 d st t n p W R hn)
    clear hT hk hc ok HA HB hm a50 a51
    obtain ⟨hc, hfl, hs, hd⟩ := h
    obtain ⟨⟨cp, ce, co, cr⟩, ck⟩ := c
    obtain ⟨sp, su, sd⟩ := s
    dsimp only [Ho.v, Ho.box, Ca.v, Ca.box, Sp.v, Sp.box, callV, callBox, runP] at *
    go_enter Tryd.func8, Tryd.ntmps8
    go_wp2_with fail
    generalize World.alloc (World.alloc (World.alloc (World.alloc (World.alloc w _) _) _) _) _ = w0 at *
    have Z0 := Lib.hid (HT.out.fr TB.out.l.f)
    with_reducible refine (efirst_any _ Z0.out).mono ?_
    rintro v w1 ⟨rfl, hf⟩
    have T1 := Lib.hid (TB.out.fr hf)
    clear hf TB Z0
    obtain ⟨i0, i1, i2, i3⟩ := T1.out.l.h.cells
    dsimp only at i0 i1 i2 i3
    go_wp2_with fail
    with_reducible refine (V.out _).mono ?_
    rintro v w2 ⟨rfl, hf⟩
    have T2 := Lib.hid (T1.out.fr hf)
    clear hf i0 i1 i2 i3 T1 V
    obtain ⟨⟨i0, i1, i2, i3⟩, ⟨c0, c1, c2, c3, c4⟩, ⟨s0, s1, s2⟩, ⟨t0, t1⟩, u0, u1⟩ := T2.out.sn
    dsimp only at i0 i1 i2 i3 c0 c1 c2 c3 c4 s0 s1 s2
    go_wp2_with fail
    with_reducible refine (NA.out _).mono ?_
    rintro v w3 ⟨p1, rfl, x3, l3, hf⟩
    have T3 := Lib.hid (T2.out.fr hf)
    have X3 := Lib.hid x3
    have L3 := Lib.hid (show w.heap.size + 4 < p1 from Nat.lt_of_lt_of_le (size_of_row T2.out.b) l3)
    clear hf i0 i1 i2 i3 c0 c1 c2 c3 c4 s0 s1 s2 t0 t1 u0 u1 T2 NA x3 l3
    obtain ⟨⟨i0, i1, i2, i3⟩, ⟨c0, c1, c2, c3, c4⟩, ⟨s0, s1, s2⟩, ⟨t0, t1⟩, u0, u1⟩ := T3.out.sn
    dsimp only at i0 i1 i2 i3 c0 c1 c2 c3 c4 s0 s1 s2
    go_wp2_with fail
    with_reducible refine (NB'.out _).mono ?_
    rintro v w4 ⟨p2, rfl, y4, l4, hf⟩
    have T4 := Lib.hid (show TR w ⟨hc, hfl, hs, hd⟩ ⟨⟨cp, ce, co, cr⟩, ck⟩ ⟨sp, su, sd⟩ q e q2 e2 p1 p2 0 0 0 0 0 0 w4 from ⟨T3.out.fr hf, X3.out.fr hf (by simp), y4, L3.out, Nat.lt_of_lt_of_le (size_of_row X3.out) l4⟩)
    clear hf i0 i1 i2 i3 c0 c1 c2 c3 c4 s0 s1 s2 t0 t1 u0 u1 T3 X3 L3 NB' y4 l4
    go_wp2_with fail
    with_reducible refine (NU.out _).mono ?_
    rintro v w5 ⟨rfl, rfl⟩
    clear NU
    go_wp2
    go_loopw [16] (fun s16 wx => ∃ (k d t n : Int), s16 = .int .i64 k ∧ Hid (0 ≤ k ∧ k ≤ m) ∧ Hid ((k = 0 ∧ d = 0 ∧ t = 0 ∧ n = 0) ∨ (0 < k ∧ d = 1 ∧ t = ra ∧ n = 1)) ∧ Hid (TR w ⟨hc, hfl, hs, hd⟩ ⟨⟨cp, ce, co, cr⟩, ck⟩ ⟨sp, su, sd⟩ q e q2 e2 p1 p2 d t n 0 0 0 wx)) (fun s16 _ => (m - intOf s16).toNat)
    case atStart => exact ⟨0, 0, 0, 0, rfl, Lib.hid (by omega), Lib.hid (.inl ⟨rfl, rfl, rfl, rfl⟩), T4⟩
    case round =>
      clear T4
      obtain ⟨k, d, t, n, rfl, HK, HD, HLx⟩ := hrel
      obtain ⟨hk0, hk1⟩ := HK.out
      by_cases hlt : k < m
      · have TW := Lib.hid (HLx.out.fr (Fr.drew wr []))
        have Z1 := Lib.hid (HT.out.fr (TW.out.k.l.f))
        have G := Lib.hid (show (d = 0 ∧ t = 0 ∧ n = 0) ∨ (d = 1 ∧ t = ra ∧ n = 1) by have := HD.out; omega)
        have TA1 := Lib.hid (TA.out d t n G.out p1 _ Z1.out TW.out.x)
        clear TA HD G OB TC
        go_wp2_with fail
        refine wp_region_noPanic ?_
        refine wp_region_held_drew (S := SN w.heap.size ⟨hc, hfl, hs, hd⟩ ⟨⟨cp, ce, co, cr⟩, ck⟩ ⟨sp, su, sd⟩ q e q2 e2) (by kernel_rfl) TW.out.k.sn (fun hHeld => ?_)
        refine wpAnyH_take (i := 0) (oi := _) (v := ?fv0h1n2) (by simp only [List.getElem?_toArray, List.getElem?_cons_zero]; rfl) (by kernel_rfl) (by kernel_rfl) (by kernel_rfl) (fun _ _ _ h => h) (Or.inl ⟨by rfl, ?fy0h1n2⟩) (by assumption) ?fr0h1n2
        case fy0h1n2 => (intro w hSw; (try dsimp only [SN] at hSw); go_simp; try with_reducible rfl)
        try simp only [Act.put, List.setIfInBounds_toArray, List.set_cons_zero, List.set_cons_succ]
        refine wpAnyH_take (i := 2) (oi := _) (v := ?fv2h1n2) (by simp only [List.getElem?_toArray, List.getElem?_cons_zero, List.getElem?_cons_succ]; rfl) (by kernel_rfl) (by kernel_rfl) (by kernel_rfl) (fun _ _ _ h => h) (Or.inl ⟨by rfl, ?fy2h1n2⟩) (by assumption) ?fr2h1n2
        case fy2h1n2 => (intro w hSw; (try dsimp only [SN] at hSw); go_simp; try with_reducible rfl)
        try simp only [Act.put, List.setIfInBounds_toArray, List.set_cons_zero, List.set_cons_succ]
        refine wpAnyH_take (i := 3) (oi := _) (v := ?fv3h1n2) (by simp only [List.getElem?_toArray, List.getElem?_cons_zero, List.getElem?_cons_succ]; rfl) (by kernel_rfl) (by kernel_rfl) (by kernel_rfl) (fun _ _ _ h => h) (Or.inl ⟨by rfl, ?fy3h1n2⟩) (by assumption) ?fr3h1n2
        case fy3h1n2 => (intro w hSw; (try dsimp only [SN] at hSw); go_simp; try with_reducible rfl)
        try simp only [Act.put, List.setIfInBounds_toArray, List.set_cons_zero, List.set_cons_succ]
        refine wpAnyH_take (i := 4) (oi := _) (v := ?fv4h1n2) (by simp only [List.getElem?_toArray, List.getElem?_cons_zero, List.getElem?_cons_succ]; rfl) (by kernel_rfl) (by kernel_rfl) (by kernel_rfl) (fun _ _ _ h => h) (Or.inl ⟨by rfl, ?fy4h1n2⟩) (by assumption) ?fr4h1n2
        case fy4h1n2 => (intro w hSw; (try dsimp only [SN] at hSw); go_simp; try with_reducible rfl)
        try simp only [Act.put, List.setIfInBounds_toArray, List.set_cons_zero, List.set_cons_succ]
        refine wpAnyH_take (i := 5) (oi := _) (v := ?fv5h1n2) (by simp only [List.getElem?_toArray, List.getElem?_cons_zero, List.getElem?_cons_succ]; rfl) (by kernel_rfl) (by kernel_rfl) (by kernel_rfl) (fun _ _ _ h => h) (Or.inl ⟨by rfl, ?fy5h1n2⟩) (by assumption) ?fr5h1n2
        case fy5h1n2 => (intro w hSw; (try dsimp only [SN] at hSw); go_simp; try with_reducible rfl)
        try simp only [Act.put, List.setIfInBounds_toArray, List.set_cons_zero, List.set_cons_succ]
        refine wpAnyH_ready (rs := [1]) (by kernel_rfl) (by simp) ?_
        refine AllReadyH.cons (o := _) rfl (fun K hK => ?_) AllReadyH.nil
        go_simp
        ((with_reducible refine TA1.out.mono ?_); rintro v w6 ⟨rfl, x6, f6⟩; have T6 := Lib.hid (TW.out.one f6 x6); have Z6 := Lib.hid (HT.out.fr T6.out.k.l.f); clear f6 x6 TA1 TW)
        go_wp2_with fail
        refine hK.out _ _ T6.out.k.sn (fun hHeld => ?_)
        clear hK K
        try simp only [Act.put, List.setIfInBounds_toArray, List.set_cons_zero, List.set_cons_succ]
        refine wpAnyH_ready (rs := [6]) (by kernel_rfl) (by simp) ?_
        refine AllReadyH.cons (o := _) rfl (fun K hK => ?_) AllReadyH.nil
        go_simp
        ((with_reducible refine (OA.out _ Z6.out).mono ?_); rintro v w7 ⟨rfl, f7⟩; have T7 := Lib.hid (T6.out.fr f7); have X7 := Lib.hid (XA.out _ _ _ _ _ _ T7.out.x (.inr rfl)); clear f7 T6 Z6)
        go_wp2_with fail
        refine hK.out _ _ T7.out.k.sn (fun hHeld => ?_)
        clear hK K
        try simp only [Act.put, List.setIfInBounds_toArray, List.set_cons_zero, List.set_cons_succ]
        refine wpAnyH_take (i := 7) (oi := _) (v := ?fv7h1n3) (by simp only [List.getElem?_toArray, List.getElem?_cons_zero, List.getElem?_cons_succ]; rfl) (by kernel_rfl) (by kernel_rfl) (by kernel_rfl) (fun _ _ _ h => h) (Or.inl ⟨by rfl, ?fy7h1n3⟩) (by assumption) ?fr7h1n3
        case fy7h1n3 => (intro w hSw; (try dsimp only [SN] at hSw); go_simp; try with_reducible rfl)
        try simp only [Act.put, List.setIfInBounds_toArray, List.set_cons_zero, List.set_cons_succ]
        refine wpAnyH_take (i := 8) (oi := _) (v := ?fv8h1n3) (by simp only [List.getElem?_toArray, List.getElem?_cons_zero, List.getElem?_cons_succ]; rfl) (by kernel_rfl) (by kernel_rfl) (by kernel_rfl) (fun _ _ _ h => h) (Or.inl ⟨by rfl, ?fy8h1n3⟩) (by assumption) ?fr8h1n3
        case fy8h1n3 => (intro w hSw; (try dsimp only [SN] at hSw); go_simp; try with_reducible rfl)
        try simp only [Act.put, List.setIfInBounds_toArray, List.set_cons_zero, List.set_cons_succ]
        refine wpAnyH_take (i := 9) (oi := _) (v := ?fv9h1n3) (by simp only [List.getElem?_toArray, List.getElem?_cons_zero, List.getElem?_cons_succ]; rfl) (by kernel_rfl) (by kernel_rfl) (by kernel_rfl) (fun _ _ _ h => h) (Or.inl ⟨by rfl, ?fy9h1n3⟩) (by assumption) ?fr9h1n3
        case fy9h1n3 => (intro w hSw; (try dsimp only [SN] at hSw); go_simp; try with_reducible rfl)
        try simp only [Act.put, List.setIfInBounds_toArray, List.set_cons_zero, List.set_cons_succ]
        refine wpAnyH_ready (rs := [10]) (by kernel_rfl) (by simp) ?_
        refine AllReadyH.cons (o := _) rfl (fun K hK => ?_) AllReadyH.nil
        go_simp
        ((with_reducible refine X7.out.mono ?_); rintro v w8 ⟨rfl, rfl⟩; have Y7 := Lib.hid (XB.out _ _ _ _ _ _ T7.out.y (.inl rfl)); clear X7)
        go_wp2_with fail
        refine hK.out _ _ T7.out.k.sn (fun hHeld => ?_)
        clear hK K
        try simp only [Act.put, List.setIfInBounds_toArray, List.set_cons_zero, List.set_cons_succ]
        refine wpAnyH_take (i := 11) (oi := _) (v := ?fv11h1n4) (by simp only [List.getElem?_toArray, List.getElem?_cons_zero, List.getElem?_cons_succ]; rfl) (by kernel_rfl) (by kernel_rfl) (by kernel_rfl) (fun _ _ _ h => h) (Or.inl ⟨by rfl, ?fy11h1n4⟩) (by assumption) ?fr11h1n4
        case fy11h1n4 => (intro w hSw; (try dsimp only [SN] at hSw); go_simp; try with_reducible rfl)
        try simp only [Act.put, List.setIfInBounds_toArray, List.set_cons_zero, List.set_cons_succ]
        refine wpAnyH_take (i := 12) (oi := _) (v := ?fv12h1n4) (by simp only [List.getElem?_toArray, List.getElem?_cons_zero, List.getElem?_cons_succ]; rfl) (by kernel_rfl) (by kernel_rfl) (by kernel_rfl) (fun _ _ _ h => h) (Or.inl ⟨by rfl, ?fy12h1n4⟩) (by assumption) ?fr12h1n4
        case fy12h1n4 => (intro w hSw; (try dsimp only [SN] at hSw); go_simp; try with_reducible rfl)
        try simp only [Act.put, List.setIfInBounds_toArray, List.set_cons_zero, List.set_cons_succ]
        refine wpAnyH_take (i := 13) (oi := _) (v := ?fv13h1n4) (by simp only [List.getElem?_toArray, List.getElem?_cons_zero, List.getElem?_cons_succ]; rfl) (by kernel_rfl) (by kernel_rfl) (by kernel_rfl) (fun _ _ _ h => h) (Or.inl ⟨by rfl, ?fy13h1n4⟩) (by assumption) ?fr13h1n4
        case fy13h1n4 => (intro w hSw; (try dsimp only [SN] at hSw); go_simp; try with_reducible rfl)
        try simp only [Act.put, List.setIfInBounds_toArray, List.set_cons_zero, List.set_cons_succ]
        refine wpAnyH_take (i := 14) (oi := _) (v := ?fv14h1n4) (by simp only [List.getElem?_toArray, List.getElem?_cons_zero, List.getElem?_cons_succ]; rfl) (by kernel_rfl) (by kernel_rfl) (by kernel_rfl) (fun _ _ _ h => h) (Or.inl ⟨by rfl, ?fy14h1n4⟩) (by assumption) ?fr14h1n4
        case fy14h1n4 => (intro w hSw; (try dsimp only [SN] at hSw); go_simp; try with_reducible rfl)
        try simp only [Act.put, List.setIfInBounds_toArray, List.set_cons_zero, List.set_cons_succ]
        refine wpAnyH_ready (rs := [15]) (by kernel_rfl) (by simp) ?_
        refine AllReadyH.cons (o := _) rfl (fun K hK => ?_) AllReadyH.nil
        go_simp
        ((with_reducible refine Y7.out.mono ?_); rintro v w9 ⟨rfl, rfl⟩; clear Y7)
        go_wp2_with fail
        refine hK.out _ _ T7.out.k.sn (fun hHeld => ?_)
        clear hK K
        try simp only [Act.put, List.setIfInBounds_toArray, List.set_cons_zero, List.set_cons_succ]
        refine wpAnyH_take (i := 16) (oi := _) (v := ?fv16h1n5) (by simp only [List.getElem?_toArray, List.getElem?_cons_zero, List.getElem?_cons_succ]; rfl) (by kernel_rfl) (by kernel_rfl) (by kernel_rfl) (fun _ _ _ h => h) (Or.inl ⟨by rfl, ?fy16h1n5⟩) (by assumption) ?fr16h1n5
        case fy16h1n5 => (intro w hSw; (try dsimp only [SN] at hSw); go_simp; try with_reducible rfl)
        try simp only [Act.put, List.setIfInBounds_toArray, List.set_cons_zero, List.set_cons_succ]
        refine wpAnyH_take (i := 17) (oi := _) (v := ?fv17h1n5) (by simp only [List.getElem?_toArray, List.getElem?_cons_zero, List.getElem?_cons_succ]; rfl) (by kernel_rfl) (by kernel_rfl) (by kernel_rfl) (fun _ _ _ h => h) (Or.inl ⟨by rfl, ?fy17h1n5⟩) (by assumption) ?fr17h1n5
        case fy17h1n5 => (intro w hSw; (try dsimp only [SN] at hSw); go_simp; try with_reducible rfl)
        try simp only [Act.put, List.setIfInBounds_toArray, List.set_cons_zero, List.set_cons_succ]
        refine wpAnyH_done (by kernel_rfl) ?_ _
        refine NoPanic.normal ?_
        clear hHeld
        have hw1 : IntKind.i64.wrap (k + 1) = k + 1 := IntWalk.i64_in _ (by omega)
        go_wp2
        go_roundw
        case rel => exact ⟨k + 1, 1, ra, 1, by go_num, Lib.hid (by omega), Lib.hid (.inr ⟨by omega, rfl, rfl, rfl⟩), T7⟩
        case measure => simp [intOf]; omega
      · obtain rfl : m = k := by omega
        have TW := Lib.hid (HLx.out.fr (Fr.drew wr []))
        have X1 := Lib.hid (XA.out _ _ _ _ _ _ TW.out.x (by have := HD.out; omega))
        have Y1 := Lib.hid (XB.out _ _ _ _ _ _ TW.out.y (.inl rfl))
        have hmin : min m 1 = n := by have := HD.out; omega
        have Z1 := Lib.hid (HT.out.fr (TW.out.k.l.f))
        have TC1 := Lib.hid (TC.out 0 0 0 (.inl ⟨rfl, rfl, rfl⟩) p2 _ Z1.out TW.out.y)
        clear TA HD OA TC XA Y1
        go_wp2_with fail
        refine wp_region_noPanic ?_
        refine wp_region_held_drew (S := SN w.heap.size ⟨hc, hfl, hs, hd⟩ ⟨⟨cp, ce, co, cr⟩, ck⟩ ⟨sp, su, sd⟩ q e q2 e2) (by kernel_rfl) TW.out.k.sn (fun hHeld => ?_)
        refine wpAnyH_take (i := 0) (oi := _) (v := ?fv0h6n7) (by simp only [List.getElem?_toArray, List.getElem?_cons_zero]; rfl) (by kernel_rfl) (by kernel_rfl) (by kernel_rfl) (fun _ _ _ h => h) (Or.inl ⟨by rfl, ?fy0h6n7⟩) (by assumption) ?fr0h6n7
        case fy0h6n7 => (intro w hSw; (try dsimp only [SN] at hSw); go_simp; try with_reducible rfl)
        try simp only [Act.put, List.setIfInBounds_toArray, List.set_cons_zero, List.set_cons_succ]
        refine wpAnyH_take (i := 1) (oi := _) (v := ?fv1h6n7) (by simp only [List.getElem?_toArray, List.getElem?_cons_zero, List.getElem?_cons_succ]; rfl) (by kernel_rfl) (by kernel_rfl) (by kernel_rfl) (fun _ _ _ h => h) (Or.inl ⟨by rfl, ?fy1h6n7⟩) (by assumption) ?fr1h6n7
        case fy1h6n7 => (intro w hSw; (try dsimp only [SN] at hSw); go_simp; try with_reducible rfl)
        try simp only [Act.put, List.setIfInBounds_toArray, List.set_cons_zero, List.set_cons_succ]
        refine wpAnyH_take (i := 2) (oi := _) (v := ?fv2h6n7) (by simp only [List.getElem?_toArray, List.getElem?_cons_zero, List.getElem?_cons_succ]; rfl) (by kernel_rfl) (by kernel_rfl) (by kernel_rfl) (fun _ _ _ h => h) (Or.inl ⟨by rfl, ?fy2h6n7⟩) (by assumption) ?fr2h6n7
        case fy2h6n7 => (intro w hSw; (try dsimp only [SN] at hSw); go_simp; try with_reducible rfl)
        try simp only [Act.put, List.setIfInBounds_toArray, List.set_cons_zero, List.set_cons_succ]
        refine wpAnyH_take (i := 4) (oi := _) (v := ?fv4h6n7) (by simp only [List.getElem?_toArray, List.getElem?_cons_zero, List.getElem?_cons_succ]; rfl) (by kernel_rfl) (by kernel_rfl) (by kernel_rfl) (fun _ _ _ h => h) (Or.inl ⟨by rfl, ?fy4h6n7⟩) (by assumption) ?fr4h6n7
        case fy4h6n7 => (intro w hSw; (try dsimp only [SN] at hSw); go_simp; try with_reducible rfl)
        try simp only [Act.put, List.setIfInBounds_toArray, List.set_cons_zero, List.set_cons_succ]
        refine wpAnyH_take (i := 5) (oi := _) (v := ?fv5h6n7) (by simp only [List.getElem?_toArray, List.getElem?_cons_zero, List.getElem?_cons_succ]; rfl) (by kernel_rfl) (by kernel_rfl) (by kernel_rfl) (fun _ _ _ h => h) (Or.inl ⟨by rfl, ?fy5h6n7⟩) (by assumption) ?fr5h6n7
        case fy5h6n7 => (intro w hSw; (try dsimp only [SN] at hSw); go_simp; try with_reducible rfl)
        try simp only [Act.put, List.setIfInBounds_toArray, List.set_cons_zero, List.set_cons_succ]
        refine wpAnyH_ready (rs := [3]) (by kernel_rfl) (by simp) ?_
        refine AllReadyH.cons (o := _) rfl (fun K hK => ?_) AllReadyH.nil
        go_simp
        ((with_reducible refine X1.out.mono ?_); rintro v w6 ⟨rfl, rfl⟩; clear X1)
        go_wp2_with fail
        refine hK.out _ _ TW.out.k.sn (fun hHeld => ?_)
        clear hK K
        try simp only [Act.put, List.setIfInBounds_toArray, List.set_cons_zero, List.set_cons_succ]
        refine wpAnyH_take (i := 6) (oi := _) (v := ?fv6h6n8) (by simp only [List.getElem?_toArray, List.getElem?_cons_zero, List.getElem?_cons_succ]; rfl) (by kernel_rfl) (by kernel_rfl) (by kernel_rfl) (fun _ _ _ h => h) (Or.inl ⟨by rfl, ?fy6h6n8⟩) (by assumption) ?fr6h6n8
        case fy6h6n8 => (intro w hSw; (try dsimp only [SN] at hSw); go_simp; try with_reducible rfl)
        try simp only [Act.put, List.setIfInBounds_toArray, List.set_cons_zero, List.set_cons_succ]
        refine wpAnyH_take (i := 7) (oi := _) (v := ?fv7h6n8) (by simp only [List.getElem?_toArray, List.getElem?_cons_zero, List.getElem?_cons_succ]; rfl) (by kernel_rfl) (by kernel_rfl) (by kernel_rfl) (fun _ _ _ h => h) (Or.inl ⟨by rfl, ?fy7h6n8⟩) (by assumption) ?fr7h6n8
        case fy7h6n8 => (intro w hSw; (try dsimp only [SN] at hSw); go_simp; try with_reducible rfl)
        try simp only [Act.put, List.setIfInBounds_toArray, List.set_cons_zero, List.set_cons_succ]
        refine wpAnyH_take (i := 8) (oi := _) (v := ?fv8h6n8) (by simp only [List.getElem?_toArray, List.getElem?_cons_zero, List.getElem?_cons_succ]; rfl) (by kernel_rfl) (by kernel_rfl) (by kernel_rfl) (fun _ _ _ h => h) (Or.inl ⟨by rfl, ?fy8h6n8⟩) (by assumption) ?fr8h6n8
        case fy8h6n8 => (intro w hSw; (try dsimp only [SN] at hSw); go_simp; try with_reducible rfl)
        try simp only [Act.put, List.setIfInBounds_toArray, List.set_cons_zero, List.set_cons_succ]
        refine wpAnyH_take (i := 9) (oi := _) (v := ?fv9h6n8) (by simp only [List.getElem?_toArray, List.getElem?_cons_zero, List.getElem?_cons_succ]; rfl) (by kernel_rfl) (by kernel_rfl) (by kernel_rfl) (fun _ _ _ h => h) (Or.inl ⟨by rfl, ?fy9h6n8⟩) (by assumption) ?fr9h6n8
        case fy9h6n8 => (intro w hSw; (try dsimp only [SN] at hSw); go_simp; try with_reducible rfl)
        try simp only [Act.put, List.setIfInBounds_toArray, List.set_cons_zero, List.set_cons_succ]
        refine wpAnyH_take (i := 11) (oi := _) (v := ?fv11h6n8) (by simp only [List.getElem?_toArray, List.getElem?_cons_zero, List.getElem?_cons_succ]; rfl) (by kernel_rfl) (by kernel_rfl) (by kernel_rfl) (fun _ _ _ h => h) (Or.inl ⟨by rfl, ?fy11h6n8⟩) (by assumption) ?fr11h6n8
        case fy11h6n8 => (intro w hSw; (try dsimp only [SN] at hSw); go_simp; try with_reducible rfl)
        try simp only [Act.put, List.setIfInBounds_toArray, List.set_cons_zero, List.set_cons_succ]
        refine wpAnyH_take (i := 12) (oi := _) (v := ?fv12h6n8) (by simp only [List.getElem?_toArray, List.getElem?_cons_zero, List.getElem?_cons_succ]; rfl) (by kernel_rfl) (by kernel_rfl) (by kernel_rfl) (fun _ _ _ h => h) (Or.inl ⟨by rfl, ?fy12h6n8⟩) (by assumption) ?fr12h6n8
        case fy12h6n8 => (intro w hSw; (try dsimp only [SN] at hSw); go_simp; try with_reducible rfl)
        try simp only [Act.put, List.setIfInBounds_toArray, List.set_cons_zero, List.set_cons_succ]
        refine wpAnyH_take (i := 13) (oi := _) (v := ?fv13h6n8) (by simp only [List.getElem?_toArray, List.getElem?_cons_zero, List.getElem?_cons_succ]; rfl) (by kernel_rfl) (by kernel_rfl) (by kernel_rfl) (fun _ _ _ h => h) (Or.inl ⟨by rfl, ?fy13h6n8⟩) (by assumption) ?fr13h6n8
        case fy13h6n8 => (intro w hSw; (try dsimp only [SN] at hSw); go_simp; try with_reducible rfl)
        try simp only [Act.put, List.setIfInBounds_toArray, List.set_cons_zero, List.set_cons_succ]
        refine wpAnyH_take (i := 14) (oi := _) (v := ?fv14h6n8) (by simp only [List.getElem?_toArray, List.getElem?_cons_zero, List.getElem?_cons_succ]; rfl) (by kernel_rfl) (by kernel_rfl) (by kernel_rfl) (fun _ _ _ h => h) (Or.inl ⟨by rfl, ?fy14h6n8⟩) (by assumption) ?fr14h6n8
        case fy14h6n8 => (intro w hSw; (try dsimp only [SN] at hSw); go_simp; try with_reducible rfl)
        try simp only [Act.put, List.setIfInBounds_toArray, List.set_cons_zero, List.set_cons_succ]
        refine wpAnyH_ready (rs := [10]) (by kernel_rfl) (by simp) ?_
        refine AllReadyH.cons (o := _) rfl (fun K hK => ?_) AllReadyH.nil
        go_simp
        ((with_reducible refine TC1.out.mono ?_); rintro v w6 ⟨rfl, x6, f6⟩; have T6 := Lib.hid (TW.out.two f6 x6); have Z6 := Lib.hid (HT.out.fr T6.out.k.l.f); clear f6 x6 TC1 TW)
        go_wp2_with fail
        refine hK.out _ _ T6.out.k.sn (fun hHeld => ?_)
        clear hK K
        try simp only [Act.put, List.setIfInBounds_toArray, List.set_cons_zero, List.set_cons_succ]
        refine wpAnyH_ready (rs := [15]) (by kernel_rfl) (by simp) ?_
        refine AllReadyH.cons (o := _) rfl (fun K hK => ?_) AllReadyH.nil
        go_simp
        ((with_reducible refine (OB.out _ Z6.out).mono ?_); rintro v w7 ⟨rfl, f7⟩; have T7 := Lib.hid (T6.out.fr f7); have Y7 := Lib.hid (XB.out _ _ _ _ _ _ T7.out.y (.inr rfl)); clear f7 T6 Z6)
        go_wp2_with fail
        refine hK.out _ _ T7.out.k.sn (fun hHeld => ?_)
        clear hK K
        try simp only [Act.put, List.setIfInBounds_toArray, List.set_cons_zero, List.set_cons_succ]
        refine wpAnyH_take (i := 16) (oi := _) (v := ?fv16h6n9) (by simp only [List.getElem?_toArray, List.getElem?_cons_zero, List.getElem?_cons_succ]; rfl) (by kernel_rfl) (by kernel_rfl) (by kernel_rfl) (fun _ _ _ h => h) (Or.inl ⟨by rfl, ?fy16h6n9⟩) (by assumption) ?fr16h6n9
        case fy16h6n9 => (intro w hSw; (try dsimp only [SN] at hSw); go_simp; try with_reducible rfl)
        try simp only [Act.put, List.setIfInBounds_toArray, List.set_cons_zero, List.set_cons_succ]
        refine wpAnyH_take (i := 17) (oi := _) (v := ?fv17h6n9) (by simp only [List.getElem?_toArray, List.getElem?_cons_zero, List.getElem?_cons_succ]; rfl) (by kernel_rfl) (by kernel_rfl) (by kernel_rfl) (fun _ _ _ h => h) (Or.inl ⟨by rfl, ?fy17h6n9⟩) (by assumption) ?fr17h6n9
        case fy17h6n9 => (intro w hSw; (try dsimp only [SN] at hSw); go_simp; try with_reducible rfl)
        try simp only [Act.put, List.setIfInBounds_toArray, List.set_cons_zero, List.set_cons_succ]
        refine wpAnyH_take (i := 18) (oi := _) (v := ?fv18h6n9) (by simp only [List.getElem?_toArray, List.getElem?_cons_zero, List.getElem?_cons_succ]; rfl) (by kernel_rfl) (by kernel_rfl) (by kernel_rfl) (fun _ _ _ h => h) (Or.inl ⟨by rfl, ?fy18h6n9⟩) (by assumption) ?fr18h6n9
        case fy18h6n9 => (intro w hSw; (try dsimp only [SN] at hSw); go_simp; try with_reducible rfl)
        try simp only [Act.put, List.setIfInBounds_toArray, List.set_cons_zero, List.set_cons_succ]
        refine wpAnyH_take (i := 19) (oi := _) (v := ?fv19h6n9) (by simp only [List.getElem?_toArray, List.getElem?_cons_zero, List.getElem?_cons_succ]; rfl) (by kernel_rfl) (by kernel_rfl) (by kernel_rfl) (fun _ _ _ h => h) (Or.inl ⟨by rfl, ?fy19h6n9⟩) (by assumption) ?fr19h6n9
        case fy19h6n9 => (intro w hSw; (try dsimp only [SN] at hSw); go_simp; try with_reducible rfl)
        try simp only [Act.put, List.setIfInBounds_toArray, List.set_cons_zero, List.set_cons_succ]
        refine wpAnyH_ready (rs := [20]) (by kernel_rfl) (by simp) ?_
        refine AllReadyH.cons (o := _) rfl (fun K hK => ?_) AllReadyH.nil
        go_simp
        ((with_reducible refine Y7.out.mono ?_); rintro v w8 ⟨rfl, rfl⟩; clear Y7)
        go_wp2_with fail
        refine hK.out _ _ T7.out.k.sn (fun hHeld => ?_)
        clear hK K
        try simp only [Act.put, List.setIfInBounds_toArray, List.set_cons_zero, List.set_cons_succ]
        refine wpAnyH_take (i := 21) (oi := _) (v := ?fv21h6n10) (by simp only [List.getElem?_toArray, List.getElem?_cons_zero, List.getElem?_cons_succ]; rfl) (by kernel_rfl) (by kernel_rfl) (by kernel_rfl) (fun _ _ _ h => h) (Or.inl ⟨by rfl, ?fy21h6n10⟩) (by assumption) ?fr21h6n10
        case fy21h6n10 => (intro w hSw; (try dsimp only [SN] at hSw); go_simp; try with_reducible rfl)
        try simp only [Act.put, List.setIfInBounds_toArray, List.set_cons_zero, List.set_cons_succ]
        refine wpAnyH_take (i := 22) (oi := _) (v := ?fv22h6n10) (by simp only [List.getElem?_toArray, List.getElem?_cons_zero, List.getElem?_cons_succ]; rfl) (by kernel_rfl) (by kernel_rfl) (by kernel_rfl) (fun _ _ _ h => h) (Or.inl ⟨by rfl, ?fy22h6n10⟩) (by assumption) ?fr22h6n10
        case fy22h6n10 => (intro w hSw; (try dsimp only [SN] at hSw); go_simp; try with_reducible rfl)
        try simp only [Act.put, List.setIfInBounds_toArray, List.set_cons_zero, List.set_cons_succ]
        refine wpAnyH_take (i := 23) (oi := _) (v := ?fv23h6n10) (by simp only [List.getElem?_toArray, List.getElem?_cons_zero, List.getElem?_cons_succ]; rfl) (by kernel_rfl) (by kernel_rfl) (by kernel_rfl) (fun _ _ _ h => h) (Or.inl ⟨by rfl, ?fy23h6n10⟩) (by assumption) ?fr23h6n10
        case fy23h6n10 => (intro w hSw; (try dsimp only [SN] at hSw); go_simp; try with_reducible rfl)
        try simp only [Act.put, List.setIfInBounds_toArray, List.set_cons_zero, List.set_cons_succ]
        refine wpAnyH_done (by kernel_rfl) ?_ _
        refine NoPanic.normal ?_
        clear hHeld
        go_wp2
        go_ret
        exact ⟨rfl, T7.out.k.l.f⟩
  · have V := Lib.hid (fun W => valid_any h W false (decide_eq_false hk).symm)
    clear hk ok hc hT a50 a51
    obtain ⟨hc, hfl, hs, hd⟩ := h
    obtain ⟨⟨cp, ce, co, cr⟩, ck⟩ := c
    obtain ⟨sp, su, sd⟩ := s
    dsimp only [Ho.v, Ho.box, Ca.v, Ca.box, Sp.v, Sp.box, callV, callBox] at *
    go_enter Tryd.func8, Tryd.ntmps8
    go_wp2_with fail
    generalize World.alloc (World.alloc (World.alloc (World.alloc (World.alloc w _) _) _) _) _ = w0 at *
    have Z0 := Lib.hid (HT.out.fr TB.out.l.f)
    with_reducible refine (efirst_any _ Z0.out).mono ?_
    rintro v w1 ⟨rfl, hf⟩
    have T1 := Lib.hid (TB.out.fr hf)
    clear hf TB Z0
    obtain ⟨i0, i1, i2, i3⟩ := T1.out.l.h.cells
    dsimp only at i0 i1 i2 i3
    go_wp2_with fail
    with_reducible refine (V.out _).mono ?_
    rintro v w2 ⟨rfl, hf⟩
    have T2 := Lib.hid (T1.out.fr hf)
    clear hf i0 i1 i2 i3 T1
    go_wp2
    go_ret
    exact ⟨rfl, T2.out.l.f⟩
theorem eruns_walk (h : Ho) (c : Ca) (s : Sp) (q e q2 e2 k5 : Int) (hc : c.k ≤ 9223372036854775807) (ok : s.ok) (a50 : -9223372036854775808 ≤ k5) (a51 : k5 ≤ 9223372036854775807) (W : World) (hT : Tz W) :
    Calls Tryd.prog 8 #[h.v, c.v, s.v, callV q e, callV q2 e2, .int .i64 k5] W fun x w' => x = .returned (.bool true) ∧ W.grownBy w' none :=
  (eruns_true h c s q e q2 e2 k5 hc ok a50 a51 W hT).mono fun _ _ ⟨he, hf⟩ => ⟨he, hf.grown (by simp)⟩
end Go.Proofs.YtdmomnhacijmpaaDoor
