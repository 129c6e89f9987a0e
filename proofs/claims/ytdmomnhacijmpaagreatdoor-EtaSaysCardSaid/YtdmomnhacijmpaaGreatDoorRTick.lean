/- The document's car a tick later. -/
import Derived.Test.YtdmomnhacijmpaaGreatDoorRCar
import Derived.Test.YtdmomnhacijmpaaGreatDoorRFit
import Derived.Test.YtdmomnhacijmpaaGreatDoorPlRef
namespace Go.Proofs.YtdmomnhacijmpaaGreatDoor
open Go.RowKit

/-- A house's, a car's, the stops' boxes; the answer's: a car, a deed. -/
structure RS (W : World) (h : Ho) (c : Ca) (s : Sp) (y : Ca) (e : Dn) (a : World) : Prop where
  f : Fr W a []
  h : HB a W.heap.size h
  c : QB a (W.heap.size + 1) c
  s : SQ a (W.heap.size + 2) s
  y : QB a (W.heap.size + 3) y
  e : QN a (W.heap.size + 4) e
theorem RS.fr {W : World} {h : Ho} {c : Ca} {s : Sp} {y : Ca} {e : Dn} {a a' : World} (q : RS W h c s y e a) (f : Fr a a' []) : RS W h c s y e a' :=
  ⟨q.f.trans f, q.h.fr f, q.c.fr f (by simp), f.heap q.s (by simp), q.y.fr f (by simp), q.e.fr f (by simp)⟩
theorem RS.new (w : World) (h : Ho) (c : Ca) (s : Sp) : RS w h c s zCa zDn (((((w.alloc h.box).alloc c.qbox).alloc (Sp.box 37 s)).alloc zCa.qbox).alloc zDn.qbox) := by
  have a1 := heap_alloc_new w h.box
  have a2 := heap_alloc_new (w.alloc h.box) c.qbox
  have a3 := heap_alloc_new ((w.alloc h.box).alloc c.qbox) (Sp.box 37 s)
  have a4 := heap_alloc_new (((w.alloc h.box).alloc c.qbox).alloc (Sp.box 37 s)) zCa.qbox
  have a5 := heap_alloc_new ((((w.alloc h.box).alloc c.qbox).alloc (Sp.box 37 s)).alloc zCa.qbox) zDn.qbox
  rw [show (w.alloc h.box).heap.size = w.heap.size + 1 by simp] at a2
  rw [show ((w.alloc h.box).alloc c.qbox).heap.size = w.heap.size + 2 by simp] at a3
  rw [show (((w.alloc h.box).alloc c.qbox).alloc (Sp.box 37 s)).heap.size = w.heap.size + 3 by simp] at a4
  rw [show ((((w.alloc h.box).alloc c.qbox).alloc (Sp.box 37 s)).alloc zCa.qbox).heap.size = w.heap.size + 4 by simp] at a5
  have f1 := Fr.alloc w h.box []
  have f2 := Fr.alloc (w.alloc h.box) c.qbox []
  have f3 := Fr.alloc ((w.alloc h.box).alloc c.qbox) (Sp.box 37 s) []
  have f4 := Fr.alloc (((w.alloc h.box).alloc c.qbox).alloc (Sp.box 37 s)) zCa.qbox []
  have f5 := Fr.alloc ((((w.alloc h.box).alloc c.qbox).alloc (Sp.box 37 s)).alloc zCa.qbox) zDn.qbox []
  have f35 := (f3.trans f4).trans f5
  exact ⟨(f1.trans f2).trans f35, (f2.trans f35).heap a1 (by simp), f35.heap a2 (by simp), (f4.trans f5).heap a3 (by simp), f5.heap a4 (by simp), a5⟩
theorem RS.ret1 {W : World} {h : Ho} {c : Ca} {s : Sp} {y : Ca} {e : Dn} {a : World} (q : RS W h c s y e a) (z : Ca) : RS W h c s z e (carSet a (W.heap.size + 3) z) :=
  have f := carSet_fr a (W.heap.size + 3) z
  ⟨q.f.new f (by simp), f.heap q.h (by simp), q.c.fr f (by simp), f.heap q.s (by simp), q.y.set z, q.e.fr f (by simp)⟩
theorem RS.ret2 {W : World} {h : Ho} {c : Ca} {s : Sp} {y : Ca} {e : Dn} {a : World} (q : RS W h c s y e a) (z : Dn) : RS W h c s y z (dnSet a (W.heap.size + 4) z) :=
  have f := dnSet_fr a (W.heap.size + 4) z
  ⟨q.f.new f (by simp), f.heap q.h (by simp), q.c.fr f (by simp), f.heap q.s (by simp), q.y.fr f (by simp), q.e.set z⟩
theorem RS.turn {W : World} {h : Ho} {c x : Ca} {s : Sp} {y : Ca} {e : Dn} {a a' : World} (q : RS W h c s y e a) (f : Fr a a' [W.heap.size + 1]) (k : QB a' (W.heap.size + 1) x) : RS W h x s y e a' :=
  ⟨q.f.new f (by simp), f.heap q.h (by simp), k, f.heap q.s (by simp), q.y.fr f (by simp), q.e.fr f (by simp)⟩
theorem RS.past {W : World} {h : Ho} {c : Ca} {s : Sp} {y : Ca} {e : Dn} {a a' : World} {n : Nat} (q : RS W h c s y e a) (f : Fr a a' [n]) (hn : W.heap.size + 4 < n) : RS W h c s y e a' :=
  ⟨q.f.new f (by simp; omega), f.heap q.h (by simp; omega), q.c.fr f (by simp; omega), f.heap q.s (by simp; omega), q.y.fr f (by simp; omega), q.e.fr f (by simp; omega)⟩
/-- And the deed's. -/
structure RT (W : World) (n : Nat) (h : Ho) (c : Ca) (s : Sp) (d : Dn) (a : World) : Prop where
  q : RS W h c s zCa zDn a
  d : QN a n d
  lo : W.heap.size + 4 < n
theorem RT.fr {W : World} {n : Nat} {h : Ho} {c : Ca} {s : Sp} {d : Dn} {a a' : World} (q : RT W n h c s d a) (f : Fr a a' []) : RT W n h c s d a' := ⟨q.q.fr f, q.d.fr f (by simp), q.lo⟩
theorem RT.new {W : World} {h : Ho} {c : Ca} {s : Sp} {a : World} (q : RS W h c s zCa zDn a) : RT W a.heap.size h c s zDn (a.alloc zDn.qbox) := ⟨q.fr (Fr.alloc _ _ []), QN.new a zDn, size_of_row q.e⟩
theorem RT.car {W : World} {n : Nat} {h : Ho} {c x : Ca} {s : Sp} {d : Dn} {a a' : World} (q : RT W n h c s d a) (f : Fr a a' [W.heap.size + 1]) (k : QB a' (W.heap.size + 1) x) : RT W n h x s d a' :=
  have lo := q.lo
  ⟨q.q.turn f k, q.d.fr f (by simp; omega), q.lo⟩
theorem RT.deed {W : World} {n : Nat} {h : Ho} {c : Ca} {s : Sp} {d x : Dn} {a a' : World} (q : RT W n h c s d a) (f : Fr a a' [n]) (k : QN a' n x) : RT W n h c s x a' := ⟨q.q.past f q.lo, k, q.lo⟩
/-- What the last region reads. -/
def RY (m n : Nat) (c : Ca) (d : Dn) (a : World) : Prop :=
  (a.cell? ⟨m, 0, none⟩ = some (.int .i64 c.x.p) ∧ a.cell? ⟨m, 1, none⟩ = some (.int .i64 c.x.e) ∧ a.cell? ⟨m, 2, none⟩ = some (.int .i64 c.x.o) ∧ a.cell? ⟨m, 3, none⟩ = some (.bool c.x.r) ∧ a.cell? ⟨m, 4, none⟩ = some (.int .i64 c.k)) ∧
  a.cell? ⟨n, 0, none⟩ = some (.bool d.op) ∧ a.cell? ⟨n, 1, none⟩ = some (.bool d.cl) ∧ a.cell? ⟨n, 2, none⟩ = some (.int .i64 d.fl) ∧ a.cell? ⟨n, 3, none⟩ = some (.int .i64 d.la) ∧ a.cell? ⟨n, 4, none⟩ = some (.int .i64 d.mv) ∧
  a.cell? ⟨n, 5, none⟩ = some (.int .u64 d.st.c) ∧ a.cell? ⟨n, 6, none⟩ = some (.int .u64 d.st.u) ∧ a.cell? ⟨n, 7, none⟩ = some (.int .u64 d.st.d)
/-- The boxes of the car, the deed, the answer. -/
structure RE (W : World) (n : Nat) (c : Ca) (d : Dn) (y : Ca) (e : Dn) (a : World) : Prop where
  f : Fr W a []
  c : QB a (W.heap.size + 1) c
  d : QN a n d
  y : QB a (W.heap.size + 3) y
  e : QN a (W.heap.size + 4) e
  lo : W.heap.size + 4 < n
theorem RE.of {W : World} {n : Nat} {h : Ho} {c : Ca} {s : Sp} {d : Dn} {a : World} (q : RT W n h c s d a) : RE W n c d zCa zDn a := ⟨q.q.f, q.q.c, q.d, q.q.y, q.q.e, q.lo⟩
theorem RE.fr {W : World} {n : Nat} {c : Ca} {d : Dn} {y : Ca} {e : Dn} {a a' : World} (q : RE W n c d y e a) (f : Fr a a' []) : RE W n c d y e a' := ⟨q.f.trans f, q.c.fr f (by simp), q.d.fr f (by simp), q.y.fr f (by simp), q.e.fr f (by simp), q.lo⟩
theorem RE.one {W : World} {n : Nat} {c : Ca} {d : Dn} {y : Ca} {e : Dn} {a : World} (q : RE W n c d y e a) (z : Ca) : RE W n c d z e (carSet a (W.heap.size + 3) z) :=
  have f := carSet_fr a (W.heap.size + 3) z
  have lo := q.lo
  ⟨q.f.new f (by simp), q.c.fr f (by simp), q.d.fr f (by simp; omega), q.y.set z, q.e.fr f (by simp), q.lo⟩
theorem RE.two {W : World} {n : Nat} {c : Ca} {d : Dn} {y : Ca} {e : Dn} {a : World} (q : RE W n c d y e a) (z : Dn) : RE W n c d y z (dnSet a (W.heap.size + 4) z) :=
  have f := dnSet_fr a (W.heap.size + 4) z
  have lo := q.lo
  ⟨q.f.new f (by simp), q.c.fr f (by simp), q.d.fr f (by simp; omega), q.y.fr f (by simp), q.e.set z, q.lo⟩
theorem RE.ry {W : World} {n : Nat} {c : Ca} {d : Dn} {y : Ca} {e : Dn} {a : World} (q : RE W n c d y e a) : RY (W.heap.size + 1) n c d a := ⟨q.c.cells, q.d.cells.c0, q.d.cells.c1, q.d.cells.c2, q.d.cells.c3, q.d.cells.c4, q.d.cells.c5, q.d.cells.c6, q.d.cells.c7⟩

set_option maxHeartbeats 8000000 in
set_option maxRecDepth 100000 in
theorem rct_wrong (h : Ho) (c : Ca) (s : Sp) (w : World) (R : ¬ RightIs h c) :
    Calls Tryz.prog 17 #[h.v, c.v, s.v, .bool false] w fun v w' => v = .returned (.tuple #[c.v, zDn.v]) ∧ Fr w w' [] := by
  obtain ⟨bv, hbv⟩ : ∃ b, b = decide h.ok := ⟨_, rfl⟩
  have RV := Lib.hid (fun W => rvalid_any h W bv hbv)
  have RR := Lib.hid (fun W => rcright_any h c W false (by
    cases k : c.right h with
    | false => rfl
    | true => exact absurd ((right_iff h c).1 k) R))
  have TB := Lib.hid (RS.new w h c s)
  clear R hbv
  obtain ⟨hc, hfl, hs, hd⟩ := h
  obtain ⟨⟨xp, xe, xo, xr⟩, xk⟩ := c
  obtain ⟨sp, su, sd⟩ := s
  dsimp only [Ho.v, Ho.box, Ca.v, Ca.qbox, Sp.v, Sp.box, Dn.v, Dn.qbox, dv, zCa, zDn, zSp, De.v, De.box] at *
  simp only [show ((0 : Nat) : Int) = 0 from rfl] at *
  go_enter Tryz.func17, Tryz.ntmps17
  go_upto_region 1 with fail
  generalize World.alloc (World.alloc (World.alloc (World.alloc (World.alloc w _) _) _) _) _ = w0 at *
  obtain ⟨i0, i1, i2, i3⟩ := TB.out.h.cells
  dsimp only at i0 i1 i2 i3
  go_wp2_with fail
  with_reducible refine (RV.out _).mono ?_
  rintro v w1 ⟨rfl, hg⟩
  have T1 := Lib.hid (TB.out.fr hg)
  clear hg i0 i1 i2 i3 TB RV
  cases bv with
  | false =>
    obtain ⟨c0, c1, c2, c3, c4⟩ := T1.out.c.cells
    obtain ⟨r0, r1, r2, r3, r4⟩ := T1.out.y.cells
    obtain ⟨n0, n1, n2, n3, n4, n5, n6, n7⟩ := T1.out.e.cells
    have TA := Lib.hid (T1.out.ret1 ⟨⟨xp, xe, xo, xr⟩, xk⟩)
    have TZ := Lib.hid (TA.out.ret2 zDn)
    have y0 := T1.out.y.fz 0
    have y1 := T1.out.y.fz 1
    have y2 := T1.out.y.fz 2
    have y3 := T1.out.y.fz 3
    have y4 := T1.out.y.fz 4
    have m0 := T1.out.e.fz 0
    have m1 := T1.out.e.fz 1
    have m2 := T1.out.e.fz 2
    have m3 := T1.out.e.fz 3
    have m4 := T1.out.e.fz 4
    have m5 := T1.out.e.fz 5
    have m6 := T1.out.e.fz 6
    have m7 := T1.out.e.fz 7
    dsimp only [zCa, zDn, zSp, carSet, dnSet] at TZ c0 c1 c2 c3 c4 r0 r1 r2 r3 r4 n0 n1 n2 n3 n4 n5 n6 n7
    simp only [show ((0 : Nat) : Int) = 0 from rfl] at TZ n5 n6 n7
    obtain ⟨x0, x1, x2, x3, x4⟩ := TZ.out.y.cells
    obtain ⟨e0, e1, e2, e3, e4, e5, e6, e7⟩ := TZ.out.e.cells
    dsimp only at x0 x1 x2 x3 x4 e0 e1 e2 e3 e4 e5 e6 e7
    have FZ := Lib.hid TZ.out.f
    clear TA TZ T1
    go_wp2
    exact bodyPost_ret (v := .tuple #[.agg #[.int .i64 xp, .int .i64 xe, .int .i64 xo, .bool xr, .int .i64 xk], .agg #[.bool false, .bool false, .int .i64 0, .int .i64 0, .int .i64 0, .int .u64 0, .int .u64 0, .int .u64 0]]) (by simp [results, Tryz.results17, go_sem, x0, x1, x2, x3, x4, e0, e1, e2, e3, e4, e5, e6, e7]) rfl ⟨rfl, FZ.out⟩
  | true =>
    obtain ⟨i0, i1, i2, i3⟩ := T1.out.h.cells
    obtain ⟨c0, c1, c2, c3, c4⟩ := T1.out.c.cells
    dsimp only at i0 i1 i2 i3 c0 c1 c2 c3 c4
    go_wp2_with fail
    with_reducible refine (RR.out _).mono ?_
    rintro v w2 ⟨rfl, hg⟩
    have T2 := Lib.hid (T1.out.fr hg)
    clear hg i0 i1 i2 i3 c0 c1 c2 c3 c4 T1 RR
    obtain ⟨c0, c1, c2, c3, c4⟩ := T2.out.c.cells
    obtain ⟨r0, r1, r2, r3, r4⟩ := T2.out.y.cells
    obtain ⟨n0, n1, n2, n3, n4, n5, n6, n7⟩ := T2.out.e.cells
    have TA := Lib.hid (T2.out.ret1 ⟨⟨xp, xe, xo, xr⟩, xk⟩)
    have TZ := Lib.hid (TA.out.ret2 zDn)
    have y0 := T2.out.y.fz 0
    have y1 := T2.out.y.fz 1
    have y2 := T2.out.y.fz 2
    have y3 := T2.out.y.fz 3
    have y4 := T2.out.y.fz 4
    have m0 := T2.out.e.fz 0
    have m1 := T2.out.e.fz 1
    have m2 := T2.out.e.fz 2
    have m3 := T2.out.e.fz 3
    have m4 := T2.out.e.fz 4
    have m5 := T2.out.e.fz 5
    have m6 := T2.out.e.fz 6
    have m7 := T2.out.e.fz 7
    dsimp only [zCa, zDn, zSp, carSet, dnSet] at TZ c0 c1 c2 c3 c4 r0 r1 r2 r3 r4 n0 n1 n2 n3 n4 n5 n6 n7
    simp only [show ((0 : Nat) : Int) = 0 from rfl] at TZ n5 n6 n7
    obtain ⟨x0, x1, x2, x3, x4⟩ := TZ.out.y.cells
    obtain ⟨e0, e1, e2, e3, e4, e5, e6, e7⟩ := TZ.out.e.cells
    dsimp only at x0 x1 x2 x3 x4 e0 e1 e2 e3 e4 e5 e6 e7
    have FZ := Lib.hid TZ.out.f
    clear TA TZ T2
    go_wp2
    exact bodyPost_ret (v := .tuple #[.agg #[.int .i64 xp, .int .i64 xe, .int .i64 xo, .bool xr, .int .i64 xk], .agg #[.bool false, .bool false, .int .i64 0, .int .i64 0, .int .i64 0, .int .u64 0, .int .u64 0, .int .u64 0]]) (by simp [results, Tryz.results17, go_sem, x0, x1, x2, x3, x4, e0, e1, e2, e3, e4, e5, e6, e7]) rfl ⟨rfl, FZ.out⟩
set_option maxHeartbeats 8000000 in
set_option maxRecDepth 100000 in
theorem rct_open (h : Ho) (c : Ca) (s : Sp) (w : World) (R : RightIs h c) (g : 0 < c.x.o) (x : Ca) (d : Dn) (hx : c.tick h s false = (x, d)) :
    Calls Tryz.prog 17 #[h.v, c.v, s.v, .bool false] w fun v w' => v = .returned (.tuple #[x.v, d.v]) ∧ Fr w w' [] := by
  rw [tick_open R g] at hx
  obtain ⟨L, hL⟩ : ∃ L, L = tickL c.x.o false := ⟨_, rfl⟩
  obtain ⟨K, hK⟩ : ∃ K, K = heldK c.x.o c.k false := ⟨_, rfl⟩
  obtain ⟨B, hB⟩ : ∃ B, B = tickB c.x.o false := ⟨_, rfl⟩
  obtain ⟨fl, hfl⟩ : ∃ fl, fl = h.flr c.x.p := ⟨_, rfl⟩
  have RV := Lib.hid (fun W => rvalid_any h W true (decide_eq_true R.ok).symm)
  have RR := Lib.hid (fun W => rcright_any h c W true ((right_iff h c).2 R).symm)
  have TD := Lib.hid (fun W => rtick_no c.x.o c.k W L K B hL hK hB (by have := R.o1; have := R.ok.2.2.2; omega))
  have FL := Lib.hid (fun W => rfloor_any h c.x.p W fl hfl)
  have TB := Lib.hid (RS.new w h c s)
  have g2 : decide (0 < c.x.o) = true := decide_eq_true g
  rw [← hL, ← hK, ← hB, ← hfl] at hx
  clear R hL hK hB hfl
  simp only [Prod.mk.injEq] at hx
  obtain ⟨rfl, rfl⟩ := hx
  obtain ⟨hc, hfl, hs, hd⟩ := h
  obtain ⟨⟨xp, xe, xo, xr⟩, xk⟩ := c
  obtain ⟨sp, su, sd⟩ := s
  dsimp only [Ho.v, Ho.box, Ca.v, Ca.qbox, Sp.v, Sp.box, Dn.v, Dn.qbox, dv, zCa, zDn, zSp, De.v, De.box] at *
  simp only [show ((0 : Nat) : Int) = 0 from rfl] at *
  go_enter Tryz.func17, Tryz.ntmps17
  go_upto_region 1 with fail
  generalize World.alloc (World.alloc (World.alloc (World.alloc (World.alloc w _) _) _) _) _ = w0 at *
  obtain ⟨i0, i1, i2, i3⟩ := TB.out.h.cells
  dsimp only at i0 i1 i2 i3
  go_wp2_with fail
  with_reducible refine (RV.out _).mono ?_
  rintro v w1 ⟨rfl, hg⟩
  have T1 := Lib.hid (TB.out.fr hg)
  clear hg i0 i1 i2 i3 TB RV
  obtain ⟨i0, i1, i2, i3⟩ := T1.out.h.cells
  obtain ⟨c0, c1, c2, c3, c4⟩ := T1.out.c.cells
  dsimp only at i0 i1 i2 i3 c0 c1 c2 c3 c4
  go_wp2_with fail
  with_reducible refine (RR.out _).mono ?_
  rintro v w2 ⟨rfl, hg⟩
  have T2 := Lib.hid (T1.out.fr hg)
  clear hg i0 i1 i2 i3 c0 c1 c2 c3 c4 T1 RR
  have T3 := Lib.hid (RT.new T2.out)
  dsimp only [zDn, zSp, Dn.qbox] at T3
  simp only [show ((0 : Nat) : Int) = 0 from rfl] at T3
  go_upto_region 4 with fail
  obtain ⟨n, hn⟩ : ∃ n, w2.heap.size = n := ⟨_, rfl⟩
  rw [hn] at T3
  rw [hn]
  clear hn
  generalize World.alloc w2 _ = w3 at *
  clear T2
  obtain ⟨c0, c1, c2, c3, c4⟩ := T3.out.q.c.cells
  dsimp only at c0 c1 c2 c3 c4
  go_wp2_with fail
  with_reducible refine (TD.out _).mono ?_
  rintro v w11 ⟨rfl, hg⟩
  have T11 := Lib.hid (T3.out.fr hg)
  clear c0 c1 c2 c3 c4 hg T3 TD
  have D0 := Lib.hid (heap_alloc_new w11 (dbox 79 L K))
  have DL := Lib.hid (show w.heap.size + 1 < w11.heap.size ∧ n < w11.heap.size from by have := size_of_row T11.out.d; have := T11.out.lo; omega)
  have T12 := Lib.hid (T11.out.fr (Fr.alloc w11 (dbox 79 L K) []))
  dsimp only [dbox] at D0 T12
  go_upto_region 6 with fail
  obtain ⟨m, hm⟩ : ∃ m, w11.heap.size = m := ⟨_, rfl⟩
  rw [hm] at D0 DL
  rw [hm]
  clear hm
  generalize World.alloc w11 _ = w12 at *
  clear T11
  obtain ⟨d0, d1⟩ := drow D0.out
  have D2 := Lib.hid ((Fr.setCell w12 (w.heap.size + 1) 2 (.int .i64 L) (S := [w.heap.size + 1]) (by simp)).heap D0.out (by have := DL.out; simp; omega))
  have T13 := Lib.hid (show RT w n ⟨hc, hfl, hs, hd⟩ ⟨⟨xp, xe, L, xr⟩, xk⟩ ⟨sp, su, sd⟩ ⟨false, false, 0, 0, 0, ⟨0, 0, 0⟩⟩ (w12.setCell ⟨w.heap.size + 1, 2, none⟩ (.int .i64 L)) from T12.out.car (Fr.setCell w12 (w.heap.size + 1) 2 _ (by simp)) (T12.out.q.c.put2 L))
  obtain ⟨c0, c1, c2, c3, c4⟩ := T12.out.q.c.cells
  dsimp only at c0 c1 c2 c3 c4
  have zf := T12.out.q.c.fz 2
  go_upto_region 7 with fail
  generalize World.setCell w12 _ _ = w13 at *
  clear c0 c1 c2 c3 c4 zf T12
  clear d0 d1 D0
  obtain ⟨d0, d1⟩ := drow D2.out
  have D0 := Lib.hid D2.out
  clear D2
  have D4 := Lib.hid ((Fr.setCell w13 (w.heap.size + 1) 4 (.int .i64 K) (S := [w.heap.size + 1]) (by simp)).heap D0.out (by have := DL.out; simp; omega))
  have T14 := Lib.hid (show RT w n ⟨hc, hfl, hs, hd⟩ ⟨⟨xp, xe, L, xr⟩, K⟩ ⟨sp, su, sd⟩ ⟨false, false, 0, 0, 0, ⟨0, 0, 0⟩⟩ (w13.setCell ⟨w.heap.size + 1, 4, none⟩ (.int .i64 K)) from T13.out.car (Fr.setCell w13 (w.heap.size + 1) 4 _ (by simp)) (T13.out.q.c.put4 K))
  obtain ⟨c0, c1, c2, c3, c4⟩ := T13.out.q.c.cells
  dsimp only at c0 c1 c2 c3 c4
  have zf := T13.out.q.c.fz 4
  go_upto_region 8 with fail
  generalize World.setCell w13 _ _ = w14 at *
  clear c0 c1 c2 c3 c4 zf T13
  clear d0 d1 D0
  obtain ⟨d0, d1⟩ := drow D4.out
  have D0 := Lib.hid D4.out
  clear D4
  clear d0 d1 D0 DL
  have T15 := Lib.hid (show RT w n ⟨hc, hfl, hs, hd⟩ ⟨⟨xp, xe, L, xr⟩, K⟩ ⟨sp, su, sd⟩ ⟨false, B, 0, 0, 0, ⟨0, 0, 0⟩⟩ (w14.setCell ⟨n, 1, none⟩ (.bool B)) from T14.out.deed (Fr.setCell w14 n 1 _ (by simp)) (T14.out.d.put 1 _ _ rfl))
  obtain ⟨n0, n1, n2, n3, n4, n5, n6, n7⟩ := T14.out.d.cells
  dsimp only at n0 n1 n2 n3 n4 n5 n6 n7
  have zf := T14.out.d.fz 1
  go_upto_region 9 with fail
  generalize World.setCell w14 _ _ = w15 at *
  clear n0 n1 n2 n3 n4 n5 n6 n7 zf T14
  obtain ⟨i0, i1, i2, i3⟩ := T15.out.q.h.cells
  dsimp only at i0 i1 i2 i3
  obtain ⟨c0, c1, c2, c3, c4⟩ := T15.out.q.c.cells
  dsimp only at c0 c1 c2 c3 c4
  go_wp2_with fail
  with_reducible refine (FL.out _).mono ?_
  rintro v w16 ⟨rfl, hg⟩
  have T16 := Lib.hid (T15.out.fr hg)
  clear i0 i1 i2 i3 c0 c1 c2 c3 c4 hg T15 FL
  have T17 := Lib.hid (show RT w n ⟨hc, hfl, hs, hd⟩ ⟨⟨xp, xe, L, xr⟩, K⟩ ⟨sp, su, sd⟩ ⟨false, B, fl, 0, 0, ⟨0, 0, 0⟩⟩ (w16.setCell ⟨n, 2, none⟩ (.int .i64 fl)) from T16.out.deed (Fr.setCell w16 n 2 _ (by simp)) (T16.out.d.put 2 _ _ rfl))
  obtain ⟨n0, n1, n2, n3, n4, n5, n6, n7⟩ := T16.out.d.cells
  dsimp only at n0 n1 n2 n3 n4 n5 n6 n7
  have zf := T16.out.d.fz 2
  go_upto_region 10 with fail
  generalize World.setCell w16 _ _ = w17 at *
  clear n0 n1 n2 n3 n4 n5 n6 n7 zf T16
  have U6 := Lib.hid (RE.of T17.out)
  have U7 := Lib.hid (U6.out.one ⟨⟨xp, xe, L, xr⟩, K⟩)
  have U8 := Lib.hid (U7.out.two ⟨false, B, fl, 0, 0, ⟨0, 0, 0⟩⟩)
  have U9 := Lib.hid (U8.out.fr (Fr.drew _ []))
  obtain ⟨r0, r1, r2, r3, r4⟩ := U6.out.y.cells
  have y0 := U6.out.y.fz 0
  have y1 := U6.out.y.fz 1
  have y2 := U6.out.y.fz 2
  have y3 := U6.out.y.fz 3
  have y4 := U6.out.y.fz 4
  obtain ⟨n0, n1, n2, n3, n4, n5, n6, n7⟩ := U6.out.e.cells
  have m0 := U6.out.e.fz 0
  have m1 := U6.out.e.fz 1
  have m2 := U6.out.e.fz 2
  have m3 := U6.out.e.fz 3
  have m4 := U6.out.e.fz 4
  have m5 := U6.out.e.fz 5
  have m6 := U6.out.e.fz 6
  have m7 := U6.out.e.fz 7
  dsimp only [zCa, zDn, zSp] at r0 r1 r2 r3 r4 n0 n1 n2 n3 n4 n5 n6 n7
  simp only [show ((0 : Nat) : Int) = 0 from rfl] at n5 n6 n7
  clear T17
  go_wp2_with fail
  refine wp_region_noPanic ?_
  refine wp_region_held_drew (S := (RY (w.heap.size + 1) n ⟨⟨xp, xe, L, xr⟩, K⟩ ⟨false, B, fl, 0, 0, ⟨0, 0, 0⟩⟩)) (by kernel_rfl) (U6.out.fr (Fr.drew _ [])).ry (fun hHeld => ?_)
  refine wpAnyH_take (i := 0) (oi := _) (v := ?fv0h1n2) (by simp only [List.getElem?_toArray, List.getElem?_cons_zero]; rfl) (by kernel_rfl) (by kernel_rfl) (by kernel_rfl) (fun _ _ _ h => h) (Or.inl ⟨by rfl, ?fy0h1n2⟩) (by assumption) ?fr0h1n2
  case fy0h1n2 => (intro w hSw; (try dsimp only [RY] at hSw); go_simp; try with_reducible rfl)
  try simp only [Act.put, List.setIfInBounds_toArray, List.set_cons_zero, List.set_cons_succ]
  refine wpAnyH_take (i := 1) (oi := _) (v := ?fv1h1n2) (by simp only [List.getElem?_toArray, List.getElem?_cons_zero, List.getElem?_cons_succ]; rfl) (by kernel_rfl) (by kernel_rfl) (by kernel_rfl) (fun _ _ _ h => h) (Or.inl ⟨by rfl, ?fy1h1n2⟩) (by assumption) ?fr1h1n2
  case fy1h1n2 => (intro w hSw; (try dsimp only [RY] at hSw); go_simp; try with_reducible rfl)
  try simp only [Act.put, List.setIfInBounds_toArray, List.set_cons_zero, List.set_cons_succ]
  refine wpAnyH_ready (rs := [2]) (by kernel_rfl) (by simp) ?_
  refine AllReadyH.cons (o := _) rfl (fun K hK => ?_) AllReadyH.nil
  go_simp
  refine hK.out _ _ (U7.out.fr (Fr.drew _ [])).ry (fun hHeld => ?_)
  clear hK K
  try simp only [Act.put, List.setIfInBounds_toArray, List.set_cons_zero, List.set_cons_succ]
  refine wpAnyH_ready (rs := [3]) (by kernel_rfl) (by simp) ?_
  refine AllReadyH.cons (o := _) rfl (fun K hK => ?_) AllReadyH.nil
  go_simp
  refine hK.out _ _ (U8.out.fr (Fr.drew _ [])).ry (fun hHeld => ?_)
  clear hK K
  try simp only [Act.put, List.setIfInBounds_toArray, List.set_cons_zero, List.set_cons_succ]
  refine wpAnyH_done (by kernel_rfl) ?_ _
  refine NoPanic.normal ?_
  clear hHeld
  dsimp only [carSet, dnSet] at U9
  try simp only [show ((0 : Nat) : Int) = 0 from rfl] at U9
  go_wp2
  generalize World.drew (World.setCell (World.setCell (World.setCell (World.setCell (World.setCell (World.setCell (World.setCell (World.setCell (World.setCell (World.setCell (World.setCell (World.setCell (World.setCell w17 _ _) _ _) _ _) _ _) _ _) _ _) _ _) _ _) _ _) _ _) _ _) _ _) _ _) = v9 at *
  obtain ⟨x0, x1, x2, x3, x4⟩ := U9.out.y.cells
  obtain ⟨e0, e1, e2, e3, e4, e5, e6, e7⟩ := U9.out.e.cells
  dsimp only at x0 x1 x2 x3 x4 e0 e1 e2 e3 e4 e5 e6 e7
  try simp only [show ((0 : Nat) : Int) = 0 from rfl] at e5 e6 e7
  exact bodyPost_ret (v := .tuple #[.agg #[.int .i64 xp, .int .i64 xe, .int .i64 L, .bool xr, .int .i64 K], .agg #[.bool false, .bool B, .int .i64 fl, .int .i64 0, .int .i64 0, .int .u64 0, .int .u64 0, .int .u64 0]]) (by simp [results, Tryz.results17, go_sem, x0, x1, x2, x3, x4, e0, e1, e2, e3, e4, e5, e6, e7]) rfl ⟨rfl, U9.out.f⟩
set_option maxHeartbeats 8000000 in
set_option maxRecDepth 100000 in
theorem rct_btw (h : Ho) (c : Ca) (s : Sp) (w : World) (R : RightIs h c) (g : ¬ 0 < c.x.o) (l : ¬ h.lev c.x.p) (x : Ca) (d : Dn) (hx : c.tick h s false = (x, d)) :
    Calls Tryz.prog 17 #[h.v, c.v, s.v, .bool false] w fun v w' => v = .returned (.tuple #[x.v, d.v]) ∧ Fr w w' [] := by
  have o0 : c.x.o = 0 := by have := R.o0; omega
  have k0 : c.k = 0 := by have := R.held; omega
  have wy := way_is R l
  have br := btw_room R l
  have hr := Ho.range R.ok
  obtain ⟨P, hP⟩ : ∃ P, P = c.x.p + c.way := ⟨_, rfl⟩
  have RV := Lib.hid (fun W => rvalid_any h W true (decide_eq_true R.ok).symm)
  have RR := Lib.hid (fun W => rcright_any h c W true ((right_iff h c).2 R).symm)
  have LV := Lib.hid (fun W => rlevel_any h c.x.p W false (decide_eq_false l).symm)
  have hs : sgn c.way = c.way := sgn_small (by omega) (by omega)
  have GO := Lib.hid (fun W => rgo_any h c.x.p c.way W true (by rw [hs, ← hP]; exact (decide_eq_true ⟨R.ok, by omega, by omega⟩).symm) P (by rw [if_pos rfl, hs, hP]))
  obtain ⟨bl, hbl⟩ : ∃ b, b = decide (h.lev P) := ⟨_, rfl⟩
  have LP := Lib.hid (fun W => rlevel_any h P W bl hbl)
  obtain ⟨fl, hfl⟩ : ∃ fl, fl = h.flr P := ⟨_, rfl⟩
  have FL := Lib.hid (fun W => rfloor_any h P W fl hfl)
  have W1 : IntKind.i64.wrap (P - c.x.p) = c.way := by rw [hP, show c.x.p + c.way - c.x.p = c.way by omega]; exact IntWalk.i64_in _ (by omega)
  have g2 : decide (0 < c.x.o) = false := decide_eq_false g
  have TB := Lib.hid (RS.new w h c s)
  have HX : Hid ((h.lev P ∧ c.x.r = true ∧ x = ⟨⟨P, 0, 0, false⟩, 0⟩ ∧ d = ⟨false, false, fl, 0, c.way, zSp⟩) ∨ (¬ (h.lev P ∧ c.x.r = true) ∧ x = ⟨⟨P, c.way, 0, c.x.r⟩, 0⟩ ∧ d = ⟨false, false, fl, 0, c.way, zSp⟩)) := by
    refine Lib.hid ?_
    by_cases k : h.lev (c.x.p + c.way) ∧ c.x.r = true
    · rw [tick_relev R g l s false k, Prod.mk.injEq] at hx
      rw [hP, hfl, hP]
      exact .inl ⟨k.1, k.2, hx.1.symm, hx.2.symm⟩
    · rw [tick_on R g l s false k, Prod.mk.injEq] at hx
      rw [hP, hfl, hP]
      exact .inr ⟨k, hx.1.symm, hx.2.symm⟩
  have HB := Lib.hid hbl
  clear R g l hx hfl hbl hP br hr hs wy
  obtain ⟨hc, hfl, hs, hd⟩ := h
  obtain ⟨⟨xp, xe, xo, xr⟩, xk⟩ := c
  obtain ⟨sp, su, sd⟩ := s
  dsimp only at o0 k0
  subst o0 k0
  cases xr with
  | true =>
    have wv : (Ca.mk ⟨xp, xe, 0, true⟩ 0).way = -1 := rfl
    rw [wv] at GO W1 HX
    rcases HX.out with ⟨a, _, rfl, rfl⟩ | ⟨a, rfl, rfl⟩
    · have hb : bl = true := by rw [HB.out]; exact decide_eq_true a
      subst hb
      clear HX HB a wv
      dsimp only [Ho.v, Ho.box, Ca.v, Ca.qbox, Sp.v, Sp.box, Dn.v, Dn.qbox, dv, zCa, zDn, zSp, De.v, De.box] at *
      simp only [show ((0 : Nat) : Int) = 0 from rfl] at *
      go_enter Tryz.func17, Tryz.ntmps17
      go_upto_region 1 with fail
      generalize World.alloc (World.alloc (World.alloc (World.alloc (World.alloc w _) _) _) _) _ = w0 at *
      obtain ⟨i0, i1, i2, i3⟩ := TB.out.h.cells
      dsimp only at i0 i1 i2 i3
      go_wp2_with fail
      with_reducible refine (RV.out _).mono ?_
      rintro v w1 ⟨rfl, hg⟩
      have T1 := Lib.hid (TB.out.fr hg)
      clear hg i0 i1 i2 i3 TB RV
      obtain ⟨i0, i1, i2, i3⟩ := T1.out.h.cells
      obtain ⟨c0, c1, c2, c3, c4⟩ := T1.out.c.cells
      dsimp only at i0 i1 i2 i3 c0 c1 c2 c3 c4
      go_wp2_with fail
      with_reducible refine (RR.out _).mono ?_
      rintro v w2 ⟨rfl, hg⟩
      have T2 := Lib.hid (T1.out.fr hg)
      clear hg i0 i1 i2 i3 c0 c1 c2 c3 c4 T1 RR
      have T3 := Lib.hid (RT.new T2.out)
      dsimp only [zDn, zSp, Dn.qbox] at T3
      simp only [show ((0 : Nat) : Int) = 0 from rfl] at T3
      go_upto_region 4 with fail
      obtain ⟨n, hn⟩ : ∃ n, w2.heap.size = n := ⟨_, rfl⟩
      rw [hn] at T3
      rw [hn]
      clear hn
      generalize World.alloc w2 _ = w3 at *
      clear T2
      obtain ⟨i0, i1, i2, i3⟩ := T3.out.q.h.cells
      dsimp only at i0 i1 i2 i3
      obtain ⟨c0, c1, c2, c3, c4⟩ := T3.out.q.c.cells
      dsimp only at c0 c1 c2 c3 c4
      go_wp2_with fail
      with_reducible refine (LV.out _).mono ?_
      rintro v w11 ⟨rfl, hg⟩
      have T11 := Lib.hid (T3.out.fr hg)
      clear i0 i1 i2 i3 c0 c1 c2 c3 c4 hg T3 LV
      have T12 := Lib.hid (show RT w n ⟨hc, hfl, hs, hd⟩ ⟨⟨xp, -1, 0, true⟩, 0⟩ ⟨sp, su, sd⟩ ⟨false, false, 0, 0, 0, ⟨0, 0, 0⟩⟩ (w11.setCell ⟨w.heap.size + 1, 1, none⟩ (.int .i64 (-1))) from T11.out.car (Fr.setCell w11 (w.heap.size + 1) 1 _ (by simp)) (T11.out.q.c.put1 (-1)))
      obtain ⟨c0, c1, c2, c3, c4⟩ := T11.out.q.c.cells
      dsimp only at c0 c1 c2 c3 c4
      have zf := T11.out.q.c.fz 1
      go_upto_region 14 with fail
      generalize World.setCell w11 _ _ = w12 at *
      clear c0 c1 c2 c3 c4 zf T11
      obtain ⟨i0, i1, i2, i3⟩ := T12.out.q.h.cells
      dsimp only at i0 i1 i2 i3
      obtain ⟨c0, c1, c2, c3, c4⟩ := T12.out.q.c.cells
      dsimp only at c0 c1 c2 c3 c4
      go_wp2_with fail
      with_reducible refine (GO.out _).mono ?_
      rintro v w13 ⟨rfl, hg⟩
      have T13 := Lib.hid (T12.out.fr hg)
      clear i0 i1 i2 i3 c0 c1 c2 c3 c4 hg T12 GO
      have T14 := Lib.hid (show RT w n ⟨hc, hfl, hs, hd⟩ ⟨⟨xp, -1, 0, true⟩, 0⟩ ⟨sp, su, sd⟩ ⟨false, false, 0, 0, -1, ⟨0, 0, 0⟩⟩ (w13.setCell ⟨n, 4, none⟩ (.int .i64 (-1))) from T13.out.deed (Fr.setCell w13 n 4 _ (by simp)) (T13.out.d.put 4 _ _ rfl))
      obtain ⟨c0, c1, c2, c3, c4⟩ := T13.out.q.c.cells
      dsimp only at c0 c1 c2 c3 c4
      obtain ⟨n0, n1, n2, n3, n4, n5, n6, n7⟩ := T13.out.d.cells
      dsimp only at n0 n1 n2 n3 n4 n5 n6 n7
      have zf := T13.out.d.fz 4
      go_upto_region 16 with fail
      generalize World.setCell w13 _ _ = w14 at *
      clear n0 n1 n2 n3 n4 n5 n6 n7 c0 c1 c2 c3 c4 zf T13
      have T15 := Lib.hid (show RT w n ⟨hc, hfl, hs, hd⟩ ⟨⟨P, -1, 0, true⟩, 0⟩ ⟨sp, su, sd⟩ ⟨false, false, 0, 0, -1, ⟨0, 0, 0⟩⟩ (w14.setCell ⟨w.heap.size + 1, 0, none⟩ (.int .i64 P)) from T14.out.car (Fr.setCell w14 (w.heap.size + 1) 0 _ (by simp)) (T14.out.q.c.put0 P))
      obtain ⟨c0, c1, c2, c3, c4⟩ := T14.out.q.c.cells
      dsimp only at c0 c1 c2 c3 c4
      have zf := T14.out.q.c.fz 0
      go_upto_region 17 with fail
      generalize World.setCell w14 _ _ = w15 at *
      clear c0 c1 c2 c3 c4 zf T14
      obtain ⟨i0, i1, i2, i3⟩ := T15.out.q.h.cells
      dsimp only at i0 i1 i2 i3
      go_wp2_with fail
      with_reducible refine (LP.out _).mono ?_
      rintro v w16 ⟨rfl, hg⟩
      have T16 := Lib.hid (T15.out.fr hg)
      clear i0 i1 i2 i3 hg T15 LP
      have T17 := Lib.hid (show RT w n ⟨hc, hfl, hs, hd⟩ ⟨⟨P, -1, 0, false⟩, 0⟩ ⟨sp, su, sd⟩ ⟨false, false, 0, 0, -1, ⟨0, 0, 0⟩⟩ (w16.setCell ⟨w.heap.size + 1, 3, none⟩ (.bool false)) from T16.out.car (Fr.setCell w16 (w.heap.size + 1) 3 _ (by simp)) (T16.out.q.c.put3 false))
      obtain ⟨c0, c1, c2, c3, c4⟩ := T16.out.q.c.cells
      dsimp only at c0 c1 c2 c3 c4
      have zf := T16.out.q.c.fz 3
      go_upto_region 19 with fail
      generalize World.setCell w16 _ _ = w17 at *
      clear c0 c1 c2 c3 c4 zf T16
      have T18 := Lib.hid (show RT w n ⟨hc, hfl, hs, hd⟩ ⟨⟨P, 0, 0, false⟩, 0⟩ ⟨sp, su, sd⟩ ⟨false, false, 0, 0, -1, ⟨0, 0, 0⟩⟩ (w17.setCell ⟨w.heap.size + 1, 1, none⟩ (.int .i64 0)) from T17.out.car (Fr.setCell w17 (w.heap.size + 1) 1 _ (by simp)) (T17.out.q.c.put1 0))
      obtain ⟨c0, c1, c2, c3, c4⟩ := T17.out.q.c.cells
      dsimp only at c0 c1 c2 c3 c4
      have zf := T17.out.q.c.fz 1
      go_upto_region 20 with fail
      generalize World.setCell w17 _ _ = w18 at *
      clear c0 c1 c2 c3 c4 zf T17
      obtain ⟨i0, i1, i2, i3⟩ := T18.out.q.h.cells
      dsimp only at i0 i1 i2 i3
      obtain ⟨c0, c1, c2, c3, c4⟩ := T18.out.q.c.cells
      dsimp only at c0 c1 c2 c3 c4
      go_wp2_with fail
      with_reducible refine (FL.out _).mono ?_
      rintro v w19 ⟨rfl, hg⟩
      have T19 := Lib.hid (T18.out.fr hg)
      clear i0 i1 i2 i3 c0 c1 c2 c3 c4 hg T18 FL
      have T20 := Lib.hid (show RT w n ⟨hc, hfl, hs, hd⟩ ⟨⟨P, 0, 0, false⟩, 0⟩ ⟨sp, su, sd⟩ ⟨false, false, fl, 0, -1, ⟨0, 0, 0⟩⟩ (w19.setCell ⟨n, 2, none⟩ (.int .i64 fl)) from T19.out.deed (Fr.setCell w19 n 2 _ (by simp)) (T19.out.d.put 2 _ _ rfl))
      obtain ⟨n0, n1, n2, n3, n4, n5, n6, n7⟩ := T19.out.d.cells
      dsimp only at n0 n1 n2 n3 n4 n5 n6 n7
      have zf := T19.out.d.fz 2
      go_upto_region 21 with fail
      generalize World.setCell w19 _ _ = w20 at *
      clear n0 n1 n2 n3 n4 n5 n6 n7 zf T19
      have U6 := Lib.hid (RE.of T20.out)
      have U7 := Lib.hid (U6.out.one ⟨⟨P, 0, 0, false⟩, 0⟩)
      have U8 := Lib.hid (U7.out.two ⟨false, false, fl, 0, -1, ⟨0, 0, 0⟩⟩)
      have U9 := Lib.hid (U8.out.fr (Fr.drew _ []))
      obtain ⟨r0, r1, r2, r3, r4⟩ := U6.out.y.cells
      have y0 := U6.out.y.fz 0
      have y1 := U6.out.y.fz 1
      have y2 := U6.out.y.fz 2
      have y3 := U6.out.y.fz 3
      have y4 := U6.out.y.fz 4
      obtain ⟨n0, n1, n2, n3, n4, n5, n6, n7⟩ := U6.out.e.cells
      have m0 := U6.out.e.fz 0
      have m1 := U6.out.e.fz 1
      have m2 := U6.out.e.fz 2
      have m3 := U6.out.e.fz 3
      have m4 := U6.out.e.fz 4
      have m5 := U6.out.e.fz 5
      have m6 := U6.out.e.fz 6
      have m7 := U6.out.e.fz 7
      dsimp only [zCa, zDn, zSp] at r0 r1 r2 r3 r4 n0 n1 n2 n3 n4 n5 n6 n7
      simp only [show ((0 : Nat) : Int) = 0 from rfl] at n5 n6 n7
      clear T20
      go_wp2_with fail
      refine wp_region_noPanic ?_
      refine wp_region_held_drew (S := (RY (w.heap.size + 1) n ⟨⟨P, 0, 0, false⟩, 0⟩ ⟨false, false, fl, 0, -1, ⟨0, 0, 0⟩⟩)) (by kernel_rfl) (U6.out.fr (Fr.drew _ [])).ry (fun hHeld => ?_)
      refine wpAnyH_take (i := 0) (oi := _) (v := ?fv0h3n4) (by simp only [List.getElem?_toArray, List.getElem?_cons_zero]; rfl) (by kernel_rfl) (by kernel_rfl) (by kernel_rfl) (fun _ _ _ h => h) (Or.inl ⟨by rfl, ?fy0h3n4⟩) (by assumption) ?fr0h3n4
      case fy0h3n4 => (intro w hSw; (try dsimp only [RY] at hSw); go_simp; try with_reducible rfl)
      try simp only [Act.put, List.setIfInBounds_toArray, List.set_cons_zero, List.set_cons_succ]
      refine wpAnyH_take (i := 1) (oi := _) (v := ?fv1h3n4) (by simp only [List.getElem?_toArray, List.getElem?_cons_zero, List.getElem?_cons_succ]; rfl) (by kernel_rfl) (by kernel_rfl) (by kernel_rfl) (fun _ _ _ h => h) (Or.inl ⟨by rfl, ?fy1h3n4⟩) (by assumption) ?fr1h3n4
      case fy1h3n4 => (intro w hSw; (try dsimp only [RY] at hSw); go_simp; try with_reducible rfl)
      try simp only [Act.put, List.setIfInBounds_toArray, List.set_cons_zero, List.set_cons_succ]
      refine wpAnyH_ready (rs := [2]) (by kernel_rfl) (by simp) ?_
      refine AllReadyH.cons (o := _) rfl (fun K hK => ?_) AllReadyH.nil
      go_simp
      refine hK.out _ _ (U7.out.fr (Fr.drew _ [])).ry (fun hHeld => ?_)
      clear hK K
      try simp only [Act.put, List.setIfInBounds_toArray, List.set_cons_zero, List.set_cons_succ]
      refine wpAnyH_ready (rs := [3]) (by kernel_rfl) (by simp) ?_
      refine AllReadyH.cons (o := _) rfl (fun K hK => ?_) AllReadyH.nil
      go_simp
      refine hK.out _ _ (U8.out.fr (Fr.drew _ [])).ry (fun hHeld => ?_)
      clear hK K
      try simp only [Act.put, List.setIfInBounds_toArray, List.set_cons_zero, List.set_cons_succ]
      refine wpAnyH_done (by kernel_rfl) ?_ _
      refine NoPanic.normal ?_
      clear hHeld
      dsimp only [carSet, dnSet] at U9
      try simp only [show ((0 : Nat) : Int) = 0 from rfl] at U9
      go_wp2
      generalize World.drew (World.setCell (World.setCell (World.setCell (World.setCell (World.setCell (World.setCell (World.setCell (World.setCell (World.setCell (World.setCell (World.setCell (World.setCell (World.setCell w20 _ _) _ _) _ _) _ _) _ _) _ _) _ _) _ _) _ _) _ _) _ _) _ _) _ _) = v9 at *
      obtain ⟨x0, x1, x2, x3, x4⟩ := U9.out.y.cells
      obtain ⟨e0, e1, e2, e3, e4, e5, e6, e7⟩ := U9.out.e.cells
      dsimp only at x0 x1 x2 x3 x4 e0 e1 e2 e3 e4 e5 e6 e7
      try simp only [show ((0 : Nat) : Int) = 0 from rfl] at e5 e6 e7
      exact bodyPost_ret (v := .tuple #[.agg #[.int .i64 P, .int .i64 0, .int .i64 0, .bool false, .int .i64 0], .agg #[.bool false, .bool false, .int .i64 fl, .int .i64 0, .int .i64 (-1), .int .u64 0, .int .u64 0, .int .u64 0]]) (by simp [results, Tryz.results17, go_sem, x0, x1, x2, x3, x4, e0, e1, e2, e3, e4, e5, e6, e7]) rfl ⟨rfl, U9.out.f⟩
    · have hb : bl = false := by rw [HB.out]; exact decide_eq_false (fun k => a ⟨k, rfl⟩)
      subst hb
      clear HX HB a wv
      dsimp only [Ho.v, Ho.box, Ca.v, Ca.qbox, Sp.v, Sp.box, Dn.v, Dn.qbox, dv, zCa, zDn, zSp, De.v, De.box] at *
      simp only [show ((0 : Nat) : Int) = 0 from rfl] at *
      go_enter Tryz.func17, Tryz.ntmps17
      go_upto_region 1 with fail
      generalize World.alloc (World.alloc (World.alloc (World.alloc (World.alloc w _) _) _) _) _ = w0 at *
      obtain ⟨i0, i1, i2, i3⟩ := TB.out.h.cells
      dsimp only at i0 i1 i2 i3
      go_wp2_with fail
      with_reducible refine (RV.out _).mono ?_
      rintro v w1 ⟨rfl, hg⟩
      have T1 := Lib.hid (TB.out.fr hg)
      clear hg i0 i1 i2 i3 TB RV
      obtain ⟨i0, i1, i2, i3⟩ := T1.out.h.cells
      obtain ⟨c0, c1, c2, c3, c4⟩ := T1.out.c.cells
      dsimp only at i0 i1 i2 i3 c0 c1 c2 c3 c4
      go_wp2_with fail
      with_reducible refine (RR.out _).mono ?_
      rintro v w2 ⟨rfl, hg⟩
      have T2 := Lib.hid (T1.out.fr hg)
      clear hg i0 i1 i2 i3 c0 c1 c2 c3 c4 T1 RR
      have T3 := Lib.hid (RT.new T2.out)
      dsimp only [zDn, zSp, Dn.qbox] at T3
      simp only [show ((0 : Nat) : Int) = 0 from rfl] at T3
      go_upto_region 4 with fail
      obtain ⟨n, hn⟩ : ∃ n, w2.heap.size = n := ⟨_, rfl⟩
      rw [hn] at T3
      rw [hn]
      clear hn
      generalize World.alloc w2 _ = w3 at *
      clear T2
      obtain ⟨i0, i1, i2, i3⟩ := T3.out.q.h.cells
      dsimp only at i0 i1 i2 i3
      obtain ⟨c0, c1, c2, c3, c4⟩ := T3.out.q.c.cells
      dsimp only at c0 c1 c2 c3 c4
      go_wp2_with fail
      with_reducible refine (LV.out _).mono ?_
      rintro v w11 ⟨rfl, hg⟩
      have T11 := Lib.hid (T3.out.fr hg)
      clear i0 i1 i2 i3 c0 c1 c2 c3 c4 hg T3 LV
      have T12 := Lib.hid (show RT w n ⟨hc, hfl, hs, hd⟩ ⟨⟨xp, -1, 0, true⟩, 0⟩ ⟨sp, su, sd⟩ ⟨false, false, 0, 0, 0, ⟨0, 0, 0⟩⟩ (w11.setCell ⟨w.heap.size + 1, 1, none⟩ (.int .i64 (-1))) from T11.out.car (Fr.setCell w11 (w.heap.size + 1) 1 _ (by simp)) (T11.out.q.c.put1 (-1)))
      obtain ⟨c0, c1, c2, c3, c4⟩ := T11.out.q.c.cells
      dsimp only at c0 c1 c2 c3 c4
      have zf := T11.out.q.c.fz 1
      go_upto_region 14 with fail
      generalize World.setCell w11 _ _ = w12 at *
      clear c0 c1 c2 c3 c4 zf T11
      obtain ⟨i0, i1, i2, i3⟩ := T12.out.q.h.cells
      dsimp only at i0 i1 i2 i3
      obtain ⟨c0, c1, c2, c3, c4⟩ := T12.out.q.c.cells
      dsimp only at c0 c1 c2 c3 c4
      go_wp2_with fail
      with_reducible refine (GO.out _).mono ?_
      rintro v w13 ⟨rfl, hg⟩
      have T13 := Lib.hid (T12.out.fr hg)
      clear i0 i1 i2 i3 c0 c1 c2 c3 c4 hg T12 GO
      have T14 := Lib.hid (show RT w n ⟨hc, hfl, hs, hd⟩ ⟨⟨xp, -1, 0, true⟩, 0⟩ ⟨sp, su, sd⟩ ⟨false, false, 0, 0, -1, ⟨0, 0, 0⟩⟩ (w13.setCell ⟨n, 4, none⟩ (.int .i64 (-1))) from T13.out.deed (Fr.setCell w13 n 4 _ (by simp)) (T13.out.d.put 4 _ _ rfl))
      obtain ⟨c0, c1, c2, c3, c4⟩ := T13.out.q.c.cells
      dsimp only at c0 c1 c2 c3 c4
      obtain ⟨n0, n1, n2, n3, n4, n5, n6, n7⟩ := T13.out.d.cells
      dsimp only at n0 n1 n2 n3 n4 n5 n6 n7
      have zf := T13.out.d.fz 4
      go_upto_region 16 with fail
      generalize World.setCell w13 _ _ = w14 at *
      clear n0 n1 n2 n3 n4 n5 n6 n7 c0 c1 c2 c3 c4 zf T13
      have T15 := Lib.hid (show RT w n ⟨hc, hfl, hs, hd⟩ ⟨⟨P, -1, 0, true⟩, 0⟩ ⟨sp, su, sd⟩ ⟨false, false, 0, 0, -1, ⟨0, 0, 0⟩⟩ (w14.setCell ⟨w.heap.size + 1, 0, none⟩ (.int .i64 P)) from T14.out.car (Fr.setCell w14 (w.heap.size + 1) 0 _ (by simp)) (T14.out.q.c.put0 P))
      obtain ⟨c0, c1, c2, c3, c4⟩ := T14.out.q.c.cells
      dsimp only at c0 c1 c2 c3 c4
      have zf := T14.out.q.c.fz 0
      go_upto_region 17 with fail
      generalize World.setCell w14 _ _ = w15 at *
      clear c0 c1 c2 c3 c4 zf T14
      obtain ⟨i0, i1, i2, i3⟩ := T15.out.q.h.cells
      dsimp only at i0 i1 i2 i3
      go_wp2_with fail
      with_reducible refine (LP.out _).mono ?_
      rintro v w16 ⟨rfl, hg⟩
      have T16 := Lib.hid (T15.out.fr hg)
      clear i0 i1 i2 i3 hg T15 LP
      obtain ⟨i0, i1, i2, i3⟩ := T16.out.q.h.cells
      dsimp only at i0 i1 i2 i3
      obtain ⟨c0, c1, c2, c3, c4⟩ := T16.out.q.c.cells
      dsimp only at c0 c1 c2 c3 c4
      go_wp2_with fail
      with_reducible refine (FL.out _).mono ?_
      rintro v w17 ⟨rfl, hg⟩
      have T17 := Lib.hid (T16.out.fr hg)
      clear i0 i1 i2 i3 c0 c1 c2 c3 c4 hg T16 FL
      have T18 := Lib.hid (show RT w n ⟨hc, hfl, hs, hd⟩ ⟨⟨P, -1, 0, true⟩, 0⟩ ⟨sp, su, sd⟩ ⟨false, false, fl, 0, -1, ⟨0, 0, 0⟩⟩ (w17.setCell ⟨n, 2, none⟩ (.int .i64 fl)) from T17.out.deed (Fr.setCell w17 n 2 _ (by simp)) (T17.out.d.put 2 _ _ rfl))
      obtain ⟨n0, n1, n2, n3, n4, n5, n6, n7⟩ := T17.out.d.cells
      dsimp only at n0 n1 n2 n3 n4 n5 n6 n7
      have zf := T17.out.d.fz 2
      go_upto_region 21 with fail
      generalize World.setCell w17 _ _ = w18 at *
      clear n0 n1 n2 n3 n4 n5 n6 n7 zf T17
      have U6 := Lib.hid (RE.of T18.out)
      have U7 := Lib.hid (U6.out.one ⟨⟨P, -1, 0, true⟩, 0⟩)
      have U8 := Lib.hid (U7.out.two ⟨false, false, fl, 0, -1, ⟨0, 0, 0⟩⟩)
      have U9 := Lib.hid (U8.out.fr (Fr.drew _ []))
      obtain ⟨r0, r1, r2, r3, r4⟩ := U6.out.y.cells
      have y0 := U6.out.y.fz 0
      have y1 := U6.out.y.fz 1
      have y2 := U6.out.y.fz 2
      have y3 := U6.out.y.fz 3
      have y4 := U6.out.y.fz 4
      obtain ⟨n0, n1, n2, n3, n4, n5, n6, n7⟩ := U6.out.e.cells
      have m0 := U6.out.e.fz 0
      have m1 := U6.out.e.fz 1
      have m2 := U6.out.e.fz 2
      have m3 := U6.out.e.fz 3
      have m4 := U6.out.e.fz 4
      have m5 := U6.out.e.fz 5
      have m6 := U6.out.e.fz 6
      have m7 := U6.out.e.fz 7
      dsimp only [zCa, zDn, zSp] at r0 r1 r2 r3 r4 n0 n1 n2 n3 n4 n5 n6 n7
      simp only [show ((0 : Nat) : Int) = 0 from rfl] at n5 n6 n7
      clear T18
      go_wp2_with fail
      refine wp_region_noPanic ?_
      refine wp_region_held_drew (S := (RY (w.heap.size + 1) n ⟨⟨P, -1, 0, true⟩, 0⟩ ⟨false, false, fl, 0, -1, ⟨0, 0, 0⟩⟩)) (by kernel_rfl) (U6.out.fr (Fr.drew _ [])).ry (fun hHeld => ?_)
      refine wpAnyH_take (i := 0) (oi := _) (v := ?fv0h5n6) (by simp only [List.getElem?_toArray, List.getElem?_cons_zero]; rfl) (by kernel_rfl) (by kernel_rfl) (by kernel_rfl) (fun _ _ _ h => h) (Or.inl ⟨by rfl, ?fy0h5n6⟩) (by assumption) ?fr0h5n6
      case fy0h5n6 => (intro w hSw; (try dsimp only [RY] at hSw); go_simp; try with_reducible rfl)
      try simp only [Act.put, List.setIfInBounds_toArray, List.set_cons_zero, List.set_cons_succ]
      refine wpAnyH_take (i := 1) (oi := _) (v := ?fv1h5n6) (by simp only [List.getElem?_toArray, List.getElem?_cons_zero, List.getElem?_cons_succ]; rfl) (by kernel_rfl) (by kernel_rfl) (by kernel_rfl) (fun _ _ _ h => h) (Or.inl ⟨by rfl, ?fy1h5n6⟩) (by assumption) ?fr1h5n6
      case fy1h5n6 => (intro w hSw; (try dsimp only [RY] at hSw); go_simp; try with_reducible rfl)
      try simp only [Act.put, List.setIfInBounds_toArray, List.set_cons_zero, List.set_cons_succ]
      refine wpAnyH_ready (rs := [2]) (by kernel_rfl) (by simp) ?_
      refine AllReadyH.cons (o := _) rfl (fun K hK => ?_) AllReadyH.nil
      go_simp
      refine hK.out _ _ (U7.out.fr (Fr.drew _ [])).ry (fun hHeld => ?_)
      clear hK K
      try simp only [Act.put, List.setIfInBounds_toArray, List.set_cons_zero, List.set_cons_succ]
      refine wpAnyH_ready (rs := [3]) (by kernel_rfl) (by simp) ?_
      refine AllReadyH.cons (o := _) rfl (fun K hK => ?_) AllReadyH.nil
      go_simp
      refine hK.out _ _ (U8.out.fr (Fr.drew _ [])).ry (fun hHeld => ?_)
      clear hK K
      try simp only [Act.put, List.setIfInBounds_toArray, List.set_cons_zero, List.set_cons_succ]
      refine wpAnyH_done (by kernel_rfl) ?_ _
      refine NoPanic.normal ?_
      clear hHeld
      dsimp only [carSet, dnSet] at U9
      try simp only [show ((0 : Nat) : Int) = 0 from rfl] at U9
      go_wp2
      generalize World.drew (World.setCell (World.setCell (World.setCell (World.setCell (World.setCell (World.setCell (World.setCell (World.setCell (World.setCell (World.setCell (World.setCell (World.setCell (World.setCell w18 _ _) _ _) _ _) _ _) _ _) _ _) _ _) _ _) _ _) _ _) _ _) _ _) _ _) = v9 at *
      obtain ⟨x0, x1, x2, x3, x4⟩ := U9.out.y.cells
      obtain ⟨e0, e1, e2, e3, e4, e5, e6, e7⟩ := U9.out.e.cells
      dsimp only at x0 x1 x2 x3 x4 e0 e1 e2 e3 e4 e5 e6 e7
      try simp only [show ((0 : Nat) : Int) = 0 from rfl] at e5 e6 e7
      exact bodyPost_ret (v := .tuple #[.agg #[.int .i64 P, .int .i64 (-1), .int .i64 0, .bool true, .int .i64 0], .agg #[.bool false, .bool false, .int .i64 fl, .int .i64 0, .int .i64 (-1), .int .u64 0, .int .u64 0, .int .u64 0]]) (by simp [results, Tryz.results17, go_sem, x0, x1, x2, x3, x4, e0, e1, e2, e3, e4, e5, e6, e7]) rfl ⟨rfl, U9.out.f⟩
  | false =>
    have wv : (Ca.mk ⟨xp, xe, 0, false⟩ 0).way = xe := rfl
    rw [wv] at GO W1 HX
    rcases HX.out with ⟨_, a, _⟩ | ⟨_, rfl, rfl⟩
    · cases a
    · clear HX HB wv
      dsimp only [Ho.v, Ho.box, Ca.v, Ca.qbox, Sp.v, Sp.box, Dn.v, Dn.qbox, dv, zCa, zDn, zSp, De.v, De.box] at *
      simp only [show ((0 : Nat) : Int) = 0 from rfl] at *
      go_enter Tryz.func17, Tryz.ntmps17
      go_upto_region 1 with fail
      generalize World.alloc (World.alloc (World.alloc (World.alloc (World.alloc w _) _) _) _) _ = w0 at *
      obtain ⟨i0, i1, i2, i3⟩ := TB.out.h.cells
      dsimp only at i0 i1 i2 i3
      go_wp2_with fail
      with_reducible refine (RV.out _).mono ?_
      rintro v w1 ⟨rfl, hg⟩
      have T1 := Lib.hid (TB.out.fr hg)
      clear hg i0 i1 i2 i3 TB RV
      obtain ⟨i0, i1, i2, i3⟩ := T1.out.h.cells
      obtain ⟨c0, c1, c2, c3, c4⟩ := T1.out.c.cells
      dsimp only at i0 i1 i2 i3 c0 c1 c2 c3 c4
      go_wp2_with fail
      with_reducible refine (RR.out _).mono ?_
      rintro v w2 ⟨rfl, hg⟩
      have T2 := Lib.hid (T1.out.fr hg)
      clear hg i0 i1 i2 i3 c0 c1 c2 c3 c4 T1 RR
      have T3 := Lib.hid (RT.new T2.out)
      dsimp only [zDn, zSp, Dn.qbox] at T3
      simp only [show ((0 : Nat) : Int) = 0 from rfl] at T3
      go_upto_region 4 with fail
      obtain ⟨n, hn⟩ : ∃ n, w2.heap.size = n := ⟨_, rfl⟩
      rw [hn] at T3
      rw [hn]
      clear hn
      generalize World.alloc w2 _ = w3 at *
      clear T2
      obtain ⟨i0, i1, i2, i3⟩ := T3.out.q.h.cells
      dsimp only at i0 i1 i2 i3
      obtain ⟨c0, c1, c2, c3, c4⟩ := T3.out.q.c.cells
      dsimp only at c0 c1 c2 c3 c4
      go_wp2_with fail
      with_reducible refine (LV.out _).mono ?_
      rintro v w11 ⟨rfl, hg⟩
      have T11 := Lib.hid (T3.out.fr hg)
      clear i0 i1 i2 i3 c0 c1 c2 c3 c4 hg T3 LV
      obtain ⟨i0, i1, i2, i3⟩ := T11.out.q.h.cells
      dsimp only at i0 i1 i2 i3
      obtain ⟨c0, c1, c2, c3, c4⟩ := T11.out.q.c.cells
      dsimp only at c0 c1 c2 c3 c4
      go_wp2_with fail
      with_reducible refine (GO.out _).mono ?_
      rintro v w12 ⟨rfl, hg⟩
      have T12 := Lib.hid (T11.out.fr hg)
      clear i0 i1 i2 i3 c0 c1 c2 c3 c4 hg T11 GO
      have T13 := Lib.hid (show RT w n ⟨hc, hfl, hs, hd⟩ ⟨⟨xp, xe, 0, false⟩, 0⟩ ⟨sp, su, sd⟩ ⟨false, false, 0, 0, xe, ⟨0, 0, 0⟩⟩ (w12.setCell ⟨n, 4, none⟩ (.int .i64 xe)) from T12.out.deed (Fr.setCell w12 n 4 _ (by simp)) (T12.out.d.put 4 _ _ rfl))
      obtain ⟨c0, c1, c2, c3, c4⟩ := T12.out.q.c.cells
      dsimp only at c0 c1 c2 c3 c4
      obtain ⟨n0, n1, n2, n3, n4, n5, n6, n7⟩ := T12.out.d.cells
      dsimp only at n0 n1 n2 n3 n4 n5 n6 n7
      have zf := T12.out.d.fz 4
      go_upto_region 16 with fail
      generalize World.setCell w12 _ _ = w13 at *
      clear n0 n1 n2 n3 n4 n5 n6 n7 c0 c1 c2 c3 c4 zf T12
      have T14 := Lib.hid (show RT w n ⟨hc, hfl, hs, hd⟩ ⟨⟨P, xe, 0, false⟩, 0⟩ ⟨sp, su, sd⟩ ⟨false, false, 0, 0, xe, ⟨0, 0, 0⟩⟩ (w13.setCell ⟨w.heap.size + 1, 0, none⟩ (.int .i64 P)) from T13.out.car (Fr.setCell w13 (w.heap.size + 1) 0 _ (by simp)) (T13.out.q.c.put0 P))
      obtain ⟨c0, c1, c2, c3, c4⟩ := T13.out.q.c.cells
      dsimp only at c0 c1 c2 c3 c4
      have zf := T13.out.q.c.fz 0
      go_upto_region 17 with fail
      generalize World.setCell w13 _ _ = w14 at *
      clear c0 c1 c2 c3 c4 zf T13
      obtain ⟨i0, i1, i2, i3⟩ := T14.out.q.h.cells
      dsimp only at i0 i1 i2 i3
      go_wp2_with fail
      with_reducible refine (LP.out _).mono ?_
      rintro v w15 ⟨rfl, hg⟩
      have T15 := Lib.hid (T14.out.fr hg)
      clear i0 i1 i2 i3 hg T14 LP
      cases bl with
      | false =>
        obtain ⟨i0, i1, i2, i3⟩ := T15.out.q.h.cells
        dsimp only at i0 i1 i2 i3
        obtain ⟨c0, c1, c2, c3, c4⟩ := T15.out.q.c.cells
        dsimp only at c0 c1 c2 c3 c4
        go_wp2_with fail
        with_reducible refine (FL.out _).mono ?_
        rintro v w16 ⟨rfl, hg⟩
        have T16 := Lib.hid (T15.out.fr hg)
        clear i0 i1 i2 i3 c0 c1 c2 c3 c4 hg T15 FL
        have T17 := Lib.hid (show RT w n ⟨hc, hfl, hs, hd⟩ ⟨⟨P, xe, 0, false⟩, 0⟩ ⟨sp, su, sd⟩ ⟨false, false, fl, 0, xe, ⟨0, 0, 0⟩⟩ (w16.setCell ⟨n, 2, none⟩ (.int .i64 fl)) from T16.out.deed (Fr.setCell w16 n 2 _ (by simp)) (T16.out.d.put 2 _ _ rfl))
        obtain ⟨n0, n1, n2, n3, n4, n5, n6, n7⟩ := T16.out.d.cells
        dsimp only at n0 n1 n2 n3 n4 n5 n6 n7
        have zf := T16.out.d.fz 2
        go_upto_region 21 with fail
        generalize World.setCell w16 _ _ = w17 at *
        clear n0 n1 n2 n3 n4 n5 n6 n7 zf T16
        have U6 := Lib.hid (RE.of T17.out)
        have U7 := Lib.hid (U6.out.one ⟨⟨P, xe, 0, false⟩, 0⟩)
        have U8 := Lib.hid (U7.out.two ⟨false, false, fl, 0, xe, ⟨0, 0, 0⟩⟩)
        have U9 := Lib.hid (U8.out.fr (Fr.drew _ []))
        obtain ⟨r0, r1, r2, r3, r4⟩ := U6.out.y.cells
        have y0 := U6.out.y.fz 0
        have y1 := U6.out.y.fz 1
        have y2 := U6.out.y.fz 2
        have y3 := U6.out.y.fz 3
        have y4 := U6.out.y.fz 4
        obtain ⟨n0, n1, n2, n3, n4, n5, n6, n7⟩ := U6.out.e.cells
        have m0 := U6.out.e.fz 0
        have m1 := U6.out.e.fz 1
        have m2 := U6.out.e.fz 2
        have m3 := U6.out.e.fz 3
        have m4 := U6.out.e.fz 4
        have m5 := U6.out.e.fz 5
        have m6 := U6.out.e.fz 6
        have m7 := U6.out.e.fz 7
        dsimp only [zCa, zDn, zSp] at r0 r1 r2 r3 r4 n0 n1 n2 n3 n4 n5 n6 n7
        simp only [show ((0 : Nat) : Int) = 0 from rfl] at n5 n6 n7
        clear T17
        go_wp2_with fail
        refine wp_region_noPanic ?_
        refine wp_region_held_drew (S := (RY (w.heap.size + 1) n ⟨⟨P, xe, 0, false⟩, 0⟩ ⟨false, false, fl, 0, xe, ⟨0, 0, 0⟩⟩)) (by kernel_rfl) (U6.out.fr (Fr.drew _ [])).ry (fun hHeld => ?_)
        refine wpAnyH_take (i := 0) (oi := _) (v := ?fv0h7n8) (by simp only [List.getElem?_toArray, List.getElem?_cons_zero]; rfl) (by kernel_rfl) (by kernel_rfl) (by kernel_rfl) (fun _ _ _ h => h) (Or.inl ⟨by rfl, ?fy0h7n8⟩) (by assumption) ?fr0h7n8
        case fy0h7n8 => (intro w hSw; (try dsimp only [RY] at hSw); go_simp; try with_reducible rfl)
        try simp only [Act.put, List.setIfInBounds_toArray, List.set_cons_zero, List.set_cons_succ]
        refine wpAnyH_take (i := 1) (oi := _) (v := ?fv1h7n8) (by simp only [List.getElem?_toArray, List.getElem?_cons_zero, List.getElem?_cons_succ]; rfl) (by kernel_rfl) (by kernel_rfl) (by kernel_rfl) (fun _ _ _ h => h) (Or.inl ⟨by rfl, ?fy1h7n8⟩) (by assumption) ?fr1h7n8
        case fy1h7n8 => (intro w hSw; (try dsimp only [RY] at hSw); go_simp; try with_reducible rfl)
        try simp only [Act.put, List.setIfInBounds_toArray, List.set_cons_zero, List.set_cons_succ]
        refine wpAnyH_ready (rs := [2]) (by kernel_rfl) (by simp) ?_
        refine AllReadyH.cons (o := _) rfl (fun K hK => ?_) AllReadyH.nil
        go_simp
        refine hK.out _ _ (U7.out.fr (Fr.drew _ [])).ry (fun hHeld => ?_)
        clear hK K
        try simp only [Act.put, List.setIfInBounds_toArray, List.set_cons_zero, List.set_cons_succ]
        refine wpAnyH_ready (rs := [3]) (by kernel_rfl) (by simp) ?_
        refine AllReadyH.cons (o := _) rfl (fun K hK => ?_) AllReadyH.nil
        go_simp
        refine hK.out _ _ (U8.out.fr (Fr.drew _ [])).ry (fun hHeld => ?_)
        clear hK K
        try simp only [Act.put, List.setIfInBounds_toArray, List.set_cons_zero, List.set_cons_succ]
        refine wpAnyH_done (by kernel_rfl) ?_ _
        refine NoPanic.normal ?_
        clear hHeld
        dsimp only [carSet, dnSet] at U9
        try simp only [show ((0 : Nat) : Int) = 0 from rfl] at U9
        go_wp2
        generalize World.drew (World.setCell (World.setCell (World.setCell (World.setCell (World.setCell (World.setCell (World.setCell (World.setCell (World.setCell (World.setCell (World.setCell (World.setCell (World.setCell w17 _ _) _ _) _ _) _ _) _ _) _ _) _ _) _ _) _ _) _ _) _ _) _ _) _ _) = v9 at *
        obtain ⟨x0, x1, x2, x3, x4⟩ := U9.out.y.cells
        obtain ⟨e0, e1, e2, e3, e4, e5, e6, e7⟩ := U9.out.e.cells
        dsimp only at x0 x1 x2 x3 x4 e0 e1 e2 e3 e4 e5 e6 e7
        try simp only [show ((0 : Nat) : Int) = 0 from rfl] at e5 e6 e7
        exact bodyPost_ret (v := .tuple #[.agg #[.int .i64 P, .int .i64 xe, .int .i64 0, .bool false, .int .i64 0], .agg #[.bool false, .bool false, .int .i64 fl, .int .i64 0, .int .i64 xe, .int .u64 0, .int .u64 0, .int .u64 0]]) (by simp [results, Tryz.results17, go_sem, x0, x1, x2, x3, x4, e0, e1, e2, e3, e4, e5, e6, e7]) rfl ⟨rfl, U9.out.f⟩
      | true =>
        obtain ⟨i0, i1, i2, i3⟩ := T15.out.q.h.cells
        dsimp only at i0 i1 i2 i3
        obtain ⟨c0, c1, c2, c3, c4⟩ := T15.out.q.c.cells
        dsimp only at c0 c1 c2 c3 c4
        go_wp2_with fail
        with_reducible refine (FL.out _).mono ?_
        rintro v w16 ⟨rfl, hg⟩
        have T16 := Lib.hid (T15.out.fr hg)
        clear i0 i1 i2 i3 c0 c1 c2 c3 c4 hg T15 FL
        have T17 := Lib.hid (show RT w n ⟨hc, hfl, hs, hd⟩ ⟨⟨P, xe, 0, false⟩, 0⟩ ⟨sp, su, sd⟩ ⟨false, false, fl, 0, xe, ⟨0, 0, 0⟩⟩ (w16.setCell ⟨n, 2, none⟩ (.int .i64 fl)) from T16.out.deed (Fr.setCell w16 n 2 _ (by simp)) (T16.out.d.put 2 _ _ rfl))
        obtain ⟨n0, n1, n2, n3, n4, n5, n6, n7⟩ := T16.out.d.cells
        dsimp only at n0 n1 n2 n3 n4 n5 n6 n7
        have zf := T16.out.d.fz 2
        go_upto_region 21 with fail
        generalize World.setCell w16 _ _ = w17 at *
        clear n0 n1 n2 n3 n4 n5 n6 n7 zf T16
        have U6 := Lib.hid (RE.of T17.out)
        have U7 := Lib.hid (U6.out.one ⟨⟨P, xe, 0, false⟩, 0⟩)
        have U8 := Lib.hid (U7.out.two ⟨false, false, fl, 0, xe, ⟨0, 0, 0⟩⟩)
        have U9 := Lib.hid (U8.out.fr (Fr.drew _ []))
        obtain ⟨r0, r1, r2, r3, r4⟩ := U6.out.y.cells
        have y0 := U6.out.y.fz 0
        have y1 := U6.out.y.fz 1
        have y2 := U6.out.y.fz 2
        have y3 := U6.out.y.fz 3
        have y4 := U6.out.y.fz 4
        obtain ⟨n0, n1, n2, n3, n4, n5, n6, n7⟩ := U6.out.e.cells
        have m0 := U6.out.e.fz 0
        have m1 := U6.out.e.fz 1
        have m2 := U6.out.e.fz 2
        have m3 := U6.out.e.fz 3
        have m4 := U6.out.e.fz 4
        have m5 := U6.out.e.fz 5
        have m6 := U6.out.e.fz 6
        have m7 := U6.out.e.fz 7
        dsimp only [zCa, zDn, zSp] at r0 r1 r2 r3 r4 n0 n1 n2 n3 n4 n5 n6 n7
        simp only [show ((0 : Nat) : Int) = 0 from rfl] at n5 n6 n7
        clear T17
        go_wp2_with fail
        refine wp_region_noPanic ?_
        refine wp_region_held_drew (S := (RY (w.heap.size + 1) n ⟨⟨P, xe, 0, false⟩, 0⟩ ⟨false, false, fl, 0, xe, ⟨0, 0, 0⟩⟩)) (by kernel_rfl) (U6.out.fr (Fr.drew _ [])).ry (fun hHeld => ?_)
        refine wpAnyH_take (i := 0) (oi := _) (v := ?fv0h9n10) (by simp only [List.getElem?_toArray, List.getElem?_cons_zero]; rfl) (by kernel_rfl) (by kernel_rfl) (by kernel_rfl) (fun _ _ _ h => h) (Or.inl ⟨by rfl, ?fy0h9n10⟩) (by assumption) ?fr0h9n10
        case fy0h9n10 => (intro w hSw; (try dsimp only [RY] at hSw); go_simp; try with_reducible rfl)
        try simp only [Act.put, List.setIfInBounds_toArray, List.set_cons_zero, List.set_cons_succ]
        refine wpAnyH_take (i := 1) (oi := _) (v := ?fv1h9n10) (by simp only [List.getElem?_toArray, List.getElem?_cons_zero, List.getElem?_cons_succ]; rfl) (by kernel_rfl) (by kernel_rfl) (by kernel_rfl) (fun _ _ _ h => h) (Or.inl ⟨by rfl, ?fy1h9n10⟩) (by assumption) ?fr1h9n10
        case fy1h9n10 => (intro w hSw; (try dsimp only [RY] at hSw); go_simp; try with_reducible rfl)
        try simp only [Act.put, List.setIfInBounds_toArray, List.set_cons_zero, List.set_cons_succ]
        refine wpAnyH_ready (rs := [2]) (by kernel_rfl) (by simp) ?_
        refine AllReadyH.cons (o := _) rfl (fun K hK => ?_) AllReadyH.nil
        go_simp
        refine hK.out _ _ (U7.out.fr (Fr.drew _ [])).ry (fun hHeld => ?_)
        clear hK K
        try simp only [Act.put, List.setIfInBounds_toArray, List.set_cons_zero, List.set_cons_succ]
        refine wpAnyH_ready (rs := [3]) (by kernel_rfl) (by simp) ?_
        refine AllReadyH.cons (o := _) rfl (fun K hK => ?_) AllReadyH.nil
        go_simp
        refine hK.out _ _ (U8.out.fr (Fr.drew _ [])).ry (fun hHeld => ?_)
        clear hK K
        try simp only [Act.put, List.setIfInBounds_toArray, List.set_cons_zero, List.set_cons_succ]
        refine wpAnyH_done (by kernel_rfl) ?_ _
        refine NoPanic.normal ?_
        clear hHeld
        dsimp only [carSet, dnSet] at U9
        try simp only [show ((0 : Nat) : Int) = 0 from rfl] at U9
        go_wp2
        generalize World.drew (World.setCell (World.setCell (World.setCell (World.setCell (World.setCell (World.setCell (World.setCell (World.setCell (World.setCell (World.setCell (World.setCell (World.setCell (World.setCell w17 _ _) _ _) _ _) _ _) _ _) _ _) _ _) _ _) _ _) _ _) _ _) _ _) _ _) = v9 at *
        obtain ⟨x0, x1, x2, x3, x4⟩ := U9.out.y.cells
        obtain ⟨e0, e1, e2, e3, e4, e5, e6, e7⟩ := U9.out.e.cells
        dsimp only at x0 x1 x2 x3 x4 e0 e1 e2 e3 e4 e5 e6 e7
        try simp only [show ((0 : Nat) : Int) = 0 from rfl] at e5 e6 e7
        exact bodyPost_ret (v := .tuple #[.agg #[.int .i64 P, .int .i64 xe, .int .i64 0, .bool false, .int .i64 0], .agg #[.bool false, .bool false, .int .i64 fl, .int .i64 0, .int .i64 xe, .int .u64 0, .int .u64 0, .int .u64 0]]) (by simp [results, Tryz.results17, go_sem, x0, x1, x2, x3, x4, e0, e1, e2, e3, e4, e5, e6, e7]) rfl ⟨rfl, U9.out.f⟩
end Go.Proofs.YtdmomnhacijmpaaGreatDoor
