/- A car's tick, by value. -/
import Derived.Test.YtgcgbiaigbblkaaDoorCar6
namespace Go.Proofs.YtgcgbiaigbblkaaDoor
open Go.RowKit

/-- What it comes to, but for the floor and how far it moved. -/
def Ca.pre (h : Ho) (c : Ca) (s : Sp) (ob : Bool) : Ca × Dn :=
  if 0 < c.x.o then (⟨⟨c.x.p, c.x.e, tickL c.x.o ob, c.x.r⟩, heldK c.x.o c.k ob⟩, ⟨false, tickB c.x.o ob, 0, 0, 0, zSp⟩)
  else if h.lev c.x.p then
    if (h.fit s).stop (h.flr c.x.p) c.x.e = true then
      (⟨⟨c.x.p, (h.fit s).head (h.flr c.x.p) c.x.e, h.d, false⟩, 0⟩, ⟨true, false, 0, (h.fit s).head (h.flr c.x.p) c.x.e, 0, doneS (h.fit s) (h.fit s) (h.flr c.x.p) ((h.fit s).head (h.flr c.x.p) c.x.e)⟩)
    else (Ca.move h (c.set ((h.fit s).head (h.flr c.x.p) c.x.e)) ((h.fit s).head (h.flr c.x.p) c.x.e), zDn)
  else (c.ride h, zDn)
theorem move_in {h : Ho} {c : Ca} {m : Int} (k : h.has (c.x.p + m)) (hm : m = 0 ∨ m = 1 ∨ m = -1) : c.move h m = ⟨⟨c.x.p + m, c.x.e, c.x.o, c.x.r⟩, c.k⟩ := by
  rw [Ca.move, sgn_small (by omega) (by omega), if_pos k]
theorem has_in {h : Ho} (k : h.ok) {p : Int} (p0 : 0 ≤ p) (p1 : p ≤ h.top) : h.has p := ⟨k, p0, p1⟩
theorem tick_pre {h : Ho} {c : Ca} (R : RightIs h c) {s : Sp} (ok : s.ok) (ob : Bool) :
    c.tick h s ob = ((c.pre h s ob).1, ⟨(c.pre h s ob).2.op, (c.pre h s ob).2.cl, h.flr (c.pre h s ob).1.x.p, (c.pre h s ob).2.la, (c.pre h s ob).1.x.p - c.x.p, (c.pre h s ob).2.st⟩) := by
  have hk : 0 < c.x.o ∨ c.k = 0 := by
    have := R.held
    omega
  by_cases g : 0 < c.x.o
  · rw [tick_open R g, Ca.pre, if_pos g]
    simp
  · have ck := hk.resolve_left g
    have o0 : c.x.o = 0 := by have := R.o0; omega
    by_cases l : h.lev c.x.p
    · obtain ⟨q0, q1, _⟩ := flr_facts R.ok R.p0 R.p1
      cases k : (h.fit s).stop (h.flr c.x.p) c.x.e with
      | true =>
        rw [tick_stop R g l ob k, Ca.pre, if_neg g, if_pos l, if_pos k]
        have e : hasB s.c (h.flr c.x.p) = hasB (h.fit s).c (h.flr c.x.p) := by rw [fit_car R.ok, decide_eq_true q1, Bool.and_true]
        simp [doneS, e]
      | false =>
        have rm := go_room R l ok k
        rw [tick_go R g l ob k, Ca.pre, if_neg g, if_pos l, if_neg (by rw [k]; simp)]
        have hf := R.ok.2.1.2
        have K := (head_is (fit_ok h ok) q0 (show h.flr c.x.p < 64 by omega) (small_dir R.e0 R.e1)).small
        generalize (h.fit s).head (h.flr c.x.p) c.x.e = e at *
        rw [move_in (h := h) (c := c.set e) (m := e) (has_in R.ok rm.1 rm.2) K]
        simp only [Ca.set, zDn, o0, ck, Prod.mk.injEq, Dn.mk.injEq, true_and, and_true]
        omega
    · have w := way_is R l
      have b := btw_room R l
      have hin : h.has (c.x.p + c.way) := has_in R.ok (by omega) (by omega)
      have RI : c.ride h = if h.lev (c.x.p + c.way) ∧ c.x.r = true then ⟨⟨c.x.p + c.way, 0, 0, false⟩, 0⟩ else ⟨⟨c.x.p + c.way, c.way, 0, c.x.r⟩, 0⟩ := by
        unfold Ca.ride
        by_cases r : c.x.r = true
        · have ew : c.way = -1 := if_pos r
          rw [ew] at hin ⊢
          have m := move_in (h := h) (c := ⟨⟨c.x.p, -1, c.x.o, c.x.r⟩, c.k⟩) (m := -1) hin (by omega)
          rw [if_pos r, m]
          dsimp only
          by_cases lv : h.lev (c.x.p + -1)
          · rw [if_pos lv, if_pos ⟨lv, r⟩, o0, ck]
          · rw [if_neg lv, if_neg (fun q => lv q.1), o0, ck]
        · have ew : c.way = c.x.e := if_neg r
          rw [ew] at hin w ⊢
          rw [if_neg r, if_neg (fun q => r q.2), move_in hin (by omega), o0, ck]
      by_cases k : h.lev (c.x.p + c.way) ∧ c.x.r = true
      · rw [if_pos k] at RI
        rw [tick_relev R g l s ob k, Ca.pre, if_neg g, if_neg l, RI]
        simp only [zDn, Prod.mk.injEq, Dn.mk.injEq, true_and, and_true]
        omega
      · rw [if_neg k] at RI
        rw [tick_on R g l s ob k, Ca.pre, if_neg g, if_neg l, RI]
        simp only [zDn, Prod.mk.injEq, Dn.mk.injEq, true_and, and_true]
        omega

/-- Behind a tick's boxes the new car and the deed. -/
structure TK (W : World) (n : Nat) (h : Ho) (c : Ca) (s : Sp) (x : Ca) (d : Dn) (a : World) : Prop where
  q : ST W h c s a
  x : CB a n x
  d : NB a (n + 1) d
  lo : W.heap.size + 4 < n
theorem TK.fr {W : World} {n : Nat} {h : Ho} {c : Ca} {s : Sp} {x : Ca} {d : Dn} {a a' : World} (q : TK W n h c s x d a) (f : Fr a a' []) : TK W n h c s x d a' := ⟨q.q.fr f, q.x.fr f (by simp), q.d.fr f (by simp), q.lo⟩
theorem TK.new {W : World} {h : Ho} {c : Ca} {s : Sp} {a : World} (q : ST W h c s a) (x : Ca) (d : Dn) : TK W a.heap.size h c s x d ((a.alloc x.box).alloc d.box) := by
  have n2 := NB.new (a.alloc x.box) d
  rw [show (a.alloc x.box).heap.size = a.heap.size + 1 by simp] at n2
  exact ⟨(q.fr (Fr.alloc _ _ [])).fr (Fr.alloc _ _ []), (CB.new a x).fr (Fr.alloc _ _ []) (by simp), n2, size_of_row q.t⟩
theorem TK.car {W : World} {n : Nat} {h : Ho} {c : Ca} {s : Sp} {x : Ca} {d : Dn} {a : World} (q : TK W n h c s x d a) (z : Ca) : TK W n h c s z d (carSet a n z) :=
  ⟨q.q.far (carSet_fr a n z) q.lo, q.x.set z, q.d.fr (carSet_fr a n z) (by simp), q.lo⟩
theorem TK.deed {W : World} {n : Nat} {h : Ho} {c : Ca} {s : Sp} {x : Ca} {d : Dn} {a : World} (q : TK W n h c s x d a) (z : Dn) : TK W n h c s x z (dnSet a (n + 1) z) :=
  ⟨q.q.far (dnSet_fr a (n + 1) z) (by have := q.lo; omega), q.x.fr (dnSet_fr a (n + 1) z) (by simp), q.d.set z, q.lo⟩
theorem TK.cell {W : World} {n : Nat} {h : Ho} {c : Ca} {s : Sp} {x : Ca} {d : Dn} {a : World} (q : TK W n h c s x d a) (i : Nat) (v : Value) (z : Dn) (e : z.box = (.cells (#[.bool d.op, .bool d.cl, .int .i64 d.fl, .int .i64 d.la, .int .i64 d.mv, .int .u64 d.st.c, .int .u64 d.st.u, .int .u64 d.st.d].setIfInBounds i v) 39 (0, 0))) : TK W n h c s x z (a.setCell ⟨n + 1, i, none⟩ v) :=
  ⟨q.q.far (Fr.setCell a (n + 1) i v (S := [n + 1]) (by simp)) (by have := q.lo; omega), q.x.fr (Fr.setCell a (n + 1) i v (S := [n + 1]) (by simp)) (by simp), q.d.put i v z e, q.lo⟩
set_option maxHeartbeats 4000000 in
set_option maxRecDepth 100000 in
theorem ctick_wrong (h : Ho) (c : Ca) (s : Sp) (ob : Bool) (w : World) (R : c.right h = false) :
    Calls Tryd.prog 16 #[h.v, c.v, s.v, .bool ob] w fun v w' => v = .returned (.tuple #[c.v, zDn.v]) ∧ Fr w w' [] := by
  have RG := Lib.hid (fun W => cright_any h c W false R.symm)
  have TB := Lib.hid (ST.new w h c s)
  clear R
  obtain ⟨hc, hfl, hs, hd⟩ := h
  obtain ⟨⟨xp, xe, xo, xr⟩, xk⟩ := c
  obtain ⟨sp, su, sd⟩ := s
  dsimp only [Ho.v, Ho.box, Ca.v, Ca.box, Sp.v, Sp.box, Dn.v, Dn.box, zCa, zDn, zSp] at *
  simp only [show ((0 : Nat) : Int) = 0 from rfl] at *
  go_enter Tryd.func16, Tryd.ntmps16
  go_wp2_with fail
  with_reducible refine (RG.out _).mono ?_
  rintro v w1 ⟨rfl, hf⟩
  have T5 := Lib.hid (TB.out.fr hf)
  clear hf TB RG
  have q1 := Lib.hid ((T5.out.f.new (carSet_fr _ (w.heap.size + 3) ⟨⟨xp, xe, xo, xr⟩, xk⟩) (by simp)).new (dnSet_fr _ (w.heap.size + 4) zDn) (by simp))
  have k2 := Lib.hid (T5.out.r.set ⟨⟨xp, xe, xo, xr⟩, xk⟩)
  have q2 := Lib.hid (k2.out.fr (dnSet_fr _ (w.heap.size + 4) zDn) (by simp))
  have k3 := Lib.hid (T5.out.t.fr (carSet_fr w1 (w.heap.size + 3) ⟨⟨xp, xe, xo, xr⟩, xk⟩) (by simp))
  have q3 := Lib.hid (k3.out.set zDn)
  obtain ⟨c0, c1, c2, c3, c4⟩ := T5.out.c.cells
  obtain ⟨r0, r1, r2, r3, r4⟩ := T5.out.r.cells
  have y0 := T5.out.r.fz 0
  have y1 := T5.out.r.fz 1
  have y2 := T5.out.r.fz 2
  have y3 := T5.out.r.fz 3
  have y4 := T5.out.r.fz 4
  obtain ⟨n0, n1, n2, n3, n4, n5, n6, n7⟩ := T5.out.t.cells
  have m0 := T5.out.t.fz 0
  have m1 := T5.out.t.fz 1
  have m2 := T5.out.t.fz 2
  have m3 := T5.out.t.fz 3
  have m4 := T5.out.t.fz 4
  have m5 := T5.out.t.fz 5
  have m6 := T5.out.t.fz 6
  have m7 := T5.out.t.fz 7
  dsimp only [zCa, zDn, zSp, carSet, dnSet] at *
  simp only [show ((0 : Nat) : Int) = 0 from rfl] at q3 n5 n6 n7
  go_wp2
  generalize World.setCell (World.setCell (World.setCell (World.setCell (World.setCell (World.setCell (World.setCell (World.setCell (World.setCell (World.setCell (World.setCell (World.setCell (World.setCell w1 _ _) _ _) _ _) _ _) _ _) _ _) _ _) _ _) _ _) _ _) _ _) _ _) _ _ = W at *
  obtain ⟨x0, x1, x2, x3, x4⟩ := q2.out.cells
  obtain ⟨n0, n1, n2, n3, n4, n5, n6, n7⟩ := q3.out.cells
  dsimp only at x0 x1 x2 x3 x4 n0 n1 n2 n3 n4 n5 n6 n7
  simp only [show ((0 : Nat) : Int) = 0 from rfl] at n5 n6 n7
  exact bodyPost_ret (v := .tuple #[.agg #[.int .i64 xp, .int .i64 xe, .int .i64 xo, .bool xr, .int .i64 xk], .agg #[.bool false, .bool false, .int .i64 0, .int .i64 0, .int .i64 0, .int .u64 0, .int .u64 0, .int .u64 0]]) (by simp [results, Tryd.results16, go_sem, x0, x1, x2, x3, x4, n0, n1, n2, n3, n4, n5, n6, n7]) rfl ⟨rfl, q1.out⟩
end Go.Proofs.YtgcgbiaigbblkaaDoor
