/- A car's deed by value; what a standing car does: the boxes. -/
import Derived.Test.YtgcgbiaigbblkaaDoorCar3
import Derived.Test.YtgcgbiaigbblkaaDoorCar4
import Derived.Test.YtgcgbiaigbblkaaDoorPlan
import Derived.Test.YtgcgbiaigbblkaaDoorRow
namespace Go.Proofs.YtgcgbiaigbblkaaDoor
open Go.RowKit

abbrev Dn.v (d : Dn) : Value := .agg #[.bool d.op, .bool d.cl, .int .i64 d.fl, .int .i64 d.la, .int .i64 d.mv, .int .u64 d.st.c, .int .u64 d.st.u, .int .u64 d.st.d]
abbrev Dn.box (d : Dn) : Obj := .cells #[.bool d.op, .bool d.cl, .int .i64 d.fl, .int .i64 d.la, .int .i64 d.mv, .int .u64 d.st.c, .int .u64 d.st.u, .int .u64 d.st.d] 39
/-- The box of a deed. -/
def NB (w : World) (b : Nat) (d : Dn) : Prop := w.heap[b]? = some d.box
theorem NB.fr {w w' : World} {b : Nat} {d : Dn} {S : List Nat} (k : NB w b d) (hf : Fr w w' S) (hb : b ∉ S) : NB w' b d := hf.heap k hb
theorem NB.new (w : World) (d : Dn) : NB (w.alloc d.box) w.heap.size d := heap_alloc_new w _
theorem NB.fz {w : World} {b : Nat} {d : Dn} (k : NB w b d) (i : Nat) : w.frozen? ⟨b, i, none⟩ = false := frozen_of_row _ _ i _ _ k
structure NC (w : World) (b : Nat) (d : Dn) : Prop where
  c0 : w.cell? ⟨b, 0, none⟩ = some (.bool d.op)
  c1 : w.cell? ⟨b, 1, none⟩ = some (.bool d.cl)
  c2 : w.cell? ⟨b, 2, none⟩ = some (.int .i64 d.fl)
  c3 : w.cell? ⟨b, 3, none⟩ = some (.int .i64 d.la)
  c4 : w.cell? ⟨b, 4, none⟩ = some (.int .i64 d.mv)
  c5 : w.cell? ⟨b, 5, none⟩ = some (.int .u64 d.st.c)
  c6 : w.cell? ⟨b, 6, none⟩ = some (.int .u64 d.st.u)
  c7 : w.cell? ⟨b, 7, none⟩ = some (.int .u64 d.st.d)
theorem NB.cells {w : World} {b : Nat} {d : Dn} (k : NB w b d) : NC w b d :=
  ⟨by rw [cell_of_row w b 0 _ _ _ k]; rfl, by rw [cell_of_row w b 1 _ _ _ k]; rfl, by rw [cell_of_row w b 2 _ _ _ k]; rfl, by rw [cell_of_row w b 3 _ _ _ k]; rfl, by rw [cell_of_row w b 4 _ _ _ k]; rfl, by rw [cell_of_row w b 5 _ _ _ k]; rfl, by rw [cell_of_row w b 6 _ _ _ k]; rfl, by rw [cell_of_row w b 7 _ _ _ k]; rfl⟩
theorem NB.put {w : World} {b : Nat} {d : Dn} (k : NB w b d) (i : Nat) (v : Value) (x : Dn) (h : x.box = (.cells (#[.bool d.op, .bool d.cl, .int .i64 d.fl, .int .i64 d.la, .int .i64 d.mv, .int .u64 d.st.c, .int .u64 d.st.u, .int .u64 d.st.d].setIfInBounds i v) 39 (0, 0))) : NB (w.setCell ⟨b, i, none⟩ v) b x := by
  unfold NB at k ⊢
  rw [heap_setCell_same _ b i _ _ _ k, h]
def dnSet (w : World) (b : Nat) (d : Dn) : World := (((((((w.setCell ⟨b, 0, none⟩ (.bool d.op)).setCell ⟨b, 1, none⟩ (.bool d.cl)).setCell ⟨b, 2, none⟩ (.int .i64 d.fl)).setCell ⟨b, 3, none⟩ (.int .i64 d.la)).setCell ⟨b, 4, none⟩ (.int .i64 d.mv)).setCell ⟨b, 5, none⟩ (.int .u64 d.st.c)).setCell ⟨b, 6, none⟩ (.int .u64 d.st.u)).setCell ⟨b, 7, none⟩ (.int .u64 d.st.d)
theorem NB.set {w : World} {b : Nat} {d : Dn} (k : NB w b d) (x : Dn) : NB (dnSet w b x) b x := by
  have k0 : NB _ b ⟨x.op, d.cl, d.fl, d.la, d.mv, d.st⟩ := k.put 0 (.bool x.op) _ rfl
  have k1 : NB _ b ⟨x.op, x.cl, d.fl, d.la, d.mv, d.st⟩ := k0.put 1 (.bool x.cl) _ rfl
  have k2 : NB _ b ⟨x.op, x.cl, x.fl, d.la, d.mv, d.st⟩ := k1.put 2 (.int .i64 x.fl) _ rfl
  have k3 : NB _ b ⟨x.op, x.cl, x.fl, x.la, d.mv, d.st⟩ := k2.put 3 (.int .i64 x.la) _ rfl
  have k4 : NB _ b ⟨x.op, x.cl, x.fl, x.la, x.mv, d.st⟩ := k3.put 4 (.int .i64 x.mv) _ rfl
  have k5 : NB _ b ⟨x.op, x.cl, x.fl, x.la, x.mv, ⟨x.st.c, d.st.u, d.st.d⟩⟩ := k4.put 5 (.int .u64 x.st.c) _ rfl
  have k6 : NB _ b ⟨x.op, x.cl, x.fl, x.la, x.mv, ⟨x.st.c, x.st.u, d.st.d⟩⟩ := k5.put 6 (.int .u64 x.st.u) _ rfl
  exact k6.put 7 (.int .u64 x.st.d) _ rfl
theorem dnSet_fr (w : World) (b : Nat) (d : Dn) : Fr w (dnSet w b d) [b] :=
  (((((((Fr.setCell w b 0 _ (S := [b]) (by simp)).trans (Fr.setCell _ b 1 _ (S := [b]) (by simp))).trans (Fr.setCell _ b 2 _ (S := [b]) (by simp))).trans (Fr.setCell _ b 3 _ (S := [b]) (by simp))).trans (Fr.setCell _ b 4 _ (S := [b]) (by simp))).trans (Fr.setCell _ b 5 _ (S := [b]) (by simp))).trans (Fr.setCell _ b 6 _ (S := [b]) (by simp))).trans (Fr.setCell _ b 7 _ (S := [b]) (by simp))

/-- A house's, a car's, the stops' boxes; a car and a deed that are nothing. -/
structure ST (W : World) (h : Ho) (c : Ca) (s : Sp) (a : World) : Prop where
  f : Fr W a []
  h : HB a W.heap.size h
  c : CB a (W.heap.size + 1) c
  s : SR a (W.heap.size + 2) s
  r : CB a (W.heap.size + 3) zCa
  t : NB a (W.heap.size + 4) zDn
theorem ST.fr {W : World} {h : Ho} {c : Ca} {s : Sp} {a a' : World} (q : ST W h c s a) (f : Fr a a' []) : ST W h c s a' :=
  ⟨q.f.trans f, q.h.fr f, q.c.fr f (by simp), f.heap q.s (by simp), q.r.fr f (by simp), q.t.fr f (by simp)⟩
theorem ST.turn {W : World} {h : Ho} {c x : Ca} {s : Sp} {a a' : World} (q : ST W h c s a) (f : Fr a a' [W.heap.size + 1]) (r : CB a' (W.heap.size + 1) x) : ST W h x s a' :=
  ⟨q.f.new f (by simp), f.heap q.h (by simp), r, f.heap q.s (by simp), q.r.fr f (by simp), q.t.fr f (by simp)⟩
theorem ST.new (w : World) (h : Ho) (c : Ca) (s : Sp) : ST w h c s (((((w.alloc h.box).alloc c.box).alloc (Sp.box 37 s)).alloc zCa.box).alloc zDn.box) := by
  have a1 := heap_alloc_new w h.box
  have a2 := heap_alloc_new (w.alloc h.box) c.box
  have a3 := heap_alloc_new ((w.alloc h.box).alloc c.box) (Sp.box 37 s)
  have a4 := heap_alloc_new (((w.alloc h.box).alloc c.box).alloc (Sp.box 37 s)) zCa.box
  have a5 := heap_alloc_new ((((w.alloc h.box).alloc c.box).alloc (Sp.box 37 s)).alloc zCa.box) zDn.box
  rw [show (w.alloc h.box).heap.size = w.heap.size + 1 by simp] at a2
  rw [show ((w.alloc h.box).alloc c.box).heap.size = w.heap.size + 2 by simp] at a3
  rw [show (((w.alloc h.box).alloc c.box).alloc (Sp.box 37 s)).heap.size = w.heap.size + 3 by simp] at a4
  rw [show ((((w.alloc h.box).alloc c.box).alloc (Sp.box 37 s)).alloc zCa.box).heap.size = w.heap.size + 4 by simp] at a5
  have f1 := Fr.alloc w h.box []
  have f2 := Fr.alloc (w.alloc h.box) c.box []
  have f3 := Fr.alloc ((w.alloc h.box).alloc c.box) (Sp.box 37 s) []
  have f4 := Fr.alloc (((w.alloc h.box).alloc c.box).alloc (Sp.box 37 s)) zCa.box []
  have f5 := Fr.alloc ((((w.alloc h.box).alloc c.box).alloc (Sp.box 37 s)).alloc zCa.box) zDn.box []
  have f35 := (f3.trans f4).trans f5
  exact ⟨(f1.trans f2).trans f35, (f2.trans f35).heap a1 (by simp), f35.heap a2 (by simp), (f4.trans f5).heap a3 (by simp), f5.heap a4 (by simp), a5⟩
/-- Behind them a deed of the plan's. -/
structure SP (W : World) (n : Nat) (h : Ho) (c : Ca) (s : Sp) (x : De) (a : World) : Prop where
  q : ST W h c s a
  x : a.heap[n]? = some (De.box 85 x)
  lo : W.heap.size + 4 < n
theorem SP.fr {W : World} {n : Nat} {h : Ho} {c : Ca} {s : Sp} {x : De} {a a' : World} (q : SP W n h c s x a) (f : Fr a a' []) : SP W n h c s x a' := ⟨q.q.fr f, f.heap q.x (by simp), q.lo⟩
theorem SP.new {W : World} {h : Ho} {c : Ca} {s : Sp} {a : World} (q : ST W h c s a) (x : De) : SP W a.heap.size h c s x (a.alloc (De.box 85 x)) := ⟨q.fr (Fr.alloc _ _ []), heap_alloc_new _ _, size_of_row q.t⟩
theorem SP.turn {W : World} {n : Nat} {h : Ho} {c y : Ca} {s : Sp} {x : De} {a a' : World} (q : SP W n h c s x a) (f : Fr a a' [W.heap.size + 1]) (r : CB a' (W.heap.size + 1) y) : SP W n h y s x a' := ⟨q.q.turn f r, f.heap q.x (by have := q.lo; simp; omega), q.lo⟩
/-- What a standing car comes to: at the floor, with the new direction. -/
def Ca.set (c : Ca) (e : Int) : Ca := ⟨⟨c.x.p, e, c.x.o, false⟩, c.k⟩
set_option maxHeartbeats 2000000 in
set_option maxRecDepth 100000 in
theorem stand_go (h : Ho) (c : Ca) (s : Sp) (w : World) (ok : s.ok) (hT : Tz w) (h0 : -9223372036854775808 ≤ c.x.p) (h1 : c.x.p ≤ 9223372036854775807) (q : Int) (hq : q = h.flr c.x.p) (hin : 0 ≤ q ∧ q < 64 ∧ -1 ≤ c.x.e ∧ c.x.e ≤ 1)
    (hs : s.stop q c.x.e = false) (y : Ca) (hy : y = Ca.move h (c.set (s.head q c.x.e)) (s.head q c.x.e)) :
    Calls Tryd.prog 30 #[h.v, c.v, s.v] w fun e w' => e = .returned (.tuple #[y.v, zDn.v]) ∧ Fr w w' [] := by
  have FL := Lib.hid (fun W => floor_any h c.x.p W q hq)
  obtain ⟨e, he⟩ : ∃ e, e = s.head q c.x.e := ⟨_, rfl⟩
  have hde : (⟨false, e, e⟩ : De) = s.deed q c.x.e := by rw [deed_in hin, hs, if_neg (by simp), he]
  have PA := Lib.hid (fun W T => deed_any s q c.x.e W ok T ⟨false, e, e⟩ hde)
  rw [← he] at hy
  have MO := Lib.hid (fun W => move_any h (c.set e) e h0 h1 W y hy)
  have TB := Lib.hid (ST.new w h c s)
  have HT := Lib.hid hT
  clear hq hin hs hy he hde hT ok h0 h1
  obtain ⟨hc, hfl, hs, hd⟩ := h
  obtain ⟨⟨xp, xe, xo, xr⟩, xk⟩ := c
  obtain ⟨⟨yp, ye, yo, yr⟩, yk⟩ := y
  obtain ⟨sp, su, sd⟩ := s
  dsimp only [Ho.v, Ho.box, Ca.v, Ca.box, Sp.v, Sp.box, Dn.v, Dn.box, De.v, De.box, Ca.set, zCa, zDn, zSp] at *
  simp only [show ((0 : Nat) : Int) = 0 from rfl] at *
  go_enter Tryd.func30, Tryd.ntmps30
  go_wp2_with fail
  with_reducible refine (FL.out _).mono ?_
  rintro v w1 ⟨rfl, hf⟩
  have T1 := Lib.hid (TB.out.fr hf)
  clear hf TB
  have Z1 := Lib.hid (HT.out.fr T1.out.f)
  obtain ⟨c0, c1, c2, c3, c4⟩ := T1.out.c.cells
  obtain ⟨s0, s1, s2⟩ := arow T1.out.s
  dsimp only at c0 c1 c2 c3 c4 s0 s1 s2
  go_wp2_with fail
  with_reducible refine (PA.out _ Z1.out).mono ?_
  rintro v w2 ⟨rfl, hf⟩
  have T2 := Lib.hid (SP.new (T1.out.fr hf) ⟨false, e, e⟩)
  clear hf T1 Z1 c0 c1 c2 c3 c4 s0 s1 s2
  have T3 := Lib.hid (T2.out.turn (Fr.setCell _ (w.heap.size + 1) 1 (.int .i64 e) (by simp)) (T2.out.q.c.put1 e))
  have T4 := Lib.hid (T3.out.turn (Fr.setCell _ (w.heap.size + 1) 3 (.bool false) (by simp)) (T3.out.q.c.put3 false))
  obtain ⟨c0, c1, c2, c3, c4⟩ := T2.out.q.c.cells
  obtain ⟨d0, d1, d2, d3, d4⟩ := T3.out.q.c.cells
  obtain ⟨e0, e1, e2, e3, e4⟩ := T4.out.q.c.cells
  have z1 := T2.out.q.c.fz 1
  have z3 := T3.out.q.c.fz 3
  obtain ⟨x0, x1, x2⟩ := arow T2.out.x
  obtain ⟨y0, y1, y2⟩ := arow T4.out.x
  obtain ⟨i0, i1, i2, i3⟩ := T4.out.q.h.cells
  dsimp only [De.box] at *
  go_wp2_with fail
  with_reducible refine (MO.out _).mono ?_
  rintro v w5 ⟨rfl, hf⟩
  have T5 := Lib.hid (T4.out.q.fr hf)
  clear hf T2 T3 T4 c0 c1 c2 c3 c4 d0 d1 d2 d3 d4 e0 e1 e2 e3 e4 z1 z3 x0 x1 x2 y0 y1 y2 i0 i1 i2 i3 MO PA FL
  have q1 := Lib.hid ((T5.out.f.new (carSet_fr _ (w.heap.size + 3) ⟨⟨yp, ye, yo, yr⟩, yk⟩) (by simp)).new (dnSet_fr _ (w.heap.size + 4) zDn) (by simp))
  have k2 := Lib.hid (T5.out.r.set ⟨⟨yp, ye, yo, yr⟩, yk⟩)
  have q2 := Lib.hid (k2.out.fr (dnSet_fr _ (w.heap.size + 4) zDn) (by simp))
  have k3 := Lib.hid (T5.out.t.fr (carSet_fr w5 (w.heap.size + 3) ⟨⟨yp, ye, yo, yr⟩, yk⟩) (by simp))
  have q3 := Lib.hid (k3.out.set zDn)
  obtain ⟨r0, r1, r2, r3, r4⟩ := T5.out.r.cells
  have y0 := T5.out.r.fz 0
  have y1 := T5.out.r.fz 1
  have y2 := T5.out.r.fz 2
  have y3 := T5.out.r.fz 3
  have y4 := T5.out.r.fz 4
  obtain ⟨n0, n1, n2, n3, n4, n5, n6, n7⟩ := T5.out.t.cells
  have m0 := T5.out.t.fz 0
  have m1 := T5.out.t.fz 1
  have m2 := T5.out.t.fz 2
  have m3 := T5.out.t.fz 3
  have m4 := T5.out.t.fz 4
  have m5 := T5.out.t.fz 5
  have m6 := T5.out.t.fz 6
  have m7 := T5.out.t.fz 7
  dsimp only [zCa, zDn, zSp, carSet, dnSet] at *
  simp only [show ((0 : Nat) : Int) = 0 from rfl] at q3 n5 n6 n7
  go_wp2
  generalize World.setCell (World.setCell (World.setCell (World.setCell (World.setCell (World.setCell (World.setCell (World.setCell (World.setCell (World.setCell (World.setCell (World.setCell (World.setCell w5 _ _) _ _) _ _) _ _) _ _) _ _) _ _) _ _) _ _) _ _) _ _) _ _) _ _ = W at *
  obtain ⟨x0, x1, x2, x3, x4⟩ := q2.out.cells
  obtain ⟨n0, n1, n2, n3, n4, n5, n6, n7⟩ := q3.out.cells
  dsimp only at x0 x1 x2 x3 x4 n0 n1 n2 n3 n4 n5 n6 n7
  simp only [show ((0 : Nat) : Int) = 0 from rfl] at n5 n6 n7
  exact bodyPost_ret (v := .tuple #[.agg #[.int .i64 yp, .int .i64 ye, .int .i64 yo, .bool yr, .int .i64 yk], .agg #[.bool false, .bool false, .int .i64 0, .int .i64 0, .int .i64 0, .int .u64 0, .int .u64 0, .int .u64 0]]) (by simp [results, Tryd.results30, go_sem, x0, x1, x2, x3, x4, n0, n1, n2, n3, n4, n5, n6, n7]) rfl ⟨rfl, q1.out⟩
end Go.Proofs.YtgcgbiaigbblkaaDoor
