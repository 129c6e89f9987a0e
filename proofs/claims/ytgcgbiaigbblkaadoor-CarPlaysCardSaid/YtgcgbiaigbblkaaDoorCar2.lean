/- A car by value: between floors; where it starts. -/
import Derived.Test.YtgcgbiaigbblkaaDoorCar
import Derived.Test.YtgcgbiaigbblkaaDoorCaServ
namespace Go.Proofs.YtgcgbiaigbblkaaDoor
open Go.RowKit

/-- Between floors, a tick later. -/
def Ca.ride (h : Ho) (c : Ca) : Ca :=
  if c.x.r = true then
    (if h.lev ((Ca.move h ⟨⟨c.x.p, -1, c.x.o, c.x.r⟩, c.k⟩ (-1)).x.p) then ⟨⟨(Ca.move h ⟨⟨c.x.p, -1, c.x.o, c.x.r⟩, c.k⟩ (-1)).x.p, 0, c.x.o, false⟩, c.k⟩
     else Ca.move h ⟨⟨c.x.p, -1, c.x.o, c.x.r⟩, c.k⟩ (-1))
  else c.move h c.x.e
theorem move_rest (h : Ho) (c : Ca) (m : Int) : (c.move h m).x.e = c.x.e ∧ (c.move h m).x.o = c.x.o ∧ (c.move h m).x.r = c.x.r ∧ (c.move h m).k = c.k := by
  unfold Ca.move; split <;> exact ⟨rfl, rfl, rfl, rfl⟩
set_option maxHeartbeats 2000000 in
set_option maxRecDepth 100000 in
theorem ride_any (h : Ho) (c : Ca) (h0 : -9223372036854775808 ≤ c.x.p) (h1 : c.x.p ≤ 9223372036854775807) (w : World) (x : Ca) (hx : x = c.ride h) :
    Calls Tryd.prog 32 #[h.v, c.v] w fun e w' => e = .returned x.v ∧ Fr w w' [] := by
  have TB := Lib.hid (HC1.new w h c)
  unfold Ca.ride at hx
  by_cases hr : c.x.r = true
  · rw [if_pos hr] at hx
    obtain ⟨y, hy⟩ : ∃ y, y = Ca.move h ⟨⟨c.x.p, -1, c.x.o, c.x.r⟩, c.k⟩ (-1) := ⟨_, rfl⟩
    have MO := Lib.hid (fun W => move_any h ⟨⟨c.x.p, -1, c.x.o, c.x.r⟩, c.k⟩ (-1) h0 h1 W y hy)
    have HY := move_rest h ⟨⟨c.x.p, -1, c.x.o, c.x.r⟩, c.k⟩ (-1)
    rw [← hy] at hx HY
    obtain ⟨b, eb⟩ : ∃ b, b = decide (h.lev y.x.p) := ⟨_, rfl⟩
    have LV := Lib.hid (fun W => level_any h y.x.p W b eb)
    obtain ⟨hc, hf, hs, hd⟩ := h
    obtain ⟨⟨xp, xe, xo, xr⟩, xk⟩ := c
    obtain ⟨⟨yp, ye, yo, yr⟩, yk⟩ := y
    dsimp only at hr hx HY eb
    obtain ⟨rfl, rfl, rfl, rfl⟩ := HY
    subst hr
    clear hy h0 h1
    dsimp only [Ho.v, Ho.box, Ca.v, Ca.box, zCa] at *
    have T1 := Lib.hid (HC1.new w ⟨hc, hf, hs, hd⟩ ⟨⟨xp, -1, yo, true⟩, yk⟩)
    dsimp only [Ho.box, Ca.box, zCa] at *
    go_enter Tryd.func32, Tryd.ntmps32
    go_wp2_with fail
    with_reducible refine (MO.out _).mono ?_
    rintro e2 w2 ⟨rfl, hf⟩
    have T2 := Lib.hid (T1.out.fr hf)
    clear hf T1 TB MO
    have T3 := Lib.hid (T2.out.turn (carSet_fr w2 (w.heap.size + 1) ⟨⟨yp, -1, yo, true⟩, yk⟩) (T2.out.c.set ⟨⟨yp, -1, yo, true⟩, yk⟩))
    obtain ⟨i0, i1, i2, i3⟩ := T3.out.h.cells
    obtain ⟨c0, c1, c2, c3, c4⟩ := T3.out.c.cells
    obtain ⟨d0, d1, d2, d3, d4⟩ := T2.out.c.cells
    have z0 := T2.out.c.fz 0
    have z1 := T2.out.c.fz 1
    have z2 := T2.out.c.fz 2
    have z3 := T2.out.c.fz 3
    have z4 := T2.out.c.fz 4
    dsimp only [zCa, carSet] at *
    go_wp2_with fail
    generalize World.setCell (World.setCell (World.setCell (World.setCell (World.setCell w2 _ _) _ _) _ _) _ _) _ _ = W3 at *
    with_reducible refine (LV.out _).mono ?_
    rintro e2 w4 ⟨rfl, hf⟩
    have T4 := Lib.hid (T3.out.fr hf)
    clear hf T3 T2 LV z0 z1 z2 z3 z4 i0 i1 i2 i3 c0 c1 c2 c3 c4 d0 d1 d2 d3 d4
    cases b with
    | true =>
      have hx' : x = ⟨⟨yp, 0, yo, false⟩, yk⟩ := by rw [hx, if_pos (of_decide_eq_true eb.symm)]
      clear hx eb
      subst hx'
      have T5 := Lib.hid (T4.out.turn (Fr.setCell w4 (w.heap.size + 1) 1 (.int .i64 0) (by simp)) (T4.out.c.put1 0))
      have T6 := Lib.hid (T5.out.turn (Fr.setCell _ (w.heap.size + 1) 3 (.bool false) (by simp)) (T5.out.c.put3 false))
      obtain ⟨q1, q2⟩ := T6.out.ends ⟨⟨yp, 0, yo, false⟩, yk⟩
      have q1 := Lib.hid q1
      have q2 := Lib.hid q2
      obtain ⟨d0, d1, d2, d3, d4⟩ := T4.out.c.cells
      have z1 := T4.out.c.fz 1
      obtain ⟨f0, f1, f2, f3, f4⟩ := T5.out.c.cells
      have z3 := T5.out.c.fz 3
      obtain ⟨c0, c1, c2, c3, c4⟩ := T6.out.c.cells
      obtain ⟨r0, r1, r2, r3, r4⟩ := T6.out.r.cells
      have y0 := T6.out.r.fz 0
      have y1 := T6.out.r.fz 1
      have y2 := T6.out.r.fz 2
      have y3 := T6.out.r.fz 3
      have y4 := T6.out.r.fz 4
      dsimp only [zCa, carSet] at *
      go_wp2
      generalize World.setCell (World.setCell (World.setCell (World.setCell (World.setCell (World.setCell (World.setCell w4 _ _) _ _) _ _) _ _) _ _) _ _) _ _ = W at *
      obtain ⟨x0, x1, x2, x3, x4⟩ := q2.out.cells
      dsimp only at x0 x1 x2 x3 x4
      exact bodyPost_ret (v := .agg #[.int .i64 yp, .int .i64 0, .int .i64 yo, .bool false, .int .i64 yk]) (by simp [results, Tryd.results32, go_sem, x0, x1, x2, x3, x4]) rfl ⟨rfl, q1.out⟩
    | false =>
      have hx' : x = ⟨⟨yp, -1, yo, true⟩, yk⟩ := by rw [hx, if_neg (of_decide_eq_false eb.symm)]
      clear hx eb
      subst hx'
      obtain ⟨q1, q2⟩ := T4.out.ends ⟨⟨yp, -1, yo, true⟩, yk⟩
      have q1 := Lib.hid q1
      have q2 := Lib.hid q2
      obtain ⟨d0, d1, d2, d3, d4⟩ := T4.out.c.cells
      obtain ⟨r0, r1, r2, r3, r4⟩ := T4.out.r.cells
      have y0 := T4.out.r.fz 0
      have y1 := T4.out.r.fz 1
      have y2 := T4.out.r.fz 2
      have y3 := T4.out.r.fz 3
      have y4 := T4.out.r.fz 4
      dsimp only [zCa, carSet] at *
      go_wp2
      generalize World.setCell (World.setCell (World.setCell (World.setCell (World.setCell w4 _ _) _ _) _ _) _ _) _ _ = W at *
      obtain ⟨x0, x1, x2, x3, x4⟩ := q2.out.cells
      dsimp only at x0 x1 x2 x3 x4
      exact bodyPost_ret (v := .agg #[.int .i64 yp, .int .i64 (-1), .int .i64 yo, .bool true, .int .i64 yk]) (by simp [results, Tryd.results32, go_sem, x0, x1, x2, x3, x4]) rfl ⟨rfl, q1.out⟩
  · rw [if_neg hr] at hx
    have MO := Lib.hid (fun W => move_any h c c.x.e h0 h1 W x hx)
    clear hx h0 h1
    obtain ⟨hc, hf, hs, hd⟩ := h
    obtain ⟨⟨xp, xe, xo, xr⟩, xk⟩ := c
    obtain ⟨⟨yp, ye, yo, yr⟩, yk⟩ := x
    dsimp only [Ho.v, Ho.box, Ca.v, Ca.box, zCa] at *
    obtain rfl : xr = false := by simpa using hr
    clear hr
    go_enter Tryd.func32, Tryd.ntmps32
    go_wp2_with fail
    with_reducible refine (MO.out _).mono ?_
    rintro e2 w2 ⟨rfl, hf⟩
    have T2 := Lib.hid (TB.out.fr hf)
    obtain ⟨q1, q2⟩ := T2.out.ends ⟨⟨yp, ye, yo, yr⟩, yk⟩
    have q1 := Lib.hid q1
    have q2 := Lib.hid q2
    clear hf TB MO
    obtain ⟨r0, r1, r2, r3, r4⟩ := T2.out.r.cells
    have y0 := T2.out.r.fz 0
    have y1 := T2.out.r.fz 1
    have y2 := T2.out.r.fz 2
    have y3 := T2.out.r.fz 3
    have y4 := T2.out.r.fz 4
    dsimp only [zCa, carSet] at *
    go_wp2
    generalize World.setCell (World.setCell (World.setCell (World.setCell (World.setCell w2 _ _) _ _) _ _) _ _) _ _ = W at *
    obtain ⟨x0, x1, x2, x3, x4⟩ := q2.out.cells
    dsimp only at x0 x1 x2 x3 x4
    exact bodyPost_ret (v := .agg #[.int .i64 yp, .int .i64 ye, .int .i64 yo, .bool yr, .int .i64 yk]) (by simp [results, Tryd.results32, go_sem, x0, x1, x2, x3, x4]) rfl ⟨rfl, q1.out⟩
/-- What a start needs: the house's box, the answer's, the car's own. -/
structure SC (W : World) (n : Nat) (h : Ho) (c : Ca) (a : World) : Prop where
  f : Fr W a []
  h : HB a W.heap.size h
  r : CB a (W.heap.size + 1) zCa
  c : CB a n c
theorem SC.fr {W : World} {n : Nat} {h : Ho} {c : Ca} {a a' : World} (q : SC W n h c a) (k : Fr a a' []) : SC W n h c a' := ⟨q.f.trans k, q.h.fr k, q.r.fr k (by simp), q.c.fr k (by simp)⟩
set_option maxHeartbeats 1000000 in
set_option maxRecDepth 100000 in
theorem cstart_any (h : Ho) (p : Int) (w : World) (k : h.ok) (p0 : 0 ≤ p) (p1 : p ≤ h.top) (x : Ca) (hx : x = startC h p) :
    Calls Tryd.prog 13 #[h.v, .int .i64 p] w fun e w' => e = .returned (.tuple #[x.v, .bool true]) ∧ Fr w w' [] := by
  obtain ⟨b, eb⟩ : ∃ b, b = decide (h.lev p) := ⟨_, rfl⟩
  have LV := Lib.hid (fun W => level_any h p W b eb)
  have hx' : x = ⟨⟨p, 0, 0, !b⟩, 0⟩ := by rw [hx, startC, eb]
  have RG := Lib.hid (fun W => cright_any h x W true (by rw [hx]; exact ((right_iff h _).2 (start_right k p0 p1)).symm))
  have F1 := Lib.hid (Fr.alloc w h.box [])
  have B1 := Lib.hid (HB.new w h)
  have F2 := Lib.hid (Fr.alloc (w.alloc h.box) zCa.box [])
  have C2 := Lib.hid (CB.new (w.alloc h.box) zCa)
  subst hx'
  clear hx eb k p0 p1
  obtain ⟨hc, hf, hs, hd⟩ := h
  dsimp only [Ho.v, Ho.box, Ca.v, Ca.box, zCa] at *
  go_enter Tryd.func13, Tryd.ntmps13
  go_wp2_with fail
  with_reducible refine (LV.out _).mono ?_
  rintro e2 w2 ⟨rfl, hg⟩
  have S2 : Hid (SC w w2.heap.size ⟨hc, hf, hs, hd⟩ ⟨⟨p, 0, 0, !b⟩, 0⟩ (w2.alloc (Ca.box ⟨⟨p, 0, 0, !b⟩, 0⟩))) := by
    refine Lib.hid ⟨?_, ?_, ?_, CB.new w2 ⟨⟨p, 0, 0, !b⟩, 0⟩⟩
    · exact ((F1.out.trans F2.out).trans hg).trans (Fr.alloc _ _ [])
    · exact ((B1.out.fr F2.out).fr hg).fr (Fr.alloc _ _ [])
    · have q := (CB.fr C2.out hg (by simp)).fr (Fr.alloc w2 (Ca.box ⟨⟨p, 0, 0, !b⟩, 0⟩) []) (by simp)
      simpa [zCa] using q
  dsimp only [Ca.box] at S2
  clear hg F1 B1 F2 C2
  obtain ⟨c0, c1, c2, c3⟩ := S2.out.h.cells
  dsimp only at c0 c1 c2 c3
  go_wp2_with fail
  with_reducible refine (RG.out _).mono ?_
  rintro e2 w3 ⟨rfl, hg⟩
  have S3 := Lib.hid (S2.out.fr hg)
  have q2 := Lib.hid (S3.out.r.set ⟨⟨p, 0, 0, !b⟩, 0⟩)
  have q1 := Lib.hid (S3.out.f.new (carSet_fr w3 (w.heap.size + 1) ⟨⟨p, 0, 0, !b⟩, 0⟩) (by simp))
  clear hg S2 RG LV c0 c1 c2 c3
  obtain ⟨c0, c1, c2, c3, c4⟩ := S3.out.c.cells
  obtain ⟨r0, r1, r2, r3, r4⟩ := S3.out.r.cells
  have y0 := S3.out.r.fz 0
  have y1 := S3.out.r.fz 1
  have y2 := S3.out.r.fz 2
  have y3 := S3.out.r.fz 3
  have y4 := S3.out.r.fz 4
  dsimp only [zCa, carSet] at *
  go_wp2
  generalize World.setCell (World.setCell (World.setCell (World.setCell (World.setCell w3 _ _) _ _) _ _) _ _) _ _ = W at *
  obtain ⟨x0, x1, x2, x3, x4⟩ := q2.out.cells
  dsimp only at x0 x1 x2 x3 x4
  exact bodyPost_ret (v := .tuple #[.agg #[.int .i64 p, .int .i64 0, .int .i64 0, .bool (!b), .int .i64 0], .bool true]) (by simp [results, Tryd.results13, go_sem, x0, x1, x2, x3, x4]) rfl ⟨rfl, q1.out⟩
end Go.Proofs.YtgcgbiaigbblkaaDoor
