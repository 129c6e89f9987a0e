/- A car by value: whether it may be; where the motor brings it. -/
import Derived.Test.YtgcgbiaigbblkaaDoorCaMath
namespace Go.Proofs.YtgcgbiaigbblkaaDoor
open Go.RowKit

abbrev Ca.v (c : Ca) : Value := .agg #[.int .i64 c.x.p, .int .i64 c.x.e, .int .i64 c.x.o, .bool c.x.r, .int .i64 c.k]
abbrev Ca.box (c : Ca) : Obj := .cells #[.int .i64 c.x.p, .int .i64 c.x.e, .int .i64 c.x.o, .bool c.x.r, .int .i64 c.k] 30
def zCa : Ca := ⟨⟨0, 0, 0, false⟩, 0⟩
theorem crow {w : World} {g : Nat} {a b c d e : Value} {T : TypeId} (h : w.heap[g]? = some (.cells #[a, b, c, d, e] T (0, 0))) :
    w.cell? ⟨g, 0, none⟩ = some a ∧ w.cell? ⟨g, 1, none⟩ = some b ∧ w.cell? ⟨g, 2, none⟩ = some c ∧ w.cell? ⟨g, 3, none⟩ = some d ∧ w.cell? ⟨g, 4, none⟩ = some e :=
  ⟨by rw [cell_of_row w g 0 _ _ _ h]; rfl, by rw [cell_of_row w g 1 _ _ _ h]; rfl, by rw [cell_of_row w g 2 _ _ _ h]; rfl, by rw [cell_of_row w g 3 _ _ _ h]; rfl, by rw [cell_of_row w g 4 _ _ _ h]; rfl⟩
/-- The box of a car. -/
def CB (w : World) (b : Nat) (c : Ca) : Prop := w.heap[b]? = some c.box
theorem CB.fr {w w' : World} {b : Nat} {c : Ca} {S : List Nat} (k : CB w b c) (hf : Fr w w' S) (hb : b ∉ S) : CB w' b c := hf.heap k hb
theorem CB.new (w : World) (c : Ca) : CB (w.alloc c.box) w.heap.size c := heap_alloc_new w _
theorem CB.cells {w : World} {b : Nat} {c : Ca} (k : CB w b c) : w.cell? ⟨b, 0, none⟩ = some (.int .i64 c.x.p) ∧ w.cell? ⟨b, 1, none⟩ = some (.int .i64 c.x.e) ∧ w.cell? ⟨b, 2, none⟩ = some (.int .i64 c.x.o) ∧ w.cell? ⟨b, 3, none⟩ = some (.bool c.x.r) ∧ w.cell? ⟨b, 4, none⟩ = some (.int .i64 c.k) := crow k
theorem CB.fz {w : World} {b : Nat} {c : Ca} (k : CB w b c) (i : Nat) : w.frozen? ⟨b, i, none⟩ = false := frozen_of_row _ _ i _ _ k
/-- All its cells stored anew, by its parts. -/
theorem CB.put0 {w : World} {b : Nat} {c : Ca} (k : CB w b c) (z : Int) : CB (w.setCell ⟨b, 0, none⟩ (.int .i64 z)) b ⟨⟨z, c.x.e, c.x.o, c.x.r⟩, c.k⟩ := by
  unfold CB at k ⊢; rw [heap_setCell_same _ b 0 _ _ _ k]; rfl
theorem CB.put1 {w : World} {b : Nat} {c : Ca} (k : CB w b c) (z : Int) : CB (w.setCell ⟨b, 1, none⟩ (.int .i64 z)) b ⟨⟨c.x.p, z, c.x.o, c.x.r⟩, c.k⟩ := by
  unfold CB at k ⊢; rw [heap_setCell_same _ b 1 _ _ _ k]; rfl
theorem CB.put2 {w : World} {b : Nat} {c : Ca} (k : CB w b c) (z : Int) : CB (w.setCell ⟨b, 2, none⟩ (.int .i64 z)) b ⟨⟨c.x.p, c.x.e, z, c.x.r⟩, c.k⟩ := by
  unfold CB at k ⊢; rw [heap_setCell_same _ b 2 _ _ _ k]; rfl
theorem CB.put3 {w : World} {b : Nat} {c : Ca} (k : CB w b c) (z : Bool) : CB (w.setCell ⟨b, 3, none⟩ (.bool z)) b ⟨⟨c.x.p, c.x.e, c.x.o, z⟩, c.k⟩ := by
  unfold CB at k ⊢; rw [heap_setCell_same _ b 3 _ _ _ k]; rfl
theorem CB.put4 {w : World} {b : Nat} {c : Ca} (k : CB w b c) (z : Int) : CB (w.setCell ⟨b, 4, none⟩ (.int .i64 z)) b ⟨⟨c.x.p, c.x.e, c.x.o, c.x.r⟩, z⟩ := by
  unfold CB at k ⊢; rw [heap_setCell_same _ b 4 _ _ _ k]; rfl
def carSet (w : World) (b : Nat) (c : Ca) : World := ((((w.setCell ⟨b, 0, none⟩ (.int .i64 c.x.p)).setCell ⟨b, 1, none⟩ (.int .i64 c.x.e)).setCell ⟨b, 2, none⟩ (.int .i64 c.x.o)).setCell ⟨b, 3, none⟩ (.bool c.x.r)).setCell ⟨b, 4, none⟩ (.int .i64 c.k)
theorem CB.set {w : World} {b : Nat} {c : Ca} (k : CB w b c) (x : Ca) : CB (carSet w b x) b x := ((((k.put0 x.x.p).put1 x.x.e).put2 x.x.o).put3 x.x.r).put4 x.k
theorem carSet_fr (w : World) (b : Nat) (c : Ca) : Fr w (carSet w b c) [b] :=
  ((((Fr.setCell w b 0 _ (S := [b]) (by simp)).trans (Fr.setCell _ b 1 _ (S := [b]) (by simp))).trans (Fr.setCell _ b 2 _ (S := [b]) (by simp))).trans (Fr.setCell _ b 3 _ (S := [b]) (by simp))).trans (Fr.setCell _ b 4 _ (S := [b]) (by simp))
/-- A house's and a car's boxes, in a world that came of W. -/
structure HC (W : World) (h : Ho) (c : Ca) (a : World) : Prop where
  f : Fr W a []
  h : HB a W.heap.size h
  c : CB a (W.heap.size + 1) c
theorem HC.fr {W : World} {h : Ho} {c : Ca} {a a' : World} (q : HC W h c a) (k : Fr a a' []) : HC W h c a' := ⟨q.f.trans k, q.h.fr k, q.c.fr k (by simp)⟩
theorem HC.new (w : World) (h : Ho) (c : Ca) : HC w h c ((w.alloc h.box).alloc c.box) := by
  refine ⟨(Fr.alloc _ _ []).trans (Fr.alloc _ _ []), (HB.new w h).fr (Fr.alloc _ _ []), ?_⟩
  have := CB.new (w.alloc h.box) c
  rwa [show (w.alloc h.box).heap.size = w.heap.size + 1 by simp] at this

set_option maxRecDepth 100000 in
theorem cright_any (h : Ho) (c : Ca) (w : World) (b : Bool) (hb : b = c.right h) : Calls Tryd.prog 20 #[h.v, c.v] w fun e w' => e = .returned (.bool b) ∧ Fr w w' [] := by
  have TB := Lib.hid (HC.new w h c)
  obtain ⟨bm, em⟩ : ∃ y, y = h.may c.x := ⟨_, rfl⟩
  have RG := Lib.hid (fun W => right_any h c.x W bm em)
  have HV0 := Lib.hid (show b = (bm && (decide (c.k = 0) || (decide (0 < c.k) && decide (c.x.o = 1)))) by rw [hb, Ca.right, em])
  clear hb em
  obtain ⟨hc, hf, hs, hd⟩ := h
  obtain ⟨⟨xp, xe, xo, xr⟩, xk⟩ := c
  have HV := Lib.hid (show b = (bm && (decide (xk = 0) || (decide (0 < xk) && decide (xo = 1)))) from HV0.out)
  clear HV0
  dsimp only [Ho.v, Ho.box, St.v, St.box, Ca.v, Ca.box] at *
  cases bm with
  | false =>
    have HR : Hid (b = false) := by show _ = _; rw [HV.out]; rfl
    clear HV
    go_enter Tryd.func20, Tryd.ntmps20
    go_wp2_with fail
    with_reducible refine (RG.out _).mono ?_
    rintro e2 w2 ⟨rfl, hf⟩
    have T2 := Lib.hid (TB.out.fr hf)
    clear hf
    go_wp2
    go_ret
    exact ⟨by rw [HR.out]; rfl, T2.out.f⟩
  | true =>
    by_cases k0 : xk = 0
    · have HR : Hid (b = true) := by show _ = _; rw [HV.out]; simp [k0]
      subst k0
      clear HV
      go_enter Tryd.func20, Tryd.ntmps20
      go_wp2_with fail
      with_reducible refine (RG.out _).mono ?_
      rintro e2 w2 ⟨rfl, hf⟩
      have T2 := Lib.hid (TB.out.fr hf)
      clear hf
      obtain ⟨c0, c1, c2, c3, c4⟩ := T2.out.c.cells
      dsimp only at c0 c1 c2 c3 c4
      go_wp2
      go_ret
      exact ⟨by rw [HR.out]; rfl, T2.out.f⟩
    · have e0 : (xk == 0) = false := by simp [k0]
      by_cases k1 : 0 < xk
      · by_cases o1 : xo = 1
        · have HR : Hid (b = true) := by show _ = _; rw [HV.out]; simp [k1, o1]
          subst o1
          clear HV k0
          go_enter Tryd.func20, Tryd.ntmps20
          go_wp2_with fail
          with_reducible refine (RG.out _).mono ?_
          rintro e2 w2 ⟨rfl, hf⟩
          have T2 := Lib.hid (TB.out.fr hf)
          clear hf
          obtain ⟨c0, c1, c2, c3, c4⟩ := T2.out.c.cells
          dsimp only at c0 c1 c2 c3 c4
          go_wp2
          go_ret
          exact ⟨by rw [HR.out]; rfl, T2.out.f⟩
        · have HR : Hid (b = false) := by show _ = _; rw [HV.out]; simp [k0, o1]
          have e1 : (xo == 1) = false := by simp [o1]
          clear HV k0 o1
          go_enter Tryd.func20, Tryd.ntmps20
          go_wp2_with fail
          with_reducible refine (RG.out _).mono ?_
          rintro e2 w2 ⟨rfl, hf⟩
          have T2 := Lib.hid (TB.out.fr hf)
          clear hf
          obtain ⟨c0, c1, c2, c3, c4⟩ := T2.out.c.cells
          dsimp only at c0 c1 c2 c3 c4
          go_wp2
          go_ret
          exact ⟨by rw [HR.out]; rfl, T2.out.f⟩
      · have HR : Hid (b = false) := by show _ = _; rw [HV.out]; simp [k0, k1]
        clear HV k0
        have k1' : xk ≤ 0 := by omega
        clear k1
        go_enter Tryd.func20, Tryd.ntmps20
        go_wp2_with fail
        with_reducible refine (RG.out _).mono ?_
        rintro e2 w2 ⟨rfl, hf⟩
        have T2 := Lib.hid (TB.out.fr hf)
        clear hf
        obtain ⟨c0, c1, c2, c3, c4⟩ := T2.out.c.cells
        dsimp only at c0 c1 c2 c3 c4
        go_wp2
        go_ret
        exact ⟨by rw [HR.out]; rfl, T2.out.f⟩

/-- A house's and a car's boxes, behind them a car that is nothing. -/
structure HC1 (W : World) (h : Ho) (c : Ca) (a : World) : Prop where
  f : Fr W a []
  h : HB a W.heap.size h
  c : CB a (W.heap.size + 1) c
  r : CB a (W.heap.size + 2) zCa
theorem HC1.fr {W : World} {h : Ho} {c : Ca} {a a' : World} (q : HC1 W h c a) (k : Fr a a' []) : HC1 W h c a' := ⟨q.f.trans k, q.h.fr k, q.c.fr k (by simp), q.r.fr k (by simp)⟩
theorem HC1.new (w : World) (h : Ho) (c : Ca) : HC1 w h c (((w.alloc h.box).alloc c.box).alloc zCa.box) := by
  have q := HC.new w h c
  refine ⟨q.f.trans (Fr.alloc _ _ []), q.h.fr (Fr.alloc _ _ []), q.c.fr (Fr.alloc _ _ []) (by simp), ?_⟩
  have := CB.new ((w.alloc h.box).alloc c.box) zCa
  rwa [show ((w.alloc h.box).alloc c.box).heap.size = w.heap.size + 2 by simp] at this
/-- The car's box turned. -/
theorem HC1.turn {W : World} {h : Ho} {c x : Ca} {a a' : World} (q : HC1 W h c a) (k : Fr a a' [W.heap.size + 1]) (r : CB a' (W.heap.size + 1) x) : HC1 W h x a' :=
  ⟨q.f.new k (by simp), k.heap q.h (by simp), r, q.r.fr k (by simp)⟩
/-- The answer's box stored: what is left to show. -/
theorem HC1.ends {W : World} {h : Ho} {c : Ca} {a : World} (q : HC1 W h c a) (x : Ca) : Fr W (carSet a (W.heap.size + 2) x) [] ∧ CB (carSet a (W.heap.size + 2) x) (W.heap.size + 2) x :=
  ⟨q.f.new (carSet_fr a (W.heap.size + 2) x) (by simp), q.r.set x⟩

/-- Where the motor brings it. -/
def Ca.move (h : Ho) (c : Ca) (m : Int) : Ca := if h.has (c.x.p + sgn m) then ⟨⟨c.x.p + sgn m, c.x.e, c.x.o, c.x.r⟩, c.k⟩ else c
set_option maxHeartbeats 1000000 in
set_option maxRecDepth 100000 in
theorem move_any (h : Ho) (c : Ca) (m : Int) (h0 : -9223372036854775808 ≤ c.x.p) (h1 : c.x.p ≤ 9223372036854775807) (w : World) (x : Ca) (hx : x = c.move h m) :
    Calls Tryd.prog 42 #[h.v, c.v, .int .i64 m] w fun e w' => e = .returned x.v ∧ Fr w w' [] := by
  have TB := Lib.hid (HC1.new w h c)
  obtain ⟨b, eb⟩ : ∃ y, y = decide (h.has (c.x.p + sgn m)) := ⟨_, rfl⟩
  obtain ⟨r, er⟩ : ∃ y, y = if b = true then c.x.p + sgn m else 0 := ⟨_, rfl⟩
  have GO := Lib.hid (fun W => go_any h c.x.p m h0 h1 W b eb r er)
  cases b with
  | true =>
    have hx' : x = ⟨⟨r, c.x.e, c.x.o, c.x.r⟩, c.k⟩ := by rw [hx, Ca.move, if_pos (of_decide_eq_true eb.symm), er, if_pos rfl]
    clear hx eb er h0 h1
    subst hx'
    obtain ⟨hc, hf, hs, hd⟩ := h
    obtain ⟨⟨xp, xe, xo, xr⟩, xk⟩ := c
    dsimp only [Ho.v, Ho.box, Ca.v, Ca.box, zCa] at *
    go_enter Tryd.func42, Tryd.ntmps42
    go_wp2_with fail
    with_reducible refine (GO.out _).mono ?_
    rintro e2 w2 ⟨rfl, hf⟩
    have T2 := Lib.hid (TB.out.fr hf)
    have T3 := Lib.hid (T2.out.turn (Fr.setCell w2 (w.heap.size + 1) 0 (.int .i64 r) (by simp)) (T2.out.c.put0 r))
    obtain ⟨q1, q2⟩ := T3.out.ends ⟨⟨r, xe, xo, xr⟩, xk⟩
    have q1 := Lib.hid q1
    have q2 := Lib.hid q2
    clear hf TB GO
    obtain ⟨c0, c1, c2, c3, c4⟩ := T2.out.c.cells
    obtain ⟨r0, r1, r2, r3, r4⟩ := T2.out.r.cells
    have y0 := T2.out.r.fz 0
    have y1 := T2.out.r.fz 1
    have y2 := T2.out.r.fz 2
    have y3 := T2.out.r.fz 3
    have y4 := T2.out.r.fz 4
    have z0 := T2.out.c.fz 0
    dsimp only [zCa, carSet] at *
    go_wp2
    generalize World.setCell (World.setCell (World.setCell (World.setCell (World.setCell (World.setCell w2 _ _) _ _) _ _) _ _) _ _) _ _ = W at *
    obtain ⟨x0, x1, x2, x3, x4⟩ := q2.out.cells
    dsimp only at x0 x1 x2 x3 x4
    exact bodyPost_ret (v := .agg #[.int .i64 r, .int .i64 xe, .int .i64 xo, .bool xr, .int .i64 xk]) (by simp [results, Tryd.results42, go_sem, x0, x1, x2, x3, x4]) rfl ⟨rfl, q1.out⟩
  | false =>
    have hx' : x = c := by rw [hx, Ca.move, if_neg (of_decide_eq_false eb.symm)]
    clear hx eb er h0 h1
    subst hx'
    obtain ⟨hc, hf, hs, hd⟩ := h
    obtain ⟨⟨xp, xe, xo, xr⟩, xk⟩ := x
    dsimp only [Ho.v, Ho.box, Ca.v, Ca.box, zCa] at *
    go_enter Tryd.func42, Tryd.ntmps42
    go_wp2_with fail
    with_reducible refine (GO.out _).mono ?_
    rintro e2 w2 ⟨rfl, hf⟩
    have T2 := Lib.hid (TB.out.fr hf)
    obtain ⟨q1, q2⟩ := T2.out.ends ⟨⟨xp, xe, xo, xr⟩, xk⟩
    have q1 := Lib.hid q1
    have q2 := Lib.hid q2
    clear hf TB GO
    obtain ⟨c0, c1, c2, c3, c4⟩ := T2.out.c.cells
    obtain ⟨r0, r1, r2, r3, r4⟩ := T2.out.r.cells
    have y0 := T2.out.r.fz 0
    have y1 := T2.out.r.fz 1
    have y2 := T2.out.r.fz 2
    have y3 := T2.out.r.fz 3
    have y4 := T2.out.r.fz 4
    dsimp only [zCa, carSet] at *
    go_wp2
    generalize World.setCell (World.setCell (World.setCell (World.setCell (World.setCell w2 _ _) _ _) _ _) _ _) _ _ = W at *
    obtain ⟨x0, x1, x2, x3, x4⟩ := q2.out.cells
    dsimp only at x0 x1 x2 x3 x4
    exact bodyPost_ret (v := .agg #[.int .i64 xp, .int .i64 xe, .int .i64 xo, .bool xr, .int .i64 xk]) (by simp [results, Tryd.results42, go_sem, x0, x1, x2, x3, x4]) rfl ⟨rfl, q1.out⟩
end Go.Proofs.YtgcgbiaigbblkaaDoor
