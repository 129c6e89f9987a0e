/- A car that stands and stops. -/
import Derived.Test.YtgcgbiaigbblkaaDoorCar5
namespace Go.Proofs.YtgcgbiaigbblkaaDoor
open Go.RowKit

/-- What the deed's making reads: the plan's deed, the stops. -/
def D6 (W : World) (n : Nat) (s : Sp) (x : De) (a : World) : Prop :=
  (a.cell? ⟨n, 0, none⟩ = some (.bool x.stop) ∧ a.cell? ⟨n, 1, none⟩ = some (.int .i64 x.dir) ∧ a.cell? ⟨n, 2, none⟩ = some (.int .i64 x.move)) ∧
  a.cell? ⟨W.heap.size + 2, 0, none⟩ = some (.int .u64 s.c) ∧ a.cell? ⟨W.heap.size + 2, 1, none⟩ = some (.int .u64 s.u) ∧ a.cell? ⟨W.heap.size + 2, 2, none⟩ = some (.int .u64 s.d)
theorem SP.d6 {W : World} {n : Nat} {h : Ho} {c : Ca} {s : Sp} {x : De} {a : World} (q : SP W n h c s x a) : D6 W n s x a := ⟨arow q.x, arow q.q.s⟩
/-- Behind them the deed. -/
structure SM (W : World) (m : Nat) (h : Ho) (c : Ca) (s : Sp) (d : Dn) (a : World) : Prop where
  q : ST W h c s a
  d : NB a m d
  lo : W.heap.size + 4 < m
theorem SM.fr {W : World} {m : Nat} {h : Ho} {c : Ca} {s : Sp} {d : Dn} {a a' : World} (q : SM W m h c s d a) (f : Fr a a' []) : SM W m h c s d a' := ⟨q.q.fr f, q.d.fr f (by simp), q.lo⟩
/-- What the answer's making reads: the car, the house's last cell, the deed. -/
def D7 (W : World) (m : Nat) (hd : Int) (c : Ca) (d : Dn) (a : World) : Prop :=
  (a.cell? ⟨W.heap.size + 1, 0, none⟩ = some (.int .i64 c.x.p) ∧ a.cell? ⟨W.heap.size + 1, 1, none⟩ = some (.int .i64 c.x.e) ∧ a.cell? ⟨W.heap.size + 1, 2, none⟩ = some (.int .i64 c.x.o) ∧ a.cell? ⟨W.heap.size + 1, 3, none⟩ = some (.bool c.x.r) ∧ a.cell? ⟨W.heap.size + 1, 4, none⟩ = some (.int .i64 c.k)) ∧
  a.cell? ⟨W.heap.size, 3, none⟩ = some (.int .i64 hd) ∧
  a.cell? ⟨m, 0, none⟩ = some (.bool d.op) ∧ a.cell? ⟨m, 1, none⟩ = some (.bool d.cl) ∧ a.cell? ⟨m, 2, none⟩ = some (.int .i64 d.fl) ∧ a.cell? ⟨m, 3, none⟩ = some (.int .i64 d.la) ∧ a.cell? ⟨m, 4, none⟩ = some (.int .i64 d.mv) ∧
  a.cell? ⟨m, 5, none⟩ = some (.int .u64 d.st.c) ∧ a.cell? ⟨m, 6, none⟩ = some (.int .u64 d.st.u) ∧ a.cell? ⟨m, 7, none⟩ = some (.int .u64 d.st.d)
theorem d7_of {W : World} {m : Nat} {h : Ho} {c : Ca} {d : Dn} {a : World} (hh : HB a W.heap.size h) (hc : CB a (W.heap.size + 1) c) (hd : NB a m d) : D7 W m h.d c d a :=
  ⟨hc.cells, hh.cells.2.2.2, hd.cells.c0, hd.cells.c1, hd.cells.c2, hd.cells.c3, hd.cells.c4, hd.cells.c5, hd.cells.c6, hd.cells.c7⟩
theorem SM.d7 {W : World} {m : Nat} {h : Ho} {c : Ca} {s : Sp} {d : Dn} {a : World} (q : SM W m h c s d a) : D7 W m h.d c d a := d7_of q.q.h q.q.c q.d
theorem ST.far {W : World} {h : Ho} {c : Ca} {s : Sp} {a a' : World} {m : Nat} (q : ST W h c s a) (f : Fr a a' [m]) (hm : W.heap.size + 4 < m) : ST W h c s a' :=
  ⟨q.f.new f (by simp; omega), f.heap q.h (by simp; omega), q.c.fr f (by simp; omega), f.heap q.s (by simp; omega), q.r.fr f (by simp; omega), q.t.fr f (by simp; omega)⟩
theorem SP.far {W : World} {n : Nat} {h : Ho} {c : Ca} {s : Sp} {x : De} {a a' : World} {m : Nat} (q : SP W n h c s x a) (f : Fr a a' [m]) (hm : n < m) : SP W n h c s x a' :=
  ⟨q.q.far f (by have := q.lo; omega), f.heap q.x (by simp; omega), q.lo⟩
/-- The answer's boxes stored. -/
structure SE (W : World) (m : Nat) (h : Ho) (c x : Ca) (d y : Dn) (a : World) : Prop where
  f : Fr W a []
  h : HB a W.heap.size h
  c : CB a (W.heap.size + 1) c
  d : NB a m d
  r : CB a (W.heap.size + 3) x
  t : NB a (W.heap.size + 4) y
  lo : W.heap.size + 4 < m
theorem SM.se {W : World} {m : Nat} {h : Ho} {c : Ca} {s : Sp} {d : Dn} {a : World} (q : SM W m h c s d a) : SE W m h c zCa d zDn a := ⟨q.q.f, q.q.h, q.q.c, q.d, q.q.r, q.q.t, q.lo⟩
theorem SE.car {W : World} {m : Nat} {h : Ho} {c x : Ca} {d y : Dn} {a : World} (q : SE W m h c x d y a) (z : Ca) : SE W m h c z d y (carSet a (W.heap.size + 3) z) :=
  have f := carSet_fr a (W.heap.size + 3) z
  ⟨q.f.new f (by simp), f.heap q.h (by simp), q.c.fr f (by simp), q.d.fr f (by have := q.lo; simp; omega), q.r.set z, q.t.fr f (by simp), q.lo⟩
theorem SE.deed {W : World} {m : Nat} {h : Ho} {c x : Ca} {d y : Dn} {a : World} (q : SE W m h c x d y a) (z : Dn) : SE W m h c x d z (dnSet a (W.heap.size + 4) z) :=
  have f := dnSet_fr a (W.heap.size + 4) z
  ⟨q.f.new f (by simp), f.heap q.h (by simp), q.c.fr f (by simp), q.d.fr f (by have := q.lo; simp; omega), q.r.fr f (by simp), q.t.set z, q.lo⟩
theorem SE.d7 {W : World} {m : Nat} {h : Ho} {c x : Ca} {d y : Dn} {a : World} (q : SE W m h c x d y a) : D7 W m h.d c d a := d7_of q.h q.c q.d
theorem SE.fr {W : World} {m : Nat} {h : Ho} {c x : Ca} {d y : Dn} {a a' : World} (q : SE W m h c x d y a) (f : Fr a a' []) : SE W m h c x d y a' :=
  ⟨q.f.trans f, q.h.fr f, q.c.fr f (by simp), q.d.fr f (by simp), q.r.fr f (by simp), q.t.fr f (by simp), q.lo⟩
set_option maxHeartbeats 4000000 in
set_option maxRecDepth 100000 in
theorem stand_stop (h : Ho) (c : Ca) (s : Sp) (w : World) (ok : s.ok) (hT : Tz w) (hd : 1 ≤ h.d ∧ h.d ≤ 8) (q : Int) (hq : q = h.flr c.x.p) (hin : 0 ≤ q ∧ q < 64 ∧ -1 ≤ c.x.e ∧ c.x.e ≤ 1)
    (hs : s.stop q c.x.e = true) (e : Int) (he : e = s.head q c.x.e) (y : Ca) (hy : y = ⟨⟨c.x.p, e, h.d, false⟩, 0⟩) (r : Sp) (hr : r = doneS s s q e) :
    Calls Tryd.prog 30 #[h.v, c.v, s.v] w fun v w' => v = .returned (.tuple #[y.v, (Dn.mk true false 0 e 0 r).v]) ∧ Fr w w' [] := by
  have FL := Lib.hid (fun W => floor_any h c.x.p W q hq)
  have hde : (⟨true, e, 0⟩ : De) = s.deed q c.x.e := by rw [deed_in hin, hs, if_pos rfl, he]
  have PA := Lib.hid (fun W T => deed_any s q c.x.e W ok T ⟨true, e, 0⟩ hde)
  have SE := Lib.hid (fun W => served_any s q e W ok r hr)
  have OP := Lib.hid (fun W => open_any h.d W h.d (by omega))
  have WI := Lib.hid (fun W => withDoor_any (c.set e) h.d 0 W y hy)
  have TB := Lib.hid (ST.new w h c s)
  have HT := Lib.hid hT
  clear hq hin hs he hde hT ok hd hr
  subst hy
  obtain ⟨hc, hfl, hs, hd⟩ := h
  obtain ⟨⟨xp, xe, xo, xr⟩, xk⟩ := c
  obtain ⟨sp, su, sd⟩ := s
  obtain ⟨rc, ru, rd⟩ := r
  dsimp only [Ho.v, Ho.box, Ca.v, Ca.box, Sp.v, Sp.box, Dn.v, Dn.box, De.v, De.box, Ca.set, dv, zCa, zDn, zSp] at *
  simp only [show ((0 : Nat) : Int) = 0 from rfl] at *
  go_enter Tryd.func30, Tryd.ntmps30
  go_wp2_with fail
  with_reducible refine (FL.out _).mono ?_
  rintro v w1 ⟨rfl, hf⟩
  have T1 := Lib.hid (TB.out.fr hf)
  clear hf TB
  have Z1 := Lib.hid (HT.out.fr T1.out.f)
  obtain ⟨c0, c1, c2, c3, c4⟩ := T1.out.c.cells
  obtain ⟨s0, s1, s2⟩ := arow T1.out.s
  dsimp only at c0 c1 c2 c3 c4 s0 s1 s2
  go_wp2_with fail
  with_reducible refine (PA.out _ Z1.out).mono ?_
  rintro v w2 ⟨rfl, hf⟩
  have T2 := Lib.hid (SP.new (T1.out.fr hf) ⟨true, e, 0⟩)
  clear hf T1 Z1 c0 c1 c2 c3 c4 s0 s1 s2
  have T3 := Lib.hid (T2.out.turn (Fr.setCell _ (w.heap.size + 1) 1 (.int .i64 e) (by simp)) (T2.out.q.c.put1 e))
  have T4 := Lib.hid (T3.out.turn (Fr.setCell _ (w.heap.size + 1) 3 (.bool false) (by simp)) (T3.out.q.c.put3 false))
  obtain ⟨c0, c1, c2, c3, c4⟩ := T2.out.q.c.cells
  obtain ⟨d0, d1, d2, d3, d4⟩ := T3.out.q.c.cells
  obtain ⟨e0, e1, e2, e3, e4⟩ := T4.out.q.c.cells
  have z1 := T2.out.q.c.fz 1
  have z3 := T3.out.q.c.fz 3
  obtain ⟨x0, x1, x2⟩ := arow T2.out.x
  obtain ⟨y0, y1, y2⟩ := arow T4.out.x
  obtain ⟨i0, i1, i2, i3⟩ := T4.out.q.h.cells
  dsimp only [De.box] at *
  go_upto_region 6 with fail
  generalize World.setCell (World.setCell (World.alloc w2 _) _ _) _ _ = w3 at *
  clear T2 T3 c0 c1 c2 c3 c4 d0 d1 d2 d3 d4 e0 e1 e2 e3 e4 z1 z3 x0 x1 x2 y0 y1 y2 i0 i1 i2 i3
  go_cut [10] (fun s10 wx => ∃ m, s10 = .pointer (some ⟨m, 0, none⟩) ∧ Hid (SM w m ⟨hc, hfl, hs, hd⟩ ⟨⟨xp, e, xo, false⟩, xk⟩ ⟨sp, su, sd⟩ ⟨true, false, 0, e, 0, ⟨rc, ru, rd⟩⟩ wx))
  case first =>
    go_wp2_with fail
    refine wp_region_noPanic ?_
    refine wp_region_held_drew (S := (D6 w w2.heap.size ⟨sp, su, sd⟩ ⟨true, e, 0⟩)) (by kernel_rfl) (T4.out.fr (Fr.drew _ [])).d6 (fun hHeld => ?_)
    refine wpAnyH_take (i := 0) (oi := _) (v := ?fv0h1n2) (by simp only [List.getElem?_toArray, List.getElem?_cons_zero]; rfl) (by kernel_rfl) (by kernel_rfl) (by kernel_rfl) (fun _ _ _ h => h) (Or.inl ⟨by rfl, ?fy0h1n2⟩) (by assumption) ?fr0h1n2
    case fy0h1n2 => (intro w hSw; (try dsimp only [D6] at hSw); go_simp; try with_reducible rfl)
    try simp only [Act.put, List.setIfInBounds_toArray, List.set_cons_zero, List.set_cons_succ]
    refine wpAnyH_take (i := 1) (oi := _) (v := ?fv1h1n2) (by simp only [List.getElem?_toArray, List.getElem?_cons_zero, List.getElem?_cons_succ]; rfl) (by kernel_rfl) (by kernel_rfl) (by kernel_rfl) (fun _ _ _ h => h) (Or.inl ⟨by rfl, ?fy1h1n2⟩) (by assumption) ?fr1h1n2
    case fy1h1n2 => (intro w hSw; (try dsimp only [D6] at hSw); go_simp; try with_reducible rfl)
    try simp only [Act.put, List.setIfInBounds_toArray, List.set_cons_zero, List.set_cons_succ]
    refine wpAnyH_take (i := 2) (oi := _) (v := ?fv2h1n2) (by simp only [List.getElem?_toArray, List.getElem?_cons_zero, List.getElem?_cons_succ]; rfl) (by kernel_rfl) (by kernel_rfl) (by kernel_rfl) (fun _ _ _ h => h) (Or.inl ⟨by rfl, ?fy2h1n2⟩) (by assumption) ?fr2h1n2
    case fy2h1n2 => (intro w hSw; (try dsimp only [D6] at hSw); go_simp; try with_reducible rfl)
    try simp only [Act.put, List.setIfInBounds_toArray, List.set_cons_zero, List.set_cons_succ]
    refine wpAnyH_take (i := 3) (oi := _) (v := ?fv3h1n2) (by simp only [List.getElem?_toArray, List.getElem?_cons_zero, List.getElem?_cons_succ]; rfl) (by kernel_rfl) (by kernel_rfl) (by kernel_rfl) (fun _ _ _ h => h) (Or.inl ⟨by rfl, ?fy3h1n2⟩) (by assumption) ?fr3h1n2
    case fy3h1n2 => (intro w hSw; (try dsimp only [D6] at hSw); go_simp; try with_reducible rfl)
    try simp only [Act.put, List.setIfInBounds_toArray, List.set_cons_zero, List.set_cons_succ]
    refine wpAnyH_take (i := 4) (oi := _) (v := ?fv4h1n2) (by simp only [List.getElem?_toArray, List.getElem?_cons_zero, List.getElem?_cons_succ]; rfl) (by kernel_rfl) (by kernel_rfl) (by kernel_rfl) (fun _ _ _ h => h) (Or.inl ⟨by rfl, ?fy4h1n2⟩) (by assumption) ?fr4h1n2
    case fy4h1n2 => (intro w hSw; (try dsimp only [D6] at hSw); go_simp; try with_reducible rfl)
    try simp only [Act.put, List.setIfInBounds_toArray, List.set_cons_zero, List.set_cons_succ]
    refine wpAnyH_take (i := 5) (oi := _) (v := ?fv5h1n2) (by simp only [List.getElem?_toArray, List.getElem?_cons_zero, List.getElem?_cons_succ]; rfl) (by kernel_rfl) (by kernel_rfl) (by kernel_rfl) (fun _ _ _ h => h) (Or.inl ⟨by rfl, ?fy5h1n2⟩) (by assumption) ?fr5h1n2
    case fy5h1n2 => (intro w hSw; (try dsimp only [D6] at hSw); go_simp; try with_reducible rfl)
    try simp only [Act.put, List.setIfInBounds_toArray, List.set_cons_zero, List.set_cons_succ]
    refine wpAnyH_ready (rs := [6, 8]) (by kernel_rfl) (by simp) ?_
    refine AllReadyH.cons (o := _) rfl (fun K hK => ?_) ?_
    · go_simp
      ((with_reducible refine (SE.out _).mono ?_); rintro v w4 ⟨rfl, hf⟩; have T5 := Lib.hid (T4.out.fr ((Fr.drew _ []).trans hf)); clear hf)
      go_wp2_with fail
      refine hK.out _ _ T5.out.d6 (fun hHeld => ?_)
      clear hK K
      try simp only [Act.put, List.setIfInBounds_toArray, List.set_cons_zero, List.set_cons_succ]
      refine wpAnyH_take (i := 7) (oi := _) (v := ?fv7h1n3) (by simp only [List.getElem?_toArray, List.getElem?_cons_zero, List.getElem?_cons_succ]; rfl) (by kernel_rfl) (by kernel_rfl) (by kernel_rfl) (fun _ _ _ h => h) (Or.inl ⟨by rfl, ?fy7h1n3⟩) (by assumption) ?fr7h1n3
      case fy7h1n3 => (intro w hSw; (try dsimp only [D6] at hSw); go_simp; try with_reducible rfl)
      try simp only [Act.put, List.setIfInBounds_toArray, List.set_cons_zero, List.set_cons_succ]
      refine wpAnyH_ready (rs := [8]) (by kernel_rfl) (by simp) ?_
      refine AllReadyH.cons (o := _) rfl (fun K hK => ?_) AllReadyH.nil
      go_simp
      have T6 := Lib.hid (T5.out.fr (Fr.alloc w4 zDn.box []))
      refine hK.out _ _ T6.out.d6 (fun hHeld => ?_)
      clear hK K
      try simp only [Act.put, List.setIfInBounds_toArray, List.set_cons_zero, List.set_cons_succ]
      refine wpAnyH_ready (rs := [9]) (by kernel_rfl) (by simp) ?_
      refine AllReadyH.cons (o := _) rfl (fun K hK => ?_) AllReadyH.nil
      go_simp
      have T7 := Lib.hid (show SM w w4.heap.size _ _ _ ⟨true, false, 0, e, 0, ⟨rc, ru, rd⟩⟩ (w4.alloc (Dn.box ⟨true, false, 0, e, 0, ⟨rc, ru, rd⟩⟩)) from ⟨T5.out.q.fr (Fr.alloc _ _ []), NB.new _ _, size_of_row T5.out.q.t⟩)
      have T8 := T5.out.fr (Fr.alloc w4 (Dn.box ⟨true, false, 0, e, 0, ⟨rc, ru, rd⟩⟩) [])
      refine hK.out _ _ T8.d6 (fun hHeld => ?_)
      clear hK K
      try simp only [Act.put, List.setIfInBounds_toArray, List.set_cons_zero, List.set_cons_succ]
      refine wpAnyH_done (by kernel_rfl) ?_ _
      refine NoPanic.normal ?_
      clear hHeld T8
      go_wp2_with fail
      go_meet
      exact ⟨_, rfl, T7⟩
    refine AllReadyH.cons (o := _) rfl (fun K hK => ?_) AllReadyH.nil
    · go_simp
      have T5 := Lib.hid ((T4.out.fr (Fr.alloc w3 zDn.box [])).fr (Fr.drew _ []))
      have N5 := Lib.hid (show NB (w3.alloc zDn.box).drew w3.heap.size zDn from (NB.new w3 zDn).fr (Fr.drew _ []) (by simp))
      refine hK.out _ _ T5.out.d6 (fun hHeld => ?_)
      clear hK K
      try simp only [Act.put, List.setIfInBounds_toArray, List.set_cons_zero, List.set_cons_succ]
      refine wpAnyH_ready (rs := [6]) (by kernel_rfl) (by simp) ?_
      refine AllReadyH.cons (o := _) rfl (fun K hK => ?_) AllReadyH.nil
      go_simp
      ((with_reducible refine (SE.out _).mono ?_); rintro v w4 ⟨rfl, hf⟩; have T6 := Lib.hid (T5.out.fr hf); have N6 := Lib.hid (N5.out.fr hf (by simp)); clear hf)
      go_wp2_with fail
      refine hK.out _ _ T6.out.d6 (fun hHeld => ?_)
      clear hK K
      try simp only [Act.put, List.setIfInBounds_toArray, List.set_cons_zero, List.set_cons_succ]
      refine wpAnyH_take (i := 7) (oi := _) (v := ?fv7h1n4) (by simp only [List.getElem?_toArray, List.getElem?_cons_zero, List.getElem?_cons_succ]; rfl) (by kernel_rfl) (by kernel_rfl) (by kernel_rfl) (fun _ _ _ h => h) (Or.inl ⟨by rfl, ?fy7h1n4⟩) (by assumption) ?fr7h1n4
      case fy7h1n4 => (intro w hSw; (try dsimp only [D6] at hSw); go_simp; try with_reducible rfl)
      try simp only [Act.put, List.setIfInBounds_toArray, List.set_cons_zero, List.set_cons_succ]
      have f7 := dnSet_fr w4 w3.heap.size ⟨true, false, 0, e, 0, ⟨rc, ru, rd⟩⟩
      have L3 := Lib.hid (size_of_row T4.out.x)
      have T7 := Lib.hid (T6.out.far f7 L3.out)
      have N7 := Lib.hid (N6.out.set ⟨true, false, 0, e, 0, ⟨rc, ru, rd⟩⟩)
      obtain ⟨n0, n1, n2, n3, n4, n5, n6, n7⟩ := N6.out.cells
      have m0 := N6.out.fz 0
      have m1 := N6.out.fz 1
      have m2 := N6.out.fz 2
      have m3 := N6.out.fz 3
      have m4 := N6.out.fz 4
      have m5 := N6.out.fz 5
      have m6 := N6.out.fz 6
      have m7 := N6.out.fz 7
      dsimp only [zDn, zSp] at n0 n1 n2 n3 n4 n5 n6 n7
      simp only [show ((0 : Nat) : Int) = 0 from rfl] at n5 n6 n7
      refine wpAnyH_ready (rs := [9]) (by kernel_rfl) (by simp) ?_
      refine AllReadyH.cons (o := _) rfl (fun K hK => ?_) AllReadyH.nil
      go_simp
      refine hK.out _ _ T7.out.d6 (fun hHeld => ?_)
      clear hK K
      try simp only [Act.put, List.setIfInBounds_toArray, List.set_cons_zero, List.set_cons_succ]
      refine wpAnyH_done (by kernel_rfl) ?_ _
      refine NoPanic.normal ?_
      clear hHeld f7 n0 n1 n2 n3 n4 n5 n6 n7 m0 m1 m2 m3 m4 m5 m6 m7
      go_wp2_with fail
      go_meet
      exact ⟨_, rfl, Lib.hid ⟨T7.out.q, N7.out, by have := T4.out.lo; have := L3.out; omega⟩⟩
  case rest =>
    obtain ⟨m, rfl, T5⟩ := hcut
    clear T4 SE PA FL
    go_wp2_with fail
    refine wp_region_noPanic ?_
    refine wp_region_held_drew (S := (D7 w m hd ⟨⟨xp, e, xo, false⟩, xk⟩ ⟨true, false, 0, e, 0, ⟨rc, ru, rd⟩⟩)) (by kernel_rfl) (T5.out.fr (Fr.drew _ [])).d7 (fun hHeld => ?_)
    refine wpAnyH_take (i := 0) (oi := _) (v := ?fv0h5n6) (by simp only [List.getElem?_toArray, List.getElem?_cons_zero]; rfl) (by kernel_rfl) (by kernel_rfl) (by kernel_rfl) (fun _ _ _ h => h) (Or.inl ⟨by rfl, ?fy0h5n6⟩) (by assumption) ?fr0h5n6
    case fy0h5n6 => (intro w hSw; (try dsimp only [D7] at hSw); go_simp; try with_reducible rfl)
    try simp only [Act.put, List.setIfInBounds_toArray, List.set_cons_zero, List.set_cons_succ]
    refine wpAnyH_take (i := 1) (oi := _) (v := ?fv1h5n6) (by simp only [List.getElem?_toArray, List.getElem?_cons_zero, List.getElem?_cons_succ]; rfl) (by kernel_rfl) (by kernel_rfl) (by kernel_rfl) (fun _ _ _ h => h) (Or.inl ⟨by rfl, ?fy1h5n6⟩) (by assumption) ?fr1h5n6
    case fy1h5n6 => (intro w hSw; (try dsimp only [D7] at hSw); go_simp; try with_reducible rfl)
    try simp only [Act.put, List.setIfInBounds_toArray, List.set_cons_zero, List.set_cons_succ]
    refine wpAnyH_take (i := 2) (oi := _) (v := ?fv2h5n6) (by simp only [List.getElem?_toArray, List.getElem?_cons_zero, List.getElem?_cons_succ]; rfl) (by kernel_rfl) (by kernel_rfl) (by kernel_rfl) (fun _ _ _ h => h) (Or.inl ⟨by rfl, ?fy2h5n6⟩) (by assumption) ?fr2h5n6
    case fy2h5n6 => (intro w hSw; (try dsimp only [D7] at hSw); go_simp; try with_reducible rfl)
    try simp only [Act.put, List.setIfInBounds_toArray, List.set_cons_zero, List.set_cons_succ]
    refine wpAnyH_take (i := 5) (oi := _) (v := ?fv5h5n6) (by simp only [List.getElem?_toArray, List.getElem?_cons_zero, List.getElem?_cons_succ]; rfl) (by kernel_rfl) (by kernel_rfl) (by kernel_rfl) (fun _ _ _ h => h) (Or.inl ⟨by rfl, ?fy5h5n6⟩) (by assumption) ?fr5h5n6
    case fy5h5n6 => (intro w hSw; (try dsimp only [D7] at hSw); go_simp; try with_reducible rfl)
    try simp only [Act.put, List.setIfInBounds_toArray, List.set_cons_zero, List.set_cons_succ]
    refine wpAnyH_ready (rs := [3]) (by kernel_rfl) (by simp) ?_
    refine AllReadyH.cons (o := _) rfl (fun K hK => ?_) AllReadyH.nil
    go_simp
    ((with_reducible refine (OP.out _).mono ?_); rintro v w6 ⟨rfl, hf⟩; have T6 := Lib.hid (T5.out.se.fr ((Fr.drew _ []).trans hf)); clear hf)
    go_wp2_with fail
    refine hK.out _ _ T6.out.d7 (fun hHeld => ?_)
    clear hK K
    try simp only [Act.put, List.setIfInBounds_toArray, List.set_cons_zero, List.set_cons_succ]
    refine wpAnyH_ready (rs := [4]) (by kernel_rfl) (by simp) ?_
    refine AllReadyH.cons (o := _) rfl (fun K hK => ?_) AllReadyH.nil
    go_simp
    ((with_reducible refine (WI.out _).mono ?_); rintro v w7 ⟨rfl, hf⟩; have T7 := Lib.hid (T6.out.fr hf); clear hf)
    go_wp2_with fail
    refine hK.out _ _ T7.out.d7 (fun hHeld => ?_)
    clear hK K
    try simp only [Act.put, List.setIfInBounds_toArray, List.set_cons_zero, List.set_cons_succ]
    have T8 := Lib.hid (T7.out.car ⟨⟨xp, e, hd, false⟩, 0⟩)
    have T9 := Lib.hid (T8.out.deed ⟨true, false, 0, e, 0, ⟨rc, ru, rd⟩⟩)
    obtain ⟨r0, r1, r2, r3, r4⟩ := T7.out.r.cells
    have y0 := T7.out.r.fz 0
    have y1 := T7.out.r.fz 1
    have y2 := T7.out.r.fz 2
    have y3 := T7.out.r.fz 3
    have y4 := T7.out.r.fz 4
    obtain ⟨n0, n1, n2, n3, n4, n5, n6, n7⟩ := T7.out.t.cells
    have m0 := T7.out.t.fz 0
    have m1 := T7.out.t.fz 1
    have m2 := T7.out.t.fz 2
    have m3 := T7.out.t.fz 3
    have m4 := T7.out.t.fz 4
    have m5 := T7.out.t.fz 5
    have m6 := T7.out.t.fz 6
    have m7 := T7.out.t.fz 7
    dsimp only [zCa, zDn, zSp] at r0 r1 r2 r3 r4 n0 n1 n2 n3 n4 n5 n6 n7
    simp only [show ((0 : Nat) : Int) = 0 from rfl] at n5 n6 n7
    refine wpAnyH_ready (rs := [6]) (by kernel_rfl) (by simp) ?_
    refine AllReadyH.cons (o := _) rfl (fun K hK => ?_) AllReadyH.nil
    go_simp
    refine hK.out _ _ T8.out.d7 (fun hHeld => ?_)
    clear hK K
    try simp only [Act.put, List.setIfInBounds_toArray, List.set_cons_zero, List.set_cons_succ]
    refine wpAnyH_ready (rs := [7]) (by kernel_rfl) (by simp) ?_
    refine AllReadyH.cons (o := _) rfl (fun K hK => ?_) AllReadyH.nil
    go_simp
    refine hK.out _ _ T9.out.d7 (fun hHeld => ?_)
    clear hK K
    try simp only [Act.put, List.setIfInBounds_toArray, List.set_cons_zero, List.set_cons_succ]
    refine wpAnyH_done (by kernel_rfl) ?_ _
    refine NoPanic.normal ?_
    clear hHeld
    dsimp only [carSet, dnSet] at *
    go_wp2
    generalize World.setCell (World.setCell (World.setCell (World.setCell (World.setCell (World.setCell (World.setCell (World.setCell (World.setCell (World.setCell (World.setCell (World.setCell (World.setCell w7 _ _) _ _) _ _) _ _) _ _) _ _) _ _) _ _) _ _) _ _) _ _) _ _) _ _ = W at *
    obtain ⟨x0, x1, x2, x3, x4⟩ := T9.out.r.cells
    obtain ⟨n0, n1, n2, n3, n4, n5, n6, n7⟩ := T9.out.t.cells
    dsimp only at x0 x1 x2 x3 x4 n0 n1 n2 n3 n4 n5 n6 n7
    exact bodyPost_ret (v := .tuple #[.agg #[.int .i64 xp, .int .i64 e, .int .i64 hd, .bool false, .int .i64 0], .agg #[.bool true, .bool false, .int .i64 0, .int .i64 e, .int .i64 0, .int .u64 rc, .int .u64 ru, .int .u64 rd]]) (by simp [results, Tryd.results30, go_sem, x0, x1, x2, x3, x4, n0, n1, n2, n3, n4, n5, n6, n7]) rfl ⟨rfl, T9.out.f⟩
end Go.Proofs.YtgcgbiaigbblkaaDoor
