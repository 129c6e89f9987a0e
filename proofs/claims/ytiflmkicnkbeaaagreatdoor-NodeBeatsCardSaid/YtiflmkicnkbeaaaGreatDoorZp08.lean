import Derived.Test.YtiflmkicnkbeaaaGreatDoorZp02
import Derived.Test.YtiflmkicnkbeaaaGreatDoorZp07
import Derived.OpenShut
namespace Go.Proofs.YtiflmkicnkbeaaaGreatDoor
open Go.RowKit
def D6 (W : World) (n : Nat) (s : Sp) (x : De) (a : World) : Prop :=
 (a.cell? ⟨n, 0, none⟩ = some (.bool x.stop) ∧ a.cell? ⟨n, 1, none⟩ = some (.int .i64 x.dir) ∧ a.cell? ⟨n, 2, none⟩ = some (.int .i64 x.move)) ∧
 a.cell? ⟨W.heap.size + 2, 0, none⟩ = some (.int .u64 s.c) ∧ a.cell? ⟨W.heap.size + 2, 1, none⟩ = some (.int .u64 s.u) ∧ a.cell? ⟨W.heap.size + 2, 2, none⟩ = some (.int .u64 s.d)
theorem SP.d6 {W : World} {n : Nat} {h : Ho} {c : Ca} {s : Sp} {x : De} {a : World} (q : SP W n h c s x a) : D6 W n s x a := ⟨arow q.x, arow q.q.s⟩
structure SM (W : World) (m : Nat) (h : Ho) (c : Ca) (s : Sp) (d : Dn) (a : World) : Prop where
 q : ST W h c s a
 d : NB a m d
 lo : W.heap.size + 4 < m
theorem SM.fr {W : World} {m : Nat} {h : Ho} {c : Ca} {s : Sp} {d : Dn} {a a' : World} (q : SM W m h c s d a) (f : Fr a a' []) : SM W m h c s d a' := ⟨q.q.fr f, q.d.fr f (by simp), q.lo⟩
def D7 (W : World) (m : Nat) (hd : Int) (c : Ca) (d : Dn) (a : World) : Prop :=
 (a.cell? ⟨W.heap.size + 1, 0, none⟩ = some (.int .i64 c.x.p) ∧ a.cell? ⟨W.heap.size + 1, 1, none⟩ = some (.int .i64 c.x.e) ∧ a.cell? ⟨W.heap.size + 1, 2, none⟩ = some (.int .i64 c.x.o) ∧ a.cell? ⟨W.heap.size + 1, 3, none⟩ = some (.bool c.x.r) ∧ a.cell? ⟨W.heap.size + 1, 4, none⟩ = some (.int .i64 c.k)) ∧
 a.cell? ⟨W.heap.size, 3, none⟩ = some (.int .i64 hd) ∧
 a.cell? ⟨m, 0, none⟩ = some (.bool d.op) ∧ a.cell? ⟨m, 1, none⟩ = some (.bool d.cl) ∧ a.cell? ⟨m, 2, none⟩ = some (.int .i64 d.fl) ∧ a.cell? ⟨m, 3, none⟩ = some (.int .i64 d.la) ∧ a.cell? ⟨m, 4, none⟩ = some (.int .i64 d.mv) ∧
 a.cell? ⟨m, 5, none⟩ = some (.int .u64 d.st.c) ∧ a.cell? ⟨m, 6, none⟩ = some (.int .u64 d.st.u) ∧ a.cell? ⟨m, 7, none⟩ = some (.int .u64 d.st.d)
theorem d7_of {W : World} {m : Nat} {h : Ho} {c : Ca} {d : Dn} {a : World} (hh : HBh a W.heap.size h) (hc : CB a (W.heap.size + 1) c) (hd : NB a m d) : D7 W m h.d c d a :=
 ⟨hc.cells, hh.cells.2.2.2, hd.cells.c0, hd.cells.c1, hd.cells.c2, hd.cells.c3, hd.cells.c4, hd.cells.c5, hd.cells.c6, hd.cells.c7⟩
theorem SM.d7 {W : World} {m : Nat} {h : Ho} {c : Ca} {s : Sp} {d : Dn} {a : World} (q : SM W m h c s d a) : D7 W m h.d c d a := d7_of q.q.h q.q.c q.d
theorem ST.far {W : World} {h : Ho} {c : Ca} {s : Sp} {a a' : World} {m : Nat} (q : ST W h c s a) (f : Fr a a' [m]) (hm : W.heap.size + 4 < m) : ST W h c s a' :=
 ⟨q.f.new f (by simp; omega), f.heap q.h (by simp; omega), q.c.fr f (by simp; omega), f.heap q.s (by simp; omega), q.r.fr f (by simp; omega), q.t.fr f (by simp; omega)⟩
theorem SP.far {W : World} {n : Nat} {h : Ho} {c : Ca} {s : Sp} {x : De} {a a' : World} {m : Nat} (q : SP W n h c s x a) (f : Fr a a' [m]) (hm : n < m) : SP W n h c s x a' :=
 ⟨q.q.far f (by have := q.lo; omega), f.heap q.x (by simp; omega), q.lo⟩
structure SE (W : World) (m : Nat) (h : Ho) (c x : Ca) (d y : Dn) (a : World) : Prop where
 f : Fr W a []
 h : HBh a W.heap.size h
 c : CB a (W.heap.size + 1) c
 d : NB a m d
 r : CB a (W.heap.size + 3) x
 t : NB a (W.heap.size + 4) y
 lo : W.heap.size + 4 < m
theorem SM.se {W : World} {m : Nat} {h : Ho} {c : Ca} {s : Sp} {d : Dn} {a : World} (q : SM W m h c s d a) : SE W m h c zCa d zDn a := ⟨q.q.f, q.q.h, q.q.c, q.d, q.q.r, q.q.t, q.lo⟩
theorem SE.car {W : World} {m : Nat} {h : Ho} {c x : Ca} {d y : Dn} {a : World} (q : SE W m h c x d y a) (z : Ca) : SE W m h c z d y (carSet a (W.heap.size + 3) z) :=
 have f := carSet_fr a (W.heap.size + 3) z
 ⟨q.f.new f (by simp), f.heap q.h (by simp), q.c.fr f (by simp), q.d.fr f (by have := q.lo; simp; omega), q.r.set z, q.t.fr f (by simp), q.lo⟩
theorem SE.deed {W : World} {m : Nat} {h : Ho} {c x : Ca} {d y : Dn} {a : World} (q : SE W m h c x d y a) (z : Dn) : SE W m h c x d z (dnSet a (W.heap.size + 4) z) :=
 have f := dnSet_fr a (W.heap.size + 4) z
 ⟨q.f.new f (by simp), f.heap q.h (by simp), q.c.fr f (by simp), q.d.fr f (by have := q.lo; simp; omega), q.r.fr f (by simp), q.t.set z, q.lo⟩
theorem SE.d7 {W : World} {m : Nat} {h : Ho} {c x : Ca} {d y : Dn} {a : World} (q : SE W m h c x d y a) : D7 W m h.d c d a := d7_of q.h q.c q.d
theorem SE.fr {W : World} {m : Nat} {h : Ho} {c x : Ca} {d y : Dn} {a a' : World} (q : SE W m h c x d y a) (f : Fr a a' []) : SE W m h c x d y a' :=
 ⟨q.f.trans f, q.h.fr f, q.c.fr f (by simp), q.d.fr f (by simp), q.r.fr f (by simp), q.t.fr f (by simp), q.lo⟩
set_option maxHeartbeats 4000000 in
set_option maxRecDepth 100000 in
theorem stand_stop (h : Ho) (c : Ca) (s : Sp) (w : World) (ok : s.ok) (hT : Tz w) (hd : 1 ≤ h.d ∧ h.d ≤ 8) (q : Int) (hq : q = h.flr c.x.p) (hin : 0 ≤ q ∧ q < 64 ∧ -1 ≤ c.x.e ∧ c.x.e ≤ 1)
 (hs : s.stop q c.x.e = true) (e : Int) (he : e = s.head q c.x.e) (y : Ca) (hy : y = ⟨⟨c.x.p, e, h.d, false⟩, 0⟩) (r : Sp) (hr : r = doneS s s q e) :
 Calls Tryz.prog 199 #[h.v, c.v, s.v] w fun v w' => v = .returned (.tuple #[y.v, (Dn.mk true false 0 e 0 r).v]) ∧ Fr w w' [] := by
 have FL := Lib.hid (fun W => floor_any h c.x.p W q hq)
 have hde : (⟨true, e, 0⟩ : De) = s.deed q c.x.e := by rw [deed_in hin, hs, if_pos rfl, he]
 have PA := Lib.hid (fun W T => deed_any s q c.x.e W ok T ⟨true, e, 0⟩ hde)
 have SE := Lib.hid (fun W => served_any s q e W ok r hr)
 have OP := Lib.hid (fun W => dopen_any h.d W h.d (by omega))
 have WI := Lib.hid (fun W => withDoor_any (c.set e) h.d 0 W y hy)
 have TB := Lib.hid (ST.new w h c s)
 have HT := Lib.hid hT
 clear hq hin hs he hde hT ok hd hr
 subst hy
 obtain ⟨hc, hfl, hs, hd⟩ := h
 obtain ⟨⟨xp, xe, xo, xr⟩, xk⟩ := c
 obtain ⟨sp, su, sd⟩ := s
 obtain ⟨rc, ru, rd⟩ := r
 dsimp only [Ho.v, Ho.box, Ca.v, Ca.box, Sp.v, Sp.box, Dn.v, Dn.box, De.v, De.box, Ca.set, dv, zCa, zDn, zSp] at *
 simp only [show ((0 : Nat) : Int) = 0 from rfl] at *
 go_enter Tryz.func199, Tryz.ntmps199
 go_wp2_with fail
 with_reducible refine (FL.out _).mono ?_
 rintro v w1 ⟨rfl, hf⟩
 have T1 := Lib.hid (TB.out.fr hf)
 clear hf TB
 have Z1 := Lib.hid (HT.out.fr T1.out.f)
 obtain ⟨c0, c1, c2, c3, c4⟩ := T1.out.c.cells
 obtain ⟨s0, s1, s2⟩ := arow T1.out.s
 dsimp only at c0 c1 c2 c3 c4 s0 s1 s2
 go_wp2_with fail
 with_reducible refine (PA.out _ Z1.out).mono ?_
 rintro v w2 ⟨rfl, hf⟩
 have T2 := Lib.hid (SP.new (T1.out.fr hf) ⟨true, e, 0⟩)
 clear hf T1 Z1 c0 c1 c2 c3 c4 s0 s1 s2
 have T3 := Lib.hid (T2.out.turn (Fr.setCell _ (w.heap.size + 1) 1 (.int .i64 e) (by simp)) (T2.out.q.c.put1 e))
 have T4 := Lib.hid (T3.out.turn (Fr.setCell _ (w.heap.size + 1) 3 (.bool false) (by simp)) (T3.out.q.c.put3 false))
 obtain ⟨c0, c1, c2, c3, c4⟩ := T2.out.q.c.cells
 obtain ⟨d0, d1, d2, d3, d4⟩ := T3.out.q.c.cells
 obtain ⟨e0, e1, e2, e3, e4⟩ := T4.out.q.c.cells
 have z1 := T2.out.q.c.fz 1
 have z3 := T3.out.q.c.fz 3
 obtain ⟨x0, x1, x2⟩ := arow T2.out.x
 obtain ⟨y0, y1, y2⟩ := arow T4.out.x
 obtain ⟨i0, i1, i2, i3⟩ := T4.out.q.h.cells
 dsimp only [De.box] at *
 go_upto_region 6 with fail
 generalize World.setCell (World.setCell (World.alloc w2 _) _ _) _ _ = w3 at *
 clear T2 T3 c0 c1 c2 c3 c4 d0 d1 d2 d3 d4 e0 e1 e2 e3 e4 z1 z3 x0 x1 x2 y0 y1 y2 i0 i1 i2 i3
 go_cut [10] (fun s10 wx => ∃ m, s10 = .pointer (some ⟨m, 0, none⟩) ∧ Hid (SM w m ⟨hc, hfl, hs, hd⟩ ⟨⟨xp, e, xo, false⟩, xk⟩ ⟨sp, su, sd⟩ ⟨true, false, 0, e, 0, ⟨rc, ru, rd⟩⟩ wx))
 case first =>
  go_wp2_with fail
  refine wp_region_noPanic ?_
  refine wp_region_held_drew (S := (D6 w w2.heap.size ⟨sp, su, sd⟩ ⟨true, e, 0⟩)) (by kernel_rfl) (T4.out.fr (Fr.drew _ [])).d6 (fun hHeld => ?_)
  refine zHU fun hU => ?_
  try dsimp only [D6] at hU
  refine zH 0 ?_
  refine zH 1 ?_
  refine zH 2 ?_
  refine zH 3 ?_
  refine zH 4 ?_
  refine zH 5 ?_
  refine wpAnyH_ready (rs := [6, 8]) (by kernel_rfl) (by simp) ?_
  refine AllReadyH.cons (o := _) rfl (fun K hK => ?_) ?_
  · go_simp
    ((with_reducible refine (SE.out _).mono ?_); rintro v w4 ⟨rfl, hf⟩; have T5 := Lib.hid (T4.out.fr ((Fr.drew _ []).trans hf)); clear hf)
    go_wp2_with fail
    refine hK.out _ _ T5.out.d6 (fun hHeld => ?_)
    clear hK K
    try simp only [Act.put, List.setIfInBounds_toArray, List.set_cons_zero, List.set_cons_succ]
    refine zH 7 ?_
    refine wpAnyH_ready (rs := [8]) (by kernel_rfl) (by simp) ?_
    refine AllReadyH.cons (o := _) rfl (fun K hK => ?_) AllReadyH.nil
    go_simp
    have T6 := Lib.hid (T5.out.fr (Fr.alloc w4 zDn.box []))
    refine hK.out _ _ T6.out.d6 (fun hHeld => ?_)
    clear hK K
    try simp only [Act.put, List.setIfInBounds_toArray, List.set_cons_zero, List.set_cons_succ]
    refine wpAnyH_ready (rs := [9]) (by kernel_rfl) (by simp) ?_
    refine AllReadyH.cons (o := _) rfl (fun K hK => ?_) AllReadyH.nil
    go_simp
    have T7 := Lib.hid (show SM w w4.heap.size _ _ _ ⟨true, false, 0, e, 0, ⟨rc, ru, rd⟩⟩ (w4.alloc (Dn.box ⟨true, false, 0, e, 0, ⟨rc, ru, rd⟩⟩)) from ⟨T5.out.q.fr (Fr.alloc _ _ []), NB.new _ _, size_of_row T5.out.q.t⟩)
    have T8 := T5.out.fr (Fr.alloc w4 (Dn.box ⟨true, false, 0, e, 0, ⟨rc, ru, rd⟩⟩) [])
    refine hK.out _ _ T8.d6 (fun hHeld => ?_)
    clear hK K
    try simp only [Act.put, List.setIfInBounds_toArray, List.set_cons_zero, List.set_cons_succ]
    refine wpAnyH_done (by kernel_rfl) ?_ _
    refine NoPanic.normal ?_
    clear hHeld T8
    go_wp2_with fail
    go_meet
    exact ⟨_, rfl, T7⟩
  refine AllReadyH.cons (o := _) rfl (fun K hK => ?_) AllReadyH.nil
  · go_simp
    have T5 := Lib.hid ((T4.out.fr (Fr.alloc w3 zDn.box [])).fr (Fr.drew _ []))
    have N5 := Lib.hid (show NB (w3.alloc zDn.box).drew w3.heap.size zDn from (NB.new w3 zDn).fr (Fr.drew _ []) (by simp))
    refine hK.out _ _ T5.out.d6 (fun hHeld => ?_)
    clear hK K
    try simp only [Act.put, List.setIfInBounds_toArray, List.set_cons_zero, List.set_cons_succ]
    refine wpAnyH_ready (rs := [6]) (by kernel_rfl) (by simp) ?_
    refine AllReadyH.cons (o := _) rfl (fun K hK => ?_) AllReadyH.nil
    go_simp
    ((with_reducible refine (SE.out _).mono ?_); rintro v w4 ⟨rfl, hf⟩; have T6 := Lib.hid (T5.out.fr hf); have N6 := Lib.hid (N5.out.fr hf (by simp)); clear hf)
    go_wp2_with fail
    refine hK.out _ _ T6.out.d6 (fun hHeld => ?_)
    clear hK K
    try simp only [Act.put, List.setIfInBounds_toArray, List.set_cons_zero, List.set_cons_succ]
    refine zH 7 ?_
    have f7 := dnSet_fr w4 w3.heap.size ⟨true, false, 0, e, 0, ⟨rc, ru, rd⟩⟩
    have L3 := Lib.hid (size_of_row T4.out.x)
    have T7 := Lib.hid (T6.out.far f7 L3.out)
    have N7 := Lib.hid (N6.out.set ⟨true, false, 0, e, 0, ⟨rc, ru, rd⟩⟩)
    obtain ⟨n0, n1, n2, n3, n4, n5, n6, n7⟩ := N6.out.cells
    have m0 := N6.out.fz 0
    have m1 := N6.out.fz 1
    have m2 := N6.out.fz 2
    have m3 := N6.out.fz 3
    have m4 := N6.out.fz 4
    have m5 := N6.out.fz 5
    have m6 := N6.out.fz 6
    have m7 := N6.out.fz 7
    dsimp only [zDn, zSp] at n0 n1 n2 n3 n4 n5 n6 n7
    simp only [show ((0 : Nat) : Int) = 0 from rfl] at n5 n6 n7
    refine wpAnyH_ready (rs := [9]) (by kernel_rfl) (by simp) ?_
    refine AllReadyH.cons (o := _) rfl (fun K hK => ?_) AllReadyH.nil
    go_simp
    refine hK.out _ _ T7.out.d6 (fun hHeld => ?_)
    clear hK K
    try simp only [Act.put, List.setIfInBounds_toArray, List.set_cons_zero, List.set_cons_succ]
    refine wpAnyH_done (by kernel_rfl) ?_ _
    refine NoPanic.normal ?_
    clear hHeld f7 n0 n1 n2 n3 n4 n5 n6 n7 m0 m1 m2 m3 m4 m5 m6 m7
    go_wp2_with fail
    go_meet
    exact ⟨_, rfl, Lib.hid ⟨T7.out.q, N7.out, by have := T4.out.lo; have := L3.out; omega⟩⟩
 case rest =>
  obtain ⟨m, rfl, T5⟩ := hcut
  clear T4 SE PA FL
  go_wp2_with fail
  refine wp_region_noPanic ?_
  refine wp_region_held_drew (S := (D7 w m hd ⟨⟨xp, e, xo, false⟩, xk⟩ ⟨true, false, 0, e, 0, ⟨rc, ru, rd⟩⟩)) (by kernel_rfl) (T5.out.fr (Fr.drew _ [])).d7 (fun hHeld => ?_)
  refine zHU fun hU => ?_
  try dsimp only [D7] at hU
  refine zH 0 ?_
  refine zH 1 ?_
  refine zH 2 ?_
  refine zH 5 ?_
  refine wpAnyH_ready (rs := [3]) (by kernel_rfl) (by simp) ?_
  refine AllReadyH.cons (o := _) rfl (fun K hK => ?_) AllReadyH.nil
  go_simp
  ((with_reducible refine (OP.out _).mono ?_); rintro v w6 ⟨rfl, hf⟩; have T6 := Lib.hid (T5.out.se.fr ((Fr.drew _ []).trans hf)); clear hf)
  go_wp2_with fail
  refine hK.out _ _ T6.out.d7 (fun hHeld => ?_)
  clear hK K
  try simp only [Act.put, List.setIfInBounds_toArray, List.set_cons_zero, List.set_cons_succ]
  refine wpAnyH_ready (rs := [4]) (by kernel_rfl) (by simp) ?_
  refine AllReadyH.cons (o := _) rfl (fun K hK => ?_) AllReadyH.nil
  go_simp
  ((with_reducible refine (WI.out _).mono ?_); rintro v w7 ⟨rfl, hf⟩; have T7 := Lib.hid (T6.out.fr hf); clear hf)
  go_wp2_with fail
  refine hK.out _ _ T7.out.d7 (fun hHeld => ?_)
  clear hK K
  try simp only [Act.put, List.setIfInBounds_toArray, List.set_cons_zero, List.set_cons_succ]
  have T8 := Lib.hid (T7.out.car ⟨⟨xp, e, hd, false⟩, 0⟩)
  have T9 := Lib.hid (T8.out.deed ⟨true, false, 0, e, 0, ⟨rc, ru, rd⟩⟩)
  obtain ⟨r0, r1, r2, r3, r4⟩ := T7.out.r.cells
  have y0 := T7.out.r.fz 0
  have y1 := T7.out.r.fz 1
  have y2 := T7.out.r.fz 2
  have y3 := T7.out.r.fz 3
  have y4 := T7.out.r.fz 4
  obtain ⟨n0, n1, n2, n3, n4, n5, n6, n7⟩ := T7.out.t.cells
  have m0 := T7.out.t.fz 0
  have m1 := T7.out.t.fz 1
  have m2 := T7.out.t.fz 2
  have m3 := T7.out.t.fz 3
  have m4 := T7.out.t.fz 4
  have m5 := T7.out.t.fz 5
  have m6 := T7.out.t.fz 6
  have m7 := T7.out.t.fz 7
  dsimp only [zCa, zDn, zSp] at r0 r1 r2 r3 r4 n0 n1 n2 n3 n4 n5 n6 n7
  simp only [show ((0 : Nat) : Int) = 0 from rfl] at n5 n6 n7
  refine wpAnyH_ready (rs := [6]) (by kernel_rfl) (by simp) ?_
  refine AllReadyH.cons (o := _) rfl (fun K hK => ?_) AllReadyH.nil
  go_simp
  refine hK.out _ _ T8.out.d7 (fun hHeld => ?_)
  clear hK K
  try simp only [Act.put, List.setIfInBounds_toArray, List.set_cons_zero, List.set_cons_succ]
  refine wpAnyH_ready (rs := [7]) (by kernel_rfl) (by simp) ?_
  refine AllReadyH.cons (o := _) rfl (fun K hK => ?_) AllReadyH.nil
  go_simp
  refine hK.out _ _ T9.out.d7 (fun hHeld => ?_)
  clear hK K
  try simp only [Act.put, List.setIfInBounds_toArray, List.set_cons_zero, List.set_cons_succ]
  refine wpAnyH_done (by kernel_rfl) ?_ _
  refine NoPanic.normal ?_
  clear hHeld
  dsimp only [carSet, dnSet] at *
  go_wp2
  generalize World.setCell (World.setCell (World.setCell (World.setCell (World.setCell (World.setCell (World.setCell (World.setCell (World.setCell (World.setCell (World.setCell (World.setCell (World.setCell w7 _ _) _ _) _ _) _ _) _ _) _ _) _ _) _ _) _ _) _ _) _ _) _ _) _ _ = W at *
  obtain ⟨x0, x1, x2, x3, x4⟩ := T9.out.r.cells
  obtain ⟨n0, n1, n2, n3, n4, n5, n6, n7⟩ := T9.out.t.cells
  dsimp only at x0 x1 x2 x3 x4 n0 n1 n2 n3 n4 n5 n6 n7
  exact bodyPost_ret (v := .tuple #[.agg #[.int .i64 xp, .int .i64 e, .int .i64 hd, .bool false, .int .i64 0], .agg #[.bool true, .bool false, .int .i64 0, .int .i64 e, .int .i64 0, .int .u64 rc, .int .u64 ru, .int .u64 rd]]) (by simp [results, Tryz.results199, go_sem, x0, x1, x2, x3, x4, n0, n1, n2, n3, n4, n5, n6, n7]) rfl ⟨rfl, T9.out.f⟩
end Go.Proofs.YtiflmkicnkbeaaaGreatDoor
namespace Go.Proofs.YtiflmkicnkbeaaaGreatDoor
open Go.RowKit
def Ca.pre (h : Ho) (c : Ca) (s : Sp) (ob : Bool) : Ca × Dn :=
 if 0 < c.x.o then (⟨⟨c.x.p, c.x.e, tickL c.x.o ob, c.x.r⟩, heldK c.x.o c.k ob⟩, ⟨false, tickB c.x.o ob, 0, 0, 0, zSp⟩)
 else if h.lev c.x.p then
  if (h.fit s).stop (h.flr c.x.p) c.x.e = true then
   (⟨⟨c.x.p, (h.fit s).head (h.flr c.x.p) c.x.e, h.d, false⟩, 0⟩, ⟨true, false, 0, (h.fit s).head (h.flr c.x.p) c.x.e, 0, doneS (h.fit s) (h.fit s) (h.flr c.x.p) ((h.fit s).head (h.flr c.x.p) c.x.e)⟩)
  else (Ca.move h (c.set ((h.fit s).head (h.flr c.x.p) c.x.e)) ((h.fit s).head (h.flr c.x.p) c.x.e), zDn)
 else (c.ride h, zDn)
theorem move_in {h : Ho} {c : Ca} {m : Int} (k : h.has (c.x.p + m)) (hm : m = 0 ∨ m = 1 ∨ m = -1) : c.move h m = ⟨⟨c.x.p + m, c.x.e, c.x.o, c.x.r⟩, c.k⟩ := by
 rw [Ca.move, sgn_small (by omega) (by omega), if_pos k]
theorem has_in {h : Ho} (k : h.ok) {p : Int} (p0 : 0 ≤ p) (p1 : p ≤ h.top) : h.has p := ⟨k, p0, p1⟩
theorem tick_pre {h : Ho} {c : Ca} (R : RightIs h c) {s : Sp} (ok : s.ok) (ob : Bool) :
 c.tick h s ob = ((c.pre h s ob).1, ⟨(c.pre h s ob).2.op, (c.pre h s ob).2.cl, h.flr (c.pre h s ob).1.x.p, (c.pre h s ob).2.la, (c.pre h s ob).1.x.p - c.x.p, (c.pre h s ob).2.st⟩) := by
 have hk : 0 < c.x.o ∨ c.k = 0 := by
  have := R.held
  omega
 by_cases g : 0 < c.x.o
 · rw [tick_open R g, Ca.pre, if_pos g]
   simp
 · have ck := hk.resolve_left g
   have o0 : c.x.o = 0 := by have := R.o0; omega
   by_cases l : h.lev c.x.p
   · obtain ⟨q0, q1, _⟩ := flr_facts R.ok R.p0 R.p1
     cases k : (h.fit s).stop (h.flr c.x.p) c.x.e with
     | true =>
       rw [tick_stop R g l ob k, Ca.pre, if_neg g, if_pos l, if_pos k]
       have e : hasB s.c (h.flr c.x.p) = hasB (h.fit s).c (h.flr c.x.p) := by rw [fit_car R.ok, decide_eq_true q1, Bool.and_true]
       simp [doneS, e]
     | false =>
       have rm := go_room R l ok k
       rw [tick_go R g l ob k, Ca.pre, if_neg g, if_pos l, if_neg (by rw [k]; simp)]
       have hf := R.ok.2.1.2
       have K := (head_is (fit_ok h ok) q0 (show h.flr c.x.p < 64 by omega) (small_dir R.e0 R.e1)).small
       generalize (h.fit s).head (h.flr c.x.p) c.x.e = e at *
       rw [move_in (h := h) (c := c.set e) (m := e) (has_in R.ok rm.1 rm.2) K]
       simp only [Ca.set, zDn, o0, ck, Prod.mk.injEq, Dn.mk.injEq, true_and, and_true]
       omega
   · have w := way_is R l
     have b := btw_room R l
     have hin : h.has (c.x.p + c.way) := has_in R.ok (by omega) (by omega)
     have RI : c.ride h = if h.lev (c.x.p + c.way) ∧ c.x.r = true then ⟨⟨c.x.p + c.way, 0, 0, false⟩, 0⟩ else ⟨⟨c.x.p + c.way, c.way, 0, c.x.r⟩, 0⟩ := by
      unfold Ca.ride
      by_cases r : c.x.r = true
      · have ew : c.way = -1 := if_pos r
        rw [ew] at hin ⊢
        have m := move_in (h := h) (c := ⟨⟨c.x.p, -1, c.x.o, c.x.r⟩, c.k⟩) (m := -1) hin (by omega)
        rw [if_pos r, m]
        dsimp only
        by_cases lv : h.lev (c.x.p + -1)
        · rw [if_pos lv, if_pos ⟨lv, r⟩, o0, ck]
        · rw [if_neg lv, if_neg (fun q => lv q.1), o0, ck]
      · have ew : c.way = c.x.e := if_neg r
        rw [ew] at hin w ⊢
        rw [if_neg r, if_neg (fun q => r q.2), move_in hin (by omega), o0, ck]
     by_cases k : h.lev (c.x.p + c.way) ∧ c.x.r = true
     · rw [if_pos k] at RI
       rw [tick_relev R g l s ob k, Ca.pre, if_neg g, if_neg l, RI]
       simp only [zDn, Prod.mk.injEq, Dn.mk.injEq, true_and, and_true]
       omega
     · rw [if_neg k] at RI
       rw [tick_on R g l s ob k, Ca.pre, if_neg g, if_neg l, RI]
       simp only [zDn, Prod.mk.injEq, Dn.mk.injEq, true_and, and_true]
       omega
structure TK (W : World) (n : Nat) (h : Ho) (c : Ca) (s : Sp) (x : Ca) (d : Dn) (a : World) : Prop where
 q : ST W h c s a
 x : CB a n x
 d : NB a (n + 1) d
 lo : W.heap.size + 4 < n
theorem TK.fr {W : World} {n : Nat} {h : Ho} {c : Ca} {s : Sp} {x : Ca} {d : Dn} {a a' : World} (q : TK W n h c s x d a) (f : Fr a a' []) : TK W n h c s x d a' := ⟨q.q.fr f, q.x.fr f (by simp), q.d.fr f (by simp), q.lo⟩
theorem TK.new {W : World} {h : Ho} {c : Ca} {s : Sp} {a : World} (q : ST W h c s a) (x : Ca) (d : Dn) : TK W a.heap.size h c s x d ((a.alloc x.box).alloc d.box) := by
 have n2 := NB.new (a.alloc x.box) d
 rw [show (a.alloc x.box).heap.size = a.heap.size + 1 by simp] at n2
 exact ⟨(q.fr (Fr.alloc _ _ [])).fr (Fr.alloc _ _ []), (CB.new a x).fr (Fr.alloc _ _ []) (by simp), n2, size_of_row q.t⟩
theorem TK.car {W : World} {n : Nat} {h : Ho} {c : Ca} {s : Sp} {x : Ca} {d : Dn} {a : World} (q : TK W n h c s x d a) (z : Ca) : TK W n h c s z d (carSet a n z) :=
 ⟨q.q.far (carSet_fr a n z) q.lo, q.x.set z, q.d.fr (carSet_fr a n z) (by simp), q.lo⟩
theorem TK.deed {W : World} {n : Nat} {h : Ho} {c : Ca} {s : Sp} {x : Ca} {d : Dn} {a : World} (q : TK W n h c s x d a) (z : Dn) : TK W n h c s x z (dnSet a (n + 1) z) :=
 ⟨q.q.far (dnSet_fr a (n + 1) z) (by have := q.lo; omega), q.x.fr (dnSet_fr a (n + 1) z) (by simp), q.d.set z, q.lo⟩
theorem TK.cell {W : World} {n : Nat} {h : Ho} {c : Ca} {s : Sp} {x : Ca} {d : Dn} {a : World} (q : TK W n h c s x d a) (i : Nat) (v : Value) (z : Dn) (e : z.box = (.cells (#[.bool d.op, .bool d.cl, .int .i64 d.fl, .int .i64 d.la, .int .i64 d.mv, .int .u64 d.st.c, .int .u64 d.st.u, .int .u64 d.st.d].setIfInBounds i v) 216 (0, 0))) : TK W n h c s x z (a.setCell ⟨n + 1, i, none⟩ v) :=
 ⟨q.q.far (Fr.setCell a (n + 1) i v (S := [n + 1]) (by simp)) (by have := q.lo; omega), q.x.fr (Fr.setCell a (n + 1) i v (S := [n + 1]) (by simp)) (by simp), q.d.put i v z e, q.lo⟩
set_option maxHeartbeats 4000000 in
set_option maxRecDepth 100000 in
theorem ctick_wrong (h : Ho) (c : Ca) (s : Sp) (ob : Bool) (w : World) (R : c.right h = false) :
 Calls Tryz.prog 124 #[h.v, c.v, s.v, .bool ob] w fun v w' => v = .returned (.tuple #[c.v, zDn.v]) ∧ Fr w w' [] := by
 have RG := Lib.hid (fun W => cright_any h c W false R.symm)
 have TB := Lib.hid (ST.new w h c s)
 clear R
 obtain ⟨hc, hfl, hs, hd⟩ := h
 obtain ⟨⟨xp, xe, xo, xr⟩, xk⟩ := c
 obtain ⟨sp, su, sd⟩ := s
 dsimp only [Ho.v, Ho.box, Ca.v, Ca.box, Sp.v, Sp.box, Dn.v, Dn.box, zCa, zDn, zSp] at *
 simp only [show ((0 : Nat) : Int) = 0 from rfl] at *
 go_enter Tryz.func124, Tryz.ntmps124
 go_wp2_with fail
 with_reducible refine (RG.out _).mono ?_
 rintro v w1 ⟨rfl, hf⟩
 have T5 := Lib.hid (TB.out.fr hf)
 clear hf TB RG
 have q1 := Lib.hid ((T5.out.f.new (carSet_fr _ (w.heap.size + 3) ⟨⟨xp, xe, xo, xr⟩, xk⟩) (by simp)).new (dnSet_fr _ (w.heap.size + 4) zDn) (by simp))
 have k2 := Lib.hid (T5.out.r.set ⟨⟨xp, xe, xo, xr⟩, xk⟩)
 have q2 := Lib.hid (k2.out.fr (dnSet_fr _ (w.heap.size + 4) zDn) (by simp))
 have k3 := Lib.hid (T5.out.t.fr (carSet_fr w1 (w.heap.size + 3) ⟨⟨xp, xe, xo, xr⟩, xk⟩) (by simp))
 have q3 := Lib.hid (k3.out.set zDn)
 obtain ⟨c0, c1, c2, c3, c4⟩ := T5.out.c.cells
 obtain ⟨r0, r1, r2, r3, r4⟩ := T5.out.r.cells
 have y0 := T5.out.r.fz 0
 have y1 := T5.out.r.fz 1
 have y2 := T5.out.r.fz 2
 have y3 := T5.out.r.fz 3
 have y4 := T5.out.r.fz 4
 obtain ⟨n0, n1, n2, n3, n4, n5, n6, n7⟩ := T5.out.t.cells
 have m0 := T5.out.t.fz 0
 have m1 := T5.out.t.fz 1
 have m2 := T5.out.t.fz 2
 have m3 := T5.out.t.fz 3
 have m4 := T5.out.t.fz 4
 have m5 := T5.out.t.fz 5
 have m6 := T5.out.t.fz 6
 have m7 := T5.out.t.fz 7
 dsimp only [zCa, zDn, zSp, carSet, dnSet] at *
 simp only [show ((0 : Nat) : Int) = 0 from rfl] at q3 n5 n6 n7
 go_wp2
 generalize World.setCell (World.setCell (World.setCell (World.setCell (World.setCell (World.setCell (World.setCell (World.setCell (World.setCell (World.setCell (World.setCell (World.setCell (World.setCell w1 _ _) _ _) _ _) _ _) _ _) _ _) _ _) _ _) _ _) _ _) _ _) _ _) _ _ = W at *
 obtain ⟨x0, x1, x2, x3, x4⟩ := q2.out.cells
 obtain ⟨n0, n1, n2, n3, n4, n5, n6, n7⟩ := q3.out.cells
 dsimp only at x0 x1 x2 x3 x4 n0 n1 n2 n3 n4 n5 n6 n7
 simp only [show ((0 : Nat) : Int) = 0 from rfl] at n5 n6 n7
 exact bodyPost_ret (v := .tuple #[.agg #[.int .i64 xp, .int .i64 xe, .int .i64 xo, .bool xr, .int .i64 xk], .agg #[.bool false, .bool false, .int .i64 0, .int .i64 0, .int .i64 0, .int .u64 0, .int .u64 0, .int .u64 0]]) (by simp [results, Tryz.results124, go_sem, x0, x1, x2, x3, x4, n0, n1, n2, n3, n4, n5, n6, n7]) rfl ⟨rfl, q1.out⟩
end Go.Proofs.YtiflmkicnkbeaaaGreatDoor
namespace Go.Proofs.YtiflmkicnkbeaaaGreatDoor
open Go.RowKit
def D8 (W : World) (h : Ho) (c : Ca) (s : Sp) (a : World) : Prop :=
 (a.cell? ⟨W.heap.size, 0, none⟩ = some (.int .i64 h.c) ∧ a.cell? ⟨W.heap.size, 1, none⟩ = some (.int .i64 h.f) ∧ a.cell? ⟨W.heap.size, 2, none⟩ = some (.int .i64 h.s) ∧ a.cell? ⟨W.heap.size, 3, none⟩ = some (.int .i64 h.d)) ∧
 (a.cell? ⟨W.heap.size + 1, 0, none⟩ = some (.int .i64 c.x.p) ∧ a.cell? ⟨W.heap.size + 1, 1, none⟩ = some (.int .i64 c.x.e) ∧ a.cell? ⟨W.heap.size + 1, 2, none⟩ = some (.int .i64 c.x.o) ∧ a.cell? ⟨W.heap.size + 1, 3, none⟩ = some (.bool c.x.r) ∧ a.cell? ⟨W.heap.size + 1, 4, none⟩ = some (.int .i64 c.k)) ∧
 a.cell? ⟨W.heap.size + 2, 0, none⟩ = some (.int .u64 s.c) ∧ a.cell? ⟨W.heap.size + 2, 1, none⟩ = some (.int .u64 s.u) ∧ a.cell? ⟨W.heap.size + 2, 2, none⟩ = some (.int .u64 s.d)
theorem ST.d8 {W : World} {h : Ho} {c : Ca} {s : Sp} {a : World} (q : ST W h c s a) : D8 W h c s a := ⟨q.h.cells, q.c.cells, arow q.s⟩
def D11 (n : Nat) (x : Ca) (d : Dn) (a : World) : Prop :=
 (a.cell? ⟨n, 0, none⟩ = some (.int .i64 x.x.p) ∧ a.cell? ⟨n, 1, none⟩ = some (.int .i64 x.x.e) ∧ a.cell? ⟨n, 2, none⟩ = some (.int .i64 x.x.o) ∧ a.cell? ⟨n, 3, none⟩ = some (.bool x.x.r) ∧ a.cell? ⟨n, 4, none⟩ = some (.int .i64 x.k)) ∧
 a.cell? ⟨n + 1, 0, none⟩ = some (.bool d.op) ∧ a.cell? ⟨n + 1, 1, none⟩ = some (.bool d.cl) ∧ a.cell? ⟨n + 1, 2, none⟩ = some (.int .i64 d.fl) ∧ a.cell? ⟨n + 1, 3, none⟩ = some (.int .i64 d.la) ∧ a.cell? ⟨n + 1, 4, none⟩ = some (.int .i64 d.mv) ∧
 a.cell? ⟨n + 1, 5, none⟩ = some (.int .u64 d.st.c) ∧ a.cell? ⟨n + 1, 6, none⟩ = some (.int .u64 d.st.u) ∧ a.cell? ⟨n + 1, 7, none⟩ = some (.int .u64 d.st.d)
structure TE (W : World) (n : Nat) (x : Ca) (d : Dn) (y : Ca) (e : Dn) (a : World) : Prop where
 f : Fr W a []
 x : CB a n x
 d : NB a (n + 1) d
 r : CB a (W.heap.size + 3) y
 t : NB a (W.heap.size + 4) e
 lo : W.heap.size + 4 < n
theorem TK.te {W : World} {n : Nat} {h : Ho} {c : Ca} {s : Sp} {x : Ca} {d : Dn} {a : World} (q : TK W n h c s x d a) : TE W n x d zCa zDn a := ⟨q.q.f, q.x, q.d, q.q.r, q.q.t, q.lo⟩
theorem TE.fr {W : World} {n : Nat} {x y : Ca} {d e : Dn} {a a' : World} (q : TE W n x d y e a) (f : Fr a a' []) : TE W n x d y e a' := ⟨q.f.trans f, q.x.fr f (by simp), q.d.fr f (by simp), q.r.fr f (by simp), q.t.fr f (by simp), q.lo⟩
theorem TE.car {W : World} {n : Nat} {x y : Ca} {d e : Dn} {a : World} (q : TE W n x d y e a) (z : Ca) : TE W n x d z e (carSet a (W.heap.size + 3) z) :=
 have f := carSet_fr a (W.heap.size + 3) z
 ⟨q.f.new f (by simp), q.x.fr f (by have := q.lo; simp; omega), q.d.fr f (by have := q.lo; simp; omega), q.r.set z, q.t.fr f (by simp), q.lo⟩
theorem TE.deed {W : World} {n : Nat} {x y : Ca} {d e : Dn} {a : World} (q : TE W n x d y e a) (z : Dn) : TE W n x d y z (dnSet a (W.heap.size + 4) z) :=
 have f := dnSet_fr a (W.heap.size + 4) z
 ⟨q.f.new f (by simp), q.x.fr f (by have := q.lo; simp; omega), q.d.fr f (by have := q.lo; simp; omega), q.r.fr f (by simp), q.t.set z, q.lo⟩
theorem TE.d11 {W : World} {n : Nat} {x y : Ca} {d e : Dn} {a : World} (q : TE W n x d y e a) : D11 n x d a := ⟨q.x.cells, q.d.cells.c0, q.d.cells.c1, q.d.cells.c2, q.d.cells.c3, q.d.cells.c4, q.d.cells.c5, q.d.cells.c6, q.d.cells.c7⟩
set_option maxHeartbeats 8000000 in
set_option maxRecDepth 100000 in
theorem ctick_right (h : Ho) (c : Ca) (s : Sp) (ob : Bool) (w : World) (ok : s.ok) (hT : Tz w) (hk : c.k ≤ 9223372036854775807) (R : RightIs h c) (x : Ca) (d : Dn) (hx : c.tick h s ob = (x, d)) :
 Calls Tryz.prog 124 #[h.v, c.v, s.v, .bool ob] w fun v w' => v = .returned (.tuple #[x.v, d.v]) ∧ Fr w w' [] := by
 have RX : RightIs h x := by
  have := R.tick ok ob
  rwa [hx] at this
 have HW : IntKind.i64.wrap (x.x.p - c.x.p) = x.x.p - c.x.p := IntWalk.i64_in _ (by have := RX.p0; have := RX.p1; have := R.p0; have := R.p1; have := Ho.range R.ok; omega)
 have hx0 := hx
 rw [tick_pre R ok ob] at hx
 obtain ⟨e, he⟩ : ∃ e, e = (c.pre h s ob).2 := ⟨_, rfl⟩
 have hy : x = (c.pre h s ob).1 := (congrArg Prod.fst hx).symm
 have hd : d = ⟨e.op, e.cl, h.flr x.x.p, e.la, x.x.p - c.x.p, e.st⟩ := by
  have q : d = _ := (congrArg Prod.snd hx).symm
  rw [q, he, hy]
 have hz : e.fl = 0 ∧ e.mv = 0 := by
  rw [he]
  unfold Ca.pre
  split
  · exact ⟨rfl, rfl⟩
  · split
    · split <;> exact ⟨rfl, rfl⟩
    · exact ⟨rfl, rfl⟩
 have FL := Lib.hid (fun W => floor_any h x.x.p W _ rfl)
 have RG := Lib.hid (fun W => cright_any h c W true ((right_iff h c).2 R).symm)
 have DO := Lib.hid (fun W => doorOf_any c W)
 have FI := Lib.hid (fun W => fit_any h s W R.ok ok _ rfl)
 have HD : Hid ((0 < c.x.o ∧ ∃ b, e = ⟨false, b, 0, 0, 0, zSp⟩ ∧ ∀ W, Calls Tryz.prog 198 #[c.v, .bool ob] W fun v w' => v = .returned (.tuple #[x.v, .bool b]) ∧ Fr W w' []) ∨
  (¬ 0 < c.x.o ∧ h.lev c.x.p ∧ ∀ W, Tz W → Calls Tryz.prog 199 #[h.v, c.v, (h.fit s).v] W fun v w' => v = .returned (.tuple #[x.v, e.v]) ∧ Fr W w' []) ∨
  (¬ 0 < c.x.o ∧ ¬ h.lev c.x.p ∧ e = zDn ∧ ∀ W, Calls Tryz.prog 201 #[h.v, c.v] W fun v w' => v = .returned x.v ∧ Fr W w' [])) := by
  refine Lib.hid ?_
  have hr := Ho.range R.ok
  have p0 := R.p0
  have p1 := R.p1
  unfold Ca.pre at he hy
  by_cases g : 0 < c.x.o
  · rw [if_pos g] at he hy
    refine .inl ⟨g, _, he, fun W => wait_any c ob W (by have := R.held; omega) hk (by have := R.o1; have := R.ok.2.2.2.2; omega) x hy _ rfl⟩
  · rw [if_neg g] at he hy
    by_cases l : h.lev c.x.p
    · rw [if_pos l] at he hy
      obtain ⟨q0, q1, _⟩ := flr_facts R.ok R.p0 R.p1
      have hf := R.ok.2.1.2
      refine .inr (.inl ⟨g, l, fun W T => ?_⟩)
      have hin : 0 ≤ h.flr c.x.p ∧ h.flr c.x.p < 64 ∧ -1 ≤ c.x.e ∧ c.x.e ≤ 1 := ⟨q0, by omega, R.e0, R.e1⟩
      cases k : (h.fit s).stop (h.flr c.x.p) c.x.e with
      | true =>
        rw [if_pos k] at he hy
        rw [he]
        exact stand_stop h c (h.fit s) W (fit_ok h ok) T R.ok.2.2.2 _ rfl hin k _ rfl x hy _ rfl
      | false =>
        rw [if_neg (by rw [k]; simp)] at he hy
        rw [he]
        exact stand_go h c (h.fit s) W (fit_ok h ok) T (by omega) (by omega) _ rfl hin k x hy
    · rw [if_neg l] at he hy
      exact .inr (.inr ⟨g, l, he, fun W => ride_any h c (by omega) (by omega) W x hy⟩)
 have TB := Lib.hid (ST.new w h c s)
 have HT := Lib.hid hT
 obtain ⟨fl, hfl⟩ : ∃ fl, fl = h.flr x.x.p := ⟨_, rfl⟩
 rw [← hfl] at FL hd
 obtain ⟨bl, hbl⟩ : ∃ bl, bl = decide (h.lev c.x.p) := ⟨_, rfl⟩
 have LV := Lib.hid (fun W => level_any h c.x.p W bl hbl)
 obtain ⟨t, ht⟩ : ∃ t, t = h.fit s := ⟨_, rfl⟩
 rw [← ht] at FI HD
 have HBh := Lib.hid hbl
 clear hfl hbl ht hx hx0 RX R hk ok he hy hT
 subst hd
 obtain ⟨hc, hfl, hs, hd⟩ := h
 obtain ⟨⟨xp, xe, xo, xr⟩, xk⟩ := c
 obtain ⟨sp, su, sd⟩ := s
 obtain ⟨⟨yp, ye, yo, yr⟩, yk⟩ := x
 obtain ⟨eo, ec, ef, ea, em, ⟨sc, sv, sw⟩⟩ := e
 obtain ⟨tc, tu, td⟩ := t
 obtain ⟨rfl, rfl⟩ : ef = 0 ∧ em = 0 := hz
 dsimp only [Ho.v, Ho.box, Ca.v, Ca.box, Sp.v, Sp.box, Dn.v, Dn.box, dv, zCa, zDn, zSp] at *
 simp only [show ((0 : Nat) : Int) = 0 from rfl] at TB
 go_enter Tryz.func124, Tryz.ntmps124
 go_wp2_with fail
 with_reducible refine (RG.out _).mono ?_
 rintro v w1 ⟨rfl, hf⟩
 have T1 := Lib.hid (TB.out.fr hf)
 clear hf TB RG
 have T2 := Lib.hid (TK.new T1.out ⟨⟨xp, xe, xo, xr⟩, xk⟩ zDn)
 obtain ⟨c0, c1, c2, c3, c4⟩ := T1.out.c.cells
 dsimp only at c0 c1 c2 c3 c4
 go_upto_block 0 with fail
 dsimp only [Ca.box, Dn.box, zDn, zSp] at T2
 simp only [show ((0 : Nat) : Int) = 0 from rfl] at T2
 generalize World.alloc (World.alloc w1 _) _ = w2 at *
 clear T1 c0 c1 c2 c3 c4
 go_cut [] (fun wx => Hid (TK w w1.heap.size ⟨hc, hfl, hs, hd⟩ ⟨⟨xp, xe, xo, xr⟩, xk⟩ ⟨sp, su, sd⟩ ⟨⟨yp, ye, yo, yr⟩, yk⟩ ⟨eo, ec, 0, ea, 0, ⟨sc, sv, sw⟩⟩ wx))
 case first =>
  rcases HD.out with ⟨g, b, he, WT⟩ | ⟨g, l, SG⟩ | ⟨g, l, he, RI⟩
  · have WT := Lib.hid WT
    simp only [Dn.mk.injEq, Sp.mk.injEq] at he
    obtain ⟨rfl, rfl, _, rfl, _, rfl, rfl, rfl⟩ := he
    have IS := Lib.hid (fun W => dis_any xo xk W true (decide_eq_true g).symm)
    dsimp only [dv] at IS
    clear g HBh LV FI FL HW HD
    obtain ⟨c0, c1, c2, c3, c4⟩ := T2.out.q.c.cells
    dsimp only at c0 c1 c2 c3 c4
    go_wp2_with fail
    with_reducible refine (DO.out _).mono ?_
    rintro v w3 ⟨rfl, hf⟩
    have T3 := Lib.hid (T2.out.fr hf)
    clear hf
    go_wp2_with fail
    with_reducible refine (IS.out _).mono ?_
    rintro v w4 ⟨rfl, hf⟩
    have T4 := Lib.hid (T3.out.fr hf)
    clear hf c0 c1 c2 c3 c4 T3 T2
    obtain ⟨c0, c1, c2, c3, c4⟩ := T4.out.q.c.cells
    obtain ⟨i0, i1, i2, i3⟩ := T4.out.q.h.cells
    dsimp only at c0 c1 c2 c3 c4 i0 i1 i2 i3
    go_wp2_with fail
    with_reducible refine (WT.out _).mono ?_
    rintro v w5 ⟨rfl, hf⟩
    have T5 := Lib.hid (T4.out.fr hf)
    clear hf c0 c1 c2 c3 c4 i0 i1 i2 i3 T4
    have T6 := Lib.hid (T5.out.car ⟨⟨yp, ye, yo, yr⟩, yk⟩)
    have T7 := Lib.hid (T6.out.cell 1 (.bool ec) ⟨false, ec, 0, 0, 0, zSp⟩ rfl)
    obtain ⟨r0, r1, r2, r3, r4⟩ := T5.out.x.cells
    have y0 := T5.out.x.fz 0
    have y1 := T5.out.x.fz 1
    have y2 := T5.out.x.fz 2
    have y3 := T5.out.x.fz 3
    have y4 := T5.out.x.fz 4
    obtain ⟨n0, n1, n2, n3, n4, n5, n6, n7⟩ := T5.out.d.cells
    have m0 := T5.out.d.fz 0
    have m1 := T5.out.d.fz 1
    have m2 := T5.out.d.fz 2
    have m3 := T5.out.d.fz 3
    have m4 := T5.out.d.fz 4
    have m5 := T5.out.d.fz 5
    have m6 := T5.out.d.fz 6
    have m7 := T5.out.d.fz 7
    dsimp only [zDn, zSp, carSet] at *
    simp only [show ((0 : Nat) : Int) = 0 from rfl] at n5 n6 n7
    go_wp2_with fail
    go_meet
    exact T7
  · have SG := Lib.hid SG
    have hb : bl = true := by rw [HBh.out]; exact decide_eq_true l
    subst hb
    have IS := Lib.hid (fun W => dis_any xo xk W false (decide_eq_false (show ¬ 0 < xo by omega)).symm)
    dsimp only [dv] at IS
    clear g l HBh FL HW HD
    obtain ⟨c0, c1, c2, c3, c4⟩ := T2.out.q.c.cells
    dsimp only at c0 c1 c2 c3 c4
    go_wp2_with fail
    with_reducible refine (DO.out _).mono ?_
    rintro v w3 ⟨rfl, hf⟩
    have T3 := Lib.hid (T2.out.fr hf)
    clear hf
    go_wp2_with fail
    with_reducible refine (IS.out _).mono ?_
    rintro v w4 ⟨rfl, hf⟩
    have T4 := Lib.hid (T3.out.fr hf)
    clear hf c0 c1 c2 c3 c4 T3 T2
    obtain ⟨c0, c1, c2, c3, c4⟩ := T4.out.q.c.cells
    obtain ⟨i0, i1, i2, i3⟩ := T4.out.q.h.cells
    dsimp only at c0 c1 c2 c3 c4 i0 i1 i2 i3
    go_wp2_with fail
    with_reducible refine (LV.out _).mono ?_
    rintro v w5 ⟨rfl, hf⟩
    have T5 := Lib.hid (T4.out.fr hf)
    clear hf c0 c1 c2 c3 c4 i0 i1 i2 i3 T4 LV DO IS
    go_wp2_with fail
    refine wp_region_noPanic ?_
    refine wp_region_held_drew (S := (D8 w ⟨hc, hfl, hs, hd⟩ ⟨⟨xp, xe, xo, xr⟩, xk⟩ ⟨sp, su, sd⟩)) (by kernel_rfl) (T5.out.fr (Fr.drew _ [])).q.d8 (fun hHeld => ?_)
    refine zHU fun hU => ?_
    try dsimp only [D8] at hU
    refine zH 0 ?_
    refine zH 1 ?_
    refine zH 2 ?_
    refine zH 3 ?_
    refine wpAnyH_ready (rs := [4]) (by kernel_rfl) (by simp) ?_
    refine AllReadyH.cons (o := _) rfl (fun K hK => ?_) AllReadyH.nil
    go_simp
    ((with_reducible refine (FI.out _).mono ?_); rintro v w6 ⟨rfl, hf⟩; have T6 := Lib.hid (T5.out.fr ((Fr.drew _ []).trans hf)); clear hf)
    go_wp2_with fail
    refine hK.out _ _ T6.out.q.d8 (fun hHeld => ?_)
    clear hK K
    try simp only [Act.put, List.setIfInBounds_toArray, List.set_cons_zero, List.set_cons_succ]
    refine wpAnyH_ready (rs := [5]) (by kernel_rfl) (by simp) ?_
    refine AllReadyH.cons (o := _) rfl (fun K hK => ?_) AllReadyH.nil
    go_simp
    ((with_reducible refine (SG.out _ (HT.out.fr T6.out.q.f)).mono ?_); rintro v w7 ⟨rfl, hf⟩; have T7 := Lib.hid (T6.out.fr hf); clear hf)
    go_wp2_with fail
    refine hK.out _ _ T7.out.q.d8 (fun hHeld => ?_)
    clear hK K
    try simp only [Act.put, List.setIfInBounds_toArray, List.set_cons_zero, List.set_cons_succ]
    refine zH 6 ?_
    refine zH 7 ?_
    refine zH 8 ?_
    have T8 := Lib.hid (T7.out.car ⟨⟨yp, ye, yo, yr⟩, yk⟩)
    have T9 := Lib.hid (T8.out.deed ⟨eo, ec, 0, ea, 0, ⟨sc, sv, sw⟩⟩)
    obtain ⟨r0, r1, r2, r3, r4⟩ := T7.out.x.cells
    have y0 := T7.out.x.fz 0
    have y1 := T7.out.x.fz 1
    have y2 := T7.out.x.fz 2
    have y3 := T7.out.x.fz 3
    have y4 := T7.out.x.fz 4
    obtain ⟨n0, n1, n2, n3, n4, n5, n6, n7⟩ := T7.out.d.cells
    have m0 := T7.out.d.fz 0
    have m1 := T7.out.d.fz 1
    have m2 := T7.out.d.fz 2
    have m3 := T7.out.d.fz 3
    have m4 := T7.out.d.fz 4
    have m5 := T7.out.d.fz 5
    have m6 := T7.out.d.fz 6
    have m7 := T7.out.d.fz 7
    dsimp only [zDn, zSp] at r0 r1 r2 r3 r4 n0 n1 n2 n3 n4 n5 n6 n7
    simp only [show ((0 : Nat) : Int) = 0 from rfl] at n5 n6 n7
    refine wpAnyH_ready (rs := [9]) (by kernel_rfl) (by simp) ?_
    refine AllReadyH.cons (o := _) rfl (fun K hK => ?_) AllReadyH.nil
    go_simp
    refine hK.out _ _ T8.out.q.d8 (fun hHeld => ?_)
    clear hK K
    try simp only [Act.put, List.setIfInBounds_toArray, List.set_cons_zero, List.set_cons_succ]
    refine wpAnyH_ready (rs := [10]) (by kernel_rfl) (by simp) ?_
    refine AllReadyH.cons (o := _) rfl (fun K hK => ?_) AllReadyH.nil
    go_simp
    refine hK.out _ _ T9.out.q.d8 (fun hHeld => ?_)
    clear hK K
    try simp only [Act.put, List.setIfInBounds_toArray, List.set_cons_zero, List.set_cons_succ]
    refine wpAnyH_done (by kernel_rfl) ?_ _
    refine NoPanic.normal ?_
    clear hHeld
    dsimp only [carSet, dnSet] at *
    go_wp2_with fail
    go_meet
    exact T9
  · have RI := Lib.hid RI
    have hb : bl = false := by rw [HBh.out]; exact decide_eq_false l
    subst hb
    simp only [Dn.mk.injEq, Sp.mk.injEq] at he
    obtain ⟨rfl, rfl, _, rfl, _, rfl, rfl, rfl⟩ := he
    have IS := Lib.hid (fun W => dis_any xo xk W false (decide_eq_false (show ¬ 0 < xo by omega)).symm)
    dsimp only [dv] at IS
    clear g l HBh FI FL HW HD
    obtain ⟨c0, c1, c2, c3, c4⟩ := T2.out.q.c.cells
    dsimp only at c0 c1 c2 c3 c4
    go_wp2_with fail
    with_reducible refine (DO.out _).mono ?_
    rintro v w3 ⟨rfl, hf⟩
    have T3 := Lib.hid (T2.out.fr hf)
    clear hf
    go_wp2_with fail
    with_reducible refine (IS.out _).mono ?_
    rintro v w4 ⟨rfl, hf⟩
    have T4 := Lib.hid (T3.out.fr hf)
    clear hf c0 c1 c2 c3 c4 T3 T2
    obtain ⟨c0, c1, c2, c3, c4⟩ := T4.out.q.c.cells
    obtain ⟨i0, i1, i2, i3⟩ := T4.out.q.h.cells
    dsimp only at c0 c1 c2 c3 c4 i0 i1 i2 i3
    go_wp2_with fail
    with_reducible refine (LV.out _).mono ?_
    rintro v w5 ⟨rfl, hf⟩
    have T5 := Lib.hid (T4.out.fr hf)
    clear hf c0 c1 c2 c3 c4 i0 i1 i2 i3 T4 LV DO IS
    obtain ⟨c0, c1, c2, c3, c4⟩ := T5.out.q.c.cells
    obtain ⟨i0, i1, i2, i3⟩ := T5.out.q.h.cells
    dsimp only at c0 c1 c2 c3 c4 i0 i1 i2 i3
    go_wp2_with fail
    with_reducible refine (RI.out _).mono ?_
    rintro v w6 ⟨rfl, hf⟩
    have T6 := Lib.hid (T5.out.fr hf)
    clear hf c0 c1 c2 c3 c4 i0 i1 i2 i3 T5
    have T7 := Lib.hid (T6.out.car ⟨⟨yp, ye, yo, yr⟩, yk⟩)
    obtain ⟨r0, r1, r2, r3, r4⟩ := T6.out.x.cells
    have y0 := T6.out.x.fz 0
    have y1 := T6.out.x.fz 1
    have y2 := T6.out.x.fz 2
    have y3 := T6.out.x.fz 3
    have y4 := T6.out.x.fz 4
    dsimp only [carSet] at *
    go_wp2_with fail
    go_meet
    exact T7
 case rest =>
  have T2 := hcut
  clear HD DO FI LV HBh HT
  obtain ⟨i0, i1, i2, i3⟩ := T2.out.q.h.cells
  obtain ⟨r0, r1, r2, r3, r4⟩ := T2.out.x.cells
  dsimp only at i0 i1 i2 i3 r0 r1 r2 r3 r4
  go_wp2_with fail
  with_reducible refine (FL.out _).mono ?_
  rintro v w3 ⟨rfl, hf⟩
  have T3 := Lib.hid (T2.out.fr hf)
  clear hf i0 i1 i2 i3 r0 r1 r2 r3 r4 FL T2 hcut
  have T4 := Lib.hid (T3.out.cell 2 (.int .i64 fl) ⟨eo, ec, fl, ea, 0, ⟨sc, sv, sw⟩⟩ rfl)
  have T5 := Lib.hid (T4.out.cell 4 (.int .i64 (yp - xp)) ⟨eo, ec, fl, ea, yp - xp, ⟨sc, sv, sw⟩⟩ rfl)
  obtain ⟨r0, r1, r2, r3, r4⟩ := T3.out.x.cells
  obtain ⟨c0, c1, c2, c3, c4⟩ := T3.out.q.c.cells
  obtain ⟨n0, n1, n2, n3, n4, n5, n6, n7⟩ := T3.out.d.cells
  obtain ⟨s0, s1, s2, s3, s4⟩ := T4.out.x.cells
  obtain ⟨d0, d1, d2, d3, d4⟩ := T4.out.q.c.cells
  have m2 := T3.out.d.fz 2
  have m4 := T3.out.d.fz 4
  have o4 := T4.out.d.fz 4
  dsimp only at r0 r1 r2 r3 r4 c0 c1 c2 c3 c4 n0 n1 n2 n3 n4 n5 n6 n7 s0 s1 s2 s3 s4 d0 d1 d2 d3 d4
  go_upto_region 11 with fail
  generalize World.setCell (World.setCell w3 _ _) _ _ = w5 at *
  clear r0 r1 r2 r3 r4 c0 c1 c2 c3 c4 n0 n1 n2 n3 n4 n5 n6 n7 s0 s1 s2 s3 s4 d0 d1 d2 d3 d4 m2 m4 o4 T4 T3
  have T6 := Lib.hid T5.out.te
  have T7 := Lib.hid (T6.out.car ⟨⟨yp, ye, yo, yr⟩, yk⟩)
  have T8 := Lib.hid (T7.out.deed ⟨eo, ec, fl, ea, yp - xp, ⟨sc, sv, sw⟩⟩)
  have q1 := Lib.hid (T8.out.fr (Fr.drew _ []))
  obtain ⟨r0, r1, r2, r3, r4⟩ := T6.out.r.cells
  have y0 := T6.out.r.fz 0
  have y1 := T6.out.r.fz 1
  have y2 := T6.out.r.fz 2
  have y3 := T6.out.r.fz 3
  have y4 := T6.out.r.fz 4
  obtain ⟨n0, n1, n2, n3, n4, n5, n6, n7⟩ := T6.out.t.cells
  have m0 := T6.out.t.fz 0
  have m1 := T6.out.t.fz 1
  have m2 := T6.out.t.fz 2
  have m3 := T6.out.t.fz 3
  have m4 := T6.out.t.fz 4
  have m5 := T6.out.t.fz 5
  have m6 := T6.out.t.fz 6
  have m7 := T6.out.t.fz 7
  dsimp only [zCa, zDn, zSp] at r0 r1 r2 r3 r4 n0 n1 n2 n3 n4 n5 n6 n7
  simp only [show ((0 : Nat) : Int) = 0 from rfl] at n5 n6 n7
  go_wp2_with fail
  refine wp_region_noPanic ?_
  refine wp_region_held_drew (S := (D11 w1.heap.size ⟨⟨yp, ye, yo, yr⟩, yk⟩ ⟨eo, ec, fl, ea, yp - xp, ⟨sc, sv, sw⟩⟩)) (by kernel_rfl) (T6.out.fr (Fr.drew _ [])).d11 (fun hHeld => ?_)
  refine zHU fun hU => ?_
  try dsimp only [D11] at hU
  refine zH 0 ?_
  refine zH 1 ?_
  refine wpAnyH_ready (rs := [2]) (by kernel_rfl) (by simp) ?_
  refine AllReadyH.cons (o := _) rfl (fun K hK => ?_) AllReadyH.nil
  go_simp
  refine hK.out _ _ (T7.out.fr (Fr.drew _ [])).d11 (fun hHeld => ?_)
  clear hK K
  try simp only [Act.put, List.setIfInBounds_toArray, List.set_cons_zero, List.set_cons_succ]
  refine wpAnyH_ready (rs := [3]) (by kernel_rfl) (by simp) ?_
  refine AllReadyH.cons (o := _) rfl (fun K hK => ?_) AllReadyH.nil
  go_simp
  refine hK.out _ _ (T8.out.fr (Fr.drew _ [])).d11 (fun hHeld => ?_)
  clear hK K
  try simp only [Act.put, List.setIfInBounds_toArray, List.set_cons_zero, List.set_cons_succ]
  refine wpAnyH_done (by kernel_rfl) ?_ _
  refine NoPanic.normal ?_
  clear hHeld
  dsimp only [carSet, dnSet] at *
  go_wp2
  generalize World.drew (World.setCell (World.setCell (World.setCell (World.setCell (World.setCell (World.setCell (World.setCell (World.setCell (World.setCell (World.setCell (World.setCell (World.setCell (World.setCell w5 _ _) _ _) _ _) _ _) _ _) _ _) _ _) _ _) _ _) _ _) _ _) _ _) _ _) = W at *
  obtain ⟨x0, x1, x2, x3, x4⟩ := q1.out.r.cells
  obtain ⟨n0, n1, n2, n3, n4, n5, n6, n7⟩ := q1.out.t.cells
  dsimp only at x0 x1 x2 x3 x4 n0 n1 n2 n3 n4 n5 n6 n7
  exact bodyPost_ret (v := .tuple #[.agg #[.int .i64 yp, .int .i64 ye, .int .i64 yo, .bool yr, .int .i64 yk], .agg #[.bool eo, .bool ec, .int .i64 fl, .int .i64 ea, .int .i64 (yp - xp), .int .u64 sc, .int .u64 sv, .int .u64 sw]]) (by simp [results, Tryz.results124, go_sem, x0, x1, x2, x3, x4, n0, n1, n2, n3, n4, n5, n6, n7]) rfl ⟨rfl, q1.out.f⟩
end Go.Proofs.YtiflmkicnkbeaaaGreatDoor
namespace Go.Proofs.YtiflmkicnkbeaaaGreatDoor
open Go.RowKit
theorem ctick_any (h : Ho) (c : Ca) (s : Sp) (ob : Bool) (w : World) (ok : s.ok) (hT : Tz w) (hk : c.k ≤ 9223372036854775807) (x : Ca) (d : Dn) (hx : c.tick h s ob = (x, d)) :
 Calls Tryz.prog 124 #[h.v, c.v, s.v, .bool ob] w fun v w' => v = .returned (.tuple #[x.v, d.v]) ∧ Fr w w' [] := by
 by_cases R : RightIs h c
 · exact ctick_right h c s ob w ok hT hk R x d hx
 · rw [tick_wrong R] at hx
   obtain ⟨rfl, rfl⟩ : c = x ∧ zDn = d := ⟨congrArg Prod.fst hx, congrArg Prod.snd hx⟩
   exact ctick_wrong h c s ob w (by rw [← Bool.not_eq_true]; exact fun q => R ((right_iff h c).1 q))
def ptrTo (n : Nat) : Value := .pointer (some ⟨n, 0, none⟩)
def oneTo (n : Nat) : Value := .slice (some ⟨n, 0, none⟩) 1 1
structure PD (W : World) (m n : Nat) (x : Ca) (d : Dn) (a : World) : Prop where
 f : Fr W a []
 x : CB a m x
 d : NB a n d
 m : W.heap.size ≤ m
 n : W.heap.size ≤ n
theorem PD.ne {W : World} {m n : Nat} {x : Ca} {d : Dn} {a : World} (q : PD W m n x d a) : m ≠ n := fun e => by
 have h1 := q.x
 have h2 := q.d
 unfold CB at h1
 unfold NB at h2
 rw [e, h2] at h1
 simp at h1
theorem PD.car {W : World} {m n : Nat} {x : Ca} {d : Dn} {a : World} (q : PD W m n x d a) (z : Ca) : PD W m n z d (carSet a m z) :=
 ⟨q.f.new (carSet_fr a m z) (by have := q.m; simp; omega), q.x.set z, q.d.fr (carSet_fr a m z) (by simpa using q.ne.symm), q.m, q.n⟩
theorem PD.deed {W : World} {m n : Nat} {x : Ca} {d : Dn} {a : World} (q : PD W m n x d a) (z : Dn) : PD W m n x z (dnSet a n z) :=
 ⟨q.f.new (dnSet_fr a n z) (by have := q.n; simp; omega), q.x.fr (dnSet_fr a n z) (by simpa using q.ne), q.d.set z, q.m, q.n⟩
end Go.Proofs.YtiflmkicnkbeaaaGreatDoor
namespace Go.Proofs.YtiflmkicnkbeaaaGreatDoor
open Go.RowKit
def F4 (V : World) (m : Nat) (h : Ho) (a : World) : Prop := Fr V a [] ∧
 a.cell? ⟨m, 0, none⟩ = some (.int .i64 h.c) ∧ a.cell? ⟨m, 1, none⟩ = some (.int .i64 h.f) ∧ a.cell? ⟨m, 2, none⟩ = some (.int .i64 h.s) ∧ a.cell? ⟨m, 3, none⟩ = some (.int .i64 h.d)
end Go.Proofs.YtiflmkicnkbeaaaGreatDoor
