/- A car's tick, by value: of one that is right. -/
import Derived.Test.YtgcgbiaigbblkaaDoorCar7
namespace Go.Proofs.YtgcgbiaigbblkaaDoor
open Go.RowKit

/-- What a tick's drawn regions read. -/
def D8 (W : World) (h : Ho) (c : Ca) (s : Sp) (a : World) : Prop :=
  (a.cell? ⟨W.heap.size, 0, none⟩ = some (.int .i64 h.c) ∧ a.cell? ⟨W.heap.size, 1, none⟩ = some (.int .i64 h.f) ∧ a.cell? ⟨W.heap.size, 2, none⟩ = some (.int .i64 h.s) ∧ a.cell? ⟨W.heap.size, 3, none⟩ = some (.int .i64 h.d)) ∧
  (a.cell? ⟨W.heap.size + 1, 0, none⟩ = some (.int .i64 c.x.p) ∧ a.cell? ⟨W.heap.size + 1, 1, none⟩ = some (.int .i64 c.x.e) ∧ a.cell? ⟨W.heap.size + 1, 2, none⟩ = some (.int .i64 c.x.o) ∧ a.cell? ⟨W.heap.size + 1, 3, none⟩ = some (.bool c.x.r) ∧ a.cell? ⟨W.heap.size + 1, 4, none⟩ = some (.int .i64 c.k)) ∧
  a.cell? ⟨W.heap.size + 2, 0, none⟩ = some (.int .u64 s.c) ∧ a.cell? ⟨W.heap.size + 2, 1, none⟩ = some (.int .u64 s.u) ∧ a.cell? ⟨W.heap.size + 2, 2, none⟩ = some (.int .u64 s.d)
theorem ST.d8 {W : World} {h : Ho} {c : Ca} {s : Sp} {a : World} (q : ST W h c s a) : D8 W h c s a := ⟨q.h.cells, q.c.cells, arow q.s⟩
def D11 (n : Nat) (x : Ca) (d : Dn) (a : World) : Prop :=
  (a.cell? ⟨n, 0, none⟩ = some (.int .i64 x.x.p) ∧ a.cell? ⟨n, 1, none⟩ = some (.int .i64 x.x.e) ∧ a.cell? ⟨n, 2, none⟩ = some (.int .i64 x.x.o) ∧ a.cell? ⟨n, 3, none⟩ = some (.bool x.x.r) ∧ a.cell? ⟨n, 4, none⟩ = some (.int .i64 x.k)) ∧
  a.cell? ⟨n + 1, 0, none⟩ = some (.bool d.op) ∧ a.cell? ⟨n + 1, 1, none⟩ = some (.bool d.cl) ∧ a.cell? ⟨n + 1, 2, none⟩ = some (.int .i64 d.fl) ∧ a.cell? ⟨n + 1, 3, none⟩ = some (.int .i64 d.la) ∧ a.cell? ⟨n + 1, 4, none⟩ = some (.int .i64 d.mv) ∧
  a.cell? ⟨n + 1, 5, none⟩ = some (.int .u64 d.st.c) ∧ a.cell? ⟨n + 1, 6, none⟩ = some (.int .u64 d.st.u) ∧ a.cell? ⟨n + 1, 7, none⟩ = some (.int .u64 d.st.d)
/-- The answer's boxes, the car and the deed. -/
structure TE (W : World) (n : Nat) (x : Ca) (d : Dn) (y : Ca) (e : Dn) (a : World) : Prop where
  f : Fr W a []
  x : CB a n x
  d : NB a (n + 1) d
  r : CB a (W.heap.size + 3) y
  t : NB a (W.heap.size + 4) e
  lo : W.heap.size + 4 < n
theorem TK.te {W : World} {n : Nat} {h : Ho} {c : Ca} {s : Sp} {x : Ca} {d : Dn} {a : World} (q : TK W n h c s x d a) : TE W n x d zCa zDn a := ⟨q.q.f, q.x, q.d, q.q.r, q.q.t, q.lo⟩
theorem TE.fr {W : World} {n : Nat} {x y : Ca} {d e : Dn} {a a' : World} (q : TE W n x d y e a) (f : Fr a a' []) : TE W n x d y e a' := ⟨q.f.trans f, q.x.fr f (by simp), q.d.fr f (by simp), q.r.fr f (by simp), q.t.fr f (by simp), q.lo⟩
theorem TE.car {W : World} {n : Nat} {x y : Ca} {d e : Dn} {a : World} (q : TE W n x d y e a) (z : Ca) : TE W n x d z e (carSet a (W.heap.size + 3) z) :=
  have f := carSet_fr a (W.heap.size + 3) z
  ⟨q.f.new f (by simp), q.x.fr f (by have := q.lo; simp; omega), q.d.fr f (by have := q.lo; simp; omega), q.r.set z, q.t.fr f (by simp), q.lo⟩
theorem TE.deed {W : World} {n : Nat} {x y : Ca} {d e : Dn} {a : World} (q : TE W n x d y e a) (z : Dn) : TE W n x d y z (dnSet a (W.heap.size + 4) z) :=
  have f := dnSet_fr a (W.heap.size + 4) z
  ⟨q.f.new f (by simp), q.x.fr f (by have := q.lo; simp; omega), q.d.fr f (by have := q.lo; simp; omega), q.r.fr f (by simp), q.t.set z, q.lo⟩
theorem TE.d11 {W : World} {n : Nat} {x y : Ca} {d e : Dn} {a : World} (q : TE W n x d y e a) : D11 n x d a := ⟨q.x.cells, q.d.cells.c0, q.d.cells.c1, q.d.cells.c2, q.d.cells.c3, q.d.cells.c4, q.d.cells.c5, q.d.cells.c6, q.d.cells.c7⟩

set_option maxHeartbeats 8000000 in
set_option maxRecDepth 100000 in
theorem ctick_right (h : Ho) (c : Ca) (s : Sp) (ob : Bool) (w : World) (ok : s.ok) (hT : Tz w) (hk : c.k ≤ 9223372036854775807) (R : RightIs h c) (x : Ca) (d : Dn) (hx : c.tick h s ob = (x, d)) :
    Calls Tryd.prog 16 #[h.v, c.v, s.v, .bool ob] w fun v w' => v = .returned (.tuple #[x.v, d.v]) ∧ Fr w w' [] := by
  have RX : RightIs h x := by
    have := R.tick ok ob
    rwa [hx] at this
  have HW : IntKind.i64.wrap (x.x.p - c.x.p) = x.x.p - c.x.p := IntWalk.i64_in _ (by have := RX.p0; have := RX.p1; have := R.p0; have := R.p1; have := Ho.range R.ok; omega)
  have hx0 := hx
  rw [tick_pre R ok ob] at hx
  obtain ⟨e, he⟩ : ∃ e, e = (c.pre h s ob).2 := ⟨_, rfl⟩
  have hy : x = (c.pre h s ob).1 := (congrArg Prod.fst hx).symm
  have hd : d = ⟨e.op, e.cl, h.flr x.x.p, e.la, x.x.p - c.x.p, e.st⟩ := by
    have q : d = _ := (congrArg Prod.snd hx).symm
    rw [q, he, hy]
  have hz : e.fl = 0 ∧ e.mv = 0 := by
    rw [he]
    unfold Ca.pre
    split
    · exact ⟨rfl, rfl⟩
    · split
      · split <;> exact ⟨rfl, rfl⟩
      · exact ⟨rfl, rfl⟩
  have FL := Lib.hid (fun W => floor_any h x.x.p W _ rfl)
  have RG := Lib.hid (fun W => cright_any h c W true ((right_iff h c).2 R).symm)
  have DO := Lib.hid (fun W => doorOf_any c W)
  have FI := Lib.hid (fun W => fit_any h s W R.ok ok _ rfl)
  have HD : Hid ((0 < c.x.o ∧ ∃ b, e = ⟨false, b, 0, 0, 0, zSp⟩ ∧ ∀ W, Calls Tryd.prog 29 #[c.v, .bool ob] W fun v w' => v = .returned (.tuple #[x.v, .bool b]) ∧ Fr W w' []) ∨
      (¬ 0 < c.x.o ∧ h.lev c.x.p ∧ ∀ W, Tz W → Calls Tryd.prog 30 #[h.v, c.v, (h.fit s).v] W fun v w' => v = .returned (.tuple #[x.v, e.v]) ∧ Fr W w' []) ∨
      (¬ 0 < c.x.o ∧ ¬ h.lev c.x.p ∧ e = zDn ∧ ∀ W, Calls Tryd.prog 32 #[h.v, c.v] W fun v w' => v = .returned x.v ∧ Fr W w' [])) := by
    refine Lib.hid ?_
    have hr := Ho.range R.ok
    have p0 := R.p0
    have p1 := R.p1
    unfold Ca.pre at he hy
    by_cases g : 0 < c.x.o
    · rw [if_pos g] at he hy
      refine .inl ⟨g, _, he, fun W => wait_any c ob W (by have := R.held; omega) hk (by have := R.o1; have := R.ok.2.2.2.2; omega) x hy _ rfl⟩
    · rw [if_neg g] at he hy
      by_cases l : h.lev c.x.p
      · rw [if_pos l] at he hy
        obtain ⟨q0, q1, _⟩ := flr_facts R.ok R.p0 R.p1
        have hf := R.ok.2.1.2
        refine .inr (.inl ⟨g, l, fun W T => ?_⟩)
        have hin : 0 ≤ h.flr c.x.p ∧ h.flr c.x.p < 64 ∧ -1 ≤ c.x.e ∧ c.x.e ≤ 1 := ⟨q0, by omega, R.e0, R.e1⟩
        cases k : (h.fit s).stop (h.flr c.x.p) c.x.e with
        | true =>
          rw [if_pos k] at he hy
          rw [he]
          exact stand_stop h c (h.fit s) W (fit_ok h ok) T R.ok.2.2.2 _ rfl hin k _ rfl x hy _ rfl
        | false =>
          rw [if_neg (by rw [k]; simp)] at he hy
          rw [he]
          exact stand_go h c (h.fit s) W (fit_ok h ok) T (by omega) (by omega) _ rfl hin k x hy
      · rw [if_neg l] at he hy
        exact .inr (.inr ⟨g, l, he, fun W => ride_any h c (by omega) (by omega) W x hy⟩)
  have TB := Lib.hid (ST.new w h c s)
  have HT := Lib.hid hT
  obtain ⟨fl, hfl⟩ : ∃ fl, fl = h.flr x.x.p := ⟨_, rfl⟩
  rw [← hfl] at FL hd
  obtain ⟨bl, hbl⟩ : ∃ bl, bl = decide (h.lev c.x.p) := ⟨_, rfl⟩
  have LV := Lib.hid (fun W => level_any h c.x.p W bl hbl)
  obtain ⟨t, ht⟩ : ∃ t, t = h.fit s := ⟨_, rfl⟩
  rw [← ht] at FI HD
  have HB := Lib.hid hbl
  clear hfl hbl ht hx hx0 RX R hk ok he hy hT
  subst hd
  obtain ⟨hc, hfl, hs, hd⟩ := h
  obtain ⟨⟨xp, xe, xo, xr⟩, xk⟩ := c
  obtain ⟨sp, su, sd⟩ := s
  obtain ⟨⟨yp, ye, yo, yr⟩, yk⟩ := x
  obtain ⟨eo, ec, ef, ea, em, ⟨sc, sv, sw⟩⟩ := e
  obtain ⟨tc, tu, td⟩ := t
  obtain ⟨rfl, rfl⟩ : ef = 0 ∧ em = 0 := hz
  dsimp only [Ho.v, Ho.box, Ca.v, Ca.box, Sp.v, Sp.box, Dn.v, Dn.box, dv, zCa, zDn, zSp] at *
  simp only [show ((0 : Nat) : Int) = 0 from rfl] at TB
  go_enter Tryd.func16, Tryd.ntmps16
  go_wp2_with fail
  with_reducible refine (RG.out _).mono ?_
  rintro v w1 ⟨rfl, hf⟩
  have T1 := Lib.hid (TB.out.fr hf)
  clear hf TB RG
  have T2 := Lib.hid (TK.new T1.out ⟨⟨xp, xe, xo, xr⟩, xk⟩ zDn)
  obtain ⟨c0, c1, c2, c3, c4⟩ := T1.out.c.cells
  dsimp only at c0 c1 c2 c3 c4
  go_upto_block 0 with fail
  dsimp only [Ca.box, Dn.box, zDn, zSp] at T2
  simp only [show ((0 : Nat) : Int) = 0 from rfl] at T2
  generalize World.alloc (World.alloc w1 _) _ = w2 at *
  clear T1 c0 c1 c2 c3 c4
  go_cut [] (fun wx => Hid (TK w w1.heap.size ⟨hc, hfl, hs, hd⟩ ⟨⟨xp, xe, xo, xr⟩, xk⟩ ⟨sp, su, sd⟩ ⟨⟨yp, ye, yo, yr⟩, yk⟩ ⟨eo, ec, 0, ea, 0, ⟨sc, sv, sw⟩⟩ wx))
  case first =>
    rcases HD.out with ⟨g, b, he, WT⟩ | ⟨g, l, SG⟩ | ⟨g, l, he, RI⟩
    · have WT := Lib.hid WT
      simp only [Dn.mk.injEq, Sp.mk.injEq] at he
      obtain ⟨rfl, rfl, _, rfl, _, rfl, rfl, rfl⟩ := he
      have IS := Lib.hid (fun W => is_any xo xk W true (decide_eq_true g).symm)
      dsimp only [dv] at IS
      clear g HB LV FI FL HW HD
      obtain ⟨c0, c1, c2, c3, c4⟩ := T2.out.q.c.cells
      dsimp only at c0 c1 c2 c3 c4
      go_wp2_with fail
      with_reducible refine (DO.out _).mono ?_
      rintro v w3 ⟨rfl, hf⟩
      have T3 := Lib.hid (T2.out.fr hf)
      clear hf
      go_wp2_with fail
      with_reducible refine (IS.out _).mono ?_
      rintro v w4 ⟨rfl, hf⟩
      have T4 := Lib.hid (T3.out.fr hf)
      clear hf c0 c1 c2 c3 c4 T3 T2
      obtain ⟨c0, c1, c2, c3, c4⟩ := T4.out.q.c.cells
      obtain ⟨i0, i1, i2, i3⟩ := T4.out.q.h.cells
      dsimp only at c0 c1 c2 c3 c4 i0 i1 i2 i3
      go_wp2_with fail
      with_reducible refine (WT.out _).mono ?_
      rintro v w5 ⟨rfl, hf⟩
      have T5 := Lib.hid (T4.out.fr hf)
      clear hf c0 c1 c2 c3 c4 i0 i1 i2 i3 T4
      have T6 := Lib.hid (T5.out.car ⟨⟨yp, ye, yo, yr⟩, yk⟩)
      have T7 := Lib.hid (T6.out.cell 1 (.bool ec) ⟨false, ec, 0, 0, 0, zSp⟩ rfl)
      obtain ⟨r0, r1, r2, r3, r4⟩ := T5.out.x.cells
      have y0 := T5.out.x.fz 0
      have y1 := T5.out.x.fz 1
      have y2 := T5.out.x.fz 2
      have y3 := T5.out.x.fz 3
      have y4 := T5.out.x.fz 4
      obtain ⟨n0, n1, n2, n3, n4, n5, n6, n7⟩ := T5.out.d.cells
      have m0 := T5.out.d.fz 0
      have m1 := T5.out.d.fz 1
      have m2 := T5.out.d.fz 2
      have m3 := T5.out.d.fz 3
      have m4 := T5.out.d.fz 4
      have m5 := T5.out.d.fz 5
      have m6 := T5.out.d.fz 6
      have m7 := T5.out.d.fz 7
      dsimp only [zDn, zSp, carSet] at *
      simp only [show ((0 : Nat) : Int) = 0 from rfl] at n5 n6 n7
      go_wp2_with fail
      go_meet
      exact T7
    · have SG := Lib.hid SG
      have hb : bl = true := by rw [HB.out]; exact decide_eq_true l
      subst hb
      have IS := Lib.hid (fun W => is_any xo xk W false (decide_eq_false (show ¬ 0 < xo by omega)).symm)
      dsimp only [dv] at IS
      clear g l HB FL HW HD
      obtain ⟨c0, c1, c2, c3, c4⟩ := T2.out.q.c.cells
      dsimp only at c0 c1 c2 c3 c4
      go_wp2_with fail
      with_reducible refine (DO.out _).mono ?_
      rintro v w3 ⟨rfl, hf⟩
      have T3 := Lib.hid (T2.out.fr hf)
      clear hf
      go_wp2_with fail
      with_reducible refine (IS.out _).mono ?_
      rintro v w4 ⟨rfl, hf⟩
      have T4 := Lib.hid (T3.out.fr hf)
      clear hf c0 c1 c2 c3 c4 T3 T2
      obtain ⟨c0, c1, c2, c3, c4⟩ := T4.out.q.c.cells
      obtain ⟨i0, i1, i2, i3⟩ := T4.out.q.h.cells
      dsimp only at c0 c1 c2 c3 c4 i0 i1 i2 i3
      go_wp2_with fail
      with_reducible refine (LV.out _).mono ?_
      rintro v w5 ⟨rfl, hf⟩
      have T5 := Lib.hid (T4.out.fr hf)
      clear hf c0 c1 c2 c3 c4 i0 i1 i2 i3 T4 LV DO IS
      go_wp2_with fail
      refine wp_region_noPanic ?_
      refine wp_region_held_drew (S := (D8 w ⟨hc, hfl, hs, hd⟩ ⟨⟨xp, xe, xo, xr⟩, xk⟩ ⟨sp, su, sd⟩)) (by kernel_rfl) (T5.out.fr (Fr.drew _ [])).q.d8 (fun hHeld => ?_)
      refine wpAnyH_take (i := 0) (oi := _) (v := ?fv0h1n2) (by simp only [List.getElem?_toArray, List.getElem?_cons_zero]; rfl) (by kernel_rfl) (by kernel_rfl) (by kernel_rfl) (fun _ _ _ h => h) (Or.inl ⟨by rfl, ?fy0h1n2⟩) (by assumption) ?fr0h1n2
      case fy0h1n2 => (intro w hSw; (try dsimp only [D8] at hSw); go_simp; try with_reducible rfl)
      try simp only [Act.put, List.setIfInBounds_toArray, List.set_cons_zero, List.set_cons_succ]
      refine wpAnyH_take (i := 1) (oi := _) (v := ?fv1h1n2) (by simp only [List.getElem?_toArray, List.getElem?_cons_zero, List.getElem?_cons_succ]; rfl) (by kernel_rfl) (by kernel_rfl) (by kernel_rfl) (fun _ _ _ h => h) (Or.inl ⟨by rfl, ?fy1h1n2⟩) (by assumption) ?fr1h1n2
      case fy1h1n2 => (intro w hSw; (try dsimp only [D8] at hSw); go_simp; try with_reducible rfl)
      try simp only [Act.put, List.setIfInBounds_toArray, List.set_cons_zero, List.set_cons_succ]
      refine wpAnyH_take (i := 2) (oi := _) (v := ?fv2h1n2) (by simp only [List.getElem?_toArray, List.getElem?_cons_zero, List.getElem?_cons_succ]; rfl) (by kernel_rfl) (by kernel_rfl) (by kernel_rfl) (fun _ _ _ h => h) (Or.inl ⟨by rfl, ?fy2h1n2⟩) (by assumption) ?fr2h1n2
      case fy2h1n2 => (intro w hSw; (try dsimp only [D8] at hSw); go_simp; try with_reducible rfl)
      try simp only [Act.put, List.setIfInBounds_toArray, List.set_cons_zero, List.set_cons_succ]
      refine wpAnyH_take (i := 3) (oi := _) (v := ?fv3h1n2) (by simp only [List.getElem?_toArray, List.getElem?_cons_zero, List.getElem?_cons_succ]; rfl) (by kernel_rfl) (by kernel_rfl) (by kernel_rfl) (fun _ _ _ h => h) (Or.inl ⟨by rfl, ?fy3h1n2⟩) (by assumption) ?fr3h1n2
      case fy3h1n2 => (intro w hSw; (try dsimp only [D8] at hSw); go_simp; try with_reducible rfl)
      try simp only [Act.put, List.setIfInBounds_toArray, List.set_cons_zero, List.set_cons_succ]
      refine wpAnyH_ready (rs := [4]) (by kernel_rfl) (by simp) ?_
      refine AllReadyH.cons (o := _) rfl (fun K hK => ?_) AllReadyH.nil
      go_simp
      ((with_reducible refine (FI.out _).mono ?_); rintro v w6 ⟨rfl, hf⟩; have T6 := Lib.hid (T5.out.fr ((Fr.drew _ []).trans hf)); clear hf)
      go_wp2_with fail
      refine hK.out _ _ T6.out.q.d8 (fun hHeld => ?_)
      clear hK K
      try simp only [Act.put, List.setIfInBounds_toArray, List.set_cons_zero, List.set_cons_succ]
      refine wpAnyH_ready (rs := [5]) (by kernel_rfl) (by simp) ?_
      refine AllReadyH.cons (o := _) rfl (fun K hK => ?_) AllReadyH.nil
      go_simp
      ((with_reducible refine (SG.out _ (HT.out.fr T6.out.q.f)).mono ?_); rintro v w7 ⟨rfl, hf⟩; have T7 := Lib.hid (T6.out.fr hf); clear hf)
      go_wp2_with fail
      refine hK.out _ _ T7.out.q.d8 (fun hHeld => ?_)
      clear hK K
      try simp only [Act.put, List.setIfInBounds_toArray, List.set_cons_zero, List.set_cons_succ]
      refine wpAnyH_take (i := 6) (oi := _) (v := ?fv6h1n3) (by simp only [List.getElem?_toArray, List.getElem?_cons_zero, List.getElem?_cons_succ]; rfl) (by kernel_rfl) (by kernel_rfl) (by kernel_rfl) (fun _ _ _ h => h) (Or.inl ⟨by rfl, ?fy6h1n3⟩) (by assumption) ?fr6h1n3
      case fy6h1n3 => (intro w hSw; (try dsimp only [D8] at hSw); go_simp; try with_reducible rfl)
      try simp only [Act.put, List.setIfInBounds_toArray, List.set_cons_zero, List.set_cons_succ]
      refine wpAnyH_take (i := 7) (oi := _) (v := ?fv7h1n3) (by simp only [List.getElem?_toArray, List.getElem?_cons_zero, List.getElem?_cons_succ]; rfl) (by kernel_rfl) (by kernel_rfl) (by kernel_rfl) (fun _ _ _ h => h) (Or.inl ⟨by rfl, ?fy7h1n3⟩) (by assumption) ?fr7h1n3
      case fy7h1n3 => (intro w hSw; (try dsimp only [D8] at hSw); go_simp; try with_reducible rfl)
      try simp only [Act.put, List.setIfInBounds_toArray, List.set_cons_zero, List.set_cons_succ]
      refine wpAnyH_take (i := 8) (oi := _) (v := ?fv8h1n3) (by simp only [List.getElem?_toArray, List.getElem?_cons_zero, List.getElem?_cons_succ]; rfl) (by kernel_rfl) (by kernel_rfl) (by kernel_rfl) (fun _ _ _ h => h) (Or.inl ⟨by rfl, ?fy8h1n3⟩) (by assumption) ?fr8h1n3
      case fy8h1n3 => (intro w hSw; (try dsimp only [D8] at hSw); go_simp; try with_reducible rfl)
      try simp only [Act.put, List.setIfInBounds_toArray, List.set_cons_zero, List.set_cons_succ]
      have T8 := Lib.hid (T7.out.car ⟨⟨yp, ye, yo, yr⟩, yk⟩)
      have T9 := Lib.hid (T8.out.deed ⟨eo, ec, 0, ea, 0, ⟨sc, sv, sw⟩⟩)
      obtain ⟨r0, r1, r2, r3, r4⟩ := T7.out.x.cells
      have y0 := T7.out.x.fz 0
      have y1 := T7.out.x.fz 1
      have y2 := T7.out.x.fz 2
      have y3 := T7.out.x.fz 3
      have y4 := T7.out.x.fz 4
      obtain ⟨n0, n1, n2, n3, n4, n5, n6, n7⟩ := T7.out.d.cells
      have m0 := T7.out.d.fz 0
      have m1 := T7.out.d.fz 1
      have m2 := T7.out.d.fz 2
      have m3 := T7.out.d.fz 3
      have m4 := T7.out.d.fz 4
      have m5 := T7.out.d.fz 5
      have m6 := T7.out.d.fz 6
      have m7 := T7.out.d.fz 7
      dsimp only [zDn, zSp] at r0 r1 r2 r3 r4 n0 n1 n2 n3 n4 n5 n6 n7
      simp only [show ((0 : Nat) : Int) = 0 from rfl] at n5 n6 n7
      refine wpAnyH_ready (rs := [9]) (by kernel_rfl) (by simp) ?_
      refine AllReadyH.cons (o := _) rfl (fun K hK => ?_) AllReadyH.nil
      go_simp
      refine hK.out _ _ T8.out.q.d8 (fun hHeld => ?_)
      clear hK K
      try simp only [Act.put, List.setIfInBounds_toArray, List.set_cons_zero, List.set_cons_succ]
      refine wpAnyH_ready (rs := [10]) (by kernel_rfl) (by simp) ?_
      refine AllReadyH.cons (o := _) rfl (fun K hK => ?_) AllReadyH.nil
      go_simp
      refine hK.out _ _ T9.out.q.d8 (fun hHeld => ?_)
      clear hK K
      try simp only [Act.put, List.setIfInBounds_toArray, List.set_cons_zero, List.set_cons_succ]
      refine wpAnyH_done (by kernel_rfl) ?_ _
      refine NoPanic.normal ?_
      clear hHeld
      dsimp only [carSet, dnSet] at *
      go_wp2_with fail
      go_meet
      exact T9
    · have RI := Lib.hid RI
      have hb : bl = false := by rw [HB.out]; exact decide_eq_false l
      subst hb
      simp only [Dn.mk.injEq, Sp.mk.injEq] at he
      obtain ⟨rfl, rfl, _, rfl, _, rfl, rfl, rfl⟩ := he
      have IS := Lib.hid (fun W => is_any xo xk W false (decide_eq_false (show ¬ 0 < xo by omega)).symm)
      dsimp only [dv] at IS
      clear g l HB FI FL HW HD
      obtain ⟨c0, c1, c2, c3, c4⟩ := T2.out.q.c.cells
      dsimp only at c0 c1 c2 c3 c4
      go_wp2_with fail
      with_reducible refine (DO.out _).mono ?_
      rintro v w3 ⟨rfl, hf⟩
      have T3 := Lib.hid (T2.out.fr hf)
      clear hf
      go_wp2_with fail
      with_reducible refine (IS.out _).mono ?_
      rintro v w4 ⟨rfl, hf⟩
      have T4 := Lib.hid (T3.out.fr hf)
      clear hf c0 c1 c2 c3 c4 T3 T2
      obtain ⟨c0, c1, c2, c3, c4⟩ := T4.out.q.c.cells
      obtain ⟨i0, i1, i2, i3⟩ := T4.out.q.h.cells
      dsimp only at c0 c1 c2 c3 c4 i0 i1 i2 i3
      go_wp2_with fail
      with_reducible refine (LV.out _).mono ?_
      rintro v w5 ⟨rfl, hf⟩
      have T5 := Lib.hid (T4.out.fr hf)
      clear hf c0 c1 c2 c3 c4 i0 i1 i2 i3 T4 LV DO IS
      obtain ⟨c0, c1, c2, c3, c4⟩ := T5.out.q.c.cells
      obtain ⟨i0, i1, i2, i3⟩ := T5.out.q.h.cells
      dsimp only at c0 c1 c2 c3 c4 i0 i1 i2 i3
      go_wp2_with fail
      with_reducible refine (RI.out _).mono ?_
      rintro v w6 ⟨rfl, hf⟩
      have T6 := Lib.hid (T5.out.fr hf)
      clear hf c0 c1 c2 c3 c4 i0 i1 i2 i3 T5
      have T7 := Lib.hid (T6.out.car ⟨⟨yp, ye, yo, yr⟩, yk⟩)
      obtain ⟨r0, r1, r2, r3, r4⟩ := T6.out.x.cells
      have y0 := T6.out.x.fz 0
      have y1 := T6.out.x.fz 1
      have y2 := T6.out.x.fz 2
      have y3 := T6.out.x.fz 3
      have y4 := T6.out.x.fz 4
      dsimp only [carSet] at *
      go_wp2_with fail
      go_meet
      exact T7
  case rest =>
    have T2 := hcut
    clear HD DO FI LV HB HT
    obtain ⟨i0, i1, i2, i3⟩ := T2.out.q.h.cells
    obtain ⟨r0, r1, r2, r3, r4⟩ := T2.out.x.cells
    dsimp only at i0 i1 i2 i3 r0 r1 r2 r3 r4
    go_wp2_with fail
    with_reducible refine (FL.out _).mono ?_
    rintro v w3 ⟨rfl, hf⟩
    have T3 := Lib.hid (T2.out.fr hf)
    clear hf i0 i1 i2 i3 r0 r1 r2 r3 r4 FL T2 hcut
    have T4 := Lib.hid (T3.out.cell 2 (.int .i64 fl) ⟨eo, ec, fl, ea, 0, ⟨sc, sv, sw⟩⟩ rfl)
    have T5 := Lib.hid (T4.out.cell 4 (.int .i64 (yp - xp)) ⟨eo, ec, fl, ea, yp - xp, ⟨sc, sv, sw⟩⟩ rfl)
    obtain ⟨r0, r1, r2, r3, r4⟩ := T3.out.x.cells
    obtain ⟨c0, c1, c2, c3, c4⟩ := T3.out.q.c.cells
    obtain ⟨n0, n1, n2, n3, n4, n5, n6, n7⟩ := T3.out.d.cells
    obtain ⟨s0, s1, s2, s3, s4⟩ := T4.out.x.cells
    obtain ⟨d0, d1, d2, d3, d4⟩ := T4.out.q.c.cells
    have m2 := T3.out.d.fz 2
    have m4 := T3.out.d.fz 4
    have o4 := T4.out.d.fz 4
    dsimp only at r0 r1 r2 r3 r4 c0 c1 c2 c3 c4 n0 n1 n2 n3 n4 n5 n6 n7 s0 s1 s2 s3 s4 d0 d1 d2 d3 d4
    go_upto_region 11 with fail
    generalize World.setCell (World.setCell w3 _ _) _ _ = w5 at *
    clear r0 r1 r2 r3 r4 c0 c1 c2 c3 c4 n0 n1 n2 n3 n4 n5 n6 n7 s0 s1 s2 s3 s4 d0 d1 d2 d3 d4 m2 m4 o4 T4 T3
    have T6 := Lib.hid T5.out.te
    have T7 := Lib.hid (T6.out.car ⟨⟨yp, ye, yo, yr⟩, yk⟩)
    have T8 := Lib.hid (T7.out.deed ⟨eo, ec, fl, ea, yp - xp, ⟨sc, sv, sw⟩⟩)
    have q1 := Lib.hid (T8.out.fr (Fr.drew _ []))
    obtain ⟨r0, r1, r2, r3, r4⟩ := T6.out.r.cells
    have y0 := T6.out.r.fz 0
    have y1 := T6.out.r.fz 1
    have y2 := T6.out.r.fz 2
    have y3 := T6.out.r.fz 3
    have y4 := T6.out.r.fz 4
    obtain ⟨n0, n1, n2, n3, n4, n5, n6, n7⟩ := T6.out.t.cells
    have m0 := T6.out.t.fz 0
    have m1 := T6.out.t.fz 1
    have m2 := T6.out.t.fz 2
    have m3 := T6.out.t.fz 3
    have m4 := T6.out.t.fz 4
    have m5 := T6.out.t.fz 5
    have m6 := T6.out.t.fz 6
    have m7 := T6.out.t.fz 7
    dsimp only [zCa, zDn, zSp] at r0 r1 r2 r3 r4 n0 n1 n2 n3 n4 n5 n6 n7
    simp only [show ((0 : Nat) : Int) = 0 from rfl] at n5 n6 n7
    go_wp2_with fail
    refine wp_region_noPanic ?_
    refine wp_region_held_drew (S := (D11 w1.heap.size ⟨⟨yp, ye, yo, yr⟩, yk⟩ ⟨eo, ec, fl, ea, yp - xp, ⟨sc, sv, sw⟩⟩)) (by kernel_rfl) (T6.out.fr (Fr.drew _ [])).d11 (fun hHeld => ?_)
    refine wpAnyH_take (i := 0) (oi := _) (v := ?fv0h4n5) (by simp only [List.getElem?_toArray, List.getElem?_cons_zero]; rfl) (by kernel_rfl) (by kernel_rfl) (by kernel_rfl) (fun _ _ _ h => h) (Or.inl ⟨by rfl, ?fy0h4n5⟩) (by assumption) ?fr0h4n5
    case fy0h4n5 => (intro w hSw; (try dsimp only [D11] at hSw); go_simp; try with_reducible rfl)
    try simp only [Act.put, List.setIfInBounds_toArray, List.set_cons_zero, List.set_cons_succ]
    refine wpAnyH_take (i := 1) (oi := _) (v := ?fv1h4n5) (by simp only [List.getElem?_toArray, List.getElem?_cons_zero, List.getElem?_cons_succ]; rfl) (by kernel_rfl) (by kernel_rfl) (by kernel_rfl) (fun _ _ _ h => h) (Or.inl ⟨by rfl, ?fy1h4n5⟩) (by assumption) ?fr1h4n5
    case fy1h4n5 => (intro w hSw; (try dsimp only [D11] at hSw); go_simp; try with_reducible rfl)
    try simp only [Act.put, List.setIfInBounds_toArray, List.set_cons_zero, List.set_cons_succ]
    refine wpAnyH_ready (rs := [2]) (by kernel_rfl) (by simp) ?_
    refine AllReadyH.cons (o := _) rfl (fun K hK => ?_) AllReadyH.nil
    go_simp
    refine hK.out _ _ (T7.out.fr (Fr.drew _ [])).d11 (fun hHeld => ?_)
    clear hK K
    try simp only [Act.put, List.setIfInBounds_toArray, List.set_cons_zero, List.set_cons_succ]
    refine wpAnyH_ready (rs := [3]) (by kernel_rfl) (by simp) ?_
    refine AllReadyH.cons (o := _) rfl (fun K hK => ?_) AllReadyH.nil
    go_simp
    refine hK.out _ _ (T8.out.fr (Fr.drew _ [])).d11 (fun hHeld => ?_)
    clear hK K
    try simp only [Act.put, List.setIfInBounds_toArray, List.set_cons_zero, List.set_cons_succ]
    refine wpAnyH_done (by kernel_rfl) ?_ _
    refine NoPanic.normal ?_
    clear hHeld
    dsimp only [carSet, dnSet] at *
    go_wp2
    generalize World.drew (World.setCell (World.setCell (World.setCell (World.setCell (World.setCell (World.setCell (World.setCell (World.setCell (World.setCell (World.setCell (World.setCell (World.setCell (World.setCell w5 _ _) _ _) _ _) _ _) _ _) _ _) _ _) _ _) _ _) _ _) _ _) _ _) _ _) = W at *
    obtain ⟨x0, x1, x2, x3, x4⟩ := q1.out.r.cells
    obtain ⟨n0, n1, n2, n3, n4, n5, n6, n7⟩ := q1.out.t.cells
    dsimp only at x0 x1 x2 x3 x4 n0 n1 n2 n3 n4 n5 n6 n7
    exact bodyPost_ret (v := .tuple #[.agg #[.int .i64 yp, .int .i64 ye, .int .i64 yo, .bool yr, .int .i64 yk], .agg #[.bool eo, .bool ec, .int .i64 fl, .int .i64 ea, .int .i64 (yp - xp), .int .u64 sc, .int .u64 sv, .int .u64 sw]]) (by simp [results, Tryd.results16, go_sem, x0, x1, x2, x3, x4, n0, n1, n2, n3, n4, n5, n6, n7]) rfl ⟨rfl, q1.out.f⟩
end Go.Proofs.YtgcgbiaigbblkaaDoor
