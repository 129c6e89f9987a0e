/- The document's car a tick later, of one that stands at a floor; of any. -/
import Derived.Test.YtdmomnhacijmpaaGreatDoorRTick
namespace Go.Proofs.YtdmomnhacijmpaaGreatDoor
open Go.RowKit

theorem RT.far {W : World} {n : Nat} {h : Ho} {c : Ca} {s : Sp} {d : Dn} {a a' : World} {m : Nat} (q : RT W n h c s d a) (f : Fr a a' [m]) (hm : W.heap.size + 4 < m ∧ n < m) : RT W n h c s d a' := ⟨q.q.past f hm.1, q.d.fr f (by simp; omega), q.lo⟩
/-- What a standing car's drawn regions read. -/
def RZ (V : World) (m : Nat) (h : Ho) (c : Ca) (s : Sp) (a : World) : Prop := Fr V a [] ∧
  (a.cell? ⟨m, 0, none⟩ = some (.int .i64 h.c) ∧ a.cell? ⟨m, 1, none⟩ = some (.int .i64 h.f) ∧ a.cell? ⟨m, 2, none⟩ = some (.int .i64 h.s) ∧ a.cell? ⟨m, 3, none⟩ = some (.int .i64 h.d)) ∧
  (a.cell? ⟨m + 1, 0, none⟩ = some (.int .i64 c.x.p) ∧ a.cell? ⟨m + 1, 1, none⟩ = some (.int .i64 c.x.e) ∧ a.cell? ⟨m + 1, 2, none⟩ = some (.int .i64 c.x.o) ∧ a.cell? ⟨m + 1, 3, none⟩ = some (.bool c.x.r) ∧ a.cell? ⟨m + 1, 4, none⟩ = some (.int .i64 c.k)) ∧
  (a.cell? ⟨m + 2, 0, none⟩ = some (.int .u64 s.c) ∧ a.cell? ⟨m + 2, 1, none⟩ = some (.int .u64 s.u) ∧ a.cell? ⟨m + 2, 2, none⟩ = some (.int .u64 s.d))
theorem RZ.lasts (V : World) (m : Nat) (h : Ho) (c : Ca) (s : Sp) : Lasts (RZ V m h c s) := fun _ _ k f =>
  ⟨k.1.trans f, ⟨f.cell k.2.1.1 (by simp), f.cell k.2.1.2.1 (by simp), f.cell k.2.1.2.2.1 (by simp), f.cell k.2.1.2.2.2 (by simp)⟩,
    ⟨f.cell k.2.2.1.1 (by simp), f.cell k.2.2.1.2.1 (by simp), f.cell k.2.2.1.2.2.1 (by simp), f.cell k.2.2.1.2.2.2.1 (by simp), f.cell k.2.2.1.2.2.2.2 (by simp)⟩,
    f.cell k.2.2.2.1 (by simp), f.cell k.2.2.2.2.1 (by simp), f.cell k.2.2.2.2.2 (by simp)⟩
theorem RZ.size {V : World} {m : Nat} {h : Ho} {c : Ca} {s : Sp} (w : World) (k : RZ V m h c s w) : V.heap.size ≤ w.heap.size := k.1.size
theorem RT.rz {W : World} {n : Nat} {h : Ho} {c : Ca} {s : Sp} {d : Dn} {a : World} (q : RT W n h c s d a) : RZ a W.heap.size h c s a := ⟨Fr.refl _ _, q.q.h.cells, q.q.c.cells, arow q.q.s⟩
/-- And a deed of the plan's. -/
def RQ (V : World) (m p : Nat) (h : Ho) (c : Ca) (s : Sp) (x : De) (a : World) : Prop := RZ V m h c s a ∧ a.cell? ⟨p, 0, none⟩ = some (.bool x.stop) ∧ a.cell? ⟨p, 1, none⟩ = some (.int .i64 x.dir) ∧ a.cell? ⟨p, 2, none⟩ = some (.int .i64 x.move)
theorem RQ.lasts (V : World) (m p : Nat) (h : Ho) (c : Ca) (s : Sp) (x : De) : Lasts (RQ V m p h c s x) := fun _ _ k f => ⟨RZ.lasts _ _ _ _ _ _ _ k.1 f, f.cell k.2.1 (by simp), f.cell k.2.2.1 (by simp), f.cell k.2.2.2 (by simp)⟩
theorem door_field (a b : Int) (w : World) : (Instr.field 79 (.agg #[.int .i64 a, .int .i64 b]) 0).run Tryz.prog w = .ok (.int .i64 a) w := by kernel_rfl
theorem done_put2 (s t : Sp) (q e : Int) : doneS s t q e = if t.hall q e = true then Sp.put ⟨if hasB s.c q = true then oneN q else 0, 0, 0⟩ q e else ⟨if hasB s.c q = true then oneN q else 0, 0, 0⟩ := by
  unfold doneS
  generalize (if hasB s.c q = true then oneN q else 0) = A
  by_cases k : t.hall q e = true
  · rw [if_pos k]
    rcases hall_dir k with rfl | rfl
    · simp [Sp.put, k]
    · simp [Sp.put, k]
  · rw [if_neg k, if_neg (fun h => k h.1), if_neg (fun h => k h.1)]

set_option maxHeartbeats 8000000 in
set_option maxRecDepth 100000 in
theorem rct_stop (h : Ho) (c : Ca) (s : Sp) (w : World) (ok : s.ok) (R : RightIs h c) (g : ¬ 0 < c.x.o) (l : h.lev c.x.p) (k : (h.fit s).stop (h.flr c.x.p) c.x.e = true) (x : Ca) (d : Dn) (hx : c.tick h s false = (x, d)) :
    Calls Tryz.prog 17 #[h.v, c.v, s.v, .bool false] w fun v w' => v = .returned (.tuple #[x.v, d.v]) ∧ Fr w w' [] := by
  have o0 : c.x.o = 0 := by have := R.o0; omega
  have k0 : c.k = 0 := by have := R.held; omega
  have hf := R.ok.2.1
  have hd8 := R.ok.2.2.2
  obtain ⟨q0, q1, _, _, _⟩ := flr_facts R.ok R.p0 R.p1
  obtain ⟨fl, hfl⟩ : ∃ fl, fl = h.flr c.x.p := ⟨_, rfl⟩
  obtain ⟨t, ht⟩ : ∃ t, t = h.fit s := ⟨_, rfl⟩
  have tk : t.ok := by rw [ht]; exact fit_ok h ok
  obtain ⟨y, hy⟩ : ∃ y, y = t.head fl c.x.e := ⟨_, rfl⟩
  have RV := Lib.hid (fun W => rvalid_any h W true (decide_eq_true R.ok).symm)
  have RR := Lib.hid (fun W => rcright_any h c W true ((right_iff h c).2 R).symm)
  have LV := Lib.hid (fun W => rlevel_any h c.x.p W true (decide_eq_true l).symm)
  have FL := Lib.hid (fun W => rfloor_any h c.x.p W fl hfl)
  have FI := Lib.hid (fun W => rfit_any h s W R.ok ok t ht)
  have hin : 0 ≤ fl ∧ fl < 64 ∧ -1 ≤ c.x.e ∧ c.x.e ≤ 1 := ⟨by omega, by omega, R.e0, R.e1⟩
  have g2 : decide (0 < c.x.o) = false := decide_eq_false g
  have TB := Lib.hid (RS.new w h c s)
  rw [tick_stop R g l false k] at hx
  rw [← hfl, ← ht] at k hx
  have PL := Lib.hid (fun W => rdeed_any t fl c.x.e W tk ⟨true, y, 0⟩ (by rw [deed_in hin, k, if_pos rfl, hy]))
  have OD := Lib.hid (fun W => ropen_any h.d W h.d (by omega))
  obtain ⟨b1, hb1⟩ : ∃ b, b = hasB s.c fl := ⟨_, rfl⟩
  have AT := Lib.hid (fun W => rat_any s fl W ok b1 hb1)
  obtain ⟨A, hA⟩ : ∃ A, A = oneN fl := ⟨_, rfl⟩
  have Alt : A < 18446744073709551616 := by rw [hA]; exact oneN_lt fl
  have ON : Hid (∀ W, Calls Tryz.prog 28 #[.int .i64 fl] W fun v w' => v = .returned (.int .u64 (A : Int)) ∧ Fr W w' []) := Lib.hid (fun W => (rone_any fl W).mono fun v w' ⟨e1, e2⟩ => ⟨by rw [hA]; exact e1, by rw [e2]; exact Fr.refl _ _⟩)
  obtain ⟨b2, hb2⟩ : ∃ b, b = t.hall fl y := ⟨_, rfl⟩
  have HA := Lib.hid (fun W => rhall_any t fl y W tk b2 hb2)
  obtain ⟨z, hz⟩ : ∃ z, z = Sp.put ⟨if b1 = true then A else 0, 0, 0⟩ fl y := ⟨_, rfl⟩
  have PU0 : Hid (∀ B : Nat, (if b1 = true then A else 0) = B → ∀ W, Calls Tryz.prog 16 #[.agg #[.int .u64 (B : Int), .int .u64 0, .int .u64 0], .agg #[.int .i64 fl, .int .i64 y]] W fun v w' => v = .returned z.v ∧ Fr W w' []) := by
    refine Lib.hid ?_
    intro B hB W
    exact rput_any ⟨B, 0, 0⟩ fl y W ⟨by rw [← hB]; show (if b1 = true then A else 0) < _; split; exact Alt; decide, (by decide : (0 : Nat) < 18446744073709551616), (by decide : (0 : Nat) < 18446744073709551616)⟩ z (by rw [hz, hB])
  have HD0 : Hid (∀ B : Nat, (if b1 = true then A else 0) = B → if b2 = true then d = ⟨true, false, fl, y, 0, z⟩ else d = ⟨true, false, fl, y, 0, ⟨B, 0, 0⟩⟩) := by
    refine Lib.hid ?_
    intro B hB
    have e := congrArg Prod.snd hx
    dsimp only at e
    rw [← hy] at e
    rw [done_put2, ← hb1, ← hb2, ← hA, ← hz, hB] at e
    rw [← e]
    cases b2 <;> rfl
  have hxx : x = ⟨⟨c.x.p, y, h.d, false⟩, 0⟩ := by
    have e := congrArg Prod.fst hx
    dsimp only at e
    rw [← e, hy]
  subst hxx
  clear R g l k hx hfl ht hy hb1 hb2 hz hA hin tk ok q0 q1 hf hd8 Alt
  obtain ⟨hc, hfl, hs, hd⟩ := h
  obtain ⟨⟨xp, xe, xo, xr⟩, xk⟩ := c
  obtain ⟨sp, su, sd⟩ := s
  obtain ⟨tp, tu, td⟩ := t
  dsimp only at o0 k0
  subst o0 k0
  dsimp only [Ho.v, Ho.box, Ca.v, Ca.qbox, Sp.v, Sp.box, Dn.v, Dn.qbox, dv, zCa, zDn, zSp, De.v, De.box] at *
  simp only [show ((0 : Nat) : Int) = 0 from rfl] at *
  go_enter Tryz.func17, Tryz.ntmps17
  go_upto_region 1 with fail
  generalize World.alloc (World.alloc (World.alloc (World.alloc (World.alloc w _) _) _) _) _ = w0 at *
  obtain ⟨i0, i1, i2, i3⟩ := TB.out.h.cells
  dsimp only at i0 i1 i2 i3
  go_wp2_with fail
  with_reducible refine (RV.out _).mono ?_
  rintro v w1 ⟨rfl, hg⟩
  have T1 := Lib.hid (TB.out.fr hg)
  clear hg i0 i1 i2 i3 TB RV
  obtain ⟨i0, i1, i2, i3⟩ := T1.out.h.cells
  obtain ⟨c0, c1, c2, c3, c4⟩ := T1.out.c.cells
  dsimp only at i0 i1 i2 i3 c0 c1 c2 c3 c4
  go_wp2_with fail
  with_reducible refine (RR.out _).mono ?_
  rintro v w2 ⟨rfl, hg⟩
  have T2 := Lib.hid (T1.out.fr hg)
  clear hg i0 i1 i2 i3 c0 c1 c2 c3 c4 T1 RR
  have T3 := Lib.hid (RT.new T2.out)
  dsimp only [zDn, zSp, Dn.qbox] at T3
  simp only [show ((0 : Nat) : Int) = 0 from rfl] at T3
  go_upto_region 4 with fail
  obtain ⟨n, hn⟩ : ∃ n, w2.heap.size = n := ⟨_, rfl⟩
  rw [hn] at T3
  rw [hn]
  clear hn
  generalize World.alloc w2 _ = w3 at *
  clear T2
  obtain ⟨i0, i1, i2, i3⟩ := T3.out.q.h.cells
  dsimp only at i0 i1 i2 i3
  obtain ⟨c0, c1, c2, c3, c4⟩ := T3.out.q.c.cells
  dsimp only at c0 c1 c2 c3 c4
  go_wp2_with fail
  with_reducible refine (LV.out _).mono ?_
  rintro v w11 ⟨rfl, hg⟩
  have T11 := Lib.hid (T3.out.fr hg)
  clear i0 i1 i2 i3 c0 c1 c2 c3 c4 hg T3 LV
  have T12 := Lib.hid (show RT w n ⟨hc, hfl, hs, hd⟩ ⟨⟨xp, xe, 0, false⟩, 0⟩ ⟨sp, su, sd⟩ ⟨false, false, 0, 0, 0, ⟨0, 0, 0⟩⟩ (w11.setCell ⟨w.heap.size + 1, 3, none⟩ (.bool false)) from T11.out.car (Fr.setCell w11 (w.heap.size + 1) 3 _ (by simp)) (T11.out.q.c.put3 false))
  obtain ⟨c0, c1, c2, c3, c4⟩ := T11.out.q.c.cells
  dsimp only at c0 c1 c2 c3 c4
  have zf := T11.out.q.c.fz 3
  go_upto_region 23 with fail
  generalize World.setCell w11 _ _ = w12 at *
  clear c0 c1 c2 c3 c4 zf T11
  obtain ⟨i0, i1, i2, i3⟩ := T12.out.q.h.cells
  dsimp only at i0 i1 i2 i3
  obtain ⟨c0, c1, c2, c3, c4⟩ := T12.out.q.c.cells
  dsimp only at c0 c1 c2 c3 c4
  go_wp2_with fail
  with_reducible refine (FL.out _).mono ?_
  rintro v w13 ⟨rfl, hg⟩
  have T13 := Lib.hid (T12.out.fr hg)
  clear i0 i1 i2 i3 c0 c1 c2 c3 c4 hg T12 FL
  go_upto_region 24 with fail
  refine wp_region_noPanic ?_
  refine wp_region_mix (M := RZ w13 w.heap.size ⟨hc, hfl, hs, hd⟩ ⟨⟨xp, xe, 0, false⟩, 0⟩ ⟨sp, su, sd⟩) (fun i => match i with | 8 => some (ptrTo, De.box 86 zDe) | _ => none) [] w13.heap.size 9 (by kernel_rfl) (by kernel_rfl) (by kernel_rfl) (RZ.lasts _ _ _ _ _) RZ.size (RZ.lasts _ _ _ _ _ _ _ T13.out.rz (Fr.drew _ [])) ?_
  refine wpMixU_take (i := 0) (oi := _) (v := ?mv1) (by decide) (by kernel_rfl) (by simp only [List.getElem?_toArray, List.getElem?_cons_zero]; rfl) (by rfl) (by kernel_rfl) (by kernel_rfl) (by kernel_rfl) (by rfl) ?my1 ?mr1
  case my1 => (intro M' hst him w hM; have hSw := him w hM; (try dsimp only [RZ] at hSw); go_simp; refine Came.value ?_ hM; with_reducible rfl)
  try simp only [Act.put, List.setIfInBounds_toArray, List.set_cons_zero, List.set_cons_succ]
  refine wpMixU_take (i := 1) (oi := _) (v := ?mv2) (by decide) (by kernel_rfl) (by simp only [List.getElem?_toArray, List.getElem?_cons_zero, List.getElem?_cons_succ]; rfl) (by rfl) (by kernel_rfl) (by kernel_rfl) (by kernel_rfl) (by rfl) ?my2 ?mr2
  case my2 => (intro M' hst him w hM; have hSw := him w hM; (try dsimp only [RZ] at hSw); go_simp; refine Came.value ?_ hM; with_reducible rfl)
  try simp only [Act.put, List.setIfInBounds_toArray, List.set_cons_zero, List.set_cons_succ]
  refine wpMixU_take (i := 3) (oi := _) (v := ?mv3) (by decide) (by kernel_rfl) (by simp only [List.getElem?_toArray, List.getElem?_cons_zero, List.getElem?_cons_succ]; rfl) (by rfl) (by kernel_rfl) (by kernel_rfl) (by kernel_rfl) (by rfl) ?my3 ?mr3
  case my3 => (intro M' hst him w hM; have hSw := him w hM; (try dsimp only [RZ] at hSw); go_simp; refine Came.value ?_ hM; with_reducible rfl)
  try simp only [Act.put, List.setIfInBounds_toArray, List.set_cons_zero, List.set_cons_succ]
  refine wpMixU_take (i := 4) (oi := _) (v := ?mv4) (by decide) (by kernel_rfl) (by simp only [List.getElem?_toArray, List.getElem?_cons_zero, List.getElem?_cons_succ]; rfl) (by rfl) (by kernel_rfl) (by kernel_rfl) (by kernel_rfl) (by rfl) ?my4 ?mr4
  case my4 => (intro M' hst him w hM; have hSw := him w hM; (try dsimp only [RZ] at hSw); go_simp; refine Came.value ?_ hM; with_reducible rfl)
  try simp only [Act.put, List.setIfInBounds_toArray, List.set_cons_zero, List.set_cons_succ]
  refine wpMixU_take (i := 5) (oi := _) (v := ?mv5) (by decide) (by kernel_rfl) (by simp only [List.getElem?_toArray, List.getElem?_cons_zero, List.getElem?_cons_succ]; rfl) (by rfl) (by kernel_rfl) (by kernel_rfl) (by kernel_rfl) (by rfl) ?my5 ?mr5
  case my5 => (intro M' hst him w hM; have hSw := him w hM; (try dsimp only [RZ] at hSw); go_simp; refine Came.value ?_ hM; with_reducible rfl)
  try simp only [Act.put, List.setIfInBounds_toArray, List.set_cons_zero, List.set_cons_succ]
  refine wpMixU_take (i := 6) (oi := _) (v := ?mv6) (by decide) (by kernel_rfl) (by simp only [List.getElem?_toArray, List.getElem?_cons_zero, List.getElem?_cons_succ]; rfl) (by rfl) (by kernel_rfl) (by kernel_rfl) (by kernel_rfl) (by rfl) ?my6 ?mr6
  case my6 => (intro M' hst him w hM; have hSw := him w hM; (try dsimp only [RZ] at hSw); go_simp; refine Came.value ?_ hM; with_reducible rfl)
  try simp only [Act.put, List.setIfInBounds_toArray, List.set_cons_zero, List.set_cons_succ]
  refine wpMixU_take (i := 2) (oi := _) (v := ?mv7) (by decide) (by kernel_rfl) (by simp only [List.getElem?_toArray, List.getElem?_cons_zero, List.getElem?_cons_succ]; rfl) (by rfl) (by kernel_rfl) (by kernel_rfl) (by kernel_rfl) (by rfl) ?my7 ?mr7
  case my7 => (intro M' hst him w hM; have hSw := him w hM; (try dsimp only [RZ] at hSw); go_simp; exact Came.call ((FI.out w).mono fun e w' ⟨he, hf⟩ => ⟨he, hst _ _ hM hf⟩) (by with_reducible rfl))
  try simp only [Act.put, List.setIfInBounds_toArray, List.set_cons_zero, List.set_cons_succ]
  refine wpMixU_take (i := 7) (oi := _) (v := ?mv8) (by decide) (by kernel_rfl) (by simp only [List.getElem?_toArray, List.getElem?_cons_zero, List.getElem?_cons_succ]; rfl) (by rfl) (by kernel_rfl) (by kernel_rfl) (by kernel_rfl) (by rfl) ?my8 ?mr8
  case my8 => (intro M' hst him w hM; have hSw := him w hM; (try dsimp only [RZ] at hSw); go_simp; exact Came.call ((PL.out w).mono fun e w' ⟨he, hf⟩ => ⟨he, hst _ _ hM hf⟩) (by with_reducible rfl))
  try simp only [Act.put, List.setIfInBounds_toArray, List.set_cons_zero, List.set_cons_succ]
  refine wpMixU_new (i := 8) (oi := _) [8] (by decide) (by kernel_rfl) (by simp only [List.getElem?_toArray, List.getElem?_cons_zero, List.getElem?_cons_succ]; rfl) (by rfl) (by kernel_rfl) (by kernel_rfl) (by kernel_rfl) (by kernel_rfl) (by kernel_rfl) (by kernel_rfl) (by rfl) ?my9 ?mr9
  case my9 => (intro w; go_simp; first | done | rfl | exact ⟨rfl, rfl⟩)
  intro p8
  try simp only [ptrTo, oneTo]
  try simp only [Act.put, List.setIfInBounds_toArray, List.set_cons_zero, List.set_cons_succ]
  refine wpMixU_tail (fun _ => True) (by kernel_rfl) (fun _ _ => trivial) ?_
  intro v5 hM
  have U5 := Lib.hid (T13.out.fr hM.1.1)
  have DL := Lib.hid (show w.heap.size + 4 < p8 ∧ n < p8 from ⟨Nat.lt_of_lt_of_le (size_of_row T13.out.q.e) hM.2.1, Nat.lt_of_lt_of_le (size_of_row T13.out.d) hM.2.1⟩)
  have B5 := Lib.hid hM.2.2
  clear hM T13 PL
  have DB := Lib.hid (aset B5.out (.bool true) (.int .i64 y) (.int .i64 0))
  have T30 := Lib.hid (U5.out.far (aset_fr v5 p8 (.bool true) (.int .i64 y) (.int .i64 0)) DL.out)
  obtain ⟨q0, q1, q2⟩ := arow B5.out
  have z0 := frozen_of_row _ _ 0 _ _ B5.out
  have z1 := frozen_of_row _ _ 1 _ _ B5.out
  have z2 := frozen_of_row _ _ 2 _ _ B5.out
  dsimp only [zDe] at q0 q1 q2
  refine wpAnyH_ready (rs := [9]) (by kernel_rfl) (by simp) ?_
  refine AllReadyH.cons (o := _) rfl (fun K hK => ?_) AllReadyH.nil
  go_simp
  refine hK.out _ _ trivial (fun hHeld => ?_)
  clear hK K
  try simp only [Act.put, List.setIfInBounds_toArray, List.set_cons_zero, List.set_cons_succ]
  refine wpAnyH_done (by kernel_rfl) ?_ _
  refine NoPanic.normal ?_
  clear hHeld
  generalize World.setCell (World.setCell (World.setCell v5 _ _) _ _) _ _ = w30 at *
  clear q0 q1 q2 z0 z1 z2 U5 B5
  have T31 := Lib.hid (show RT w n ⟨hc, hfl, hs, hd⟩ ⟨⟨xp, y, 0, false⟩, 0⟩ ⟨sp, su, sd⟩ ⟨false, false, 0, 0, 0, ⟨0, 0, 0⟩⟩ (w30.setCell ⟨w.heap.size + 1, 1, none⟩ (.int .i64 y)) from T30.out.car (Fr.setCell w30 (w.heap.size + 1) 1 _ (by simp)) (T30.out.q.c.put1 y))
  obtain ⟨q0, q1, q2⟩ := arow DB.out
  have DB2 := Lib.hid ((Fr.setCell w30 (w.heap.size + 1) 1 (.int .i64 y) (S := [w.heap.size + 1]) (by simp)).heap DB.out (by have := DL.out; simp; omega))
  obtain ⟨c0, c1, c2, c3, c4⟩ := T30.out.q.c.cells
  dsimp only at c0 c1 c2 c3 c4
  have zf := T30.out.q.c.fz 1
  go_upto_region 26 with fail
  generalize World.setCell w30 _ _ = w31 at *
  clear q0 q1 q2 DB
  have DB := DB2
  clear DB2
  clear c0 c1 c2 c3 c4 zf T30
  obtain ⟨i0, i1, i2, i3⟩ := T31.out.q.h.cells
  dsimp only at i0 i1 i2 i3
  obtain ⟨q0, q1, q2⟩ := arow DB.out
  go_wp2_with fail
  with_reducible refine (OD.out _).mono ?_
  rintro v w32 ⟨rfl, hg⟩
  have T32 := Lib.hid (T31.out.fr hg)
  replace DB := Lib.hid (hg.heap DB.out (by simp))
  clear q0 q1 q2
  clear i0 i1 i2 i3 hg T31 OD
  have hfd := door_field hd 0
  have T33 := Lib.hid (show RT w n ⟨hc, hfl, hs, hd⟩ ⟨⟨xp, y, hd, false⟩, 0⟩ ⟨sp, su, sd⟩ ⟨false, false, 0, 0, 0, ⟨0, 0, 0⟩⟩ (w32.setCell ⟨w.heap.size + 1, 2, none⟩ (.int .i64 hd)) from T32.out.car (Fr.setCell w32 (w.heap.size + 1) 2 _ (by simp)) (T32.out.q.c.put2 hd))
  obtain ⟨q0, q1, q2⟩ := arow DB.out
  have DB2 := Lib.hid ((Fr.setCell w32 (w.heap.size + 1) 2 (.int .i64 hd) (S := [w.heap.size + 1]) (by simp)).heap DB.out (by have := DL.out; simp; omega))
  obtain ⟨i0, i1, i2, i3⟩ := T32.out.q.h.cells
  dsimp only at i0 i1 i2 i3
  obtain ⟨c0, c1, c2, c3, c4⟩ := T32.out.q.c.cells
  dsimp only at c0 c1 c2 c3 c4
  have zf := T32.out.q.c.fz 2
  go_upto_region 28 with fail
  generalize World.setCell w32 _ _ = w33 at *
  clear q0 q1 q2 DB
  have DB := DB2
  clear DB2
  clear c0 c1 c2 c3 c4 i0 i1 i2 i3 zf T32
  clear hfd
  have T34 := Lib.hid (show RT w n ⟨hc, hfl, hs, hd⟩ ⟨⟨xp, y, hd, false⟩, 0⟩ ⟨sp, su, sd⟩ ⟨false, false, 0, 0, 0, ⟨0, 0, 0⟩⟩ (w33.setCell ⟨w.heap.size + 1, 4, none⟩ (.int .i64 0)) from T33.out.car (Fr.setCell w33 (w.heap.size + 1) 4 _ (by simp)) (T33.out.q.c.put4 0))
  obtain ⟨q0, q1, q2⟩ := arow DB.out
  have DB2 := Lib.hid ((Fr.setCell w33 (w.heap.size + 1) 4 (.int .i64 0) (S := [w.heap.size + 1]) (by simp)).heap DB.out (by have := DL.out; simp; omega))
  obtain ⟨c0, c1, c2, c3, c4⟩ := T33.out.q.c.cells
  dsimp only at c0 c1 c2 c3 c4
  have zf := T33.out.q.c.fz 4
  go_upto_region 29 with fail
  generalize World.setCell w33 _ _ = w34 at *
  clear q0 q1 q2 DB
  have DB := DB2
  clear DB2
  clear c0 c1 c2 c3 c4 zf T33
  have T35 := Lib.hid (show RT w n ⟨hc, hfl, hs, hd⟩ ⟨⟨xp, y, hd, false⟩, 0⟩ ⟨sp, su, sd⟩ ⟨true, false, 0, 0, 0, ⟨0, 0, 0⟩⟩ (w34.setCell ⟨n, 0, none⟩ (.bool true)) from T34.out.deed (Fr.setCell w34 n 0 _ (by simp)) (T34.out.d.put 0 _ _ rfl))
  obtain ⟨q0, q1, q2⟩ := arow DB.out
  have DB2 := Lib.hid ((Fr.setCell w34 n 0 (.bool true) (S := [n]) (by simp)).heap DB.out (by have := DL.out; simp; omega))
  obtain ⟨n0, n1, n2, n3, n4, n5, n6, n7⟩ := T34.out.d.cells
  dsimp only at n0 n1 n2 n3 n4 n5 n6 n7
  have zf := T34.out.d.fz 0
  go_upto_region 30 with fail
  generalize World.setCell w34 _ _ = w35 at *
  clear q0 q1 q2 DB
  have DB := DB2
  clear DB2
  clear n0 n1 n2 n3 n4 n5 n6 n7 zf T34
  have T36 := Lib.hid (show RT w n ⟨hc, hfl, hs, hd⟩ ⟨⟨xp, y, hd, false⟩, 0⟩ ⟨sp, su, sd⟩ ⟨true, false, 0, y, 0, ⟨0, 0, 0⟩⟩ (w35.setCell ⟨n, 3, none⟩ (.int .i64 y)) from T35.out.deed (Fr.setCell w35 n 3 _ (by simp)) (T35.out.d.put 3 _ _ rfl))
  obtain ⟨q0, q1, q2⟩ := arow DB.out
  have DB2 := Lib.hid ((Fr.setCell w35 n 3 (.int .i64 y) (S := [n]) (by simp)).heap DB.out (by have := DL.out; simp; omega))
  obtain ⟨n0, n1, n2, n3, n4, n5, n6, n7⟩ := T35.out.d.cells
  dsimp only at n0 n1 n2 n3 n4 n5 n6 n7
  have zf := T35.out.d.fz 3
  go_upto_region 31 with fail
  generalize World.setCell w35 _ _ = w36 at *
  clear q0 q1 q2 DB
  have DB := DB2
  clear DB2
  clear n0 n1 n2 n3 n4 n5 n6 n7 zf T35
  obtain ⟨s0, s1, s2⟩ := arow T36.out.q.s
  dsimp only at s0 s1 s2
  obtain ⟨q0, q1, q2⟩ := arow DB.out
  go_wp2_with fail
  with_reducible refine (AT.out _).mono ?_
  rintro v w37 ⟨rfl, hg⟩
  have T37 := Lib.hid (T36.out.fr hg)
  replace DB := Lib.hid (hg.heap DB.out (by simp))
  clear q0 q1 q2
  clear s0 s1 s2 hg T36 AT
  cases b1 with
  | false =>
    have PU := Lib.hid (PU0.out 0 (by rfl))
    have HD := Lib.hid (HD0.out 0 (by rfl))
    clear PU0 HD0 ON
    try simp only [show ((0 : Nat) : Int) = 0 from rfl] at PU
    go_upto_region 33 with fail
    have D33 := Lib.hid (RQ.lasts _ _ _ _ _ _ _ _ _ (show RQ w37 w.heap.size p8 ⟨hc, hfl, hs, hd⟩ ⟨⟨xp, y, hd, false⟩, 0⟩ ⟨sp, su, sd⟩ ⟨true, y, 0⟩ w37 from ⟨T37.out.rz, arow DB.out⟩) (Fr.drew _ []))
    refine wp_region_det (S := RQ w37 w.heap.size p8 ⟨hc, hfl, hs, hd⟩ ⟨⟨xp, y, hd, false⟩, 0⟩ ⟨sp, su, sd⟩ ⟨true, y, 0⟩) (by kernel_rfl) D33.out ?_
    refine wpDet_take (i := 0) (oi := _) (v := ?dv10) (by simp only [List.getElem?_toArray, List.getElem?_cons_zero]; rfl) (by kernel_rfl) (by kernel_rfl) (by kernel_rfl) (Or.inl ⟨by rfl, ?dy10⟩) ?dr10
    case dy10 => (intro w hSw; have hS0 := hSw; (try dsimp only [RQ,RZ] at hSw); go_simp; refine Came.value ?_ hS0; with_reducible rfl)
    try simp only [Act.put, List.setIfInBounds_toArray, List.set_cons_zero, List.set_cons_succ]
    refine wpDet_take (i := 1) (oi := _) (v := ?dv11) (by simp only [List.getElem?_toArray, List.getElem?_cons_zero, List.getElem?_cons_succ]; rfl) (by kernel_rfl) (by kernel_rfl) (by kernel_rfl) (Or.inl ⟨by rfl, ?dy11⟩) ?dr11
    case dy11 => (intro w hSw; have hS0 := hSw; (try dsimp only [RQ,RZ] at hSw); go_simp; refine Came.value ?_ hS0; with_reducible rfl)
    try simp only [Act.put, List.setIfInBounds_toArray, List.set_cons_zero, List.set_cons_succ]
    refine wpDet_take (i := 3) (oi := _) (v := ?dv12) (by simp only [List.getElem?_toArray, List.getElem?_cons_zero, List.getElem?_cons_succ]; rfl) (by kernel_rfl) (by kernel_rfl) (by kernel_rfl) (Or.inl ⟨by rfl, ?dy12⟩) ?dr12
    case dy12 => (intro w hSw; have hS0 := hSw; (try dsimp only [RQ,RZ] at hSw); go_simp; refine Came.value ?_ hS0; with_reducible rfl)
    try simp only [Act.put, List.setIfInBounds_toArray, List.set_cons_zero, List.set_cons_succ]
    refine wpDet_take (i := 4) (oi := _) (v := ?dv13) (by simp only [List.getElem?_toArray, List.getElem?_cons_zero, List.getElem?_cons_succ]; rfl) (by kernel_rfl) (by kernel_rfl) (by kernel_rfl) (Or.inl ⟨by rfl, ?dy13⟩) ?dr13
    case dy13 => (intro w hSw; have hS0 := hSw; (try dsimp only [RQ,RZ] at hSw); go_simp; refine Came.value ?_ hS0; with_reducible rfl)
    try simp only [Act.put, List.setIfInBounds_toArray, List.set_cons_zero, List.set_cons_succ]
    refine wpDet_take (i := 5) (oi := _) (v := ?dv14) (by simp only [List.getElem?_toArray, List.getElem?_cons_zero, List.getElem?_cons_succ]; rfl) (by kernel_rfl) (by kernel_rfl) (by kernel_rfl) (Or.inl ⟨by rfl, ?dy14⟩) ?dr14
    case dy14 => (intro w hSw; have hS0 := hSw; (try dsimp only [RQ,RZ] at hSw); go_simp; refine Came.value ?_ hS0; with_reducible rfl)
    try simp only [Act.put, List.setIfInBounds_toArray, List.set_cons_zero, List.set_cons_succ]
    refine wpDet_take (i := 2) (oi := _) (v := ?dv15) (by simp only [List.getElem?_toArray, List.getElem?_cons_zero, List.getElem?_cons_succ]; rfl) (by kernel_rfl) (by kernel_rfl) (by kernel_rfl) (Or.inl ⟨by rfl, ?dy15⟩) ?dr15
    case dy15 => (intro w hSw; go_simp; exact Came.call ((FI.out w).mono fun e w' ⟨he, hf⟩ => ⟨he, RQ.lasts _ _ _ _ _ _ _ _ _ hSw hf⟩) (by with_reducible rfl))
    try simp only [Act.put, List.setIfInBounds_toArray, List.set_cons_zero, List.set_cons_succ]
    refine wpDet_take (i := 6) (oi := _) (v := ?dv16) (by simp only [List.getElem?_toArray, List.getElem?_cons_zero, List.getElem?_cons_succ]; rfl) (by kernel_rfl) (by kernel_rfl) (by kernel_rfl) (Or.inl ⟨by rfl, ?dy16⟩) ?dr16
    case dy16 => (intro w hSw; go_simp; exact Came.call ((HA.out w).mono fun e w' ⟨he, hf⟩ => ⟨he, RQ.lasts _ _ _ _ _ _ _ _ _ hSw hf⟩) (by with_reducible rfl))
    try simp only [Act.put, List.setIfInBounds_toArray, List.set_cons_zero, List.set_cons_succ]
    refine wpDet_done (by kernel_rfl) ?_ _
    rintro w50 hS
    have T50 := Lib.hid (T37.out.fr hS.1.1)
    replace DB := Lib.hid (hS.1.1.heap DB.out (by simp))
    clear hS D33 T37 FI HA
    cases b2 with
    | false =>
      have dz : d = ⟨true, false, fl, y, 0, ⟨0, 0, 0⟩⟩ := HD.out
      subst dz
      try dsimp only [Dn.v]
      try simp only [show ((0 : Nat) : Int) = 0 from rfl]
      clear HD PU
      go_upto_region 35 with fail
      have T51 := Lib.hid (show RT w n ⟨hc, hfl, hs, hd⟩ ⟨⟨xp, y, hd, false⟩, 0⟩ ⟨sp, su, sd⟩ ⟨true, false, fl, y, 0, ⟨0, 0, 0⟩⟩ (w50.setCell ⟨n, 2, none⟩ (.int .i64 fl)) from T50.out.deed (Fr.setCell w50 n 2 _ (by simp)) (T50.out.d.put 2 _ _ rfl))
      obtain ⟨q0, q1, q2⟩ := arow DB.out
      have DB2 := Lib.hid ((Fr.setCell w50 n 2 (.int .i64 fl) (S := [n]) (by simp)).heap DB.out (by have := DL.out; simp; omega))
      obtain ⟨n0, n1, n2, n3, n4, n5, n6, n7⟩ := T50.out.d.cells
      dsimp only at n0 n1 n2 n3 n4 n5 n6 n7
      have zf := T50.out.d.fz 2
      go_upto_region 36 with fail
      generalize World.setCell w50 _ _ = w51 at *
      clear q0 q1 q2 DB
      have DB := DB2
      clear DB2
      clear n0 n1 n2 n3 n4 n5 n6 n7 zf T50
      clear DB DL
      have U6 := Lib.hid (RE.of T51.out)
      have U7 := Lib.hid (U6.out.one ⟨⟨xp, y, hd, false⟩, 0⟩)
      have U8 := Lib.hid (U7.out.two ⟨true, false, fl, y, 0, ⟨0, 0, 0⟩⟩)
      have U9 := Lib.hid (U8.out.fr (Fr.drew _ []))
      obtain ⟨r0, r1, r2, r3, r4⟩ := U6.out.y.cells
      have y0 := U6.out.y.fz 0
      have y1 := U6.out.y.fz 1
      have y2 := U6.out.y.fz 2
      have y3 := U6.out.y.fz 3
      have y4 := U6.out.y.fz 4
      obtain ⟨n0, n1, n2, n3, n4, n5, n6, n7⟩ := U6.out.e.cells
      have m0 := U6.out.e.fz 0
      have m1 := U6.out.e.fz 1
      have m2 := U6.out.e.fz 2
      have m3 := U6.out.e.fz 3
      have m4 := U6.out.e.fz 4
      have m5 := U6.out.e.fz 5
      have m6 := U6.out.e.fz 6
      have m7 := U6.out.e.fz 7
      dsimp only [zCa, zDn, zSp] at r0 r1 r2 r3 r4 n0 n1 n2 n3 n4 n5 n6 n7
      simp only [show ((0 : Nat) : Int) = 0 from rfl] at n5 n6 n7
      clear T51
      go_wp2_with fail
      refine wp_region_noPanic ?_
      refine wp_region_held_drew (S := (RY (w.heap.size + 1) n ⟨⟨xp, y, hd, false⟩, 0⟩ ⟨true, false, fl, y, 0, ⟨0, 0, 0⟩⟩)) (by kernel_rfl) (U6.out.fr (Fr.drew _ [])).ry (fun hHeld => ?_)
      refine wpAnyH_take (i := 0) (oi := _) (v := ?fv0h17n18) (by simp only [List.getElem?_toArray, List.getElem?_cons_zero]; rfl) (by kernel_rfl) (by kernel_rfl) (by kernel_rfl) (fun _ _ _ h => h) (Or.inl ⟨by rfl, ?fy0h17n18⟩) (by assumption) ?fr0h17n18
      case fy0h17n18 => (intro w hSw; (try dsimp only [RY] at hSw); go_simp; try with_reducible rfl)
      try simp only [Act.put, List.setIfInBounds_toArray, List.set_cons_zero, List.set_cons_succ]
      refine wpAnyH_take (i := 1) (oi := _) (v := ?fv1h17n18) (by simp only [List.getElem?_toArray, List.getElem?_cons_zero, List.getElem?_cons_succ]; rfl) (by kernel_rfl) (by kernel_rfl) (by kernel_rfl) (fun _ _ _ h => h) (Or.inl ⟨by rfl, ?fy1h17n18⟩) (by assumption) ?fr1h17n18
      case fy1h17n18 => (intro w hSw; (try dsimp only [RY] at hSw); go_simp; try with_reducible rfl)
      try simp only [Act.put, List.setIfInBounds_toArray, List.set_cons_zero, List.set_cons_succ]
      refine wpAnyH_ready (rs := [2]) (by kernel_rfl) (by simp) ?_
      refine AllReadyH.cons (o := _) rfl (fun K hK => ?_) AllReadyH.nil
      go_simp
      refine hK.out _ _ (U7.out.fr (Fr.drew _ [])).ry (fun hHeld => ?_)
      clear hK K
      try simp only [Act.put, List.setIfInBounds_toArray, List.set_cons_zero, List.set_cons_succ]
      refine wpAnyH_ready (rs := [3]) (by kernel_rfl) (by simp) ?_
      refine AllReadyH.cons (o := _) rfl (fun K hK => ?_) AllReadyH.nil
      go_simp
      refine hK.out _ _ (U8.out.fr (Fr.drew _ [])).ry (fun hHeld => ?_)
      clear hK K
      try simp only [Act.put, List.setIfInBounds_toArray, List.set_cons_zero, List.set_cons_succ]
      refine wpAnyH_done (by kernel_rfl) ?_ _
      refine NoPanic.normal ?_
      clear hHeld
      dsimp only [carSet, dnSet] at U9
      try simp only [show ((0 : Nat) : Int) = 0 from rfl] at U9
      go_wp2
      generalize World.drew (World.setCell (World.setCell (World.setCell (World.setCell (World.setCell (World.setCell (World.setCell (World.setCell (World.setCell (World.setCell (World.setCell (World.setCell (World.setCell w51 _ _) _ _) _ _) _ _) _ _) _ _) _ _) _ _) _ _) _ _) _ _) _ _) _ _) = v9 at *
      obtain ⟨x0, x1, x2, x3, x4⟩ := U9.out.y.cells
      obtain ⟨e0, e1, e2, e3, e4, e5, e6, e7⟩ := U9.out.e.cells
      dsimp only at x0 x1 x2 x3 x4 e0 e1 e2 e3 e4 e5 e6 e7
      try simp only [show ((0 : Nat) : Int) = 0 from rfl] at e5 e6 e7
      exact bodyPost_ret (v := .tuple #[.agg #[.int .i64 xp, .int .i64 y, .int .i64 hd, .bool false, .int .i64 0], .agg #[.bool true, .bool false, .int .i64 fl, .int .i64 y, .int .i64 0, .int .u64 0, .int .u64 0, .int .u64 0]]) (by simp [results, Tryz.results17, go_sem, x0, x1, x2, x3, x4, e0, e1, e2, e3, e4, e5, e6, e7]) rfl ⟨rfl, U9.out.f⟩
    | true =>
      have dz : d = ⟨true, false, fl, y, 0, z⟩ := HD.out
      subst dz
      obtain ⟨zc, zu, zv⟩ := z
      dsimp only [Dn.v, Sp.v] at *
      clear HD
      obtain ⟨n0, n1, n2, n3, n4, n5, n6, n7⟩ := T50.out.d.cells
      dsimp only at n0 n1 n2 n3 n4 n5 n6 n7
      obtain ⟨q0, q1, q2⟩ := arow DB.out
      go_wp2_with fail
      with_reducible refine (PU.out _).mono ?_
      rintro v w51 ⟨rfl, hg⟩
      have T51 := Lib.hid (T50.out.fr hg)
      replace DB := Lib.hid (hg.heap DB.out (by simp))
      clear q0 q1 q2
      clear n0 n1 n2 n3 n4 n5 n6 n7 hg T50 PU
      have V1 := Lib.hid (show QN (w51.setCell ⟨n, 5, none⟩ (.int .u64 zc)) n ⟨true, false, 0, y, 0, ⟨zc, 0, 0⟩⟩ from T51.out.d.put 5 _ _ rfl)
      have V2 := Lib.hid (show QN ((w51.setCell ⟨n, 5, none⟩ (.int .u64 zc)).setCell ⟨n, 6, none⟩ (.int .u64 zu)) n ⟨true, false, 0, y, 0, ⟨zc, zu, 0⟩⟩ from V1.out.put 6 _ _ rfl)
      have V3 := Lib.hid (show QN (((w51.setCell ⟨n, 5, none⟩ (.int .u64 zc)).setCell ⟨n, 6, none⟩ (.int .u64 zu)).setCell ⟨n, 7, none⟩ (.int .u64 zv)) n ⟨true, false, 0, y, 0, ⟨zc, zu, zv⟩⟩ from V2.out.put 7 _ _ rfl)
      have VF := Lib.hid (((Fr.setCell w51 n 5 (.int .u64 zc) (S := [n]) (by simp)).trans (Fr.setCell _ n 6 (.int .u64 zu) (S := [n]) (by simp))).trans (Fr.setCell _ n 7 (.int .u64 zv) (S := [n]) (by simp)))
      have T60 := Lib.hid (T51.out.deed VF.out V3.out)
      have DB2 := Lib.hid (VF.out.heap DB.out (by have := DL.out; simp; omega))
      obtain ⟨n0, n1, n2, n3, n4, n5, n6, n7⟩ := T51.out.d.cells
      have m5 := T51.out.d.fz 5
      have m6 := T51.out.d.fz 6
      have m7 := T51.out.d.fz 7
      dsimp only at n0 n1 n2 n3 n4 n5 n6 n7
      clear V1 V2 V3 VF
      go_upto_region 35 with fail
      generalize World.setCell (World.setCell (World.setCell w51 _ _) _ _) _ _ = w60 at *
      clear n0 n1 n2 n3 n4 n5 n6 n7 m5 m6 m7 T51 DB
      have DB := DB2
      clear DB2
      have T61 := Lib.hid (show RT w n ⟨hc, hfl, hs, hd⟩ ⟨⟨xp, y, hd, false⟩, 0⟩ ⟨sp, su, sd⟩ ⟨true, false, fl, y, 0, ⟨zc, zu, zv⟩⟩ (w60.setCell ⟨n, 2, none⟩ (.int .i64 fl)) from T60.out.deed (Fr.setCell w60 n 2 _ (by simp)) (T60.out.d.put 2 _ _ rfl))
      obtain ⟨q0, q1, q2⟩ := arow DB.out
      have DB2 := Lib.hid ((Fr.setCell w60 n 2 (.int .i64 fl) (S := [n]) (by simp)).heap DB.out (by have := DL.out; simp; omega))
      obtain ⟨n0, n1, n2, n3, n4, n5, n6, n7⟩ := T60.out.d.cells
      dsimp only at n0 n1 n2 n3 n4 n5 n6 n7
      have zf := T60.out.d.fz 2
      go_upto_region 36 with fail
      generalize World.setCell w60 _ _ = w61 at *
      clear q0 q1 q2 DB
      have DB := DB2
      clear DB2
      clear n0 n1 n2 n3 n4 n5 n6 n7 zf T60
      clear DB DL
      have U6 := Lib.hid (RE.of T61.out)
      have U7 := Lib.hid (U6.out.one ⟨⟨xp, y, hd, false⟩, 0⟩)
      have U8 := Lib.hid (U7.out.two ⟨true, false, fl, y, 0, ⟨zc, zu, zv⟩⟩)
      have U9 := Lib.hid (U8.out.fr (Fr.drew _ []))
      obtain ⟨r0, r1, r2, r3, r4⟩ := U6.out.y.cells
      have y0 := U6.out.y.fz 0
      have y1 := U6.out.y.fz 1
      have y2 := U6.out.y.fz 2
      have y3 := U6.out.y.fz 3
      have y4 := U6.out.y.fz 4
      obtain ⟨n0, n1, n2, n3, n4, n5, n6, n7⟩ := U6.out.e.cells
      have m0 := U6.out.e.fz 0
      have m1 := U6.out.e.fz 1
      have m2 := U6.out.e.fz 2
      have m3 := U6.out.e.fz 3
      have m4 := U6.out.e.fz 4
      have m5 := U6.out.e.fz 5
      have m6 := U6.out.e.fz 6
      have m7 := U6.out.e.fz 7
      dsimp only [zCa, zDn, zSp] at r0 r1 r2 r3 r4 n0 n1 n2 n3 n4 n5 n6 n7
      simp only [show ((0 : Nat) : Int) = 0 from rfl] at n5 n6 n7
      clear T61
      go_wp2_with fail
      refine wp_region_noPanic ?_
      refine wp_region_held_drew (S := (RY (w.heap.size + 1) n ⟨⟨xp, y, hd, false⟩, 0⟩ ⟨true, false, fl, y, 0, ⟨zc, zu, zv⟩⟩)) (by kernel_rfl) (U6.out.fr (Fr.drew _ [])).ry (fun hHeld => ?_)
      refine wpAnyH_take (i := 0) (oi := _) (v := ?fv0h19n20) (by simp only [List.getElem?_toArray, List.getElem?_cons_zero]; rfl) (by kernel_rfl) (by kernel_rfl) (by kernel_rfl) (fun _ _ _ h => h) (Or.inl ⟨by rfl, ?fy0h19n20⟩) (by assumption) ?fr0h19n20
      case fy0h19n20 => (intro w hSw; (try dsimp only [RY] at hSw); go_simp; try with_reducible rfl)
      try simp only [Act.put, List.setIfInBounds_toArray, List.set_cons_zero, List.set_cons_succ]
      refine wpAnyH_take (i := 1) (oi := _) (v := ?fv1h19n20) (by simp only [List.getElem?_toArray, List.getElem?_cons_zero, List.getElem?_cons_succ]; rfl) (by kernel_rfl) (by kernel_rfl) (by kernel_rfl) (fun _ _ _ h => h) (Or.inl ⟨by rfl, ?fy1h19n20⟩) (by assumption) ?fr1h19n20
      case fy1h19n20 => (intro w hSw; (try dsimp only [RY] at hSw); go_simp; try with_reducible rfl)
      try simp only [Act.put, List.setIfInBounds_toArray, List.set_cons_zero, List.set_cons_succ]
      refine wpAnyH_ready (rs := [2]) (by kernel_rfl) (by simp) ?_
      refine AllReadyH.cons (o := _) rfl (fun K hK => ?_) AllReadyH.nil
      go_simp
      refine hK.out _ _ (U7.out.fr (Fr.drew _ [])).ry (fun hHeld => ?_)
      clear hK K
      try simp only [Act.put, List.setIfInBounds_toArray, List.set_cons_zero, List.set_cons_succ]
      refine wpAnyH_ready (rs := [3]) (by kernel_rfl) (by simp) ?_
      refine AllReadyH.cons (o := _) rfl (fun K hK => ?_) AllReadyH.nil
      go_simp
      refine hK.out _ _ (U8.out.fr (Fr.drew _ [])).ry (fun hHeld => ?_)
      clear hK K
      try simp only [Act.put, List.setIfInBounds_toArray, List.set_cons_zero, List.set_cons_succ]
      refine wpAnyH_done (by kernel_rfl) ?_ _
      refine NoPanic.normal ?_
      clear hHeld
      dsimp only [carSet, dnSet] at U9
      try simp only [show ((0 : Nat) : Int) = 0 from rfl] at U9
      go_wp2
      generalize World.drew (World.setCell (World.setCell (World.setCell (World.setCell (World.setCell (World.setCell (World.setCell (World.setCell (World.setCell (World.setCell (World.setCell (World.setCell (World.setCell w61 _ _) _ _) _ _) _ _) _ _) _ _) _ _) _ _) _ _) _ _) _ _) _ _) _ _) = v9 at *
      obtain ⟨x0, x1, x2, x3, x4⟩ := U9.out.y.cells
      obtain ⟨e0, e1, e2, e3, e4, e5, e6, e7⟩ := U9.out.e.cells
      dsimp only at x0 x1 x2 x3 x4 e0 e1 e2 e3 e4 e5 e6 e7
      try simp only [show ((0 : Nat) : Int) = 0 from rfl] at e5 e6 e7
      exact bodyPost_ret (v := .tuple #[.agg #[.int .i64 xp, .int .i64 y, .int .i64 hd, .bool false, .int .i64 0], .agg #[.bool true, .bool false, .int .i64 fl, .int .i64 y, .int .i64 0, .int .u64 zc, .int .u64 zu, .int .u64 zv]]) (by simp [results, Tryz.results17, go_sem, x0, x1, x2, x3, x4, e0, e1, e2, e3, e4, e5, e6, e7]) rfl ⟨rfl, U9.out.f⟩
  | true =>
    have PU := Lib.hid (PU0.out A (by rfl))
    have HD := Lib.hid (HD0.out A (by rfl))
    clear PU0 HD0
    obtain ⟨s0, s1, s2⟩ := arow T37.out.q.s
    dsimp only at s0 s1 s2
    obtain ⟨q0, q1, q2⟩ := arow DB.out
    go_wp2_with fail
    with_reducible refine (ON.out _).mono ?_
    rintro v w38 ⟨rfl, hg⟩
    have T38 := Lib.hid (T37.out.fr hg)
    replace DB := Lib.hid (hg.heap DB.out (by simp))
    clear q0 q1 q2
    clear s0 s1 s2 hg T37 ON
    have T39 := Lib.hid (show RT w n ⟨hc, hfl, hs, hd⟩ ⟨⟨xp, y, hd, false⟩, 0⟩ ⟨sp, su, sd⟩ ⟨true, false, 0, y, 0, ⟨A, 0, 0⟩⟩ (w38.setCell ⟨n, 5, none⟩ (.int .u64 A)) from T38.out.deed (Fr.setCell w38 n 5 _ (by simp)) (T38.out.d.put 5 _ _ rfl))
    obtain ⟨q0, q1, q2⟩ := arow DB.out
    have DB2 := Lib.hid ((Fr.setCell w38 n 5 (.int .u64 A) (S := [n]) (by simp)).heap DB.out (by have := DL.out; simp; omega))
    obtain ⟨n0, n1, n2, n3, n4, n5, n6, n7⟩ := T38.out.d.cells
    dsimp only at n0 n1 n2 n3 n4 n5 n6 n7
    have zf := T38.out.d.fz 5
    go_upto_region 33 with fail
    generalize World.setCell w38 _ _ = w39 at *
    clear q0 q1 q2 DB
    have DB := DB2
    clear DB2
    clear n0 n1 n2 n3 n4 n5 n6 n7 zf T38
    have D33 := Lib.hid (RQ.lasts _ _ _ _ _ _ _ _ _ (show RQ w39 w.heap.size p8 ⟨hc, hfl, hs, hd⟩ ⟨⟨xp, y, hd, false⟩, 0⟩ ⟨sp, su, sd⟩ ⟨true, y, 0⟩ w39 from ⟨T39.out.rz, arow DB.out⟩) (Fr.drew _ []))
    refine wp_region_det (S := RQ w39 w.heap.size p8 ⟨hc, hfl, hs, hd⟩ ⟨⟨xp, y, hd, false⟩, 0⟩ ⟨sp, su, sd⟩ ⟨true, y, 0⟩) (by kernel_rfl) D33.out ?_
    refine wpDet_take (i := 0) (oi := _) (v := ?dv21) (by simp only [List.getElem?_toArray, List.getElem?_cons_zero]; rfl) (by kernel_rfl) (by kernel_rfl) (by kernel_rfl) (Or.inl ⟨by rfl, ?dy21⟩) ?dr21
    case dy21 => (intro w hSw; have hS0 := hSw; (try dsimp only [RQ,RZ] at hSw); go_simp; refine Came.value ?_ hS0; with_reducible rfl)
    try simp only [Act.put, List.setIfInBounds_toArray, List.set_cons_zero, List.set_cons_succ]
    refine wpDet_take (i := 1) (oi := _) (v := ?dv22) (by simp only [List.getElem?_toArray, List.getElem?_cons_zero, List.getElem?_cons_succ]; rfl) (by kernel_rfl) (by kernel_rfl) (by kernel_rfl) (Or.inl ⟨by rfl, ?dy22⟩) ?dr22
    case dy22 => (intro w hSw; have hS0 := hSw; (try dsimp only [RQ,RZ] at hSw); go_simp; refine Came.value ?_ hS0; with_reducible rfl)
    try simp only [Act.put, List.setIfInBounds_toArray, List.set_cons_zero, List.set_cons_succ]
    refine wpDet_take (i := 3) (oi := _) (v := ?dv23) (by simp only [List.getElem?_toArray, List.getElem?_cons_zero, List.getElem?_cons_succ]; rfl) (by kernel_rfl) (by kernel_rfl) (by kernel_rfl) (Or.inl ⟨by rfl, ?dy23⟩) ?dr23
    case dy23 => (intro w hSw; have hS0 := hSw; (try dsimp only [RQ,RZ] at hSw); go_simp; refine Came.value ?_ hS0; with_reducible rfl)
    try simp only [Act.put, List.setIfInBounds_toArray, List.set_cons_zero, List.set_cons_succ]
    refine wpDet_take (i := 4) (oi := _) (v := ?dv24) (by simp only [List.getElem?_toArray, List.getElem?_cons_zero, List.getElem?_cons_succ]; rfl) (by kernel_rfl) (by kernel_rfl) (by kernel_rfl) (Or.inl ⟨by rfl, ?dy24⟩) ?dr24
    case dy24 => (intro w hSw; have hS0 := hSw; (try dsimp only [RQ,RZ] at hSw); go_simp; refine Came.value ?_ hS0; with_reducible rfl)
    try simp only [Act.put, List.setIfInBounds_toArray, List.set_cons_zero, List.set_cons_succ]
    refine wpDet_take (i := 5) (oi := _) (v := ?dv25) (by simp only [List.getElem?_toArray, List.getElem?_cons_zero, List.getElem?_cons_succ]; rfl) (by kernel_rfl) (by kernel_rfl) (by kernel_rfl) (Or.inl ⟨by rfl, ?dy25⟩) ?dr25
    case dy25 => (intro w hSw; have hS0 := hSw; (try dsimp only [RQ,RZ] at hSw); go_simp; refine Came.value ?_ hS0; with_reducible rfl)
    try simp only [Act.put, List.setIfInBounds_toArray, List.set_cons_zero, List.set_cons_succ]
    refine wpDet_take (i := 2) (oi := _) (v := ?dv26) (by simp only [List.getElem?_toArray, List.getElem?_cons_zero, List.getElem?_cons_succ]; rfl) (by kernel_rfl) (by kernel_rfl) (by kernel_rfl) (Or.inl ⟨by rfl, ?dy26⟩) ?dr26
    case dy26 => (intro w hSw; go_simp; exact Came.call ((FI.out w).mono fun e w' ⟨he, hf⟩ => ⟨he, RQ.lasts _ _ _ _ _ _ _ _ _ hSw hf⟩) (by with_reducible rfl))
    try simp only [Act.put, List.setIfInBounds_toArray, List.set_cons_zero, List.set_cons_succ]
    refine wpDet_take (i := 6) (oi := _) (v := ?dv27) (by simp only [List.getElem?_toArray, List.getElem?_cons_zero, List.getElem?_cons_succ]; rfl) (by kernel_rfl) (by kernel_rfl) (by kernel_rfl) (Or.inl ⟨by rfl, ?dy27⟩) ?dr27
    case dy27 => (intro w hSw; go_simp; exact Came.call ((HA.out w).mono fun e w' ⟨he, hf⟩ => ⟨he, RQ.lasts _ _ _ _ _ _ _ _ _ hSw hf⟩) (by with_reducible rfl))
    try simp only [Act.put, List.setIfInBounds_toArray, List.set_cons_zero, List.set_cons_succ]
    refine wpDet_done (by kernel_rfl) ?_ _
    rintro w50 hS
    have T50 := Lib.hid (T39.out.fr hS.1.1)
    replace DB := Lib.hid (hS.1.1.heap DB.out (by simp))
    clear hS D33 T39 FI HA
    cases b2 with
    | false =>
      have dz : d = ⟨true, false, fl, y, 0, ⟨A, 0, 0⟩⟩ := HD.out
      subst dz
      try dsimp only [Dn.v]
      try simp only [show ((0 : Nat) : Int) = 0 from rfl]
      clear HD PU
      go_upto_region 35 with fail
      have T51 := Lib.hid (show RT w n ⟨hc, hfl, hs, hd⟩ ⟨⟨xp, y, hd, false⟩, 0⟩ ⟨sp, su, sd⟩ ⟨true, false, fl, y, 0, ⟨A, 0, 0⟩⟩ (w50.setCell ⟨n, 2, none⟩ (.int .i64 fl)) from T50.out.deed (Fr.setCell w50 n 2 _ (by simp)) (T50.out.d.put 2 _ _ rfl))
      obtain ⟨q0, q1, q2⟩ := arow DB.out
      have DB2 := Lib.hid ((Fr.setCell w50 n 2 (.int .i64 fl) (S := [n]) (by simp)).heap DB.out (by have := DL.out; simp; omega))
      obtain ⟨n0, n1, n2, n3, n4, n5, n6, n7⟩ := T50.out.d.cells
      dsimp only at n0 n1 n2 n3 n4 n5 n6 n7
      have zf := T50.out.d.fz 2
      go_upto_region 36 with fail
      generalize World.setCell w50 _ _ = w51 at *
      clear q0 q1 q2 DB
      have DB := DB2
      clear DB2
      clear n0 n1 n2 n3 n4 n5 n6 n7 zf T50
      clear DB DL
      have U6 := Lib.hid (RE.of T51.out)
      have U7 := Lib.hid (U6.out.one ⟨⟨xp, y, hd, false⟩, 0⟩)
      have U8 := Lib.hid (U7.out.two ⟨true, false, fl, y, 0, ⟨A, 0, 0⟩⟩)
      have U9 := Lib.hid (U8.out.fr (Fr.drew _ []))
      obtain ⟨r0, r1, r2, r3, r4⟩ := U6.out.y.cells
      have y0 := U6.out.y.fz 0
      have y1 := U6.out.y.fz 1
      have y2 := U6.out.y.fz 2
      have y3 := U6.out.y.fz 3
      have y4 := U6.out.y.fz 4
      obtain ⟨n0, n1, n2, n3, n4, n5, n6, n7⟩ := U6.out.e.cells
      have m0 := U6.out.e.fz 0
      have m1 := U6.out.e.fz 1
      have m2 := U6.out.e.fz 2
      have m3 := U6.out.e.fz 3
      have m4 := U6.out.e.fz 4
      have m5 := U6.out.e.fz 5
      have m6 := U6.out.e.fz 6
      have m7 := U6.out.e.fz 7
      dsimp only [zCa, zDn, zSp] at r0 r1 r2 r3 r4 n0 n1 n2 n3 n4 n5 n6 n7
      simp only [show ((0 : Nat) : Int) = 0 from rfl] at n5 n6 n7
      clear T51
      go_wp2_with fail
      refine wp_region_noPanic ?_
      refine wp_region_held_drew (S := (RY (w.heap.size + 1) n ⟨⟨xp, y, hd, false⟩, 0⟩ ⟨true, false, fl, y, 0, ⟨A, 0, 0⟩⟩)) (by kernel_rfl) (U6.out.fr (Fr.drew _ [])).ry (fun hHeld => ?_)
      refine wpAnyH_take (i := 0) (oi := _) (v := ?fv0h28n29) (by simp only [List.getElem?_toArray, List.getElem?_cons_zero]; rfl) (by kernel_rfl) (by kernel_rfl) (by kernel_rfl) (fun _ _ _ h => h) (Or.inl ⟨by rfl, ?fy0h28n29⟩) (by assumption) ?fr0h28n29
      case fy0h28n29 => (intro w hSw; (try dsimp only [RY] at hSw); go_simp; try with_reducible rfl)
      try simp only [Act.put, List.setIfInBounds_toArray, List.set_cons_zero, List.set_cons_succ]
      refine wpAnyH_take (i := 1) (oi := _) (v := ?fv1h28n29) (by simp only [List.getElem?_toArray, List.getElem?_cons_zero, List.getElem?_cons_succ]; rfl) (by kernel_rfl) (by kernel_rfl) (by kernel_rfl) (fun _ _ _ h => h) (Or.inl ⟨by rfl, ?fy1h28n29⟩) (by assumption) ?fr1h28n29
      case fy1h28n29 => (intro w hSw; (try dsimp only [RY] at hSw); go_simp; try with_reducible rfl)
      try simp only [Act.put, List.setIfInBounds_toArray, List.set_cons_zero, List.set_cons_succ]
      refine wpAnyH_ready (rs := [2]) (by kernel_rfl) (by simp) ?_
      refine AllReadyH.cons (o := _) rfl (fun K hK => ?_) AllReadyH.nil
      go_simp
      refine hK.out _ _ (U7.out.fr (Fr.drew _ [])).ry (fun hHeld => ?_)
      clear hK K
      try simp only [Act.put, List.setIfInBounds_toArray, List.set_cons_zero, List.set_cons_succ]
      refine wpAnyH_ready (rs := [3]) (by kernel_rfl) (by simp) ?_
      refine AllReadyH.cons (o := _) rfl (fun K hK => ?_) AllReadyH.nil
      go_simp
      refine hK.out _ _ (U8.out.fr (Fr.drew _ [])).ry (fun hHeld => ?_)
      clear hK K
      try simp only [Act.put, List.setIfInBounds_toArray, List.set_cons_zero, List.set_cons_succ]
      refine wpAnyH_done (by kernel_rfl) ?_ _
      refine NoPanic.normal ?_
      clear hHeld
      dsimp only [carSet, dnSet] at U9
      try simp only [show ((0 : Nat) : Int) = 0 from rfl] at U9
      go_wp2
      generalize World.drew (World.setCell (World.setCell (World.setCell (World.setCell (World.setCell (World.setCell (World.setCell (World.setCell (World.setCell (World.setCell (World.setCell (World.setCell (World.setCell w51 _ _) _ _) _ _) _ _) _ _) _ _) _ _) _ _) _ _) _ _) _ _) _ _) _ _) = v9 at *
      obtain ⟨x0, x1, x2, x3, x4⟩ := U9.out.y.cells
      obtain ⟨e0, e1, e2, e3, e4, e5, e6, e7⟩ := U9.out.e.cells
      dsimp only at x0 x1 x2 x3 x4 e0 e1 e2 e3 e4 e5 e6 e7
      try simp only [show ((0 : Nat) : Int) = 0 from rfl] at e5 e6 e7
      exact bodyPost_ret (v := .tuple #[.agg #[.int .i64 xp, .int .i64 y, .int .i64 hd, .bool false, .int .i64 0], .agg #[.bool true, .bool false, .int .i64 fl, .int .i64 y, .int .i64 0, .int .u64 A, .int .u64 0, .int .u64 0]]) (by simp [results, Tryz.results17, go_sem, x0, x1, x2, x3, x4, e0, e1, e2, e3, e4, e5, e6, e7]) rfl ⟨rfl, U9.out.f⟩
    | true =>
      have dz : d = ⟨true, false, fl, y, 0, z⟩ := HD.out
      subst dz
      obtain ⟨zc, zu, zv⟩ := z
      dsimp only [Dn.v, Sp.v] at *
      clear HD
      obtain ⟨n0, n1, n2, n3, n4, n5, n6, n7⟩ := T50.out.d.cells
      dsimp only at n0 n1 n2 n3 n4 n5 n6 n7
      obtain ⟨q0, q1, q2⟩ := arow DB.out
      go_wp2_with fail
      with_reducible refine (PU.out _).mono ?_
      rintro v w51 ⟨rfl, hg⟩
      have T51 := Lib.hid (T50.out.fr hg)
      replace DB := Lib.hid (hg.heap DB.out (by simp))
      clear q0 q1 q2
      clear n0 n1 n2 n3 n4 n5 n6 n7 hg T50 PU
      have V1 := Lib.hid (show QN (w51.setCell ⟨n, 5, none⟩ (.int .u64 zc)) n ⟨true, false, 0, y, 0, ⟨zc, 0, 0⟩⟩ from T51.out.d.put 5 _ _ rfl)
      have V2 := Lib.hid (show QN ((w51.setCell ⟨n, 5, none⟩ (.int .u64 zc)).setCell ⟨n, 6, none⟩ (.int .u64 zu)) n ⟨true, false, 0, y, 0, ⟨zc, zu, 0⟩⟩ from V1.out.put 6 _ _ rfl)
      have V3 := Lib.hid (show QN (((w51.setCell ⟨n, 5, none⟩ (.int .u64 zc)).setCell ⟨n, 6, none⟩ (.int .u64 zu)).setCell ⟨n, 7, none⟩ (.int .u64 zv)) n ⟨true, false, 0, y, 0, ⟨zc, zu, zv⟩⟩ from V2.out.put 7 _ _ rfl)
      have VF := Lib.hid (((Fr.setCell w51 n 5 (.int .u64 zc) (S := [n]) (by simp)).trans (Fr.setCell _ n 6 (.int .u64 zu) (S := [n]) (by simp))).trans (Fr.setCell _ n 7 (.int .u64 zv) (S := [n]) (by simp)))
      have T60 := Lib.hid (T51.out.deed VF.out V3.out)
      have DB2 := Lib.hid (VF.out.heap DB.out (by have := DL.out; simp; omega))
      obtain ⟨n0, n1, n2, n3, n4, n5, n6, n7⟩ := T51.out.d.cells
      have m5 := T51.out.d.fz 5
      have m6 := T51.out.d.fz 6
      have m7 := T51.out.d.fz 7
      dsimp only at n0 n1 n2 n3 n4 n5 n6 n7
      clear V1 V2 V3 VF
      go_upto_region 35 with fail
      generalize World.setCell (World.setCell (World.setCell w51 _ _) _ _) _ _ = w60 at *
      clear n0 n1 n2 n3 n4 n5 n6 n7 m5 m6 m7 T51 DB
      have DB := DB2
      clear DB2
      have T61 := Lib.hid (show RT w n ⟨hc, hfl, hs, hd⟩ ⟨⟨xp, y, hd, false⟩, 0⟩ ⟨sp, su, sd⟩ ⟨true, false, fl, y, 0, ⟨zc, zu, zv⟩⟩ (w60.setCell ⟨n, 2, none⟩ (.int .i64 fl)) from T60.out.deed (Fr.setCell w60 n 2 _ (by simp)) (T60.out.d.put 2 _ _ rfl))
      obtain ⟨q0, q1, q2⟩ := arow DB.out
      have DB2 := Lib.hid ((Fr.setCell w60 n 2 (.int .i64 fl) (S := [n]) (by simp)).heap DB.out (by have := DL.out; simp; omega))
      obtain ⟨n0, n1, n2, n3, n4, n5, n6, n7⟩ := T60.out.d.cells
      dsimp only at n0 n1 n2 n3 n4 n5 n6 n7
      have zf := T60.out.d.fz 2
      go_upto_region 36 with fail
      generalize World.setCell w60 _ _ = w61 at *
      clear q0 q1 q2 DB
      have DB := DB2
      clear DB2
      clear n0 n1 n2 n3 n4 n5 n6 n7 zf T60
      clear DB DL
      have U6 := Lib.hid (RE.of T61.out)
      have U7 := Lib.hid (U6.out.one ⟨⟨xp, y, hd, false⟩, 0⟩)
      have U8 := Lib.hid (U7.out.two ⟨true, false, fl, y, 0, ⟨zc, zu, zv⟩⟩)
      have U9 := Lib.hid (U8.out.fr (Fr.drew _ []))
      obtain ⟨r0, r1, r2, r3, r4⟩ := U6.out.y.cells
      have y0 := U6.out.y.fz 0
      have y1 := U6.out.y.fz 1
      have y2 := U6.out.y.fz 2
      have y3 := U6.out.y.fz 3
      have y4 := U6.out.y.fz 4
      obtain ⟨n0, n1, n2, n3, n4, n5, n6, n7⟩ := U6.out.e.cells
      have m0 := U6.out.e.fz 0
      have m1 := U6.out.e.fz 1
      have m2 := U6.out.e.fz 2
      have m3 := U6.out.e.fz 3
      have m4 := U6.out.e.fz 4
      have m5 := U6.out.e.fz 5
      have m6 := U6.out.e.fz 6
      have m7 := U6.out.e.fz 7
      dsimp only [zCa, zDn, zSp] at r0 r1 r2 r3 r4 n0 n1 n2 n3 n4 n5 n6 n7
      simp only [show ((0 : Nat) : Int) = 0 from rfl] at n5 n6 n7
      clear T61
      go_wp2_with fail
      refine wp_region_noPanic ?_
      refine wp_region_held_drew (S := (RY (w.heap.size + 1) n ⟨⟨xp, y, hd, false⟩, 0⟩ ⟨true, false, fl, y, 0, ⟨zc, zu, zv⟩⟩)) (by kernel_rfl) (U6.out.fr (Fr.drew _ [])).ry (fun hHeld => ?_)
      refine wpAnyH_take (i := 0) (oi := _) (v := ?fv0h30n31) (by simp only [List.getElem?_toArray, List.getElem?_cons_zero]; rfl) (by kernel_rfl) (by kernel_rfl) (by kernel_rfl) (fun _ _ _ h => h) (Or.inl ⟨by rfl, ?fy0h30n31⟩) (by assumption) ?fr0h30n31
      case fy0h30n31 => (intro w hSw; (try dsimp only [RY] at hSw); go_simp; try with_reducible rfl)
      try simp only [Act.put, List.setIfInBounds_toArray, List.set_cons_zero, List.set_cons_succ]
      refine wpAnyH_take (i := 1) (oi := _) (v := ?fv1h30n31) (by simp only [List.getElem?_toArray, List.getElem?_cons_zero, List.getElem?_cons_succ]; rfl) (by kernel_rfl) (by kernel_rfl) (by kernel_rfl) (fun _ _ _ h => h) (Or.inl ⟨by rfl, ?fy1h30n31⟩) (by assumption) ?fr1h30n31
      case fy1h30n31 => (intro w hSw; (try dsimp only [RY] at hSw); go_simp; try with_reducible rfl)
      try simp only [Act.put, List.setIfInBounds_toArray, List.set_cons_zero, List.set_cons_succ]
      refine wpAnyH_ready (rs := [2]) (by kernel_rfl) (by simp) ?_
      refine AllReadyH.cons (o := _) rfl (fun K hK => ?_) AllReadyH.nil
      go_simp
      refine hK.out _ _ (U7.out.fr (Fr.drew _ [])).ry (fun hHeld => ?_)
      clear hK K
      try simp only [Act.put, List.setIfInBounds_toArray, List.set_cons_zero, List.set_cons_succ]
      refine wpAnyH_ready (rs := [3]) (by kernel_rfl) (by simp) ?_
      refine AllReadyH.cons (o := _) rfl (fun K hK => ?_) AllReadyH.nil
      go_simp
      refine hK.out _ _ (U8.out.fr (Fr.drew _ [])).ry (fun hHeld => ?_)
      clear hK K
      try simp only [Act.put, List.setIfInBounds_toArray, List.set_cons_zero, List.set_cons_succ]
      refine wpAnyH_done (by kernel_rfl) ?_ _
      refine NoPanic.normal ?_
      clear hHeld
      dsimp only [carSet, dnSet] at U9
      try simp only [show ((0 : Nat) : Int) = 0 from rfl] at U9
      go_wp2
      generalize World.drew (World.setCell (World.setCell (World.setCell (World.setCell (World.setCell (World.setCell (World.setCell (World.setCell (World.setCell (World.setCell (World.setCell (World.setCell (World.setCell w61 _ _) _ _) _ _) _ _) _ _) _ _) _ _) _ _) _ _) _ _) _ _) _ _) _ _) = v9 at *
      obtain ⟨x0, x1, x2, x3, x4⟩ := U9.out.y.cells
      obtain ⟨e0, e1, e2, e3, e4, e5, e6, e7⟩ := U9.out.e.cells
      dsimp only at x0 x1 x2 x3 x4 e0 e1 e2 e3 e4 e5 e6 e7
      try simp only [show ((0 : Nat) : Int) = 0 from rfl] at e5 e6 e7
      exact bodyPost_ret (v := .tuple #[.agg #[.int .i64 xp, .int .i64 y, .int .i64 hd, .bool false, .int .i64 0], .agg #[.bool true, .bool false, .int .i64 fl, .int .i64 y, .int .i64 0, .int .u64 zc, .int .u64 zu, .int .u64 zv]]) (by simp [results, Tryz.results17, go_sem, x0, x1, x2, x3, x4, e0, e1, e2, e3, e4, e5, e6, e7]) rfl ⟨rfl, U9.out.f⟩
set_option maxHeartbeats 8000000 in
set_option maxRecDepth 100000 in
theorem rct_go (h : Ho) (c : Ca) (s : Sp) (w : World) (ok : s.ok) (R : RightIs h c) (g : ¬ 0 < c.x.o) (l : h.lev c.x.p) (k : (h.fit s).stop (h.flr c.x.p) c.x.e = false) (x : Ca) (d : Dn) (hx : c.tick h s false = (x, d)) :
    Calls Tryz.prog 17 #[h.v, c.v, s.v, .bool false] w fun v w' => v = .returned (.tuple #[x.v, d.v]) ∧ Fr w w' [] := by
  have o0 : c.x.o = 0 := by have := R.o0; omega
  have k0 : c.k = 0 := by have := R.held; omega
  have hf := R.ok.2.1
  have hd8 := R.ok.2.2.2
  obtain ⟨q0, q1, _, _, _⟩ := flr_facts R.ok R.p0 R.p1
  obtain ⟨fl, hfl⟩ : ∃ fl, fl = h.flr c.x.p := ⟨_, rfl⟩
  obtain ⟨t, ht⟩ : ∃ t, t = h.fit s := ⟨_, rfl⟩
  have tk : t.ok := by rw [ht]; exact fit_ok h ok
  obtain ⟨y, hy⟩ : ∃ y, y = t.head fl c.x.e := ⟨_, rfl⟩
  have RV := Lib.hid (fun W => rvalid_any h W true (decide_eq_true R.ok).symm)
  have RR := Lib.hid (fun W => rcright_any h c W true ((right_iff h c).2 R).symm)
  have LV := Lib.hid (fun W => rlevel_any h c.x.p W true (decide_eq_true l).symm)
  have FL := Lib.hid (fun W => rfloor_any h c.x.p W fl hfl)
  have FI := Lib.hid (fun W => rfit_any h s W R.ok ok t ht)
  have hin : 0 ≤ fl ∧ fl < 64 ∧ -1 ≤ c.x.e ∧ c.x.e ≤ 1 := ⟨by omega, by omega, R.e0, R.e1⟩
  have g2 : decide (0 < c.x.o) = false := decide_eq_false g
  have TB := Lib.hid (RS.new w h c s)
  have rm := go_room R l ok k
  have ks := (head_is tk (show 0 ≤ fl by omega) (show fl < 64 by omega) (small_dir R.e0 R.e1)).small
  rw [tick_go R g l false k] at hx
  rw [← hfl, ← ht] at k hx rm
  rw [← hy] at hx rm ks
  obtain ⟨P, hP⟩ : ∃ P, P = c.x.p + y := ⟨_, rfl⟩
  rw [← hP] at hx rm
  have hr := Ho.range R.ok
  have PL := Lib.hid (fun W => rdeed_any t fl c.x.e W tk ⟨false, y, y⟩ (by rw [deed_in hin, k, if_neg (by decide), hy]))
  have hs : sgn y = y := sgn_small (by omega) (by omega)
  have GO := Lib.hid (fun W => rgo_any h c.x.p y W true (by rw [hs, ← hP]; exact (decide_eq_true ⟨R.ok, rm.1, rm.2⟩).symm) P (by rw [if_pos rfl, hs, hP]))
  obtain ⟨f2, hf2⟩ : ∃ f2, f2 = h.flr P := ⟨_, rfl⟩
  have F2 := Lib.hid (fun W => rfloor_any h P W f2 hf2)
  have W1 : IntKind.i64.wrap (P - c.x.p) = y := by rw [hP, show c.x.p + y - c.x.p = y by omega]; exact IntWalk.i64_in _ (by omega)
  rw [← hf2, Prod.mk.injEq] at hx
  obtain ⟨rfl, rfl⟩ := hx
  clear R g l k hfl ht hy hin tk ok q0 q1 hf hd8 hP hs hf2 rm ks hr
  obtain ⟨hc, hfl, hs, hd⟩ := h
  obtain ⟨⟨xp, xe, xo, xr⟩, xk⟩ := c
  obtain ⟨sp, su, sd⟩ := s
  obtain ⟨tp, tu, td⟩ := t
  dsimp only at o0 k0
  subst o0 k0
  dsimp only [Ho.v, Ho.box, Ca.v, Ca.qbox, Sp.v, Sp.box, Dn.v, Dn.qbox, dv, zCa, zDn, zSp, De.v, De.box] at *
  simp only [show ((0 : Nat) : Int) = 0 from rfl] at *
  go_enter Tryz.func17, Tryz.ntmps17
  go_upto_region 1 with fail
  generalize World.alloc (World.alloc (World.alloc (World.alloc (World.alloc w _) _) _) _) _ = w0 at *
  obtain ⟨i0, i1, i2, i3⟩ := TB.out.h.cells
  dsimp only at i0 i1 i2 i3
  go_wp2_with fail
  with_reducible refine (RV.out _).mono ?_
  rintro v w1 ⟨rfl, hg⟩
  have T1 := Lib.hid (TB.out.fr hg)
  clear hg i0 i1 i2 i3 TB RV
  obtain ⟨i0, i1, i2, i3⟩ := T1.out.h.cells
  obtain ⟨c0, c1, c2, c3, c4⟩ := T1.out.c.cells
  dsimp only at i0 i1 i2 i3 c0 c1 c2 c3 c4
  go_wp2_with fail
  with_reducible refine (RR.out _).mono ?_
  rintro v w2 ⟨rfl, hg⟩
  have T2 := Lib.hid (T1.out.fr hg)
  clear hg i0 i1 i2 i3 c0 c1 c2 c3 c4 T1 RR
  have T3 := Lib.hid (RT.new T2.out)
  dsimp only [zDn, zSp, Dn.qbox] at T3
  simp only [show ((0 : Nat) : Int) = 0 from rfl] at T3
  go_upto_region 4 with fail
  obtain ⟨n, hn⟩ : ∃ n, w2.heap.size = n := ⟨_, rfl⟩
  rw [hn] at T3
  rw [hn]
  clear hn
  generalize World.alloc w2 _ = w3 at *
  clear T2
  obtain ⟨i0, i1, i2, i3⟩ := T3.out.q.h.cells
  dsimp only at i0 i1 i2 i3
  obtain ⟨c0, c1, c2, c3, c4⟩ := T3.out.q.c.cells
  dsimp only at c0 c1 c2 c3 c4
  go_wp2_with fail
  with_reducible refine (LV.out _).mono ?_
  rintro v w11 ⟨rfl, hg⟩
  have T11 := Lib.hid (T3.out.fr hg)
  clear i0 i1 i2 i3 c0 c1 c2 c3 c4 hg T3 LV
  have T12 := Lib.hid (show RT w n ⟨hc, hfl, hs, hd⟩ ⟨⟨xp, xe, 0, false⟩, 0⟩ ⟨sp, su, sd⟩ ⟨false, false, 0, 0, 0, ⟨0, 0, 0⟩⟩ (w11.setCell ⟨w.heap.size + 1, 3, none⟩ (.bool false)) from T11.out.car (Fr.setCell w11 (w.heap.size + 1) 3 _ (by simp)) (T11.out.q.c.put3 false))
  obtain ⟨c0, c1, c2, c3, c4⟩ := T11.out.q.c.cells
  dsimp only at c0 c1 c2 c3 c4
  have zf := T11.out.q.c.fz 3
  go_upto_region 23 with fail
  generalize World.setCell w11 _ _ = w12 at *
  clear c0 c1 c2 c3 c4 zf T11
  obtain ⟨i0, i1, i2, i3⟩ := T12.out.q.h.cells
  dsimp only at i0 i1 i2 i3
  obtain ⟨c0, c1, c2, c3, c4⟩ := T12.out.q.c.cells
  dsimp only at c0 c1 c2 c3 c4
  go_wp2_with fail
  with_reducible refine (FL.out _).mono ?_
  rintro v w13 ⟨rfl, hg⟩
  have T13 := Lib.hid (T12.out.fr hg)
  clear i0 i1 i2 i3 c0 c1 c2 c3 c4 hg T12 FL
  go_upto_region 24 with fail
  refine wp_region_noPanic ?_
  refine wp_region_mix (M := RZ w13 w.heap.size ⟨hc, hfl, hs, hd⟩ ⟨⟨xp, xe, 0, false⟩, 0⟩ ⟨sp, su, sd⟩) (fun i => match i with | 8 => some (ptrTo, De.box 86 zDe) | _ => none) [] w13.heap.size 9 (by kernel_rfl) (by kernel_rfl) (by kernel_rfl) (RZ.lasts _ _ _ _ _) RZ.size (RZ.lasts _ _ _ _ _ _ _ T13.out.rz (Fr.drew _ [])) ?_
  refine wpMixU_take (i := 0) (oi := _) (v := ?mv32) (by decide) (by kernel_rfl) (by simp only [List.getElem?_toArray, List.getElem?_cons_zero]; rfl) (by rfl) (by kernel_rfl) (by kernel_rfl) (by kernel_rfl) (by rfl) ?my32 ?mr32
  case my32 => (intro M' hst him w hM; have hSw := him w hM; (try dsimp only [RZ] at hSw); go_simp; refine Came.value ?_ hM; with_reducible rfl)
  try simp only [Act.put, List.setIfInBounds_toArray, List.set_cons_zero, List.set_cons_succ]
  refine wpMixU_take (i := 1) (oi := _) (v := ?mv33) (by decide) (by kernel_rfl) (by simp only [List.getElem?_toArray, List.getElem?_cons_zero, List.getElem?_cons_succ]; rfl) (by rfl) (by kernel_rfl) (by kernel_rfl) (by kernel_rfl) (by rfl) ?my33 ?mr33
  case my33 => (intro M' hst him w hM; have hSw := him w hM; (try dsimp only [RZ] at hSw); go_simp; refine Came.value ?_ hM; with_reducible rfl)
  try simp only [Act.put, List.setIfInBounds_toArray, List.set_cons_zero, List.set_cons_succ]
  refine wpMixU_take (i := 3) (oi := _) (v := ?mv34) (by decide) (by kernel_rfl) (by simp only [List.getElem?_toArray, List.getElem?_cons_zero, List.getElem?_cons_succ]; rfl) (by rfl) (by kernel_rfl) (by kernel_rfl) (by kernel_rfl) (by rfl) ?my34 ?mr34
  case my34 => (intro M' hst him w hM; have hSw := him w hM; (try dsimp only [RZ] at hSw); go_simp; refine Came.value ?_ hM; with_reducible rfl)
  try simp only [Act.put, List.setIfInBounds_toArray, List.set_cons_zero, List.set_cons_succ]
  refine wpMixU_take (i := 4) (oi := _) (v := ?mv35) (by decide) (by kernel_rfl) (by simp only [List.getElem?_toArray, List.getElem?_cons_zero, List.getElem?_cons_succ]; rfl) (by rfl) (by kernel_rfl) (by kernel_rfl) (by kernel_rfl) (by rfl) ?my35 ?mr35
  case my35 => (intro M' hst him w hM; have hSw := him w hM; (try dsimp only [RZ] at hSw); go_simp; refine Came.value ?_ hM; with_reducible rfl)
  try simp only [Act.put, List.setIfInBounds_toArray, List.set_cons_zero, List.set_cons_succ]
  refine wpMixU_take (i := 5) (oi := _) (v := ?mv36) (by decide) (by kernel_rfl) (by simp only [List.getElem?_toArray, List.getElem?_cons_zero, List.getElem?_cons_succ]; rfl) (by rfl) (by kernel_rfl) (by kernel_rfl) (by kernel_rfl) (by rfl) ?my36 ?mr36
  case my36 => (intro M' hst him w hM; have hSw := him w hM; (try dsimp only [RZ] at hSw); go_simp; refine Came.value ?_ hM; with_reducible rfl)
  try simp only [Act.put, List.setIfInBounds_toArray, List.set_cons_zero, List.set_cons_succ]
  refine wpMixU_take (i := 6) (oi := _) (v := ?mv37) (by decide) (by kernel_rfl) (by simp only [List.getElem?_toArray, List.getElem?_cons_zero, List.getElem?_cons_succ]; rfl) (by rfl) (by kernel_rfl) (by kernel_rfl) (by kernel_rfl) (by rfl) ?my37 ?mr37
  case my37 => (intro M' hst him w hM; have hSw := him w hM; (try dsimp only [RZ] at hSw); go_simp; refine Came.value ?_ hM; with_reducible rfl)
  try simp only [Act.put, List.setIfInBounds_toArray, List.set_cons_zero, List.set_cons_succ]
  refine wpMixU_take (i := 2) (oi := _) (v := ?mv38) (by decide) (by kernel_rfl) (by simp only [List.getElem?_toArray, List.getElem?_cons_zero, List.getElem?_cons_succ]; rfl) (by rfl) (by kernel_rfl) (by kernel_rfl) (by kernel_rfl) (by rfl) ?my38 ?mr38
  case my38 => (intro M' hst him w hM; have hSw := him w hM; (try dsimp only [RZ] at hSw); go_simp; exact Came.call ((FI.out w).mono fun e w' ⟨he, hf⟩ => ⟨he, hst _ _ hM hf⟩) (by with_reducible rfl))
  try simp only [Act.put, List.setIfInBounds_toArray, List.set_cons_zero, List.set_cons_succ]
  refine wpMixU_take (i := 7) (oi := _) (v := ?mv39) (by decide) (by kernel_rfl) (by simp only [List.getElem?_toArray, List.getElem?_cons_zero, List.getElem?_cons_succ]; rfl) (by rfl) (by kernel_rfl) (by kernel_rfl) (by kernel_rfl) (by rfl) ?my39 ?mr39
  case my39 => (intro M' hst him w hM; have hSw := him w hM; (try dsimp only [RZ] at hSw); go_simp; exact Came.call ((PL.out w).mono fun e w' ⟨he, hf⟩ => ⟨he, hst _ _ hM hf⟩) (by with_reducible rfl))
  try simp only [Act.put, List.setIfInBounds_toArray, List.set_cons_zero, List.set_cons_succ]
  refine wpMixU_new (i := 8) (oi := _) [8] (by decide) (by kernel_rfl) (by simp only [List.getElem?_toArray, List.getElem?_cons_zero, List.getElem?_cons_succ]; rfl) (by rfl) (by kernel_rfl) (by kernel_rfl) (by kernel_rfl) (by kernel_rfl) (by kernel_rfl) (by kernel_rfl) (by rfl) ?my40 ?mr40
  case my40 => (intro w; go_simp; first | done | rfl | exact ⟨rfl, rfl⟩)
  intro p8
  try simp only [ptrTo, oneTo]
  try simp only [Act.put, List.setIfInBounds_toArray, List.set_cons_zero, List.set_cons_succ]
  refine wpMixU_tail (fun _ => True) (by kernel_rfl) (fun _ _ => trivial) ?_
  intro v5 hM
  have U5 := Lib.hid (T13.out.fr hM.1.1)
  have DL := Lib.hid (show w.heap.size + 4 < p8 ∧ n < p8 from ⟨Nat.lt_of_lt_of_le (size_of_row T13.out.q.e) hM.2.1, Nat.lt_of_lt_of_le (size_of_row T13.out.d) hM.2.1⟩)
  have B5 := Lib.hid hM.2.2
  clear hM T13 PL
  have DB := Lib.hid (aset B5.out (.bool false) (.int .i64 y) (.int .i64 y))
  have T30 := Lib.hid (U5.out.far (aset_fr v5 p8 (.bool false) (.int .i64 y) (.int .i64 y)) DL.out)
  obtain ⟨q0, q1, q2⟩ := arow B5.out
  have z0 := frozen_of_row _ _ 0 _ _ B5.out
  have z1 := frozen_of_row _ _ 1 _ _ B5.out
  have z2 := frozen_of_row _ _ 2 _ _ B5.out
  dsimp only [zDe] at q0 q1 q2
  refine wpAnyH_ready (rs := [9]) (by kernel_rfl) (by simp) ?_
  refine AllReadyH.cons (o := _) rfl (fun K hK => ?_) AllReadyH.nil
  go_simp
  refine hK.out _ _ trivial (fun hHeld => ?_)
  clear hK K
  try simp only [Act.put, List.setIfInBounds_toArray, List.set_cons_zero, List.set_cons_succ]
  refine wpAnyH_done (by kernel_rfl) ?_ _
  refine NoPanic.normal ?_
  clear hHeld
  generalize World.setCell (World.setCell (World.setCell v5 _ _) _ _) _ _ = w30 at *
  clear q0 q1 q2 z0 z1 z2 U5 B5
  have T31 := Lib.hid (show RT w n ⟨hc, hfl, hs, hd⟩ ⟨⟨xp, y, 0, false⟩, 0⟩ ⟨sp, su, sd⟩ ⟨false, false, 0, 0, 0, ⟨0, 0, 0⟩⟩ (w30.setCell ⟨w.heap.size + 1, 1, none⟩ (.int .i64 y)) from T30.out.car (Fr.setCell w30 (w.heap.size + 1) 1 _ (by simp)) (T30.out.q.c.put1 y))
  obtain ⟨q0, q1, q2⟩ := arow DB.out
  have DB2 := Lib.hid ((Fr.setCell w30 (w.heap.size + 1) 1 (.int .i64 y) (S := [w.heap.size + 1]) (by simp)).heap DB.out (by have := DL.out; simp; omega))
  obtain ⟨c0, c1, c2, c3, c4⟩ := T30.out.q.c.cells
  dsimp only at c0 c1 c2 c3 c4
  have zf := T30.out.q.c.fz 1
  go_upto_region 26 with fail
  generalize World.setCell w30 _ _ = w31 at *
  clear q0 q1 q2 DB
  have DB := DB2
  clear DB2
  clear c0 c1 c2 c3 c4 zf T30
  obtain ⟨i0, i1, i2, i3⟩ := T31.out.q.h.cells
  dsimp only at i0 i1 i2 i3
  obtain ⟨c0, c1, c2, c3, c4⟩ := T31.out.q.c.cells
  dsimp only at c0 c1 c2 c3 c4
  obtain ⟨q0, q1, q2⟩ := arow DB.out
  go_wp2_with fail
  with_reducible refine (GO.out _).mono ?_
  rintro v w32 ⟨rfl, hg⟩
  have T32 := Lib.hid (T31.out.fr hg)
  replace DB := Lib.hid (hg.heap DB.out (by simp))
  clear q0 q1 q2
  clear i0 i1 i2 i3 c0 c1 c2 c3 c4 hg T31 GO
  have T33 := Lib.hid (show RT w n ⟨hc, hfl, hs, hd⟩ ⟨⟨xp, y, 0, false⟩, 0⟩ ⟨sp, su, sd⟩ ⟨false, false, 0, 0, y, ⟨0, 0, 0⟩⟩ (w32.setCell ⟨n, 4, none⟩ (.int .i64 y)) from T32.out.deed (Fr.setCell w32 n 4 _ (by simp)) (T32.out.d.put 4 _ _ rfl))
  obtain ⟨q0, q1, q2⟩ := arow DB.out
  have DB2 := Lib.hid ((Fr.setCell w32 n 4 (.int .i64 y) (S := [n]) (by simp)).heap DB.out (by have := DL.out; simp; omega))
  obtain ⟨c0, c1, c2, c3, c4⟩ := T32.out.q.c.cells
  dsimp only at c0 c1 c2 c3 c4
  obtain ⟨n0, n1, n2, n3, n4, n5, n6, n7⟩ := T32.out.d.cells
  dsimp only at n0 n1 n2 n3 n4 n5 n6 n7
  have zf := T32.out.d.fz 4
  go_upto_region 40 with fail
  generalize World.setCell w32 _ _ = w33 at *
  clear q0 q1 q2 DB
  have DB := DB2
  clear DB2
  clear n0 n1 n2 n3 n4 n5 n6 n7 c0 c1 c2 c3 c4 zf T32
  have T34 := Lib.hid (show RT w n ⟨hc, hfl, hs, hd⟩ ⟨⟨P, y, 0, false⟩, 0⟩ ⟨sp, su, sd⟩ ⟨false, false, 0, 0, y, ⟨0, 0, 0⟩⟩ (w33.setCell ⟨w.heap.size + 1, 0, none⟩ (.int .i64 P)) from T33.out.car (Fr.setCell w33 (w.heap.size + 1) 0 _ (by simp)) (T33.out.q.c.put0 P))
  obtain ⟨q0, q1, q2⟩ := arow DB.out
  have DB2 := Lib.hid ((Fr.setCell w33 (w.heap.size + 1) 0 (.int .i64 P) (S := [w.heap.size + 1]) (by simp)).heap DB.out (by have := DL.out; simp; omega))
  obtain ⟨c0, c1, c2, c3, c4⟩ := T33.out.q.c.cells
  dsimp only at c0 c1 c2 c3 c4
  have zf := T33.out.q.c.fz 0
  go_upto_region 41 with fail
  generalize World.setCell w33 _ _ = w34 at *
  clear q0 q1 q2 DB
  have DB := DB2
  clear DB2
  clear c0 c1 c2 c3 c4 zf T33
  clear DB DL
  obtain ⟨i0, i1, i2, i3⟩ := T34.out.q.h.cells
  dsimp only at i0 i1 i2 i3
  obtain ⟨c0, c1, c2, c3, c4⟩ := T34.out.q.c.cells
  dsimp only at c0 c1 c2 c3 c4
  go_wp2_with fail
  with_reducible refine (F2.out _).mono ?_
  rintro v w35 ⟨rfl, hg⟩
  have T35 := Lib.hid (T34.out.fr hg)
  clear i0 i1 i2 i3 c0 c1 c2 c3 c4 hg T34 F2
  have T36 := Lib.hid (show RT w n ⟨hc, hfl, hs, hd⟩ ⟨⟨P, y, 0, false⟩, 0⟩ ⟨sp, su, sd⟩ ⟨false, false, f2, 0, y, ⟨0, 0, 0⟩⟩ (w35.setCell ⟨n, 2, none⟩ (.int .i64 f2)) from T35.out.deed (Fr.setCell w35 n 2 _ (by simp)) (T35.out.d.put 2 _ _ rfl))
  obtain ⟨n0, n1, n2, n3, n4, n5, n6, n7⟩ := T35.out.d.cells
  dsimp only at n0 n1 n2 n3 n4 n5 n6 n7
  have zf := T35.out.d.fz 2
  go_upto_region 42 with fail
  generalize World.setCell w35 _ _ = w36 at *
  clear n0 n1 n2 n3 n4 n5 n6 n7 zf T35
  have U6 := Lib.hid (RE.of T36.out)
  have U7 := Lib.hid (U6.out.one ⟨⟨P, y, 0, false⟩, 0⟩)
  have U8 := Lib.hid (U7.out.two ⟨false, false, f2, 0, y, ⟨0, 0, 0⟩⟩)
  have U9 := Lib.hid (U8.out.fr (Fr.drew _ []))
  obtain ⟨r0, r1, r2, r3, r4⟩ := U6.out.y.cells
  have y0 := U6.out.y.fz 0
  have y1 := U6.out.y.fz 1
  have y2 := U6.out.y.fz 2
  have y3 := U6.out.y.fz 3
  have y4 := U6.out.y.fz 4
  obtain ⟨n0, n1, n2, n3, n4, n5, n6, n7⟩ := U6.out.e.cells
  have m0 := U6.out.e.fz 0
  have m1 := U6.out.e.fz 1
  have m2 := U6.out.e.fz 2
  have m3 := U6.out.e.fz 3
  have m4 := U6.out.e.fz 4
  have m5 := U6.out.e.fz 5
  have m6 := U6.out.e.fz 6
  have m7 := U6.out.e.fz 7
  dsimp only [zCa, zDn, zSp] at r0 r1 r2 r3 r4 n0 n1 n2 n3 n4 n5 n6 n7
  simp only [show ((0 : Nat) : Int) = 0 from rfl] at n5 n6 n7
  clear T36
  go_wp2_with fail
  refine wp_region_noPanic ?_
  refine wp_region_held_drew (S := (RY (w.heap.size + 1) n ⟨⟨P, y, 0, false⟩, 0⟩ ⟨false, false, f2, 0, y, ⟨0, 0, 0⟩⟩)) (by kernel_rfl) (U6.out.fr (Fr.drew _ [])).ry (fun hHeld => ?_)
  refine wpAnyH_take (i := 0) (oi := _) (v := ?fv0h41n42) (by simp only [List.getElem?_toArray, List.getElem?_cons_zero]; rfl) (by kernel_rfl) (by kernel_rfl) (by kernel_rfl) (fun _ _ _ h => h) (Or.inl ⟨by rfl, ?fy0h41n42⟩) (by assumption) ?fr0h41n42
  case fy0h41n42 => (intro w hSw; (try dsimp only [RY] at hSw); go_simp; try with_reducible rfl)
  try simp only [Act.put, List.setIfInBounds_toArray, List.set_cons_zero, List.set_cons_succ]
  refine wpAnyH_take (i := 1) (oi := _) (v := ?fv1h41n42) (by simp only [List.getElem?_toArray, List.getElem?_cons_zero, List.getElem?_cons_succ]; rfl) (by kernel_rfl) (by kernel_rfl) (by kernel_rfl) (fun _ _ _ h => h) (Or.inl ⟨by rfl, ?fy1h41n42⟩) (by assumption) ?fr1h41n42
  case fy1h41n42 => (intro w hSw; (try dsimp only [RY] at hSw); go_simp; try with_reducible rfl)
  try simp only [Act.put, List.setIfInBounds_toArray, List.set_cons_zero, List.set_cons_succ]
  refine wpAnyH_ready (rs := [2]) (by kernel_rfl) (by simp) ?_
  refine AllReadyH.cons (o := _) rfl (fun K hK => ?_) AllReadyH.nil
  go_simp
  refine hK.out _ _ (U7.out.fr (Fr.drew _ [])).ry (fun hHeld => ?_)
  clear hK K
  try simp only [Act.put, List.setIfInBounds_toArray, List.set_cons_zero, List.set_cons_succ]
  refine wpAnyH_ready (rs := [3]) (by kernel_rfl) (by simp) ?_
  refine AllReadyH.cons (o := _) rfl (fun K hK => ?_) AllReadyH.nil
  go_simp
  refine hK.out _ _ (U8.out.fr (Fr.drew _ [])).ry (fun hHeld => ?_)
  clear hK K
  try simp only [Act.put, List.setIfInBounds_toArray, List.set_cons_zero, List.set_cons_succ]
  refine wpAnyH_done (by kernel_rfl) ?_ _
  refine NoPanic.normal ?_
  clear hHeld
  dsimp only [carSet, dnSet] at U9
  try simp only [show ((0 : Nat) : Int) = 0 from rfl] at U9
  go_wp2
  generalize World.drew (World.setCell (World.setCell (World.setCell (World.setCell (World.setCell (World.setCell (World.setCell (World.setCell (World.setCell (World.setCell (World.setCell (World.setCell (World.setCell w36 _ _) _ _) _ _) _ _) _ _) _ _) _ _) _ _) _ _) _ _) _ _) _ _) _ _) = v9 at *
  obtain ⟨x0, x1, x2, x3, x4⟩ := U9.out.y.cells
  obtain ⟨e0, e1, e2, e3, e4, e5, e6, e7⟩ := U9.out.e.cells
  dsimp only at x0 x1 x2 x3 x4 e0 e1 e2 e3 e4 e5 e6 e7
  try simp only [show ((0 : Nat) : Int) = 0 from rfl] at e5 e6 e7
  exact bodyPost_ret (v := .tuple #[.agg #[.int .i64 P, .int .i64 y, .int .i64 0, .bool false, .int .i64 0], .agg #[.bool false, .bool false, .int .i64 f2, .int .i64 0, .int .i64 y, .int .u64 0, .int .u64 0, .int .u64 0]]) (by simp [results, Tryz.results17, go_sem, x0, x1, x2, x3, x4, e0, e1, e2, e3, e4, e5, e6, e7]) rfl ⟨rfl, U9.out.f⟩

/-- The document's tick of any car, nothing obstructed. -/
theorem rctick_any (h : Ho) (c : Ca) (s : Sp) (w : World) (ok : s.ok) (x : Ca) (d : Dn) (hx : c.tick h s false = (x, d)) :
    Calls Tryz.prog 17 #[h.v, c.v, s.v, .bool false] w fun v w' => v = .returned (.tuple #[x.v, d.v]) ∧ Fr w w' [] := by
  by_cases R : RightIs h c
  · by_cases g : 0 < c.x.o
    · exact rct_open h c s w R g x d hx
    · by_cases l : h.lev c.x.p
      · cases k : (h.fit s).stop (h.flr c.x.p) c.x.e with
        | true => exact rct_stop h c s w ok R g l k x d hx
        | false => exact rct_go h c s w ok R g l k x d hx
      · exact rct_btw h c s w R g l x d hx
  · rw [tick_wrong R] at hx
    obtain ⟨rfl, rfl⟩ : c = x ∧ zDn = d := ⟨congrArg Prod.fst hx, congrArg Prod.snd hx⟩
    exact rct_wrong h c s w R
end Go.Proofs.YtdmomnhacijmpaaGreatDoor
