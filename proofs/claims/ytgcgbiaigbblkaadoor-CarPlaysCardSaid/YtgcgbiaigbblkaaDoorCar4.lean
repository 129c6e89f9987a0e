/- A car's door: doorOf, withDoor, wait. -/
import Derived.Test.YtgcgbiaigbblkaaDoorCar
import Derived.Test.YtgcgbiaigbblkaaDoorDoor3
import Derived.Deep.DeepCutAuto
import Derived.Deep.CutBlock
namespace Go.Proofs.YtgcgbiaigbblkaaDoor
open Go.RowKit

abbrev dobj (l k : Int) : Obj := .cells #[.int .i64 l, .int .i64 k] 67
set_option maxRecDepth 100000 in
theorem doorOf_any (c : Ca) (w : World) : Calls Tryd.prog 28 #[c.v] w fun e w' => e = .returned (dv c.x.o c.k) ∧ Fr w w' [] := by
  obtain ⟨⟨xp, xe, xo, xr⟩, xk⟩ := c
  have FA := Lib.hid ((Fr.alloc w (Ca.box ⟨⟨xp, xe, xo, xr⟩, xk⟩) []).trans (Fr.alloc _ (dobj xo xk) []))
  have x := drow (heap_alloc_new (w.alloc (Ca.box ⟨⟨xp, xe, xo, xr⟩, xk⟩)) (dobj xo xk))
  rw [show (w.alloc (Ca.box ⟨⟨xp, xe, xo, xr⟩, xk⟩)).heap.size = w.heap.size + 1 by simp] at x
  obtain ⟨x0, x1⟩ := x
  dsimp only [Ca.v, Ca.box, dobj, dv] at *
  go_enter Tryd.func28, Tryd.ntmps28
  go_wp2
  exact bodyPost_ret (v := .agg #[.int .i64 xo, .int .i64 xk]) (by simp [results, Tryd.results28, go_sem, x0, x1]) rfl ⟨rfl, FA.out⟩

/-- A car's box, a door's, a car that is nothing. -/
structure WD (W : World) (c : Ca) (l k : Int) (a : World) : Prop where
  f : Fr W a []
  c : CB a W.heap.size c
  d : a.heap[W.heap.size + 1]? = some (dobj l k)
  r : CB a (W.heap.size + 2) zCa
theorem WD.fr {W : World} {c : Ca} {l k : Int} {a a' : World} (q : WD W c l k a) (f : Fr a a' []) : WD W c l k a' := ⟨q.f.trans f, q.c.fr f (by simp), f.heap q.d (by simp), q.r.fr f (by simp)⟩
theorem WD.turn {W : World} {c x : Ca} {l k : Int} {a a' : World} (q : WD W c l k a) (f : Fr a a' [W.heap.size]) (r : CB a' W.heap.size x) : WD W x l k a' :=
  ⟨q.f.new f (by simp), r, f.heap q.d (by simp), q.r.fr f (by simp)⟩
theorem WD.new (w : World) (c : Ca) (l k : Int) : WD w c l k (((w.alloc c.box).alloc (dobj l k)).alloc zCa.box) := by
  have a1 := heap_alloc_new w c.box
  have a2 := heap_alloc_new (w.alloc c.box) (dobj l k)
  have a3 := heap_alloc_new ((w.alloc c.box).alloc (dobj l k)) zCa.box
  rw [show (w.alloc c.box).heap.size = w.heap.size + 1 by simp] at a2
  rw [show ((w.alloc c.box).alloc (dobj l k)).heap.size = w.heap.size + 2 by simp] at a3
  exact ⟨((Fr.alloc _ _ []).trans (Fr.alloc _ _ [])).trans (Fr.alloc _ _ []), (Fr.alloc _ _ []).heap ((Fr.alloc _ _ []).heap a1 (by simp)) (by simp), (Fr.alloc _ _ []).heap a2 (by simp), a3⟩
def DS (W : World) (l k : Int) (a : World) : Prop := a.cell? ⟨W.heap.size + 1, 0, none⟩ = some (.int .i64 l) ∧ a.cell? ⟨W.heap.size + 1, 1, none⟩ = some (.int .i64 k)
theorem WD.ds {W : World} {c : Ca} {l k : Int} {a : World} (q : WD W c l k a) : DS W l k a := drow q.d
set_option maxHeartbeats 1000000 in
set_option maxRecDepth 100000 in
theorem withDoor_any (c : Ca) (l k : Int) (w : World) (x : Ca) (hx : x = ⟨⟨c.x.p, c.x.e, l, c.x.r⟩, k⟩) : Calls Tryd.prog 40 #[c.v, dv l k] w fun e w' => e = .returned x.v ∧ Fr w w' [] := by
  have TB := Lib.hid (WD.new w c l k)
  subst hx
  obtain ⟨⟨xp, xe, xo, xr⟩, xk⟩ := c
  dsimp only [Ca.v, Ca.box, dobj, dv, zCa] at *
  go_enter Tryd.func40, Tryd.ntmps40
  go_upto_region 1 with fail
  generalize World.alloc (World.alloc (World.alloc w _) _) _ = w1 at *
  go_wp2_with fail
  have T1 := Lib.hid TB.out
  have T2 := Lib.hid (T1.out.turn (Fr.setCell _ w.heap.size 2 (.int .i64 l) (by simp)) (T1.out.c.put2 l))
  have T3 := Lib.hid (T2.out.turn (Fr.setCell _ w.heap.size 4 (.int .i64 k) (by simp)) (T2.out.c.put4 k))
  obtain ⟨q1, q2⟩ : _ ∧ _ := ⟨(T3.out.f.new (carSet_fr _ (w.heap.size + 2) ⟨⟨xp, xe, l, xr⟩, k⟩) (by simp)).trans (Fr.drew _ []), (T3.out.r.set ⟨⟨xp, xe, l, xr⟩, k⟩).fr (Fr.drew _ []) (by simp)⟩
  have q1 := Lib.hid q1
  have q2 := Lib.hid q2
  have z2 := T1.out.c.fz 2
  have z4 := T1.out.c.fz 4
  obtain ⟨d0, d1, d2, d3, d4⟩ := T1.out.c.cells
  obtain ⟨e0, e1, e2, e3, e4⟩ := T2.out.c.cells
  obtain ⟨c0, c1, c2, c3, c4⟩ := T3.out.c.cells
  obtain ⟨r0, r1, r2, r3, r4⟩ := T3.out.r.cells
  have y0 := T3.out.r.fz 0
  have y1 := T3.out.r.fz 1
  have y2 := T3.out.r.fz 2
  have y3 := T3.out.r.fz 3
  have y4 := T3.out.r.fz 4
  dsimp only [zCa, carSet] at *
  refine wp_region_noPanic ?_
  refine wp_region_held_drew (S := (DS w l k)) (by kernel_rfl) (T1.out.fr (Fr.drew w1 [])).ds (fun hHeld => ?_)
  refine wpAnyH_take (i := 0) (oi := _) (v := ?fv0h1n2) (by simp only [List.getElem?_toArray, List.getElem?_cons_zero]; rfl) (by kernel_rfl) (by kernel_rfl) (by kernel_rfl) (fun _ _ _ h => h) (Or.inl ⟨by rfl, ?fy0h1n2⟩) (by assumption) ?fr0h1n2
  case fy0h1n2 => (intro w hSw; (try dsimp only [DS] at hSw); go_simp; try with_reducible rfl)
  try simp only [Act.put, List.setIfInBounds_toArray, List.set_cons_zero, List.set_cons_succ]
  refine wpAnyH_take (i := 1) (oi := _) (v := ?fv1h1n2) (by simp only [List.getElem?_toArray, List.getElem?_cons_zero, List.getElem?_cons_succ]; rfl) (by kernel_rfl) (by kernel_rfl) (by kernel_rfl) (fun _ _ _ h => h) (Or.inl ⟨by rfl, ?fy1h1n2⟩) (by assumption) ?fr1h1n2
  case fy1h1n2 => (intro w hSw; (try dsimp only [DS] at hSw); go_simp; try with_reducible rfl)
  try simp only [Act.put, List.setIfInBounds_toArray, List.set_cons_zero, List.set_cons_succ]
  refine wpAnyH_take (i := 2) (oi := _) (v := ?fv2h1n2) (by simp only [List.getElem?_toArray, List.getElem?_cons_zero, List.getElem?_cons_succ]; rfl) (by kernel_rfl) (by kernel_rfl) (by kernel_rfl) (fun _ _ _ h => h) (Or.inl ⟨by rfl, ?fy2h1n2⟩) (by assumption) ?fr2h1n2
  case fy2h1n2 => (intro w hSw; (try dsimp only [DS] at hSw); go_simp; try with_reducible rfl)
  try simp only [Act.put, List.setIfInBounds_toArray, List.set_cons_zero, List.set_cons_succ]
  refine wpAnyH_take (i := 3) (oi := _) (v := ?fv3h1n2) (by simp only [List.getElem?_toArray, List.getElem?_cons_zero, List.getElem?_cons_succ]; rfl) (by kernel_rfl) (by kernel_rfl) (by kernel_rfl) (fun _ _ _ h => h) (Or.inl ⟨by rfl, ?fy3h1n2⟩) (by assumption) ?fr3h1n2
  case fy3h1n2 => (intro w hSw; (try dsimp only [DS] at hSw); go_simp; try with_reducible rfl)
  try simp only [Act.put, List.setIfInBounds_toArray, List.set_cons_zero, List.set_cons_succ]
  refine wpAnyH_take (i := 4) (oi := _) (v := ?fv4h1n2) (by simp only [List.getElem?_toArray, List.getElem?_cons_zero, List.getElem?_cons_succ]; rfl) (by kernel_rfl) (by kernel_rfl) (by kernel_rfl) (fun _ _ _ h => h) (Or.inl ⟨by rfl, ?fy4h1n2⟩) (by assumption) ?fr4h1n2
  case fy4h1n2 => (intro w hSw; (try dsimp only [DS] at hSw); go_simp; try with_reducible rfl)
  try simp only [Act.put, List.setIfInBounds_toArray, List.set_cons_zero, List.set_cons_succ]
  refine wpAnyH_take (i := 5) (oi := _) (v := ?fv5h1n2) (by simp only [List.getElem?_toArray, List.getElem?_cons_zero, List.getElem?_cons_succ]; rfl) (by kernel_rfl) (by kernel_rfl) (by kernel_rfl) (fun _ _ _ h => h) (Or.inl ⟨by rfl, ?fy5h1n2⟩) (by assumption) ?fr5h1n2
  case fy5h1n2 => (intro w hSw; (try dsimp only [DS] at hSw); go_simp; try with_reducible rfl)
  try simp only [Act.put, List.setIfInBounds_toArray, List.set_cons_zero, List.set_cons_succ]
  refine wpAnyH_ready (rs := [6]) (by kernel_rfl) (by simp) ?_
  refine AllReadyH.cons (o := _) rfl (fun K hK => ?_) AllReadyH.nil
  go_simp
  refine hK.out _ _ (T2.out.fr (Fr.drew _ [])).ds (fun hHeld => ?_)
  clear hK K
  try simp only [Act.put, List.setIfInBounds_toArray, List.set_cons_zero, List.set_cons_succ]
  refine wpAnyH_take (i := 7) (oi := _) (v := ?fv7h1n3) (by simp only [List.getElem?_toArray, List.getElem?_cons_zero, List.getElem?_cons_succ]; rfl) (by kernel_rfl) (by kernel_rfl) (by kernel_rfl) (fun _ _ _ h => h) (Or.inl ⟨by rfl, ?fy7h1n3⟩) (by assumption) ?fr7h1n3
  case fy7h1n3 => (intro w hSw; (try dsimp only [DS] at hSw); go_simp; try with_reducible rfl)
  try simp only [Act.put, List.setIfInBounds_toArray, List.set_cons_zero, List.set_cons_succ]
  refine wpAnyH_ready (rs := [8]) (by kernel_rfl) (by simp) ?_
  refine AllReadyH.cons (o := _) rfl (fun K hK => ?_) AllReadyH.nil
  go_simp
  refine hK.out _ _ (T3.out.fr (Fr.drew _ [])).ds (fun hHeld => ?_)
  clear hK K
  try simp only [Act.put, List.setIfInBounds_toArray, List.set_cons_zero, List.set_cons_succ]
  refine wpAnyH_done (by kernel_rfl) ?_ _
  refine NoPanic.normal ?_
  clear hHeld
  go_wp2
  generalize World.drew (World.setCell (World.setCell (World.setCell (World.setCell (World.setCell (World.setCell (World.setCell _ _ _) _ _) _ _) _ _) _ _) _ _) _ _) = W at *
  obtain ⟨x0, x1, x2, x3, x4⟩ := q2.out.cells
  dsimp only at x0 x1 x2 x3 x4
  exact bodyPost_ret (v := .agg #[.int .i64 xp, .int .i64 xe, .int .i64 l, .bool xr, .int .i64 k]) (by simp [results, Tryd.results40, go_sem, x0, x1, x2, x3, x4]) rfl ⟨rfl, q1.out⟩

/-- A car's box, a car that is nothing; behind them a door's. -/
structure WT (W : World) (n : Nat) (c : Ca) (l k : Int) (a : World) : Prop where
  f : Fr W a []
  c : CB a W.heap.size c
  r : CB a (W.heap.size + 1) zCa
  d : a.heap[n]? = some (dobj l k)
theorem WT.fr {W : World} {n : Nat} {c : Ca} {l k : Int} {a a' : World} (q : WT W n c l k a) (f : Fr a a' []) : WT W n c l k a' := ⟨q.f.trans f, q.c.fr f (by simp), q.r.fr f (by simp), f.heap q.d (by simp)⟩
theorem WT.new {W a : World} {c : Ca} (f : Fr ((W.alloc c.box).alloc zCa.box) a []) (l k : Int) : WT W a.heap.size c l k (a.alloc (dobj l k)) := by
  have a1 := heap_alloc_new W c.box
  have a2 := heap_alloc_new (W.alloc c.box) zCa.box
  rw [show (W.alloc c.box).heap.size = W.heap.size + 1 by simp] at a2
  have g := f.trans (Fr.alloc a (dobj l k) [])
  exact ⟨((Fr.alloc _ _ []).trans (Fr.alloc _ _ [])).trans g, g.heap ((Fr.alloc _ _ []).heap a1 (by simp)) (by simp), g.heap a2 (by simp), heap_alloc_new _ _⟩
set_option maxHeartbeats 1000000 in
set_option maxRecDepth 100000 in
theorem wait_any (c : Ca) (ob : Bool) (w : World) (h0 : -9223372036854775808 ≤ c.k) (h1 : c.k ≤ 9223372036854775807) (h2 : c.x.o ≤ 9223372036854775807) (x : Ca) (hx : x = ⟨⟨c.x.p, c.x.e, tickL c.x.o ob, c.x.r⟩, heldK c.x.o c.k ob⟩) (b : Bool) (hb : b = tickB c.x.o ob) :
    Calls Tryd.prog 29 #[c.v, .bool ob] w fun e w' => e = .returned (.tuple #[x.v, .bool b]) ∧ Fr w w' [] := by
  have DO := Lib.hid (fun W => doorOf_any c W)
  obtain ⟨l, hl⟩ : ∃ l, l = tickL c.x.o ob := ⟨_, rfl⟩
  obtain ⟨k, hk⟩ : ∃ k, k = heldK c.x.o c.k ob := ⟨_, rfl⟩
  have TI := Lib.hid (fun W => tick_all c.x.o c.k ob W l k b hl hk hb h0 h1 h2)
  rw [← hl, ← hk] at hx
  have WI := Lib.hid (fun W => withDoor_any c l k W x hx)
  have F0 := Lib.hid (fun a (f : Fr ((w.alloc c.box).alloc zCa.box) a []) => WT.new (W := w) f l k)
  clear hl hk hb h0 h1 h2
  subst hx
  obtain ⟨⟨xp, xe, xo, xr⟩, xk⟩ := c
  dsimp only [Ca.v, Ca.box, dobj, dv, zCa] at *
  go_enter Tryd.func29, Tryd.ntmps29
  go_wp2_with fail
  with_reducible refine (DO.out _).mono ?_
  rintro e w2 ⟨rfl, hf2⟩
  go_wp2_with fail
  with_reducible refine (TI.out _).mono ?_
  rintro e w3 ⟨rfl, hf3⟩
  have T3 := Lib.hid (F0.out w3 (hf2.trans hf3))
  clear hf2 hf3 F0 DO TI
  obtain ⟨c0, c1, c2, c3, c4⟩ := T3.out.c.cells
  obtain ⟨d0, d1⟩ := drow T3.out.d
  dsimp only at c0 c1 c2 c3 c4 d0 d1
  go_wp2_with fail
  with_reducible refine (WI.out _).mono ?_
  rintro e w4 ⟨rfl, hf⟩
  have T4 := Lib.hid (T3.out.fr hf)
  obtain ⟨q1, q2⟩ : _ ∧ _ := ⟨T4.out.f.new (carSet_fr _ (w.heap.size + 1) ⟨⟨xp, xe, l, xr⟩, k⟩) (by simp), T4.out.r.set ⟨⟨xp, xe, l, xr⟩, k⟩⟩
  have q1 := Lib.hid q1
  have q2 := Lib.hid q2
  clear hf c0 c1 c2 c3 c4 d0 d1 WI T3
  obtain ⟨r0, r1, r2, r3, r4⟩ := T4.out.r.cells
  have y0 := T4.out.r.fz 0
  have y1 := T4.out.r.fz 1
  have y2 := T4.out.r.fz 2
  have y3 := T4.out.r.fz 3
  have y4 := T4.out.r.fz 4
  dsimp only [zCa, carSet] at *
  go_wp2
  generalize World.setCell (World.setCell (World.setCell (World.setCell (World.setCell w4 _ _) _ _) _ _) _ _) _ _ = W at *
  obtain ⟨x0, x1, x2, x3, x4⟩ := q2.out.cells
  dsimp only at x0 x1 x2 x3 x4
  exact bodyPost_ret (v := .tuple #[.agg #[.int .i64 xp, .int .i64 xe, .int .i64 l, .bool xr, .int .i64 k], .bool b]) (by simp [results, Tryd.results29, go_sem, x0, x1, x2, x3, x4]) rfl ⟨rfl, q1.out⟩
end Go.Proofs.YtgcgbiaigbblkaaDoor
