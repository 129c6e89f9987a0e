/- A tick of any car; the chapter's example. -/
import Derived.Test.YtgcgbiaigbblkaaDoorCar8
import Derived.Test.YtgcgbiaigbblkaaDoorDetM
import Derived.Test.YtgcgbiaigbblkaaDoorAOf
namespace Go.Proofs.YtgcgbiaigbblkaaDoor
open Go.RowKit

theorem ctick_any (h : Ho) (c : Ca) (s : Sp) (ob : Bool) (w : World) (ok : s.ok) (hT : Tz w) (hk : c.k ≤ 9223372036854775807) (x : Ca) (d : Dn) (hx : c.tick h s ob = (x, d)) :
    Calls Tryd.prog 16 #[h.v, c.v, s.v, .bool ob] w fun v w' => v = .returned (.tuple #[x.v, d.v]) ∧ Fr w w' [] := by
  by_cases R : RightIs h c
  · exact ctick_right h c s ob w ok hT hk R x d hx
  · rw [tick_wrong R] at hx
    obtain ⟨rfl, rfl⟩ : c = x ∧ zDn = d := ⟨congrArg Prod.fst hx, congrArg Prod.snd hx⟩
    exact ctick_wrong h c s ob w (by rw [← Bool.not_eq_true]; exact fun q => R ((right_iff h c).1 q))

/-- What makes a block tells where: a pointer, a slice of one. -/
def ptrTo (n : Nat) : Value := .pointer (some ⟨n, 0, none⟩)
def oneTo (n : Nat) : Value := .slice (some ⟨n, 0, none⟩) 1 1
theorem ints_row {w : World} {p : Nat} {q : Int} (h : w.heap[p]? = some (.cells #[.int .i64 q] 3)) : HInts w (.slice (some ⟨p, 0, none⟩) 1 1) [q] := by
  refine ⟨_, 1, rfl, Nat.le_refl 1, by decide, fun _ => ⟨p, 0, rfl, fun i hi => ?_⟩⟩
  rw [Nat.zero_add, cell_of_row _ _ _ _ _ _ h]
  have hi' : i < 1 := hi
  match i, hi' with
  | 0, _ => rfl
theorem no_latchs (w : World) : HLs w (.slice none 0 0) [] := ⟨none, 0, rfl, by simp, by decide, fun h => absurd h (by simp)⟩
theorem of_one (q : Int) (w : World) (p : Nat) (h : w.heap[p]? = some (.cells #[.int .i64 q] 3)) :
    Calls Tryd.prog 24 #[.slice (some ⟨p, 0, none⟩) 1 1, .slice none 0 0] w fun x w' => x = .returned (Sp.mk (oneN q) 0 0).v ∧ Fr w w' [] :=
  of_any _ [q] _ [] w (ints_row h) (no_latchs w) _ (by show _ = Sp.mk (0 ||| oneN q) 0 0; rw [Nat.zero_or])

/-- A house's and a car's cells, in a world that came of W. -/
def F5 (W : World) (m n : Nat) (h : Ho) (c : Ca) (a : World) : Prop := Fr W a [] ∧
  (a.cell? ⟨m, 0, none⟩ = some (.int .i64 h.c) ∧ a.cell? ⟨m, 1, none⟩ = some (.int .i64 h.f) ∧ a.cell? ⟨m, 2, none⟩ = some (.int .i64 h.s) ∧ a.cell? ⟨m, 3, none⟩ = some (.int .i64 h.d)) ∧
  a.cell? ⟨n, 0, none⟩ = some (.int .i64 c.x.p) ∧ a.cell? ⟨n, 1, none⟩ = some (.int .i64 c.x.e) ∧ a.cell? ⟨n, 2, none⟩ = some (.int .i64 c.x.o) ∧ a.cell? ⟨n, 3, none⟩ = some (.bool c.x.r) ∧ a.cell? ⟨n, 4, none⟩ = some (.int .i64 c.k)
theorem F5.of {W : World} {m n : Nat} {h : Ho} {c : Ca} {a : World} (f : Fr W a []) (b : HB a m h) (k : CB a n c) : F5 W m n h c a := ⟨f, b.cells, k.cells⟩
theorem F5.lasts (W : World) (m n : Nat) (h : Ho) (c : Ca) : Lasts (F5 W m n h c) := fun _ _ q f =>
  ⟨q.1.trans f, ⟨f.cell q.2.1.1 (by simp), f.cell q.2.1.2.1 (by simp), f.cell q.2.1.2.2.1 (by simp), f.cell q.2.1.2.2.2 (by simp)⟩, f.cell q.2.2.1 (by simp), f.cell q.2.2.2.1 (by simp), f.cell q.2.2.2.2.1 (by simp), f.cell q.2.2.2.2.2.1 (by simp), f.cell q.2.2.2.2.2.2 (by simp)⟩
theorem F5.size {W : World} {m n : Nat} {h : Ho} {c : Ca} (w : World) (q : F5 W m n h c w) : W.heap.size ≤ w.heap.size := q.1.size

/-- A new car and its deed, in boxes of their own. -/
structure PD (W : World) (m n : Nat) (x : Ca) (d : Dn) (a : World) : Prop where
  f : Fr W a []
  x : CB a m x
  d : NB a n d
  m : W.heap.size ≤ m
  n : W.heap.size ≤ n
theorem PD.ne {W : World} {m n : Nat} {x : Ca} {d : Dn} {a : World} (q : PD W m n x d a) : m ≠ n := fun e => by
  have h1 := q.x
  have h2 := q.d
  unfold CB at h1
  unfold NB at h2
  rw [e, h2] at h1
  simp at h1
theorem PD.fr {W : World} {m n : Nat} {x : Ca} {d : Dn} {a a' : World} (q : PD W m n x d a) (f : Fr a a' []) : PD W m n x d a' := ⟨q.f.trans f, q.x.fr f (by simp), q.d.fr f (by simp), q.m, q.n⟩
theorem PD.car {W : World} {m n : Nat} {x : Ca} {d : Dn} {a : World} (q : PD W m n x d a) (z : Ca) : PD W m n z d (carSet a m z) :=
  ⟨q.f.new (carSet_fr a m z) (by have := q.m; simp; omega), q.x.set z, q.d.fr (carSet_fr a m z) (by simpa using q.ne.symm), q.m, q.n⟩
theorem PD.deed {W : World} {m n : Nat} {x : Ca} {d : Dn} {a : World} (q : PD W m n x d a) (z : Dn) : PD W m n x z (dnSet a n z) :=
  ⟨q.f.new (dnSet_fr a n z) (by have := q.n; simp; omega), q.x.fr (dnSet_fr a n z) (by simpa using q.ne), q.d.set z, q.m, q.n⟩

set_option maxHeartbeats 2000000 in
set_option maxRecDepth 100000 in
theorem cfirst_any (w : World) (hT : Tz w) : Calls Tryd.prog 11 #[] w fun e w' => e = .returned (.bool true) ∧ Fr w w' [] := by
  have HO : (Ho.mk 1 4 2 2).ok := by decide
  have SA := Lib.hid (fun W => cstart_any ⟨1, 4, 2, 2⟩ 2 W HO (by decide) (by decide) ⟨⟨2, 0, 0, false⟩, 0⟩ (by rfl))
  have O := Lib.hid (fun W p h => of_one 1 W p h)
  have TI := Lib.hid (fun W hT => ctick_any ⟨1, 4, 2, 2⟩ ⟨⟨2, 0, 0, false⟩, 0⟩ ⟨oneN 1, 0, 0⟩ false W ⟨oneN_lt 1, by decide, by decide⟩ hT (by decide) ⟨⟨2, 0, 2, false⟩, 0⟩ ⟨true, false, 1, 0, 0, ⟨oneN 1, 0, 0⟩⟩ (by rfl))
  have HT := Lib.hid hT
  have B1 := Lib.hid (HB.new w ⟨1, 4, 2, 2⟩)
  have F1 := Lib.hid (Fr.alloc w (Ho.box ⟨1, 4, 2, 2⟩) [])
  clear hT HO
  obtain ⟨o1, ho1⟩ : ∃ o, o = oneN 1 := ⟨_, rfl⟩
  rw [← ho1] at O TI
  clear ho1
  dsimp only [Ho.v, Ho.box, Ca.v, Ca.box, Sp.v, Sp.box, Dn.v, Dn.box] at *
  simp only [show ((0 : Nat) : Int) = 0 from rfl] at *
  go_enter Tryd.func11, Tryd.ntmps11
  go_wp2_with fail
  with_reducible refine (SA.out _).mono ?_
  rintro v w2 ⟨rfl, hf⟩
  have T2 : Hid (Fr w (w2.alloc (Ca.box ⟨⟨2, 0, 0, false⟩, 0⟩)) [] ∧ HB (w2.alloc (Ca.box ⟨⟨2, 0, 0, false⟩, 0⟩)) w.heap.size ⟨1, 4, 2, 2⟩ ∧ CB (w2.alloc (Ca.box ⟨⟨2, 0, 0, false⟩, 0⟩)) w2.heap.size ⟨⟨2, 0, 0, false⟩, 0⟩) :=
    Lib.hid ⟨(F1.out.trans hf).trans (Fr.alloc _ _ []), (HB.fr B1.out hf).fr (Fr.alloc _ _ []), CB.new _ _⟩
  clear hf SA B1 F1
  go_wp2_with fail
  dsimp only [Ca.box] at T2
  generalize World.alloc w2 _ = w3 at *
  have T3 := Lib.hid (HT.out.fr T2.out.1)
  refine wp_region_noPanic ?_
  refine wp_region_mix (M := F5 w3 w.heap.size w2.heap.size ⟨1, 4, 2, 2⟩ ⟨⟨2, 0, 0, false⟩, 0⟩) (fun i => match i with | 2 => some (oneTo, .cells #[.int .i64 1] 3) | 8 => some (ptrTo, zCa.box) | 9 => some (ptrTo, zDn.box) | _ => none) [7] w3.heap.size 10 (by kernel_rfl) (by kernel_rfl) (by kernel_rfl) (F5.lasts _ _ _ _ _) F5.size ((F5.lasts _ _ _ _ _) _ _ (F5.of (Fr.refl _ _) T2.out.2.1 T2.out.2.2) (Fr.drew _ [])) ?_
  refine wpMixU_take (i := 0) (oi := _) (v := ?mv1) (by decide) (by kernel_rfl) (by simp only [List.getElem?_toArray, List.getElem?_cons_zero]; rfl) (by rfl) (by kernel_rfl) (by kernel_rfl) (by kernel_rfl) (by rfl) ?my1 ?mr1
  case my1 => (intro M' hst him w hM; have hSw := him w hM; (try dsimp only [F5] at hSw); go_simp; refine Came.value ?_ hM; with_reducible rfl)
  try simp only [Act.put, List.setIfInBounds_toArray, List.set_cons_zero, List.set_cons_succ]
  refine wpMixU_take (i := 1) (oi := _) (v := ?mv2) (by decide) (by kernel_rfl) (by simp only [List.getElem?_toArray, List.getElem?_cons_zero, List.getElem?_cons_succ]; rfl) (by rfl) (by kernel_rfl) (by kernel_rfl) (by kernel_rfl) (by rfl) ?my2 ?mr2
  case my2 => (intro M' hst him w hM; have hSw := him w hM; (try dsimp only [F5] at hSw); go_simp; refine Came.value ?_ hM; with_reducible rfl)
  try simp only [Act.put, List.setIfInBounds_toArray, List.set_cons_zero, List.set_cons_succ]
  refine wpMixU_new (i := 2) (oi := _) [8, 9] (by decide) (by kernel_rfl) (by simp only [List.getElem?_toArray, List.getElem?_cons_zero, List.getElem?_cons_succ]; rfl) (by rfl) (by kernel_rfl) (by kernel_rfl) (by kernel_rfl) (by kernel_rfl) (by kernel_rfl) (by kernel_rfl) (by rfl) ?my3 ?mr3
  case my3 => (intro w; go_simp; first | done | rfl | exact ⟨rfl, rfl⟩)
  intro p2
  try simp only [ptrTo, oneTo]
  try simp only [Act.put, List.setIfInBounds_toArray, List.set_cons_zero, List.set_cons_succ]
  refine wpMixU_take (i := 3) (oi := _) (v := ?mv4) (by decide) (by kernel_rfl) (by simp only [List.getElem?_toArray, List.getElem?_cons_zero, List.getElem?_cons_succ]; rfl) (by rfl) (by kernel_rfl) (by kernel_rfl) (by kernel_rfl) (by rfl) ?my4 ?mr4
  case my4 => (intro M' hst him w hM; have hSw := him w hM; (try dsimp only [F5] at hSw); go_simp; exact Came.call ((O.out w p2 hSw.2.2).mono fun e w' ⟨he, hf⟩ => ⟨he, hst _ _ hM hf⟩) (by with_reducible rfl))
  try simp only [Act.put, List.setIfInBounds_toArray, List.set_cons_zero, List.set_cons_succ]
  refine wpMixU_take (i := 4) (oi := _) (v := ?mv5) (by decide) (by kernel_rfl) (by simp only [List.getElem?_toArray, List.getElem?_cons_zero, List.getElem?_cons_succ]; rfl) (by rfl) (by kernel_rfl) (by kernel_rfl) (by kernel_rfl) (by rfl) ?my5 ?mr5
  case my5 => (intro M' hst him w hM; have hSw := him w hM; (try dsimp only [F5] at hSw); go_simp; exact Came.call ((TI.out w (T3.out.fr hSw.1.1)).mono fun e w' ⟨he, hf⟩ => ⟨he, hst _ _ hM hf⟩) (by with_reducible rfl))
  try simp only [Act.put, List.setIfInBounds_toArray, List.set_cons_zero, List.set_cons_succ]
  refine wpMixU_take (i := 5) (oi := _) (v := ?mv6) (by decide) (by kernel_rfl) (by simp only [List.getElem?_toArray, List.getElem?_cons_zero, List.getElem?_cons_succ]; rfl) (by rfl) (by kernel_rfl) (by kernel_rfl) (by kernel_rfl) (by rfl) ?my6 ?mr6
  case my6 => (intro M' hst him w hM; have hSw := him w hM; (try dsimp only [F5] at hSw); go_simp; refine Came.value ?_ hM; with_reducible rfl)
  try simp only [Act.put, List.setIfInBounds_toArray, List.set_cons_zero, List.set_cons_succ]
  refine wpMixU_take (i := 6) (oi := _) (v := ?mv7) (by decide) (by kernel_rfl) (by simp only [List.getElem?_toArray, List.getElem?_cons_zero, List.getElem?_cons_succ]; rfl) (by rfl) (by kernel_rfl) (by kernel_rfl) (by kernel_rfl) (by rfl) ?my7 ?mr7
  case my7 => (intro M' hst him w hM; have hSw := him w hM; (try dsimp only [F5] at hSw); go_simp; refine Came.value ?_ hM; with_reducible rfl)
  try simp only [Act.put, List.setIfInBounds_toArray, List.set_cons_zero, List.set_cons_succ]
  refine wpMixU_pure (i := 7) (oi := _) (v := ?mv8) (by decide) (by kernel_rfl) (by simp only [List.getElem?_toArray, List.getElem?_cons_zero, List.getElem?_cons_succ]; rfl) (fun _ _ _ _ h => (h : False).elim) (by kernel_rfl) (by kernel_rfl) (by kernel_rfl) (by rfl) ?my8 ?mr8
  case my8 => (intro w; go_simp; try with_reducible rfl)
  try simp only [Act.put, List.setIfInBounds_toArray, List.set_cons_zero, List.set_cons_succ]
  refine wpMixU_new (i := 8) (oi := _) [8, 9] (by decide) (by kernel_rfl) (by simp only [List.getElem?_toArray, List.getElem?_cons_zero, List.getElem?_cons_succ]; rfl) (by rfl) (by kernel_rfl) (by kernel_rfl) (by kernel_rfl) (by kernel_rfl) (by kernel_rfl) (by kernel_rfl) (by rfl) ?my9 ?mr9
  case my9 => (intro w; go_simp; first | done | rfl | exact ⟨rfl, rfl⟩)
  intro p8
  try simp only [ptrTo, oneTo]
  try simp only [Act.put, List.setIfInBounds_toArray, List.set_cons_zero, List.set_cons_succ]
  refine wpMixU_new (i := 9) (oi := _) [8, 9] (by decide) (by kernel_rfl) (by simp only [List.getElem?_toArray, List.getElem?_cons_zero, List.getElem?_cons_succ]; rfl) (by rfl) (by kernel_rfl) (by kernel_rfl) (by kernel_rfl) (by kernel_rfl) (by kernel_rfl) (by kernel_rfl) (by rfl) ?my10 ?mr10
  case my10 => (intro w; go_simp; first | done | rfl | exact ⟨rfl, rfl⟩)
  intro p9
  try simp only [ptrTo, oneTo]
  try simp only [Act.put, List.setIfInBounds_toArray, List.set_cons_zero, List.set_cons_succ]
  refine wpMixU_tail (fun _ => True) (by kernel_rfl) (fun _ _ => trivial) ?_
  intro w5 hM
  have P5 := Lib.hid (show PD w3 p8 p9 zCa zDn w5 from ⟨hM.1.1.1.1, hM.1.2.2, hM.2.2, hM.1.2.1, hM.2.1⟩)
  have P6 := Lib.hid (P5.out.car ⟨⟨2, 0, 2, false⟩, 0⟩)
  have P7 := Lib.hid (P6.out.deed ⟨true, false, 1, 0, 0, ⟨o1, 0, 0⟩⟩)
  obtain ⟨r0, r1, r2, r3, r4⟩ := P5.out.x.cells
  have y0 := P5.out.x.fz 0
  have y1 := P5.out.x.fz 1
  have y2 := P5.out.x.fz 2
  have y3 := P5.out.x.fz 3
  have y4 := P5.out.x.fz 4
  obtain ⟨n0, n1, n2, n3, n4, n5, n6, n7⟩ := P6.out.d.cells
  have m0 := P6.out.d.fz 0
  have m1 := P6.out.d.fz 1
  have m2 := P6.out.d.fz 2
  have m3 := P6.out.d.fz 3
  have m4 := P6.out.d.fz 4
  have m5 := P6.out.d.fz 5
  have m6 := P6.out.d.fz 6
  have m7 := P6.out.d.fz 7
  clear hM
  dsimp only [zCa, zDn, zSp, carSet] at *
  simp only [show ((0 : Nat) : Int) = 0 from rfl] at n5 n6 n7
  refine wpAnyH_ready (rs := [10]) (by kernel_rfl) (by simp) ?_
  refine AllReadyH.cons (o := _) rfl (fun K hK => ?_) AllReadyH.nil
  go_simp
  refine hK.out _ _ trivial (fun hHeld => ?_)
  clear hK K
  try simp only [Act.put, List.setIfInBounds_toArray, List.set_cons_zero, List.set_cons_succ]
  generalize World.setCell (World.setCell (World.setCell (World.setCell (World.setCell w5 _ _) _ _) _ _) _ _) _ _ = w6 at *
  refine wpAnyH_ready (rs := [11]) (by kernel_rfl) (by simp) ?_
  refine AllReadyH.cons (o := _) rfl (fun K hK => ?_) AllReadyH.nil
  go_simp
  refine hK.out _ _ trivial (fun hHeld => ?_)
  clear hK K
  try simp only [Act.put, List.setIfInBounds_toArray, List.set_cons_zero, List.set_cons_succ]
  refine wpAnyH_done (by kernel_rfl) ?_ _
  refine NoPanic.normal ?_
  dsimp only [dnSet] at *
  generalize World.setCell (World.setCell (World.setCell (World.setCell (World.setCell (World.setCell (World.setCell (World.setCell w6 _ _) _ _) _ _) _ _) _ _) _ _) _ _) _ _ = w7 at *
  clear r0 r1 r2 r3 r4 y0 y1 y2 y3 y4 n0 n1 n2 n3 n4 n5 n6 n7 m0 m1 m2 m3 m4 m5 m6 m7 P5 P6
  obtain ⟨x0, x1, x2, x3, x4⟩ := P7.out.x.cells
  obtain ⟨n0, n1, n2, n3, n4, n5, n6, n7⟩ := P7.out.d.cells
  dsimp only at x0 x1 x2 x3 x4 n0 n1 n2 n3 n4 n5 n6 n7
  go_wp2
  go_ret
  exact ⟨rfl, T2.out.1.trans P7.out.f⟩
end Go.Proofs.YtgcgbiaigbblkaaDoor
