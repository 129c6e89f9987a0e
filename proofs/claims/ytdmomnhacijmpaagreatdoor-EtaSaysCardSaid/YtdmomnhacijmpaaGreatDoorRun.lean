/- A ride that is reckoned when it is asked for: New, Ticks, Times. -/
import Derived.Test.YtdmomnhacijmpaaGreatDoorOnce
namespace Go.Proofs.YtdmomnhacijmpaaGreatDoor
open Go.RowKit

abbrev runCells (h : Ho) (c : Ca) (s : Sp) (q e dn st t n : Int) : Array Value :=
  #[.int .i64 h.c, .int .i64 h.f, .int .i64 h.s, .int .i64 h.d, .int .i64 c.x.p, .int .i64 c.x.e, .int .i64 c.x.o, .bool c.x.r, .int .i64 c.k, .int .u64 s.c, .int .u64 s.u, .int .u64 s.d, .int .i64 q, .int .i64 e, .int .u32 dn, .int .i32 st, .int .u32 0, .int .i64 t, .int .i64 n]
abbrev runBox (h : Ho) (c : Ca) (s : Sp) (q e dn st t n : Int) : Obj := .cells (runCells h c s q e dn st t n) 70
/-- Block p is a run. -/
def RO (w : World) (p : Nat) (h : Ho) (c : Ca) (s : Sp) (q e dn st t n : Int) : Prop := w.heap[p]? = some (runBox h c s q e dn st t n)
theorem RO.fr {w w' : World} {p : Nat} {h : Ho} {c : Ca} {s : Sp} {q e dn st t n : Int} {S : List Nat} (k : RO w p h c s q e dn st t n) (f : Fr w w' S) (hp : p ∉ S) : RO w' p h c s q e dn st t n := f.heap k hp
theorem RO.fz {w : World} {p : Nat} {h : Ho} {c : Ca} {s : Sp} {q e dn st t n : Int} (k : RO w p h c s q e dn st t n) (i : Nat) : w.frozen? ⟨p, i, none⟩ = false := frozen_of_row _ _ i _ _ k
theorem RO.at {w : World} {p : Nat} {h : Ho} {c : Ca} {s : Sp} {q e dn st t n : Int} (k : RO w p h c s q e dn st t n) :
    w.cell? ⟨p, 14, none⟩ = some (.int .u32 dn) ∧ w.cell? ⟨p, 15, none⟩ = some (.int .i32 st) ∧ w.cell? ⟨p, 17, none⟩ = some (.int .i64 t) ∧ w.cell? ⟨p, 18, none⟩ = some (.int .i64 n) :=
  ⟨by rw [cell_of_row w p 14 _ _ _ k]; rfl, by rw [cell_of_row w p 15 _ _ _ k]; rfl, by rw [cell_of_row w p 17 _ _ _ k]; rfl, by rw [cell_of_row w p 18 _ _ _ k]; rfl⟩
/-- What reckon reads. -/
def RM (V : World) (p : Nat) (h : Ho) (c : Ca) (s : Sp) (q e : Int) (a : World) : Prop := Fr V a [] ∧
  (a.cell? ⟨p, 0, none⟩ = some (.int .i64 h.c) ∧ a.cell? ⟨p, 1, none⟩ = some (.int .i64 h.f) ∧ a.cell? ⟨p, 2, none⟩ = some (.int .i64 h.s) ∧ a.cell? ⟨p, 3, none⟩ = some (.int .i64 h.d)) ∧
  (a.cell? ⟨p, 4, none⟩ = some (.int .i64 c.x.p) ∧ a.cell? ⟨p, 5, none⟩ = some (.int .i64 c.x.e) ∧ a.cell? ⟨p, 6, none⟩ = some (.int .i64 c.x.o) ∧ a.cell? ⟨p, 7, none⟩ = some (.bool c.x.r) ∧ a.cell? ⟨p, 8, none⟩ = some (.int .i64 c.k)) ∧
  (a.cell? ⟨p, 9, none⟩ = some (.int .u64 s.c) ∧ a.cell? ⟨p, 10, none⟩ = some (.int .u64 s.u) ∧ a.cell? ⟨p, 11, none⟩ = some (.int .u64 s.d)) ∧
  (a.cell? ⟨p, 12, none⟩ = some (.int .i64 q) ∧ a.cell? ⟨p, 13, none⟩ = some (.int .i64 e))
theorem RM.lasts (V : World) (p : Nat) (h : Ho) (c : Ca) (s : Sp) (q e : Int) : Lasts (RM V p h c s q e) := fun _ _ k f =>
  ⟨k.1.trans f, ⟨f.cell k.2.1.1 (by simp), f.cell k.2.1.2.1 (by simp), f.cell k.2.1.2.2.1 (by simp), f.cell k.2.1.2.2.2 (by simp)⟩,
    ⟨f.cell k.2.2.1.1 (by simp), f.cell k.2.2.1.2.1 (by simp), f.cell k.2.2.1.2.2.1 (by simp), f.cell k.2.2.1.2.2.2.1 (by simp), f.cell k.2.2.1.2.2.2.2 (by simp)⟩,
    ⟨f.cell k.2.2.2.1.1 (by simp), f.cell k.2.2.2.1.2.1 (by simp), f.cell k.2.2.2.1.2.2 (by simp)⟩, f.cell k.2.2.2.2.1 (by simp), f.cell k.2.2.2.2.2 (by simp)⟩
theorem RM.size {V : World} {p : Nat} {h : Ho} {c : Ca} {s : Sp} {q e : Int} (w : World) (k : RM V p h c s q e w) : V.heap.size ≤ w.heap.size := k.1.size
theorem RO.rm {w : World} {p : Nat} {h : Ho} {c : Ca} {s : Sp} {q e dn st t n : Int} (k : RO w p h c s q e dn st t n) : RM w p h c s q e w :=
  ⟨Fr.refl _ _, ⟨by rw [cell_of_row w p 0 _ _ _ k]; rfl, by rw [cell_of_row w p 1 _ _ _ k]; rfl, by rw [cell_of_row w p 2 _ _ _ k]; rfl, by rw [cell_of_row w p 3 _ _ _ k]; rfl⟩,
    ⟨by rw [cell_of_row w p 4 _ _ _ k]; rfl, by rw [cell_of_row w p 5 _ _ _ k]; rfl, by rw [cell_of_row w p 6 _ _ _ k]; rfl, by rw [cell_of_row w p 7 _ _ _ k]; rfl, by rw [cell_of_row w p 8 _ _ _ k]; rfl⟩,
    ⟨by rw [cell_of_row w p 9 _ _ _ k]; rfl, by rw [cell_of_row w p 10 _ _ _ k]; rfl, by rw [cell_of_row w p 11 _ _ _ k]; rfl⟩, by rw [cell_of_row w p 12 _ _ _ k]; rfl, by rw [cell_of_row w p 13 _ _ _ k]; rfl⟩
theorem RO.done {w : World} {p : Nat} {h : Ho} {c : Ca} {s : Sp} {q e dn st t n : Int} (k : RO w p h c s q e dn st t n) (z : Int) : RO (w.setCell ⟨p, 14, none⟩ (.int .u32 z)) p h c s q e z st t n := by
  unfold RO at k ⊢; rw [heap_setCell_same _ p 14 _ _ _ k]; rfl
theorem RO.state {w : World} {p : Nat} {h : Ho} {c : Ca} {s : Sp} {q e dn st t n : Int} (k : RO w p h c s q e dn st t n) (z : Int) : RO (w.setCell ⟨p, 15, none⟩ (.int .i32 z)) p h c s q e dn z t n := by
  unfold RO at k ⊢; rw [heap_setCell_same _ p 15 _ _ _ k]; rfl
theorem RO.ticks {w : World} {p : Nat} {h : Ho} {c : Ca} {s : Sp} {q e dn st t n : Int} (k : RO w p h c s q e dn st t n) (z : Int) : RO (w.setCell ⟨p, 17, none⟩ (.int .i64 z)) p h c s q e dn st z n := by
  unfold RO at k ⊢; rw [heap_setCell_same _ p 17 _ _ _ k]; rfl
theorem RO.times {w : World} {p : Nat} {h : Ho} {c : Ca} {s : Sp} {q e dn st t n : Int} (k : RO w p h c s q e dn st t n) (z : Int) : RO (w.setCell ⟨p, 18, none⟩ (.int .i64 z)) p h c s q e dn st t z := by
  unfold RO at k ⊢; rw [heap_setCell_same _ p 18 _ _ _ k]; rfl
abbrev runP (p : Nat) : Value := .pointer (some ⟨p, 0, none⟩)

set_option maxHeartbeats 2000000 in
set_option maxRecDepth 100000 in
theorem new_any (h : Ho) (c : Ca) (s : Sp) (q e : Int) (w : World) :
    Calls Tryz.prog 7 #[h.v, c.v, s.v, callV q e] w fun x w' => ∃ p, x = .returned (runP p) ∧ RO w' p h c s q e 0 0 0 0 ∧ w.heap.size ≤ p ∧ Fr w w' [] := by
  have TB := Lib.hid (LE.new w h c s q e)
  have R0 := Lib.hid (fun W : World => heap_alloc_new W (runBox h c s q e 0 0 0 0))
  have F0 := Lib.hid (fun W : World => Fr.alloc W (runBox h c s q e 0 0 0 0) [])
  obtain ⟨hc, hfl, hs, hd⟩ := h
  obtain ⟨⟨cp, ce, co, cr⟩, ck⟩ := c
  obtain ⟨sp, su, sd⟩ := s
  dsimp only [Ho.v, Ho.box, Ca.v, Ca.box, Sp.v, Sp.box, callV, callBox, runBox, runCells] at *
  go_enter Tryz.func7, Tryz.ntmps7
  go_upto_region 1 with fail
  generalize World.alloc (World.alloc (World.alloc (World.alloc w _) _) _) _ = w1 at *
  obtain ⟨i0, i1, i2, i3⟩ := TB.out.h.cells
  obtain ⟨c0, c1, c2, c3, c4⟩ := TB.out.c.cells
  obtain ⟨s0, s1, s2⟩ := arow TB.out.s
  obtain ⟨t0, t1⟩ := two_row TB.out.t
  dsimp only at i0 i1 i2 i3 c0 c1 c2 c3 c4 s0 s1 s2
  have R1 := Lib.hid (R0.out w1)
  have F1 := Lib.hid (TB.out.f.trans (F0.out w1))
  clear R0 F0
  go_wp2
  go_ret
  exact ⟨_, rfl, R1.out, TB.out.f.size, F1.out⟩

set_option maxHeartbeats 2000000 in
set_option maxRecDepth 100000 in
theorem reckon_any (h : Ho) (c : Ca) (s : Sp) (q e dn st : Int) (p : Nat) (w : World) (hk : h.ok) (ok : s.ok) (hT : Tz w) (hc : c.k ≤ 9223372036854775807) (r : Int) (H : EtaV h c s q e r) (R0 : RO w p h c s q e dn st 0 0) :
    Calls Tryz.prog 21 #[runP p] w fun x w' => x = .returned (.tuple #[]) ∧ RO w' p h c s q e dn st r 1 ∧ Fr w w' [p] := by
  have OF := Lib.hid (fun W hT => eta_any h c s q e W hk ok hT hc r H)
  have HT := Lib.hid hT
  have D0 := Lib.hid (RM.lasts _ _ _ _ _ _ _ _ _ R0.rm (Fr.drew w []))
  have HR := Lib.hid R0
  clear hk ok hT hc H R0
  obtain ⟨hc, hfl, hs, hd⟩ := h
  obtain ⟨⟨cp, ce, co, cr⟩, ck⟩ := c
  obtain ⟨sp, su, sd⟩ := s
  dsimp only [Ho.v, Ca.v, Sp.v, callV, runP] at *
  go_enter Tryz.func21, Tryz.ntmps21
  go_wp2_with fail
  refine wp_region_noPanic ?_
  refine wp_region_mix (M := RM w p ⟨hc, hfl, hs, hd⟩ ⟨⟨cp, ce, co, cr⟩, ck⟩ ⟨sp, su, sd⟩ q e) (fun _ => none) [] w.heap.size 20 (by kernel_rfl) (by kernel_rfl) (by kernel_rfl) (RM.lasts _ _ _ _ _ _ _) RM.size D0.out ?_
  refine wpMixU_take (i := 0) (oi := _) (v := ?mv1) (by decide) (by kernel_rfl) (by simp only [List.getElem?_toArray, List.getElem?_cons_zero]; rfl) (by rfl) (by kernel_rfl) (by kernel_rfl) (by kernel_rfl) (by rfl) ?my1 ?mr1
  case my1 => (intro M' hst him w hM; have hSw := him w hM; (try dsimp only [RM] at hSw); go_simp; refine Came.value ?_ hM; with_reducible rfl)
  try simp only [Act.put, List.setIfInBounds_toArray, List.set_cons_zero, List.set_cons_succ]
  refine wpMixU_take (i := 1) (oi := _) (v := ?mv2) (by decide) (by kernel_rfl) (by simp only [List.getElem?_toArray, List.getElem?_cons_zero, List.getElem?_cons_succ]; rfl) (by rfl) (by kernel_rfl) (by kernel_rfl) (by kernel_rfl) (by rfl) ?my2 ?mr2
  case my2 => (intro M' hst him w hM; have hSw := him w hM; (try dsimp only [RM] at hSw); go_simp; refine Came.value ?_ hM; with_reducible rfl)
  try simp only [Act.put, List.setIfInBounds_toArray, List.set_cons_zero, List.set_cons_succ]
  refine wpMixU_take (i := 2) (oi := _) (v := ?mv3) (by decide) (by kernel_rfl) (by simp only [List.getElem?_toArray, List.getElem?_cons_zero, List.getElem?_cons_succ]; rfl) (by rfl) (by kernel_rfl) (by kernel_rfl) (by kernel_rfl) (by rfl) ?my3 ?mr3
  case my3 => (intro M' hst him w hM; have hSw := him w hM; (try dsimp only [RM] at hSw); go_simp; refine Came.value ?_ hM; with_reducible rfl)
  try simp only [Act.put, List.setIfInBounds_toArray, List.set_cons_zero, List.set_cons_succ]
  refine wpMixU_take (i := 3) (oi := _) (v := ?mv4) (by decide) (by kernel_rfl) (by simp only [List.getElem?_toArray, List.getElem?_cons_zero, List.getElem?_cons_succ]; rfl) (by rfl) (by kernel_rfl) (by kernel_rfl) (by kernel_rfl) (by rfl) ?my4 ?mr4
  case my4 => (intro M' hst him w hM; have hSw := him w hM; (try dsimp only [RM] at hSw); go_simp; refine Came.value ?_ hM; with_reducible rfl)
  try simp only [Act.put, List.setIfInBounds_toArray, List.set_cons_zero, List.set_cons_succ]
  refine wpMixU_take (i := 4) (oi := _) (v := ?mv5) (by decide) (by kernel_rfl) (by simp only [List.getElem?_toArray, List.getElem?_cons_zero, List.getElem?_cons_succ]; rfl) (by rfl) (by kernel_rfl) (by kernel_rfl) (by kernel_rfl) (by rfl) ?my5 ?mr5
  case my5 => (intro M' hst him w hM; have hSw := him w hM; (try dsimp only [RM] at hSw); go_simp; refine Came.value ?_ hM; with_reducible rfl)
  try simp only [Act.put, List.setIfInBounds_toArray, List.set_cons_zero, List.set_cons_succ]
  refine wpMixU_take (i := 5) (oi := _) (v := ?mv6) (by decide) (by kernel_rfl) (by simp only [List.getElem?_toArray, List.getElem?_cons_zero, List.getElem?_cons_succ]; rfl) (by rfl) (by kernel_rfl) (by kernel_rfl) (by kernel_rfl) (by rfl) ?my6 ?mr6
  case my6 => (intro M' hst him w hM; have hSw := him w hM; (try dsimp only [RM] at hSw); go_simp; refine Came.value ?_ hM; with_reducible rfl)
  try simp only [Act.put, List.setIfInBounds_toArray, List.set_cons_zero, List.set_cons_succ]
  refine wpMixU_take (i := 6) (oi := _) (v := ?mv7) (by decide) (by kernel_rfl) (by simp only [List.getElem?_toArray, List.getElem?_cons_zero, List.getElem?_cons_succ]; rfl) (by rfl) (by kernel_rfl) (by kernel_rfl) (by kernel_rfl) (by rfl) ?my7 ?mr7
  case my7 => (intro M' hst him w hM; have hSw := him w hM; (try dsimp only [RM] at hSw); go_simp; refine Came.value ?_ hM; with_reducible rfl)
  try simp only [Act.put, List.setIfInBounds_toArray, List.set_cons_zero, List.set_cons_succ]
  refine wpMixU_take (i := 7) (oi := _) (v := ?mv8) (by decide) (by kernel_rfl) (by simp only [List.getElem?_toArray, List.getElem?_cons_zero, List.getElem?_cons_succ]; rfl) (by rfl) (by kernel_rfl) (by kernel_rfl) (by kernel_rfl) (by rfl) ?my8 ?mr8
  case my8 => (intro M' hst him w hM; have hSw := him w hM; (try dsimp only [RM] at hSw); go_simp; refine Came.value ?_ hM; with_reducible rfl)
  try simp only [Act.put, List.setIfInBounds_toArray, List.set_cons_zero, List.set_cons_succ]
  refine wpMixU_take (i := 8) (oi := _) (v := ?mv9) (by decide) (by kernel_rfl) (by simp only [List.getElem?_toArray, List.getElem?_cons_zero, List.getElem?_cons_succ]; rfl) (by rfl) (by kernel_rfl) (by kernel_rfl) (by kernel_rfl) (by rfl) ?my9 ?mr9
  case my9 => (intro M' hst him w hM; have hSw := him w hM; (try dsimp only [RM] at hSw); go_simp; refine Came.value ?_ hM; with_reducible rfl)
  try simp only [Act.put, List.setIfInBounds_toArray, List.set_cons_zero, List.set_cons_succ]
  refine wpMixU_take (i := 9) (oi := _) (v := ?mv10) (by decide) (by kernel_rfl) (by simp only [List.getElem?_toArray, List.getElem?_cons_zero, List.getElem?_cons_succ]; rfl) (by rfl) (by kernel_rfl) (by kernel_rfl) (by kernel_rfl) (by rfl) ?my10 ?mr10
  case my10 => (intro M' hst him w hM; have hSw := him w hM; (try dsimp only [RM] at hSw); go_simp; refine Came.value ?_ hM; with_reducible rfl)
  try simp only [Act.put, List.setIfInBounds_toArray, List.set_cons_zero, List.set_cons_succ]
  refine wpMixU_take (i := 10) (oi := _) (v := ?mv11) (by decide) (by kernel_rfl) (by simp only [List.getElem?_toArray, List.getElem?_cons_zero, List.getElem?_cons_succ]; rfl) (by rfl) (by kernel_rfl) (by kernel_rfl) (by kernel_rfl) (by rfl) ?my11 ?mr11
  case my11 => (intro M' hst him w hM; have hSw := him w hM; (try dsimp only [RM] at hSw); go_simp; refine Came.value ?_ hM; with_reducible rfl)
  try simp only [Act.put, List.setIfInBounds_toArray, List.set_cons_zero, List.set_cons_succ]
  refine wpMixU_take (i := 11) (oi := _) (v := ?mv12) (by decide) (by kernel_rfl) (by simp only [List.getElem?_toArray, List.getElem?_cons_zero, List.getElem?_cons_succ]; rfl) (by rfl) (by kernel_rfl) (by kernel_rfl) (by kernel_rfl) (by rfl) ?my12 ?mr12
  case my12 => (intro M' hst him w hM; have hSw := him w hM; (try dsimp only [RM] at hSw); go_simp; refine Came.value ?_ hM; with_reducible rfl)
  try simp only [Act.put, List.setIfInBounds_toArray, List.set_cons_zero, List.set_cons_succ]
  refine wpMixU_take (i := 12) (oi := _) (v := ?mv13) (by decide) (by kernel_rfl) (by simp only [List.getElem?_toArray, List.getElem?_cons_zero, List.getElem?_cons_succ]; rfl) (by rfl) (by kernel_rfl) (by kernel_rfl) (by kernel_rfl) (by rfl) ?my13 ?mr13
  case my13 => (intro M' hst him w hM; have hSw := him w hM; (try dsimp only [RM] at hSw); go_simp; refine Came.value ?_ hM; with_reducible rfl)
  try simp only [Act.put, List.setIfInBounds_toArray, List.set_cons_zero, List.set_cons_succ]
  refine wpMixU_take (i := 13) (oi := _) (v := ?mv14) (by decide) (by kernel_rfl) (by simp only [List.getElem?_toArray, List.getElem?_cons_zero, List.getElem?_cons_succ]; rfl) (by rfl) (by kernel_rfl) (by kernel_rfl) (by kernel_rfl) (by rfl) ?my14 ?mr14
  case my14 => (intro M' hst him w hM; have hSw := him w hM; (try dsimp only [RM] at hSw); go_simp; refine Came.value ?_ hM; with_reducible rfl)
  try simp only [Act.put, List.setIfInBounds_toArray, List.set_cons_zero, List.set_cons_succ]
  refine wpMixU_take (i := 14) (oi := _) (v := ?mv15) (by decide) (by kernel_rfl) (by simp only [List.getElem?_toArray, List.getElem?_cons_zero, List.getElem?_cons_succ]; rfl) (by rfl) (by kernel_rfl) (by kernel_rfl) (by kernel_rfl) (by rfl) ?my15 ?mr15
  case my15 => (intro M' hst him w hM; have hSw := him w hM; (try dsimp only [RM] at hSw); go_simp; refine Came.value ?_ hM; with_reducible rfl)
  try simp only [Act.put, List.setIfInBounds_toArray, List.set_cons_zero, List.set_cons_succ]
  refine wpMixU_take (i := 15) (oi := _) (v := ?mv16) (by decide) (by kernel_rfl) (by simp only [List.getElem?_toArray, List.getElem?_cons_zero, List.getElem?_cons_succ]; rfl) (by rfl) (by kernel_rfl) (by kernel_rfl) (by kernel_rfl) (by rfl) ?my16 ?mr16
  case my16 => (intro M' hst him w hM; have hSw := him w hM; (try dsimp only [RM] at hSw); go_simp; refine Came.value ?_ hM; with_reducible rfl)
  try simp only [Act.put, List.setIfInBounds_toArray, List.set_cons_zero, List.set_cons_succ]
  refine wpMixU_take (i := 16) (oi := _) (v := ?mv17) (by decide) (by kernel_rfl) (by simp only [List.getElem?_toArray, List.getElem?_cons_zero, List.getElem?_cons_succ]; rfl) (by rfl) (by kernel_rfl) (by kernel_rfl) (by kernel_rfl) (by rfl) ?my17 ?mr17
  case my17 => (intro M' hst him w hM; have hSw := him w hM; (try dsimp only [RM] at hSw); go_simp; refine Came.value ?_ hM; with_reducible rfl)
  try simp only [Act.put, List.setIfInBounds_toArray, List.set_cons_zero, List.set_cons_succ]
  refine wpMixU_take (i := 17) (oi := _) (v := ?mv18) (by decide) (by kernel_rfl) (by simp only [List.getElem?_toArray, List.getElem?_cons_zero, List.getElem?_cons_succ]; rfl) (by rfl) (by kernel_rfl) (by kernel_rfl) (by kernel_rfl) (by rfl) ?my18 ?mr18
  case my18 => (intro M' hst him w hM; have hSw := him w hM; (try dsimp only [RM] at hSw); go_simp; exact Came.call ((OF.out w (HT.out.fr hSw.1)).mono fun e w' ⟨he, hf⟩ => ⟨he, hst _ _ hM hf⟩) (by with_reducible rfl))
  try simp only [Act.put, List.setIfInBounds_toArray, List.set_cons_zero, List.set_cons_succ]
  refine wpMixU_take (i := 18) (oi := _) (v := ?mv19) (by decide) (by kernel_rfl) (by simp only [List.getElem?_toArray, List.getElem?_cons_zero, List.getElem?_cons_succ]; rfl) (by rfl) (by kernel_rfl) (by kernel_rfl) (by kernel_rfl) (by rfl) ?my19 ?mr19
  case my19 => (intro M' hst him w hM; have hSw := him w hM; (try dsimp only [RM] at hSw); go_simp; refine Came.value ?_ hM; with_reducible rfl)
  try simp only [Act.put, List.setIfInBounds_toArray, List.set_cons_zero, List.set_cons_succ]
  refine wpMixU_take (i := 19) (oi := _) (v := ?mv20) (by decide) (by kernel_rfl) (by simp only [List.getElem?_toArray, List.getElem?_cons_zero, List.getElem?_cons_succ]; rfl) (by rfl) (by kernel_rfl) (by kernel_rfl) (by kernel_rfl) (by rfl) ?my20 ?mr20
  case my20 => (intro M' hst him w hM; have hSw := him w hM; (try dsimp only [RM] at hSw); go_simp; refine Came.value ?_ hM; with_reducible rfl)
  try simp only [Act.put, List.setIfInBounds_toArray, List.set_cons_zero, List.set_cons_succ]
  refine wpMixU_tail (fun _ => True) (by kernel_rfl) (fun _ _ => trivial) ?_
  intro w5 hM
  have R5 := Lib.hid (HR.out.fr hM.1 (by simp))
  have F5 := Lib.hid (hM.1)
  clear hM D0 HR OF
  have R6 := Lib.hid (R5.out.ticks r)
  have F6 := Lib.hid ((F5.out.mono (T := [p]) (by simp)).trans (Fr.setCell w5 p 17 (.int .i64 r) (S := [p]) (by simp)))
  obtain ⟨x0, x1, x2, x3⟩ := R5.out.at
  have z2 := R5.out.fz 17
  refine wpAnyH_ready (rs := [20]) (by kernel_rfl) (by simp) ?_
  refine AllReadyH.cons (o := _) rfl (fun K hK => ?_) AllReadyH.nil
  go_simp
  refine hK.out _ _ trivial (fun hHeld => ?_)
  clear hK K
  try simp only [Act.put, List.setIfInBounds_toArray, List.set_cons_zero, List.set_cons_succ]
  refine wpAnyH_done (by kernel_rfl) ?_ _
  refine NoPanic.normal ?_
  clear hHeld
  generalize World.setCell w5 _ _ = w6 at *
  clear x0 x1 x2 x3 z2 R5 F5
  have AD := Lib.hid (add_one p 18 w6 R6.out.at.2.2.2 (R6.out.fz 18))
  have R7 := Lib.hid (R6.out.times 1)
  have F7 := Lib.hid (F6.out.trans (Fr.setCell w6 p 18 (.int .i64 1) (S := [p]) (by simp)))
  go_wp2_with fail
  with_reducible refine (AD.out).mono ?_
  rintro v w7 ⟨rfl, rfl⟩
  go_wp2
  go_end0
  exact ⟨rfl, R7.out, F7.out⟩
end Go.Proofs.YtdmomnhacijmpaaGreatDoor
