/- The statements' own view of errors: faults as plain data. -/
import Derived.Test.YtndjmpjgahmnoaaDoorErr
import Derived.LaidEql
import Derived.LaidEqlPtr
import Derived.Laws.ResultCell
import Derived.Deep.RegionWith
namespace Go.Proofs.YtndjmpjgahmnoaaDoor
open Go.RowKit

theorem alike_same (A : Nat → Addr) (c : Nat) (w : World) :
    Calls Tryd.prog 37 #[ev A (c + 1), ev A (c + 1)] w fun e w' => e = .returned (.bool true) ∧ w = w' := by
  rw [ev_some]
  have he := @run_eql_iface_ptr_same Tryd.prog w 28 85 103 _ Tryd.t85 Tryd.t103 (A (c + 1)) Tryd.underlying28 Tryd.underlying85 (by kernel_rfl) (by kernel_rfl) (by kernel_rfl)
  go_enter Tryd.func37, Tryd.ntmps37
  go_wp2
  go_ret
  exact ⟨rfl, rfl⟩
theorem alike_other (A : Nat → Addr) (B i j : Nat) (w : World) (hE : E13 w A B) (hi : i < 13) (hj : j < 13) (hne : i ≠ j) :
    Calls Tryd.prog 37 #[ev A (i + 1), ev A (j + 1)] w fun e w' => e = .returned (.bool false) ∧ w = w' := by
  rw [ev_some, ev_some]
  obtain ⟨_, c1, t1, h1⟩ := hE.at' i hi
  obtain ⟨_, c2, t2, h2⟩ := hE.at' j hj
  have he := @run_eql_iface_ptr_other Tryd.prog w 28 85 103 _ Tryd.t85 Tryd.t103 (A (i + 1)) (A (j + 1)) _ _ _ _ Tryd.underlying28 Tryd.underlying85 (by kernel_rfl) (by kernel_rfl) (by kernel_rfl) (by decide) (fun e => hne (hE.apart i j hi hj e)) h1 h2
  clear h1 h2
  go_enter Tryd.func37, Tryd.ntmps37
  go_wp2
  go_ret
  exact ⟨rfl, rfl⟩

/-- The errors' list. -/
def errList (A : Nat → Addr) : List Value := [ev A 1, ev A 2, ev A 3, ev A 4, ev A 5, ev A 6, ev A 7, ev A 8, ev A 9, ev A 10, ev A 11, ev A 12, ev A 13]
theorem errList_get (A : Nat → Addr) : ∀ i, i < 13 → (errList A)[i]? = some (ev A (i + 1)) := by
  intro i hi
  match i, hi with
  | 0, _ | 1, _ | 2, _ | 3, _ | 4, _ | 5, _ | 6, _ | 7, _ | 8, _ | 9, _ | 10, _ | 11, _ | 12, _ => rfl

set_option maxRecDepth 100000 in
theorem sentinels_any (A : Nat → Addr) (B : Nat) (w : World) (hE : E13 w A B) :
    Calls Tryd.prog 36 #[] w fun e w' => e = .returned (.slice (some ⟨w.heap.size, 0, none⟩) 13 13) ∧ w' = w.alloc (.cells (errList A).toArray 28) := by
  have c0 : w.cell? ⟨1, 0, none⟩ = some (.iface 85 (.pointer (some (A 1)))) := (hE.cell 0 (by decide)).1
  have c1 : w.cell? ⟨2, 0, none⟩ = some (.iface 85 (.pointer (some (A 2)))) := (hE.cell 1 (by decide)).1
  have c2 : w.cell? ⟨0, 0, none⟩ = some (.iface 85 (.pointer (some (A 3)))) := (hE.cell 2 (by decide)).1
  have c3 : w.cell? ⟨3, 0, none⟩ = some (.iface 85 (.pointer (some (A 4)))) := (hE.cell 3 (by decide)).1
  have c4 : w.cell? ⟨4, 0, none⟩ = some (.iface 85 (.pointer (some (A 5)))) := (hE.cell 4 (by decide)).1
  have c5 : w.cell? ⟨5, 0, none⟩ = some (.iface 85 (.pointer (some (A 6)))) := (hE.cell 5 (by decide)).1
  have c6 : w.cell? ⟨6, 0, none⟩ = some (.iface 85 (.pointer (some (A 7)))) := (hE.cell 6 (by decide)).1
  have c7 : w.cell? ⟨7, 0, none⟩ = some (.iface 85 (.pointer (some (A 8)))) := (hE.cell 7 (by decide)).1
  have c8 : w.cell? ⟨8, 0, none⟩ = some (.iface 85 (.pointer (some (A 9)))) := (hE.cell 8 (by decide)).1
  have c9 : w.cell? ⟨9, 0, none⟩ = some (.iface 85 (.pointer (some (A 10)))) := (hE.cell 9 (by decide)).1
  have c10 : w.cell? ⟨10, 0, none⟩ = some (.iface 85 (.pointer (some (A 11)))) := (hE.cell 10 (by decide)).1
  have c11 : w.cell? ⟨11, 0, none⟩ = some (.iface 85 (.pointer (some (A 12)))) := (hE.cell 11 (by decide)).1
  have c12 : w.cell? ⟨12, 0, none⟩ = some (.iface 85 (.pointer (some (A 13)))) := (hE.cell 12 (by decide)).1
  clear hE
  go_enter Tryd.func36, Tryd.ntmps36
  go_wp2
  go_ret
  exact ⟨rfl, rfl⟩

set_option maxRecDepth 100000 in
theorem sentinel_any (A : Nat → Addr) (B c : Nat) (w : World) (hE : E13 w A B) (hc : c < 13) :
    Calls Tryd.prog 34 #[ev A (c + 1)] w fun e w' => e = .returned (.int .i64 (101 + (c : Int))) ∧ w.grownBy w' none := by
  obtain ⟨x, hx⟩ : ∃ x, x = ev A (c + 1) := ⟨_, rfl⟩
  rw [← hx]
  have HX := Lib.hid hx
  clear hx
  go_enter Tryd.func34, Tryd.ntmps34
  go_wp2_with fail
  refine (sentinels_any A B _ hE).mono ?_
  rintro e w1 ⟨rfl, hw1⟩
  have hg1 : w.grownBy w1 none := by rw [hw1]; exact World.grownBy_alloc w _ none
  have hE1 := hE.kept hg1 (fun r e => by cases e)
  have hl : ∀ i, i < 13 → w1.cell? ⟨w.heap.size, i, none⟩ = some (ev A (i + 1)) := by
    intro i hi
    rw [hw1, cell_of_row _ _ i _ _ _ (heap_alloc_new w _)]
    simpa using errList_get A i hi
  have HG := Lib.hid hg1
  clear hw1 hg1 hE
  go_wp2
  go_loop [4] (fun i => ∃ k : Nat, k ≤ c ∧ i = .int .i64 k) (fun i => 13 - (intOf i).toNat)
  case atStart => exact ⟨0, Nat.zero_le _, rfl⟩
  case round =>
    obtain ⟨k, hk, rfl⟩ := hrel
    obtain ⟨y, hy⟩ : ∃ y, y = ev A (k + 1) := ⟨_, rfl⟩
    have hcell := hl k (by omega)
    rw [← hy] at hcell
    have HL := Lib.hid hl
    clear hl
    by_cases hkc : k = c
    · have hxy : y = x := by rw [hy, HX.out, hkc]
      have hcall : Calls Tryd.prog 37 #[x, y] w1 fun e w' => e = .returned (.bool true) ∧ w1 = w' := by rw [hxy, HX.out]; exact alike_same A c w1
      have HC := Lib.hid hcall
      have HK := Lib.hid hkc
      clear hy hxy hcall hkc
      go_wp2_with (go_at_call 37; refine HC.out.mono ?_; rintro e w' ⟨rfl, rfl⟩)
      go_ret
      exact ⟨by rw [← HK.out]; rfl, HG.out⟩
    · have hcall : Calls Tryd.prog 37 #[x, y] w1 fun e w' => e = .returned (.bool false) ∧ w1 = w' := by rw [hy, HX.out]; exact alike_other A B c k w1 hE1 hc (by omega) (fun e => hkc e.symm)
      have HC := Lib.hid hcall
      have hlt : k < c := by omega
      clear hy hcall hkc hE1
      go_wp2_with (go_at_call 37; refine HC.out.mono ?_; rintro e w' ⟨rfl, rfl⟩)
      go_round
      case rel => exact ⟨k + 1, by omega, by go_num⟩
      case measure => simp [intOf]; omega

/-- A fault as a value: its code, whether it has a place, the place. -/
def flt (code : Int) (placed : Bool) (pos : Int) : Value := .agg #[.int .i64 code, .bool placed, .int .i64 pos]

theorem placed_any (code pos : Int) (w : World) (h : ¬ code = 0) :
    Calls Tryd.prog 35 #[.int .i64 code, .int .i64 pos] w fun e w' => e = .returned (flt code true pos) ∧ w.grownBy w' none := by
  go_enter Tryd.func35, Tryd.ntmps35
  go_wp2
  exact bodyPost_ret (v := flt code true pos) (by simp [results, Tryd.results35, go_sem, flt]) rfl ⟨rfl, World.grownBy_alloc w _ none⟩
theorem bare_any (code : Int) (w : World) :
    Calls Tryd.prog 29 #[.int .i64 code] w fun e w' => e = .returned (flt code false 0) ∧ w.grownBy w' none := by
  go_enter Tryd.func29, Tryd.ntmps29
  go_wp2
  exact bodyPost_ret (v := flt code false 0) (by simp [results, Tryd.results29, go_sem, flt]) rfl ⟨rfl, World.grownBy_alloc w _ none⟩
theorem noFault_any (w : World) :
    Calls Tryd.prog 33 #[] w fun e w' => e = .returned (flt 0 false 0) ∧ w.grownBy w' none := by
  go_enter Tryd.func33, Tryd.ntmps33
  go_wp2
  exact bodyPost_ret (v := flt 0 false 0) (by simp [results, Tryd.results33, go_sem, flt]) rfl ⟨rfl, World.grownBy_alloc w _ none⟩

theorem sameFault_yes (c1 : Int) (b1 : Bool) (p1 : Int) (w : World) :
    Calls Tryd.prog 31 #[flt c1 b1 p1, flt c1 b1 p1] w fun e w' => e = .returned (.bool true) ∧ w.grownBy w' none := by
  unfold flt
  go_enter Tryd.func31, Tryd.ntmps31
  go_wp2
  go_ret
  exact ⟨rfl, grown_trans (World.grownBy_alloc w _ none) (World.grownBy_alloc _ _ none)⟩

theorem assert_at (a : Addr) (W : World) : (Instr.typeAssert (.iface 76 (.pointer (some a))) 28 76 true).run Tryd.prog W = .ok (.tuple #[.pointer (some a), .bool true]) W := by kernel_rfl

set_option maxHeartbeats 4000000 in
set_option maxRecDepth 100000 in
theorem fault_at (A : Nat → Addr) (B k c : Nat) (u : Value) (w : World) (hE : E13 w A B) (hc : c < 13) (hu : AtErr w A u k (c + 1)) :
    Calls Tryd.prog 32 #[u] w fun e w' => e = .returned (flt (101 + (c : Int)) true k) ∧ w.grownBy w' none := by
  obtain ⟨q, rfl, hq⟩ := hu
  have hcell0 : w.cell? ⟨q, 0, none⟩ = some (.int .i64 (k : Int)) := by rw [cell_of_row w q 0 _ _ _ hq]; rfl
  have hcell1 : w.cell? ⟨q, 1, none⟩ = some (ev A (c + 1)) := by rw [cell_of_row w q 1 _ _ _ hq]; rfl
  have hql : q < w.heap.size := (Array.getElem?_eq_some_iff.1 hq).1
  rw [ev_some] at hcell1 hq
  go_enter Tryd.func32, Tryd.ntmps32
  have hta := fun W => assert_at ⟨q, 0, none⟩ W
  go_wp2_with fail
  have hw0 := World.grownBy_alloc w (.cells #[.int .i64 0, .bool false, .int .i64 0] 70) none
  have hres : ∀ W, (w.alloc (.cells #[.int .i64 0, .bool false, .int .i64 0] 70)).grownBy W none → W.heap[w.heap.size]? = some (.cells #[.int .i64 0, .bool false, .int .i64 0] 70 (0, 0)) ∧ W.cell? ⟨q, 0, none⟩ = some (.int .i64 (k : Int)) ∧ W.cell? ⟨q, 1, none⟩ = some (.iface 85 (.pointer (some (A (c + 1))))) := fun W hW =>
    ⟨by rw [hW.block _ (by simp) (by simp)]; exact heap_alloc_new w _, (grown_trans hw0 hW).cell hcell0 (by simp), (grown_trans hw0 hW).cell hcell1 (by simp)⟩
  have HR := Lib.hid hres
  have hcall : ∀ W, (w.alloc (.cells #[.int .i64 0, .bool false, .int .i64 0] 70)).grownBy W none → Calls Tryd.prog 34 #[.iface 85 (.pointer (some (A (c + 1))))] W fun e w' => e = .returned (.int .i64 (101 + (c : Int))) ∧ W.grownBy w' none :=
    fun W hW => sentinel_any A B c W (hE.kept (grown_trans hw0 hW) (fun r e => by cases e)) hc
  have HC := Lib.hid hcall
  have HW := Lib.hid hw0
  clear hres hE hw0 hcall
  go_region_with (first
    | (go_at_call 34; refine (HC.out _ (grown_drew (grown_refl _ _))).mono ?_; rintro e w2 ⟨rfl, hg2⟩; obtain ⟨r1, r2, r3⟩ := HR.out w2 (grown_trans (grown_drew (grown_refl _ _)) hg2))
    | (go_at_call 35; refine (placed_any _ _ _ (by omega)).mono ?_; rintro e w3 ⟨rfl, hg3⟩; obtain ⟨s1, s2, s3⟩ := HR.out w3 (grown_trans (grown_drew (grown_refl _ _)) (grown_trans hg2 hg3)); unfold flt; have z0 := cell_of_row _ _ 0 _ _ _ s1; have z1 := cell_of_row _ _ 1 _ _ _ s1; have z2 := cell_of_row _ _ 2 _ _ _ s1; have y0 := frozen_of_row _ _ 0 _ _ s1; have y1 := frozen_of_row _ _ 1 _ _ s1; have y2 := frozen_of_row _ _ 2 _ _ s1; simp at z0 z1 z2))
  all_goals
    have hall := grown_trans HW.out (grown_trans (grown_drew (grown_refl _ _)) (grown_trans hg2 hg3))
    clear hta hcell0 hcell1 hq HR HC HW hg2 hg3 r1 r2 r3 s2 s3
    go_wp2
    exact bodyPost_ret (v := flt (101 + (c : Int)) true k) (by simp [results, Tryd.results32, go_sem, flt, z0, z1, z2]) rfl ⟨rfl, grown_below ((((below_grown hall).setCell (Nat.le_refl _) _).setCell (Nat.le_refl _) _).setCell (Nat.le_refl _) _)⟩

end Go.Proofs.YtndjmpjgahmnoaaDoor
