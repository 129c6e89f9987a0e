/- The chapter's example. -/
import Derived.Test.YtaoflgfppdbhiaaDoorAOf
namespace Go.Proofs.YtaoflgfppdbhiaaDoor
open Go.RowKit

/-- Stops in a box of the call's own. -/
def BS (W : World) (b : Nat) (T : TypeId) (s : Sp) (a : World) : Prop := Fr W a [] ∧ W.heap.size ≤ b ∧ a.heap[b]? = some (s.box T)
theorem BS.fr {W : World} {b : Nat} {T : TypeId} {s : Sp} {a a' : World} (q : BS W b T s a) (k : Fr a a' []) : BS W b T s a' := ⟨q.1.trans k, q.2.1, k.heap q.2.2 (by simp)⟩
theorem BS.cells {W : World} {b : Nat} {T : TypeId} {s : Sp} {a : World} (q : BS W b T s a) : a.cell? ⟨b, 0, none⟩ = some (.int .u64 s.c) ∧ a.cell? ⟨b, 1, none⟩ = some (.int .u64 s.u) ∧ a.cell? ⟨b, 2, none⟩ = some (.int .u64 s.d) := arow q.2.2
theorem BS.fz {W : World} {b : Nat} {T : TypeId} {s : Sp} {a : World} (q : BS W b T s a) (i : Nat) : a.frozen? ⟨b, i, none⟩ = false := frozen_of_row _ _ i _ _ q.2.2
theorem BS.new {W a : World} (k : Fr W a []) (T : TypeId) (s : Sp) : BS W a.heap.size T s (a.alloc (s.box T)) := ⟨k.trans (Fr.alloc _ _ []), k.size, heap_alloc_new _ _⟩

theorem hasB_eight : ∀ y : Int, 3 < y → hasB 8 y = false := fun y hy => by
  obtain ⟨i, rfl⟩ : ∃ i : Nat, y = (i : Int) := ⟨y.toNat, by omega⟩
  rw [hasB_nat]
  exact Nat.testBit_lt_two_pow (Nat.lt_of_lt_of_le (show 8 < 2 ^ 4 by decide) (Nat.pow_le_pow_right (by decide) (by omega)))
theorem ok_eight : (Sp.mk 8 0 0).ok := ⟨by decide, by decide, by decide⟩

set_option maxRecDepth 100000 in
theorem first_any (w : World) : Calls Tryd.prog 6 #[] w fun e w' => e = .returned (.bool true) ∧ Fr w w' [] := by
  have hh : HInts (w.alloc (.cells #[.int .i64 3] 3)) (.slice (some ⟨w.heap.size, 0, none⟩) 1 1) [3] := by
    refine ⟨_, 1, rfl, by decide, by decide, fun _ => ⟨w.heap.size, 0, rfl, fun i hi => ?_⟩⟩
    rw [Nat.zero_add, cell_of_row _ _ _ _ _ _ (heap_alloc_new w _)]
    have hi' : i < 1 := hi
    match i, hi' with
    | 0, _ => rfl
  have hn : HLs (w.alloc (.cells #[.int .i64 3] 3)) (.slice none 0 0) [] := ⟨none, 0, rfl, by simp, by decide, fun h => absurd h (by simp)⟩
  have O := Lib.hid (of_any _ [3] _ [] _ hh hn ⟨8, 0, 0⟩ (by rfl))
  have A3 := Lib.hid (fun W => at_any ⟨8, 0, 0⟩ 3 W ok_eight true (by decide))
  have V2 := Lib.hid (fun W => aboveB_any ⟨8, 0, 0⟩ 2 W ok_eight true ⟨fun _ => ⟨3, by decide, by decide⟩, fun _ => rfl⟩)
  have V3 := Lib.hid (fun W => aboveB_any ⟨8, 0, 0⟩ 3 W ok_eight false ⟨fun h => (by cases h), fun ⟨y, hy, hb⟩ => (by rw [show (Sp.mk 8 0 0).all = 8 by decide, hasB_eight y hy] at hb; cases hb)⟩)
  have F0 := Lib.hid (Fr.alloc w (.cells #[.int .i64 3] 3) [])
  clear hh hn
  dsimp only [Sp.v] at *
  simp only [show ((8 : Nat) : Int) = 8 from rfl, show ((0 : Nat) : Int) = 0 from rfl] at O A3 V2 V3
  go_enter Tryd.func6, Tryd.ntmps6
  go_wp2_with fail
  with_reducible refine O.out.mono ?_
  rintro e w1 ⟨rfl, hf⟩
  have B1 := Lib.hid (BS.new (F0.out.trans hf) 26 ⟨8, 0, 0⟩)
  dsimp only [Sp.box] at B1
  simp only [show ((8 : Nat) : Int) = 8 from rfl, show ((0 : Nat) : Int) = 0 from rfl] at B1
  clear hf
  obtain ⟨c0, c1, c2⟩ := B1.out.cells
  simp only [show ((8 : Nat) : Int) = 8 from rfl, show ((0 : Nat) : Int) = 0 from rfl] at c0 c1 c2
  go_wp2_with fail
  with_reducible refine (A3.out _).mono ?_
  rintro e w2 ⟨rfl, hf⟩
  have B2 := Lib.hid (B1.out.fr hf)
  clear hf c0 c1 c2
  obtain ⟨c0, c1, c2⟩ := B2.out.cells
  simp only [show ((8 : Nat) : Int) = 8 from rfl, show ((0 : Nat) : Int) = 0 from rfl] at c0 c1 c2
  go_wp2_with fail
  with_reducible refine (V2.out _).mono ?_
  rintro e w3 ⟨rfl, hf⟩
  have B3 := Lib.hid (B2.out.fr hf)
  clear hf c0 c1 c2
  obtain ⟨c0, c1, c2⟩ := B3.out.cells
  simp only [show ((8 : Nat) : Int) = 8 from rfl, show ((0 : Nat) : Int) = 0 from rfl] at c0 c1 c2
  go_wp2_with fail
  with_reducible refine (V3.out _).mono ?_
  rintro e w4 ⟨rfl, hf⟩
  have F4 := Lib.hid (B3.out.1.trans hf)
  clear hf c0 c1 c2
  go_wp2
  go_ret
  exact ⟨rfl, F4.out⟩
end Go.Proofs.YtaoflgfppdbhiaaDoor
