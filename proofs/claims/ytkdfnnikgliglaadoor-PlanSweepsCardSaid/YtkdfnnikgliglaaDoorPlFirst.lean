/- The chapter's examples. -/
import Derived.Test.YtkdfnnikgliglaaDoorPlan
import Derived.Test.YtkdfnnikgliglaaDoorAOf
namespace Go.Proofs.YtkdfnnikgliglaaDoor
open Go.RowKit

theorem ok_eight : (Sp.mk 8 0 0).ok := ⟨by decide, by decide, by decide⟩
/-- A deed in a box of the call's own. -/
def BD (W : World) (b : Nat) (x : De) (a : World) : Prop := Fr W a [] ∧ W.heap.size ≤ b ∧ a.heap[b]? = some (x.box 31)
theorem BD.fr {W : World} {b : Nat} {x : De} {a a' : World} (q : BD W b x a) (k : Fr a a' []) : BD W b x a' := ⟨q.1.trans k, q.2.1, k.heap q.2.2 (by simp)⟩
theorem BD.cells {W : World} {b : Nat} {x : De} {a : World} (q : BD W b x a) : a.cell? ⟨b, 0, none⟩ = some (.bool x.stop) ∧ a.cell? ⟨b, 1, none⟩ = some (.int .i64 x.dir) ∧ a.cell? ⟨b, 2, none⟩ = some (.int .i64 x.move) := arow q.2.2
theorem BD.new {W a : World} (k : Fr W a []) (x : De) : BD W a.heap.size x (a.alloc (x.box 31)) := ⟨k.trans (Fr.alloc _ _ []), k.size, heap_alloc_new _ _⟩

theorem dfld0 (b : Bool) (c n : Int) (W : World) : (Instr.field 31 (.agg #[.bool b, .int .i64 c, .int .i64 n]) 0).run Tryd.prog W = .ok (.bool b) W := by kernel_rfl
set_option maxRecDepth 100000 in
theorem first_any (w : World) (hT : Tz w) : Calls Tryd.prog 9 #[] w fun e w' => e = .returned (.bool true) ∧ Fr w w' [] := by
  have hh : ∀ W : World, HInts (W.alloc (.cells #[.int .i64 3] 3)) (.slice (some ⟨W.heap.size, 0, none⟩) 1 1) [3] := fun W => by
    refine ⟨_, 1, rfl, by decide, by decide, fun _ => ⟨W.heap.size, 0, rfl, fun i hi => ?_⟩⟩
    rw [Nat.zero_add, cell_of_row _ _ _ _ _ _ (heap_alloc_new W _)]
    have hi' : i < 1 := hi
    match i, hi' with
    | 0, _ => rfl
  have hn : ∀ W : World, HLs (W.alloc (.cells #[.int .i64 3] 3)) (.slice none 0 0) [] := fun W => ⟨none, 0, rfl, by simp, by decide, fun h => absurd h (by simp)⟩
  have O := Lib.hid (fun (W : World) (n : Nat) (e : n = W.heap.size) => show Calls Tryd.prog 18 #[.slice (some ⟨n, 0, none⟩) 1 1, .slice none 0 0] (W.alloc (.cells #[.int .i64 3] 3)) (fun x w' => x = .returned (Sp.mk 8 0 0).v ∧ Fr (W.alloc (.cells #[.int .i64 3] 3)) w' []) by rw [e]; exact of_any _ [3] _ [] _ (hh W) (hn W) ⟨8, 0, 0⟩ (by rfl))
  have A1 := Lib.hid (fun W hT => deed_any ⟨8, 0, 0⟩ 1 0 W ok_eight hT ⟨false, 1, 1⟩ (by rfl))
  have A2 := Lib.hid (fun W hT => deed_any ⟨8, 0, 0⟩ 3 1 W ok_eight hT ⟨true, 0, 0⟩ (by rfl))
  have F0 := Lib.hid (Fr.alloc w (.cells #[.int .i64 3] 3) [])
  have HT := Lib.hid hT
  clear hh hn hT
  dsimp only [Sp.v, De.v] at *
  simp only [show ((8 : Nat) : Int) = 8 from rfl, show ((0 : Nat) : Int) = 0 from rfl] at O A1 A2
  go_enter Tryd.func9, Tryd.ntmps9
  go_wp2_with fail
  with_reducible refine (O.out _ _ (by simp)).mono ?_
  rintro e w1 ⟨rfl, hf⟩
  have F1 := Lib.hid (F0.out.trans hf)
  have T1 := Lib.hid (HT.out.fr F1.out)
  clear hf
  go_wp2_with fail
  with_reducible refine (A1.out _ T1.out).mono ?_
  rintro e w2 ⟨rfl, hf⟩
  have F2 := Lib.hid (F1.out.trans hf)
  clear hf
  have B2 := Lib.hid (BD.new F2.out ⟨false, 1, 1⟩)
  dsimp only [De.box] at B2
  obtain ⟨c0, c1, c2⟩ := B2.out.cells
  dsimp only at c0 c1 c2
  go_wp2_with fail
  with_reducible refine (O.out _ _ (by simp)).mono ?_
  rintro e w3 ⟨rfl, hf⟩
  have F3 := Lib.hid ((B2.out.1.trans (Fr.alloc _ (.cells #[.int .i64 3] 3) [])).trans hf)
  have T3 := Lib.hid (HT.out.fr F3.out)
  clear hf c0 c1 c2 B2
  go_wp2_with fail
  with_reducible refine (A2.out _ T3.out).mono ?_
  rintro e w4 ⟨rfl, hf⟩
  have F4 := Lib.hid (F3.out.trans hf)
  clear hf
  have fld := fun W => dfld0 true 0 0 W
  go_wp2
  go_ret
  exact ⟨rfl, F4.out⟩
end Go.Proofs.YtkdfnnikgliglaaDoor
