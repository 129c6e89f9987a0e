import Derived.Test.YtiflmkicnkbeaaaGreatDoorZp01
import Derived.Test.YtiflmkicnkbeaaaGreatDoorZp02
namespace Go.Proofs.YtiflmkicnkbeaaaGreatDoor
open Go.RowKit
structure GS where
 c : Int
 f : Int
 h : Int
 fl : Int
def Gt (w : World) (p : Nat) (s : GS) : Prop := w.heap[p]? = some (.cells #[.int .i64 s.c, .int .i64 s.f, .int .i64 s.h, .int .i64 s.fl] 241 (0, 0))
theorem Gt.fr {w w' : World} {p : Nat} {s : GS} {S : List Nat} (h : Gt w p s) (hf : Fr w w' S) (hp : p ∉ S) : Gt w' p s := hf.heap h hp
theorem Gt.keep {w w' : World} {p : Nat} {s : GS} (h : Gt w p s) (hf : Fr w w' []) : Gt w' p s := h.fr hf (by simp)
theorem Gt.lt {w : World} {p : Nat} {s : GS} (h : Gt w p s) : p < w.heap.size := size_of_row h
theorem row4 {w : World} {g : Nat} {a b c d : Value} {T : TypeId} (h : w.heap[g]? = some (.cells #[a, b, c, d] T (0, 0))) :
 w.cell? ⟨g, 0, none⟩ = some a ∧ w.cell? ⟨g, 1, none⟩ = some b ∧ w.cell? ⟨g, 2, none⟩ = some c ∧ w.cell? ⟨g, 3, none⟩ = some d :=
 ⟨by rw [cell_of_row w g 0 _ _ _ h]; rfl, by rw [cell_of_row w g 1 _ _ _ h]; rfl, by rw [cell_of_row w g 2 _ _ _ h]; rfl, by rw [cell_of_row w g 3 _ _ _ h]; rfl⟩
theorem Gt.cells {w : World} {p : Nat} {s : GS} (h : Gt w p s) :
 w.cell? ⟨p, 0, none⟩ = some (.int .i64 s.c) ∧ w.cell? ⟨p, 1, none⟩ = some (.int .i64 s.f) ∧ w.cell? ⟨p, 2, none⟩ = some (.int .i64 s.h) ∧ w.cell? ⟨p, 3, none⟩ = some (.int .i64 s.fl) := row4 h
set_option maxRecDepth 100000 in
theorem gnew_any (n : Int) (w : World) : Calls Tryz.prog 70 #[.int .i64 n] w fun e w' => e = .returned (.pointer (some ⟨w.heap.size, 0, none⟩)) ∧ Gt w' w.heap.size ⟨0, 0, 0, max n 0⟩ ∧ Fr w w' [] := by
 by_cases h : 0 ≤ n
 all_goals
  go_enter Tryz.func70, Tryz.ntmps70
  go_wp2
  go_ret
  refine ⟨rfl, ?_, Fr.alloc _ _ _⟩
  unfold Gt
  rw [heap_alloc_new]
set_option maxRecDepth 100000 in
theorem epoch_any (p : Nat) (s : GS) (w : World) (hg : Gt w p s) : Calls Tryz.prog 110 #[.pointer (some ⟨p, 0, none⟩)] w fun e w' => e = .returned (.agg #[.int .i64 s.c, .int .i64 s.f]) ∧ Fr w w' [] := by
 obtain ⟨c0, c1, c2, c3⟩ := hg.cells
 have hlt := hg.lt
 clear hg
 go_enter Tryz.func110, Tryz.ntmps110
 go_wp2
 refine bodyPost_ret (v := .agg #[.int .i64 _, .int .i64 _]) (by simp [results, Tryz.results110, go_sem]) rfl ⟨rfl, Fr.alloc _ _ _⟩
end Go.Proofs.YtiflmkicnkbeaaaGreatDoor
namespace Go.Proofs.YtiflmkicnkbeaaaGreatDoor
open Go.RowKit
structure RN where
 c : Int
 f : Int
 h : Int
 ms : List Int
abbrev RN.v (r : RN) (vm ve : Value) : Value := .agg #[.int .i64 r.c, .int .i64 r.f, .int .i64 r.h, vm, ve]
def WS (W : World) (b p : Nat) (s : GS) (r : RN) (vm ve : Value) (a : World) : Prop := Fr W a [] ∧
 (a.cell? ⟨b, 0, none⟩ = some (.int .i64 r.c) ∧ a.cell? ⟨b, 1, none⟩ = some (.int .i64 r.f) ∧ a.cell? ⟨b, 2, none⟩ = some (.int .i64 r.h) ∧ a.cell? ⟨b, 3, none⟩ = some vm ∧ a.cell? ⟨b, 4, none⟩ = some ve) ∧
 a.cell? ⟨p, 0, none⟩ = some (.int .i64 s.c) ∧ a.cell? ⟨p, 1, none⟩ = some (.int .i64 s.f) ∧ a.cell? ⟨p, 2, none⟩ = some (.int .i64 s.h) ∧ a.cell? ⟨p, 3, none⟩ = some (.int .i64 s.fl) ∧ Gt a p s
end Go.Proofs.YtiflmkicnkbeaaaGreatDoor
