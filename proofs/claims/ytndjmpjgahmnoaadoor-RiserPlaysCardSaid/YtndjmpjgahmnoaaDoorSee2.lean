/- An error with a place is the fault that it should be. -/
import Derived.Test.YtndjmpjgahmnoaaDoorSee
namespace Go.Proofs.YtndjmpjgahmnoaaDoor
open Go.RowKit

theorem AtErr.grown {w w' : World} {A : Nat → Addr} {u : Value} {k c : Nat} (h : AtErr w A u k c) (hg : w.grownBy w' none) : AtErr w' A u k c := by
  obtain ⟨q, hu, hq⟩ := h
  exact ⟨q, hu, by rw [hg.block _ (Array.getElem?_eq_some_iff.1 hq).1 (by simp)]; exact hq⟩

set_option maxHeartbeats 4000000 in
set_option maxRecDepth 100000 in
theorem same_at (A : Nat → Addr) (B k c : Nat) (u : Value) (w : World) (hE : E13 w A B) (hc : c < 13) (hu : AtErr w A u k (c + 1)) :
    Calls Tryd.prog 28 #[u, flt (101 + (c : Int)) true k] w fun e w' => e = .returned (.bool true) ∧ w.grownBy w' none := by
  have hw0 := World.grownBy_alloc w (.cells #[.int .i64 (101 + (c : Int)), .bool true, .int .i64 (k : Int)] 70) none
  have hres : ∀ W, (w.alloc (.cells #[.int .i64 (101 + (c : Int)), .bool true, .int .i64 (k : Int)] 70)).grownBy W none → W.heap[w.heap.size]? = some (.cells #[.int .i64 (101 + (c : Int)), .bool true, .int .i64 (k : Int)] 70 (0, 0)) := fun W hW => by rw [hW.block _ (by simp) (by simp)]; exact heap_alloc_new w _
  have hcall : ∀ W, (w.alloc (.cells #[.int .i64 (101 + (c : Int)), .bool true, .int .i64 (k : Int)] 70)).grownBy W none → Calls Tryd.prog 32 #[u] W fun e w' => e = .returned (flt (101 + (c : Int)) true k) ∧ W.grownBy w' none :=
    fun W hW => fault_at A B k c u W (hE.kept (grown_trans hw0 hW) (fun r e => by cases e)) hc (hu.grown (grown_trans hw0 hW))
  have HR := Lib.hid hres
  have HC := Lib.hid hcall
  have HW := Lib.hid hw0
  clear hw0 hres hcall hE hu
  unfold flt
  go_enter Tryd.func28, Tryd.ntmps28
  go_wp2_with fail
  go_region_with (first
    | (go_at_call 32; refine (HC.out _ (grown_drew (grown_refl _ _))).mono ?_; rintro e w2 ⟨rfl, hg2⟩; have s1 := HR.out w2 (grown_trans (grown_drew (grown_refl _ _)) hg2); have z0 := cell_of_row _ _ 0 _ _ _ s1; have z1 := cell_of_row _ _ 1 _ _ _ s1; have z2 := cell_of_row _ _ 2 _ _ _ s1; simp at z0 z1 z2)
    | (go_at_call 31; refine (sameFault_yes _ _ _ _).mono ?_; rintro e w3 ⟨rfl, hg3⟩))
  all_goals
    have hall := grown_trans HW.out (grown_trans (grown_drew (grown_refl _ _)) (grown_trans hg2 hg3))
    clear HR HC HW hg2 hg3 s1 z0 z1 z2
    go_wp2
    go_ret
    exact ⟨rfl, hall⟩

theorem same_code (A : Nat → Addr) (B k c : Nat) (u : Value) (w : World) (hE : E13 w A B) (hc : c < 13) (hu : AtErr w A u k (c + 1)) (code pos : Int) (h1 : code = 101 + (c : Int)) (h2 : pos = (k : Int)) :
    Calls Tryd.prog 28 #[u, flt code true pos] w fun e w' => e = .returned (.bool true) ∧ w.grownBy w' none := by
  subst h1; subst h2; exact same_at A B k c u w hE hc hu
end Go.Proofs.YtndjmpjgahmnoaaDoor
