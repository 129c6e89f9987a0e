/- The statements' own view of errors, more: nil, and api's errors with nothing around them. -/
import Derived.Test.YtndjmpjgahmnoaaDoorSee2
namespace Go.Proofs.YtndjmpjgahmnoaaDoor
open Go.RowKit

theorem fault_nil (w : World) :
    Calls Tryd.prog 32 #[.nilIface] w fun e w' => e = .returned (flt 0 false 0) ∧ w.grownBy w' none := by
  go_enter Tryd.func32, Tryd.ntmps32
  go_wp2_with fail
  have hr : ∀ W, (w.alloc (.cells #[.int .i64 0, .bool false, .int .i64 0] 70)).grownBy W none → W.heap[w.heap.size]? = some (.cells #[.int .i64 0, .bool false, .int .i64 0] 70 (0, 0)) := fun W hW => by rw [hW.block _ (by simp) (by simp)]; exact heap_alloc_new w _
  have HR := Lib.hid hr
  clear hr
  refine (noFault_any _).mono ?_
  rintro e w1 ⟨rfl, hg1⟩
  have s1 := HR.out w1 hg1
  have z0 := cell_of_row _ _ 0 _ _ _ s1
  have z1 := cell_of_row _ _ 1 _ _ _ s1
  have z2 := cell_of_row _ _ 2 _ _ _ s1
  have y0 := frozen_of_row _ _ 0 _ _ s1
  have y1 := frozen_of_row _ _ 1 _ _ s1
  have y2 := frozen_of_row _ _ 2 _ _ s1
  simp at z0 z1 z2
  have hall := grown_trans (World.grownBy_alloc w (.cells #[.int .i64 0, .bool false, .int .i64 0] 70) none) hg1
  have HALL := Lib.hid hall
  clear hall hg1
  unfold flt
  go_wp2
  exact bodyPost_ret (v := .agg #[.int .i64 0, .bool false, .int .i64 0]) (by simp [results, Tryd.results32, go_sem, z0, z1, z2]) rfl ⟨rfl, grown_below ((((below_grown HALL.out).setCell (Nat.le_refl _) _).setCell (Nat.le_refl _) _).setCell (Nat.le_refl _) _)⟩

theorem assert_sent (a : Addr) (W : World) : (Instr.typeAssert (.iface 85 (.pointer (some a))) 28 76 true).run Tryd.prog W = .ok (.tuple #[.pointer none, .bool false]) W := by kernel_rfl

set_option maxHeartbeats 4000000 in
set_option maxRecDepth 100000 in
theorem fault_sent (A : Nat → Addr) (B c : Nat) (w : World) (hE : E13 w A B) (hc : c < 13) :
    Calls Tryd.prog 32 #[ev A (c + 1)] w fun e w' => e = .returned (flt (101 + (c : Int)) false 0) ∧ w.grownBy w' none := by
  rw [ev_some]
  have hw0 := World.grownBy_alloc w (.cells #[.int .i64 0, .bool false, .int .i64 0] 70) none
  have hr : ∀ W, (w.alloc (.cells #[.int .i64 0, .bool false, .int .i64 0] 70)).grownBy W none → W.heap[w.heap.size]? = some (.cells #[.int .i64 0, .bool false, .int .i64 0] 70 (0, 0)) := fun W hW => by rw [hW.block _ (by simp) (by simp)]; exact heap_alloc_new w _
  have hcall : ∀ W, (w.alloc (.cells #[.int .i64 0, .bool false, .int .i64 0] 70)).grownBy W none → Calls Tryd.prog 34 #[.iface 85 (.pointer (some (A (c + 1))))] W fun e w' => e = .returned (.int .i64 (101 + (c : Int))) ∧ W.grownBy w' none :=
    fun W hW => sentinel_any A B c W (hE.kept (grown_trans hw0 hW) (fun r e => by cases e)) hc
  have HC := Lib.hid hcall
  have HR := Lib.hid hr
  have HW := Lib.hid hw0
  clear hr hcall hw0 hE
  have hta := fun W => assert_sent (A (c + 1)) W
  go_enter Tryd.func32, Tryd.ntmps32
  go_wp2_with fail
  refine (HC.out _ (grown_refl _ _)).mono ?_
  rintro e w1 ⟨rfl, hg1⟩
  go_wp2_with fail
  refine (bare_any _ _).mono ?_
  rintro e w2 ⟨rfl, hg2⟩
  have s1 := HR.out w2 (grown_trans hg1 hg2)
  have z0 := cell_of_row _ _ 0 _ _ _ s1
  have z1 := cell_of_row _ _ 1 _ _ _ s1
  have z2 := cell_of_row _ _ 2 _ _ _ s1
  have y0 := frozen_of_row _ _ 0 _ _ s1
  have y1 := frozen_of_row _ _ 1 _ _ s1
  have y2 := frozen_of_row _ _ 2 _ _ s1
  simp at z0 z1 z2
  have HALL := Lib.hid (grown_trans HW.out (grown_trans hg1 hg2))
  clear hg1 hg2 hta
  unfold flt
  go_wp2
  exact bodyPost_ret (v := .agg #[.int .i64 (101 + (c : Int)), .bool false, .int .i64 0]) (by simp [results, Tryd.results32, go_sem, z0, z1, z2]) rfl ⟨rfl, grown_below ((((below_grown HALL.out).setCell (Nat.le_refl _) _).setCell (Nat.le_refl _) _).setCell (Nat.le_refl _) _)⟩

set_option maxHeartbeats 4000000 in
set_option maxRecDepth 100000 in
/-- Whatever Fault tells of an error, Same says so. -/
theorem same_of (u : Value) (code : Int) (b : Bool) (pos : Int) (w : World) (hF : ∀ W, w.grownBy W none → Calls Tryd.prog 32 #[u] W fun e w' => e = .returned (flt code b pos) ∧ W.grownBy w' none) :
    Calls Tryd.prog 28 #[u, flt code b pos] w fun e w' => e = .returned (.bool true) ∧ w.grownBy w' none := by
  have hw0 := World.grownBy_alloc w (.cells #[.int .i64 code, .bool b, .int .i64 pos] 70) none
  have hres : ∀ W, (w.alloc (.cells #[.int .i64 code, .bool b, .int .i64 pos] 70)).grownBy W none → W.heap[w.heap.size]? = some (.cells #[.int .i64 code, .bool b, .int .i64 pos] 70 (0, 0)) := fun W hW => by rw [hW.block _ (by simp) (by simp)]; exact heap_alloc_new w _
  have HR := Lib.hid hres
  have HC := Lib.hid (fun W (hW : (w.alloc (.cells #[.int .i64 code, .bool b, .int .i64 pos] 70)).grownBy W none) => hF W (grown_trans hw0 hW))
  have HW := Lib.hid hw0
  clear hw0 hres hF
  unfold flt
  go_enter Tryd.func28, Tryd.ntmps28
  go_wp2_with fail
  go_region_with (first
    | (go_at_call 32; refine (HC.out _ (grown_drew (grown_refl _ _))).mono ?_; rintro e w2 ⟨rfl, hg2⟩; have s1 := HR.out w2 (grown_trans (grown_drew (grown_refl _ _)) hg2); have z0 := cell_of_row _ _ 0 _ _ _ s1; have z1 := cell_of_row _ _ 1 _ _ _ s1; have z2 := cell_of_row _ _ 2 _ _ _ s1; simp at z0 z1 z2)
    | (go_at_call 31; refine (sameFault_yes _ _ _ _).mono ?_; rintro e w3 ⟨rfl, hg3⟩))
  all_goals
    have hall := grown_trans HW.out (grown_trans (grown_drew (grown_refl _ _)) (grown_trans hg2 hg3))
    clear HR HC HW hg2 hg3 s1 z0 z1 z2
    go_wp2
    go_ret
    exact ⟨rfl, hall⟩

/-- The code of an error of api (0: none), and the statement's view Is. -/
def fcode (c : Nat) : Int := if c = 0 then 0 else 100 + (c : Int)
theorem see_is (A : Nat → Addr) (B c : Nat) (code : Int) (w : World) (hE : E13 w A B) (hc : c ≤ 13) (hcode : code = fcode c) :
    Calls Tryd.prog 16 #[ev A c, .int .i64 code] w fun e w' => e = .returned (.bool true) ∧ w.grownBy w' none := by
  have hF : ∀ W, w.grownBy W none → Calls Tryd.prog 32 #[ev A c] W fun e w' => e = .returned (flt code false 0) ∧ W.grownBy w' none := by
    intro W hW
    match c, hc, hcode with
    | 0, _, h => subst h; exact fault_nil W
    | c + 1, hc, h =>
      have e : code = 101 + (c : Int) := by rw [h]; unfold fcode; rw [if_neg (by omega)]; omega
      subst e
      exact fault_sent A B c W (hE.kept hW (fun r e => by cases e)) (by omega)
  have HF := Lib.hid hF
  obtain ⟨x, hx⟩ : ∃ x, x = ev A c := ⟨_, rfl⟩
  rw [← hx] at HF ⊢
  clear hF hcode hx hE
  go_enter Tryd.func16, Tryd.ntmps16
  go_wp2_with fail
  refine (bare_any _ _).mono ?_
  rintro e w1 ⟨rfl, hg1⟩
  go_wp2_with fail
  refine (same_of x code false 0 w1 (fun W hW => HF.out W (grown_trans hg1 hW))).mono ?_
  rintro e w2 ⟨rfl, hg2⟩
  go_wp2
  go_ret
  exact ⟨rfl, grown_trans hg1 hg2⟩
end Go.Proofs.YtndjmpjgahmnoaaDoor
