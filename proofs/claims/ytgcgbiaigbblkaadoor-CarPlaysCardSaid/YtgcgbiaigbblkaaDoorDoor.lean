/- A door by value: Is, Open, Tick, Stuck. -/
import Derived.Test.YtgcgbiaigbblkaaDoorBase
import Derived.Test.YtgcgbiaigbblkaaDoorDet
import Derived.Deep.RegionHeld3
import Derived.Lib.MinMax
namespace Go.Proofs.YtgcgbiaigbblkaaDoor
open Go.RowKit

/-- A door's two numbers as a value, as a box. -/
abbrev dv (l h : Int) : Value := .agg #[.int .i64 l, .int .i64 h]
abbrev dbox (T : TypeId) (l h : Int) : Obj := .cells #[.int .i64 l, .int .i64 h] T
theorem drow {w : World} {g : Nat} {a b : Value} {T : TypeId} (h : w.heap[g]? = some (.cells #[a, b] T (0, 0))) :
    w.cell? ⟨g, 0, none⟩ = some a ∧ w.cell? ⟨g, 1, none⟩ = some b :=
  ⟨by rw [cell_of_row w g 0 _ _ _ h]; rfl, by rw [cell_of_row w g 1 _ _ _ h]; rfl⟩
/-- A box whose two cells are stored anew. -/
theorem dset {w : World} {g : Nat} {a b : Value} {T : TypeId} (h : w.heap[g]? = some (.cells #[a, b] T (0, 0))) (x y : Value) :
    ((w.setCell ⟨g, 0, none⟩ x).setCell ⟨g, 1, none⟩ y).heap[g]? = some (.cells #[x, y] T (0, 0)) := by
  have h1 : (w.setCell ⟨g, 0, none⟩ x).heap[g]? = some (.cells #[x, b] T (0, 0)) := by rw [heap_setCell_same _ g 0 _ _ _ h]; rfl
  rw [heap_setCell_same _ g 1 _ _ _ h1]; rfl
theorem dset_fr (w : World) (g : Nat) (x y : Value) : Fr w ((w.setCell ⟨g, 0, none⟩ x).setCell ⟨g, 1, none⟩ y) [g] :=
  (Fr.setCell w g 0 x (S := [g]) (by simp)).trans (Fr.setCell _ g 1 y (S := [g]) (by simp))

set_option maxRecDepth 100000 in
theorem is_any (l h : Int) (w : World) (b : Bool) (hb : b = decide (0 < l)) : Calls Tryd.prog 27 #[dv l h] w fun e w' => e = .returned (.bool b) ∧ Fr w w' [] := by
  have FA := Lib.hid (Fr.alloc w (dbox 67 l h) [])
  have HB := Lib.hid hb
  clear hb
  dsimp only [dv, dbox] at *
  go_enter Tryd.func27, Tryd.ntmps27
  go_wp2
  go_ret
  exact ⟨by rw [HB.out]; rfl, FA.out⟩

set_option maxRecDepth 100000 in
theorem open_any (n : Int) (w : World) (r : Int) (hr : min (max n 1) 8 = r) : Calls Tryd.prog 44 #[.int .i64 n] w fun e w' => e = .returned (dv r 0) ∧ Fr w w' [] := by
  obtain ⟨m, hm⟩ : ∃ m, max n 1 = m := ⟨_, rfl⟩
  rw [hm] at hr
  have FA := Lib.hid (Fr.alloc w (dbox 67 r 0) [])
  obtain ⟨x0, x1⟩ := drow (heap_alloc_new w (dbox 67 r 0))
  dsimp only [dv, dbox] at *
  go_enter Tryd.func44, Tryd.ntmps44
  go_wp2
  exact bodyPost_ret (v := .agg #[.int .i64 r, .int .i64 0]) (by simp [results, Tryd.results44, go_sem, x0, x1]) rfl ⟨rfl, FA.out⟩

set_option maxRecDepth 100000 in
theorem oneMore_any (n : Int) (w : World) (h0 : -9223372036854775808 ≤ n) (h1 : n ≤ 1152921504606846976) : Calls Tryd.prog 45 #[.int .i64 n] w fun e w' => e = .returned (.int .i64 (n + 1)) ∧ w' = w := by
  have hm : min n 9223372036854775806 = n := by omega
  have hw : IntKind.i64.wrap (n + 1) = n + 1 := IntWalk.i64_in _ (by omega)
  go_enter Tryd.func45, Tryd.ntmps45
  go_wp2
  go_ret
  exact ⟨rfl, rfl⟩

/-- A third, rounded up. -/
def thirdB (n : Int) : Int := if 0 < n.tmod 3 then n.tdiv 3 + 1 else n.tdiv 3
theorem thirdB_facts (n : Int) : 3 * n.tdiv 3 + n.tmod 3 = n ∧ -3 < n.tmod 3 ∧ n.tmod 3 < 3 := by
  refine ⟨Int.mul_tdiv_add_tmod n 3, ?_, Int.tmod_lt_of_pos n (by decide)⟩
  have := Int.tmod_lt_of_pos (-n) (show (0 : Int) < 3 by decide)
  rw [Int.neg_tmod] at this; omega
theorem thirdB_lt (n k : Int) : k < thirdB n ↔ 3 * k < n := by
  obtain ⟨h1, h2, h3⟩ := thirdB_facts n
  unfold thirdB
  split <;> constructor <;> intro h <;> omega

end Go.Proofs.YtgcgbiaigbblkaaDoor
