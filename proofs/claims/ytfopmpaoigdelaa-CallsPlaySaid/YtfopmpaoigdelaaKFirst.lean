/- The chapter's example; one of what is so. -/
import Derived.Test.YtfopmpaoigdelaaKKeep
namespace Go.Proofs.Ytfopmpaoigdelaa
open Go.RowKit

theorem sbs_new {w : World} {B p : Nat} {s : Value} {L : List La} (h : Ss w B p s L) {N : Nat} (hp : N ≤ p) (hB : N ≤ B) : ∀ r ∈ sbs p s, N ≤ r := by
  intro r hr
  rcases mem_sbs.1 hr with rfl | hr
  · exact hp
  · exact Nat.le_trans hB (h.own r hr).1
def fstL : La := ⟨1, 1, 1⟩
def fstW (w : World) : World := (w.alloc (.cells #[.slice none 0 0] 29)).alloc (.cells #[.int .i64 1, .int .i64 1, .int .i64 1] 25)
set_option maxRecDepth 100000 in
theorem first_any (w : World) : Calls Try.prog 7 #[] w fun e w' => e = .returned (.bool true) ∧ Fr w w' [] := by
  have HF0 := Lib.hid (show Fr w (fstW w) [] from (Fr.alloc w _ []).trans (Fr.alloc _ _ []))
  have HS0 := Lib.hid (show Ss (fstW w) w.heap.size w.heap.size (.slice none 0 0) [] from (Ss.new w w.heap.size).keep (Fr.alloc _ _ []))
  have HX := Lib.hid (show (fstW w).heap[w.heap.size + 1]? = some fstL.row by
    have h := heap_alloc_new (w.alloc (.cells #[.slice none 0 0] 29)) fstL.row
    rw [show (w.alloc (.cells #[.slice none 0 0] 29)).heap.size = w.heap.size + 1 by simp] at h
    exact h)
  have HP1 := Lib.hid (putS_any w.heap.size w.heap.size _ [] fstL (fstW w) HS0.out HF0.out.size (by simp) true rfl)
  go_enter Try.func7, Try.ntmps7
  go_wp2_with fail
  refine HP1.out.mono ?_
  rintro e w1 ⟨rfl, s1, hs1, hf1, _⟩
  have hF1 : Fr w w1 [] := HF0.out.new hf1 (sbs_new HS0.out (Nat.le_refl _) (Nat.le_refl _))
  have hX1 : w1.heap[w.heap.size + 1]? = some fstL.row := hf1.heap HX.out (fun hr => (mem_sbs.1 hr).elim (fun e => by omega) (fun e => by simp [Value.ownBlock] at e))
  obtain ⟨y0, y1, y2⟩ := box3_call hX1
  simp only [fstL] at y0 y1 y2
  have HS1 := Lib.hid (show Ss w1 w.heap.size w.heap.size s1 [fstL] from hs1)
  have HF1 := Lib.hid hF1
  have HP2 := Lib.hid (putS_any w.heap.size w.heap.size _ [fstL] fstL w1 HS1.out HF1.out.size (by simp) false rfl)
  clear hs1 hf1 hF1 hX1
  go_wp2_with fail
  refine HP2.out.mono ?_
  rintro e w2 ⟨rfl, s2, hs2, hf2, _⟩
  have hF2 : Fr w w2 [] := HF1.out.new hf2 (sbs_new HS1.out (Nat.le_refl _) (Nat.le_refl _))
  have HS2 := Lib.hid (show Ss w2 w.heap.size w.heap.size s2 [fstL] from hs2)
  have HF2 := Lib.hid hF2
  have HL := Lib.hid (len_any _ _ _ _ _ HS2.out)
  clear hs2 hf2 hF2
  go_wp2_with fail
  refine HL.out.mono ?_
  rintro e w3 ⟨rfl, rfl⟩
  go_wp2
  go_ret
  exact ⟨rfl, HF2.out⟩
theorem one_any (b : Bool) (w : World) : Calls Try.prog 14 #[.bool b] w fun e w' => e = .returned (.int .i64 (if b then 1 else 0)) ∧ w' = w := by
  cases b <;>
  · go_enter Try.func14, Try.ntmps14
    go_wp2
    go_ret
    exact ⟨rfl, rfl⟩
end Go.Proofs.Ytfopmpaoigdelaa
