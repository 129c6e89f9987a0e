/- How many are lit; the chapter's example. -/
import Derived.Test.YtndjmpjgahmnoaaDoorRis4
namespace Go.Proofs.YtndjmpjgahmnoaaDoor
open Go.RowKit

def cntTo (L : Nat → Bool) (N : Nat) : Nat := ((List.range N).filter L).length
theorem cnt_succ (L : Nat → Bool) (N : Nat) : cntTo L (N + 1) = cntTo L N + (if L N then 1 else 0) := by
  unfold cntTo
  rw [List.range_succ, List.filter_append, List.length_append]
  cases h : L N <;> simp [h]
theorem cnt_far (L : Nat → Bool) (k : Nat) (b : Bool) : ∀ N, N ≤ k → cntTo (updB L k b) N = cntTo L N
  | 0, _ => rfl
  | N + 1, h => by
    rw [cnt_succ, cnt_succ, cnt_far L k b N (by omega), updB_ne L b (show N ≠ k by omega)]
theorem cnt_up (L : Nat → Bool) (k : Nat) (h : L k = false) : ∀ N, k < N → cntTo (updB L k true) N = cntTo L N + 1
  | 0, h0 => by omega
  | N + 1, h0 => by
    rw [cnt_succ, cnt_succ]
    by_cases e : k = N
    · subst e
      rw [cnt_far L k true k (Nat.le_refl _), updB_at, h]
      simp
    · rw [cnt_up L k h N (by omega), updB_ne L true (show N ≠ k by omega)]
      omega
theorem upd_back (L : Nat → Bool) (k : Nat) (h : L k = true) : updB (updB L k false) k true = L := by
  funext j
  by_cases e : j = k
  · subst e; rw [updB_at, h]
  · rw [updB_ne _ _ e, updB_ne _ _ e]
theorem cnt_down (L : Nat → Bool) (k : Nat) (h : L k = true) (N : Nat) (hk : k < N) : cntTo (updB L k false) N + 1 = cntTo L N := by
  have := cnt_up (updB L k false) k (updB_at _ _ _) N hk
  rw [upd_back L k h] at this
  omega
theorem cnt_zero (N : Nat) : cntTo (fun _ => false) N = 0 := by
  unfold cntTo
  simp
theorem lit_cnt (s : RS) : s.lit.length = cntTo s.L (2 * s.n) := by
  unfold RS.lit RS.litTo cntTo
  rw [List.length_map]
theorem cnt_le (L : Nat → Bool) (N : Nat) : cntTo L N ≤ N := by
  unfold cntTo
  exact Nat.le_trans (List.length_filter_le _ _) (by simp)
theorem zS_ok (n : Nat) (h : n ≤ 64) : (zS n).ok := ⟨h, fun k hk => by simp [zS] at hk⟩
theorem key5 : Key 5 2 1 5 := ⟨by decide, by decide, by decide, by decide⟩

/-- A number that is that of floors. -/
theorem new_at (n : Nat) (x : Int) (hx : x = (n : Int)) (h0 : 2 ≤ n) (h1 : n ≤ 64) (w : World) : Calls Tryd.prog 8 #[.int .i64 x] w fun e w' => e = .returned (.tuple #[.pointer (some ⟨w.heap.size, 0, none⟩), .nilIface]) ∧ Rs w' w.heap.size (zS n) ∧ Fr w w' [] := by
  subst hx; exact new_yes n h0 h1 w
theorem may_at (n : Nat) (x : Int) (hx : x = (n : Int)) (hn : n ≤ 64) (f d : Int) (w : World) (b : Bool) (hb : mayB n f d = b) :
    Calls Tryd.prog 14 #[.int .i64 x, .agg #[.int .i64 f, .int .i64 d]] w fun e w' => e = .returned (.bool b) ∧ Fr w w' [] := by
  subst hx hb; exact may_any n hn f d w
set_option maxRecDepth 100000 in
theorem first_any (w : World) : Calls Tryd.prog 7 #[] w fun e w' => e = .returned (.bool true) ∧ Fr w w' [] := by
  go_enter Tryd.func7, Tryd.ntmps7
  go_wp2_with fail
  refine (new_yes 5 (by decide) (by decide) w).mono ?_
  rintro e w1 ⟨rfl, hs, hf⟩
  have S1 := Lib.hid hs
  have F1 := Lib.hid hf
  have hsz := Lib.hid (show w.heap.size < w1.heap.size from hs.lt)
  clear hs hf
  have h1 := press_yes w.heap.size (zS 5) 2 1 5 w1 S1.out (by decide) key5 rfl (by decide) (by decide)
  rw [show (zS 5).G 5 + 1 = 1 from rfl] at h1
  have H1 := Lib.hid h1
  clear h1
  go_wp2_with fail
  refine H1.out.mono ?_
  rintro e w2 ⟨rfl, hs, hf⟩
  have S2 := Lib.hid (hs.keep (Fr.alloc w2 (.cells #[.int .i64 2, .int .i64 1, .int .i64 1] 32) []))
  have F2 := Lib.hid ((F1.out.new hf (by simp)).trans (Fr.alloc w2 (.cells #[.int .i64 2, .int .i64 1, .int .i64 1] 32) []))
  have R2 := Lib.hid (heap_alloc_new w2 (.cells #[.int .i64 2, .int .i64 1, .int .i64 1] 32))
  clear hs hf H1
  go_wp2_with fail
  refine (press_no w.heap.size ((zS 5).press 5) 2 1 _ S2.out (by decide) (by decide)).mono ?_
  rintro e w3 ⟨rfl, hf⟩
  have S3 := Lib.hid ((S2.out.keep hf).keep (Fr.alloc w3 (.cells #[.int .i64 0, .int .i64 0, .int .i64 0] 32) []))
  have F3 := Lib.hid ((F2.out.trans hf).trans (Fr.alloc w3 (.cells #[.int .i64 0, .int .i64 0, .int .i64 0] 32) []))
  obtain ⟨r0, r1, r2⟩ := row3 ((Fr.alloc w3 (.cells #[.int .i64 0, .int .i64 0, .int .i64 0] 32) []).heap (hf.heap R2.out (by simp)) (by simp))
  clear hf
  go_wp2_with fail
  refine (lit_any w.heap.size ((zS 5).press 5) _ S3.out ((zS_ok 5 (by decide)).press key5)).mono ?_
  rintro e w4 ⟨u, rfl, ho, hf⟩
  obtain ⟨a, c, rfl⟩ := ho.shape
  rw [show ((zS 5).press 5).lit.length = 1 by decide]
  have F4 := Lib.hid (F3.out.trans hf)
  clear ho hf
  go_wp2
  go_ret
  exact ⟨rfl, F4.out⟩
end Go.Proofs.YtndjmpjgahmnoaaDoor
