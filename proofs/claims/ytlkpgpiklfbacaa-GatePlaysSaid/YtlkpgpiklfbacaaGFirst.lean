/- The chapter's example. -/
import Derived.Test.YtlkpgpiklfbacaaGTake
import Derived.Test.YtlkpgpiklfbacaaNum
namespace Go.Proofs.Ytlkpgpiklfbacaa
open Go.RowKit

/-- The gate, behind what may be told. -/
theorem one_ints {w : World} {g : Nat} {x : Int} (h : w.heap[g]? = some (.cells #[.int .i64 x] 3 (0, 0))) : HInts w (.slice (some ⟨g, 0, none⟩) 1 1) [x] := by
  refine ⟨_, 1, rfl, by simp, by decide, fun _ => ⟨g, 0, rfl, fun i hi => ?_⟩⟩
  have hi' : i < 1 := hi
  obtain rfl : i = 0 := by omega
  rw [Nat.zero_add, cell_of_row _ _ _ _ _ _ h]
  rfl
theorem slice_sl (a : Option Addr) (n c : Nat) : IsSl (.slice a n c) := ⟨a, n, c, rfl⟩

/-- 'e.Count' of a value. -/
theorem efld0 (c f : Int) (W : World) : (Instr.field 25 (.agg #[.int .i64 c, .int .i64 f]) 0).run Try.prog W = .ok (.int .i64 c) W := by kernel_rfl
theorem two_new (w : World) (o1 o2 : Obj) : ((w.alloc o1).alloc o2).heap[w.heap.size]? = some o1 ∧ ((w.alloc o1).alloc o2).heap[w.heap.size + 1]? = some o2 := by
  refine ⟨(Fr.alloc (w.alloc o1) o2 []).heap (heap_alloc_new w o1) (by simp), ?_⟩
  have h := heap_alloc_new (w.alloc o1) o2
  rwa [show (w.alloc o1).heap.size = w.heap.size + 1 by simp] at h
set_option maxRecDepth 100000 in
theorem first_any (w : World) : Calls Try.prog 8 #[] w fun e w' => e = .returned (.bool true) ∧ Fr w w' [] := by
  go_enter Try.func8, Try.ntmps8
  go_wp2_with fail
  refine (new_any 5 w).mono ?_
  rintro e w1 ⟨rfl, hG, hF⟩
  have hlt := hG.lt
  have HG := Lib.hid hG
  have HF := Lib.hid hF
  clear hG hF
  have HB := two_new w1 (.cells #[.int .i64 1] 3) (.cells #[.int .i64 5, .int .i64 0, .int .i64 1, .slice (some ⟨w1.heap.size, 0, none⟩) 1 1, .slice none 0 0] 29)
  have FA := Lib.hid ((Fr.alloc w1 (.cells #[.int .i64 1] 3) []).trans (Fr.alloc (w1.alloc (.cells #[.int .i64 1] 3)) (.cells #[.int .i64 5, .int .i64 0, .int .i64 1, .slice (some ⟨w1.heap.size, 0, none⟩) 1 1, .slice none 0 0] 29) []))
  have HI := Lib.hid (one_ints HB.1)
  have HR := Lib.hid HB.2
  clear HB
  go_wp2_with fail
  refine (would_any w.heap.size ⟨0, 0, 0, 5⟩ 1 1 ⟨5, 0, 1, [1]⟩ _ _ _ (HG.out.keep FA.out) HI.out (slice_sl _ _ _) false (by decide)).mono ?_
  rintro e w2 ⟨rfl, hf⟩
  have HI2 := Lib.hid (HI.out.keep hf)
  have HR2 := Lib.hid (hf.heap HR.out (by simp))
  have HG2 := Lib.hid (HG.out.keep (FA.out.trans hf))
  have HF2 := Lib.hid ((HF.out.trans FA.out).trans hf)
  have LE := Lib.hid (And.intro hlt (FA.out.trans hf).size)
  obtain ⟨r0, r1, r2, r3, r4⟩ := row5 HR2.out
  have i0 := frozen_of_row w2 _ 0 _ _ HR2.out
  clear hf hlt
  go_wp2_with fail
  have hlt := LE.out
  have fs := Fr.setCell w2 (w1.heap.size + 1) 0 (.int .i64 6) (S := [w1.heap.size + 1]) (by simp)
  refine (take_yes w.heap.size ⟨0, 0, 0, 5⟩ 1 1 ⟨6, 0, 1, [1]⟩ _ _ _ (HG2.out.fr fs (by simp; omega)) (HI2.out.fr fs (by simp [Value.ownBlock])) (slice_sl _ _ _) (by decide)).mono ?_
  rintro e w3 ⟨rfl, hg3, hf⟩
  have HG3 := Lib.hid (show Gt w3 w.heap.size ⟨6, 0, 1, 5⟩ from hg3)
  have hfa := HF2.out.comb (U := []) fs (by simp) (by simp; have := HF.out.size; omega)
  have HF3 := Lib.hid (hfa.comb (U := []) hf (by simp) (by simp))
  clear hg3 hf hfa fs hlt
  rw [show freshB ⟨0, 0, 0, 5⟩ ⟨6, 0, 1, [1]⟩ = true by decide]
  go_wp2_with fail
  refine (epoch_any w.heap.size ⟨6, 0, 1, 5⟩ _ HG3.out).mono ?_
  rintro e w4 ⟨rfl, hf⟩
  have hfld := efld0
  go_wp2
  go_ret
  exact ⟨rfl, HF3.out.trans hf⟩
end Go.Proofs.Ytlkpgpiklfbacaa
