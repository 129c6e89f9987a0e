/- The law of floors: whatever was taken, a gate that is made anew with that count as its floor takes none of it again, nor founds it; the next count it does: its walk. -/
import Derived.Test.YtlkpgpiklfbacaaGFirst
import Derived.IntWalk
namespace Go.Proofs.Ytlkpgpiklfbacaa
open Go.RowKit

theorem ep_ok {c f : Int} (h1 : 1 ≤ c) (h2 : c ≤ 4294967295) (h3 : 0 ≤ f) (h4 : f < 16) : epOk c f = true := by simp only [epOk, decide_eq_true_eq]; omega
theorem would_new {fl c f h car : Int} (hok : epOk c f = true) (hgt : fl < c) : wouldB ⟨0, 0, 0, fl⟩ car car ⟨c, f, h, [car]⟩ = true := by
  have hl : epLt 0 0 c f = true := by
    simp only [epOk, decide_eq_true_eq] at hok
    simp only [epLt, decide_eq_true_eq]
    omega
  unfold wouldB allowsB
  dsimp only
  rw [hok, hl, decide_eq_true hgt, decide_eq_true rfl, decide_eq_true (show car ∈ [car] by simp)]
  rfl
theorem would_low {s : GS} {r : RN} {car to : Int} (h : ¬ s.fl < r.c) : wouldB s car to r = false := by
  unfold wouldB allowsB
  rw [decide_eq_false h]
  simp
theorem fnd_low {s : GS} {c f : Int} (h : ¬ s.fl < c) : fndB s c f = false := by
  unfold fndB allowsB
  rw [decide_eq_false h]
  simp

set_option maxHeartbeats 4000000 in
set_option maxRecDepth 100000 in
theorem gfloors_walk (c f0 h0 car0 : Int) (hw0 : (Lit.int .i64 c).wf = true) (hw1 : (Lit.int .i64 f0).wf = true) (hw2 : (Lit.int .i64 h0).wf = true) (hw3 : (Lit.int .i64 car0).wf = true) (w : World) :
    Calls Try.prog 3 #[.int .i64 c, .int .i64 f0, .int .i64 h0, .int .i64 car0] w fun e w' => e = .returned (.bool true) ∧ w.grownBy w' none := by
  have b0 := bounds_i64 hw0
  have b1 := bounds_i64 hw1
  have b2 := bounds_i64 hw2
  have b3 := bounds_i64 hw3
  have HN1 := Lib.hid (fun W => numberTo_any f0 16 W (by omega) (by omega) b1.1 b1.2)
  have HN2 := Lib.hid (fun W => numberTo_any h0 99 W (by omega) (by omega) b2.1 b2.2)
  have HN3 := Lib.hid (fun W => numberTo_any car0 16 W (by omega) (by omega) b3.1 b3.2)
  obtain ⟨f, hf⟩ : ∃ f, f0 % 16 = f := ⟨_, rfl⟩
  obtain ⟨h, hh⟩ : ∃ h, h0 % 99 = h := ⟨_, rfl⟩
  obtain ⟨car, hcar⟩ : ∃ car, car0 % 16 = car := ⟨_, rfl⟩
  have hfb : 0 ≤ f ∧ f < 16 := by omega
  rw [hf] at HN1
  rw [hh] at HN2
  rw [hcar] at HN3
  clear hf hh hcar hw0 hw1 hw2 hw3 b1 b2 b3
  by_cases hc1 : c < 1
  · have hd : decide (c < 1) = true := by simp [hc1]
    go_enter Try.func3, Try.ntmps3
    go_wp2_with fail
    refine (first_any _).mono ?_
    rintro e w1 ⟨rfl, hf⟩
    go_wp2
    go_ret
    exact ⟨rfl, hf.grown (by simp)⟩
  · have hd : decide (c < 1) = false := by simp [hc1]
    by_cases hc2 : 4294967295 ≤ c
    · go_enter Try.func3, Try.ntmps3
      go_wp2_with fail
      refine (first_any _).mono ?_
      rintro e w1 ⟨rfl, hf⟩
      go_wp2
      go_ret
      exact ⟨rfl, hf.grown (by simp)⟩
    · have hok := ep_ok (c := c) (f := f) (by omega) (by omega) hfb.1 hfb.2
      have hok1 := ep_ok (c := c + 1) (f := f) (by omega) (by omega) hfb.1 hfb.2
      have HT := Lib.hid (would_new (fl := c - 1) (h := h) (car := car) hok (by omega))
      have HT1 := Lib.hid (would_new (fl := c) (h := h) (car := car) hok1 (by omega))
      have HFR : Hid (freshB ⟨0, 0, 0, c - 1⟩ ⟨c, f, h, [car]⟩ = true) := by
        show _ = _
        unfold freshB
        dsimp only
        rw [decide_eq_false (by omega)]
        rfl
      have hs1 : IntKind.i64.wrap (c - 1) = c - 1 := IntWalk.i64_in _ (by omega)
      have hs2 : IntKind.i64.wrap (c + 1) = c + 1 := IntWalk.i64_in _ (by omega)
      have hm1 : max (c - 1) 0 = c - 1 := by omega
      have hm2 : max c 0 = c := by omega
      have HM := Lib.hid (And.intro hm1 hm2)
      have HC := Lib.hid (And.intro hc1 hc2)
      clear hok hok1 b0 hfb hm1 hm2
      go_enter Try.func3, Try.ntmps3
      go_wp2_with fail
      refine (first_any _).mono ?_
      rintro e w1 ⟨rfl, hf⟩
      have HF1 := Lib.hid hf
      clear hf
      go_wp2_with fail
      refine (HN1.out _).mono ?_
      rintro e w' ⟨rfl, rfl⟩
      go_wp2_with fail
      refine (HN3.out _).mono ?_
      rintro e w' ⟨rfl, rfl⟩
      go_wp2_with fail
      refine (HN2.out _).mono ?_
      rintro e w' ⟨rfl, rfl⟩
      have HB := two_new w1 (.cells #[.int .i64 car] 3) (.cells #[.int .i64 c, .int .i64 f, .int .i64 h, .slice (some ⟨w1.heap.size, 0, none⟩) 1 1, .slice none 0 0] 29)
      have FA := Lib.hid ((Fr.alloc w1 (.cells #[.int .i64 car] 3) []).trans (Fr.alloc (w1.alloc (.cells #[.int .i64 car] 3)) (.cells #[.int .i64 c, .int .i64 f, .int .i64 h, .slice (some ⟨w1.heap.size, 0, none⟩) 1 1, .slice none 0 0] 29) []))
      have HI := Lib.hid (one_ints HB.1)
      have HR := Lib.hid HB.2
      clear HB
      have hnew := new_any (c - 1) ((w1.alloc (.cells #[.int .i64 car] 3)).alloc (.cells #[.int .i64 c, .int .i64 f, .int .i64 h, .slice (some ⟨w1.heap.size, 0, none⟩) 1 1, .slice none 0 0] 29))
      rw [show ((w1.alloc (.cells #[.int .i64 car] 3)).alloc (.cells #[.int .i64 c, .int .i64 f, .int .i64 h, .slice (some ⟨w1.heap.size, 0, none⟩) 1 1, .slice none 0 0] 29)).heap.size = w1.heap.size + 2 by simp, HM.out.1] at hnew
      have HNW := Lib.hid hnew
      clear hnew
      go_wp2_with fail
      refine HNW.out.mono ?_
      rintro e w2 ⟨rfl, hg, hf⟩
      have HG2 := Lib.hid hg
      have HI2 := Lib.hid (HI.out.keep hf)
      have HR2 := Lib.hid (hf.heap HR.out (by simp))
      have HF2 := Lib.hid ((HF1.out.trans FA.out).trans hf)
      clear hg hf
      obtain ⟨r0, r1, r2, r3, r4⟩ := row5 HR2.out
      go_wp2_with fail
      refine (take_yes (w1.heap.size + 2) ⟨0, 0, 0, c - 1⟩ car car ⟨c, f, h, [car]⟩ _ _ _ HG2.out HI2.out (slice_sl _ _ _) HT.out).mono ?_
      rintro e w3 ⟨rfl, hg, hf⟩
      rw [HFR.out]
      have HG3 := Lib.hid (show Gt w3 (w1.heap.size + 2) ⟨c, f, h, c - 1⟩ from hg)
      have HI3 := Lib.hid (HI2.out.fr hf (by simp [Value.ownBlock]))
      have HR3 := Lib.hid (hf.heap HR2.out (by simp))
      have HF3 := Lib.hid (HF2.out.new hf (by simp; have := HF1.out.size; omega))
      clear hg hf r0 r1 r2 r3 r4
      go_wp2_with fail
      refine (epoch_any (w1.heap.size + 2) ⟨c, f, h, c - 1⟩ w3 HG3.out).mono ?_
      rintro e w4 ⟨rfl, hf⟩
      have HI4 := Lib.hid (HI3.out.keep hf)
      have HR4 := Lib.hid (hf.heap HR3.out (by simp))
      have HF4 := Lib.hid (HF3.out.trans hf)
      have hlt4 := hf.size
      have hlt3 := HG3.out.lt
      have HPN : Hid (w1.heap.size + 2 < w4.heap.size) := Nat.lt_of_lt_of_le hlt3 hlt4
      clear hf hlt4 hlt3
      have hfld := efld0
      go_wp2_with fail
      refine (new_any c w4).mono ?_
      rintro e w5 ⟨rfl, hg, hf⟩
      rw [HM.out.2] at hg
      clear hfld
      have HG5 := Lib.hid hg
      have HI5 := Lib.hid (HI4.out.keep hf)
      have HR5 := Lib.hid (hf.heap HR4.out (by simp))
      have HF5 := Lib.hid (HF4.out.trans hf)
      clear hg hf
      obtain ⟨r0, r1, r2, r3, r4⟩ := row5 HR5.out
      go_wp2_with fail
      refine (take_no w4.heap.size ⟨0, 0, 0, c⟩ car car ⟨c, f, h, [car]⟩ _ _ _ HG5.out HI5.out (slice_sl _ _ _) (would_low (by dsimp only; omega))).mono ?_
      rintro e w6 ⟨rfl, hf⟩
      have HG6 := Lib.hid (HG5.out.keep hf)
      have HI6 := Lib.hid (HI5.out.keep hf)
      have HR6 := Lib.hid (hf.heap HR5.out (by simp))
      have HF6 := Lib.hid (HF5.out.trans hf)
      clear hf r0 r1 r2 r3 r4
      obtain ⟨r0, r1, r2, r3, r4⟩ := row5 HR6.out
      go_wp2_with fail
      refine (found_no w4.heap.size ⟨0, 0, 0, c⟩ c f _ HG6.out (fnd_low (by dsimp only; omega))).mono ?_
      rintro e w7 ⟨rfl, hf⟩
      have HG7 := Lib.hid (HG6.out.keep hf)
      have HI7 := Lib.hid (HI6.out.keep hf)
      have HR7 := Lib.hid (hf.heap HR6.out (by simp))
      have HF7 := Lib.hid (HF6.out.trans hf)
      clear hf r0 r1 r2 r3 r4
      go_wp2_with fail
      refine (found_no w4.heap.size ⟨0, 0, 0, c⟩ c 15 _ HG7.out (fnd_low (by dsimp only; omega))).mono ?_
      rintro e w8 ⟨rfl, hf⟩
      have HG8 := Lib.hid (HG7.out.keep hf)
      have HI8 := Lib.hid (HI7.out.keep hf)
      have HR8 := Lib.hid (hf.heap HR7.out (by simp))
      have HF8 := Lib.hid (HF7.out.trans hf)
      clear hf
      obtain ⟨r0, r1, r2, r3, r4⟩ := row5 HR8.out
      have i0 := frozen_of_row w8 _ 0 _ _ HR8.out
      go_wp2_with fail
      have fs := Fr.setCell w8 (w1.heap.size + 1) 0 (.int .i64 (c + 1)) (S := [w1.heap.size + 1]) (by simp)
      have HG9 := Lib.hid (HG8.out.fr fs (by have := HPN.out; simp; omega))
      refine (would_any w4.heap.size ⟨0, 0, 0, c⟩ car car ⟨c + 1, f, h, [car]⟩ _ _ _ HG9.out (HI8.out.fr fs (by simp [Value.ownBlock])) (slice_sl _ _ _) true HT1.out).mono ?_
      rintro e w9 ⟨rfl, hf⟩
      have HG10 := Lib.hid (HG9.out.keep hf)
      have hfa := HF8.out.comb (U := []) fs (by simp) (by simp; have := HF1.out.size; omega)
      have HF10 := Lib.hid (hfa.trans hf)
      clear hf hfa fs i0 r0 r1 r2 r3 r4
      go_wp2_with fail
      refine (floor_any w4.heap.size ⟨0, 0, 0, c⟩ _ HG10.out).mono ?_
      rintro e w' ⟨rfl, rfl⟩
      go_wp2_with fail
      refine (epoch_any w4.heap.size ⟨0, 0, 0, c⟩ _ HG10.out).mono ?_
      rintro e w11 ⟨rfl, hf⟩
      have hfld := efld0
      go_wp2
      go_ret
      exact ⟨rfl, (HF10.out.trans hf).grown (by simp)⟩
end Go.Proofs.Ytlkpgpiklfbacaa
