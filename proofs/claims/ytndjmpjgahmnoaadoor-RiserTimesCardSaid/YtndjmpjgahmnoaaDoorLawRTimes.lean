/- The law of times: lit, cleared and lit again it is lit for one time more; what was lit an elder time clears nothing: its walk. -/
import Derived.Test.YtndjmpjgahmnoaaDoorRFirst
import Derived.Test.YtndjmpjgahmnoaaDoorNum
import Derived.Deep.DeepCutAuto
import Derived.Deep.CutBlock
namespace Go.Proofs.YtndjmpjgahmnoaaDoor
open Go.RowKit

/-- One button alone: lit or not, so many times. -/
def stT (n k : Nat) (b : Bool) (g : Int) : RS := ⟨n, updB (fun _ => false) k b, updG (fun _ => 0) k g⟩
theorem stT_zero (n k : Nat) : stT n k false 0 = zS n := by
  unfold stT zS
  congr 1
  · funext j; by_cases e : j = k <;> simp [updB, e]
  · funext j; by_cases e : j = k <;> simp [updG, e]
theorem stT_press (n k : Nat) (g : Int) : (stT n k false g).press k = stT n k true (g + 1) := by
  unfold stT RS.press
  congr 1
  · funext j; by_cases e : j = k <;> simp [updB, e]
  · funext j; by_cases e : j = k <;> simp [updG, e]
theorem stT_clear (n k : Nat) (g : Int) : (stT n k true g).clear k = stT n k false g := by
  unfold stT RS.clear
  congr 1
  funext j; by_cases e : j = k <;> simp [updB, e]
theorem stT_L (n k : Nat) (b : Bool) (g : Int) : (stT n k b g).L k = b := by simp [stT, updB]
theorem stT_G (n k : Nat) (b : Bool) (g : Int) : (stT n k b g).G k = g := by simp [stT, updG]
theorem stT_ok {n k : Nat} {f d : Int} (b : Bool) (g : Int) (hn : n ≤ 64) (hk : Key n f d k) : (stT n k b g).ok := by
  refine ⟨hn, fun j hj => ?_⟩
  by_cases e : j = k
  · subst e; exact ⟨hk.lo, hk.hi⟩
  · simp [stT, updB, e] at hj
theorem stT_is {n k : Nat} {f d : Int} (hk : Key n f d k) (b : Bool) (g x : Int) : (stT n k b g).isB f d x = (b && decide (g = x)) := by
  unfold RS.isB
  rw [show (stT n k b g).n = n from rfl, hk.may, hk.is, stT_L, stT_G]
  simp
theorem stT_gen {n k : Nat} {f d : Int} (hk : Key n f d k) (b : Bool) (g : Int) : (stT n k b g).genB f d = g := by
  unfold RS.genB
  rw [show (stT n k b g).n = n from rfl, hk.may, hk.is, stT_G]
  simp
theorem stT_none (n k : Nat) (g : Int) : (stT n k false g).lit.length = 0 := by
  rw [lit_cnt]
  have : (stT n k false g).L = fun _ => false := by
    funext j; by_cases e : j = k <;> simp [stT, updB, e]
  rw [this, cnt_zero]
theorem stT_one {n k : Nat} (g : Int) (hk : k + 1 < 2 * n) : (stT n k true g).lit.length = 1 := by
  rw [lit_cnt]
  show cntTo (updB (fun _ => false) k true) (2 * n) = 1
  rw [cnt_up _ k rfl _ (by omega), cnt_zero]

theorem number_add (x : Int) (F : Nat) (hF : F ≤ 1000) (h : (Lit.int .i64 x).wf = true) : ∃ k : Nat, k < F + 2 ∧ ∀ w : World, Calls Tryd.prog 26 #[.int .i64 x, .int .i64 ((F : Int) + 2)] w fun e w' => e = .returned (.int .i64 (k : Int)) ∧ w = w' := by
  obtain ⟨k, hk, _, hh⟩ := numberTo_nat x (F + 2) (by omega) (by omega) h
  have e : ((F + 2 : Nat) : Int) = (F : Int) + 2 := by omega
  rw [e] at hh
  exact ⟨k, hk, hh⟩
set_option maxHeartbeats 2000000 in
set_option maxRecDepth 100000 in
theorem rtimes_walk (x0 x1 x2 x3 : Int) (h0 : (Lit.int .i64 x0).wf = true) (h1 : (Lit.int .i64 x1).wf = true) (h2 : (Lit.int .i64 x2).wf = true) (h3 : (Lit.int .i64 x3).wf = true) (w : World) :
    Calls Tryd.prog 5 #[.int .i64 x0, .int .i64 x1, .int .i64 x2, .int .i64 x3] w fun e w' => e = .returned (.bool true) ∧ w.grownBy w' none := by
  obtain ⟨F, hF, _, hn0⟩ := numberTo_nat x0 63 (by omega) (by omega) h0
  obtain ⟨N, hN, _, hn1⟩ := numberTo_nat x1 20 (by omega) (by omega) h1
  obtain ⟨a, ha, hn2⟩ := number_add x2 F (by omega) h2
  obtain ⟨b, hb, _, hn3⟩ := numberTo_nat x3 2 (by omega) (by omega) h3
  have N0 := Lib.hid hn0
  have N1 := Lib.hid hn1
  have N2 := Lib.hid hn2
  have N3 := Lib.hid hn3
  clear hn0 hn1 hn2 hn3 h0 h1 h2 h3
  go_enter Tryd.func5, Tryd.ntmps5
  go_wp2_with fail
  refine (first_any _).mono ?_
  rintro e w1 ⟨rfl, hf⟩
  have F1 := Lib.hid hf
  clear hf
  go_wp2_with fail
  refine (N0.out _).mono ?_
  rintro e w2 ⟨rfl, rfl⟩
  go_wp2_with fail
  refine (N1.out _).mono ?_
  rintro e w2 ⟨rfl, rfl⟩
  go_wp2_with fail
  refine (N2.out _).mono ?_
  rintro e w2 ⟨rfl, rfl⟩
  go_wp2_with fail
  refine (N3.out _).mono ?_
  rintro e w2 ⟨rfl, rfl⟩
  have C0 := Lib.hid (heap_alloc_new w1 (.cells #[.int .i64 (a : Int), .int .i64 (2 * (b : Int) - 1)] 24))
  have F2 := Lib.hid (F1.out.trans (Fr.alloc w1 (.cells #[.int .i64 (a : Int), .int .i64 (2 * (b : Int) - 1)] 24) []))
  have HP := Lib.hid F1.out.size
  go_wp2_with fail
  refine (new_at (F + 2) _ (by omega) (by omega) (by omega) _).mono ?_
  rintro e w3 ⟨rfl, hs, hf⟩
  obtain ⟨p, hp⟩ : ∃ p, p = (w1.alloc (.cells #[.int .i64 (a : Int), .int .i64 (2 * (b : Int) - 1)] 24)).heap.size := ⟨_, rfl⟩
  rw [← hp] at hs ⊢
  have HPP := Lib.hid (show w.heap.size ≤ p ∧ w1.heap.size < p by have := HP.out; rw [hp]; simp; omega)
  have S3 := Lib.hid hs
  have F3 := Lib.hid (F2.out.trans hf)
  have C3 := Lib.hid (hf.heap C0.out (by simp))
  obtain ⟨q0, q1⟩ := row2 C3.out
  clear hs hf hp
  by_cases hmay : mayB (F + 2) (a : Int) (2 * (b : Int) - 1) = true
  · have HK := Lib.hid (may_key hmay)
    obtain ⟨k, hk⟩ : ∃ k, k = keyN (a : Int) (2 * (b : Int) - 1) := ⟨_, rfl⟩
    rw [← hk] at HK
    clear hk
    go_wp2_with fail
    refine (may_at (F + 2) _ (by omega) (by omega) _ _ _ _ hmay).mono ?_
    rintro e w4 ⟨rfl, hf⟩
    have S4 := Lib.hid (show Rs w4 p (stT (F + 2) k false 0) by rw [stT_zero]; exact S3.out.keep hf)
    have F4 := Lib.hid (F3.out.trans hf)
    have C4 := Lib.hid (hf.heap C3.out (by simp))
    clear hf hmay q0 q1 S3 F3 C3 C0 F2 F1
    go_wp2
    go_loopw [15] (fun i wr => ∃ m : Nat, m ≤ N + 1 ∧ i = .int .i64 ((m : Int) + 1) ∧ Rs wr p (stT (F + 2) k (decide (m = N + 1)) (m : Int)) ∧ wr.heap[w1.heap.size]? = some (.cells #[.int .i64 (a : Int), .int .i64 (2 * (b : Int) - 1)] 24 (0, 0)) ∧ Fr w wr []) (fun i _ => N + 3 - (intOf i).toNat)
    case atStart => exact ⟨0, by omega, rfl, by rw [decide_eq_false (by omega)]; exact S4.out, C4.out, F4.out⟩
    case round =>
      obtain ⟨m, hm, rfl, hs, hc, hf⟩ := hrel
      have S5 := Lib.hid hs
      have C5 := Lib.hid hc
      have F5 := Lib.hid hf
      obtain ⟨q0, q1⟩ := row2 hc
      clear hs hc hf S4 C4 F4
      by_cases hlt : m < N + 1
      · have S5' := S5.out
        rw [decide_eq_false (by omega : ¬ m = N + 1)] at S5'
        have h1 := press_yes p (stT (F + 2) k false (m : Int)) (a : Int) (2 * (b : Int) - 1) k wr S5' (by show F + 2 ≤ 64; omega) HK.out (stT_L _ _ _ _) (by rw [stT_G]; omega) (by rw [stT_G]; omega)
        rw [stT_G, stT_press] at h1
        have H1 := Lib.hid h1
        clear h1 S5'
        go_wp2_with fail
        refine H1.out.mono ?_
        rintro e w5 ⟨rfl, hs, hf⟩
        have hpp := HPP.out
        have A5 := Lib.hid (Fr.alloc w5 (.cells #[.int .i64 (a : Int), .int .i64 (2 * (b : Int) - 1), .int .i64 ((m : Int) + 1)] 32) [])
        have S6 := Lib.hid (hs.keep A5.out)
        have F6 := Lib.hid ((F5.out.new hf (by simp; omega)).trans A5.out)
        have C6 := Lib.hid (A5.out.heap (hf.heap C5.out (by simp; omega)) (by simp))
        have R6 := Lib.hid (heap_alloc_new w5 (.cells #[.int .i64 (a : Int), .int .i64 (2 * (b : Int) - 1), .int .i64 ((m : Int) + 1)] 32))
        have HPL := Lib.hid (show p < w5.heap.size from hs.lt)
        obtain ⟨q0, q1⟩ := row2 C6.out
        obtain ⟨r0, r1, r2⟩ := row3 R6.out
        clear hs hf H1 hpp
        go_wp2_with fail
        refine (clear_no p _ _ _ _ _ S6.out (by show F + 2 ≤ 64; omega) (by rw [stT_is HK.out]; simp <;> omega)).mono ?_
        rintro e w6 ⟨rfl, hf⟩
        have S7 := Lib.hid (S6.out.keep hf)
        have F7 := Lib.hid (F6.out.trans hf)
        have C7 := Lib.hid (hf.heap C6.out (by simp))
        have R7 := Lib.hid (hf.heap R6.out (by simp))
        clear hf q0 q1 r0 r1 r2
        obtain ⟨r0, r1, r2⟩ := row3 R7.out
        go_wp2_with fail
        refine (is_any p _ _ _ _ _ S7.out (by show F + 2 ≤ 64; omega) true (by rw [stT_is HK.out]; simp)).mono ?_
        rintro e w7 ⟨rfl, hf⟩
        have S8 := Lib.hid (S7.out.keep hf)
        have F8 := Lib.hid (F7.out.trans hf)
        have C8 := Lib.hid (hf.heap C7.out (by simp))
        have R8 := Lib.hid (hf.heap R7.out (by simp))
        clear hf r0 r1 r2
        obtain ⟨r0, r1, r2⟩ := row3 R8.out
        by_cases hend : m < N
        · go_wp2_with fail
          refine (clear_yes p _ _ _ k _ _ S8.out (by show F + 2 ≤ 64; omega) HK.out (stT_L _ _ _ _) (stT_G _ _ _ _)).mono ?_
          rintro e w8 ⟨rfl, hs, hf⟩
          have hpp := HPP.out
          have hz5 := F5.out.size
          rw [stT_clear] at hs
          have S9 := Lib.hid hs
          have F9 := Lib.hid (F8.out.new hf (by simp; omega))
          have C9 := Lib.hid (hf.heap C8.out (by simp; omega))
          have R9 := Lib.hid (hf.heap R8.out (by have := HPL.out; simp; omega))
          clear hs hf hpp hz5 r0 r1 r2
          obtain ⟨r0, r1, r2⟩ := row3 R9.out
          go_wp2_with fail
          refine (clear_no p _ _ _ _ _ S9.out (by show F + 2 ≤ 64; omega) (by rw [stT_is HK.out]; rfl)).mono ?_
          rintro e w9 ⟨rfl, hf⟩
          have S10 := Lib.hid (S9.out.keep hf)
          have F10 := Lib.hid (F9.out.trans hf)
          have C10 := Lib.hid (hf.heap C9.out (by simp))
          clear hf r0 r1 r2
          go_wp2_with fail
          refine (lit_any p _ _ S10.out (stT_ok _ _ (by omega) HK.out)).mono ?_
          rintro e w10 ⟨u, rfl, ho, hf⟩
          obtain ⟨ad, cp, rfl⟩ := ho.shape
          rw [stT_none]
          have S11 := Lib.hid (S10.out.keep hf)
          have F11 := Lib.hid (F10.out.trans hf)
          have C11 := Lib.hid (hf.heap C10.out (by simp))
          clear ho hf
          go_wp2
          go_roundw
          case rel => exact ⟨m + 1, by omega, by go_num, by rw [decide_eq_false (by omega)]; exact S11.out, C11.out, F11.out⟩
          case measure => simp [intOf]; omega
        · obtain rfl : m = N := by omega
          clear r0 r1 r2
          go_wp2
          go_roundw
          case rel => exact ⟨m + 1, by omega, by go_num, by rw [decide_eq_true rfl]; exact S8.out, C8.out, F8.out⟩
          case measure => simp [intOf]; omega
      · obtain rfl : m = N + 1 := by omega
        have S6 := S5.out
        rw [decide_eq_true rfl] at S6
        have H6 := Lib.hid S6
        clear S6
        go_wp2_with fail
        refine (lit_any p _ _ H6.out (stT_ok _ _ (by omega) HK.out)).mono ?_
        rintro e w6 ⟨u, rfl, ho, hf⟩
        obtain ⟨ad, cp, rfl⟩ := ho.shape
        rw [stT_one _ HK.out.hi]
        have S7 := Lib.hid (H6.out.keep hf)
        have F7 := Lib.hid (F5.out.trans hf)
        obtain ⟨q0, q1⟩ := row2 (hf.heap C5.out (by simp))
        clear ho hf
        have HG := gen_any p _ (a : Int) (2 * (b : Int) - 1) w6 S7.out (by show F + 2 ≤ 64; omega)
        rw [stT_gen HK.out] at HG
        have H8 := Lib.hid HG
        clear HG
        go_wp2_with fail
        refine H8.out.mono ?_
        rintro e w7 ⟨rfl, hf⟩
        have F8 := Lib.hid (F7.out.trans hf)
        clear hf H8
        go_wp2
        go_ret
        exact ⟨rfl, F8.out.grown (by simp)⟩
  · have hm2 : mayB (F + 2) (a : Int) (2 * (b : Int) - 1) = false := by simpa using hmay
    have hcase : (a = 0 ∧ b = 0) ∨ (a = F + 1 ∧ b = 1) := by
      simp [mayB] at hm2
      omega
    have HM := Lib.hid hm2
    clear hmay hm2
    go_wp2_with fail
    refine (may_at (F + 2) _ (by omega) (by omega) _ _ _ _ HM.out).mono ?_
    rintro e w4 ⟨rfl, hf⟩
    have S4 := Lib.hid (S3.out.keep hf)
    have F4 := Lib.hid (F3.out.trans hf)
    have C4 := Lib.hid (hf.heap C3.out (by simp))
    clear hf q0 q1
    obtain ⟨q0, q1⟩ := row2 C4.out
    go_wp2_with fail
    refine (press_no p _ _ _ _ S4.out (by show F + 2 ≤ 64; omega) (by rw [show (zS (F + 2)).n = F + 2 from rfl, HM.out]; rfl)).mono ?_
    rintro e w5 ⟨rfl, hf⟩
    have A5 := Lib.hid (Fr.alloc w5 (.cells #[.int .i64 0, .int .i64 0, .int .i64 0] 32) [])
    have F5 := Lib.hid ((F4.out.trans hf).trans A5.out)
    have C5 := Lib.hid (A5.out.heap (hf.heap C4.out (by simp)) (by simp))
    clear hf q0 q1
    obtain ⟨q0, q1⟩ := row2 C5.out
    rcases hcase with ⟨rfl, rfl⟩ | ⟨rfl, rfl⟩
    · go_wp2
      go_ret
      exact ⟨rfl, F5.out.grown (by simp)⟩
    · go_wp2
      go_ret
      exact ⟨rfl, F5.out.grown (by simp)⟩
end Go.Proofs.YtndjmpjgahmnoaaDoor
