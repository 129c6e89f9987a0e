/- CallsGens: of one call the latch that was put last counts; one that is deleted is gone. -/
import Derived.Test.YtfopmpaoigdelaaKFirst
import Derived.Test.YtfopmpaoigdelaaLSame
namespace Go.Proofs.Ytfopmpaoigdelaa
open Go.RowKit

theorem Fr.low {w w' : World} {S : List Nat} {q k : Nat} {o : Obj} (h : Fr w w' S) (hS : ∀ r ∈ S, q ≤ r) (hk : k < q) (ho : w.heap[k]? = some o) : w'.heap[k]? = some o :=
  h.heap ho (fun hm => by have := hS k hm; omega)
def ca2 (f d : Int) : Obj := .cells #[.int .i64 f, .int .i64 d] 23 (0, 0)
/-- The three boxes. -/
def genW (w : World) (a b : La) (f d : Int) : World := ((w.alloc a.row).alloc b.row).alloc (ca2 f d)
theorem genW_fr (w : World) (a b : La) (f d : Int) : Fr w (genW w a b f d) [] := ((Fr.alloc w _ []).trans (Fr.alloc _ _ [])).trans (Fr.alloc _ _ [])
theorem genW_rows (w : World) (a b : La) (f d : Int) : (genW w a b f d).heap[w.heap.size]? = some a.row ∧ (genW w a b f d).heap[w.heap.size + 1]? = some b.row ∧ (genW w a b f d).heap[w.heap.size + 1 + 1]? = some (ca2 f d) := by
  have h1 := heap_alloc_new w a.row
  have h2 := heap_alloc_new (w.alloc a.row) b.row
  have h3 := heap_alloc_new ((w.alloc a.row).alloc b.row) (ca2 f d)
  rw [show (w.alloc a.row).heap.size = w.heap.size + 1 by simp] at h2
  rw [show ((w.alloc a.row).alloc b.row).heap.size = w.heap.size + 2 by simp] at h3
  exact ⟨(Fr.alloc _ (ca2 f d) []).heap ((Fr.alloc _ b.row []).heap h1 (by simp)) (by simp), (Fr.alloc _ (ca2 f d) []).heap h2 (by simp), h3⟩
set_option maxHeartbeats 1000000 in
set_option maxRecDepth 100000 in
theorem gens_true (a b : La) (f d : Int) (w : World) : Calls Try.prog 3 #[.agg #[.int .i64 a.f, .int .i64 a.d, .int .i64 a.g], .agg #[.int .i64 b.f, .int .i64 b.d, .int .i64 b.g], .agg #[.int .i64 f, .int .i64 d]] w fun e w' => e = .returned (.bool true) ∧ Fr w w' [] := by
  have HF0 := Lib.hid (genW_fr w a b f d)
  obtain ⟨r0, r1, r2⟩ := genW_rows w a b f d
  have R0 := Lib.hid r0
  have R1 := Lib.hid r1
  have R2 := Lib.hid r2
  clear r0 r1 r2
  go_enter Try.func3, Try.ntmps3
  go_wp2_with fail
  refine (first_any _).mono ?_
  rintro e w1 ⟨rfl, hf⟩
  have HF1 := Lib.hid (HF0.out.trans hf)
  have A1 := Lib.hid (hf.heap R0.out (by simp))
  have B1 := Lib.hid (hf.heap R1.out (by simp))
  have C1 := Lib.hid (hf.heap R2.out (by simp))
  obtain ⟨a0, a1, a2⟩ := box3_call A1.out
  obtain ⟨b0, b1, b2⟩ := box3_call B1.out
  have z := fun i => frozen_of_row w1 _ i _ _ B1.out
  have z0 := z 0
  have z1 := z 1
  have hW : Fr w1 ((w1.setCell ⟨w.heap.size + 1, 0, none⟩ (.int .i64 a.f)).setCell ⟨w.heap.size + 1, 1, none⟩ (.int .i64 a.d)) [w.heap.size + 1] := (Fr.setCell w1 _ 0 _ (by simp)).trans (Fr.setCell _ _ 1 _ (by simp))
  have hB : ((w1.setCell ⟨w.heap.size + 1, 0, none⟩ (.int .i64 a.f)).setCell ⟨w.heap.size + 1, 1, none⟩ (.int .i64 a.d)).heap[w.heap.size + 1]? = some (La.row ⟨a.f, a.d, b.g⟩) :=
    heap_setCell_same _ _ 1 _ _ _ (heap_setCell_same w1 _ 0 _ _ _ B1.out)
  obtain ⟨W1, hW1⟩ : ∃ W1, W1 = ((w1.setCell ⟨w.heap.size + 1, 0, none⟩ (.int .i64 a.f)).setCell ⟨w.heap.size + 1, 1, none⟩ (.int .i64 a.d)) := ⟨_, rfl⟩
  have hsz : W1.heap.size = w1.heap.size := by rw [hW1]; simp
  rw [← hW1] at hW hB
  have hA := hW.heap A1.out (by simp)
  have hC := hW.heap C1.out (by simp)
  have hle : w.heap.size + 1 + 1 < w1.heap.size := size_of_row C1.out
  have HF2 := Lib.hid (HF1.out.new hW (by simp))
  have hAl := Fr.alloc W1 (.cells #[.slice none 0 0] 29) []
  have A2 := Lib.hid (hAl.heap hA (by simp))
  have B2 := Lib.hid (hAl.heap hB (by simp))
  have C2 := Lib.hid (hAl.heap hC (by simp))
  have HF3 := Lib.hid (HF2.out.trans hAl)
  obtain ⟨q, hq⟩ : ∃ q, q = w1.heap.size := ⟨_, rfl⟩
  have HQN := Lib.hid (show w.heap.size + 1 + 1 < q by omega)
  have HQ := Lib.hid hq
  rw [← hq] at hsz
  have HS2 := Lib.hid (Ss.new W1 q)
  have hqs : q ≤ (W1.alloc (.cells #[.slice none 0 0] 29)).heap.size := by rw [← hsz]; simp
  rw [hsz] at HS2
  obtain ⟨c0, c1, c2⟩ := box3_call A2.out
  have HP1 := Lib.hid (putS_any q q _ [] a _ HS2.out hqs (by simp) true rfl)
  have HQS := Lib.hid hqs
  rw [hW1] at c0 c1 c2 HP1
  have HW1 := Lib.hid hW1
  clear hf z hW hB hA hC hle hAl hsz hq hW1 hqs
  go_wp2_with fail
  rw [← HQ.out]
  refine HP1.out.mono ?_
  rintro e w2 ⟨rfl, s1, hs1, hf1, _⟩
  rw [← HW1.out] at hf1
  have hlow := sbs_new HS2.out (Nat.le_refl q) (Nat.le_refl q)
  have A3 := Lib.hid (hf1.low hlow (by have := HQN.out; omega) A2.out)
  have B3 := Lib.hid (hf1.low hlow (by have := HQN.out; omega) B2.out)
  have C3 := Lib.hid (hf1.low hlow (by have := HQN.out; omega) C2.out)
  have HF4 := Lib.hid (HF3.out.new hf1 (fun r hr => by have := hlow r hr; have := HQN.out; omega))
  have HS3 := Lib.hid (show Ss w2 q q s1 [a] from hs1)
  have HB3 := Lib.hid (show q ≤ w2.heap.size from Nat.le_trans HQS.out hf1.size)
  obtain ⟨d0, d1, d2⟩ := box3_call B3.out
  have hhas : hasL [a] a.f a.d = true := has_iff.2 ⟨a, by simp, rfl, rfl⟩
  have hput : putL [a] ⟨a.f, a.d, b.g⟩ = [⟨a.f, a.d, b.g⟩] := by
    have := (HS3.out.2.2.put_yes ⟨a.f, a.d, b.g⟩ hhas).1
    rw [this]
    have hp := (HS3.out.2.2.put_yes ⟨a.f, a.d, b.g⟩ hhas).2
    have : posL [a] a.f a.d = 0 := by simpa using hp
    show [a].set (posL [a] a.f a.d) _ = _
    rw [this]
    rfl
  have HP2 := Lib.hid (putS_any q q _ [a] ⟨a.f, a.d, b.g⟩ w2 HS3.out HB3.out (by simp) false (by rw [hhas]; rfl))
  rw [hput] at HP2
  clear hs1 hf1 hlow hhas hput a0 a1 a2 b0 b1 b2 c0 c1 c2 z0 z1
  go_wp2_with fail
  refine HP2.out.mono ?_
  rintro e w3 ⟨rfl, s2, hs2, hf2, _⟩
  have hlow := sbs_new HS3.out (Nat.le_refl q) (Nat.le_refl q)
  have A4 := Lib.hid (hf2.low hlow (by have := HQN.out; omega) A3.out)
  have B4 := Lib.hid (hf2.low hlow (by have := HQN.out; omega) B3.out)
  have C4 := Lib.hid (hf2.low hlow (by have := HQN.out; omega) C3.out)
  have HF5 := Lib.hid (HF4.out.new hf2 (fun r hr => by have := hlow r hr; have := HQN.out; omega))
  have HS4 := Lib.hid hs2
  obtain ⟨y, hy⟩ : ∃ y : La, y = ⟨a.f, a.d, b.g⟩ := ⟨_, rfl⟩
  have hyf : a.f = y.f := by rw [hy]
  have hyd : a.d = y.d := by rw [hy]
  rw [← hy] at HS4 B4
  have hhas : hasL [y] a.f a.d = true := has_iff.2 ⟨y, by simp, hyf.symm, hyd.symm⟩
  have hget : ∀ f d, y.at f d → y = getL [y] f d := by
    intro f d h
    unfold getL
    simp [isAt, h]
  have HG := Lib.hid (getS_yes q q s2 [y] a.f a.d w3 HS4.out (by simp) hhas y (hget _ _ ⟨hyf.symm, hyd.symm⟩))
  have HYF := Lib.hid hyf
  have HYD := Lib.hid hyd
  have HGET := Lib.hid hget
  obtain ⟨a0, a1, _⟩ := box3_call A4.out
  clear hs2 hf2 hlow hhas hy hyf hyd hget d0 d1 d2
  go_wp2_with fail
  refine HG.out.mono ?_
  rintro e w4 ⟨rfl, hf⟩
  obtain ⟨q4, hq4⟩ : ∃ q4, q4 = w4.heap.size := ⟨_, rfl⟩
  have hk := hf.trans (Fr.alloc w4 y.row [])
  have D5 := Lib.hid (show (w4.alloc y.row).heap[q4]? = some y.row by rw [hq4]; exact heap_alloc_new w4 y.row)
  have A5 := Lib.hid (hk.heap A4.out (by simp))
  have B5 := Lib.hid (hk.heap B4.out (by simp))
  have C5 := Lib.hid (hk.heap C4.out (by simp))
  have HF6 := Lib.hid (HF5.out.trans hk)
  have HS5 := Lib.hid (HS4.out.keep hk)
  obtain ⟨W5, hW5⟩ : ∃ W5, W5 = w4.alloc (.cells #[.int .i64 y.f, .int .i64 y.d, .int .i64 y.g] 25) := ⟨_, rfl⟩
  have hW5' : W5 = w4.alloc y.row := hW5
  rw [← hW5'] at D5 A5 B5 C5 HF6 HS5
  obtain ⟨e0, e1⟩ := row2 C5.out
  have HSM := Lib.hid (fun W (b : Bool) hb => call_same f d a.f a.d W b hb)
  obtain ⟨same, hsame⟩ : ∃ same, same = decide (f = a.f ∧ d = a.d) := ⟨_, rfl⟩
  have HSA := Lib.hid hsame
  have hW5h := Lib.hid hW5
  have hq4h := Lib.hid hq4
  rw [hW5] at e0 e1
  have HHAS : Hid (hasL [y] f d = same) := by
    show _ = _
    rw [hsame, HYF.out, HYD.out]
    simp [hasL, isAt, La.at, eq_comm]
  clear hf hk hW5 hW5' hsame hq4
  cases same with
  | false =>
    have HG2 := Lib.hid (getS_no q q s2 [y] f d W5 HS5.out (by simp) HHAS.out)
    rw [hW5h.out] at HG2
    go_wp2_with fail
    refine HG2.out.mono ?_
    rintro e w6 ⟨rfl, hf⟩
    rw [← hW5h.out] at hf
    have hk := hf.trans (Fr.alloc w6 (La.row zLa) [])
    have A6 := Lib.hid (hk.heap A5.out (by simp))
    have B6 := Lib.hid (hk.heap B5.out (by simp))
    have C6 := Lib.hid (hk.heap C5.out (by simp))
    have D6 := Lib.hid (hk.heap D5.out (by simp))
    have HF7 := Lib.hid (HF6.out.trans hk)
    have HS6 := Lib.hid (HS5.out.keep hk)
    obtain ⟨W6, hW6⟩ : ∃ W6, W6 = w6.alloc (La.row zLa) := ⟨_, rfl⟩
    have hW6h := Lib.hid (show W6 = w6.alloc (.cells #[.int .i64 0, .int .i64 0, .int .i64 0] 25) from hW6)
    rw [← hW6] at A6 B6 C6 D6 HF7 HS6
    obtain ⟨c0, c1⟩ := row2 C6.out
    obtain ⟨k0, k1, _⟩ := box3_call A6.out
    rw [hW6h.out] at c0 c1 k0 k1
    clear hf hk hW6 e0 e1 a0 a1
    go_wp2_with fail
    refine (HSM.out _ false HSA.out.symm).mono ?_
    rintro e w7 ⟨rfl, hf⟩
    rw [← hW6h.out] at hf
    have B7 := Lib.hid (hf.heap B6.out (by simp))
    have D7 := Lib.hid (hf.heap D6.out (by simp))
    have A7 := Lib.hid (hf.heap A6.out (by simp))
    have C7 := Lib.hid (hf.heap C6.out (by simp))
    have HF8 := Lib.hid (HF7.out.trans hf)
    have HS7 := Lib.hid (HS6.out.keep hf)
    obtain ⟨m0, m1, m2⟩ := box3_call B7.out
    obtain ⟨n0, n1, n2⟩ := box3_call D7.out
    rw [hq4h.out] at n0 n1 n2
    clear hf c0 c1 k0 k1
    go_wp2_with fail
    refine (latch_same y y _ true (by simp)).mono ?_
    rintro e w8 ⟨rfl, hf⟩
    have A8 := Lib.hid (hf.heap A7.out (by simp))
    have C8 := Lib.hid (hf.heap C7.out (by simp))
    have HF9 := Lib.hid (HF8.out.trans hf)
    have HS8 := Lib.hid (HS7.out.keep hf)
    have HL := Lib.hid (len_any _ _ _ _ _ HS8.out)
    obtain ⟨c0, c1⟩ := row2 C8.out
    clear hf m0 m1 m2 n0 n1 n2
    go_wp2_with fail
    refine HL.out.mono ?_
    rintro e w9 ⟨rfl, rfl⟩
    have HD := Lib.hid (delS_any q q s2 [y] f d w9 HS8.out (by simp) false HHAS.out.symm)
    have hdl : delL [y] f d = [y] := by exact del_no HHAS.out
    rw [hdl] at HD
    clear hdl
    go_wp2_with fail
    refine HD.out.mono ?_
    rintro e w10 ⟨rfl, s3, hs3, hf3, _⟩
    have hlow := sbs_new HS8.out (Nat.le_refl q) (Nat.le_refl q)
    have A9 := Lib.hid (hf3.low hlow (by have := HQN.out; omega) A8.out)
    have HF10 := Lib.hid (HF9.out.new hf3 (fun r hr => by have := hlow r hr; have := HQN.out; omega))
    have HS9 := Lib.hid hs3
    have HL2 := Lib.hid (len_any _ _ _ _ _ HS9.out)
    obtain ⟨k0, k1, _⟩ := box3_call A9.out
    clear hs3 hf3 hlow c0 c1
    go_wp2_with fail
    refine HL2.out.mono ?_
    rintro e w11 ⟨rfl, rfl⟩
    have HHH : Hid (true = hasL [y] a.f a.d) := by
      show _ = _
      exact (has_iff.2 ⟨y, by simp, HYF.out.symm, HYD.out.symm⟩).symm
    go_wp2_with (go_at_call 14; refine (one_any false _).mono ?_; rintro e w12 ⟨rfl, rfl⟩)
    refine (has_any q q s3 [y] a.f a.d _ HS9.out (by simp) _ HHH.out).mono ?_
    rintro e w13 ⟨rfl, hf⟩
    have HFF := Lib.hid (HF10.out.trans hf)
    clear hf
    go_wp2
    go_ret
    exact ⟨rfl, HFF.out⟩
  | true =>
    have HG2 := Lib.hid (getS_yes q q s2 [y] f d W5 HS5.out (by simp) HHAS.out y (HGET.out _ _ (by have := of_decide_eq_true HSA.out.symm; exact ⟨by rw [← HYF.out, this.1], by rw [← HYD.out, this.2]⟩)))
    rw [hW5h.out] at HG2
    go_wp2_with fail
    refine HG2.out.mono ?_
    rintro e w6 ⟨rfl, hf⟩
    rw [← hW5h.out] at hf
    have hk := hf.trans (Fr.alloc w6 (La.row y) [])
    have A6 := Lib.hid (hk.heap A5.out (by simp))
    have B6 := Lib.hid (hk.heap B5.out (by simp))
    have C6 := Lib.hid (hk.heap C5.out (by simp))
    have D6 := Lib.hid (hk.heap D5.out (by simp))
    have HF7 := Lib.hid (HF6.out.trans hk)
    have HS6 := Lib.hid (HS5.out.keep hk)
    obtain ⟨W6, hW6⟩ : ∃ W6, W6 = w6.alloc (La.row y) := ⟨_, rfl⟩
    have hW6h := Lib.hid (show W6 = w6.alloc (.cells #[.int .i64 y.f, .int .i64 y.d, .int .i64 y.g] 25) from hW6)
    rw [← hW6] at A6 B6 C6 D6 HF7 HS6
    obtain ⟨c0, c1⟩ := row2 C6.out
    obtain ⟨k0, k1, _⟩ := box3_call A6.out
    rw [hW6h.out] at c0 c1 k0 k1
    clear hf hk hW6 e0 e1 a0 a1
    go_wp2_with fail
    refine (HSM.out _ true HSA.out.symm).mono ?_
    rintro e w7 ⟨rfl, hf⟩
    rw [← hW6h.out] at hf
    have B7 := Lib.hid (hf.heap B6.out (by simp))
    have D7 := Lib.hid (hf.heap D6.out (by simp))
    have A7 := Lib.hid (hf.heap A6.out (by simp))
    have C7 := Lib.hid (hf.heap C6.out (by simp))
    have HF8 := Lib.hid (HF7.out.trans hf)
    have HS7 := Lib.hid (HS6.out.keep hf)
    obtain ⟨m0, m1, m2⟩ := box3_call B7.out
    obtain ⟨n0, n1, n2⟩ := box3_call D7.out
    rw [hq4h.out] at n0 n1 n2
    clear hf c0 c1 k0 k1
    go_wp2_with fail
    refine (latch_same y y _ true (by simp)).mono ?_
    rintro e w8 ⟨rfl, hf⟩
    have A8 := Lib.hid (hf.heap A7.out (by simp))
    have C8 := Lib.hid (hf.heap C7.out (by simp))
    have HF9 := Lib.hid (HF8.out.trans hf)
    have HS8 := Lib.hid (HS7.out.keep hf)
    have HL := Lib.hid (len_any _ _ _ _ _ HS8.out)
    obtain ⟨c0, c1⟩ := row2 C8.out
    clear hf m0 m1 m2 n0 n1 n2
    go_wp2_with fail
    refine HL.out.mono ?_
    rintro e w9 ⟨rfl, rfl⟩
    have HD := Lib.hid (delS_any q q s2 [y] f d w9 HS8.out (by simp) true HHAS.out.symm)
    have hdl : delL [y] f d = [] := by simp [delL, List.filter_eq_nil_iff]; have := has_iff.1 HHAS.out; simpa [isAt] using this
    rw [hdl] at HD
    clear hdl
    go_wp2_with fail
    refine HD.out.mono ?_
    rintro e w10 ⟨rfl, s3, hs3, hf3, _⟩
    have hlow := sbs_new HS8.out (Nat.le_refl q) (Nat.le_refl q)
    have A9 := Lib.hid (hf3.low hlow (by have := HQN.out; omega) A8.out)
    have HF10 := Lib.hid (HF9.out.new hf3 (fun r hr => by have := hlow r hr; have := HQN.out; omega))
    have HS9 := Lib.hid hs3
    have HL2 := Lib.hid (len_any _ _ _ _ _ HS9.out)
    obtain ⟨k0, k1, _⟩ := box3_call A9.out
    clear hs3 hf3 hlow c0 c1
    go_wp2_with fail
    refine HL2.out.mono ?_
    rintro e w11 ⟨rfl, rfl⟩
    have HHH : Hid (false = hasL [] a.f a.d) := by
      show _ = _
      rfl
    go_wp2_with (go_at_call 14; refine (one_any true _).mono ?_; rintro e w12 ⟨rfl, rfl⟩)
    refine (has_any q q s3 [] a.f a.d _ HS9.out (by simp) _ HHH.out).mono ?_
    rintro e w13 ⟨rfl, hf⟩
    have HFF := Lib.hid (HF10.out.trans hf)
    clear hf
    go_wp2
    go_ret
    exact ⟨rfl, HFF.out⟩
theorem kgens_walk (a b : La) (f d : Int) (w : World) : Calls Try.prog 3 #[.agg #[.int .i64 a.f, .int .i64 a.d, .int .i64 a.g], .agg #[.int .i64 b.f, .int .i64 b.d, .int .i64 b.g], .agg #[.int .i64 f, .int .i64 d]] w fun e w' => e = .returned (.bool true) ∧ w.grownBy w' none :=
  (gens_true a b f d w).mono fun _ _ ⟨he, hf⟩ => ⟨he, hf.grown (by simp)⟩
end Go.Proofs.Ytfopmpaoigdelaa
