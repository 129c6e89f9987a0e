/- The document's store (a helper of the statements): Save. -/
import Derived.Test.YthiimkjhlndcoaaDoorRStore
import Derived.Test.YthiimkjhlndcoaaDoorStore5
import Derived.Maps.AppendAt
import Derived.Deep.DeepCutAuto
import Derived.Deep.CutBlock
namespace Go.Proofs.YthiimkjhlndcoaaDoor
open Go.RowKit

theorem own_byte {w : World} {B : Nat} {v : Value} {l : List Int} {x : Int} (h : w.ownsRow B 5 1 v (l.length + 1) (u8s l ++ [.int .u8 x])) : Own w B v (l ++ [x]) := by
  have e : u8s (l ++ [x]) = u8s l ++ [.int .u8 x] := by simp [u8s]
  unfold Own
  rw [e]
  simpa using h
theorem RSr.ne {w : World} {sp q p g : Nat} {R : SR} {s : CS} (h : RSr w sp q R) (hc : RCl w p g s) : sp ≠ p ∧ sp ≠ g := by
  refine ⟨fun e => ?_, fun e => ?_⟩
  · subst e; have := h.symm.trans hc.1; simp at this
  · subst e; have := h.symm.trans hc.2.1; simp at this
theorem RSr.wr {w : World} {sp p : Nat} {R : SR} (h : RSr w sp p R) (c n k : Int) : RSr (((w.setCell ⟨sp, 1, none⟩ (.int .i64 c)).setCell ⟨sp, 2, none⟩ (.int .i64 n)).setCell ⟨sp, 3, none⟩ (.int .i64 k)) sp p ⟨c, n, k⟩ := by
  have h1 := heap_setCell_same w sp 1 _ _ (Value.int .i64 c) h
  have h2 := heap_setCell_same _ sp 2 _ _ (Value.int .i64 n) h1
  have h3 := heap_setCell_same _ sp 3 _ _ (Value.int .i64 k) h2
  unfold RSr; rw [h3]; simp
/-- The bytes that a Save writes, ahead of its mark. -/
def bl (c n : Int) : List Int := [0, byteOf c 0, byteOf c 1, byteOf c 2, byteOf c 3, byteOf c 4, byteOf c 5, byteOf n 0, byteOf n 1, byteOf n 2, byteOf n 3, byteOf n 4, byteOf n 5]
theorem bl_len (c n : Int) : (bl c n).length = 13 := rfl
theorem plan_take (k : Nat) (c n : Int) (j : Nat) (hj : j < 13) : (plan k c n).take (j + 1) = (plan k c n).take j ++ [(13 * k + j, (bl c n).getD j 0)] := by
  match j, hj with
  | 0, _ | 1, _ | 2, _ | 3, _ | 4, _ | 5, _ | 6, _ | 7, _ | 8, _ | 9, _ | 10, _ | 11, _ | 12, _ => rfl
theorem plan_last (k : Nat) (c n : Int) : (plan k c n) = (plan k c n).take 13 ++ [(13 * k, 1)] := rfl
theorem run_step (s : CS) (k : Nat) (c n : Int) (j : Nat) (hj : j < 13) (h : (s.run ((plan k c n).take j)).2 = 0) :
    s.run ((plan k c n).take (j + 1)) = (s.run ((plan k c n).take j)).1.put ((13 * k + j : Nat) : Int) ((bl c n).getD j 0) := by
  rw [plan_take k c n j hj, CS.run_append, if_pos h, CS.run_one]
theorem run_last (s : CS) (k : Nat) (c n : Int) (h : (s.run ((plan k c n).take 13)).2 = 0) :
    s.run (plan k c n) = (s.run ((plan k c n).take 13)).1.put ((13 * k : Nat) : Int) 1 := by
  have e : s.run (plan k c n) = s.run ((plan k c n).take 13 ++ [(13 * k, 1)]) := by rw [← plan_last]
  rw [e, CS.run_append, if_pos h, CS.run_one]
theorem bl_byte (c n : Int) (j : Nat) : 0 ≤ (bl c n).getD j 0 ∧ (bl c n).getD j 0 ≤ 255 := by
  have h : By8 (bl c n) := by
    intro x hx
    simp only [bl, List.mem_cons, List.not_mem_nil, or_false] at hx
    rcases hx with rfl | rfl | rfl | rfl | rfl | rfl | rfl | rfl | rfl | rfl | rfl | rfl | rfl <;> first | exact byteOf_range _ _ | omega
  exact h.get j

set_option maxHeartbeats 8000000 in
set_option maxRecDepth 100000 in
theorem refSave_any (sp p g : Nat) (R : SR) (s : CS) (c n : Int) (w : World) (hS : RSr w sp p R) (hC : RCl w p g s) (hR : R.in) (hsn : s.n < 9223372036854770000) :
    Calls Tryd.prog 22 #[.pointer (some ⟨sp, 0, none⟩), .agg #[.int .i64 c, .int .i64 n]] w fun e w' => e = .returned (.int .i64 (fcode (R.save s c n).2.2)) ∧ RCl w' p g (R.save s c n).1 ∧ RSr w' sp p (R.save s c n).2.1 ∧ Fr w w' [sp, p, g] := by
  obtain ⟨i0, hi, hz0, hz1, hz2⟩ := info_parts infoU8
  have hlt := hS.lt
  have hltc := hC.lt
  have hne := hS.ne hC
  have hf0 : Fr w (w.alloc (.cells #[.int .i64 c, .int .i64 n] 51)) [] := Fr.alloc _ _ _
  have hbox : ∀ W S, Fr (w.alloc (.cells #[.int .i64 c, .int .i64 n] 51)) W S → w.heap.size ∉ S → W.cell? ⟨w.heap.size, 0, none⟩ = some (.int .i64 c) ∧ W.cell? ⟨w.heap.size, 1, none⟩ = some (.int .i64 n) := by
    intro W S hW hS
    have hr := hW.heap (heap_alloc_new w (.cells #[.int .i64 c, .int .i64 n] 51)) hS
    exact ⟨by rw [cell_of_row W _ 0 _ _ _ hr]; rfl, by rw [cell_of_row W _ 1 _ _ _ hr]; rfl⟩
  have HS := Lib.hid hS
  have HC := Lib.hid hC
  have HR := Lib.hid hR
  have HN := Lib.hid hsn
  have HLT := Lib.hid hlt
  have HLTC := Lib.hid hltc
  have HNE := Lib.hid hne
  have HF0 := Lib.hid hf0
  have HBOX := Lib.hid hbox
  clear hS hC hR hsn hlt hltc hne hf0 hbox
  by_cases hr : c < 0 ∨ n < 0 ∨ 281474976710655 < c ∨ 281474976710655 < n
  · have HV : Hid (R.save s c n = (s, R, 3)) := by show _ = _; exact R.save_no s c n 2 (by unfold SR.code; rw [if_pos hr])
    have hcase : (c < 0) ∨ (¬ c < 0 ∧ n < 0) ∨ (¬ c < 0 ∧ ¬ n < 0 ∧ 281474976710656 ≤ c) ∨ (¬ c < 0 ∧ ¬ n < 0 ∧ ¬ 281474976710656 ≤ c ∧ 281474976710656 ≤ n) := by omega
    clear hr
    rcases hcase with h1 | ⟨h1, h2⟩ | ⟨h1, h2, h3⟩ | ⟨h1, h2, h3, h4⟩
    all_goals
      go_enter Tryd.func22, Tryd.ntmps22
      go_wp2
      go_ret
      rw [HV.out]
      exact ⟨rfl, HC.out.fr HF0.out (by simp) (by simp), HS.out.fr HF0.out (by simp), HF0.out.mono (by simp)⟩
  · obtain ⟨g1, g2, g3, g4⟩ : ¬ c < 0 ∧ ¬ n < 0 ∧ ¬ 281474976710656 ≤ c ∧ ¬ 281474976710656 ≤ n := by omega
    have HCN := Lib.hid (show (0 ≤ c ∧ c ≤ 281474976710655) ∧ (0 ≤ n ∧ n ≤ 281474976710655) by omega)
    have hcd : R.code c n = if c < R.c ∨ n < R.n ∨ (c = R.c ∧ n = R.n) then 8 else 0 := by unfold SR.code; rw [if_neg hr]
    have HCD := Lib.hid hcd
    obtain ⟨s0, s1, s2, s3⟩ := (HS.out.fr HF0.out (by simp)).cells
    obtain ⟨Rc, hRc⟩ : ∃ x, x = R.c := ⟨_, rfl⟩
    obtain ⟨Rn, hRn⟩ : ∃ x, x = R.n := ⟨_, rfl⟩
    rw [← hRc] at s1 HCD
    rw [← hRn] at s2 HCD
    have HRC := Lib.hid hRc
    have HRN := Lib.hid hRn
    clear hr hcd hRc hRn
    by_cases ho : c < Rc ∨ n < Rn ∨ (c = Rc ∧ n = Rn)
    · have HV : Hid (R.save s c n = (s, R, 8)) := by show _ = _; exact R.save_no s c n 7 (by rw [HCD.out, if_pos ho])
      have hcase : (decide (c < Rc) = true) ∨ (decide (c < Rc) = false ∧ decide (n < Rn) = true) ∨ (decide (c < Rc) = false ∧ decide (n < Rn) = false ∧ (c == Rc) = true ∧ (n == Rn) = true) := by simp; omega
      clear ho
      rcases hcase with h1 | ⟨h1, h2⟩ | ⟨h1, h2, h3, h4⟩
      all_goals
        go_enter Tryd.func22, Tryd.ntmps22
        go_wp2
        go_quiet (fail)
        go_wp2
        go_ret
        rw [HV.out]
        have HFQ := Lib.hid (HF0.out.trans (Fr.drewN _ nq []))
        exact ⟨rfl, HC.out.fr HFQ.out (by simp) (by simp), HS.out.fr HFQ.out (by simp), HFQ.out.mono (by simp)⟩
    · have HV0 : Hid (R.code c n = 0) := by show _ = _; rw [HCD.out, if_neg ho]
      have hcase : (decide (c < Rc) = false ∧ decide (n < Rn) = false ∧ (c == Rc) = false) ∨ (decide (c < Rc) = false ∧ decide (n < Rn) = false ∧ (c == Rc) = true ∧ (n == Rn) = false) := by simp; omega
      clear ho
      have hsp : R.spare < 2 := by unfold SR.spare; split <;> omega
      obtain ⟨K, hK⟩ : ∃ K, K = R.spare := ⟨_, rfl⟩
      have hsv := fun s' h2 => R.save_yes s s' c n HV0.out h2
      have hsc := fun s' d h2 => R.save_cut s s' c n d HV0.out h2
      rw [← hK] at hsp hsv hsc
      have HSV := Lib.hid hsv
      have HSC := Lib.hid hsc
      have HK := Lib.hid hK
      clear hsv hsc hK
      go_enter Tryd.func22, Tryd.ntmps22
      go_upto_region 3 with fail
      generalize hWA : World.alloc w _ = WA
      have HFA := Lib.hid (show Fr w WA [] by rw [← hWA]; exact Fr.alloc _ _ _)
      have HBA := Lib.hid (fun W S (hW : Fr WA W S) (hS : w.heap.size ∉ S) => HBOX.out W S (by rw [← hWA] at hW; exact hW) hS)
      clear s0 s1 s2 s3 hWA
      obtain ⟨s0, s1, s2, s3⟩ := (HS.out.fr HFA.out (by simp)).cells
      rw [← HRC.out] at s1
      rw [← HRN.out] at s2
      obtain ⟨b0, b1⟩ := HBA.out _ [] (Fr.refl _ _) (by simp)
      go_cut [67] (fun s67 wx => s67 = .bool false ∧ Fr WA wx [])
      case first =>
        rcases hcase with ⟨h1, h2, h3⟩ | ⟨h1, h2, h3, h4⟩
        all_goals
          go_quiet (fail)
          go_wp2_with fail
          go_meet
          exact ⟨rfl, Fr.drewN _ _ _⟩
      case rest =>
      obtain ⟨rfl, hfq⟩ := hcut
      have HFQ := Lib.hid hfq
      clear hfq hcase s0 s1 s2 s3 b0 b1
      obtain ⟨s0, s1, s2, s3⟩ := (HS.out.fr (HFA.out.trans HFQ.out) (by simp)).cells
      obtain ⟨Rk, hRk⟩ : ∃ x, x = R.k := ⟨_, rfl⟩
      rw [← hRk] at s3
      have HRK := Lib.hid hRk
      clear hRk s0 s1 s2
      go_upto_if 72 with fail
      go_cut [5] (fun s5 wx => s5 = .int .i64 (K : Int) ∧ wx = wc)
      case first =>
        by_cases hk0 : Rk = 0
        · have hb : (Rk == 0) = true := by simpa using hk0
          have hK1 : K = 0 + 1 := by rw [HK.out]; unfold SR.spare; rw [if_pos (by rw [← HRK.out]; exact hk0)]
          clear hk0
          go_wp2_with fail
          go_meet
          exact ⟨by rw [hK1]; rfl, rfl⟩
        · have hb : (Rk == 0) = false := by simpa using hk0
          have hK1 : K = 0 := by rw [HK.out]; unfold SR.spare; rw [if_neg (by rw [← HRK.out]; exact hk0)]
          clear hk0
          go_wp2_with fail
          go_meet
          exact ⟨by rw [hK1]; rfl, rfl⟩
      case rest =>
      obtain ⟨rfl, rfl⟩ := hcut
      clear s3
      have HA0 := Lib.hid (own_of_heap (cur := [Value.int .u8 0]) (l := [0]) (heap_alloc_new wc (.cells #[Value.int .u8 0] 5)) (Nat.le_refl _) rfl rfl (Nat.le_refl _) (by show 1 ≤ maxLen; unfold maxLen; omega) rfl)
      have HAF := Lib.hid (Fr.alloc wc (.cells #[Value.int .u8 0] 5) [])
      go_wp2
      go_loopw [6, 7] (fun v x wr => ∃ (j : Nat) (I : Int), j ≤ 6 ∧ x = .int .i64 I ∧ I = 5 - (j : Int) ∧ Own wr wc.heap.size v ((bl c n).take (j + 1)) ∧ Fr wc wr []) (fun _ x _ => (intOf x + 1).toNat)
      case atStart => exact ⟨0, 5, by omega, rfl, by omega, HA0.out, HAF.out⟩
      case round =>
        obtain ⟨j, I, hj, rfl, hI, hown, hfr⟩ := hrel
        obtain ⟨b0, b1⟩ := HBA.out _ [] (HFQ.out.trans hfr) (by simp)
        have hsz := hfr.size
        have HO := Lib.hid hown
        have HFL := Lib.hid hfr
        obtain ⟨e0, e1, e2, e3, e4, e5⟩ := byteOf_lits c
        have HE := Lib.hid (show byteOf c 0 = c / 1099511627776 ∧ byteOf c 1 = c / 4294967296 % 256 ∧ byteOf c 2 = c / 16777216 % 256 ∧ byteOf c 3 = c / 65536 % 256 ∧ byteOf c 4 = c / 256 % 256 ∧ byteOf c 5 = c % 256 from ⟨by rw [e0]; have := HCN.out; omega, e1, e2, e3, e4, e5⟩)
        clear hown hfr e0 e1 e2 e3 e4 e5
        have hs : j = 0 ∨ j = 1 ∨ j = 2 ∨ j = 3 ∨ j = 4 ∨ j = 5 ∨ j = 6 := by omega
        rcases hs with rfl | rfl | rfl | rfl | rfl | rfl | rfl
        · obtain rfl : I = 5 := by omega
          clear hI
          go_wp2_with (at_builtin; refine wpList_append_own _ rfl _ _ 22 rfl wc.heap.size 5 i0 (.int .u8 0) 1 1 Tryd.underlying22 hi hz0 hz1 hz2 rfl (by decide) _ _ _ rfl (World.ownsRow.alloc HO.out _) ⟨wr.heap.size, 0, none⟩ 1 1 [_] rfl rfl (cell_one_new _ _ _) (one_cell _ _) (by rw [List.length_take, bl_len]; unfold maxLen; omega) (by rw [List.length_take, bl_len]; omega) (by simp; omega) ?_; intro v' w3 hown2 hg3 _)
          have ho : Own w3 wc.heap.size v' ((bl c n).take (1 + 1)) := by
            have := own_byte hown2
            rw [take_snoc (bl c n) 1 (by rw [bl_len]; omega), show (bl c n).getD 1 0 = byteOf c 0 from rfl, HE.out.1]
            exact this
          have hgr : Fr wc w3 [] := Fr.of_grown (grown_new (HFL.out.grown (by simp)) (grown_trans (World.grownBy_alloc wr _ _) hg3) (fun r hr => (HO.out.block r hr).1)) []
          have HO2 := Lib.hid ho
          have HG2 := Lib.hid hgr
          clear ho hgr hown2 hg3
          go_roundw
          case rel => exact ⟨1, 4, by omega, rfl, by omega, HO2.out, HG2.out⟩
          case measure => simp [intOf]
        · obtain rfl : I = 4 := by omega
          clear hI
          go_wp2_with (at_builtin; refine wpList_append_own _ rfl _ _ 22 rfl wc.heap.size 5 i0 (.int .u8 0) 1 1 Tryd.underlying22 hi hz0 hz1 hz2 rfl (by decide) _ _ _ rfl (World.ownsRow.alloc HO.out _) ⟨wr.heap.size, 0, none⟩ 1 1 [_] rfl rfl (cell_one_new _ _ _) (one_cell _ _) (by rw [List.length_take, bl_len]; unfold maxLen; omega) (by rw [List.length_take, bl_len]; omega) (by simp; omega) ?_; intro v' w3 hown2 hg3 _)
          have ho : Own w3 wc.heap.size v' ((bl c n).take (2 + 1)) := by
            have := own_byte hown2
            rw [take_snoc (bl c n) 2 (by rw [bl_len]; omega), show (bl c n).getD 2 0 = byteOf c 1 from rfl, HE.out.2.1]
            exact this
          have hgr : Fr wc w3 [] := Fr.of_grown (grown_new (HFL.out.grown (by simp)) (grown_trans (World.grownBy_alloc wr _ _) hg3) (fun r hr => (HO.out.block r hr).1)) []
          have HO2 := Lib.hid ho
          have HG2 := Lib.hid hgr
          clear ho hgr hown2 hg3
          go_roundw
          case rel => exact ⟨2, 3, by omega, rfl, by omega, HO2.out, HG2.out⟩
          case measure => simp [intOf]
        · obtain rfl : I = 3 := by omega
          clear hI
          go_wp2_with (at_builtin; refine wpList_append_own _ rfl _ _ 22 rfl wc.heap.size 5 i0 (.int .u8 0) 1 1 Tryd.underlying22 hi hz0 hz1 hz2 rfl (by decide) _ _ _ rfl (World.ownsRow.alloc HO.out _) ⟨wr.heap.size, 0, none⟩ 1 1 [_] rfl rfl (cell_one_new _ _ _) (one_cell _ _) (by rw [List.length_take, bl_len]; unfold maxLen; omega) (by rw [List.length_take, bl_len]; omega) (by simp; omega) ?_; intro v' w3 hown2 hg3 _)
          have ho : Own w3 wc.heap.size v' ((bl c n).take (3 + 1)) := by
            have := own_byte hown2
            rw [take_snoc (bl c n) 3 (by rw [bl_len]; omega), show (bl c n).getD 3 0 = byteOf c 2 from rfl, HE.out.2.2.1]
            exact this
          have hgr : Fr wc w3 [] := Fr.of_grown (grown_new (HFL.out.grown (by simp)) (grown_trans (World.grownBy_alloc wr _ _) hg3) (fun r hr => (HO.out.block r hr).1)) []
          have HO2 := Lib.hid ho
          have HG2 := Lib.hid hgr
          clear ho hgr hown2 hg3
          go_roundw
          case rel => exact ⟨3, 2, by omega, rfl, by omega, HO2.out, HG2.out⟩
          case measure => simp [intOf]
        · obtain rfl : I = 2 := by omega
          clear hI
          go_wp2_with (at_builtin; refine wpList_append_own _ rfl _ _ 22 rfl wc.heap.size 5 i0 (.int .u8 0) 1 1 Tryd.underlying22 hi hz0 hz1 hz2 rfl (by decide) _ _ _ rfl (World.ownsRow.alloc HO.out _) ⟨wr.heap.size, 0, none⟩ 1 1 [_] rfl rfl (cell_one_new _ _ _) (one_cell _ _) (by rw [List.length_take, bl_len]; unfold maxLen; omega) (by rw [List.length_take, bl_len]; omega) (by simp; omega) ?_; intro v' w3 hown2 hg3 _)
          have ho : Own w3 wc.heap.size v' ((bl c n).take (4 + 1)) := by
            have := own_byte hown2
            rw [take_snoc (bl c n) 4 (by rw [bl_len]; omega), show (bl c n).getD 4 0 = byteOf c 3 from rfl, HE.out.2.2.2.1]
            exact this
          have hgr : Fr wc w3 [] := Fr.of_grown (grown_new (HFL.out.grown (by simp)) (grown_trans (World.grownBy_alloc wr _ _) hg3) (fun r hr => (HO.out.block r hr).1)) []
          have HO2 := Lib.hid ho
          have HG2 := Lib.hid hgr
          clear ho hgr hown2 hg3
          go_roundw
          case rel => exact ⟨4, 1, by omega, rfl, by omega, HO2.out, HG2.out⟩
          case measure => simp [intOf]
        · obtain rfl : I = 1 := by omega
          clear hI
          go_wp2_with (at_builtin; refine wpList_append_own _ rfl _ _ 22 rfl wc.heap.size 5 i0 (.int .u8 0) 1 1 Tryd.underlying22 hi hz0 hz1 hz2 rfl (by decide) _ _ _ rfl (World.ownsRow.alloc HO.out _) ⟨wr.heap.size, 0, none⟩ 1 1 [_] rfl rfl (cell_one_new _ _ _) (one_cell _ _) (by rw [List.length_take, bl_len]; unfold maxLen; omega) (by rw [List.length_take, bl_len]; omega) (by simp; omega) ?_; intro v' w3 hown2 hg3 _)
          have ho : Own w3 wc.heap.size v' ((bl c n).take (5 + 1)) := by
            have := own_byte hown2
            rw [take_snoc (bl c n) 5 (by rw [bl_len]; omega), show (bl c n).getD 5 0 = byteOf c 4 from rfl, HE.out.2.2.2.2.1]
            exact this
          have hgr : Fr wc w3 [] := Fr.of_grown (grown_new (HFL.out.grown (by simp)) (grown_trans (World.grownBy_alloc wr _ _) hg3) (fun r hr => (HO.out.block r hr).1)) []
          have HO2 := Lib.hid ho
          have HG2 := Lib.hid hgr
          clear ho hgr hown2 hg3
          go_roundw
          case rel => exact ⟨5, 0, by omega, rfl, by omega, HO2.out, HG2.out⟩
          case measure => simp [intOf]
        · obtain rfl : I = 0 := by omega
          clear hI
          go_wp2_with (at_builtin; refine wpList_append_own _ rfl _ _ 22 rfl wc.heap.size 5 i0 (.int .u8 0) 1 1 Tryd.underlying22 hi hz0 hz1 hz2 rfl (by decide) _ _ _ rfl (World.ownsRow.alloc HO.out _) ⟨wr.heap.size, 0, none⟩ 1 1 [_] rfl rfl (cell_one_new _ _ _) (one_cell _ _) (by rw [List.length_take, bl_len]; unfold maxLen; omega) (by rw [List.length_take, bl_len]; omega) (by simp; omega) ?_; intro v' w3 hown2 hg3 _)
          have ho : Own w3 wc.heap.size v' ((bl c n).take (6 + 1)) := by
            have := own_byte hown2
            rw [take_snoc (bl c n) 6 (by rw [bl_len]; omega), show (bl c n).getD 6 0 = byteOf c 5 from rfl, HE.out.2.2.2.2.2]
            exact this
          have hgr : Fr wc w3 [] := Fr.of_grown (grown_new (HFL.out.grown (by simp)) (grown_trans (World.grownBy_alloc wr _ _) hg3) (fun r hr => (HO.out.block r hr).1)) []
          have HO2 := Lib.hid ho
          have HG2 := Lib.hid hgr
          clear ho hgr hown2 hg3
          go_roundw
          case rel => exact ⟨6, -1, by omega, rfl, by omega, HO2.out, HG2.out⟩
          case measure => simp [intOf]
        · obtain rfl : I = -1 := by omega
          have HB0 := Lib.hid HO.out
          have HBF := Lib.hid HFL.out
          clear b0 b1 hI hj hsz
          go_wp2
          go_loopw [6, 8] (fun v x wr => ∃ (j : Nat) (I : Int), j ≤ 6 ∧ x = .int .i64 I ∧ I = 5 - (j : Int) ∧ Own wr wc.heap.size v ((bl c n).take (j + 7)) ∧ Fr wc wr []) (fun _ x _ => (intOf x + 1).toNat)
          case atStart => exact ⟨0, 5, by omega, rfl, by omega, HB0.out, HBF.out⟩
          case round =>
            obtain ⟨j, I, hj, rfl, hI, hown, hfr⟩ := hrel
            obtain ⟨b0, b1⟩ := HBA.out _ [] (HFQ.out.trans hfr) (by simp)
            have hsz := hfr.size
            have HO := Lib.hid hown
            have HFL := Lib.hid hfr
            obtain ⟨e0, e1, e2, e3, e4, e5⟩ := byteOf_lits n
            have HE := Lib.hid (show byteOf n 0 = n / 1099511627776 ∧ byteOf n 1 = n / 4294967296 % 256 ∧ byteOf n 2 = n / 16777216 % 256 ∧ byteOf n 3 = n / 65536 % 256 ∧ byteOf n 4 = n / 256 % 256 ∧ byteOf n 5 = n % 256 from ⟨by rw [e0]; have := HCN.out; omega, e1, e2, e3, e4, e5⟩)
            clear hown hfr e0 e1 e2 e3 e4 e5
            have hs : j = 0 ∨ j = 1 ∨ j = 2 ∨ j = 3 ∨ j = 4 ∨ j = 5 ∨ j = 6 := by omega
            rcases hs with rfl | rfl | rfl | rfl | rfl | rfl | rfl
            · obtain rfl : I = 5 := by omega
              clear hI
              go_wp2_with (at_builtin; refine wpList_append_own _ rfl _ _ 22 rfl wc.heap.size 5 i0 (.int .u8 0) 1 1 Tryd.underlying22 hi hz0 hz1 hz2 rfl (by decide) _ _ _ rfl (World.ownsRow.alloc HO.out _) ⟨wr.heap.size, 0, none⟩ 1 1 [_] rfl rfl (cell_one_new _ _ _) (one_cell _ _) (by rw [List.length_take, bl_len]; unfold maxLen; omega) (by rw [List.length_take, bl_len]; omega) (by simp; omega) ?_; intro v' w3 hown2 hg3 _)
              have ho : Own w3 wc.heap.size v' ((bl c n).take (1 + 7)) := by
                have := own_byte hown2
                rw [take_snoc (bl c n) 7 (by rw [bl_len]; omega), show (bl c n).getD 7 0 = byteOf n 0 from rfl, HE.out.1]
                exact this
              have hgr : Fr wc w3 [] := Fr.of_grown (grown_new (HFL.out.grown (by simp)) (grown_trans (World.grownBy_alloc wr _ _) hg3) (fun r hr => (HO.out.block r hr).1)) []
              have HO2 := Lib.hid ho
              have HG2 := Lib.hid hgr
              clear ho hgr hown2 hg3
              go_roundw
              case rel => exact ⟨1, 4, by omega, rfl, by omega, HO2.out, HG2.out⟩
              case measure => simp [intOf]
            · obtain rfl : I = 4 := by omega
              clear hI
              go_wp2_with (at_builtin; refine wpList_append_own _ rfl _ _ 22 rfl wc.heap.size 5 i0 (.int .u8 0) 1 1 Tryd.underlying22 hi hz0 hz1 hz2 rfl (by decide) _ _ _ rfl (World.ownsRow.alloc HO.out _) ⟨wr.heap.size, 0, none⟩ 1 1 [_] rfl rfl (cell_one_new _ _ _) (one_cell _ _) (by rw [List.length_take, bl_len]; unfold maxLen; omega) (by rw [List.length_take, bl_len]; omega) (by simp; omega) ?_; intro v' w3 hown2 hg3 _)
              have ho : Own w3 wc.heap.size v' ((bl c n).take (2 + 7)) := by
                have := own_byte hown2
                rw [take_snoc (bl c n) 8 (by rw [bl_len]; omega), show (bl c n).getD 8 0 = byteOf n 1 from rfl, HE.out.2.1]
                exact this
              have hgr : Fr wc w3 [] := Fr.of_grown (grown_new (HFL.out.grown (by simp)) (grown_trans (World.grownBy_alloc wr _ _) hg3) (fun r hr => (HO.out.block r hr).1)) []
              have HO2 := Lib.hid ho
              have HG2 := Lib.hid hgr
              clear ho hgr hown2 hg3
              go_roundw
              case rel => exact ⟨2, 3, by omega, rfl, by omega, HO2.out, HG2.out⟩
              case measure => simp [intOf]
            · obtain rfl : I = 3 := by omega
              clear hI
              go_wp2_with (at_builtin; refine wpList_append_own _ rfl _ _ 22 rfl wc.heap.size 5 i0 (.int .u8 0) 1 1 Tryd.underlying22 hi hz0 hz1 hz2 rfl (by decide) _ _ _ rfl (World.ownsRow.alloc HO.out _) ⟨wr.heap.size, 0, none⟩ 1 1 [_] rfl rfl (cell_one_new _ _ _) (one_cell _ _) (by rw [List.length_take, bl_len]; unfold maxLen; omega) (by rw [List.length_take, bl_len]; omega) (by simp; omega) ?_; intro v' w3 hown2 hg3 _)
              have ho : Own w3 wc.heap.size v' ((bl c n).take (3 + 7)) := by
                have := own_byte hown2
                rw [take_snoc (bl c n) 9 (by rw [bl_len]; omega), show (bl c n).getD 9 0 = byteOf n 2 from rfl, HE.out.2.2.1]
                exact this
              have hgr : Fr wc w3 [] := Fr.of_grown (grown_new (HFL.out.grown (by simp)) (grown_trans (World.grownBy_alloc wr _ _) hg3) (fun r hr => (HO.out.block r hr).1)) []
              have HO2 := Lib.hid ho
              have HG2 := Lib.hid hgr
              clear ho hgr hown2 hg3
              go_roundw
              case rel => exact ⟨3, 2, by omega, rfl, by omega, HO2.out, HG2.out⟩
              case measure => simp [intOf]
            · obtain rfl : I = 2 := by omega
              clear hI
              go_wp2_with (at_builtin; refine wpList_append_own _ rfl _ _ 22 rfl wc.heap.size 5 i0 (.int .u8 0) 1 1 Tryd.underlying22 hi hz0 hz1 hz2 rfl (by decide) _ _ _ rfl (World.ownsRow.alloc HO.out _) ⟨wr.heap.size, 0, none⟩ 1 1 [_] rfl rfl (cell_one_new _ _ _) (one_cell _ _) (by rw [List.length_take, bl_len]; unfold maxLen; omega) (by rw [List.length_take, bl_len]; omega) (by simp; omega) ?_; intro v' w3 hown2 hg3 _)
              have ho : Own w3 wc.heap.size v' ((bl c n).take (4 + 7)) := by
                have := own_byte hown2
                rw [take_snoc (bl c n) 10 (by rw [bl_len]; omega), show (bl c n).getD 10 0 = byteOf n 3 from rfl, HE.out.2.2.2.1]
                exact this
              have hgr : Fr wc w3 [] := Fr.of_grown (grown_new (HFL.out.grown (by simp)) (grown_trans (World.grownBy_alloc wr _ _) hg3) (fun r hr => (HO.out.block r hr).1)) []
              have HO2 := Lib.hid ho
              have HG2 := Lib.hid hgr
              clear ho hgr hown2 hg3
              go_roundw
              case rel => exact ⟨4, 1, by omega, rfl, by omega, HO2.out, HG2.out⟩
              case measure => simp [intOf]
            · obtain rfl : I = 1 := by omega
              clear hI
              go_wp2_with (at_builtin; refine wpList_append_own _ rfl _ _ 22 rfl wc.heap.size 5 i0 (.int .u8 0) 1 1 Tryd.underlying22 hi hz0 hz1 hz2 rfl (by decide) _ _ _ rfl (World.ownsRow.alloc HO.out _) ⟨wr.heap.size, 0, none⟩ 1 1 [_] rfl rfl (cell_one_new _ _ _) (one_cell _ _) (by rw [List.length_take, bl_len]; unfold maxLen; omega) (by rw [List.length_take, bl_len]; omega) (by simp; omega) ?_; intro v' w3 hown2 hg3 _)
              have ho : Own w3 wc.heap.size v' ((bl c n).take (5 + 7)) := by
                have := own_byte hown2
                rw [take_snoc (bl c n) 11 (by rw [bl_len]; omega), show (bl c n).getD 11 0 = byteOf n 4 from rfl, HE.out.2.2.2.2.1]
                exact this
              have hgr : Fr wc w3 [] := Fr.of_grown (grown_new (HFL.out.grown (by simp)) (grown_trans (World.grownBy_alloc wr _ _) hg3) (fun r hr => (HO.out.block r hr).1)) []
              have HO2 := Lib.hid ho
              have HG2 := Lib.hid hgr
              clear ho hgr hown2 hg3
              go_roundw
              case rel => exact ⟨5, 0, by omega, rfl, by omega, HO2.out, HG2.out⟩
              case measure => simp [intOf]
            · obtain rfl : I = 0 := by omega
              clear hI
              go_wp2_with (at_builtin; refine wpList_append_own _ rfl _ _ 22 rfl wc.heap.size 5 i0 (.int .u8 0) 1 1 Tryd.underlying22 hi hz0 hz1 hz2 rfl (by decide) _ _ _ rfl (World.ownsRow.alloc HO.out _) ⟨wr.heap.size, 0, none⟩ 1 1 [_] rfl rfl (cell_one_new _ _ _) (one_cell _ _) (by rw [List.length_take, bl_len]; unfold maxLen; omega) (by rw [List.length_take, bl_len]; omega) (by simp; omega) ?_; intro v' w3 hown2 hg3 _)
              have ho : Own w3 wc.heap.size v' ((bl c n).take (6 + 7)) := by
                have := own_byte hown2
                rw [take_snoc (bl c n) 12 (by rw [bl_len]; omega), show (bl c n).getD 12 0 = byteOf n 5 from rfl, HE.out.2.2.2.2.2]
                exact this
              have hgr : Fr wc w3 [] := Fr.of_grown (grown_new (HFL.out.grown (by simp)) (grown_trans (World.grownBy_alloc wr _ _) hg3) (fun r hr => (HO.out.block r hr).1)) []
              have HO2 := Lib.hid ho
              have HG2 := Lib.hid hgr
              clear ho hgr hown2 hg3
              go_roundw
              case rel => exact ⟨6, -1, by omega, rfl, by omega, HO2.out, HG2.out⟩
              case measure => simp [intOf]
            · obtain rfl : I = -1 := by omega
              have hown := HO.out
              rw [List.take_of_length_le (by rw [bl_len]; omega)] at hown
              obtain ⟨ba, bcap, rfl, hb1, hb2, hbc⟩ := hown.bytes
              rw [bl_len] at hb1 hbc ⊢
              obtain ⟨bb, boff, rfl, hbcell⟩ := hbc (by omega)
              have hbk := hown.block bb rfl
              unfold maxLen at hb2
              have hcs := HFQ.out.size
              have has := HFA.out.size
              have HPG := Lib.hid (show bb ∉ [p, g] ∧ sp ∉ [p, g] ∧ w.heap.size ∉ [p, g] by have := HLTC.out; have := HNE.out; simp; omega)
              have HBC := Lib.hid hbcell
              have HWD := Lib.hid (HFA.out.trans (HFQ.out.trans HFL.out))
              have HQD := Lib.hid (HFQ.out.trans HFL.out)
              have HRUN := Lib.hid (fun j hj h => run_step s K c n j hj h)
              have HLASTR := Lib.hid (fun h => run_last s K c n h)
              have HSTOP := Lib.hid (fun j h => run_stop s (plan K c n) j h)
              clear hown hb1 hbc hbk hbcell hcs has b0 b1 hI hj
              go_wp2
              go_loopw [9] (fun x wq => ∃ (j : Nat), j ≤ 13 ∧ x = .int .i64 j ∧ (s.run ((plan K c n).take j)).2 = 0 ∧ RCl wq p g (s.run ((plan K c n).take j)).1 ∧ Fr wr wq [p, g]) (fun x _ => 13 - (intOf x).toNat)
              case atStart => exact ⟨0, by omega, rfl, rfl, HC.out.fr HWD.out (by simp) (by simp), Fr.refl _ _⟩
              case round =>
                obtain ⟨j, hj, rfl, hz, hc, hf⟩ := hrel
                have HZ := Lib.hid hz
                have HCC := Lib.hid hc
                have HFF := Lib.hid hf
                have hln : (s.run ((plan K c n).take j)).1.n < 9223372036854775000 := by have := CS.run_n ((plan K c n).take j) s; have h3 : ((plan K c n).take j).length ≤ j := List.length_take_le _ _; have := HN.out; omega
                have HLN := Lib.hid hln
                clear hz hc hf hln
                have hsr := (HS.out.fr HWD.out (by simp)).fr HFF.out HPG.out.2.1
                obtain ⟨s0, s1, s2, s3⟩ := hsr.cells
                by_cases hlt : j < 13
                · have hbx := HFF.out.cell (HBC.out j hlt) HPG.out.1
                  have hput := refPut_cell p g _ ((13 * K + j : Nat) : Int) ((bl c n).getD j 0) _ (HCC.out.fr (Fr.drew _ []) (by simp) (by simp)) (by have := HLN.out; omega)
                  rw [← HRUN.out j hlt HZ.out, show ((13 * K + j : Nat) : Int) = 13 * (K : Int) + (j : Int) by omega] at hput
                  obtain ⟨y, hy⟩ : ∃ y, y = (bl c n).getD j 0 := ⟨_, rfl⟩
                  rw [← hy] at hbx hput
                  obtain ⟨t, ht⟩ : ∃ t, t = s.run ((plan K c n).take (j + 1)) := ⟨_, rfl⟩
                  rw [← ht] at hput
                  have HT := Lib.hid ht
                  have hw1 : IntKind.i64.wrap (13 * (K : Int)) = 13 * (K : Int) := IntWalk.i64_in _ (by omega)
                  have hw2 : IntKind.i64.wrap (13 * (K : Int) + (j : Int)) = 13 * (K : Int) + (j : Int) := IntWalk.i64_in _ (by omega)
                  clear hy ht s1 s2 s3
                  obtain ⟨t1, cd⟩ := t
                  match cd, hput, HT with
                  | 0, hput, HT =>
                    rw [show fcode 0 = 0 from rfl] at hput
                    have HP := Lib.hid hput
                    clear hput
                    go_wp2_with fail
                    go_region_held3 (fun w' => w'.cell? ⟨sp, 0, none⟩ = some (.pointer (some ⟨p, 0, none⟩)) ∧ w'.cell? ⟨bb, boff + j, none⟩ = some (.int .u8 y))
                      (first | exact ⟨s0, hbx⟩ | exact ⟨s0b, hbxb⟩)
                      (first
                        | (go_at_call 19; ((with_reducible refine HP.out.mono ?_); rintro e wx ⟨rfl, hcx, hfx⟩; have hfx0 := (Fr.drew _ [p, g]).trans hfx; have s0b := hfx0.cell s0 HPG.out.2.1; have hbxb := hfx0.cell hbx HPG.out.1)))
                    all_goals
                      have HCX := Lib.hid hcx
                      have HFX := Lib.hid (HFF.out.trans hfx0)
                      clear hcx hfx hfx0 s0b hbxb hw1 hw2
                      go_wp2
                      go_roundw
                      case rel => exact ⟨j + 1, by omega, by go_num, by rw [← HT.out], by rw [← HT.out]; exact HCX.out, HFX.out⟩
                      case measure => simp [intOf]; omega
                  | d + 1, hput, HT =>
                    have hst := HSTOP.out (j + 1) (by rw [← HT.out]; simp)
                    rw [← HT.out] at hst
                    have HV := Lib.hid (HSC.out t1 d hst)
                    obtain ⟨F, hF⟩ : ∃ F, F = fcode (d + 1) := ⟨_, rfl⟩
                    have hFn : (F != 0) = true := by rw [hF]; unfold fcode; rw [if_neg (by omega)]; simp; omega
                    rw [← hF] at hput
                    have HFC := Lib.hid hF
                    have HP := Lib.hid hput
                    clear hput hF hst
                    go_wp2_with fail
                    go_region_held3 (fun w' => w'.cell? ⟨sp, 0, none⟩ = some (.pointer (some ⟨p, 0, none⟩)) ∧ w'.cell? ⟨bb, boff + j, none⟩ = some (.int .u8 y))
                      (first | exact ⟨s0, hbx⟩ | exact ⟨s0b, hbxb⟩)
                      (first
                        | (go_at_call 19; ((with_reducible refine HP.out.mono ?_); rintro e wx ⟨rfl, hcx, hfx⟩; have hfx0 := (Fr.drew _ [p, g]).trans hfx; have s0b := hfx0.cell s0 HPG.out.2.1; have hbxb := hfx0.cell hbx HPG.out.1)))
                    all_goals
                      have HCX := Lib.hid hcx
                      have HFX := Lib.hid (HFF.out.trans hfx0)
                      have HSX := Lib.hid (hsr.fr hfx0 HPG.out.2.1)
                      clear hcx hfx hfx0 s0b hbxb hw1 hw2
                      go_wp2
                      go_ret
                      rw [HV.out, HFC.out]
                      exact ⟨rfl, HCX.out, HSX.out, HWD.out.comb HFX.out (by simp) (by simp)⟩
                · obtain rfl : j = 13 := by omega
                  have hput := refPut_cell p g _ ((13 * K : Nat) : Int) 1 _ HCC.out (by have := HLN.out; omega)
                  rw [← HLASTR.out HZ.out, show ((13 * K : Nat) : Int) = 13 * (K : Int) by omega] at hput
                  obtain ⟨t, ht⟩ : ∃ t, t = s.run (plan K c n) := ⟨_, rfl⟩
                  rw [← ht] at hput
                  have HT := Lib.hid ht.symm
                  clear ht s1 s2 s3
                  obtain ⟨t1, cd⟩ := t
                  match cd, hput, HT with
                  | 0, hput, HT =>
                    rw [show fcode 0 = 0 from rfl] at hput
                    have HV := Lib.hid (HSV.out t1 HT.out)
                    have HP := Lib.hid hput
                    clear hput
                    go_wp2_with fail
                    refine HP.out.mono ?_
                    rintro e wx ⟨rfl, hcx, hfx⟩
                    obtain ⟨b0, b1⟩ := HBA.out wx [p, g] (HQD.out.comb (HFF.out.trans hfx) (by simp) (by simp)) HPG.out.2.2
                    have hsx := hsr.fr hfx HPG.out.2.1
                    have z1 := hsx.frozen 1
                    have z2 := hsx.frozen 2
                    have z3 := hsx.frozen 3
                    obtain ⟨_, s1, s2, s3⟩ := hsx.cells
                    have HCX := Lib.hid hcx
                    have HFX := Lib.hid (show Fr w wx [sp, p, g] from HWD.out.comb (HFF.out.trans hfx) (by simp) (by simp))
                    have HSX := Lib.hid hsx
                    clear hcx hfx hsr hsx s0
                    go_wp2
                    go_ret
                    rw [HV.out]
                    have HFE := Lib.hid (Fr.trans HFX.out (Fr.trans (Fr.trans (Fr.setCell _ sp 1 (.int .i64 c) (List.mem_cons_self)) (Fr.setCell _ sp 2 (.int .i64 n) (List.mem_cons_self))) (Fr.setCell _ sp 3 (.int .i64 (K : Int)) (List.mem_cons_self))))
                    have hfs : ∀ W v1 v2 v3, Fr W (((W.setCell ⟨sp, 1, none⟩ v1).setCell ⟨sp, 2, none⟩ v2).setCell ⟨sp, 3, none⟩ v3) [sp] := fun W v1 v2 v3 => Fr.trans (Fr.trans (Fr.setCell _ sp 1 _ (List.mem_cons_self)) (Fr.setCell _ sp 2 _ (List.mem_cons_self))) (Fr.setCell _ sp 3 _ (List.mem_cons_self))
                    exact ⟨rfl, HCX.out.fr (hfs _ _ _ _) (by have := HNE.out; simp; omega) (by have := HNE.out; simp; omega), HSX.out.wr c n _, HFE.out⟩
                  | d + 1, hput, HT =>
                    have HV := Lib.hid (HSC.out t1 d HT.out)
                    obtain ⟨F, hF⟩ : ∃ F, F = fcode (d + 1) := ⟨_, rfl⟩
                    have hFn : (F != 0) = true := by rw [hF]; unfold fcode; rw [if_neg (by omega)]; simp; omega
                    rw [← hF] at hput
                    have HFC := Lib.hid hF
                    have HP := Lib.hid hput
                    clear hput hF
                    go_wp2_with fail
                    refine HP.out.mono ?_
                    rintro e wx ⟨rfl, hcx, hfx⟩
                    have HCX := Lib.hid hcx
                    have HSX := Lib.hid (hsr.fr hfx HPG.out.2.1)
                    have HFX := Lib.hid (show Fr w wx [sp, p, g] from HWD.out.comb (HFF.out.trans hfx) (by simp) (by simp))
                    clear hcx hfx hsr s0
                    go_wp2
                    go_ret
                    rw [HV.out, HFC.out]
                    exact ⟨rfl, HCX.out, HSX.out, HFX.out⟩
end Go.Proofs.YthiimkjhlndcoaaDoor
