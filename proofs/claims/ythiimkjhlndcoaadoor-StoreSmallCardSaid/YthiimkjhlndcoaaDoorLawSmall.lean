/- The walk of the law of the small: a memory that is too small is told; a number out of its range, one that falls, too; nothing is changed by it. -/
import Derived.Test.YthiimkjhlndcoaaDoorSFirst
namespace Go.Proofs.YthiimkjhlndcoaaDoor
open Go.RowKit

set_option maxRecDepth 100000 in
theorem open_small {is : List Nat} (p g : Nat) (s : CS) (w : World) (A : Nat → Addr) (B : Nat) (h : Cl w p g s) (hlen : s.l.length < 26) (hE : EV is w A B) (hs : ∀ i ∈ [2], i ∈ is := by decide) :
    Calls Tryd.prog 13 #[.pointer (some ⟨p, 0, none⟩)] w fun e w' => e = .returned (.tuple #[.pointer none, ev A 3]) ∧ Drawn w w' := by
  have hsz := cellSize_any p g s w h
  have e3 : w.cell? ⟨0, 0, none⟩ = some (ev A 3) := (hE.cell 2 (hs 2 (by decide))).1
  obtain ⟨L, hL⟩ : ∃ L, L = s.l.length := ⟨_, rfl⟩
  rw [← hL] at hsz hlen
  have HSZ := Lib.hid hsz
  clear hsz hL hE h
  go_enter Tryd.func13, Tryd.ntmps13
  go_wp2_with fail
  refine HSZ.out.mono ?_
  rintro e w0 ⟨rfl, rfl⟩
  go_wp2
  go_quiet (fail)
  go_wp2
  go_ret2
  exact ⟨rfl, _, rfl⟩

set_option maxHeartbeats 8000000 in
set_option maxRecDepth 100000 in
theorem small_walk (n0 c n : Int) (hn : (Lit.int .i64 n0).wf = true) (w : World) (A : Nat → Addr) (hE : E13 w A w.heap.size) :
    Calls Tryd.prog 6 #[.int .i64 n0, .int .i64 c, .int .i64 n] w fun e w' => e = .returned (.bool true) ∧ w.grownBy w' none := by
  obtain ⟨M, hM, _, hMc⟩ := numberTo_nat n0 60 (by omega) (by omega) hn
  have HM := Lib.hid hMc
  have HE := Lib.hid hE
  clear hMc hE hn
  by_cases h26 : M + 1 < 26
  · go_enter Tryd.func6, Tryd.ntmps6
    go_wp2_with fail
    refine (first3_any _ A (HE.out.evs [2, 4, 5, 7])).mono ?_
    rintro e w1 ⟨rfl, hg1⟩
    have HF1 := Lib.hid (Fr.of_grown hg1 [])
    clear hg1
    go_wp2_with fail
    refine (HM.out _).mono ?_
    rintro e w2 ⟨rfl, rfl⟩
    go_wp2_with fail
    refine (cellNew_ok (M + 1) _ (by omega) (by omega)).mono ?_
    rintro e w2 ⟨u, rfl, p, g, rfl, h2, hp, hg, hf2⟩
    have HF2 := Lib.hid (HF1.out.trans hf2)
    have HO := Lib.hid (open_small p g _ w2 A w.heap.size h2 (by simp [CS.new]; omega) ((HE.out.evs [2]).fr HF2.out (by simp)))
    clear h2 hf2
    have hlt : (M : Int) + 1 < 26 := by omega
    go_wp2_with fail
    refine HO.out.mono ?_
    rintro e w3 ⟨rfl, hd3⟩
    have HF3 := Lib.hid (HF2.out.trans (hd3.fr []))
    clear hd3
    go_wp2_with fail
    refine (is_any A w.heap.size 3 _ _ (HE.out.fr HF3.out (by simp)) (by decide) rfl).mono ?_
    rintro e w4 ⟨rfl, hg4⟩
    have HF4 := Lib.hid (HF3.out.trans (Fr.of_grown hg4 []))
    clear hg4
    go_wp2
    go_ret
    exact ⟨rfl, HF4.out.grown (by simp)⟩
  · have hnlt : ¬ (M : Int) + 1 < 26 := by omega
    go_enter Tryd.func6, Tryd.ntmps6
    go_wp2_with fail
    refine (first3_any _ A (HE.out.evs [2, 4, 5, 7])).mono ?_
    rintro e w1 ⟨rfl, hg1⟩
    have HF1 := Lib.hid (Fr.of_grown hg1 [])
    clear hg1
    go_wp2_with fail
    refine (HM.out _).mono ?_
    rintro e w2 ⟨rfl, rfl⟩
    go_wp2_with fail
    refine (cellNew_ok (M + 1) _ (by omega) (by omega)).mono ?_
    rintro e w2 ⟨u, rfl, p, g, rfl, h2, hp, hg, hf2⟩
    have HF2 := Lib.hid (HF1.out.trans hf2)
    have HPG := Lib.hid (show w.heap.size ≤ p ∧ w.heap.size ≤ g from ⟨Nat.le_trans HF1.out.size hp, Nat.le_trans HF1.out.size hg⟩)
    have hop := open_any p g _ w2 A w.heap.size h2 rfl (by simp [CS.new]; omega) (new_by (M + 1)) ((HE.out.evs [4, 5]).fr HF2.out (by simp)) HF2.out.size
    rw [open_new] at hop
    have HO := Lib.hid hop
    have H2 := Lib.hid h2
    clear h2 hf2 hop hp hg
    go_wp2_with fail
    refine HO.out.mono ?_
    rintro e w3 ⟨u, rfl, sp, rfl, hs, hsp, hf3⟩
    have HF3 := Lib.hid (HF2.out.trans hf3)
    have HSP := Lib.hid (show w.heap.size ≤ sp from Nat.le_trans HF2.out.size hsp)
    have hst : St w3 sp p g SR.none (CS.new (M + 1)) := ⟨hs, H2.out.fr hf3 (by simp) (by simp), SR.none_in, new_by _⟩
    have hsv := st_save sp p g SR.none (CS.new (M + 1)) 5 7 w3 A w.heap.size hst (by simp [CS.new]) ((HE.out.evs [2, 4, 5, 7]).fr HF3.out (by simp)) HPG.out.1 HPG.out.2
    rw [SR.save_ok SR.none (CS.new (M + 1)) 5 7 rfl (by simp [CS.new]; omega) rfl rfl, show ev A 0 = .nilIface from rfl] at hsv
    obtain ⟨s1, hs1⟩ : ∃ s1, s1 = ({ CS.new (M + 1) with l := setAll (CS.new (M + 1)).l (plan SR.none.spare 5 7), n := (CS.new (M + 1)).n + 14 } : CS) := ⟨_, rfl⟩
    rw [← hs1] at hsv
    have HS1 := Lib.hid (show s1.d = false ∧ 26 ≤ s1.l.length ∧ s1.a = 0 ∧ s1.n = 14 by rw [hs1]; exact ⟨rfl, by simp only [setAll_len]; simp [CS.new]; omega, rfl, rfl⟩)
    have HSV := Lib.hid hsv
    clear hs hf3 hsp hst hsv hs1
    go_wp2_with fail
    refine HSV.out.mono ?_
    rintro e w4 ⟨rfl, hs4, hf4⟩
    have HS4 := Lib.hid hs4
    have HF4 := Lib.hid (HF3.out.new hf4 (by have := HPG.out; have := HSP.out; simp; omega))
    have hwr := cellWrites_any p g s1 w4 hs4.cl
    rw [HS1.out.2.2.2] at hwr
    have HWR := Lib.hid hwr
    clear hs4 hf4 hwr
    go_wp2_with fail
    refine HWR.out.mono ?_
    rintro e w5 ⟨rfl, rfl⟩
    -- the second save
    have hsv2 := st_save sp p g ⟨5, 7, 0⟩ s1 c n w4 A w.heap.size HS4.out (by have := HS1.out.2.2.2; omega) ((HE.out.evs [2, 4, 5, 7]).fr HF4.out (by simp)) HPG.out.1 HPG.out.2
    have hcases : ∃ (code : Nat) (R2 : SR) (s2 : CS), (SR.mk 5 7 0).save s1 c n = (s2, R2, code) ∧
        (((code = 3 ∧ (c < 0 ∨ n < 0 ∨ 281474976710656 ≤ c ∨ 281474976710656 ≤ n)) ∧ R2 = ⟨5, 7, 0⟩ ∧ s2.n = 14) ∨
         ((code = 8 ∧ ¬ (c < 0 ∨ n < 0 ∨ 281474976710656 ≤ c ∨ 281474976710656 ≤ n) ∧ (c < 5 ∨ n < 7 ∨ (c = 5 ∧ n = 7))) ∧ R2 = ⟨5, 7, 0⟩ ∧ s2.n = 14) ∨
         ((code = 0 ∧ ¬ (c < 0 ∨ n < 0 ∨ 281474976710656 ≤ c ∨ 281474976710656 ≤ n) ∧ ¬ (c < 5 ∨ n < 7 ∨ (c = 5 ∧ n = 7))) ∧ R2 = ⟨c, n, 1⟩ ∧ s2.n = 28)) := by
      obtain ⟨hd, hl, ha, hnn⟩ := HS1.out
      by_cases h1 : c < 0 ∨ n < 0 ∨ 281474976710656 ≤ c ∨ 281474976710656 ≤ n
      · exact ⟨_, _, _, SR.save_no _ s1 c n 2 (by unfold SR.code; rw [if_pos (by omega)]), .inl ⟨⟨rfl, h1⟩, rfl, hnn⟩⟩
      · by_cases h2 : c < 5 ∨ n < 7 ∨ (c = 5 ∧ n = 7)
        · exact ⟨_, _, _, SR.save_no _ s1 c n 7 (by unfold SR.code; rw [if_neg (by omega), if_pos (by simp only; omega)]), .inr (.inl ⟨⟨rfl, h1, h2⟩, rfl, hnn⟩)⟩
        · exact ⟨_, _, _, SR.save_ok _ s1 c n hd hl ha (by unfold SR.code; rw [if_neg (by omega), if_neg (by simp only; omega)]), .inr (.inr ⟨⟨rfl, h1, h2⟩, rfl, by simp only; omega⟩)⟩
    obtain ⟨code, R2, s2, he, hways⟩ := hcases
    rw [he] at hsv2
    have HSV2 := Lib.hid hsv2
    clear hsv2 he
    have HX0 := Lib.hid (fun W => fld0 5 7 W)
    have HX1 := Lib.hid (fun W => fld1 5 7 W)
    have HY0 := Lib.hid (fun W => fld0 c n W)
    have HY1 := Lib.hid (fun W => fld1 c n W)
    have hA : (c < 5) ∨ (¬ c < 5 ∧ n < 7) ∨ (¬ c < 5 ∧ ¬ n < 7 ∧ c = 5 ∧ n = 7) ∨ (¬ c < 5 ∧ ¬ n < 7 ∧ ¬ c = 5) ∨ (¬ c < 5 ∧ ¬ n < 7 ∧ c = 5 ∧ ¬ n = 7) := by clear hways; omega
    have hB : (c < 0) ∨ (¬ c < 0 ∧ n < 0) ∨ (¬ c < 0 ∧ ¬ n < 0 ∧ 281474976710656 ≤ c) ∨ (¬ c < 0 ∧ ¬ n < 0 ∧ ¬ 281474976710656 ≤ c ∧ 281474976710656 ≤ n) ∨ (¬ c < 0 ∧ ¬ n < 0 ∧ ¬ 281474976710656 ≤ c ∧ ¬ 281474976710656 ≤ n) := by clear hways hA; omega
    rcases hways with ⟨⟨rfl, h⟩, rfl, hn2⟩ | ⟨⟨rfl, h, h'⟩, rfl, hn2⟩ | ⟨⟨rfl, h, h'⟩, rfl, hn2⟩
    · have HN2 := Lib.hid hn2
      have hsv2 := HSV2.out
      rw [show ev A 3 = .iface 95 (.pointer (some (A 3))) from rfl] at hsv2
      have HSVV := Lib.hid hsv2
      clear hn2 hsv2 HSV2
      have hx0 := HX0.out
      have hx1 := HX1.out
      rcases hA with a1 | ⟨a1, a2⟩ | ⟨a1, a2, a3, a4⟩ | ⟨a1, a2, a3⟩ | ⟨a1, a2, a3, a4⟩ <;> rcases hB with b1 | ⟨b1, b2⟩ | ⟨b1, b2, b3⟩ | ⟨b1, b2, b3, b4⟩ | ⟨b1, b2, b3, b4⟩ <;> first | (exfalso; omega) | skip
      all_goals
        clear h 
        try (have q3 : (c == 5) = true := (by simpa using a3); clear a3)
        try (have q3 : (c == 5) = false := (by simpa using a3); clear a3)
        try (have q4 : (n == 7) = true := (by simpa using a4); clear a4)
        try (have q4 : (n == 7) = false := (by simpa using a4); clear a4)
        go_wp2_with fail
        refine HSVV.out.mono ?_
        rintro e w6 ⟨rfl, hs6, hf6⟩
        have HS6 := Lib.hid hs6
        have HF6 := Lib.hid (HF4.out.new hf6 (by have := HPG.out; have := HSP.out; simp; omega))
        clear hs6 hf6
        go_wp2_with fail
        refine (is_any A w.heap.size 3 _ _ (HE.out.fr HF6.out (by simp)) (by decide) rfl).mono ?_
        rintro e w7 ⟨rfl, hg7⟩
        have HG7 := Lib.hid (Fr.of_grown hg7 [])
        have hwr := cellWrites_any p g s2 w7 (HS6.out.cl.fr HG7.out (by simp) (by simp))
        rw [HN2.out] at hwr
        have HWR2 := Lib.hid hwr
        clear hg7 hwr
        go_wp2_with fail
        refine HWR2.out.mono ?_
        rintro e w8 ⟨rfl, rfl⟩
        go_wp2_with fail
        refine (record_any sp p _ _ (HS6.out.sr.fr HG7.out (by simp))).mono ?_
        rintro e w8 ⟨rfl, hf8⟩
        have HF8 := Lib.hid (HG7.out.trans hf8)
        clear hf8
        go_wp2_with fail
        refine (record_any sp p _ _ (HS6.out.sr.fr HF8.out (by simp))).mono ?_
        rintro e w9 ⟨rfl, hf9⟩
        have HF9 := Lib.hid (HF8.out.trans hf9)
        clear hf9
        go_wp2
        go_ret
        exact ⟨rfl, (HF6.out.trans HF9.out).grown (by simp)⟩
    · have HN2 := Lib.hid hn2
      have hsv2 := HSV2.out
      rw [show ev A 8 = .iface 95 (.pointer (some (A 8))) from rfl] at hsv2
      have HSVV := Lib.hid hsv2
      clear hn2 hsv2 HSV2
      have hx0 := HX0.out
      have hx1 := HX1.out
      rcases hA with a1 | ⟨a1, a2⟩ | ⟨a1, a2, a3, a4⟩ | ⟨a1, a2, a3⟩ | ⟨a1, a2, a3, a4⟩ <;> rcases hB with b1 | ⟨b1, b2⟩ | ⟨b1, b2, b3⟩ | ⟨b1, b2, b3, b4⟩ | ⟨b1, b2, b3, b4⟩ <;> first | (exfalso; omega) | skip
      all_goals
        clear h h'
        try (have q3 : (c == 5) = true := (by simpa using a3); clear a3)
        try (have q3 : (c == 5) = false := (by simpa using a3); clear a3)
        try (have q4 : (n == 7) = true := (by simpa using a4); clear a4)
        try (have q4 : (n == 7) = false := (by simpa using a4); clear a4)
        go_wp2_with fail
        refine HSVV.out.mono ?_
        rintro e w6 ⟨rfl, hs6, hf6⟩
        have HS6 := Lib.hid hs6
        have HF6 := Lib.hid (HF4.out.new hf6 (by have := HPG.out; have := HSP.out; simp; omega))
        clear hs6 hf6
        go_wp2_with fail
        refine (is_any A w.heap.size 8 _ _ (HE.out.fr HF6.out (by simp)) (by decide) rfl).mono ?_
        rintro e w7 ⟨rfl, hg7⟩
        have HG7 := Lib.hid (Fr.of_grown hg7 [])
        have hwr := cellWrites_any p g s2 w7 (HS6.out.cl.fr HG7.out (by simp) (by simp))
        rw [HN2.out] at hwr
        have HWR2 := Lib.hid hwr
        clear hg7 hwr
        go_wp2_with fail
        refine HWR2.out.mono ?_
        rintro e w8 ⟨rfl, rfl⟩
        go_wp2_with fail
        refine (record_any sp p _ _ (HS6.out.sr.fr HG7.out (by simp))).mono ?_
        rintro e w8 ⟨rfl, hf8⟩
        have HF8 := Lib.hid (HG7.out.trans hf8)
        clear hf8
        go_wp2_with fail
        refine (record_any sp p _ _ (HS6.out.sr.fr HF8.out (by simp))).mono ?_
        rintro e w9 ⟨rfl, hf9⟩
        have HF9 := Lib.hid (HF8.out.trans hf9)
        clear hf9
        go_wp2
        go_ret
        exact ⟨rfl, (HF6.out.trans HF9.out).grown (by simp)⟩
    · have HN2 := Lib.hid hn2
      have hsv2 := HSV2.out
      rw [show ev A 0 = .nilIface from rfl] at hsv2
      have HSVV := Lib.hid hsv2
      clear hn2 hsv2 HSV2
      have hy0 := HY0.out
      have hy1 := HY1.out
      have hc1 : (c == c) = true := by simp
      have hn1 : (n == n) = true := by simp
      rcases hA with a1 | ⟨a1, a2⟩ | ⟨a1, a2, a3, a4⟩ | ⟨a1, a2, a3⟩ | ⟨a1, a2, a3, a4⟩ <;> rcases hB with b1 | ⟨b1, b2⟩ | ⟨b1, b2, b3⟩ | ⟨b1, b2, b3, b4⟩ | ⟨b1, b2, b3, b4⟩ <;> first | (exfalso; omega) | skip
      all_goals
        clear h h'
        try (have q3 : (c == 5) = true := (by simpa using a3); clear a3)
        try (have q3 : (c == 5) = false := (by simpa using a3); clear a3)
        try (have q4 : (n == 7) = false := (by simpa using a4); clear a4)
        go_wp2_with fail
        refine HSVV.out.mono ?_
        rintro e w6 ⟨rfl, hs6, hf6⟩
        have HS6 := Lib.hid hs6
        have HF6 := Lib.hid (HF4.out.new hf6 (by have := HPG.out; have := HSP.out; simp; omega))
        clear hs6 hf6
        go_wp2_with fail
        refine (record_any sp p _ _ HS6.out.sr).mono ?_
        rintro e w8 ⟨rfl, hf8⟩
        have HF8 := Lib.hid hf8
        clear hf8
        go_wp2_with fail
        refine (record_any sp p _ _ (HS6.out.sr.fr HF8.out (by simp))).mono ?_
        rintro e w9 ⟨rfl, hf9⟩
        have HF9 := Lib.hid (HF8.out.trans hf9)
        have hwr := cellWrites_any p g s2 w9 (HS6.out.cl.fr HF9.out (by simp) (by simp))
        rw [HN2.out] at hwr
        have HWR2 := Lib.hid hwr
        clear hf9 hwr
        go_wp2_with fail
        refine HWR2.out.mono ?_
        rintro e w10 ⟨rfl, rfl⟩
        go_wp2
        go_ret
        exact ⟨rfl, (HF6.out.trans HF9.out).grown (by simp)⟩
end Go.Proofs.YthiimkjhlndcoaaDoor
