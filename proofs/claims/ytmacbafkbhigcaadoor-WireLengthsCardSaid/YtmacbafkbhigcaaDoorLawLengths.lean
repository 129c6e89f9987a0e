/- The walk of the law of lengths: a text of more bytes than may be is refused, at its beginning; of as many as may be it is read. -/
import Derived.Test.YtmacbafkbhigcaaDoorLawForms
import Derived.Test.YtmacbafkbhigcaaDoorLawPuts
namespace Go.Proofs.YtmacbafkbhigcaaDoor
open Go.RowKit

theorem emod_walk (n b : Int) (hb : 0 < b) : n % b = if n.tmod b < 0 then n.tmod b + b else n.tmod b := by
  have h1 := Int.emod_nonneg n (show b ≠ 0 by omega)
  have h2 := Int.emod_lt_of_pos n hb
  have h3 := Int.tmod_lt_of_pos n hb
  have h4 := Int.mul_ediv_add_emod n b
  have h5 := Int.mul_tdiv_add_tmod n b
  by_cases h : 0 ≤ n
  · rw [Int.tmod_eq_emod_of_nonneg h, if_neg (by omega)]
  · have h6 : n.tmod b ≤ 0 := by
      have := Int.tmod_nonneg b (show 0 ≤ -n by omega)
      rw [Int.neg_tmod] at this; omega
    have h7 : -b < n.tmod b := by
      have := Int.tmod_lt_of_pos (-n) hb
      rw [Int.neg_tmod] at this; omega
    have key : n.tmod b = n % b ∨ n.tmod b = n % b - b := by
      have e : b * (n / b - n.tdiv b) = n.tmod b - n % b := by rw [Int.mul_sub]; omega
      have hq : n / b - n.tdiv b = 0 ∨ n / b - n.tdiv b = -1 := by
        have hlo : -b * 2 < b * (n / b - n.tdiv b) := by omega
        have hhi : b * (n / b - n.tdiv b) < b := by omega
        have a1 : -2 < n / b - n.tdiv b := by
          apply Int.lt_of_mul_lt_mul_left (a := b) _ (by omega)
          have : b * -2 = -b * 2 := by omega
          omega
        have a2 : n / b - n.tdiv b < 1 := by
          apply Int.lt_of_mul_lt_mul_left (a := b) _ (by omega)
          omega
        omega
      rcases hq with hq | hq
      · rw [hq] at e; left; omega
      · rw [hq] at e; right; omega
    rcases key with h | h
    · rw [h]; split <;> omega
    · rw [h]; split <;> omega

/-- 'Number': from 0 to below a bound. -/
theorem numberTo_any (n b : Int) (w : World) (hb : 0 < b) (hb1 : b ≤ 1000000) (_h0 : -9223372036854775808 ≤ n) (_h1 : n ≤ 9223372036854775807) :
    Calls Tryd.prog 25 #[.int .i64 n, .int .i64 b] w fun e w' => e = .returned (.int .i64 (n % b)) ∧ w = w' := by
  have hne : ¬ b = 0 := by omega
  have hlt := Int.tmod_lt_of_pos n hb
  have hgt : -b < n.tmod b := by
    have := Int.tmod_lt_of_pos (-n) hb
    rw [Int.neg_tmod] at this; omega
  have HEM := Lib.hid (emod_walk n b hb)
  by_cases hneg : n.tmod b < 0
  · have HV : Hid (n % b = n.tmod b + b) := by show _ = _; rw [HEM.out, if_pos hneg]
    go_enter Tryd.func25, Tryd.ntmps25
    go_wp2
    go_ret
    exact ⟨by rw [HV.out]; rfl, rfl⟩
  · have HV : Hid (n % b = n.tmod b) := by show _ = _; rw [HEM.out, if_neg hneg]
    go_enter Tryd.func25, Tryd.ntmps25
    go_wp2
    go_ret
    exact ⟨by rw [HV.out]; rfl, rfl⟩

/-- 'make([]byte, n)': n zeroes. -/
theorem make_zero (w : World) (n : Nat) (hc : n ≤ 140737488355328) :
    (Instr.makeSlice 22 (.int .i64 (n : Int)) (.int .i64 (n : Int))).run Tryd.prog w = .ok (.slice (some ⟨w.heap.size, 0, none⟩) n n) (w.alloc (.cells (u8s (List.replicate n 0)).toArray 5)) := by
  obtain ⟨i0, hi, hz0, hz1, hz2⟩ := info_parts infoU8
  have hr := run_make (P := Tryd.prog) w 22 5 i0 (.int .u8 0) Tryd.underlying22 hi hz0 .i64 .i64 (n : Int) (n : Int) (by omega) (by omega) (by rw [hz2]; omega) (by omega)
  rw [hr, Int.toNat_natCast, hz1, Nat.mul_one]
  have e : madeCells (Value.int .u8 0).cells n = (u8s (List.replicate n 0)).toArray := by
    apply Array.ext'
    show (madeCells #[Value.int .u8 0] n).toList = _
    rw [toList_madeCells_one]
    simp [u8s]
  rw [e]

theorem str_size (l : List Int) : (strOfNums l).size = l.length := strOfNums_size l

set_option maxHeartbeats 4000000 in
set_option maxRecDepth 100000 in
theorem lengths_walk (n0 most0 : Int) (hn : (Lit.int .i64 n0).wf = true) (hm : (Lit.int .i64 most0).wf = true) (w : World) (A : Nat → Addr) (hE : E13 w A w.heap.size) :
    Calls Tryd.prog 7 #[.int .i64 n0, .int .i64 most0] w fun e w' => e = .returned (.bool true) ∧ w.grownBy w' none := by
  obtain ⟨hn0, hn1⟩ := bounds_i64 hn
  obtain ⟨hm0, hm1⟩ := bounds_i64 hm
  obtain ⟨N, hN⟩ := Int.eq_ofNat_of_zero_le (Int.emod_nonneg n0 (show (300 : Int) ≠ 0 by decide))
  obtain ⟨M, hM⟩ := Int.eq_ofNat_of_zero_le (Int.emod_nonneg most0 (show (300 : Int) ≠ 0 by decide))
  have hNl : N < 300 := by have := Int.emod_lt_of_pos n0 (show (0 : Int) < 300 by decide); omega
  have hMl : M < 300 := by have := Int.emod_lt_of_pos most0 (show (0 : Int) < 300 by decide); omega
  have hnum1 := fun W => numberTo_any n0 300 W (by decide) (by decide) hn0 hn1
  have hnum2 := fun W => numberTo_any most0 300 W (by decide) (by decide) hm0 hm1
  rw [hN] at hnum1
  rw [hM] at hnum2
  have HN1 := Lib.hid hnum1
  have HN2 := Lib.hid hnum2
  have HE := Lib.hid hE
  clear hnum1 hnum2 hE hN hM
  go_enter Tryd.func7, Tryd.ntmps7
  go_wp2_with fail
  refine (first_any _).mono ?_
  rintro e w1 ⟨rfl, hg1⟩
  go_wp2_with fail
  refine (HN1.out _).mono ?_
  rintro e w2 ⟨rfl, rfl⟩
  go_wp2_with fail
  refine (HN2.out _).mono ?_
  rintro e w2 ⟨rfl, rfl⟩
  have hmk := make_zero (w1.alloc (.cells #[.int .u8 0] 5)) N (by omega)
  have hlit := lit_bytes (w1.alloc (.cells #[.int .u8 0] 5)) (List.replicate N 0) (by simp; unfold maxLen; omega)
  have hcv := convert_any _ _ _ hlit
  rw [List.length_replicate] at hcv
  have hzero := (lit_bytes w1 [0]).grown (World.grownBy_alloc (w1.alloc (.cells #[.int .u8 0] 5)) (.cells (u8s (List.replicate N 0)).toArray 5) none)
  have HZ := Lib.hid hzero
  have hs12 : ((w1.alloc (.cells #[.int .u8 0] 5)).heap.size) = w1.heap.size + 1 := by simp
  rw [hs12] at hmk hcv
  obtain ⟨S, hS⟩ : ∃ S, S = strOfNums (List.replicate N 0) := ⟨_, rfl⟩
  have hSl : S.size = N := by rw [hS, str_size, List.length_replicate]
  rw [← hS] at hcv
  clear hlit hS hs12 hzero
  subst hSl
  have HS3 := Lib.hid hNl
  go_wp2_with fail
  refine (putText_any _ [0] S _ HZ.out (by simp; omega)).mono ?_
  rintro e w4 ⟨u, rfl, hou, hg4⟩
  have h4 := grown_trans hg1 (grown_trans (World.grownBy_alloc w1 _ none) (grown_trans (World.grownBy_alloc _ _ none) hg4))
  have ls := Wm.enc_len S.size
  obtain ⟨L, hL⟩ : ∃ L, L = [0] ++ (Wm.enc S.size ++ bs S) := ⟨_, rfl⟩
  have hLl : L.length = 1 + ((Wm.enc S.size).length + S.size) := by rw [hL]; simp only [List.length_append, bs_len, List.length_singleton]
  have hLb : Wm.Byte L := by
    rw [hL]
    intro x hx
    rcases List.mem_append.1 hx with h | h
    · simp at h; omega
    · rcases List.mem_append.1 h with h | h
      · exact Wm.enc_byte S.size (by omega) (by omega) x h
      · exact bs_byte S x h
  have hs1 : (0, 1, 0) = Wm.numS L 0 0 1 := by
    have e : Wm.numF 0 0 L = (0, 1, 0) := by rw [hL]; rfl
    unfold Wm.numS
    rw [List.drop_zero, e, if_neg (by simp), if_neg (by simp)]; rfl
  have e1 : L.drop 1 = Wm.enc S.size ++ bs S := by rw [hL]; rfl
  have e2 : L.drop (1 + (Wm.enc S.size).length) = bs S := by rw [← List.drop_drop, e1, List.drop_left]
  have hs2 : S.size ≤ M → (bs S, L.length, 0) = Wm.textS L 1 (M : Int) := by
    intro hle
    have hnum : Wm.numS L 1 0 (M : Int) = ((S.size : Int), 1 + (Wm.enc S.size).length, 0) := by
      unfold Wm.numS
      rw [e1, Wm.num_enc S.size (by omega) (by omega), if_neg (by simp), if_neg (by omega)]
    unfold Wm.textS
    rw [hnum, if_neg (by simp), if_neg (by simp only; omega)]
    simp only [e2, Int.toNat_natCast]
    rw [List.take_of_length_le (by rw [bs_len]; exact Nat.le_refl _), hLl, Nat.add_assoc]
  have hs3 : ¬ S.size ≤ M → ([], 1, 3) = Wm.textS L 1 (M : Int) := by
    intro hle
    have hnum : Wm.numS L 1 0 (M : Int) = (0, 1, 3) := by
      unfold Wm.numS
      rw [e1, Wm.num_enc S.size (by omega) (by omega), if_neg (by simp), if_pos (by omega)]
    unfold Wm.textS
    rw [hnum, if_pos (by simp)]
  rw [← hL] at hou
  have HOU := Lib.hid hou.bytes
  have HLL := Lib.hid hLl
  have HLB := Lib.hid hLb
  have HSA := Lib.hid hs1
  have HSB := Lib.hid hs2
  have HSC := Lib.hid hs3
  have H4 := Lib.hid h4
  have HLS := Lib.hid ls
  clear hL hou hLl hLb hs1 hs2 hs3 e1 e2 h4 hg1 hg4 ls hmk hcv
  go_wp2_with fail
  refine (new_any _ L _ HOU.out (by have := HLL.out; have := HLS.out; omega)).mono ?_
  rintro e w5 ⟨u5, rfl, p, rfl, hrd, hg5⟩
  have hrd' := hrd.mono (B' := w.heap.size) H4.out.size
  have hE5 := HE.out.kept (grown_trans H4.out hg5) (fun r e => by cases e)
  have HRD := Lib.hid hrd'
  have HE5 := Lib.hid hE5
  have H5 := Lib.hid (grown_trans H4.out hg5)
  clear hrd hrd' hE5 hg5
  have hbool : Calls Tryd.prog 24 #[.pointer (some ⟨p, 0, none⟩)] w5 fun e w' => e = .returned (.bool false) ∧ Rd w' w.heap.size p L 1 (ev A 0) ∧ w5.grownBy w' (some p) :=
    bool_ok p L 0 w5 A w.heap.size HRD.out (Nat.zero_le _) HLB.out HE5.out.three (0, 1, 0) HSA.out
  have HBOOL := Lib.hid hbool
  clear hbool
  go_wp2_with fail
  refine HBOOL.out.mono ?_
  rintro e w6 ⟨rfl, hrd6, hg6⟩
  have HRD6 := Lib.hid hrd6
  have HE6 := Lib.hid (HE5.out.kept hg6 (fun r e => by cases e; exact HRD.out.1))
  have H6 := Lib.hid (grown_new H5.out hg6 (fun r e => by cases e; exact HRD.out.1))
  clear hrd6 hg6
  by_cases hle : S.size ≤ M
  · have hle2 : (S.size : Int) ≤ (M : Int) := by omega
    go_wp2_with fail
    refine (text_ok p L 1 _ _ A w.heap.size HRD6.out (by have := HLL.out; omega) HLB.out HE6.out.three (by omega) (by omega) _ (HSB.out hle)).mono ?_
    rintro e w7 ⟨rfl, hrd7, hg7⟩
    have HRD7 := Lib.hid hrd7
    have H7 := Lib.hid (grown_new H6.out hg7 (fun r e => by cases e; exact HRD6.out.1))
    have hstr := str_bs S
    have HSTR := Lib.hid hstr
    have hleft : ∀ W, w7.grownBy W none → Calls Tryd.prog 19 #[.pointer (some ⟨p, 0, none⟩)] W fun e w' => e = .returned (.int .i64 0) ∧ Drawn W w' := fun W hW => by
      have := left_any p L L.length W w.heap.size _ (HRD7.out.grown hW) (Nat.le_refl _)
      rw [Nat.sub_self] at this
      exact this
    have HLEFT := Lib.hid hleft
    clear hrd7 hg7 hstr hleft
    rw [HSTR.out]
    go_wp2_with fail
    refine (err_nil p _ L.length _ w.heap.size HRD7.out).mono ?_
    rintro e w8 ⟨rfl, rfl⟩
    go_wp2_with fail
    refine (HLEFT.out _ (grown_refl _ _)).mono ?_
    rintro e w9 ⟨rfl, hdr⟩
    go_wp2
    go_ret
    exact ⟨rfl, grown_trans H7.out (hdr.grown none)⟩
  · have hle2 : ¬ (S.size : Int) ≤ (M : Int) := by omega
    have hempty : strOfNums [] = ByteArray.empty := rfl
    go_wp2_with fail
    refine (text_ok p L 1 _ _ A w.heap.size HRD6.out (by have := HLL.out; omega) HLB.out HE6.out.three (by omega) (by omega) _ (HSC.out hle)).mono ?_
    rintro e w7 ⟨rfl, hrd7, hg7⟩
    have HRD7 := Lib.hid hrd7
    have HE7 := Lib.hid (HE6.out.kept hg7 (fun r e => by cases e; exact HRD6.out.1))
    have H7 := Lib.hid (grown_new H6.out hg7 (fun r e => by cases e; exact HRD6.out.1))
    clear hrd7 hg7
    go_wp2_with fail
    refine (err_bad p _ 1 _ A w.heap.size 3 HRD7.out (by decide)).mono ?_
    rintro e w8 ⟨u8, rfl, hat, hg8⟩
    have HAT := Lib.hid hat
    clear hat
    go_wp2_with fail
    refine (placed_any _ _ _ (by decide)).mono ?_
    rintro e w9 ⟨rfl, hg9⟩
    go_wp2_with fail
    refine (same_code A w.heap.size 1 2 u8 _ ((HE7.out.kept hg8 (fun r e => by cases e)).kept hg9 (fun r e => by cases e)) (by decide) (HAT.out.grown hg9) _ _ (by decide) (by decide)).mono ?_
    rintro e w10 ⟨rfl, hg10⟩
    go_wp2
    go_ret
    exact ⟨rfl, grown_trans H7.out (grown_trans hg8 (grown_trans hg9 hg10))⟩
end Go.Proofs.YtmacbafkbhigcaaDoor
