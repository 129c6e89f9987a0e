/- Package store: write (a slot is written). -/
import Derived.Test.YthiimkjhlndcoaaDoorStore
namespace Go.Proofs.YthiimkjhlndcoaaDoor
open Go.RowKit

set_option maxHeartbeats 2000000 in
set_option maxRecDepth 100000 in
theorem write_any {is : List Nat} (p g : Nat) (s : CS) (k : Nat) (c n : Int) (w : World) (A : Nat → Addr) (B : Nat) (h : Cl w p g s) (hk : k < 2) (hsn : s.n < 9223372036854770000) (hc : 0 ≤ c ∧ c ≤ 281474976710655) (hn : 0 ≤ n ∧ n ≤ 281474976710655)
    (hE : EV is w A B) (hBp : B ≤ p) (hBg : B ≤ g) (hs : ∀ i ∈ [4, 5], i ∈ is := by decide) :
    Calls Tryd.prog 34 #[.pointer (some ⟨p, 0, none⟩), .int .i64 (k : Int), .agg #[.int .i64 c, .int .i64 n]] w fun e w' => e = .returned (ev A (s.run (plan k c n)).2) ∧ Cl w' p g (s.run (plan k c n)).1 ∧ Fr w w' [p, g] := by
  have hlt := h.lt
  have H := Lib.hid h
  have HE := Lib.hid hE
  have HN := Lib.hid hsn
  have HCC := Lib.hid hc
  have HNN := Lib.hid hn
  clear h hE hsn hc hn
  -- the box of the record
  have hf0 : Fr w (w.alloc (.cells #[.int .i64 c, .int .i64 n] 35)) [p, g] := Fr.alloc _ _ _
  have hbox : ∀ W, Fr (w.alloc (.cells #[.int .i64 c, .int .i64 n] 35)) W [p, g] → W.cell? ⟨w.heap.size, 0, none⟩ = some (.int .i64 c) ∧ W.cell? ⟨w.heap.size, 1, none⟩ = some (.int .i64 n) := by
    intro W hW
    have hr := hW.heap (heap_alloc_new w (.cells #[.int .i64 c, .int .i64 n] 35)) (by simp; omega)
    exact ⟨by rw [cell_of_row W _ 0 _ _ _ hr]; rfl, by rw [cell_of_row W _ 1 _ _ _ hr]; rfl⟩
  have HF0 := Lib.hid hf0
  have HBOX := Lib.hid hbox
  clear hf0 hbox
  have put1 := fun W (hW : Fr w W [p, g]) (hC : Cl W p g s) => cellPut_any p g s ((13 * k : Nat) : Int) 0 W A B hC (by have := HN.out; omega) (HE.out.fr hW (by simp; omega)) hBp hBg hs
  have hn1 := s.put_n (13 * k) 0
  obtain ⟨t1, ht1⟩ : ∃ t, t = s.put ((13 * k : Nat) : Int) 0 := ⟨_, rfl⟩
  rw [← ht1] at put1 hn1
  obtain ⟨s1, c1⟩ := t1
  have hnum := fun (s1 : CS) (hs1 : s1.n ≤ s.n + 20) W (hW : Fr w W [p, g]) (hC : Cl W p g s1) => writeNumber_any p g s1 (13 * k + 1) c W A B hC (by omega) (by have := HN.out; omega) HCC.out.1 HCC.out.2 (HE.out.fr hW (by simp; omega)) hBp hBg hs
  have hnum2 := fun (s1 : CS) (hs1 : s1.n ≤ s.n + 20) W (hW : Fr w W [p, g]) (hC : Cl W p g s1) => writeNumber_any p g s1 (13 * k + 7) n W A B hC (by omega) (by have := HN.out; omega) HNN.out.1 HNN.out.2 (HE.out.fr hW (by simp; omega)) hBp hBg hs
  have put2 := fun (s1 : CS) (hs1 : s1.n ≤ s.n + 20) W (hW : Fr w W [p, g]) (hC : Cl W p g s1) => cellPut_any p g s1 ((13 * k : Nat) : Int) 1 W A B hC (by have := HN.out; omega) (HE.out.fr hW (by simp; omega)) hBp hBg hs
  have hl1 : (six (13 * k + 1) c).length = 6 := rfl
  have hl2 : (six (13 * k + 7) n).length = 6 := rfl
  have hpl := (fun (s1 s2 s3 : CS) (h1 : s.put ((13 * k : Nat) : Int) 0 = (s1, 0)) h2 h3 => run_plan s s1 s2 s3 k c n h1 h2 h3)
  have hpl1 := (fun (s1 : CS) (d : Nat) (h1 : s.put ((13 * k : Nat) : Int) 0 = (s1, d + 1)) => run_plan1 s s1 k c n d h1)
  have hpl2 := (fun (s1 s2 : CS) (d : Nat) (h1 : s.put ((13 * k : Nat) : Int) 0 = (s1, 0)) h2 => run_plan2 s s1 s2 k c n d h1 h2)
  have hpl3 := (fun (s1 s2 s3 : CS) (d : Nat) (h1 : s.put ((13 * k : Nat) : Int) 0 = (s1, 0)) h2 h3 => run_plan3 s s1 s2 s3 k c n d h1 h2 h3)
  obtain ⟨r, hr⟩ : ∃ r, r = s.run (plan k c n) := ⟨_, rfl⟩
  rw [← hr] at hpl hpl1 hpl2 hpl3 ⊢
  clear hr
  obtain ⟨S1, hS1⟩ : ∃ S, S = six (13 * k + 1) c := ⟨_, rfl⟩
  obtain ⟨S2, hS2⟩ : ∃ S, S = six (13 * k + 7) n := ⟨_, rfl⟩
  rw [← hS1] at hl1 hnum hpl hpl2 hpl3
  rw [← hS2] at hl2 hnum2 hpl hpl3
  clear hS1 hS2
  have HL1 := Lib.hid hl1
  have HL2 := Lib.hid hl2
  clear hl1 hl2
  obtain ⟨I, I1, I2, hI, hI1, hI2, hcs⟩ : ∃ I I1 I2 : Int, I = ((13 * k : Nat) : Int) ∧ I1 = ((13 * k + 1 : Nat) : Int) ∧ I2 = ((13 * k + 7 : Nat) : Int) ∧ ((k = 0 ∧ I = 0 ∧ I1 = 1 ∧ I2 = 7) ∨ (k = 1 ∧ I = 13 ∧ I1 = 14 ∧ I2 = 20)) := ⟨_, _, _, rfl, rfl, rfl, by omega⟩
  rw [← hI] at put1 put2 ht1 hpl hpl1 hpl2 hpl3
  have HPL := Lib.hid hpl
  have HPL1 := Lib.hid hpl1
  have HPL2 := Lib.hid hpl2
  have HPL3 := Lib.hid hpl3
  clear hpl hpl1 hpl2 hpl3
  rw [← hI1] at hnum
  rw [← hI2] at hnum2
  clear hI hI1 hI2
  have HP1 := Lib.hid put1
  have HP2 := Lib.hid put2
  have HW1 := Lib.hid hnum
  have HW2 := Lib.hid hnum2
  have HT1 := Lib.hid ht1.symm
  have HN1 := Lib.hid hn1
  clear put1 put2 hnum hnum2 ht1 hn1
  rcases hcs with ⟨rfl, rfl, rfl, rfl⟩ | ⟨rfl, rfl, rfl, rfl⟩
  all_goals
    match c1, HP1, HT1, HN1 with
    | d + 1, HP1, HT1, HN1 =>
      have hp1 := HP1.out
      rw [ev_some] at hp1
      have HP := Lib.hid hp1
      have HR := Lib.hid (HPL1.out _ _ HT1.out)
      clear hp1
      go_enter Tryd.func34, Tryd.ntmps34
      go_wp2_with fail
      refine (HP.out _ HF0.out (H.out.fr (Fr.alloc _ _ []) (by simp) (by simp))).mono ?_
      rintro e w1 ⟨rfl, h1, hf1⟩
      have H1 := Lib.hid h1
      have HF1 := Lib.hid (HF0.out.trans hf1)
      clear h1 hf1
      go_wp2
      go_ret
      rw [HR.out]
      exact ⟨rfl, H1.out, HF1.out⟩
    | 0, HP1, HT1, HN1 =>
      have hp1 := HP1.out
      rw [show ev A 0 = .nilIface from rfl] at hp1
      have HP := Lib.hid hp1
      have hw1 := HW1.out s1 (by have := HN1.out; simp only at this; omega)
      have hn2 := CS.run_n S1 s1
      obtain ⟨t2, ht2⟩ : ∃ t, t = s1.run S1 := ⟨_, rfl⟩
      rw [← ht2] at hw1 hn2
      obtain ⟨s2, c2⟩ := t2
      have HT2 := Lib.hid ht2.symm
      have HN2 := Lib.hid (show s2.n ≤ s.n + 7 by have := HN1.out; rw [HL1.out] at hn2; simp only at this hn2; omega)
      clear hp1 ht2 hn2
      match c2, hw1, HT2 with
      | d + 1, hw1, HT2 =>
        rw [ev_some] at hw1
        have HW := Lib.hid hw1
        have HR := Lib.hid (HPL2.out _ _ _ HT1.out HT2.out)
        clear hw1
        go_enter Tryd.func34, Tryd.ntmps34
        go_wp2_with fail
        refine (HP.out _ HF0.out (H.out.fr (Fr.alloc _ _ []) (by simp) (by simp))).mono ?_
        rintro e w1 ⟨rfl, h1, hf1⟩
        obtain ⟨b0, b1⟩ := HBOX.out _ hf1
        have H1 := Lib.hid h1
        have HF1 := Lib.hid (HF0.out.trans hf1)
        clear h1 hf1
        go_wp2_with fail
        refine (HW.out _ HF1.out H1.out).mono ?_
        rintro e w2 ⟨rfl, h2, hf2⟩
        have H2 := Lib.hid h2
        have HF2 := Lib.hid (HF1.out.trans hf2)
        clear h2 hf2
        go_wp2
        go_ret
        rw [HR.out]
        exact ⟨rfl, H2.out, HF2.out⟩
      | 0, hw1, HT2 =>
        rw [show ev A 0 = .nilIface from rfl] at hw1
        have HW := Lib.hid hw1
        have hw2 := HW2.out s2 (by have := HN2.out; omega)
        have hn3 := CS.run_n S2 s2
        obtain ⟨t3, ht3⟩ : ∃ t, t = s2.run S2 := ⟨_, rfl⟩
        rw [← ht3] at hw2 hn3
        obtain ⟨s3, c3⟩ := t3
        have HT3 := Lib.hid ht3.symm
        have HN3 := Lib.hid (show s3.n ≤ s.n + 13 by have := HN2.out; rw [HL2.out] at hn3; simp only at this hn3; omega)
        clear hw1 ht3 hn3
        match c3, hw2, HT3 with
        | d + 1, hw2, HT3 =>
          rw [ev_some] at hw2
          have HWB := Lib.hid hw2
          have HR := Lib.hid (HPL3.out _ _ _ _ HT1.out HT2.out HT3.out)
          clear hw2
          go_enter Tryd.func34, Tryd.ntmps34
          go_wp2_with fail
          refine (HP.out _ HF0.out (H.out.fr (Fr.alloc _ _ []) (by simp) (by simp))).mono ?_
          rintro e w1 ⟨rfl, h1, hf1⟩
          obtain ⟨b0, b1⟩ := HBOX.out _ hf1
          have H1 := Lib.hid h1
          have HF1 := Lib.hid hf1
          clear h1 hf1
          go_wp2_with fail
          refine (HW.out _ (HF0.out.trans HF1.out) H1.out).mono ?_
          rintro e w2 ⟨rfl, h2, hf2⟩
          clear b0 b1
          obtain ⟨b0, b1⟩ := HBOX.out _ (HF1.out.trans hf2)
          have H2 := Lib.hid h2
          have HF2 := Lib.hid (HF0.out.trans (HF1.out.trans hf2))
          clear h2 hf2
          go_wp2_with fail
          refine (HWB.out _ HF2.out H2.out).mono ?_
          rintro e w3 ⟨rfl, h3, hf3⟩
          have H3 := Lib.hid h3
          have HF3 := Lib.hid (HF2.out.trans hf3)
          clear h3 hf3
          go_wp2
          go_ret
          rw [HR.out]
          exact ⟨rfl, H3.out, HF3.out⟩
        | 0, hw2, HT3 =>
          rw [show ev A 0 = .nilIface from rfl] at hw2
          have HWB := Lib.hid hw2
          have HPB := Lib.hid (HP2.out s3 (by have := HN3.out; omega))
          have HR := Lib.hid (HPL.out _ _ _ HT1.out HT2.out HT3.out)
          clear hw2
          go_enter Tryd.func34, Tryd.ntmps34
          go_wp2_with fail
          refine (HP.out _ HF0.out (H.out.fr (Fr.alloc _ _ []) (by simp) (by simp))).mono ?_
          rintro e w1 ⟨rfl, h1, hf1⟩
          obtain ⟨b0, b1⟩ := HBOX.out _ hf1
          have H1 := Lib.hid h1
          have HF1 := Lib.hid hf1
          clear h1 hf1
          go_wp2_with fail
          refine (HW.out _ (HF0.out.trans HF1.out) H1.out).mono ?_
          rintro e w2 ⟨rfl, h2, hf2⟩
          clear b0 b1
          obtain ⟨b0, b1⟩ := HBOX.out _ (HF1.out.trans hf2)
          have H2 := Lib.hid h2
          have HF2 := Lib.hid (HF0.out.trans (HF1.out.trans hf2))
          clear h2 hf2
          go_wp2_with fail
          refine (HWB.out _ HF2.out H2.out).mono ?_
          rintro e w3 ⟨rfl, h3, hf3⟩
          have H3 := Lib.hid h3
          have HF3 := Lib.hid (HF2.out.trans hf3)
          clear h3 hf3
          go_wp2_with fail
          refine (HPB.out _ HF3.out H3.out).mono ?_
          rintro e w4 ⟨rfl, h4, hf4⟩
          have H4 := Lib.hid h4
          have HF4 := Lib.hid (HF3.out.trans hf4)
          clear h4 hf4
          go_wp2
          go_ret
          rw [HR.out]
          exact ⟨rfl, H4.out, HF4.out⟩
end Go.Proofs.YthiimkjhlndcoaaDoor
