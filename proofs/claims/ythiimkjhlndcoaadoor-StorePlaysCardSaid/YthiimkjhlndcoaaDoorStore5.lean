/- Package store: Record, spare, Save. -/
import Derived.Test.YthiimkjhlndcoaaDoorStore4
namespace Go.Proofs.YthiimkjhlndcoaaDoor
open Go.RowKit

theorem Sr.ne {w : World} {sp p q g : Nat} {R : SR} {s : CS} (h : Sr w sp q R) (hc : Cl w p g s) : sp ≠ p ∧ sp ≠ g := by
  refine ⟨fun e => ?_, fun e => ?_⟩
  · subst e; have := h.symm.trans hc.1; simp at this
  · subst e; have := h.symm.trans hc.2.1; simp at this

theorem record_any (sp p : Nat) (R : SR) (w : World) (h : Sr w sp p R) :
    Calls Tryd.prog 14 #[.pointer (some ⟨sp, 0, none⟩)] w fun e w' => e = .returned (.agg #[.int .i64 R.c, .int .i64 R.n]) ∧ Fr w w' [] := by
  obtain ⟨s0, s1, s2, s3⟩ := h.cells
  have hlt := h.lt
  clear h s0 s3
  go_enter Tryd.func14, Tryd.ntmps14
  go_wp2
  exact bodyPost_ret (v := .agg #[.int .i64 R.c, .int .i64 R.n]) (by simp [results, Tryd.results14, go_sem]) rfl ⟨rfl, Fr.alloc _ _ _⟩

theorem spare_any (sp p : Nat) (R : SR) (w : World) (h : Sr w sp p R) :
    Calls Tryd.prog 33 #[.pointer (some ⟨sp, 0, none⟩)] w fun e w' => e = .returned (.int .i64 (R.spare : Int)) ∧ w = w' := by
  obtain ⟨s0, s1, s2, s3⟩ := h.cells
  clear h s0 s1 s2
  obtain ⟨x, hx⟩ : ∃ x, x = R.spare := ⟨_, rfl⟩
  rw [← hx]
  obtain ⟨k, hk⟩ : ∃ k, k = R.k := ⟨_, rfl⟩
  rw [← hk] at s3
  by_cases h0 : k = 0
  · have hx0 : x = 0 + 1 := by rw [hx]; unfold SR.spare; rw [if_pos (by omega)]
    subst h0 hx0
    clear hx hk
    go_enter Tryd.func33, Tryd.ntmps33
    go_wp2
    go_ret
    exact ⟨rfl, rfl⟩
  · have hx0 : x = 0 := by rw [hx]; unfold SR.spare; rw [if_neg (by omega)]
    have hb : (k == 0) = false := by simpa using h0
    subst hx0
    clear hx hk h0
    go_enter Tryd.func33, Tryd.ntmps33
    go_wp2
    go_ret
    exact ⟨rfl, rfl⟩

theorem sub45 : ∀ i ∈ [4, 5], i ∈ [2, 4, 5, 7] := by decide
theorem SR.save_no (R : SR) (s : CS) (c n : Int) (d : Nat) (h : R.code c n = d + 1) : R.save s c n = (s, R, d + 1) := by
  unfold SR.save; rw [if_neg (by omega), h]
theorem SR.save_yes (R : SR) (s s' : CS) (c n : Int) (h : R.code c n = 0) (h2 : s.run (plan R.spare c n) = (s', 0)) : R.save s c n = (s', ⟨c, n, (R.spare : Int)⟩, 0) := by
  unfold SR.save; rw [if_pos h, h2]; simp
theorem SR.save_cut (R : SR) (s s' : CS) (c n : Int) (d : Nat) (h : R.code c n = 0) (h2 : s.run (plan R.spare c n) = (s', d + 1)) : R.save s c n = (s', R, d + 1) := by
  unfold SR.save; rw [if_pos h, h2]; simp

set_option maxHeartbeats 4000000 in
set_option maxRecDepth 100000 in
theorem save_any {is : List Nat} (sp p g : Nat) (R : SR) (s : CS) (c n : Int) (w : World) (A : Nat → Addr) (B : Nat) (hS : Sr w sp p R) (hC : Cl w p g s) (hR : R.in) (hsn : s.n < 9223372036854770000) (hE : EV is w A B) (hBp : B ≤ p) (hBg : B ≤ g) (hs : ∀ i ∈ [2, 4, 5, 7], i ∈ is := by decide) :
    Calls Tryd.prog 17 #[.pointer (some ⟨sp, 0, none⟩), .agg #[.int .i64 c, .int .i64 n]] w fun e w' => e = .returned (ev A (R.save s c n).2.2) ∧ Cl w' p g (R.save s c n).1 ∧ Sr w' sp p (R.save s c n).2.1 ∧ Fr w w' [sp, p, g] := by
  have hlt := hS.lt
  have hltc := hC.lt
  have hne := hS.ne hC
  -- the box
  have hW0 : ∃ W0, W0 = w.alloc (.cells #[.int .i64 c, .int .i64 n] 35) := ⟨_, rfl⟩
  have hf0 : Fr w (w.alloc (.cells #[.int .i64 c, .int .i64 n] 35)) [] := Fr.alloc _ _ _
  have hbox : ∀ W S, Fr (w.alloc (.cells #[.int .i64 c, .int .i64 n] 35)) W S → w.heap.size ∉ S → W.cell? ⟨w.heap.size, 0, none⟩ = some (.int .i64 c) ∧ W.cell? ⟨w.heap.size, 1, none⟩ = some (.int .i64 n) := by
    intro W S hW hS
    have hr := hW.heap (heap_alloc_new w (.cells #[.int .i64 c, .int .i64 n] 35)) hS
    exact ⟨by rw [cell_of_row W _ 0 _ _ _ hr]; rfl, by rw [cell_of_row W _ 1 _ _ _ hr]; rfl⟩
  have HS := Lib.hid hS
  have HC := Lib.hid hC
  have HR := Lib.hid hR
  have HN := Lib.hid hsn
  have HE := Lib.hid hE
  have HLT := Lib.hid hlt
  have HLTC := Lib.hid hltc
  have HNE := Lib.hid hne
  have HF0 := Lib.hid hf0
  have HBOX := Lib.hid hbox
  clear hS hC hR hsn hE hlt hltc hne hW0 hf0 hbox
  by_cases hr : c < 0 ∨ n < 0 ∨ 281474976710655 < c ∨ 281474976710655 < n
  · have HV : Hid (R.save s c n = (s, R, 3)) := by show _ = _; exact R.save_no s c n 2 (by unfold SR.code; rw [if_pos hr])
    have e3 : ∀ W, Fr w W [] → W.cell? ⟨0, 0, none⟩ = some (ev A 3) := fun W hW => ((HE.out.fr hW (by simp)).cell 2 (hs 2 (by decide))).1
    have E3' := Lib.hid (e3 _ HF0.out)
    clear e3
    obtain ⟨v, hv⟩ : ∃ v, v = ev A 3 := ⟨_, rfl⟩
    rw [← hv] at E3'
    have HVV := Lib.hid hv
    clear hv
    have e3 := E3'.out
    have hcase : (c < 0 ∨ 281474976710655 < c) ∨ ((0 ≤ c ∧ c ≤ 281474976710655) ∧ (n < 0 ∨ 281474976710655 < n)) := by omega
    clear hr
    rcases hcase with h1 | ⟨⟨h1, h2⟩, h3⟩
    · have HI := Lib.hid (fun W => inRange_no c W h1)
      clear h1
      go_enter Tryd.func17, Tryd.ntmps17
      go_wp2_with fail
      refine (HI.out _).mono ?_
      rintro e w1 ⟨rfl, rfl⟩
      go_wp2
      go_ret
      rw [HV.out, HVV.out]
      exact ⟨rfl, HC.out.fr HF0.out (by simp) (by simp), HS.out.fr HF0.out (by simp), HF0.out.mono (by simp)⟩
    · have HI := Lib.hid (fun W => inRange_yes c W h1 h2)
      have HJ := Lib.hid (fun W => inRange_no n W h3)
      clear h1 h2 h3
      go_enter Tryd.func17, Tryd.ntmps17
      go_wp2_with fail
      refine (HI.out _).mono ?_
      rintro e w1 ⟨rfl, rfl⟩
      go_wp2_with fail
      refine (HJ.out _).mono ?_
      rintro e w1 ⟨rfl, rfl⟩
      go_wp2
      go_ret
      rw [HV.out, HVV.out]
      exact ⟨rfl, HC.out.fr HF0.out (by simp) (by simp), HS.out.fr HF0.out (by simp), HF0.out.mono (by simp)⟩
  · obtain ⟨c0, c1, n0, n1⟩ : 0 ≤ c ∧ c ≤ 281474976710655 ∧ 0 ≤ n ∧ n ≤ 281474976710655 := by omega
    have HI := Lib.hid (fun W => inRange_yes c W c0 c1)
    have HJ := Lib.hid (fun W => inRange_yes n W n0 n1)
    have HCN := Lib.hid (show (0 ≤ c ∧ c ≤ 281474976710655) ∧ (0 ≤ n ∧ n ≤ 281474976710655) from ⟨⟨c0, c1⟩, n0, n1⟩)
    have hcd : R.code c n = if c < R.c ∨ n < R.n ∨ (c = R.c ∧ n = R.n) then 8 else 0 := by unfold SR.code; rw [if_neg hr]
    have HCD := Lib.hid hcd
    have hs0 := HS.out.fr HF0.out (by simp)
    obtain ⟨s0, s1, s2, s3⟩ := hs0.cells
    obtain ⟨Rc, hRc⟩ : ∃ x, x = R.c := ⟨_, rfl⟩
    obtain ⟨Rn, hRn⟩ : ∃ x, x = R.n := ⟨_, rfl⟩
    rw [← hRc] at s1 HCD
    rw [← hRn] at s2 HCD
    have HRC := Lib.hid hRc
    have HRN := Lib.hid hRn
    clear hr hcd c0 c1 n0 n1 hs0 hRc hRn
    by_cases ho : c < Rc ∨ n < Rn ∨ (c = Rc ∧ n = Rn)
    · have HV : Hid (R.save s c n = (s, R, 8)) := by show _ = _; exact R.save_no s c n 7 (by rw [HCD.out, if_pos ho])
      have e8 : ∀ W, Fr w W [] → W.cell? ⟨3, 0, none⟩ = some (ev A 8) := fun W hW => ((HE.out.fr hW (by simp)).cell 7 (hs 7 (by decide))).1
      obtain ⟨v, hv⟩ : ∃ v, v = ev A 8 := ⟨_, rfl⟩
      rw [← hv] at e8
      have e8' := e8 _ HF0.out
      have HVV := Lib.hid hv
      clear hv e8
      have hcase : c < Rc ∨ (¬ c < Rc ∧ n < Rn) ∨ (c = Rc ∧ n = Rn) := by omega
      clear ho
      rcases hcase with h1 | ⟨h1, h2⟩ | ⟨h1, h2⟩
      · go_enter Tryd.func17, Tryd.ntmps17
        go_wp2_with fail
        refine (HI.out _).mono ?_
        rintro e w1 ⟨rfl, rfl⟩
        go_wp2_with fail
        refine (HJ.out _).mono ?_
        rintro e w1 ⟨rfl, rfl⟩
        go_wp2
        go_quiet (fail)
        go_wp2
        go_ret
        rw [HV.out, HVV.out]
        have HFQ := Lib.hid (HF0.out.trans (Fr.drewN _ nq []))
        exact ⟨rfl, HC.out.fr HFQ.out (by simp) (by simp), HS.out.fr HFQ.out (by simp), HFQ.out.mono (by simp)⟩
      · go_enter Tryd.func17, Tryd.ntmps17
        go_wp2_with fail
        refine (HI.out _).mono ?_
        rintro e w1 ⟨rfl, rfl⟩
        go_wp2_with fail
        refine (HJ.out _).mono ?_
        rintro e w1 ⟨rfl, rfl⟩
        go_wp2
        go_quiet (fail)
        go_wp2
        go_ret
        rw [HV.out, HVV.out]
        have HFQ := Lib.hid (HF0.out.trans (Fr.drewN _ nq []))
        exact ⟨rfl, HC.out.fr HFQ.out (by simp) (by simp), HS.out.fr HFQ.out (by simp), HFQ.out.mono (by simp)⟩
      · subst h1 h2
        go_enter Tryd.func17, Tryd.ntmps17
        go_wp2_with fail
        refine (HI.out _).mono ?_
        rintro e w1 ⟨rfl, rfl⟩
        go_wp2_with fail
        refine (HJ.out _).mono ?_
        rintro e w1 ⟨rfl, rfl⟩
        go_wp2
        go_quiet (fail)
        go_wp2
        go_ret
        rw [HV.out, HVV.out]
        have HFQ := Lib.hid (HF0.out.trans (Fr.drewN _ nq []))
        exact ⟨rfl, HC.out.fr HFQ.out (by simp) (by simp), HS.out.fr HFQ.out (by simp), HFQ.out.mono (by simp)⟩
    · have HV0 : Hid (R.code c n = 0) := by show _ = _; rw [HCD.out, if_neg ho]
      have h1 : ¬ c < Rc := by omega
      have h2 : ¬ n < Rn := by omega
      have h3 : c ≠ Rc ∨ n ≠ Rn := by omega
      clear ho
      have hb1 : decide (c < Rc) = false := by simpa using h1
      have hb2 : decide (n < Rn) = false := by simpa using h2
      have hsp : R.spare < 2 := by unfold SR.spare; split <;> omega
      have hwr := fun W (hW : Fr w W []) => write_any p g s R.spare c n W A B (HC.out.fr hW (by simp) (by simp)) hsp (by have := HN.out; omega) HCN.out.1 HCN.out.2 (HE.out.fr hW (by simp)) hBp hBg (fun i hi => hs i (sub45 i hi))
      have hsv := fun s' h2 => R.save_yes s s' c n HV0.out h2
      have hsc := fun s' d h2 => R.save_cut s s' c n d HV0.out h2
      obtain ⟨t, ht⟩ : ∃ t, t = s.run (plan R.spare c n) := ⟨_, rfl⟩
      rw [← ht] at hwr hsv hsc
      obtain ⟨s', cd⟩ := t
      clear ht
      match cd, hwr, hsv, hsc with
      | d + 1, hwr, hsv, hsc =>
        have HV := Lib.hid (hsc s' d rfl)
        rw [ev_some] at hwr
        have HWR := Lib.hid hwr
        clear hsp hwr hsv hsc
        rcases h3 with h3 | h3
        all_goals
          go_enter Tryd.func17, Tryd.ntmps17
          go_wp2_with fail
          refine (HI.out _).mono ?_
          rintro e w1 ⟨rfl, rfl⟩
          go_wp2_with fail
          refine (HJ.out _).mono ?_
          rintro e w1 ⟨rfl, rfl⟩
          go_wp2
          go_quiet (fail)
          go_wp2_with fail
          generalize hWQ : World.drewN _ nq = WQ
          have HFQ := Lib.hid (show Fr w WQ [] by rw [← hWQ]; exact HF0.out.trans (Fr.drewN _ nq []))
          have HBX := Lib.hid (fun W S (hW : Fr WQ W S) (hS : w.heap.size ∉ S) => HBOX.out W S (by rw [← hWQ] at hW; exact (Fr.drewN _ nq S).trans hW) hS)
          clear hWQ
          refine (spare_any sp p R WQ (HS.out.fr HFQ.out (by simp))).mono ?_
          rintro e w1 ⟨rfl, rfl⟩
          have q0 := (HS.out.fr HFQ.out (by simp)).cells.1
          obtain ⟨b0, b1⟩ := HBX.out _ [] (Fr.refl _ _) (by simp)
          have hns : sp ∉ [p, g] := by have := HNE.out; simp; omega
          have hnw : w.heap.size ∉ [p, g] := by have := HLTC.out; simp; omega
          have HNS := Lib.hid hns
          have HNW := Lib.hid hnw
          clear s0 s1 s2 s3 hb1 hb2 h1 h2 h3 hns hnw
          go_wp2_with fail
          go_region_held3 (fun w' => w'.cell? ⟨sp, 0, none⟩ = some (.pointer (some ⟨p, 0, none⟩)) ∧ w'.cell? ⟨w.heap.size, 0, none⟩ = some (.int .i64 c) ∧ w'.cell? ⟨w.heap.size, 1, none⟩ = some (.int .i64 n))
            (first | exact ⟨q0, b0, b1⟩ | exact ⟨q0x, b0x, b1x⟩)
            (first
              | (go_at_call 34; ((with_reducible refine (HWR.out _ (HFQ.out.trans (Fr.drew WQ []))).mono ?_); rintro e wx ⟨rfl, hcx, hfx⟩; have hfx0 := (Fr.drew WQ [p, g]).trans hfx; have q0x := hfx0.cell q0 HNS.out; have b0x := hfx0.cell b0 HNW.out; have b1x := hfx0.cell b1 HNW.out)))
          all_goals
            have HCX := Lib.hid hcx
            have HFX := Lib.hid (HFQ.out.comb (U := [sp, p, g]) hfx0 (by simp) (by simp))
            have hsx := (HS.out.fr HFQ.out (by simp)).fr hfx0 HNS.out
            have HSX := Lib.hid hsx
            clear hcx hfx hfx0 hsx q0 b0 b1 q0x b0x b1x
            go_wp2
            go_ret
            rw [HV.out]
            exact ⟨rfl, HCX.out, HSX.out, HFX.out⟩
      | 0, hwr, hsv, hsc =>
        have HV := Lib.hid (hsv s' rfl)
        rw [show ev A 0 = .nilIface from rfl] at hwr
        have HWR := Lib.hid hwr
        clear hsp hwr hsv hsc
        rcases h3 with h3 | h3
        all_goals
          go_enter Tryd.func17, Tryd.ntmps17
          go_wp2_with fail
          refine (HI.out _).mono ?_
          rintro e w1 ⟨rfl, rfl⟩
          go_wp2_with fail
          refine (HJ.out _).mono ?_
          rintro e w1 ⟨rfl, rfl⟩
          go_wp2
          go_quiet (fail)
          go_wp2_with fail
          generalize hWQ : World.drewN _ nq = WQ
          have HFQ := Lib.hid (show Fr w WQ [] by rw [← hWQ]; exact HF0.out.trans (Fr.drewN _ nq []))
          have HBX := Lib.hid (fun W S (hW : Fr WQ W S) (hS : w.heap.size ∉ S) => HBOX.out W S (by rw [← hWQ] at hW; exact (Fr.drewN _ nq S).trans hW) hS)
          clear hWQ
          refine (spare_any sp p R WQ (HS.out.fr HFQ.out (by simp))).mono ?_
          rintro e w1 ⟨rfl, rfl⟩
          have q0 := (HS.out.fr HFQ.out (by simp)).cells.1
          obtain ⟨b0, b1⟩ := HBX.out _ [] (Fr.refl _ _) (by simp)
          have hns : sp ∉ [p, g] := by have := HNE.out; simp; omega
          have hnw : w.heap.size ∉ [p, g] := by have := HLTC.out; simp; omega
          have HNS := Lib.hid hns
          have HNW := Lib.hid hnw
          clear s0 s1 s2 s3 hb1 hb2 h1 h2 h3 hns hnw
          go_wp2_with fail
          go_region_held3 (fun w' => w'.cell? ⟨sp, 0, none⟩ = some (.pointer (some ⟨p, 0, none⟩)) ∧ w'.cell? ⟨w.heap.size, 0, none⟩ = some (.int .i64 c) ∧ w'.cell? ⟨w.heap.size, 1, none⟩ = some (.int .i64 n))
            (first | exact ⟨q0, b0, b1⟩ | exact ⟨q0x, b0x, b1x⟩)
            (first
              | (go_at_call 34; ((with_reducible refine (HWR.out _ (HFQ.out.trans (Fr.drew WQ []))).mono ?_); rintro e wx ⟨rfl, hcx, hfx⟩; have hfx0 := (Fr.drew WQ [p, g]).trans hfx; have q0x := hfx0.cell q0 HNS.out; have b0x := hfx0.cell b0 HNW.out; have b1x := hfx0.cell b1 HNW.out)))
          all_goals
            have HCX := Lib.hid hcx
            have HFX := Lib.hid (HFQ.out.comb (U := [sp, p, g]) hfx0 (by simp) (by simp))
            have hsx := (HS.out.fr HFQ.out (by simp)).fr hfx0 HNS.out
            have z1 := hsx.frozen 1
            have z2 := hsx.frozen 2
            have z3 := hsx.frozen 3
            obtain ⟨_, s1, s2, s3⟩ := hsx.cells
            have HSX := Lib.hid hsx
            clear hcx hfx hfx0 hsx q0 b0 b1 q0x
            go_wp2
            go_ret
            rw [HV.out]
            have HFE := Lib.hid (Fr.trans HFX.out (Fr.trans (Fr.trans (Fr.setCell _ sp 1 (.int .i64 c) (List.mem_cons_self)) (Fr.setCell _ sp 2 (.int .i64 n) (List.mem_cons_self))) (Fr.setCell _ sp 3 (.int .i64 (R.spare : Int)) (List.mem_cons_self))))
            have hfs : ∀ W v1 v2 v3, Fr W (((W.setCell ⟨sp, 1, none⟩ v1).setCell ⟨sp, 2, none⟩ v2).setCell ⟨sp, 3, none⟩ v3) [sp] := fun W v1 v2 v3 => Fr.trans (Fr.trans (Fr.setCell _ sp 1 _ (List.mem_cons_self)) (Fr.setCell _ sp 2 _ (List.mem_cons_self))) (Fr.setCell _ sp 3 _ (List.mem_cons_self))
            exact ⟨rfl, HCX.out.fr (hfs _ _ _ _) (by have := HNE.out; simp; omega) (by have := HNE.out; simp; omega), HSX.out.wr c n _, HFE.out⟩
end Go.Proofs.YthiimkjhlndcoaaDoor
