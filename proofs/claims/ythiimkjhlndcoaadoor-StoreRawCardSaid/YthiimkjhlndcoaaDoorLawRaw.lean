/- The walk of the law of the raw: of a memory with whatever bytes a slot counts just if its mark is 1; a save over it goes beside the one that counts. -/
import Derived.Test.YthiimkjhlndcoaaDoorSFirst
import Derived.Deep.RegionHeld3
import Derived.Deep.DeepCutAuto
import Derived.Deep.CutBlock
namespace Go.Proofs.YthiimkjhlndcoaaDoor
open Go.RowKit

/-- A memory behind k Puts. -/
def RawI (k : Nat) (s : CS) : Prop := s.d = false ∧ s.a = 0 ∧ s.l.length = 26 ∧ s.n ≤ (k : Int) ∧ By8 s.l
theorem raw_put (k : Nat) (s : CS) (h : RawI k s) (i : Nat) (I x : Int) (hI : I = (i : Int)) (hi : i < 26) (hx : 0 ≤ x ∧ x ≤ 255) : ∃ s', s.put I x = (s', 0) ∧ RawI (k + 1) s' ∧ s'.l = s.l.set i x := by
  obtain ⟨hd, ha, hl, hn, hb⟩ := h
  subst hI
  refine ⟨_, s.put_fine i x hd (by omega) (by omega), ⟨hd, ?_, ?_, ?_, ?_⟩, rfl⟩
  · simp only; rw [if_pos ha]
  · simpa using hl
  · simp only; omega
  · exact hb.set _ _ hx
theorem raw_none (l : List Int) (h0 : ¬ l.getD 0 0 = 1) (h1 : ¬ l.getD 13 0 = 1) : openOf l = SR.none := by
  unfold openOf; rw [beat_no _ _ 0 h0, beat_no _ _ 1 h1]
/-- A save that is cut at its last byte, and one that is not. -/
theorem raw_cut (R : SR) (s : CS) (hd : s.d = false) (hl : s.l.length = 26) (ho : R = openOf s.l) (hin : R.in) (hn : R.n < 281474976710655) :
    ∃ s', R.save { s with a := 14 } R.c (R.n + 1) = (s', R, 5) ∧ openOf s'.l = R ∧ s'.l.length = 26 := by
  obtain ⟨h1, h2, h3, h4, _⟩ := hin
  have hcode : R.code R.c (R.n + 1) = 0 := by unfold SR.code; rw [if_neg (by omega), if_neg (by omega)]
  have hk2 : R.spare < 2 := by unfold SR.spare; split <;> omega
  have hin : ∀ o ∈ plan R.spare R.c (R.n + 1), o.1 < s.l.length := fun o h => by have := plan_in R.spare R.c (R.n + 1) hk2 o h; omega
  have hrun := CS.run_cut (plan R.spare R.c (R.n + 1)) { s with a := 14 } 13 hd hin (by simp) (by rw [plan_len]; omega)
  have hop := open_part s.l R.c (R.n + 1) 13 (by omega) (by omega)
  rw [← ho] at hop
  obtain ⟨L, hL⟩ : ∃ L, L = setAll s.l ((plan R.spare R.c (R.n + 1)).take 13) := ⟨_, rfl⟩
  have hlen : L.length = 26 := by rw [hL, setAll_len]; exact hl
  rw [← hL] at hop hrun
  exact ⟨_, R.save_cut _ _ _ _ 4 hcode hrun, hop, hlen⟩
theorem raw_full (R : SR) (s : CS) (hd : s.d = false) (ha : s.a = 0) (hl : s.l.length = 26) (ho : R = openOf s.l) (hin : R.in) (hn : R.n < 281474976710655) :
    ∃ s' R', R.save s R.c (R.n + 1) = (s', R', 0) ∧ openOf s'.l = R' ∧ R'.c = R.c ∧ R'.n = R.n + 1 ∧ s'.l.length = 26 ∧ s'.d = false := by
  obtain ⟨h1, h2, h3, h4, _⟩ := hin
  have hcode : R.code R.c (R.n + 1) = 0 := by unfold SR.code; rw [if_neg (by omega), if_neg (by omega)]
  have hsv := R.save_ok s R.c (R.n + 1) hd (by omega) ha hcode
  have hop := open_full s.l R.c (R.n + 1) (by omega) (by rw [← ho]; exact hcode)
  rw [← ho] at hop
  obtain ⟨L, hL⟩ : ∃ L, L = setAll s.l (plan R.spare R.c (R.n + 1)) := ⟨_, rfl⟩
  have hlen : L.length = 26 := by rw [hL, setAll_len]; exact hl
  rw [← hL] at hop hsv
  exact ⟨_, _, hsv, hop, rfl, rfl, hlen, hd⟩

set_option maxHeartbeats 8000000 in
set_option maxRecDepth 100000 in
theorem raw_walk (v : Value) (l : List Int) (m0 : Int) (hm : (Lit.int .i64 m0).wf = true) (hl : ∀ x ∈ l, 0 ≤ x ∧ x ≤ 255) (w : World) (A : Nat → Addr) (hE : EV [2, 4, 5, 7] w A w.heap.size) (hv : Holds .u8 w v l) :
    Calls Tryd.prog 3 #[v, .int .i64 m0] w fun e w' => e = .returned (.bool true) ∧ w.grownBy w' none := by
  obtain ⟨M, hM, _, hMc⟩ := numberTo_nat m0 4 (by omega) (by omega) hm
  have HM := Lib.hid hMc
  have HE := Lib.hid hE
  obtain ⟨a, cap, rfl, hcap, hcm, hcell⟩ := hv
  unfold maxLen at hcm
  have HCELL := Lib.hid hcell
  have HL := Lib.hid hl
  clear hMc hE hcell hl hm
  by_cases h40 : 40 < l.length
  · go_enter Tryd.func3, Tryd.ntmps3
    go_wp2_with fail
    refine (first3_any _ A HE.out).mono ?_
    rintro e w1 ⟨rfl, hg1⟩
    go_wp2
    go_ret
    exact ⟨rfl, hg1⟩
  · go_enter Tryd.func3, Tryd.ntmps3
    go_wp2_with fail
    refine (first3_any _ A HE.out).mono ?_
    rintro e w1 ⟨rfl, hg1⟩
    have HF1 := Lib.hid (Fr.of_grown hg1 [])
    clear hg1
    go_wp2_with fail
    refine (cellNew_ok 26 _ (by omega) (by omega)).mono ?_
    rintro e w2 ⟨u, rfl, p, g, rfl, h2, hp, hg, hf2⟩
    have HF2 := Lib.hid (HF1.out.trans hf2)
    have HPG := Lib.hid (show w.heap.size ≤ p ∧ w.heap.size ≤ g from ⟨Nat.le_trans HF1.out.size hp, Nat.le_trans HF1.out.size hg⟩)
    have H2 := Lib.hid h2
    clear h2 hf2 hp hg
    go_wp2
    go_loopw [8] (fun x wr => ∃ (k : Nat) (s : CS), k ≤ l.length ∧ k ≤ 26 ∧ x = .int .i64 k ∧ RawI k s ∧ Cl wr p g s ∧ Fr w wr []) (fun x _ => 26 - (intOf x).toNat)
    case atStart => exact ⟨0, CS.new 26, Nat.zero_le _, by omega, rfl, ⟨rfl, rfl, by simp [CS.new], by simp [CS.new], new_by 26⟩, H2.out, HF2.out⟩
    case round =>
      obtain ⟨k, s, hk, hk26, rfl, hR, hc, hf⟩ := hrel
      have HR := Lib.hid hR
      have HC := Lib.hid hc
      have HF := Lib.hid hf
      clear hR hc hf H2 HF2
      have hways : (k < l.length ∧ (k : Int) < 26) ∨ (¬ k < l.length) ∨ (k < l.length ∧ ¬ (k : Int) < 26) := by omega
      rcases hways with ⟨hlt, hlt2⟩ | hrest
      · obtain ⟨bb, off, rfl, hcl⟩ := HCELL.out (by omega)
        have hcell := HF.out.cell (hcl k hlt) (by simp)
        have hx := HL.out (l.getD k 0) (by simp [hlt])
        obtain ⟨x, hxx⟩ : ∃ x, x = l.getD k 0 := ⟨_, rfl⟩
        rw [← hxx] at hcell hx
        obtain ⟨s', hput, hR', _⟩ := raw_put k s HR.out k k x rfl (by omega) hx
        have hcall := cellPut_any p g s k x wr A w.heap.size HC.out (by have := HR.out.2.2.2.1; omega) (HE.out.fr HF.out (by simp)) HPG.out.1 HPG.out.2
        rw [hput, show ev A 0 = .nilIface from rfl] at hcall
        have HP := Lib.hid hcall
        have HR' := Lib.hid hR'
        clear hxx hcl hput hcall hR' hx
        go_wp2_with fail
        refine HP.out.mono ?_
        rintro e w3 ⟨rfl, h3, hf3⟩
        have H3 := Lib.hid h3
        have HF3 := Lib.hid (HF.out.new hf3 (by have := HPG.out; simp; omega))
        clear h3 hf3
        go_wp2
        go_roundw
        case rel => exact ⟨k + 1, s', by omega, by omega, by go_num, HR'.out, H3.out, HF3.out⟩
        case measure => simp [intOf]; omega
      · -- behind the loop
        obtain ⟨b0, hb0⟩ : ∃ b : Int, b = (M : Int) % 2 := ⟨_, rfl⟩
        obtain ⟨b1, hb1⟩ : ∃ b : Int, b = (M : Int) / 2 := ⟨_, rfl⟩
        obtain ⟨s1, hput1, hR1, hl1⟩ := raw_put k s HR.out 0 0 b0 rfl (by omega) (by omega)
        obtain ⟨s2, hput2, hR2, hl2⟩ := raw_put (k + 1) s1 hR1 13 13 b1 rfl (by omega) (by omega)
        have hc1 := cellPut_any p g s 0 b0 wr A w.heap.size HC.out (by have := HR.out.2.2.2.1; omega) (HE.out.fr HF.out (by simp)) HPG.out.1 HPG.out.2
        rw [hput1, show ev A 0 = .nilIface from rfl] at hc1
        have hc2 := fun W (hW : Cl W p g s1) (hF : Fr w W []) => cellPut_any p g s1 13 b1 W A w.heap.size hW (by have := hR1.2.2.2.1; omega) (HE.out.fr hF (by simp)) HPG.out.1 HPG.out.2
        rw [hput2, show ev A 0 = .nilIface from rfl] at hc2
        have hm0 : M = 0 → openOf s2.l = SR.none := by
          intro h0
          have hlen := HR.out.2.2.1
          refine raw_none _ ?_ ?_
          · rw [hl2, hl1, hb0, hb1, h0]; simp [List.getD, hlen]
          · rw [hl2, hl1, hb0, hb1, h0]; simp [List.getD, hlen]
        rw [hb0] at hc1
        rw [hb1] at hc2
        obtain ⟨hd2, ha2, hlen2, hn2, hby2⟩ := hR2
        have HR2 := Lib.hid (show s2.d = false ∧ s2.a = 0 ∧ s2.l.length = 26 ∧ s2.n ≤ ((k + 1 + 1 : Nat) : Int) ∧ By8 s2.l from ⟨hd2, ha2, hlen2, hn2, hby2⟩)
        have HC1 := Lib.hid hc1
        have HC2 := Lib.hid hc2
        have HM0 := Lib.hid hm0
        clear hb0 hb1 hput1 hput2 hR1 hl1 hl2 hc1 hc2 hm0 hd2 ha2 hlen2 hn2 hby2
        rcases hrest with hz | ⟨hz, hz2⟩
        all_goals
          go_wp2_with fail
          refine (HM.out _).mono ?_
          rintro e w3 ⟨rfl, rfl⟩
          go_wp2_with fail
          refine HC1.out.mono ?_
          rintro e w4 ⟨rfl, h4, hf4⟩
          have H4 := Lib.hid h4
          have HF4 := Lib.hid (HF.out.new hf4 (by have := HPG.out; simp; omega))
          clear h4 hf4
          go_wp2_with fail
          refine (HC2.out _ H4.out HF4.out).mono ?_
          rintro e w5 ⟨rfl, h5, hf5⟩
          have H5 := Lib.hid h5
          have HF5 := Lib.hid (HF4.out.new hf5 (by have := HPG.out; simp; omega))
          have hop := open_any p g s2 w5 A w.heap.size h5 HR2.out.1 (by rw [HR2.out.2.2.1]; omega) HR2.out.2.2.2.2 (HE.out.fr HF5.out (by simp)) HF5.out.size
          have HOP0 := Lib.hid hop
          clear h5 hf5 hop
          go_wp2_with fail
          refine HOP0.out.mono ?_
          rintro e w6 ⟨u, rfl, sp, rfl, hs6, hsp6, hf6⟩
          obtain ⟨R, hR⟩ : ∃ R, R = openOf s2.l := ⟨_, rfl⟩
          rw [← hR] at hs6
          have hRin : R.in := by rw [hR]; exact openOf_in HR2.out.2.2.2.2
          obtain ⟨Rc, hRc⟩ : ∃ x, R.c = x := ⟨_, rfl⟩
          obtain ⟨Rn, hRn⟩ : ∃ x, R.n = x := ⟨_, rfl⟩
          obtain ⟨r1, r2, r3, r4⟩ : 0 ≤ Rc ∧ Rc ≤ 281474976710655 ∧ 0 ≤ Rn ∧ Rn ≤ 281474976710655 := by rw [← hRc, ← hRn]; exact ⟨hRin.1, hRin.2.1, hRin.2.2.1, hRin.2.2.2.1⟩
          have HRO := Lib.hid hR
          have HRC := Lib.hid hRc
          have HRN := Lib.hid hRn
          have HS6 := Lib.hid (show St w6 sp p g R s2 from ⟨hs6, H5.out.fr hf6 (by simp) (by simp), hRin, HR2.out.2.2.2.2⟩)
          have HSP := Lib.hid (show w.heap.size ≤ sp from Nat.le_trans HF5.out.size hsp6)
          have HF6 := Lib.hid (HF5.out.trans hf6)
          have hrec := record_any sp p R w6 hs6
          rw [hRc, hRn] at hrec
          have HREC0 := Lib.hid hrec
          clear hs6 hsp6 hf6 hR hRc hRn hrec hRin
          have g1 : ¬ Rc < 0 := by omega
          have g2 : ¬ Rn < 0 := by omega
          have g3 : ¬ 281474976710656 ≤ Rc := by omega
          have g4 : ¬ 281474976710656 ≤ Rn := by omega
          go_wp2_with fail
          refine HREC0.out.mono ?_
          rintro e w7 ⟨rfl, hf7⟩
          have HS7 := Lib.hid (HS6.out.fr hf7 (by simp))
          have HF7 := Lib.hid (HF6.out.trans hf7)
          clear hf7
          have hM : M = 0 ∨ ¬ M = 0 := by omega
          rcases hM with hM | hM
          · have hz := HM0.out hM
            rw [← HRO.out] at hz
            have hzz : Rc = 0 ∧ Rn = 0 := by rw [← HRC.out, ← HRN.out, hz]; exact ⟨rfl, rfl⟩
            have HSM0 := Lib.hid (fun W => same3_any Rc Rn 0 0 true W (by simp [hzz.1, hzz.2]))
            have hmx : (Rn == 281474976710655) = false := by rw [hzz.2]; decide
            have HZ := Lib.hid hzz
            have hRnm : Rn < 281474976710655 := by omega
            clear hz hzz
            subst hM
            go_wp2_with fail
            generalize hW8 : World.alloc w7 _ = W8
            have hrb : W8.heap[w7.heap.size]? = some (.cells #[.int .i64 Rc, .int .i64 Rn] 35 (0, 0)) := by rw [← hW8]; exact heap_alloc_new w7 _
            have hf8 : Fr w7 W8 [] := by rw [← hW8]; exact Fr.alloc _ _ _
            have HRB8 := Lib.hid hrb
            have HF8 := Lib.hid hf8
            clear hW8 hrb hf8
            refine (HSM0.out _).mono ?_
            rintro e W9 ⟨rfl, hf9⟩
            have HRB := Lib.hid (hf9.heap HRB8.out (by simp))
            have HS9 := Lib.hid ((HS7.out.fr HF8.out (by simp)).fr hf9 (by simp))
            have HF9 := Lib.hid ((HF7.out.trans HF8.out).trans hf9)
            have x0 := cell_of_row _ _ 0 _ _ _ HRB.out
            have x1 := cell_of_row _ _ 1 _ _ _ HRB.out
            simp at x0 x1
            clear hf9
            go_wp2_with fail
            clear x0 x1 g1 g2 g3 g4 hmx
            -- r lies at rb, the worlds stand at W9
            generalize hW10 : World.alloc W9 _ = W10
            have hnx : W10.heap[W9.heap.size]? = some (.cells #[.int .i64 Rc, .int .i64 (Rn + 1)] 35 (0, 0)) := by rw [← hW10]; exact heap_alloc_new W9 _
            have hf10 : Fr W9 W10 [] := by rw [← hW10]; exact Fr.alloc _ _ _
            have HNX := Lib.hid hnx
            have HRB10 := Lib.hid (hf10.heap HRB.out (by simp))
            have HS10 := Lib.hid (HS9.out.fr hf10 (by simp))
            have HF10 := Lib.hid (HF9.out.trans hf10)
            have HLTR := Lib.hid (show w7.heap.size < W10.heap.size ∧ W9.heap.size < W10.heap.size from ⟨(Array.getElem?_eq_some_iff.1 HRB10.out).1, (Array.getElem?_eq_some_iff.1 hnx).1⟩)
            have HBB := Lib.hid (show sp ∉ [w7.heap.size] ∧ (w7.heap.size ∉ [sp, p, g]) ∧ (W9.heap.size ∉ [sp, p, g]) by
              have h1 := HS7.out.sr.lt
              have h2 := HS7.out.cl.lt
              have h3 := (Array.getElem?_eq_some_iff.1 HRB.out).1
              simp; omega)
            clear hW10 hnx hf10
            refine (cellArm_any p g s2 14 W10 HS10.out.cl (by omega) 14 (by omega)).mono ?_
            rintro e w11 ⟨rfl, h11, hf11⟩
            have hp1 := (HS10.out.sr.ne HS10.out.cl).1
            have hbb := HBB.out
            have HST11 := Lib.hid (show St w11 sp p g R { s2 with a := 14 } from ⟨HS10.out.sr.fr hf11 (by simpa using hp1), h11, HS10.out.r, HS10.out.b⟩)
            have HRB11 := Lib.hid (hf11.heap HRB10.out (by simp at hbb ⊢; omega))
            have HNX11 := Lib.hid (hf11.heap HNX.out (by simp at hbb ⊢; omega))
            have HF11 := Lib.hid (HF10.out.new hf11 (by have := HPG.out; simp; omega))
            have hsv := st_save sp p g R { s2 with a := 14 } R.c (R.n + 1) w11 A w.heap.size HST11.out (by have := HR2.out.2.2.2.1; simp only; omega) (HE.out.fr HF11.out (by simp)) HPG.out.1 HPG.out.2
            obtain ⟨s3, hcut, hop3, hlen3⟩ := raw_cut R s2 HR2.out.1 HR2.out.2.2.1 HRO.out HS10.out.r (by have := HRN.out; omega)
            rw [hcut, HRC.out, HRN.out, show ev A 5 = .iface 95 (.pointer (some (A 5))) from rfl] at hsv
            have HSV := Lib.hid hsv
            have HOP3 := Lib.hid hop3
            have HLEN3 := Lib.hid hlen3
            have x0 := cell_of_row _ _ 0 _ _ _ HNX11.out
            have x1 := cell_of_row _ _ 1 _ _ _ HNX11.out
            simp at x0 x1
            have hn3 : s3.n ≤ 1000 := by have := SR.save_n R { s2 with a := 14 } R.c (R.n + 1); rw [hcut] at this; have h2 := HR2.out.2.2.2.1; simp only at this; omega
            have HN3 := Lib.hid hn3
            clear h11 hf11 hp1 hbb hsv hcut hop3 hlen3 hn3
            go_wp2_with fail
            refine HSV.out.mono ?_
            rintro e w12 ⟨rfl, hs12, hf12⟩
            clear x0 x1
            have HS12 := Lib.hid hs12
            have HRB12 := Lib.hid (hf12.heap HRB11.out HBB.out.2.1)
            have HNX12 := Lib.hid (hf12.heap HNX11.out HBB.out.2.2)
            have HF12 := Lib.hid (HF11.out.new hf12 (by have := HPG.out; have := HSP.out; simp; omega))
            clear hs12 hf12
            go_wp2_with fail
            refine (cellBack_any p g s3 w12 HS12.out.cl).mono ?_
            rintro e w13 ⟨rfl, h13, hf13⟩
            have hbb := HBB.out
            have HC13 := Lib.hid h13
            have HRB13 := Lib.hid (hf13.heap HRB12.out (by simp at hbb ⊢; omega))
            have HNX13 := Lib.hid (hf13.heap HNX12.out (by simp at hbb ⊢; omega))
            have HF13 := Lib.hid (HF12.out.new hf13 (by have := HPG.out; simp; omega))
            have hop := open_any p g _ w13 A w.heap.size h13 rfl (by have := HLEN3.out; simp only; omega) HS12.out.b (HE.out.fr HF13.out (by simp)) HF13.out.size
            simp only [HOP3.out] at hop
            have HOP := Lib.hid hop
            clear h13 hf13 hbb hop
            go_wp2_with fail
            refine HOP.out.mono ?_
            rintro e w14 ⟨u, rfl, tp, rfl, ht, htp, hf14⟩
            have HT14 := Lib.hid ht
            have HTP := Lib.hid (show w.heap.size ≤ tp ∧ w7.heap.size ≠ tp ∧ W9.heap.size ≠ tp by
              have h1 := HF13.out.size
              have h2 := (Array.getElem?_eq_some_iff.1 HRB13.out).1
              have h3 := (Array.getElem?_eq_some_iff.1 HNX13.out).1
              omega)
            have HC14 := Lib.hid (HC13.out.fr hf14 (by simp) (by simp))
            have HRB14 := Lib.hid (hf14.heap HRB13.out (by simp))
            have HNX14 := Lib.hid (hf14.heap HNX13.out (by simp))
            have HF14 := Lib.hid (HF13.out.trans hf14)
            have hrec := fun W (hW : Fr w14 W []) => record_any tp p R W (ht.fr hW (by simp))
            rw [HRC.out, HRN.out] at hrec
            have HREC := Lib.hid hrec
            have HSM := Lib.hid (fun W => same3_any Rc Rn Rc Rn true W (by simp))
            have x0a := cell_of_row _ _ 0 _ _ _ HRB14.out
            have x1a := cell_of_row _ _ 1 _ _ _ HRB14.out
            simp at x0a x1a
            clear ht htp hf14 hrec
            go_wp2_with fail
            first | (go_region_held3 (fun w' => w'.cell? ⟨w7.heap.size, 0, none⟩ = some (.int .i64 Rc) ∧ w'.cell? ⟨w7.heap.size, 1, none⟩ = some (.int .i64 Rn))
              (first | exact ⟨x0a, x1a⟩ | exact ⟨x0c, x1c⟩ | exact ⟨x0b, x1b⟩)
              (first
                | (go_at_call 14; ((with_reducible refine (HREC.out _ (Fr.drew w14 [])).mono ?_); rintro e wa ⟨rfl, hfa⟩; have hfa0 := (Fr.drew w14 []).trans hfa; have x0b := hfa0.cell x0a (by simp); have x1b := hfa0.cell x1a (by simp)))
                | (go_at_call 15; ((with_reducible refine (HSM.out _).mono ?_); rintro e wb ⟨rfl, hfb⟩; have hfb0 := hfa0.trans hfb; have x0c := hfb.cell x0b (by simp); have x1c := hfb.cell x1b (by simp))))) | fail
            all_goals
              have HFB := Lib.hid hfb0
              have HNXB := Lib.hid (hfb0.heap HNX14.out (by simp))
              have HCB := Lib.hid (HC14.out.fr hfb0 (by simp) (by simp))
              have HTB := Lib.hid (HT14.out.fr hfb0 (by simp))
              have HF15 := Lib.hid (HF14.out.trans hfb0)
              have hin3 : R.in := HS10.out.r
              obtain ⟨s4, R4, hfull, hop4, hc4, hn4, hlen4, hd4⟩ := raw_full R { s3 with a := 0, d := false } rfl rfl (by have := HLEN3.out; simpa using this) (by have := HOP3.out; simp only; exact this.symm) hin3 (by have := HRN.out; omega)
              have hst : St wb tp p g R { s3 with a := 0, d := false } := ⟨HTB.out, HCB.out, hin3, HS12.out.b⟩
              have hsv := st_save tp p g R _ R.c (R.n + 1) wb A w.heap.size hst (by have := HN3.out; simp only; omega) (HE.out.fr HF15.out (by simp)) HPG.out.1 HPG.out.2
              rw [hfull, HRC.out, HRN.out, show ev A 0 = .nilIface from rfl] at hsv
              have HSV2 := Lib.hid hsv
              have HOP4 := Lib.hid hop4
              have HCN4 := Lib.hid (show R4.c = Rc ∧ R4.n = Rn + 1 from ⟨hc4.trans HRC.out, hn4.trans (by rw [HRN.out])⟩)
              have HLD4 := Lib.hid (show s4.l.length = 26 ∧ s4.d = false from ⟨hlen4, hd4⟩)
              have x0 := cell_of_row _ _ 0 _ _ _ HNXB.out
              have x1 := cell_of_row _ _ 1 _ _ _ HNXB.out
              simp at x0 x1
              clear hfa hfb hfa0 hfb0 x0a x0b x0c x1a x1b x1c hfull hop4 hc4 hn4 hlen4 hd4 hst hsv hin3
              go_wp2_with fail
              refine HSV2.out.mono ?_
              rintro e w16 ⟨rfl, hs16, hf16⟩
              clear x0 x1
              have HS16 := Lib.hid hs16
              have HNX16 := Lib.hid (hf16.heap HNXB.out (by have := HBB.out.2.2; have := HTP.out; simp at *; omega))
              have HF16 := Lib.hid (HF15.out.new hf16 (by have := HPG.out; have := HTP.out; simp; omega))
              have hop := open_any p g s4 w16 A w.heap.size hs16.cl HLD4.out.2 (by rw [HLD4.out.1]; omega) hs16.b (HE.out.fr HF16.out (by simp)) HF16.out.size
              rw [HOP4.out] at hop
              have HOPL := Lib.hid hop
              clear hs16 hf16 hop
              go_wp2_with fail
              refine HOPL.out.mono ?_
              rintro e w17 ⟨u, rfl, up, rfl, hu, hup, hf17⟩
              have hnx17 := hf17.heap HNX16.out (by simp)
              have HF17 := Lib.hid (HF16.out.trans hf17)
              have hrec := fun W (hW : Fr w17 W []) => record_any up p R4 W (hu.fr hW (by simp))
              rw [HCN4.out.1, HCN4.out.2] at hrec
              have HREC2 := Lib.hid hrec
              have HSM2 := Lib.hid (fun W => same3_any Rc (Rn + 1) Rc (Rn + 1) true W (by simp))
              have x0a := cell_of_row _ _ 0 _ _ _ hnx17
              have x1a := cell_of_row _ _ 1 _ _ _ hnx17
              simp at x0a x1a
              clear hu hup hf17 hrec hnx17
              go_wp2_with fail
              first | (go_region_held3 (fun w' => w'.cell? ⟨W9.heap.size, 0, none⟩ = some (.int .i64 Rc) ∧ w'.cell? ⟨W9.heap.size, 1, none⟩ = some (.int .i64 (Rn + 1)))
                (first | exact ⟨x0a, x1a⟩ | exact ⟨x0c, x1c⟩ | exact ⟨x0b, x1b⟩)
                (first
                  | (go_at_call 14; ((with_reducible refine (HREC2.out _ (Fr.drew w17 [])).mono ?_); rintro e wa ⟨rfl, hfa⟩; have hfa0 := (Fr.drew w17 []).trans hfa; have x0b := hfa0.cell x0a (by simp); have x1b := hfa0.cell x1a (by simp)))
                  | (go_at_call 15; ((with_reducible refine (HSM2.out _).mono ?_); rintro e wb ⟨rfl, hfb⟩; have hfb0 := hfa0.trans hfb; have x0c := hfb.cell x0b (by simp); have x1c := hfb.cell x1b (by simp))))) | fail
              all_goals
                have HFE := Lib.hid (HF17.out.trans hfb0)
                clear hfa hfb hfa0 hfb0 x0a x0b x0c x1a x1b x1c
                go_wp2
                go_ret
                exact ⟨rfl, HFE.out.grown (by simp)⟩
          · have hb0 : ((M : Int) == 0) = false := by simp; omega
            by_cases hmax : Rn = 281474976710655
            · have hmx : (Rn == 281474976710655) = true := by simpa using hmax
              clear hmax
              go_wp2
              go_ret
              exact ⟨rfl, ((HF7.out.trans (Fr.alloc w7 _ [])).grown (by simp))⟩
            · have hmx : (Rn == 281474976710655) = false := by simpa using hmax
              have hRnm : Rn < 281474976710655 := by omega
              clear hmax
              go_upto_region 24 with fail
              generalize hW8 : World.alloc w7 _ = W9
              have HRB := Lib.hid (show W9.heap[w7.heap.size]? = some (.cells #[.int .i64 Rc, .int .i64 Rn] 35 (0, 0)) by rw [← hW8]; exact heap_alloc_new w7 _)
              have hf8 : Fr w7 W9 [] := by rw [← hW8]; exact Fr.alloc _ _ _
              have HS9 := Lib.hid (HS7.out.fr hf8 (by simp))
              have HF9 := Lib.hid (HF7.out.trans hf8)
              have x0 := cell_of_row _ _ 0 _ _ _ HRB.out
              have x1 := cell_of_row _ _ 1 _ _ _ HRB.out
              simp at x0 x1
              clear hW8 hf8
              go_wp2_with fail
              clear x0 x1 g1 g2 g3 g4 hmx hb0
              -- r lies at rb, the worlds stand at W9
              generalize hW10 : World.alloc W9 _ = W10
              have hnx : W10.heap[W9.heap.size]? = some (.cells #[.int .i64 Rc, .int .i64 (Rn + 1)] 35 (0, 0)) := by rw [← hW10]; exact heap_alloc_new W9 _
              have hf10 : Fr W9 W10 [] := by rw [← hW10]; exact Fr.alloc _ _ _
              have HNX := Lib.hid hnx
              have HRB10 := Lib.hid (hf10.heap HRB.out (by simp))
              have HS10 := Lib.hid (HS9.out.fr hf10 (by simp))
              have HF10 := Lib.hid (HF9.out.trans hf10)
              have HLTR := Lib.hid (show w7.heap.size < W10.heap.size ∧ W9.heap.size < W10.heap.size from ⟨(Array.getElem?_eq_some_iff.1 HRB10.out).1, (Array.getElem?_eq_some_iff.1 hnx).1⟩)
              have HBB := Lib.hid (show sp ∉ [w7.heap.size] ∧ (w7.heap.size ∉ [sp, p, g]) ∧ (W9.heap.size ∉ [sp, p, g]) by
                have h1 := HS7.out.sr.lt
                have h2 := HS7.out.cl.lt
                have h3 := (Array.getElem?_eq_some_iff.1 HRB.out).1
                simp; omega)
              clear hW10 hnx hf10
              refine (cellArm_any p g s2 14 W10 HS10.out.cl (by omega) 14 (by omega)).mono ?_
              rintro e w11 ⟨rfl, h11, hf11⟩
              have hp1 := (HS10.out.sr.ne HS10.out.cl).1
              have hbb := HBB.out
              have HST11 := Lib.hid (show St w11 sp p g R { s2 with a := 14 } from ⟨HS10.out.sr.fr hf11 (by simpa using hp1), h11, HS10.out.r, HS10.out.b⟩)
              have HRB11 := Lib.hid (hf11.heap HRB10.out (by simp at hbb ⊢; omega))
              have HNX11 := Lib.hid (hf11.heap HNX.out (by simp at hbb ⊢; omega))
              have HF11 := Lib.hid (HF10.out.new hf11 (by have := HPG.out; simp; omega))
              have hsv := st_save sp p g R { s2 with a := 14 } R.c (R.n + 1) w11 A w.heap.size HST11.out (by have := HR2.out.2.2.2.1; simp only; omega) (HE.out.fr HF11.out (by simp)) HPG.out.1 HPG.out.2
              obtain ⟨s3, hcut, hop3, hlen3⟩ := raw_cut R s2 HR2.out.1 HR2.out.2.2.1 HRO.out HS10.out.r (by have := HRN.out; omega)
              rw [hcut, HRC.out, HRN.out, show ev A 5 = .iface 95 (.pointer (some (A 5))) from rfl] at hsv
              have HSV := Lib.hid hsv
              have HOP3 := Lib.hid hop3
              have HLEN3 := Lib.hid hlen3
              have x0 := cell_of_row _ _ 0 _ _ _ HNX11.out
              have x1 := cell_of_row _ _ 1 _ _ _ HNX11.out
              simp at x0 x1
              have hn3 : s3.n ≤ 1000 := by have := SR.save_n R { s2 with a := 14 } R.c (R.n + 1); rw [hcut] at this; have h2 := HR2.out.2.2.2.1; simp only at this; omega
              have HN3 := Lib.hid hn3
              clear h11 hf11 hp1 hbb hsv hcut hop3 hlen3 hn3
              go_wp2_with fail
              refine HSV.out.mono ?_
              rintro e w12 ⟨rfl, hs12, hf12⟩
              clear x0 x1
              have HS12 := Lib.hid hs12
              have HRB12 := Lib.hid (hf12.heap HRB11.out HBB.out.2.1)
              have HNX12 := Lib.hid (hf12.heap HNX11.out HBB.out.2.2)
              have HF12 := Lib.hid (HF11.out.new hf12 (by have := HPG.out; have := HSP.out; simp; omega))
              clear hs12 hf12
              go_wp2_with fail
              refine (cellBack_any p g s3 w12 HS12.out.cl).mono ?_
              rintro e w13 ⟨rfl, h13, hf13⟩
              have hbb := HBB.out
              have HC13 := Lib.hid h13
              have HRB13 := Lib.hid (hf13.heap HRB12.out (by simp at hbb ⊢; omega))
              have HNX13 := Lib.hid (hf13.heap HNX12.out (by simp at hbb ⊢; omega))
              have HF13 := Lib.hid (HF12.out.new hf13 (by have := HPG.out; simp; omega))
              have hop := open_any p g _ w13 A w.heap.size h13 rfl (by have := HLEN3.out; simp only; omega) HS12.out.b (HE.out.fr HF13.out (by simp)) HF13.out.size
              simp only [HOP3.out] at hop
              have HOP := Lib.hid hop
              clear h13 hf13 hbb hop
              go_wp2_with fail
              refine HOP.out.mono ?_
              rintro e w14 ⟨u, rfl, tp, rfl, ht, htp, hf14⟩
              have HT14 := Lib.hid ht
              have HTP := Lib.hid (show w.heap.size ≤ tp ∧ w7.heap.size ≠ tp ∧ W9.heap.size ≠ tp by
                have h1 := HF13.out.size
                have h2 := (Array.getElem?_eq_some_iff.1 HRB13.out).1
                have h3 := (Array.getElem?_eq_some_iff.1 HNX13.out).1
                omega)
              have HC14 := Lib.hid (HC13.out.fr hf14 (by simp) (by simp))
              have HRB14 := Lib.hid (hf14.heap HRB13.out (by simp))
              have HNX14 := Lib.hid (hf14.heap HNX13.out (by simp))
              have HF14 := Lib.hid (HF13.out.trans hf14)
              have hrec := fun W (hW : Fr w14 W []) => record_any tp p R W (ht.fr hW (by simp))
              rw [HRC.out, HRN.out] at hrec
              have HREC := Lib.hid hrec
              have HSM := Lib.hid (fun W => same3_any Rc Rn Rc Rn true W (by simp))
              have x0a := cell_of_row _ _ 0 _ _ _ HRB14.out
              have x1a := cell_of_row _ _ 1 _ _ _ HRB14.out
              simp at x0a x1a
              clear ht htp hf14 hrec
              go_wp2_with fail
              first | (go_region_held3 (fun w' => w'.cell? ⟨w7.heap.size, 0, none⟩ = some (.int .i64 Rc) ∧ w'.cell? ⟨w7.heap.size, 1, none⟩ = some (.int .i64 Rn))
                (first | exact ⟨x0a, x1a⟩ | exact ⟨x0c, x1c⟩ | exact ⟨x0b, x1b⟩)
                (first
                  | (go_at_call 14; ((with_reducible refine (HREC.out _ (Fr.drew w14 [])).mono ?_); rintro e wa ⟨rfl, hfa⟩; have hfa0 := (Fr.drew w14 []).trans hfa; have x0b := hfa0.cell x0a (by simp); have x1b := hfa0.cell x1a (by simp)))
                  | (go_at_call 15; ((with_reducible refine (HSM.out _).mono ?_); rintro e wb ⟨rfl, hfb⟩; have hfb0 := hfa0.trans hfb; have x0c := hfb.cell x0b (by simp); have x1c := hfb.cell x1b (by simp))))) | fail
              all_goals
                have HFB := Lib.hid hfb0
                have HNXB := Lib.hid (hfb0.heap HNX14.out (by simp))
                have HCB := Lib.hid (HC14.out.fr hfb0 (by simp) (by simp))
                have HTB := Lib.hid (HT14.out.fr hfb0 (by simp))
                have HF15 := Lib.hid (HF14.out.trans hfb0)
                have hin3 : R.in := HS10.out.r
                obtain ⟨s4, R4, hfull, hop4, hc4, hn4, hlen4, hd4⟩ := raw_full R { s3 with a := 0, d := false } rfl rfl (by have := HLEN3.out; simpa using this) (by have := HOP3.out; simp only; exact this.symm) hin3 (by have := HRN.out; omega)
                have hst : St wb tp p g R { s3 with a := 0, d := false } := ⟨HTB.out, HCB.out, hin3, HS12.out.b⟩
                have hsv := st_save tp p g R _ R.c (R.n + 1) wb A w.heap.size hst (by have := HN3.out; simp only; omega) (HE.out.fr HF15.out (by simp)) HPG.out.1 HPG.out.2
                rw [hfull, HRC.out, HRN.out, show ev A 0 = .nilIface from rfl] at hsv
                have HSV2 := Lib.hid hsv
                have HOP4 := Lib.hid hop4
                have HCN4 := Lib.hid (show R4.c = Rc ∧ R4.n = Rn + 1 from ⟨hc4.trans HRC.out, hn4.trans (by rw [HRN.out])⟩)
                have HLD4 := Lib.hid (show s4.l.length = 26 ∧ s4.d = false from ⟨hlen4, hd4⟩)
                have x0 := cell_of_row _ _ 0 _ _ _ HNXB.out
                have x1 := cell_of_row _ _ 1 _ _ _ HNXB.out
                simp at x0 x1
                clear hfa hfb hfa0 hfb0 x0a x0b x0c x1a x1b x1c hfull hop4 hc4 hn4 hlen4 hd4 hst hsv hin3
                go_wp2_with fail
                refine HSV2.out.mono ?_
                rintro e w16 ⟨rfl, hs16, hf16⟩
                clear x0 x1
                have HS16 := Lib.hid hs16
                have HNX16 := Lib.hid (hf16.heap HNXB.out (by have := HBB.out.2.2; have := HTP.out; simp at *; omega))
                have HF16 := Lib.hid (HF15.out.new hf16 (by have := HPG.out; have := HTP.out; simp; omega))
                have hop := open_any p g s4 w16 A w.heap.size hs16.cl HLD4.out.2 (by rw [HLD4.out.1]; omega) hs16.b (HE.out.fr HF16.out (by simp)) HF16.out.size
                rw [HOP4.out] at hop
                have HOPL := Lib.hid hop
                clear hs16 hf16 hop
                go_wp2_with fail
                refine HOPL.out.mono ?_
                rintro e w17 ⟨u, rfl, up, rfl, hu, hup, hf17⟩
                have hnx17 := hf17.heap HNX16.out (by simp)
                have HF17 := Lib.hid (HF16.out.trans hf17)
                have hrec := fun W (hW : Fr w17 W []) => record_any up p R4 W (hu.fr hW (by simp))
                rw [HCN4.out.1, HCN4.out.2] at hrec
                have HREC2 := Lib.hid hrec
                have HSM2 := Lib.hid (fun W => same3_any Rc (Rn + 1) Rc (Rn + 1) true W (by simp))
                have x0a := cell_of_row _ _ 0 _ _ _ hnx17
                have x1a := cell_of_row _ _ 1 _ _ _ hnx17
                simp at x0a x1a
                clear hu hup hf17 hrec hnx17
                go_wp2_with fail
                first | (go_region_held3 (fun w' => w'.cell? ⟨W9.heap.size, 0, none⟩ = some (.int .i64 Rc) ∧ w'.cell? ⟨W9.heap.size, 1, none⟩ = some (.int .i64 (Rn + 1)))
                  (first | exact ⟨x0a, x1a⟩ | exact ⟨x0c, x1c⟩ | exact ⟨x0b, x1b⟩)
                  (first
                    | (go_at_call 14; ((with_reducible refine (HREC2.out _ (Fr.drew w17 [])).mono ?_); rintro e wa ⟨rfl, hfa⟩; have hfa0 := (Fr.drew w17 []).trans hfa; have x0b := hfa0.cell x0a (by simp); have x1b := hfa0.cell x1a (by simp)))
                    | (go_at_call 15; ((with_reducible refine (HSM2.out _).mono ?_); rintro e wb ⟨rfl, hfb⟩; have hfb0 := hfa0.trans hfb; have x0c := hfb.cell x0b (by simp); have x1c := hfb.cell x1b (by simp))))) | fail
                all_goals
                  have HFE := Lib.hid (HF17.out.trans hfb0)
                  clear hfa hfb hfa0 hfb0 x0a x0b x0c x1a x1b x1c
                  go_wp2
                  go_ret
                  exact ⟨rfl, HFE.out.grown (by simp)⟩
end Go.Proofs.YthiimkjhlndcoaaDoor
