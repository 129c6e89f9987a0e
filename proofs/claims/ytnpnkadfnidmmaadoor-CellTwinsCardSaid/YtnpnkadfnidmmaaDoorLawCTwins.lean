/- The walk of the cell's law of twins: two memories are apart; a copy has all bytes, and whether it is armed. -/
import Derived.Test.YtnpnkadfnidmmaaDoorLawArms
namespace Go.Proofs.YtnpnkadfnidmmaaDoor
open Go.RowKit

/-- The bytes behind k writes. -/
def twL (l : List Int) : Nat → List Int
  | 0 => List.replicate 20 0
  | k + 1 => (twL l k).set (l.getD k 0 % 20).toNat ((k : Int) + 1)
theorem twL_len (l : List Int) : ∀ k, (twL l k).length = 20
  | 0 => by simp [twL]
  | k + 1 => by simp [twL, twL_len l k]
def twS (l : List Int) (k : Nat) : CS := ⟨twL l k, 0, false, k⟩
theorem twS_zero (l : List Int) : twS l 0 = CS.new 20 := rfl
theorem twS_put (l : List Int) (k i : Nat) (hi : i < 20) (h : l.getD k 0 % 20 = (i : Int)) : (twS l k).put (i : Int) ((k : Int) + 1) = (twS l (k + 1), 0) := by
  unfold CS.put CS.gone CS.has CS.fg
  simp only [twS, twL_len]
  rw [if_neg (by simp), if_neg (by simp), if_pos (by simp; omega)]
  simp only [twL, h, Int.toNat_natCast]
  simp
theorem cs_get_in (s : CS) (i : Nat) (hd : s.d = false) (hi : i < s.l.length) : s.get (i : Int) = (s.l.getD i 0, 0) := by
  unfold CS.get CS.has
  rw [if_neg (by rw [hd]; simp), if_pos (by simp; omega)]; rfl
theorem cs_get_out (s : CS) (i : Int) (hd : s.d = false) (hi : i < 0 ∨ (s.l.length : Int) ≤ i) : s.get i = (0, 6) := by
  unfold CS.get CS.has
  rw [if_neg (by rw [hd]; simp), if_neg (by simp; omega)]

/-- The copy's state behind i writes, armed for the n-th. -/
def TwC (n i : Nat) (s : CS) : Prop := s.l.length = 20 ∧ 0 ≤ s.n ∧ s.n ≤ 100 + (i : Int) ∧ ((n = 0 ∨ i < n) → s.d = false ∧ s.a = (n : Int) - (if n = 0 then 0 else (i : Int))) ∧ (¬ (n = 0 ∨ i < n) → s.d = true)
theorem TwC.put {n i : Nat} {s : CS} (h : TwC n i s) : TwC n (i + 1) (s.put 0 99).1 ∧ (s.put 0 99).2 = if n = 0 ∨ i + 1 < n then 0 else 5 := by
  obtain ⟨h1, h2, h3, h4, h5⟩ := h
  by_cases h0 : n = 0 ∨ i < n
  · obtain ⟨hd, ha⟩ := h4 h0
    by_cases h6 : n = 0 ∨ i + 1 < n
    · have hg : s.gone = false := by unfold CS.gone; rw [ha]; simp; split <;> omega
      have e : s.put 0 99 = ({ s.fg with l := s.l.set 0 99, n := s.n + 1 }, 0) := by
        unfold CS.put CS.has
        rw [if_neg (by rw [hd]; simp), if_neg (by rw [hg]; simp), if_pos (by simp; omega)]; rfl
      rw [e, if_pos h6]
      refine ⟨⟨by simp [h1], by simp; omega, by simp; omega, fun _ => ?_, fun h => absurd h6 h⟩, rfl⟩
      unfold CS.fg
      by_cases hn : n = 0
      · subst hn; simp only [if_true] at ha ⊢; rw [if_pos (by omega)]; exact ⟨hd, ha⟩
      · simp only [if_neg hn] at ha ⊢; rw [if_neg (by omega)]; simp; omega
    · have hg : s.gone = true := by unfold CS.gone; rw [ha]; simp; split <;> omega
      have e : s.put 0 99 = (s.fg, 5) := by
        unfold CS.put
        rw [if_neg (by rw [hd]; simp), if_pos hg]
      rw [e, if_neg h6]
      refine ⟨⟨by rw [s.fg_l]; exact h1, by rw [s.fg_n]; omega, by rw [s.fg_n]; omega, fun h => absurd h h6, fun _ => ?_⟩, rfl⟩
      have ha1 : s.a = 1 := by unfold CS.gone at hg; simpa using hg
      unfold CS.fg; rw [if_neg (by omega)]; simp [ha1]
  · have hd := h5 h0
    have e : s.put 0 99 = (s, 5) := by unfold CS.put; rw [if_pos hd]
    rw [e, if_neg (by omega)]
    exact ⟨⟨h1, h2, by simp only; omega, fun h => absurd h (by omega), fun _ => hd⟩, rfl⟩

set_option maxHeartbeats 8000000 in
set_option maxRecDepth 100000 in
theorem ctwins_walk (v : Value) (l : List Int) (arm0 : Int) (hl : ∀ x ∈ l, (Lit.int .i64 x).wf = true) (ha : (Lit.int .i64 arm0).wf = true) (w : World) (A : Nat → Addr) (hE : E13 w A w.heap.size) (hv : Holds .i64 w v l) :
    Calls Tryd.prog 5 #[v, .int .i64 arm0] w fun e w' => e = .returned (.bool true) ∧ w.grownBy w' none := by
  obtain ⟨N, hN, _, hNc⟩ := numberTo_nat arm0 5 (by omega) (by omega) ha
  have HN := Lib.hid hNc
  have HE := Lib.hid hE
  obtain ⟨a, cap, rfl, hcap, hcm, hcell⟩ := hv
  unfold maxLen at hcm
  have HCELL := Lib.hid hcell
  clear hNc hE hcell
  by_cases h30 : 30 < l.length
  · go_enter Tryd.func5, Tryd.ntmps5
    go_wp2_with fail
    refine (first_any _ A HE.out).mono ?_
    rintro e w1 ⟨rfl, hg1⟩
    go_wp2
    go_ret
    exact ⟨rfl, hg1⟩
  · go_enter Tryd.func5, Tryd.ntmps5
    go_wp2_with fail
    refine (first_any _ A HE.out).mono ?_
    rintro e w1 ⟨rfl, hg1⟩
    have HF1 := Lib.hid (Fr.of_grown hg1 [])
    clear hg1
    go_wp2_with fail
    refine (cellNew_ok 20 _ (by omega) (by omega)).mono ?_
    rintro e w2 ⟨u, rfl, p, g, rfl, h2, hp, hg, hf2⟩
    have hp0 : w.heap.size ≤ p := Nat.le_trans HF1.out.size hp
    have hg0 : w.heap.size ≤ g := Nat.le_trans HF1.out.size hg
    have hlt := h2.lt
    have H2 := Lib.hid h2
    have HF2 := Lib.hid (HF1.out.trans hf2)
    clear h2 hf2 hp hg
    go_wp2_with fail
    refine (cellNew_ok 20 _ (by omega) (by omega)).mono ?_
    rintro e w3 ⟨u, rfl, p2, g2, rfl, h3, hp2, hg2, hf3⟩
    have hap : p ≠ p2 ∧ p ≠ g2 ∧ g ≠ p2 ∧ g ≠ g2 := by omega
    have hp20 : w.heap.size ≤ p2 := Nat.le_trans HF2.out.size hp2
    have hg20 : w.heap.size ≤ g2 := Nat.le_trans HF2.out.size hg2
    have HA := Lib.hid hap
    have H3 := Lib.hid (H2.out.fr hf3 (by simp) (by simp))
    have H3b := Lib.hid h3
    have HF3 := Lib.hid (HF2.out.trans hf3)
    clear h3 hf3 hp2 hg2 hap hlt
    go_wp2
    go_loopw [10] (fun i wr => ∃ k : Nat, k ≤ l.length ∧ i = .int .i64 k ∧ Cl wr p g (twS l k) ∧ Cl wr p2 g2 (CS.new 20) ∧ Fr w wr []) (fun i _ => l.length - (intOf i).toNat)
    case atStart => exact ⟨0, Nat.zero_le _, rfl, H3.out, H3b.out, HF3.out⟩
    case round =>
      obtain ⟨k, hk, rfl, hc, hb, hf⟩ := hrel
      have HC := Lib.hid hc
      have HB := Lib.hid hb
      have HF := Lib.hid hf
      clear hc hb hf
      by_cases hlt : k < l.length
      · obtain ⟨bb, off, rfl, hcl⟩ := HCELL.out (by omega)
        have hcell := HF.out.cell (hcl k hlt) (by simp)
        have hxw : (Lit.int .i64 (l.getD k 0)).wf = true := hl _ (by simp [hlt])
        obtain ⟨i, hi, hie, hic⟩ := numberTo_nat (l.getD k 0) 20 (by omega) (by omega) hxw
        have hput := cellPut_any p g (twS l k) i (k + 1) wr A w.heap.size HC.out (by show (k : Int) < _; omega) (HE.out.fr HF.out (by simp)) hp0 hg0
        rw [twS_put l k i hi hie, show ev A 0 = .nilIface from rfl] at hput
        obtain ⟨x, hxx⟩ : ∃ x, x = l.getD k 0 := ⟨_, rfl⟩
        rw [← hxx] at hcell hic
        have HP := Lib.hid hput
        have HI := Lib.hid hic
        clear hxx hput hic hie hxw hcl
        go_wp2_with fail
        refine (HI.out _).mono ?_
        rintro e w4 ⟨rfl, rfl⟩
        go_wp2_with fail
        try rw [IntWalk.u8_in _ (by omega)]
        refine HP.out.mono ?_
        rintro e w4 ⟨rfl, h4, hf4⟩
        have H4 := Lib.hid h4
        have H4b := Lib.hid (HB.out.fr hf4 (by have := HA.out; simp; omega) (by have := HA.out; simp; omega))
        have HF4 := Lib.hid (HF.out.new hf4 (by simp; omega))
        clear h4 hf4
        go_wp2
        go_roundw
        case rel => exact ⟨k + 1, by omega, by go_num, H4.out, H4b.out, HF4.out⟩
        case measure => simp [intOf]; omega
      · obtain rfl : k = l.length := by omega
        go_wp2_with fail
        refine (HN.out _).mono ?_
        rintro e w4 ⟨rfl, rfl⟩
        go_wp2_with fail
        refine (cellArm_any p g _ N _ HC.out (by omega) N (by omega)).mono ?_
        rintro e w4 ⟨rfl, h4, hf4⟩
        obtain ⟨s, hs⟩ : ∃ s, s = { (twS l l.length) with a := (N : Int) } := ⟨_, rfl⟩
        rw [← hs] at h4
        have hs1 : s.d = false ∧ s.l.length = 20 ∧ s.a = (N : Int) ∧ s.n = (l.length : Int) := by rw [hs]; exact ⟨rfl, twL_len _ _, rfl, rfl⟩
        have HS := Lib.hid hs1
        have H4 := Lib.hid h4
        have H4b := Lib.hid (HB.out.fr hf4 (by have := HA.out; simp; omega) (by have := HA.out; simp; omega))
        have HF4 := Lib.hid (HF.out.new hf4 (by simp; omega))
        clear h4 hf4 hs hs1
        go_wp2_with fail
        refine (cellClone_any p g _ _ H4.out).mono ?_
        rintro e w5 ⟨u, rfl, p3, g3, rfl, h5, hp3, hg3, hf5⟩
        have hlt1 := H4.out.lt
        have hlt2 := H4b.out.lt
        have hap : p ≠ p3 ∧ p ≠ g3 ∧ g ≠ p3 ∧ g ≠ g3 ∧ p2 ≠ p3 ∧ p2 ≠ g3 ∧ g2 ≠ p3 ∧ g2 ≠ g3 := by omega
        have HA3 := Lib.hid hap
        have hp30 : w.heap.size ≤ p3 := Nat.le_trans HF4.out.size hp3
        have hg30 : w.heap.size ≤ g3 := Nat.le_trans HF4.out.size hg3
        have H5 := Lib.hid (H4.out.fr hf5 (by simp) (by simp))
        have H5b := Lib.hid (H4b.out.fr hf5 (by simp) (by simp))
        have H5c := Lib.hid h5
        have HF5 := Lib.hid (HF4.out.trans hf5)
        clear h5 hf5 hp3 hg3 hap hlt1 hlt2
        go_wp2
        go_loopw [12] (fun i wr => ∃ j : Nat, j ≤ 20 ∧ i = .int .i64 j ∧ Cl wr p g s ∧ Cl wr p2 g2 (CS.new 20) ∧ Cl wr p3 g3 s ∧ Fr w wr []) (fun i _ => 20 - (intOf i).toNat)
        case atStart => exact ⟨0, Nat.zero_le _, rfl, H5.out, H5b.out, H5c.out, HF5.out⟩
        case round =>
          obtain ⟨j, hj, rfl, hc, hb, hd, hf⟩ := hrel
          have H6 := Lib.hid hc
          have H6b := Lib.hid hb
          have H6c := Lib.hid hd
          have HF6 := Lib.hid hf
          clear hc hb hd hf
          by_cases hlt2 : j < 20
          · have hget := fun W (hW : Fr wr W []) => cellGet_any p g s j W A w.heap.size (H6.out.fr hW (by simp) (by simp)) (HE.out.fr (HF6.out.trans hW) (by simp))
            have hget3 := fun W (hW : Fr wr W []) => cellGet_any p3 g3 s j W A w.heap.size (H6c.out.fr hW (by simp) (by simp)) (HE.out.fr (HF6.out.trans hW) (by simp))
            have hget2 := fun W (hW : Fr wr W []) => cellGet_any p2 g2 (CS.new 20) j W A w.heap.size (H6b.out.fr hW (by simp) (by simp)) (HE.out.fr (HF6.out.trans hW) (by simp))
            rw [cs_get_in s j HS.out.1 (by rw [HS.out.2.1]; exact hlt2), show ev A 0 = .nilIface from rfl] at hget hget3
            rw [cs_get_in (CS.new 20) j rfl hlt2, show ev A 0 = .nilIface from rfl, CS.new_get] at hget2
            obtain ⟨y, hy⟩ : ∃ y, y = s.l.getD j 0 := ⟨_, rfl⟩
            rw [← hy] at hget hget3
            have HG := Lib.hid hget
            have HG2 := Lib.hid hget2
            have HG3 := Lib.hid hget3
            have hne : (y != y) = false := by simp
            clear hget hget2 hget3 hy
            go_wp2_with fail
            refine (HG.out _ (Fr.refl _ _)).mono ?_
            rintro e w6 ⟨rfl, hd6⟩
            have HD6 := Lib.hid (hd6.fr [])
            clear hd6
            go_wp2_with fail
            refine (HG3.out _ HD6.out).mono ?_
            rintro e w7 ⟨rfl, hd7⟩
            have HD7 := Lib.hid (HD6.out.trans (hd7.fr []))
            clear hd7
            go_wp2_with fail
            refine (HG2.out _ HD7.out).mono ?_
            rintro e w8 ⟨rfl, hd8⟩
            have HF7 := Lib.hid (HD7.out.trans (hd8.fr []))
            clear hd8
            go_wp2
            go_roundw
            case rel => exact ⟨j + 1, by omega, by go_num, H6.out.fr HF7.out (by simp) (by simp), H6b.out.fr HF7.out (by simp) (by simp), H6c.out.fr HF7.out (by simp) (by simp), HF6.out.trans HF7.out⟩
            case measure => simp [intOf]; omega
          · go_wp2
            go_loopw [19] (fun i wr => ∃ (j : Nat) (t : CS), 1 ≤ j ∧ j ≤ 6 ∧ i = .int .i64 j ∧ TwC N (j - 1) t ∧ Cl wr p g s ∧ Cl wr p2 g2 (CS.new 20) ∧ Cl wr p3 g3 t ∧ Fr w wr []) (fun i _ => 6 - (intOf i).toNat)
            case atStart => exact ⟨1, s, by omega, by omega, rfl, ⟨HS.out.2.1, by rw [HS.out.2.2.2]; omega, by rw [HS.out.2.2.2]; omega, fun _ => ⟨HS.out.1, by rw [HS.out.2.2.1]; split <;> omega⟩, fun h => absurd (by omega) h⟩, H6.out, H6b.out, H6c.out, HF6.out⟩
            case round =>
              obtain ⟨j, t, hj1, hj6, rfl, ht, hc, hb, hd, hf⟩ := hrel
              have HT := Lib.hid ht
              have H7 := Lib.hid hc
              have H7b := Lib.hid hb
              have H7c := Lib.hid hd
              have HF7 := Lib.hid hf
              clear ht hc hb hd hf
              by_cases hlt3 : j ≤ 5
              · have hput := cellPut_any p3 g3 t 0 99 wr A w.heap.size H7c.out (by have := HT.out.2.2.1; omega) (HE.out.fr HF7.out (by simp)) hp30 hg30
                obtain ⟨hT2, hcode⟩ := HT.out.put
                rw [hcode] at hput
                have e1 : j - 1 + 1 = j := by omega
                rw [e1] at hput hT2
                have HT2 := Lib.hid hT2
                clear hcode hT2 e1
                have hdn := fun W (hW : Fr wr W [p3, g3]) => cellDown_any p g s W (H7.out.fr hW (by have := HA3.out; simp; omega) (by have := HA3.out; simp; omega))
                have hdn2 := fun W (hW : Fr wr W [p3, g3]) => cellDown_any p2 g2 _ W (H7b.out.fr hW (by have := HA3.out; simp; omega) (by have := HA3.out; simp; omega))
                rw [HS.out.1] at hdn
                rw [show (CS.new 20).d = false from rfl] at hdn2
                have HD := Lib.hid hdn
                have HD2 := Lib.hid hdn2
                clear hdn hdn2
                have hcase : (N : Int) < 1 ∨ (¬ (N : Int) < 1 ∧ j < N) ∨ (¬ (N : Int) < 1 ∧ ¬ j < N) := by omega
                rcases hcase with hz | ⟨hz, hz2⟩ | ⟨hz, hz2⟩
                · rw [if_pos (by omega), show ev A 0 = .nilIface from rfl] at hput
                  have HP := Lib.hid hput
                  clear hput
                  go_wp2_with fail
                  refine HP.out.mono ?_
                  rintro e w8 ⟨rfl, h8, hf8⟩
                  have H8 := Lib.hid h8
                  have HF8 := Lib.hid hf8
                  clear h8 hf8
                  go_wp2_with fail
                  refine (HD.out _ HF8.out).mono ?_
                  rintro e w9 ⟨rfl, rfl⟩
                  go_wp2_with fail
                  refine (HD2.out _ HF8.out).mono ?_
                  rintro e w9 ⟨rfl, rfl⟩
                  go_wp2
                  go_roundw
                  case rel => exact ⟨j + 1, _, by omega, by omega, by go_num, HT2.out, H7.out.fr HF8.out (by have := HA3.out; simp; omega) (by have := HA3.out; simp; omega), H7b.out.fr HF8.out (by have := HA3.out; simp; omega) (by have := HA3.out; simp; omega), H8.out, HF7.out.new HF8.out (by simp; omega)⟩
                  case measure => simp [intOf]; omega
                · rw [if_pos (by omega), show ev A 0 = .nilIface from rfl] at hput
                  have HP := Lib.hid hput
                  clear hput
                  go_wp2_with fail
                  refine HP.out.mono ?_
                  rintro e w8 ⟨rfl, h8, hf8⟩
                  have H8 := Lib.hid h8
                  have HF8 := Lib.hid hf8
                  clear h8 hf8
                  go_wp2_with fail
                  refine (HD.out _ HF8.out).mono ?_
                  rintro e w9 ⟨rfl, rfl⟩
                  go_wp2_with fail
                  refine (HD2.out _ HF8.out).mono ?_
                  rintro e w9 ⟨rfl, rfl⟩
                  go_wp2
                  go_roundw
                  case rel => exact ⟨j + 1, _, by omega, by omega, by go_num, HT2.out, H7.out.fr HF8.out (by have := HA3.out; simp; omega) (by have := HA3.out; simp; omega), H7b.out.fr HF8.out (by have := HA3.out; simp; omega) (by have := HA3.out; simp; omega), H8.out, HF7.out.new HF8.out (by simp; omega)⟩
                  case measure => simp [intOf]; omega
                · rw [if_neg (by omega), show ev A 5 = .iface 69 (.pointer (some (A 5))) from rfl] at hput
                  have HP := Lib.hid hput
                  clear hput
                  go_wp2_with fail
                  refine HP.out.mono ?_
                  rintro e w8 ⟨rfl, h8, hf8⟩
                  have H8 := Lib.hid h8
                  have HF8 := Lib.hid hf8
                  clear h8 hf8
                  go_wp2_with fail
                  refine (HD.out _ HF8.out).mono ?_
                  rintro e w9 ⟨rfl, rfl⟩
                  go_wp2_with fail
                  refine (HD2.out _ HF8.out).mono ?_
                  rintro e w9 ⟨rfl, rfl⟩
                  go_wp2
                  go_roundw
                  case rel => exact ⟨j + 1, _, by omega, by omega, by go_num, HT2.out, H7.out.fr HF8.out (by have := HA3.out; simp; omega) (by have := HA3.out; simp; omega), H7b.out.fr HF8.out (by have := HA3.out; simp; omega) (by have := HA3.out; simp; omega), H8.out, HF7.out.new HF8.out (by simp; omega)⟩
                  case measure => simp [intOf]; omega
              · have hg1 := fun W (hW : Fr wr W []) => cellGet_any p g s (-1) W A w.heap.size (H7.out.fr hW (by simp) (by simp)) (HE.out.fr (HF7.out.trans hW) (by simp))
                have hg2 := fun W (hW : Fr wr W []) => cellGet_any p g s 20 W A w.heap.size (H7.out.fr hW (by simp) (by simp)) (HE.out.fr (HF7.out.trans hW) (by simp))
                rw [cs_get_out s (-1) HS.out.1 (by omega)] at hg1
                rw [cs_get_out s 20 HS.out.1 (by rw [HS.out.2.1]; omega)] at hg2
                have HG1 := Lib.hid hg1
                have HG2 := Lib.hid hg2
                clear hg1 hg2
                go_wp2_with fail
                refine (HG1.out _ (Fr.refl _ _)).mono ?_
                rintro e w8 ⟨rfl, hd8⟩
                have HD8 := Lib.hid (hd8.fr [])
                clear hd8
                go_wp2_with fail
                refine (HG2.out _ HD8.out).mono ?_
                rintro e W ⟨rfl, hd9⟩
                have HF8 := Lib.hid (HD8.out.trans (hd9.fr []))
                clear hd9
                have hwr := cellWrites_any p g s W (H7.out.fr HF8.out (by simp) (by simp))
                rw [HS.out.2.2.2] at hwr
                have hwr2 := cellWrites_any p2 g2 _ W (H7b.out.fr HF8.out (by simp) (by simp))
                rw [show (CS.new 20).n = 0 from rfl] at hwr2
                have HWR := Lib.hid hwr
                have HWR2 := Lib.hid hwr2
                clear hwr hwr2
                go_wp2_with fail
                refine HWR.out.mono ?_
                rintro e w9 ⟨rfl, rfl⟩
                go_wp2_with fail
                refine HWR2.out.mono ?_
                rintro e w9 ⟨rfl, rfl⟩
                go_wp2_with fail
                refine (is_any A w.heap.size 6 _ _ (HE.out.fr (HF7.out.trans HF8.out) (by simp)) (by decide) rfl).mono ?_
                rintro e w9 ⟨rfl, hg9⟩
                have HF9 := Lib.hid ((HF7.out.trans HF8.out).trans (Fr.of_grown hg9 []))
                clear hg9
                go_wp2_with fail
                refine (is_any A w.heap.size 6 _ _ (HE.out.fr HF9.out (by simp)) (by decide) rfl).mono ?_
                rintro e w10 ⟨rfl, hg10⟩
                have HF10 := Lib.hid (HF9.out.trans (Fr.of_grown hg10 []))
                clear hg10
                go_wp2
                go_ret
                exact ⟨rfl, HF10.out.grown (by simp)⟩
end Go.Proofs.YtnpnkadfnidmmaaDoor
