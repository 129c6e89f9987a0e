/- Sorting a row of latches: the merge, whatever the two parts' lengths. Sorting a row of latches: block by block, merged two by two (stable_func). Sorting a row of latches: sort.SliceStable itself; inOrder's answer. inOrder: the latches in the calls' order, those of one call as they stood. -/
import Derived.Test.YtldheaamcnmlgaaGLh
import Derived.Test.YtldheaamcnmlgaaGLg
import Derived.Test.YtldheaamcnmlgaaGLb
import Derived.Test.YtldheaamcnmlgaaGLa
import Derived.Lib.AppendZerosOnto
namespace Go.Proofs.Ytldheaamcnmlgaa
open Go.RowKit

/-- The merge of two parts of fewer than N elements together. -/
def SymP (W0 : World) (p g n : Nat) (Z : List Value) (sf : Nat) (sb : Array Value) (N : Nat) : Prop := ∀ (A L R B : List La) (a m b : Nat), (A ++ (L ++ (R ++ B))).length = n → 0 < L.length → 0 < R.length → L.length + R.length < N → AscS ltL L → AscS ltL R → a = A.length → m = a + L.length → b = m + R.length →
  ∀ w, Fr W0 w [g] → RowS w g Z (A ++ (L ++ (R ++ B))) → Calls Try.prog 101 #[.agg #[lessV p, .func (.func sf) #[] sb], .int .i64 a, .int .i64 m, .int .i64 b] w fun e w' => e = .returned (.tuple #[]) ∧ SymQ w g Z A L R B w'
/-- What the search begins with. -/
def LoHi (a m b mid nn lo hi : Nat) : Prop := (mid < m ∧ nn = lo + b ∧ hi = mid) ∨ (m ≤ mid ∧ lo = a ∧ hi = m)

set_option maxHeartbeats 4000000 in
set_option maxRecDepth 100000 in
theorem sym_gen (W0 : World) (p g n : Nat) (Z : List Value) (sf : Nat) (sb : Array Value) (LS : LessP W0 p g n Z) (SW : SwapP g n Z sf sb) (A L R B : List La) (IH : SymP W0 p g n Z sf sb (L.length + R.length)) (hn : (A ++ (L ++ (R ++ B))).length = n) (hn6 : n ≤ 1000000) (hL : AscS ltL L) (hR : AscS ltL R) (hl2 : 2 ≤ L.length) (hr2 : 2 ≤ R.length) (a m b : Nat) (ha : a = A.length) (hm : m = a + L.length) (hb : b = m + R.length) (w : World) (hf : Fr W0 w [g]) (hr : RowS w g Z (A ++ (L ++ (R ++ B)))) :
    Calls Try.prog 101 #[.agg #[lessV p, .func (.func sf) #[] sb], .int .i64 a, .int .i64 m, .int .i64 b] w fun e w' => e = .returned (.tuple #[]) ∧ SymQ w g Z A L R B w' := by
  have hgl := hr.lt
  obtain ⟨H, hH⟩ : ∃ H, H = w.heap.size := ⟨_, rfl⟩
  obtain ⟨W1, hW1⟩ : ∃ W1, W1 = w.alloc (.cells #[lessV p, .func (.func sf) #[] sb] 109) := ⟨_, rfl⟩
  have FW := Lib.hid (show Fr w W1 [] by rw [hW1]; exact Fr.alloc w _ [])
  have BX : Hid (∀ W, Fr W1 W [g] → W.cell? ⟨H, 0, none⟩ = some (lessV p) ∧ W.cell? ⟨H, 1, none⟩ = some (.func (.func sf) #[] sb)) := Lib.hid (fun W h => by rw [hH]; rw [hW1] at h; exact boxS hgl h)
  have HR1 := Lib.hid (hr.fr FW.out)
  have HLS := Lib.hid LS
  have HIH := Lib.hid IH
  have ROT : Hid (∀ (A X Y B : List La) (a m b : Nat), (A ++ (X ++ (Y ++ B))).length = n → 0 < X.length → 0 < Y.length → a = A.length → m = a + X.length → b = m + Y.length → ∀ w, RowS w g Z (A ++ (X ++ (Y ++ B))) →
    Calls Try.prog 112 #[.agg #[lessV p, .func (.func sf) #[] sb], .int .i64 a, .int .i64 m, .int .i64 b] w fun e w' => e = .returned (.tuple #[]) ∧ SPost w g Z (fun D => D = A ++ (Y ++ (X ++ B))) w') := Lib.hid (fun A X Y B a m b h1 h2 h3 h4 h5 h6 w h7 => rotate_row p g n Z sf sb SW A X Y B h1 hn6 h2 h3 a m b h4 h5 h6 w h7)
  have HAL := Lib.hid hL
  have HAR := Lib.hid hR
  have HF0 := Lib.hid (show Fr W0 W1 [g] from hf.trans (FW.out.mono (by simp)))
  have HN := Lib.hid hn
  have HA := Lib.hid ha
  have HM := Lib.hid hm
  have HB := Lib.hid hb
  have hbn : b ≤ n := by rw [← hn, hb, hm, ha]; simp; omega
  have ham : a + 2 ≤ m := by omega
  have hmb : m + 2 ≤ b := by omega
  have hne : ((m : Int) - (a : Int) == 1) = false := by simp; omega
  have hne2 : ((b : Int) - (m : Int) == 1) = false := by simp; omega
  obtain ⟨D, hD⟩ : ∃ D, D = A ++ (L ++ (R ++ B)) := ⟨_, rfl⟩
  have HDE : Hid ((∀ t, t < L.length → D.getD (a + t) zLa = L.getD t zLa) ∧ (∀ t, t < R.length → D.getD (m + t) zLa = R.getD t zLa)) := Lib.hid ⟨fun t ht => by
    rw [hD, getD_seg _ _ _ _ (by omega) (by omega)]
    congr 1; omega, fun t ht => by
    rw [hD, ← List.append_assoc, getD_seg _ _ _ _ (by simp; omega) (by simp; omega)]
    congr 1; simp; omega⟩
  have HDL : Hid (D.length = n) := Lib.hid (by rw [hD]; exact hn)
  have HD := Lib.hid hD
  rw [← hD] at HR1
  obtain ⟨mid, hmid⟩ : ∃ mid, mid = (a + b) / 2 := ⟨_, rfl⟩
  have emid : ((a : Int) + (b : Int)) / 2 = (mid : Int) := by omega
  have HMID := Lib.hid hmid
  have hm1 : a < mid := by omega
  have hm2 : mid < b := by omega
  obtain ⟨nn, hnn⟩ : ∃ nn, nn = mid + m := ⟨_, rfl⟩
  have enn : (mid : Int) + (m : Int) = (nn : Int) := by omega
  have HNN := Lib.hid hnn
  have hnn2 : nn ≤ n + n := by omega
  have hnb : b ≤ nn ∨ m ≤ mid := by omega
  have hnm : m ≤ nn := by omega
  clear LS SW hf hr hn ha hb hgl hD hL hR hm hl2 hr2 IH hmid hnn
  unfold lessV at *
  go_enter Try.func101, Try.ntmps101
  go_upto_if 106 with fail
  rw [← hW1, ← hH]
  clear hW1 hH
  go_cut [18, 19] (fun s18 s19 wx => (∃ lo hi : Nat, s18 = .int .i64 lo ∧ s19 = .int .i64 hi ∧ Hid (LoHi a m b mid nn lo hi)) ∧ wx = W1)
  case first =>
    by_cases hmm : mid < m
    · go_wp2_with fail
      go_meet
      exact ⟨⟨nn - b, mid, by congr 1; omega, rfl, Lib.hid (.inl ⟨hmm, by omega, rfl⟩)⟩, rfl⟩
    · go_wp2_with fail
      go_meet
      exact ⟨⟨a, m, rfl, rfl, Lib.hid (.inr ⟨by omega, rfl, rfl⟩)⟩, rfl⟩
  case rest =>
    obtain ⟨⟨lo, hi, rfl, rfl, HLH⟩, hwc⟩ := hcut
    have hwc' : W1 = wc := hwc.symm
    clear hwc
    subst hwc'
    have HRG : Hid (a ≤ lo ∧ lo ≤ hi ∧ hi ≤ m ∧ hi ≤ mid ∧ lo < nn ∧ nn - lo ≤ b) := Lib.hid (by
      have := HMID.out
      have := HNN.out
      rcases HLH.out with ⟨h1, h2, h3⟩ | ⟨h1, h2, h3⟩ <;> omega)
    obtain ⟨hal, hlh, hhm, hhmid, hlnn, hnlb⟩ := HRG.out
    go_wp2
    go_loopw [18, 19] (fun s8 s9 wx => ∃ (s r : Nat), s8 = .int .i64 s ∧ s9 = .int .i64 r ∧ Hid (lo ≤ s ∧ s ≤ r ∧ r ≤ hi) ∧ Hid ((lo < s → ltL (D.getD (nn - s) zLa) (D.getD (s - 1) zLa) = false) ∧ (r < hi → ltL (D.getD (nn - 1 - r) zLa) (D.getD r zLa) = true)) ∧ Hid (RowS wx g Z D ∧ Fr W1 wx [])) (fun s8 s9 _ => (intOf s9).toNat - (intOf s8).toNat)
    case atStart => exact ⟨lo, hi, rfl, rfl, Lib.hid ⟨Nat.le_refl _, hlh, Nat.le_refl _⟩, Lib.hid ⟨fun h => absurd h (Nat.lt_irrefl _), fun h => absurd h (Nat.lt_irrefl _)⟩, Lib.hid ⟨HR1.out, Fr.refl _ _⟩⟩
    case round =>
      obtain ⟨s, r, rfl, rfl, HSR, HX, HRX⟩ := hrel
      obtain ⟨hls, hsr, hrh⟩ := HSR.out
      clear HSR
      obtain ⟨c0, c1⟩ := BX.out wr (HRX.out.2.mono (by simp))
      by_cases hlt : s < r
      · obtain ⟨c, hc⟩ : ∃ c, c = (s + r) / 2 := ⟨_, rfl⟩
        have ec : ((s : Int) + (r : Int)) / 2 = (c : Int) := by omega
        have hsc : s ≤ c := by omega
        have hcr : c < r := by omega
        clear hc
        have epc : ((nn - 1 - c : Nat) : Int) = (nn : Int) - 1 - (c : Int) := by omega
        have hl := HLS.out wr D (nn - 1 - c) c (HF0.out.trans (HRX.out.2.mono (by simp))) HRX.out.1 HDL.out (by omega) (by omega)
        rw [epc] at hl
        have HL := Lib.hid hl
        clear hl epc
        cases hlv : ltL (D.getD (nn - 1 - c) zLa) (D.getD c zLa) with
        | false =>
          rw [hlv] at HL
          have NX : Hid (ltL (D.getD (nn - (c + 1)) zLa) (D.getD (c + 1 - 1) zLa) = false) := Lib.hid (by rw [show nn - (c + 1) = nn - 1 - c by omega, Nat.add_sub_cancel]; exact hlv)
          clear hlv
          go_wp2_with fail
          with_reducible refine (HL.out).mono ?_
          rintro e w2 ⟨rfl, hf2⟩
          have HF2 := Lib.hid hf2
          clear hf2
          go_wp2
          go_roundw
          case rel => exact ⟨c + 1, r, by go_num, rfl, Lib.hid ⟨by omega, by omega, hrh⟩, Lib.hid ⟨fun _ => NX.out, HX.out.2⟩, Lib.hid ⟨HRX.out.1.fr HF2.out, HRX.out.2.trans HF2.out⟩⟩
          case measure => simp [intOf]; omega
        | true =>
          rw [hlv] at HL
          have NX := Lib.hid hlv
          clear hlv
          go_wp2_with fail
          with_reducible refine (HL.out).mono ?_
          rintro e w2 ⟨rfl, hf2⟩
          have HF2 := Lib.hid hf2
          clear hf2
          go_wp2
          go_roundw
          case rel => exact ⟨s, c, rfl, by go_num, Lib.hid ⟨hls, hsc, by omega⟩, Lib.hid ⟨HX.out.1, fun _ => NX.out⟩, Lib.hid ⟨HRX.out.1.fr HF2.out, HRX.out.2.trans HF2.out⟩⟩
          case measure => simp [intOf]; omega
      · obtain rfl : s = r := by omega
        obtain ⟨e, he⟩ : ∃ e, e = nn - s := ⟨_, rfl⟩
        have ee : (nn : Int) - (s : Int) = (e : Int) := by omega
        have hme : m ≤ e := by have := HNN.out; omega
        have heb : e ≤ b := by omega
        have hsm : s ≤ m := by omega
        have hsd : s ≤ mid := by omega
        have has : a ≤ s := by omega
        have hsum : s - a + (e - m) = mid - a := by have := HNN.out; omega
        obtain ⟨L1, hL1⟩ : ∃ L1, L1 = L.take (s - a) := ⟨_, rfl⟩
        obtain ⟨L2, hL2⟩ : ∃ L2, L2 = L.drop (s - a) := ⟨_, rfl⟩
        obtain ⟨R1, hR1⟩ : ∃ R1, R1 = R.take (e - m) := ⟨_, rfl⟩
        obtain ⟨R2, hR2⟩ : ∃ R2, R2 = R.drop (e - m) := ⟨_, rfl⟩
        have HLL : Hid (L = L1 ++ L2 ∧ R = R1 ++ R2) := Lib.hid ⟨by rw [hL1, hL2, List.take_append_drop], by rw [hR1, hR2, List.take_append_drop]⟩
        have HLEN : Hid (L1.length = s - a ∧ L2.length = m - s ∧ R1.length = e - m ∧ R2.length = b - e) := Lib.hid (by
          have h1 := HM.out
          have h2 := HB.out
          refine ⟨by rw [hL1]; simp; omega, by rw [hL2]; simp; omega, by rw [hR1]; simp; omega, by rw [hR2]; simp; omega⟩)
        have HCR : Hid ((∀ x ∈ L1, ∀ y ∈ R2, ltL y x = false) ∧ (∀ x ∈ L2, ∀ y ∈ R1, ltL y x = true)) := Lib.hid (by
          have h1 := HM.out
          have h2 := HB.out
          have h3 := HNN.out
          have h4 := HMID.out
          have hx := HX.out
          obtain ⟨q1, q2⟩ := HDE.out
          rw [hL1, hL2, hR1, hR2]
          refine cross ltL_wk zLa HAL.out HAR.out (by omega) (by omega) (fun k1 k2 => ?_) (fun k1 k2 => ?_)
          · have hls' : lo < s := by rcases HLH.out with ⟨g1, g2, g3⟩ | ⟨g1, g2, g3⟩ <;> omega
            have := hx.1 hls'
            rw [← q1 (s - a - 1) (by omega), ← q2 (e - m) (by omega), show m + (e - m) = nn - s by omega, show a + (s - a - 1) = s - 1 by omega]
            exact this
          · have hsh : s < hi := by rcases HLH.out with ⟨g1, g2, g3⟩ | ⟨g1, g2, g3⟩ <;> omega
            have := hx.2 hsh
            rw [← q1 (s - a) (by omega), ← q2 (e - m - 1) (by omega), show m + (e - m - 1) = nn - 1 - s by omega, show a + (s - a) = s by omega]
            exact this)
        have HASC : Hid (AscS ltL (L1 ++ L2) ∧ AscS ltL (R1 ++ R2)) := Lib.hid ⟨HLL.out.1 ▸ HAL.out, HLL.out.2 ▸ HAR.out⟩
        have HNL : Hid (((A ++ L1) ++ (L2 ++ (R1 ++ (R2 ++ B)))).length = n) := Lib.hid (by
          have h := HN.out
          have h1 := congrArg List.length HLL.out.1
          have h2 := congrArg List.length HLL.out.2
          simp at h h1 h2 ⊢
          omega)
        have HROW : Hid (RowS wr g Z ((A ++ L1) ++ (L2 ++ (R1 ++ (R2 ++ B))))) := Lib.hid (by
          have h := HRX.out.1
          rw [HD.out, HLL.out.1, HLL.out.2] at h
          simpa using h)
        have HFZ : Hid (Fr W1 wr [g]) := Lib.hid (HRX.out.2.mono (by simp))
        clear HX HRX HDE HDL HD HAL HAR HLS HR1 HLH HRG hL1 hL2 hR1 hR2 hls hrh hlt hlh hhm hhmid hlnn hnlb hal he
        have HIK : Hid (∀ (A L R B : List La) (a' m' b' : Nat), L.length + R.length < m - a + (b - m) → (A ++ (L ++ (R ++ B))).length = n → 0 < L.length → 0 < R.length → AscS ltL L → AscS ltL R → a' = A.length → m' = a' + L.length → b' = m' + R.length → ∀ w, Fr W1 w [g] → RowS w g Z (A ++ (L ++ (R ++ B))) →
            Calls Try.prog 101 #[.agg #[.func (.func 55) #[] #[.pointer (some ⟨p, 0, none⟩)], .func (.func sf) #[] sb], .int .i64 a', .int .i64 m', .int .i64 b'] w fun e w' => e = .returned (.tuple #[]) ∧ SymQ w g Z A L R B w') := Lib.hid (fun A' L' R' B' a' m' b' hs h1 h2 h3 h4 h5 h6 h7 h8 w h9 h10 =>
          HIH.out A' L' R' B' a' m' b' h1 h2 h3 (by have := HM.out; have := HB.out; omega) h4 h5 h6 h7 h8 w (HF0.out.trans h9) h10)
        clear HIH HF0
        obtain ⟨r1, hr1⟩ : ∃ r1 : Bool, r1 = (decide (s < m) && decide (m < e)) := ⟨_, rfl⟩
        have HR1 := Lib.hid hr1
        clear hr1
        go_upto_region 40 with fail
        go_cut [145] (fun s145 wx => s145 = .bool r1 ∧ wx = wr)
        case first =>
          by_cases h1 : s < m
          · by_cases h2 : m < e
            · have q : r1 = true := by rw [HR1.out]; simp [h1, h2]
              go_wp2_with fail
              go_meet
              exact ⟨by rw [q], rfl⟩
            · have q : r1 = false := by rw [HR1.out]; simp [h1, h2]
              go_wp2_with fail
              go_meet
              exact ⟨by rw [q], rfl⟩
          · have q : r1 = false := by rw [HR1.out]; simp [h1]
            go_wp2_with fail
            go_meet
            exact ⟨by rw [q], rfl⟩
        case rest =>
          obtain ⟨rfl, hwc⟩ := hcut
          have hwc' : wr = wc := hwc.symm
          clear hwc
          subst hwc'
          go_upto_if 145 with fail
          go_cut [] (fun wx => Hid (RowS wx g Z ((A ++ L1) ++ (R1 ++ (L2 ++ (R2 ++ B)))) ∧ Fr W1 wx [g]))
          case first =>
            cases r1 with
            | true =>
              have hq : s < m ∧ m < e := by have := HR1.out.symm; simpa using this
              have C := Lib.hid (ROT.out (A ++ L1) L2 R1 (R2 ++ B) s m e HNL.out (by have := HLEN.out; omega) (by have := HLEN.out; omega) (by have := HLEN.out; have := HA.out; simp; omega) (by have := HLEN.out; omega) (by have := HLEN.out; omega) wr HROW.out)
              clear hq
              go_wp2_with fail
              with_reducible refine (C.out).mono ?_
              rintro e2 w2 ⟨rfl, D2, rfl, hr2, hf2⟩
              have HE : Hid (RowS w2 g Z ((A ++ L1) ++ (R1 ++ (L2 ++ (R2 ++ B)))) ∧ Fr W1 w2 [g]) := Lib.hid ⟨hr2, HFZ.out.trans hf2⟩
              clear hr2 hf2
              go_wp2_with fail
              go_meet
              exact HE
            | false =>
              have HE : Hid (RowS wr g Z ((A ++ L1) ++ (R1 ++ (L2 ++ (R2 ++ B)))) ∧ Fr W1 wr [g]) := Lib.hid (by
                have hq : ¬ (s < m ∧ m < e) := by have := HR1.out.symm; simpa using this
                have hl := HLEN.out
                refine ⟨?_, HFZ.out⟩
                have h := HROW.out
                rcases (by omega : L2.length = 0 ∨ R1.length = 0) with e0 | e0
                · rw [List.eq_nil_of_length_eq_zero e0] at h ⊢; exact h
                · rw [List.eq_nil_of_length_eq_zero e0] at h ⊢; exact h)
              go_wp2_with fail
              go_meet
              exact HE
          case rest =>
            have HRW := hcut
            clear hcut HROW HFZ ROT HNL c0 c1
            obtain ⟨W5, rfl⟩ : ∃ W, W = wc := ⟨_, rfl⟩
            obtain ⟨c0, c1⟩ := BX.out W5 HRW.out.2
            obtain ⟨r2, hr2⟩ : ∃ r2 : Bool, r2 = (decide (a < s) && decide (s < mid)) := ⟨_, rfl⟩
            have HR2 := Lib.hid hr2
            clear hr2 HR1
            go_upto_region 42 with fail
            go_cut [158] (fun s158 wx => s158 = .bool r2 ∧ wx = W5)
            case first =>
              by_cases h1 : a < s
              · by_cases h2 : s < mid
                · have q : r2 = true := by rw [HR2.out]; simp [h1, h2]
                  go_wp2_with fail
                  go_meet
                  exact ⟨by rw [q], rfl⟩
                · have q : r2 = false := by rw [HR2.out]; simp [h1, h2]
                  go_wp2_with fail
                  go_meet
                  exact ⟨by rw [q], rfl⟩
              · have q : r2 = false := by rw [HR2.out]; simp [h1]
                go_wp2_with fail
                go_meet
                exact ⟨by rw [q], rfl⟩
            case rest =>
              obtain ⟨rfl, hwc⟩ := hcut
              have hwc' : W5 = wc := hwc.symm
              clear hwc
              subst hwc'
              go_upto_if 158 with fail
              go_cut [] (fun wx => Hid (∃ M1, (AscS ltL M1 ∧ StbS ltL (L1 ++ R1) M1) ∧ RowS wx g Z (A ++ (M1 ++ (L2 ++ (R2 ++ B)))) ∧ Fr W1 wx [g]))
              case first =>
                cases r2 with
                | true =>
                  have hq : a < s ∧ s < mid := by have := HR2.out.symm; simpa using this
                  have C := Lib.hid (HIK.out A L1 R1 (L2 ++ (R2 ++ B)) a s mid (by have := HLEN.out; omega) (by have h := HN.out; have h1 := congrArg List.length HLL.out.1; have h2 := congrArg List.length HLL.out.2; simp at h h1 h2 ⊢; omega) (by have := HLEN.out; omega) (by have := HLEN.out; omega)
                    (List.pairwise_append.1 HASC.out.1).1 (List.pairwise_append.1 HASC.out.2).1 HA.out (by have := HLEN.out; omega) (by have := HLEN.out; omega) W5 HRW.out.2 (by have h := HRW.out.1; rwa [List.append_assoc] at h))
                  clear hq
                  go_wp2_with fail
                  with_reducible refine (C.out).mono ?_
                  rintro e2 w2 ⟨rfl, D2, ⟨M1, rfl, k1, k2⟩, hr2, hf2⟩
                  have HE : Hid (∃ M1, (AscS ltL M1 ∧ StbS ltL (L1 ++ R1) M1) ∧ RowS w2 g Z (A ++ (M1 ++ (L2 ++ (R2 ++ B)))) ∧ Fr W1 w2 [g]) := Lib.hid ⟨M1, ⟨k1, k2⟩, hr2, HRW.out.2.trans hf2⟩
                  clear hr2 hf2 k1 k2
                  go_wp2_with fail
                  go_meet
                  exact HE
                | false =>
                  have HE : Hid (∃ M1, (AscS ltL M1 ∧ StbS ltL (L1 ++ R1) M1) ∧ RowS W5 g Z (A ++ (M1 ++ (L2 ++ (R2 ++ B)))) ∧ Fr W1 W5 [g]) := Lib.hid (by
                    have hq : ¬ (a < s ∧ s < mid) := by have := HR2.out.symm; simpa using this
                    have hl := HLEN.out
                    have h := HRW.out.1
                    rw [List.append_assoc] at h
                    refine ⟨L1 ++ R1, ⟨?_, StbS.refl _⟩, by rwa [List.append_assoc], HRW.out.2⟩
                    rcases (by omega : L1.length = 0 ∨ R1.length = 0) with e0 | e0
                    · rw [List.eq_nil_of_length_eq_zero e0]; exact (List.pairwise_append.1 HASC.out.2).1
                    · rw [List.eq_nil_of_length_eq_zero e0, List.append_nil]; exact (List.pairwise_append.1 HASC.out.1).1)
                  go_wp2_with fail
                  go_meet
                  exact HE
              case rest =>
                obtain ⟨M1, HM1, hrw6, hfw6⟩ := hcut.out
                have HM1 := Lib.hid HM1
                have HRW6 := Lib.hid (And.intro hrw6 hfw6)
                clear hcut hrw6 hfw6 HRW c0 c1 HR2
                obtain ⟨W6, rfl⟩ : ∃ W, W = wc := ⟨_, rfl⟩
                obtain ⟨c0, c1⟩ := BX.out W6 HRW6.out.2
                obtain ⟨r3, hr3⟩ : ∃ r3 : Bool, r3 = (decide (mid < e) && decide (e < b)) := ⟨_, rfl⟩
                have HR3 := Lib.hid hr3
                clear hr3
                go_upto_region 44 with fail
                go_cut [171] (fun s171 wx => s171 = .bool r3 ∧ wx = W6)
                case first =>
                  by_cases h1 : mid < e
                  · by_cases h2 : e < b
                    · have q : r3 = true := by rw [HR3.out]; simp [h1, h2]
                      go_wp2_with fail
                      go_meet
                      exact ⟨by rw [q], rfl⟩
                    · have q : r3 = false := by rw [HR3.out]; simp [h1, h2]
                      go_wp2_with fail
                      go_meet
                      exact ⟨by rw [q], rfl⟩
                  · have q : r3 = false := by rw [HR3.out]; simp [h1]
                    go_wp2_with fail
                    go_meet
                    exact ⟨by rw [q], rfl⟩
                case rest =>
                  obtain ⟨rfl, hwc⟩ := hcut
                  have hwc' : W6 = wc := hwc.symm
                  clear hwc
                  subst hwc'
                  have HFIN : Hid (∀ w2 M2, AscS ltL M2 → StbS ltL (L2 ++ R2) M2 → RowS w2 g Z (A ++ (M1 ++ (M2 ++ B))) → Fr W1 w2 [g] → SymQ w g Z A L R B w2) := Lib.hid (fun w2 M2 k1 k2 k3 k4 => by
                    obtain ⟨q1, q2⟩ := halves ltL_wk HASC.out.1 HASC.out.2 HCR.out.1 HCR.out.2 HM1.out.1 HM1.out.2 k1 k2
                    rw [← HLL.out.1, ← HLL.out.2] at q2
                    exact ⟨_, ⟨M1 ++ M2, by simp, q1, q2⟩, k3, (FW.out.mono (by simp)).trans k4⟩)
                  have HML : Hid (M1.length = mid - a) := Lib.hid (by
                    have h := HM1.out.2.len
                    have hl := HLEN.out
                    simp at h
                    omega)
                  cases r3 with
                  | true =>
                    have hq : mid < e ∧ e < b := by have := HR3.out.symm; simpa using this
                    have C := Lib.hid (HIK.out (A ++ M1) L2 R2 B mid e b (by have := HLEN.out; omega) (by have h := HN.out; have h1 := congrArg List.length HLL.out.1; have h2 := congrArg List.length HLL.out.2; have h3 := HM1.out.2.len; simp at h h1 h2 h3 ⊢; omega) (by have := HLEN.out; have := HNN.out; omega) (by have := HLEN.out; omega)
                      (List.pairwise_append.1 HASC.out.1).2.1 (List.pairwise_append.1 HASC.out.2).2.1 (by have := HA.out; have := HML.out; simp; omega) (by have := HLEN.out; have := HNN.out; omega) (by have := HLEN.out; omega) W6 HRW6.out.2 (by have h := HRW6.out.1; rwa [List.append_assoc]))
                    clear hq HR3 HIK
                    go_wp2_with fail
                    with_reducible refine (C.out).mono ?_
                    rintro e2 w2 ⟨rfl, D2, ⟨M2, rfl, k1, k2⟩, hr2, hf2⟩
                    have HE := Lib.hid (HFIN.out w2 M2 k1 k2 (by rwa [List.append_assoc] at hr2) (HRW6.out.2.trans hf2))
                    clear hr2 hf2 k1 k2
                    go_wp2
                    go_end0
                    exact ⟨rfl, HE.out⟩
                  | false =>
                    have HE : Hid (SymQ w g Z A L R B W6) := Lib.hid (by
                      have hq : ¬ (mid < e ∧ e < b) := by have := HR3.out.symm; simpa using this
                      have hl := HLEN.out
                      have hn := HNN.out
                      refine HFIN.out W6 (L2 ++ R2) ?_ (StbS.refl _) (by have h := HRW6.out.1; rwa [List.append_assoc]) HRW6.out.2
                      rcases (by omega : L2.length = 0 ∨ R2.length = 0) with e0 | e0
                      · rw [List.eq_nil_of_length_eq_zero e0]; exact (List.pairwise_append.1 HASC.out.2).2.1
                      · rw [List.eq_nil_of_length_eq_zero e0, List.append_nil]; exact (List.pairwise_append.1 HASC.out.1).2.1)
                    clear HIK HR3
                    go_wp2
                    go_end0
                    exact ⟨rfl, HE.out⟩
theorem sym_any (W0 : World) (p g n : Nat) (Z : List Value) (sf : Nat) (sb : Array Value) (LS : LessP W0 p g n Z) (SW : SwapP g n Z sf sb) (hn6 : n ≤ 1000000) : ∀ N, SymP W0 p g n Z sf sb N
  | 0 => fun A L R B a m b _ _ _ h => absurd h (Nat.not_lt_zero _)
  | N + 1 => fun A L R B a m b hn h1 h2 hs hL hR ha hm hb w hf hr => by
    by_cases e1 : L.length = 1
    · obtain ⟨x, rfl⟩ := List.length_eq_one_iff.1 e1
      exact sym_one W0 p g n Z sf sb LS SW A R B x hn hn6 hR a m b ha hm hb w hf hr
    · by_cases e2 : R.length = 1
      · obtain ⟨y, rfl⟩ := List.length_eq_one_iff.1 e2
        exact sym_last W0 p g n Z sf sb LS SW A L B y hn hn6 hL e1 a m b ha hm hb w hf hr
      · exact sym_gen W0 p g n Z sf sb LS SW A L R B (fun A' L' R' B' a' m' b' k1 k2 k3 k4 => sym_any W0 p g n Z sf sb LS SW hn6 N A' L' R' B' a' m' b' k1 k2 k3 (by omega)) hn hn6 hL hR (by omega) (by omega) a m b ha hm hb w hf hr
end Go.Proofs.Ytldheaamcnmlgaa

namespace Go.Proofs.Ytldheaamcnmlgaa
open Go.RowKit

set_option maxHeartbeats 4000000 in
set_option maxRecDepth 100000 in
theorem stable_row (W0 : World) (p g n : Nat) (Z : List Value) (sf : Nat) (sb : Array Value) (LS : LessP W0 p g n Z) (SW : SwapP g n Z sf sb) (D0 : List La) (hn : D0.length = n) (hn6 : n ≤ 1000000) (w : World) (hf : Fr W0 w [g]) (hr : RowS w g Z D0) :
    Calls Try.prog 72 #[.agg #[lessV p, .func (.func sf) #[] sb], .int .i64 n] w fun e w' => e = .returned (.tuple #[]) ∧ SPost w g Z (fun D => AscS ltL D ∧ StbS ltL D0 D) w' := by
  have hgl := hr.lt
  obtain ⟨H, hH⟩ : ∃ H, H = w.heap.size := ⟨_, rfl⟩
  obtain ⟨W1, hW1⟩ : ∃ W1, W1 = w.alloc (.cells #[lessV p, .func (.func sf) #[] sb] 109) := ⟨_, rfl⟩
  have FW := Lib.hid (show Fr w W1 [] by rw [hW1]; exact Fr.alloc w _ [])
  have BX : Hid (∀ W, Fr W1 W [g] → W.cell? ⟨H, 0, none⟩ = some (lessV p) ∧ W.cell? ⟨H, 1, none⟩ = some (.func (.func sf) #[] sb)) := Lib.hid (fun W h => by rw [hH]; rw [hW1] at h; exact boxS hgl h)
  have HR1 := Lib.hid (hr.fr FW.out)
  have hF0 : Fr W0 W1 [g] := hf.trans (FW.out.mono (by simp))
  have INS : Hid (∀ (D : List La) (a b : Nat), D.length = n → a ≤ b → b ≤ n → ∀ w, Fr W1 w [g] → RowS w g Z D →
    Calls Try.prog 100 #[.agg #[lessV p, .func (.func sf) #[] sb], .int .i64 a, .int .i64 b] w fun e w' => e = .returned (.tuple #[]) ∧ SPost w g Z (fun D' => ∃ M, D' = D.take a ++ (M ++ D.drop b) ∧ M.length = b - a ∧ AscS ltL M ∧ StbS ltL (segS D a b) M) w') := Lib.hid (fun D a b h1 h2 h3 w h4 h5 =>
      (ins_sort W0 p g n Z sf sb LS SW (D.take a) (segS D a b) (D.drop b) (by rw [segS_cut D a b h2]; exact h1) hn6 a b (by simp; omega) (by rw [segS_len _ _ _ (by omega)]; omega) w (hF0.trans h4) (by rw [segS_cut D a b h2]; exact h5)).mono
        fun e w' ⟨h, D', ⟨M, k1, k2, k3⟩, k4, k5⟩ => ⟨h, D', ⟨M, k1, by have := k3.len; rw [segS_len _ _ _ (by omega)] at this; omega, k2, k3⟩, k4, k5⟩)
  have SYM : Hid (∀ (D : List La) (a m b : Nat), D.length = n → a < m → m < b → b ≤ n → AscS ltL (segS D a m) → AscS ltL (segS D m b) → ∀ w, Fr W1 w [g] → RowS w g Z D →
    Calls Try.prog 101 #[.agg #[lessV p, .func (.func sf) #[] sb], .int .i64 a, .int .i64 m, .int .i64 b] w fun e w' => e = .returned (.tuple #[]) ∧ SPost w g Z (fun D' => ∃ M, D' = D.take a ++ (M ++ D.drop b) ∧ M.length = b - a ∧ AscS ltL M ∧ StbS ltL (segS D a b) M) w') := Lib.hid (fun D a m b h1 h2 h3 h4 h5 h6 w h7 h8 => by
      have e1 : segS D a m ++ segS D m b = segS D a b := by
        unfold segS
        have : (D.take m).drop a = ((D.take b).drop a).take (m - a) := by rw [List.take_drop, List.take_take, show min (a + (m - a)) b = m by omega]
        have k : (D.take b).drop m = ((D.take b).drop a).drop (m - a) := by rw [List.drop_drop, show a + (m - a) = m by omega]
        rw [this, k, List.take_append_drop]
      have e2 : D.take a ++ (segS D a m ++ (segS D m b ++ D.drop b)) = D := by
        rw [← List.append_assoc (segS D a m), e1]; exact segS_cut D a b (by omega)
      refine (sym_any W0 p g n Z sf sb LS SW hn6 _ (D.take a) (segS D a m) (segS D m b) (D.drop b) a m b (by rw [e2]; exact h1) (by rw [segS_len _ _ _ (by omega)]; omega) (by rw [segS_len _ _ _ (by omega)]; omega) (Nat.lt_succ_self _) h5 h6 (by simp; omega) (by rw [segS_len _ _ _ (by omega)]; omega) (by rw [segS_len _ _ _ (by omega)]; omega) w (hF0.trans h7) (by rw [e2]; exact h8)).mono ?_
      rintro e w' ⟨h, D', ⟨M, k1, k2, k3⟩, k4, k5⟩
      rw [e1] at k3
      exact ⟨h, D', ⟨M, k1, by have := k3.len; rw [segS_len _ _ _ (by omega)] at this; omega, k2, k3⟩, k4, k5⟩)
  have STB : Hid (∀ (D : List La) (a b : Nat) (M : List La), a ≤ b → StbS ltL D0 D → StbS ltL (segS D a b) M → StbS ltL D0 (D.take a ++ (M ++ D.drop b))) := Lib.hid (fun D a b M h1 h2 h3 => by
    have k := (StbS.refl (lt := ltL) (D.take a)).app (h3.app (StbS.refl (D.drop b)))
    rw [segS_cut D a b h1] at k
    exact h2.trans k)
  have HN := Lib.hid hn
  clear LS SW hf hr hn hgl hF0
  unfold lessV at *
  go_enter Try.func72, Try.ntmps72
  go_wp2
  rw [← hW1, ← hH]
  clear hW1 hH
  go_loopw [5, 6] (fun s5 s6 wx => ∃ (a b q : Nat) (D : List La), s5 = .int .i64 a ∧ s6 = .int .i64 b ∧ Hid (a = q * 20 ∧ b = a + 20 ∧ a ≤ n) ∧ Hid (D.length = n ∧ BlkS ltL 20 q D ∧ StbS ltL D0 D) ∧ Hid (RowS wx g Z D ∧ Fr W1 wx [g])) (fun s5 _ _ => n + 1 - (intOf s5).toNat)
  case atStart =>
    exact ⟨0, 20, 0, D0, rfl, rfl, Lib.hid ⟨rfl, rfl, Nat.zero_le _⟩, Lib.hid ⟨HN.out, fun p hp => absurd hp (Nat.not_lt_zero _), StbS.refl _⟩, Lib.hid ⟨HR1.out, Fr.refl _ _⟩⟩
  case round =>
    obtain ⟨a, b, q, D, rfl, rfl, HQ, HD, HRX⟩ := hrel
    obtain ⟨hq, hab, han⟩ := HQ.out
    have HQQ := Lib.hid hq
    have HAB := Lib.hid hab
    have hbb : b ≤ n + 20 := by omega
    have hab2 : a < b := by omega
    clear hq hab HQ
    obtain ⟨c0, c1⟩ := BX.out wr HRX.out.2
    by_cases hlt : b ≤ n
    · have C := Lib.hid (INS.out D a b HD.out.1 (by omega) hlt wr HRX.out.2 HRX.out.1)
      have NX : Hid (∀ w2, SPost wr g Z (fun D' => ∃ M, D' = D.take a ++ (M ++ D.drop b) ∧ M.length = b - a ∧ AscS ltL M ∧ StbS ltL (segS D a b) M) w2 → ∃ (a' b' q' : Nat) (D : List La), Value.int .i64 (b : Int) = .int .i64 a' ∧ Value.int .i64 ((b : Int) + 20) = .int .i64 b' ∧ Hid (a' = q' * 20 ∧ b' = a' + 20 ∧ a' ≤ n) ∧ Hid (D.length = n ∧ BlkS ltL 20 q' D ∧ StbS ltL D0 D) ∧ Hid (RowS w2 g Z D ∧ Fr W1 w2 [g])) := Lib.hid (fun w2 ⟨D', ⟨M, k1, k2, k3, k4⟩, k5, k6⟩ => by
        have e1 := HQQ.out
        have e2 := HAB.out
        refine ⟨b, b + 20, q + 1, D', rfl, by go_num, Lib.hid ⟨by omega, rfl, hlt⟩, Lib.hid ⟨?_, ?_, ?_⟩, Lib.hid ⟨k5, HRX.out.2.trans k6⟩⟩
        · have := HD.out.1
          rw [k1]; simp; omega
        · rw [k1, e2, e1]
          exact blk_step HD.out.2.1 (by have := HD.out.1; omega) (by omega) k3
        · rw [k1]
          exact STB.out D a b M (by omega) HD.out.2.2 k4)
      clear HRX HD
      go_wp2_with fail
      with_reducible refine (C.out).mono ?_
      rintro e w2 ⟨rfl, hp⟩
      have HP := Lib.hid (NX.out w2 hp)
      clear hp NX C
      go_wp2
      go_roundw
      case rel => exact HP.out
      case measure => simp [intOf]; omega
    · have C := Lib.hid (INS.out D a n HD.out.1 han (Nat.le_refl _) wr HRX.out.2 HRX.out.1)
      have NX : Hid (∀ w2, SPost wr g Z (fun D' => ∃ M, D' = D.take a ++ (M ++ D.drop n) ∧ M.length = n - a ∧ AscS ltL M ∧ StbS ltL (segS D a n) M) w2 → ∃ (D : List La), (D.length = n ∧ BlkR ltL 20 0 D ∧ StbS ltL D0 D) ∧ (RowS w2 g Z D ∧ Fr W1 w2 [g])) := Lib.hid (fun w2 ⟨D', ⟨M, k1, k2, k3, k4⟩, k5, k6⟩ => by
        have e1 := HQQ.out
        have e2 := HAB.out
        have hl := HD.out.1
        refine ⟨D', ⟨?_, ?_, ?_⟩, k5, HRX.out.2.trans k6⟩
        · rw [k1]; simp; omega
        · rw [k1, List.drop_eq_nil_of_le (by omega), List.append_nil, e1]
          exact blk_last HD.out.2.1 (by omega) (by omega) (by omega) k3
        · rw [k1]
          exact STB.out D a n M han HD.out.2.2 k4)
      clear HRX HD
      go_wp2_with fail
      with_reducible refine (C.out).mono ?_
      rintro e w2 ⟨rfl, hp⟩
      obtain ⟨D2, hd2, hr2⟩ := NX.out w2 hp
      have HD2 := Lib.hid hd2
      have HR2 := Lib.hid hr2
      clear hp NX C hd2 hr2 c0 c1 INS HQQ HAB hlt hab2 han hbb
      go_wp2
      go_loopw [4] (fun s4 wx => ∃ (m : Nat) (D : List La), s4 = .int .i64 m ∧ Hid (0 < m ∧ m ≤ n + n + 20) ∧ Hid (D.length = n ∧ BlkR ltL m 0 D ∧ StbS ltL D0 D) ∧ Hid (RowS wx g Z D ∧ Fr W1 wx [g])) (fun s4 _ => n + n + 20 - (intOf s4).toNat)
      case atStart => exact ⟨20, D2, rfl, Lib.hid ⟨by decide, by omega⟩, HD2, HR2⟩
      case round =>
        obtain ⟨m, D, rfl, HM, HD, HRX⟩ := hrel
        obtain ⟨hm0, hmn⟩ := HM.out
        clear HM HD2 HR2
        by_cases hmlt : m < n
        · go_wp2
          go_loopw [5, 6] (fun s5 s6 wx => ∃ (a b q : Nat) (D : List La), s5 = .int .i64 a ∧ s6 = .int .i64 b ∧ Hid (a = q * (2 * m) ∧ b = a + 2 * m ∧ a ≤ n) ∧ Hid (D.length = n ∧ (BlkS ltL (2 * m) q D ∧ BlkR ltL m (2 * q) D) ∧ StbS ltL D0 D) ∧ Hid (RowS wx g Z D ∧ Fr W1 wx [g])) (fun s5 _ _ => n + 1 - (intOf s5).toNat)
          case atStart =>
            exact ⟨0, 2 * m, 0, D, rfl, by go_num, Lib.hid ⟨by omega, by omega, Nat.zero_le _⟩, Lib.hid ⟨HD.out.1, ⟨fun p hp => absurd hp (Nat.not_lt_zero _), HD.out.2.1⟩, HD.out.2.2⟩, HRX⟩
          case round =>
            clear HD HRX
            obtain ⟨a, b, q, D, rfl, rfl, HQ, HD, HRX⟩ := hrel
            obtain ⟨hq, hab, han⟩ := HQ.out
            have HQQ := Lib.hid hq
            have HAB := Lib.hid hab
            have hbb : b ≤ n + 2 * n := by omega
            have hab2 : a < b := by omega
            clear hq hab HQ
            obtain ⟨c0, c1⟩ := BX.out wr HRX.out.2
            have eam : ((a + m : Nat) : Int) = (a : Int) + (m : Int) := by omega
            have hds := HD.out.1
            have HSEG : Hid (AscS ltL (segS D a (a + m)) ∧ AscS ltL (segS D (a + m) (a + 2 * m))) := Lib.hid (blk_two HD.out.2.1.2 a HQQ.out)
            by_cases hlt : b ≤ n
            · have C := Lib.hid (SYM.out D a (a + m) b hds (by omega) (by have := HAB.out; omega) hlt HSEG.out.1 (by rw [HAB.out]; exact HSEG.out.2) wr HRX.out.2 HRX.out.1)
              rw [eam] at C
              have NX : Hid (∀ w2, SPost wr g Z (fun D' => ∃ M, D' = D.take a ++ (M ++ D.drop b) ∧ M.length = b - a ∧ AscS ltL M ∧ StbS ltL (segS D a b) M) w2 → ∃ (a' b' q' : Nat) (D : List La), Value.int .i64 (b : Int) = .int .i64 a' ∧ Value.int .i64 ((b : Int) + 2 * (m : Int)) = .int .i64 b' ∧ Hid (a' = q' * (2 * m) ∧ b' = a' + 2 * m ∧ a' ≤ n) ∧ Hid (D.length = n ∧ (BlkS ltL (2 * m) q' D ∧ BlkR ltL m (2 * q') D) ∧ StbS ltL D0 D) ∧ Hid (RowS w2 g Z D ∧ Fr W1 w2 [g])) := Lib.hid (fun w2 ⟨D', ⟨M, k1, k2, k3, k4⟩, k5, k6⟩ => by
                have e1 := HQQ.out
                have e2 := HAB.out
                refine ⟨b, b + 2 * m, q + 1, D', rfl, by go_num, Lib.hid ⟨by rw [Nat.add_mul, Nat.one_mul]; omega, rfl, hlt⟩, Lib.hid ⟨?_, ⟨?_, ?_⟩, ?_⟩, Lib.hid ⟨k5, HRX.out.2.trans k6⟩⟩
                · rw [k1]; simp; omega
                · rw [k1, e2, e1]
                  exact blk_step HD.out.2.1.1 (by omega) (by omega) k3
                · rw [k1, e2, e1]
                  exact blkR_step HD.out.2.1.2 (by omega) (by omega)
                · rw [k1]
                  exact STB.out D a b M (by omega) HD.out.2.2 k4)
              clear HRX HD HSEG hds eam
              go_wp2_with fail
              with_reducible refine (C.out).mono ?_
              rintro e w3 ⟨rfl, hp⟩
              have HP := Lib.hid (NX.out w3 hp)
              clear hp NX C
              go_wp2
              go_roundw
              case rel => exact HP.out
              case measure => simp [intOf]; omega
            · by_cases hmn2 : a + m < n
              · have C := Lib.hid (SYM.out D a (a + m) n hds (by omega) hmn2 (Nat.le_refl _) HSEG.out.1 (by rw [segS_end D _ n (a + 2 * m) (by omega) (by have := HAB.out; omega)]; exact HSEG.out.2) wr HRX.out.2 HRX.out.1)
                rw [eam] at C
                have NX : Hid (∀ w2, SPost wr g Z (fun D' => ∃ M, D' = D.take a ++ (M ++ D.drop n) ∧ M.length = n - a ∧ AscS ltL M ∧ StbS ltL (segS D a n) M) w2 → ∃ (m' : Nat) (D : List La), Value.int .i64 ((m : Int) * 2) = .int .i64 m' ∧ Hid (0 < m' ∧ m' ≤ n + n + 20) ∧ Hid (D.length = n ∧ BlkR ltL m' 0 D ∧ StbS ltL D0 D) ∧ Hid (RowS w2 g Z D ∧ Fr W1 w2 [g])) := Lib.hid (fun w2 ⟨D', ⟨M, k1, k2, k3, k4⟩, k5, k6⟩ => by
                  have e1 := HQQ.out
                  have e2 := HAB.out
                  refine ⟨2 * m, D', by congr 1; omega, Lib.hid ⟨by omega, by omega⟩, Lib.hid ⟨?_, ?_, ?_⟩, Lib.hid ⟨k5, HRX.out.2.trans k6⟩⟩
                  · rw [k1]; simp; omega
                  · rw [k1, List.drop_eq_nil_of_le (by omega), List.append_nil, e1]
                    exact blk_last HD.out.2.1.1 (by omega) (by omega) (by omega) k3
                  · rw [k1]
                    exact STB.out D a n M han HD.out.2.2 k4)
                clear HRX HD HSEG hds eam
                go_wp2_with fail
                with_reducible refine (C.out).mono ?_
                rintro e w3 ⟨rfl, hp⟩
                have HP := Lib.hid (NX.out w3 hp)
                clear hp NX C
                go_wp2
                go_roundw
                case rel => exact HP.out
                case measure => simp [intOf]; omega
              · have NX : Hid (∃ (m' : Nat) (D : List La), Value.int .i64 ((m : Int) * 2) = .int .i64 m' ∧ Hid (0 < m' ∧ m' ≤ n + n + 20) ∧ Hid (D.length = n ∧ BlkR ltL m' 0 D ∧ StbS ltL D0 D) ∧ Hid (RowS wr g Z D ∧ Fr W1 wr [g])) := Lib.hid (by
                  have e1 := HQQ.out
                  exact ⟨2 * m, D, by congr 1; omega, Lib.hid ⟨by omega, by omega⟩, Lib.hid ⟨hds, blk_none HD.out.2.1.1 HD.out.2.1.2 (by omega) (by omega), HD.out.2.2⟩, HRX⟩)
                clear HRX HD HSEG hds eam
                go_wp2
                go_roundw
                case rel => exact NX.out
                case measure => simp [intOf]; omega
        · have HE : Hid (SPost w g Z (fun D => AscS ltL D ∧ StbS ltL D0 D) wr) := Lib.hid ⟨D, ⟨blk_all HD.out.2.1 (by have := HD.out.1; omega), HD.out.2.2⟩, HRX.out.1, (FW.out.mono (by simp)).trans HRX.out.2⟩
          go_wp2
          go_end0
          exact ⟨rfl, HE.out⟩
end Go.Proofs.Ytldheaamcnmlgaa

namespace Go.Proofs.Ytldheaamcnmlgaa
open Go.RowKit

noncomputable def tyLs : TypeInfo := (Try.prog.info? 47).get (by kernel_rfl)
noncomputable def tyLa : TypeInfo := (Try.prog.info? 37).get (by kernel_rfl)
theorem kLa (n : Nat) (h2 : 2 ≤ n) : Lib.swapperK n tyLa 25 = 9 := by
  have a : tyLa.hasPointers = false := by kernel_rfl
  have b : tyLa.bytes = 24 := by kernel_rfl
  have c : (n == 0) = false := by simp; omega
  have d : (n == 1) = false := by simp; omega
  simp [Lib.swapperK, a, b, c, d]
theorem swap_lit (g n c : Nat) (Z : List Value) : SwapP g n Z 99 #[.slice (some ⟨g, 0, none⟩) n c, typeHandle Try.prog 37] := by
  intro w D i j hr hn hi hj _
  have hx : ∀ args W, (callFunc 99 args).run Try.prog W = ((Extern.ReflectliteSwapper.swap false args).run Try.prog W).andThen fun v w' => .ok (.value v) w' :=
    fun args W => run_callFunc_extern Try.func99 (by kernel_rfl) (by kernel_rfl) (by kernel_rfl) (e := Extern.ReflectliteSwapper.swap false) (by kernel_rfl) args W
  have hs : tyLa.size = 3 := by kernel_rfl
  have cc : ∀ x, x < D.length → ∀ k v, (D.getD x zLa).cl[k]? = some v → w.cell? ⟨g, 0 + x * tyLa.size + k, none⟩ = some v := fun x hxl k v hv => by
    obtain ⟨a, b, c⟩ := hr.cell x hxl
    rw [hs, Nat.zero_add]
    have hk : k < 3 := (List.getElem?_eq_some_iff.1 hv).1
    rcases (by omega : k = 0 ∨ k = 1 ∨ k = 2) with rfl | rfl | rfl
    · rw [Nat.add_zero, a]; simpa [La.cl] using hv
    · rw [b]; simpa [La.cl] using hv
    · rw [c]; simpa [La.cl] using hv
  have fz : ∀ x k, w.frozen? ⟨g, 0 + x * tyLa.size + k, none⟩ = false := fun x k => frozen_of_row w g _ _ _ hr
  have := Lib.run_swap_cells (P := Try.prog) false 37 tyLa (by kernel_rfl) (fun _ => by kernel_rfl) g 0 n c i j hi hj (D.getD i zLa).cl (D.getD j zLa).cl (by rw [hs]; rfl) (by rw [hs]; rfl) (la_one _) (la_one _) w (cc i (by omega)) (cc j (by omega)) (fun k _ => fz i k) (fun k _ => fz j k)
  rw [hs, Nat.zero_add, Nat.zero_add] at this
  obtain ⟨h1, h2⟩ := rowS_swap hr i j (by omega) (by omega)
  refine ⟨_, ?_, h1, h2⟩
  rw [hx, show (#[Value.int .i64 (i : Int), Value.int .i64 (j : Int)] ++ #[Value.slice (some ⟨g, 0, none⟩) n c, typeHandle Try.prog 37]) = #[.int .i64 i, .int .i64 j, .slice (some ⟨g, 0, none⟩) n c, typeHandle Try.prog 37] from rfl, this]
  rfl
theorem swap_none (g n : Nat) (Z : List Value) (sf : Nat) (sb : Array Value) (h : n ≤ 1) : SwapP g n Z sf sb := fun _ _ i j _ _ hi hj hne => absurd (by omega : i = j) hne
/-- The number of the literal that Swapper hands back. -/
theorem swap_fn (g n c : Nat) (Z : List Value) : ∃ sf sb, SwapP g n Z sf sb ∧ ∀ w, (Extern.ReflectliteSwapper.swapper "internal/reflectlite" (Extern.ReflectliteValue.valueError "Swapper") #[.iface 47 (.slice (some ⟨g, 0, none⟩) n c)]).run Try.prog w = .ok (.func (.func sf) #[] sb) w := by
  by_cases h2 : 2 ≤ n
  · refine ⟨99, _, swap_lit g n c Z, fun w => ?_⟩
    have := Lib.run_swapper_slice (P := Try.prog) 47 37 tyLs tyLa (by kernel_rfl) (by kernel_rfl) (by kernel_rfl) 25 (fun _ => by kernel_rfl) (some ⟨g, 0, none⟩) n c 99 (by rw [kLa _ h2]; kernel_rfl) w
    rwa [kLa _ h2, if_neg (by decide)] at this
  · rcases (by omega : n = 0 ∨ n = 1) with rfl | rfl
    · exact ⟨91, #[], swap_none _ _ _ _ _ (by omega), fun w => Lib.run_swapper_slice (P := Try.prog) 47 37 tyLs tyLa (by kernel_rfl) (by kernel_rfl) (by kernel_rfl) 25 (fun _ => by kernel_rfl) (some ⟨g, 0, none⟩) 0 c 91 (by kernel_rfl) w⟩
    · exact ⟨92, #[], swap_none _ _ _ _ _ (by omega), fun w => Lib.run_swapper_slice (P := Try.prog) 47 37 tyLs tyLa (by kernel_rfl) (by kernel_rfl) (by kernel_rfl) 25 (fun _ => by kernel_rfl) (some ⟨g, 0, none⟩) 1 c 92 (by kernel_rfl) w⟩
set_option maxHeartbeats 2000000 in
set_option maxRecDepth 100000 in
/-- sort.SliceStable of a row of latches, by a closure that says which call is ahead. -/
theorem slice_stable (p g n c : Nat) (Z : List Value) (D0 : List La) (hn : D0.length = n) (hn6 : n ≤ 1000000) (w : World) (LS : LessP w p g n Z) (hr : RowS w g Z D0) :
    Calls Try.prog 54 #[.iface 47 (.slice (some ⟨g, 0, none⟩) n c), lessV p] w fun e w' => e = .returned (.tuple #[]) ∧ SPost w g Z (fun D => AscS ltL D ∧ StbS ltL D0 D) w' := by
  obtain ⟨sf, sb, SW, hsw⟩ := swap_fn g n c Z
  have hv := Lib.run_valueOf_slice (P := Try.prog) 47 37 tyLs (by kernel_rfl) (by kernel_rfl) (some ⟨g, 0, none⟩) n c w
  have hl := fun a W ha => Lib.run_valueLen_slice (P := Try.prog) 47 37 tyLs (by kernel_rfl) (by kernel_rfl) (by kernel_rfl) a (some ⟨g, 0, none⟩) n c W ha
  have ST : Hid (∀ W, Fr w W [] → Calls Try.prog 72 #[.agg #[lessV p, .func (.func sf) #[] sb], .int .i64 n] W fun e w' => e = .returned (.tuple #[]) ∧ SPost w g Z (fun D => AscS ltL D ∧ StbS ltL D0 D) w') := Lib.hid (fun W hW =>
    (stable_row w p g n Z sf sb LS SW D0 hn hn6 W (hW.mono (by simp)) (hr.fr hW)).mono fun e w' ⟨h, D, k1, k2, k3⟩ => ⟨h, D, k1, k2, (hW.mono (by simp)).trans k3⟩)
  have hF : Fr w ((w.alloc (.cells #[.slice (some ⟨g, 0, none⟩) n c] 47)).alloc (.cells #[.pointer (some ⟨0, 47, none⟩), .pointer (some ⟨w.heap.size, 0, none⟩), .int .u64 151] 103)) [] := (Fr.alloc _ _ _).trans (Fr.alloc _ _ _)
  have SV := Lib.hid (ST.out _ hF)
  clear LS SW hr hF ST
  unfold lessV at *
  have hz : Try.prog.globals.size = 0 := by kernel_rfl
  simp only [typeHandle, hz] at hv hl
  go_enter Try.func54, Try.ntmps54
  go_wp2
  rw [run_callFunc_extern Try.func70 (by kernel_rfl) (by kernel_rfl) (by kernel_rfl) (e := fun args => Extern.ReflectliteValue.unpack (args.getD 0 (.tuple #[]))) (by kernel_rfl),
    show Sem.run Try.prog ((fun args : Array Value => Extern.ReflectliteValue.unpack (args.getD 0 (.tuple #[]))) #[.iface 47 (.slice (some ⟨g, 0, none⟩) n c)]) w = _ from hv]
  simp only [Result.andThen]
  rw [Oper.upon_value]
  go_wp2
  rw [run_callFunc_extern Try.func71 (by kernel_rfl) (by kernel_rfl) (by kernel_rfl) (e := Extern.ReflectliteSwapper.swapper "internal/reflectlite" (Extern.ReflectliteValue.valueError "Swapper")) (by kernel_rfl), hsw]
  simp only [Result.andThen]
  rw [Oper.upon_value]
  go_wp2
  rw [run_callFunc_extern Try.func73 (by kernel_rfl) (by kernel_rfl) (by kernel_rfl) (e := Extern.ReflectliteValue.method (Extern.ReflectliteValue.valueError "reflectlite.Value.Len" 0) Extern.ReflectliteValue.len) (by kernel_rfl),
    hl _ _ (by simp)]
  simp only [Result.andThen]
  rw [Oper.upon_value]
  go_wp2_with fail
  with_reducible refine (SV.out).mono ?_
  rintro e w' ⟨rfl, hR⟩
  have HE := Lib.hid hR
  clear hR
  go_wp2
  go_end0
  exact ⟨rfl, HE.out⟩
end Go.Proofs.Ytldheaamcnmlgaa

namespace Go.Proofs.Ytldheaamcnmlgaa
open Go.RowKit

/-- What the closure reads. -/
def SLs (V : World) (p g n c i j : Nat) (x y : La) (w : World) : Prop := Fr V w [] ∧ w.cell? ⟨p, 0, none⟩ = some (.slice (some ⟨g, 0, none⟩) n c) ∧ (w.cell? ⟨g, i * 3, none⟩ = some (.int .i64 x.f) ∧ w.cell? ⟨g, i * 3 + 1, none⟩ = some (.int .i64 x.d)) ∧ w.cell? ⟨g, j * 3, none⟩ = some (.int .i64 y.f) ∧ w.cell? ⟨g, j * 3 + 1, none⟩ = some (.int .i64 y.d)
theorem SLs.fr {V : World} {p g n c i j : Nat} {x y : La} {w w' : World} (h : SLs V p g n c i j x y w) (k : Fr w w' []) : SLs V p g n c i j x y w' :=
  ⟨h.1.trans k, k.cell h.2.1 (by simp), ⟨k.cell h.2.2.1.1 (by simp), k.cell h.2.2.1.2 (by simp)⟩, k.cell h.2.2.2.1 (by simp), k.cell h.2.2.2.2 (by simp)⟩
set_option maxHeartbeats 1000000 in
set_option maxRecDepth 100000 in
theorem less_clos (p g n c i j : Nat) (x y : La) (w : World) (hi : i < n) (hj : j < n) (h : SLs w p g n c i j x y w) :
    Calls Try.prog 55 #[.int .i64 i, .int .i64 j, .pointer (some ⟨p, 0, none⟩)] w fun e w' => e = .returned (.bool (ltL x y)) ∧ Fr w w' [] := by
  have LE := Lib.hid (fun W => cless_any x.f x.d y.f y.d W (ltL x y) rfl)
  obtain ⟨r, hr⟩ : ∃ r, r = ltL x y := ⟨_, rfl⟩
  rw [← hr] at LE ⊢
  have HS := Lib.hid (h.fr (Fr.drew w []))
  clear h hr
  go_enter Try.func55, Try.ntmps55
  go_wp2_with fail
  refine wp_region_det (S := SLs w p g n c i j x y) (by kernel_rfl) HS.out ?_
  refine wpDet_take (i := 0) (oi := _) (v := ?dv1) (by simp only [List.getElem?_toArray, List.getElem?_cons_zero]; rfl) (by kernel_rfl) (by kernel_rfl) (by kernel_rfl) (Or.inl ⟨by rfl, ?dy1⟩) ?dr1
  case dy1 => (intro w hSw; have hS0 := hSw; (try dsimp only [SLs] at hSw); go_simp; refine Came.value ?_ hS0; with_reducible rfl)
  try simp only [Act.put, List.setIfInBounds_toArray, List.set_cons_zero, List.set_cons_succ]
  refine wpDet_take (i := 1) (oi := _) (v := ?dv2) (by simp only [List.getElem?_toArray, List.getElem?_cons_zero, List.getElem?_cons_succ]; rfl) (by kernel_rfl) (by kernel_rfl) (by kernel_rfl) (Or.inl ⟨by rfl, ?dy2⟩) ?dr2
  case dy2 => (intro w hSw; have hS0 := hSw; (try dsimp only [SLs] at hSw); go_simp; refine Came.value ?_ hS0; with_reducible rfl)
  try simp only [Act.put, List.setIfInBounds_toArray, List.set_cons_zero, List.set_cons_succ]
  refine wpDet_take (i := 2) (oi := _) (v := ?dv3) (by simp only [List.getElem?_toArray, List.getElem?_cons_zero, List.getElem?_cons_succ]; rfl) (by kernel_rfl) (by kernel_rfl) (by kernel_rfl) (Or.inl ⟨by rfl, ?dy3⟩) ?dr3
  case dy3 => (intro w hSw; have hS0 := hSw; (try dsimp only [SLs] at hSw); go_simp; refine Came.value ?_ hS0; with_reducible rfl)
  try simp only [Act.put, List.setIfInBounds_toArray, List.set_cons_zero, List.set_cons_succ]
  refine wpDet_take (i := 3) (oi := _) (v := ?dv4) (by simp only [List.getElem?_toArray, List.getElem?_cons_zero, List.getElem?_cons_succ]; rfl) (by kernel_rfl) (by kernel_rfl) (by kernel_rfl) (Or.inl ⟨by rfl, ?dy4⟩) ?dr4
  case dy4 => (intro w hSw; have hS0 := hSw; (try dsimp only [SLs] at hSw); go_simp; refine Came.value ?_ hS0; with_reducible rfl)
  try simp only [Act.put, List.setIfInBounds_toArray, List.set_cons_zero, List.set_cons_succ]
  refine wpDet_take (i := 4) (oi := _) (v := ?dv5) (by simp only [List.getElem?_toArray, List.getElem?_cons_zero, List.getElem?_cons_succ]; rfl) (by kernel_rfl) (by kernel_rfl) (by kernel_rfl) (Or.inl ⟨by rfl, ?dy5⟩) ?dr5
  case dy5 => (intro w hSw; have hS0 := hSw; (try dsimp only [SLs] at hSw); go_simp; refine Came.value ?_ hS0; with_reducible rfl)
  try simp only [Act.put, List.setIfInBounds_toArray, List.set_cons_zero, List.set_cons_succ]
  refine wpDet_take (i := 5) (oi := _) (v := ?dv6) (by simp only [List.getElem?_toArray, List.getElem?_cons_zero, List.getElem?_cons_succ]; rfl) (by kernel_rfl) (by kernel_rfl) (by kernel_rfl) (Or.inl ⟨by rfl, ?dy6⟩) ?dr6
  case dy6 => (intro w hSw; have hS0 := hSw; (try dsimp only [SLs] at hSw); go_simp; refine Came.value ?_ hS0; with_reducible rfl)
  try simp only [Act.put, List.setIfInBounds_toArray, List.set_cons_zero, List.set_cons_succ]
  refine wpDet_take (i := 6) (oi := _) (v := ?dv7) (by simp only [List.getElem?_toArray, List.getElem?_cons_zero, List.getElem?_cons_succ]; rfl) (by kernel_rfl) (by kernel_rfl) (by kernel_rfl) (Or.inl ⟨by rfl, ?dy7⟩) ?dr7
  case dy7 => (intro w hSw; have hS0 := hSw; (try dsimp only [SLs] at hSw); go_simp; refine Came.value ?_ hS0; with_reducible rfl)
  try simp only [Act.put, List.setIfInBounds_toArray, List.set_cons_zero, List.set_cons_succ]
  refine wpDet_take (i := 7) (oi := _) (v := ?dv8) (by simp only [List.getElem?_toArray, List.getElem?_cons_zero, List.getElem?_cons_succ]; rfl) (by kernel_rfl) (by kernel_rfl) (by kernel_rfl) (Or.inl ⟨by rfl, ?dy8⟩) ?dr8
  case dy8 => (intro w hSw; have hS0 := hSw; (try dsimp only [SLs] at hSw); go_simp; refine Came.value ?_ hS0; with_reducible rfl)
  try simp only [Act.put, List.setIfInBounds_toArray, List.set_cons_zero, List.set_cons_succ]
  refine wpDet_take (i := 8) (oi := _) (v := ?dv9) (by simp only [List.getElem?_toArray, List.getElem?_cons_zero, List.getElem?_cons_succ]; rfl) (by kernel_rfl) (by kernel_rfl) (by kernel_rfl) (Or.inl ⟨by rfl, ?dy9⟩) ?dr9
  case dy9 => (intro w hSw; have hS0 := hSw; (try dsimp only [SLs] at hSw); go_simp; refine Came.value ?_ hS0; with_reducible rfl)
  try simp only [Act.put, List.setIfInBounds_toArray, List.set_cons_zero, List.set_cons_succ]
  refine wpDet_take (i := 9) (oi := _) (v := ?dv10) (by simp only [List.getElem?_toArray, List.getElem?_cons_zero, List.getElem?_cons_succ]; rfl) (by kernel_rfl) (by kernel_rfl) (by kernel_rfl) (Or.inl ⟨by rfl, ?dy10⟩) ?dr10
  case dy10 => (intro w hSw; have hS0 := hSw; (try dsimp only [SLs] at hSw); go_simp; refine Came.value ?_ hS0; with_reducible rfl)
  try simp only [Act.put, List.setIfInBounds_toArray, List.set_cons_zero, List.set_cons_succ]
  refine wpDet_take (i := 10) (oi := _) (v := ?dv11) (by simp only [List.getElem?_toArray, List.getElem?_cons_zero, List.getElem?_cons_succ]; rfl) (by kernel_rfl) (by kernel_rfl) (by kernel_rfl) (Or.inl ⟨by rfl, ?dy11⟩) ?dr11
  case dy11 => (intro w hSw; go_simp; exact Came.call ((LE.out w).mono fun e w' ⟨he, hf⟩ => ⟨he, hSw.fr hf⟩) (by with_reducible rfl))
  try simp only [Act.put, List.setIfInBounds_toArray, List.set_cons_zero, List.set_cons_succ]
  refine wpDet_take (i := 11) (oi := _) (v := ?dv12) (by simp only [List.getElem?_toArray, List.getElem?_cons_zero, List.getElem?_cons_succ]; rfl) (by kernel_rfl) (by kernel_rfl) (by kernel_rfl) (Or.inl ⟨by rfl, ?dy12⟩) ?dr12
  case dy12 => (intro w hSw; have hS0 := hSw; (try dsimp only [SLs] at hSw); go_simp; refine Came.value ?_ hS0; with_reducible rfl)
  try simp only [Act.put, List.setIfInBounds_toArray, List.set_cons_zero, List.set_cons_succ]
  refine wpDet_done (by kernel_rfl) ?_ _
  intro w3 hS
  have HF := Lib.hid hS.1
  clear hS
  go_wp2
  go_ret
  exact ⟨rfl, HF.out⟩
theorem row_split {w : World} {B n : Nat} {v : Value} {L : List La} (h : w.ownsRow B 37 3 v n (laC L)) (hn : n = L.length) (h0 : 0 < n) : ∃ g c Z, v = .slice (some ⟨g, 0, none⟩) n c ∧ RowS w g Z L ∧ B ≤ g ∧ n ≤ c ∧ c ≤ maxLen ∧ (laC L ++ Z).length = c * 3 := by
  rcases h.2 with ⟨_, h1⟩ | ⟨g, cap, cur, rfl, hb, hg, hn1, hm, hs, ht⟩
  · omega
  · have hl := laC_len3 L
    have e : laC L ++ cur.toList.drop (n * 3) = cur.toList := by rw [← ht, List.take_append_drop]
    refine ⟨g, cap, cur.toList.drop (n * 3), rfl, ?_, hb, hn1, hm, ?_⟩
    · unfold RowS
      rw [e]
      simpa using hg
    · rw [e]; simpa using hs
theorem OwnL.of_row {w : World} {B g c : Nat} {L : List La} {Z : List Value} (h : RowS w g Z L) (hB : B ≤ g) (hn : L.length ≤ c) (hm : c ≤ maxLen) (hl : (laC L ++ Z).length = c * 3) : OwnL w B (.slice (some ⟨g, 0, none⟩) L.length c) L := by
  refine ⟨by rw [laC_len3], .inr ⟨g, c, _, rfl, hB, h, hn, hm, by simpa using hl, ?_⟩⟩
  rw [List.toList_toArray]
  exact List.take_left' (laC_len3 L)
set_option maxHeartbeats 1000000 in
set_option maxRecDepth 100000 in
/-- The insertion sort of nothing. -/
theorem ins_none (lf sf : Value) (w : World) : Calls Try.prog 100 #[.agg #[lf, sf], .int .i64 0, .int .i64 0] w fun e w' => e = .returned (.tuple #[]) ∧ Fr w w' [] := by
  have FA := Lib.hid (Fr.alloc w (.cells #[lf, sf] 109) [])
  go_enter Try.func100, Try.ntmps100
  go_wp2
  refine wp_loop_rounds 1 ?_
  rw [rounds_succ]
  go_wp2
  go_end0
  exact ⟨rfl, FA.out⟩
set_option maxHeartbeats 1000000 in
set_option maxRecDepth 100000 in
theorem stable_none (lf : Fn) (la lb : Array Value) (sf : Fn) (sa sb : Array Value) (w : World) : Calls Try.prog 72 #[.agg #[.func lf la lb, .func sf sa sb], .int .i64 0] w fun e w' => e = .returned (.tuple #[]) ∧ Fr w w' [] := by
  have FA := Lib.hid (Fr.alloc w (.cells #[.func lf la lb, .func sf sa sb] 109) [])
  obtain ⟨c0, c1⟩ := row2S (heap_alloc_new w (.cells #[.func lf la lb, .func sf sa sb] 109))
  have IN := Lib.hid (fun W => ins_none (.func lf la lb) (.func sf sa sb) W)
  go_enter Try.func72, Try.ntmps72
  go_wp2
  refine wp_loop_rounds 1 ?_
  rw [rounds_succ]
  go_wp2_with fail
  with_reducible refine (IN.out _).mono ?_
  rintro e w2 ⟨rfl, hf⟩
  have HF := Lib.hid (FA.out.trans hf)
  clear hf IN FA
  go_wp2
  refine wp_loop_rounds 1 ?_
  rw [rounds_succ]
  go_wp2
  go_end0
  exact ⟨rfl, HF.out⟩
set_option maxHeartbeats 2000000 in
set_option maxRecDepth 100000 in
theorem slice_none (lf : Fn) (la lb : Array Value) (w : World) : Calls Try.prog 54 #[.iface 47 (.slice none 0 0), .func lf la lb] w fun e w' => e = .returned (.tuple #[]) ∧ Fr w w' [] := by
  have hv := Lib.run_valueOf_slice (P := Try.prog) 47 37 tyLs (by kernel_rfl) (by kernel_rfl) none 0 0 w
  have hl := fun a W ha => Lib.run_valueLen_slice (P := Try.prog) 47 37 tyLs (by kernel_rfl) (by kernel_rfl) (by kernel_rfl) a none 0 0 W ha
  have hsw : ∀ W, (Extern.ReflectliteSwapper.swapper "internal/reflectlite" (Extern.ReflectliteValue.valueError "Swapper") #[.iface 47 (.slice none 0 0)]).run Try.prog W = .ok (.func (.func 91) #[] #[]) W := fun W => Lib.run_swapper_slice (P := Try.prog) 47 37 tyLs tyLa (by kernel_rfl) (by kernel_rfl) (by kernel_rfl) 25 (fun _ => by kernel_rfl) none 0 0 91 (by kernel_rfl) W
  have hF : Fr w ((w.alloc (.cells #[.slice none 0 0] 47)).alloc (.cells #[.pointer (some ⟨0, 47, none⟩), .pointer (some ⟨w.heap.size, 0, none⟩), .int .u64 151] 103)) [] := (Fr.alloc _ _ _).trans (Fr.alloc _ _ _)
  have HF := Lib.hid hF
  have SV := Lib.hid (fun W => stable_none lf la lb (.func 91) #[] #[] W)
  clear hF
  have hz : Try.prog.globals.size = 0 := by kernel_rfl
  simp only [typeHandle, hz] at hv hl
  go_enter Try.func54, Try.ntmps54
  go_wp2
  rw [run_callFunc_extern Try.func70 (by kernel_rfl) (by kernel_rfl) (by kernel_rfl) (e := fun args => Extern.ReflectliteValue.unpack (args.getD 0 (.tuple #[]))) (by kernel_rfl),
    show Sem.run Try.prog ((fun args : Array Value => Extern.ReflectliteValue.unpack (args.getD 0 (.tuple #[]))) #[.iface 47 (.slice none 0 0)]) w = _ from hv]
  simp only [Result.andThen]
  rw [Oper.upon_value]
  go_wp2
  rw [run_callFunc_extern Try.func71 (by kernel_rfl) (by kernel_rfl) (by kernel_rfl) (e := Extern.ReflectliteSwapper.swapper "internal/reflectlite" (Extern.ReflectliteValue.valueError "Swapper")) (by kernel_rfl), hsw]
  simp only [Result.andThen]
  rw [Oper.upon_value]
  go_wp2
  rw [run_callFunc_extern Try.func73 (by kernel_rfl) (by kernel_rfl) (by kernel_rfl) (e := Extern.ReflectliteValue.method (Extern.ReflectliteValue.valueError "reflectlite.Value.Len" 0) Extern.ReflectliteValue.len) (by kernel_rfl),
    hl _ _ (by simp)]
  simp only [Result.andThen]
  rw [Oper.upon_value]
  go_wp2_with fail
  with_reducible refine (SV.out _).mono ?_
  rintro e w' ⟨rfl, hf⟩
  have HE := Lib.hid (HF.out.trans hf)
  clear hf
  go_wp2
  go_end0
  exact ⟨rfl, HE.out⟩
set_option maxHeartbeats 2000000 in
set_option maxRecDepth 100000 in
theorem in_order (v : Value) (L : List La) (w : World) (h : HLs w v L) (hl : L.length ≤ 1000) :
    Calls Try.prog 34 #[v] w (Gives fun u w' => OwnL w' w.heap.size u (sortL L) ∧ Fr w w' []) := by
  obtain ⟨i0, hi0, hz0, hz1, hz2⟩ := info_parts infoL
  obtain ⟨n, hn⟩ : ∃ n, n = L.length := ⟨_, rfl⟩
  obtain ⟨a, c, rfl, p1, q1, r1⟩ := h
  obtain ⟨v', w1, hrun, hown, hf1, hn0⟩ := nil_app 47 37 i0 _ 3 24 Try.underlying47 hi0 hz0 hz1 hz2 rfl (by decide) w a L.length c (laC L) (laC_len3 L) (by omega) (fun h0 => by
    obtain ⟨b, off, e, hc⟩ := r1 h0
    refine ⟨_, e, fun j u hj => ?_⟩
    rw [Addr.add_lit]
    have hjl : j < L.length * 3 := by have := (List.getElem?_eq_some_iff.1 hj).1; rwa [laC_len3] at this
    obtain ⟨g0, g1, g2⟩ := laC_get L (j / 3) (by omega)
    obtain ⟨c0, c1, c2⟩ := hc (j / 3) (by omega)
    rcases (by omega : j = j / 3 * 3 ∨ j = j / 3 * 3 + 1 ∨ j = j / 3 * 3 + 2) with e | e | e
    · rw [← e] at g0 c0; rw [hj] at g0; rw [c0, g0]
    · rw [← e] at g1; rw [Nat.add_assoc, ← e] at c1; rw [hj] at g1; rw [c1, g1]
    · rw [← e] at g2; rw [Nat.add_assoc, ← e] at c2; rw [hj] at g2; rw [c2, g2])
  rw [← hn] at hrun hown p1 hn0 ⊢
  unfold maxLen at q1
  have F1 := Lib.hid hf1
  clear r1 hf1
  by_cases h0 : 0 < n
  · obtain ⟨g, c1, Z, rfl, hrow, hg, hnc, hcm, hlen⟩ := row_split hown hn h0
    have FA := Lib.hid (Fr.alloc w1 (.cells #[.slice (some ⟨g, 0, none⟩) n c1] 47) [])
    obtain ⟨H, hH⟩ : ∃ H, H = w1.heap.size := ⟨_, rfl⟩
    have hgH : g < H := by rw [hH]; exact hrow.lt
    obtain ⟨W2, hW2⟩ : ∃ W2, W2 = w1.alloc (.cells #[.slice (some ⟨g, 0, none⟩) n c1] 47) := ⟨_, rfl⟩
    have hbx : W2.heap[H]? = some (.cells #[.slice (some ⟨g, 0, none⟩) n c1] 47 (0, 0)) := by rw [hW2, hH]; exact heap_alloc_new _ _
    rw [← hW2] at FA
    have hrow2 := hrow.fr FA.out
    have BXC : Hid (∀ W, Fr W2 W [g] → W.cell? ⟨H, 0, none⟩ = some (.slice (some ⟨g, 0, none⟩) n c1)) := Lib.hid (fun W hW => by
      have := hW.heap hbx (by intro hm; have := List.mem_singleton.1 hm; omega)
      rw [cell_of_row W H 0 _ _ _ this]; rfl)
    have LS : LessP W2 H g n Z := fun W D i j hW hr hD hi hj => less_clos H g n c1 i j (D.getD i zLa) (D.getD j zLa) W hi hj ⟨Fr.refl _ _, BXC.out W hW, ⟨(hr.cell i (by omega)).1, (hr.cell i (by omega)).2.1⟩, (hr.cell j (by omega)).1, (hr.cell j (by omega)).2.1⟩
    have SS := Lib.hid (slice_stable H g n c1 Z L hn.symm (by omega) W2 LS hrow2)
    have FIN : Hid (∀ w', SPost W2 g Z (fun D => AscS ltL D ∧ StbS ltL L D) w' → OwnL w' w.heap.size (.slice (some ⟨g, 0, none⟩) n c1) (sortL L) ∧ Fr w w' []) := Lib.hid (fun w' ⟨D, ⟨k1, k2⟩, k3, k4⟩ => by
      have e := sortL_one k1 k2
      subst e
      have hl2 := k2.len
      refine ⟨?_, (F1.out.trans FA.out).new k4 (by intro r hr; obtain rfl := List.mem_singleton.1 hr; exact hg)⟩
      have := OwnL.of_row k3 hg (by omega) hcm (by rw [List.length_append, laC_len3] at hlen ⊢; omega)
      rwa [← hl2, ← hn] at this)
    have bxc0 := BXC.out W2 (Fr.refl _ _)
    rw [hW2] at bxc0
    have HN := Lib.hid hn
    clear hrow hbx hrow2 LS hown hlen hg hnc hcm hn hn0
    unfold lessV at SS
    go_enter Try.func34, Try.ntmps34
    go_wp2_with (at_builtin; refine Lib.wpList_append_run _ rfl _ _ _ _ rfl _ _ rfl rfl _ _ (hrun _) ?_)
    rw [← hW2, ← hH]
    with_reducible refine (SS.out).mono ?_
    rintro e w3 ⟨rfl, hp⟩
    have HE := Lib.hid (FIN.out w3 hp)
    have c0 := BXC.out w3 (by obtain ⟨D, _, _, k⟩ := hp; exact k)
    clear hp hW2 hH hgH bxc0
    go_wp2
    go_ret
    exact gives HE.out
  · obtain rfl : n = 0 := by omega
    obtain ⟨rfl, rfl⟩ := hn0 rfl
    have e : L = [] := List.eq_nil_of_length_eq_zero hn.symm
    subst e
    have FA := Lib.hid (Fr.alloc w1 (.cells #[.slice none 0 0] 47) [])
    have c0 : (w1.alloc (.cells #[.slice none 0 0] 47)).cell? ⟨w1.heap.size, 0, none⟩ = some (.slice none 0 0) := by rw [cell_of_row _ _ 0 _ _ _ (heap_alloc_new _ _)]; rfl
    have SN := Lib.hid (fun W => slice_none (.func 55) #[] #[.pointer (some ⟨w1.heap.size, 0, none⟩)] W)
    have C0 := Lib.hid c0
    clear hown hn hn0
    go_enter Try.func34, Try.ntmps34
    go_wp2_with (at_builtin; refine Lib.wpList_append_run _ rfl _ _ _ _ rfl _ _ rfl rfl _ _ (hrun _) ?_)
    with_reducible refine (SN.out _).mono ?_
    rintro e w3 ⟨rfl, hf⟩
    have c1 := hf.cell C0.out (by simp)
    have HE := Lib.hid (FA.out.trans hf)
    clear hf SN c0
    go_wp2
    go_ret
    exact gives ⟨OwnL.nil _ _, HE.out⟩
end Go.Proofs.Ytldheaamcnmlgaa
