/- Hall buttons: Clear, Clone, Lit. -/
import Derived.Test.YtndjmpjgahmnoaaDoorRis3
import Derived.Deep.AppendLies
import Derived.Deep.RegionLaw
namespace Go.Proofs.YtndjmpjgahmnoaaDoor
open Go.RowKit

set_option maxRecDepth 100000 in
theorem clear_no (p : Nat) (s : RS) (f d g : Int) (w : World) (hs : Rs w p s) (hn : s.n ≤ 64) (hb : s.isB f d g = false) :
    Calls Tryd.prog 13 #[.pointer (some ⟨p, 0, none⟩), .agg #[.int .i64 f, .int .i64 d, .int .i64 g]] w fun e w' => e = .returned (.bool false) ∧ Fr w w' [] := by
  have HF := Lib.hid (Fr.alloc w (.cells #[.int .i64 f, .int .i64 d, .int .i64 g] 32) [])
  have HS := Lib.hid (hs.keep HF.out)
  clear hs
  go_enter Tryd.func13, Tryd.ntmps13
  go_wp2_with fail
  refine (is_any p s f d g _ HS.out hn false hb).mono ?_
  rintro e w1 ⟨rfl, hf⟩
  have HF1 := Lib.hid (HF.out.trans hf)
  clear hf
  go_wp2
  go_ret
  exact ⟨rfl, HF1.out⟩

set_option maxRecDepth 100000 in
theorem clear_yes (p : Nat) (s : RS) (f d : Int) (k : Nat) (g : Int) (w : World) (hs : Rs w p s) (hn : s.n ≤ 64) (hk : Key s.n f d k) (hl : s.L k = true) (hg : s.G k = g) :
    Calls Tryd.prog 13 #[.pointer (some ⟨p, 0, none⟩), .agg #[.int .i64 f, .int .i64 d, .int .i64 g]] w fun e w' => e = .returned (.bool true) ∧ Rs w' p (s.clear k) ∧ Fr w w' [p] := by
  have HF := Lib.hid (Fr.alloc w (.cells #[.int .i64 f, .int .i64 d, .int .i64 g] 32) [])
  have HR := Lib.hid (heap_alloc_new w (.cells #[.int .i64 f, .int .i64 d, .int .i64 g] 32))
  have HS := Lib.hid (hs.keep HF.out)
  have hb : s.isB f d g = true := by simp [RS.isB, hk.may, hk.is, hl, hg]
  clear hs hl hg
  have hk128 : k < 128 := by have := hk.hi; omega
  obtain ⟨o, ho⟩ : ∃ o, o = 1 + 2 * k := ⟨_, rfl⟩
  have HO := Lib.hid ho
  go_enter Tryd.func13, Tryd.ntmps13
  go_wp2_with fail
  refine (is_any p s f d g _ HS.out hn true hb).mono ?_
  rintro e w1 ⟨rfl, hf⟩
  have HF1 := Lib.hid (HF.out.trans hf)
  have HS1 := Lib.hid (HS.out.keep hf)
  obtain ⟨r0, r1, r2⟩ := row3 (hf.heap HR.out (by simp))
  clear hf
  go_wp2_with fail
  refine (button_yes p s f d k _ HS1.out hn hk).mono ?_
  rintro e w2 ⟨rfl, hf⟩
  have HF2 := Lib.hid (HF1.out.trans hf)
  have HP := Lib.hid ((HS1.out.keep hf).setL k o hk128 HO.out false)
  have z := (HS1.out.keep hf).fz o
  obtain ⟨c0, _⟩ := (HS1.out.keep hf).at' k o hk128 HO.out
  obtain ⟨c0, _⟩ := (HS1.out.keep hf).at' k o hk128 HO.out
  obtain ⟨c0, _⟩ := (HS1.out.keep hf).at' k o hk128 HO.out
  obtain ⟨c0, _⟩ := (HS1.out.keep hf).at' k o hk128 HO.out
  rw [← HO.out]
  clear hf ho r0 r1 r2
  go_wp2
  go_ret
  exact ⟨rfl, HP.out, (HF2.out.mono (by simp)).trans (Fr.setCell _ p o _ (by simp))⟩

/-- Another riser. -/
def CloR (w : World) (s : RS) (u : Value) (w' : World) : Prop := u = .pointer (some ⟨w.heap.size, 0, none⟩) ∧ Rs w' w.heap.size s ∧ Fr w w' []
theorem clone_any (p : Nat) (s : RS) (w : World) (h : Rs w p s) :
    Calls Tryd.prog 17 #[.pointer (some ⟨p, 0, none⟩)] w (Gives (CloR w s)) := by
  obtain ⟨cs, h1, h2⟩ := h
  have H1 := Lib.hid h1
  have H2 := Lib.hid h2
  have HI := Lib.hid (show (Tryd.prog.info? 65).map (·.size) = some cs.size by rw [h2.size]; exact infoRs)
  have HS := Lib.hid (show zA.size = cs.size by rw [h2.size]; exact zA_size)
  have hz := zeroRs
  clear h1 h2
  go_enter Tryd.func17, Tryd.ntmps17
  go_wp2_with (first | (with_reducible refine wpList_load_row rfl _ _ rfl p rfl _ cs _ _ H1.out Tryd.underlying65 rfl HI.out ?_) | (with_reducible refine wpList_store_row rfl _ _ _ rfl w.heap.size cs rfl rfl _ zA (heap_alloc_new _ _) HI.out HS.out H2.out.one ?_))
  go_ret
  rw [World.setRow_alloc_new]
  exact gives ⟨rfl, ⟨cs, heap_alloc_new _ _, H2.out⟩, Fr.alloc _ _ _⟩

/-- The two ways. -/
theorem dirs0 (W : World) : (Instr.index 46 (.agg #[.int .i64 (-1), .int .i64 1]) (.int .i64 0)).run Tryd.prog W = .ok (.int .i64 (-1)) W := by kernel_rfl
theorem dirs1 (W : World) : (Instr.index 46 (.agg #[.int .i64 (-1), .int .i64 1]) (.int .i64 1)).run Tryd.prog W = .ok (.int .i64 1) W := by kernel_rfl
/-- The call of button k. -/
theorem keyN_of (m : Nat) : keyN ((m / 2 : Nat) : Int) (2 * ((m % 2 : Nat) : Int) - 1) = m := by
  unfold keyN
  by_cases e : m % 2 = 1
  · rw [e, if_pos (by omega)]; omega
  · rw [if_neg (by omega)]; omega
theorem may_no (n m : Nat) (h : ¬ (0 < m ∧ m + 1 < 2 * n)) : mayB n ((m / 2 : Nat) : Int) (2 * ((m % 2 : Nat) : Int) - 1) = false := by
  cases e : mayB n ((m / 2 : Nat) : Int) (2 * ((m % 2 : Nat) : Int) - 1) with
  | false => rfl
  | true =>
    have := may_key e
    rw [keyN_of] at this
    exact absurd ⟨this.lo, this.hi⟩ h
theorem key_of (n k : Nat) (h0 : 0 < k) (h1 : k + 1 < 2 * n) : Key n ((k / 2 : Nat) : Int) (2 * ((k % 2 : Nat) : Int) - 1) k := ⟨h0, h1, rfl, rfl⟩
set_option maxHeartbeats 1000000 in
set_option maxRecDepth 100000 in
theorem lit_any (p : Nat) (s : RS) (w : World) (hs : Rs w p s) (hok : s.ok) :
    Calls Tryd.prog 11 #[.pointer (some ⟨p, 0, none⟩)] w (Gives fun u w' => OwnL w' w.heap.size u s.lit ∧ Fr w w' []) := by
  obtain ⟨i0, hi, hz0, hz1, hz2⟩ := info_parts infoL
  have HS := Lib.hid hs
  have c0 := hs.n
  have HOK := Lib.hid hok
  obtain ⟨n, hn⟩ : ∃ n, s.n = n := ⟨_, rfl⟩
  rw [hn] at c0
  have HN := Lib.hid hn
  have hn64 : n ≤ 64 := by have := hok.1; omega
  clear hs hok hn
  have hd0 := dirs0
  have hd1 := dirs1
  go_enter Tryd.func11, Tryd.ntmps11
  go_wp2
  go_loopw [3, 13] (fun a i wr => ∃ k : Nat, k ≤ n ∧ i = .int .i64 k ∧ OwnL wr w.heap.size a (s.litTo (2 * k)) ∧ Fr w wr []) (fun _ i _ => n - (intOf i).toNat)
  case atStart => exact ⟨0, by omega, rfl, OwnL.nil _ _, Fr.refl _ _⟩
  case round =>
    obtain ⟨k, hk, rfl, ho, hf⟩ := hrel
    have O0 := Lib.hid ho
    have F0 := Lib.hid hf
    clear ho hf
    by_cases hlt : k < n
    · go_wp2
      go_loopw [3, 17] (fun a i wr => ∃ j : Nat, j ≤ 2 ∧ i = .int .i64 j ∧ OwnL wr w.heap.size a (s.litTo (2 * k + j)) ∧ Fr w wr []) (fun _ i _ => 2 - (intOf i).toNat)
      case atStart => exact ⟨0, by omega, rfl, O0.out, F0.out⟩
      case round =>
        obtain ⟨j, hj, rfl, ho, hf⟩ := hrel
        have O1 := Lib.hid ho
        have F1 := Lib.hid hf
        clear ho hf O0 F0
        by_cases hlt2 : j < 2
        · obtain ⟨m, hm⟩ : ∃ m, m = 2 * k + j := ⟨_, rfl⟩
          have hmk : k = m / 2 := by omega
          obtain ⟨d, hd⟩ : ∃ d : Int, d = 2 * (j : Int) - 1 := ⟨_, rfl⟩
          have hmd : 2 * ((m % 2 : Nat) : Int) - 1 = d := by omega
          have hjd : (j = 0 ∧ d = -1) ∨ (j = 1 ∧ d = 1) := by omega
          have hm128 : m < 128 := by omega
          rw [← hm] at O1
          have HSJ := Lib.hid (show s.litTo (2 * k + (j + 1)) = s.litTo (m + 1) by rw [hm]; rfl)
          have C1 := Lib.hid (HS.out.keep F1.out)
          have BC := Lib.hid (fun d : Int => heap_alloc_new wr (.cells #[.int .i64 (k : Int), .int .i64 d] 24))
          have FA := Lib.hid (fun d : Int => Fr.alloc wr (.cells #[.int .i64 (k : Int), .int .i64 d] 24) [])
          have HN64 := Lib.hid (show s.n ≤ 64 by rw [HN.out]; exact hn64)
          by_cases hmay : 0 < m ∧ m + 1 < 2 * n
          · have HK := Lib.hid (show Key s.n ((m / 2 : Nat) : Int) (2 * ((m % 2 : Nat) : Int) - 1) m from key_of s.n m hmay.1 (by rw [HN.out]; exact hmay.2))
            rw [hmd, ← hmk] at HK
            obtain ⟨o, ho⟩ : ∃ o, o = 1 + 2 * m := ⟨_, rfl⟩
            have HO := Lib.hid ho
            have HLEN := Lib.hid (show (s.litTo m).length ≤ 128 from Nat.le_trans (s.litTo_len m) (by omega))
            have HM := Lib.hid hm128
            have HLA := Lib.hid (show s.la m = ⟨(k : Int), d, s.G m⟩ by unfold RS.la; rw [hmd, ← hmk])
            clear hm hmay hmk hmd ho hm128 hd
            cases hl : s.L m with
            | false =>
              have HL := Lib.hid (s.litTo_no m hl)
              have HLM := Lib.hid hl
              clear hl
              rcases hjd with ⟨rfl, rfl⟩ | ⟨rfl, rfl⟩
              all_goals
                go_wp2_with fail
                refine (button_yes p s _ _ m _ (C1.out.keep (FA.out _)) HN64.out HK.out).mono ?_
                rintro e w2 ⟨rfl, hf⟩
                obtain ⟨c1, c2⟩ := ((C1.out.keep (FA.out _)).keep hf).at' m o HM.out HO.out
                rw [HLM.out] at c1
                rw [← HO.out]
                have O2 := Lib.hid ((O1.out.keep (FA.out _)).keep hf)
                have F2 := Lib.hid ((F1.out.trans (FA.out _)).trans hf)
                clear hf
                go_wp2
                go_roundw
                case rel => first | exact ⟨0 + 1, by omega, by go_num, by rw [HSJ.out, HL.out]; exact O2.out, F2.out⟩ | exact ⟨1 + 1, by omega, by go_num, by rw [HSJ.out, HL.out]; exact O2.out, F2.out⟩
                case measure => simp [intOf]
            | true =>
              have HL := Lib.hid (s.litTo_yes m hl)
              have HLM := Lib.hid hl
              clear hl
              rcases hjd with ⟨rfl, rfl⟩ | ⟨rfl, rfl⟩
              all_goals
                go_wp2_with fail
                refine (button_yes p s _ _ m _ (C1.out.keep (FA.out _)) HN64.out HK.out).mono ?_
                rintro e w2 ⟨rfl, hf⟩
                obtain ⟨c1, c2⟩ := ((C1.out.keep (FA.out _)).keep hf).at' m o HM.out HO.out
                rw [HLM.out] at c1
                rw [← HO.out]
                obtain ⟨k0, k1⟩ := row2 (hf.heap (BC.out _) (by simp))
                obtain ⟨g, hg⟩ : ∃ g, g = s.G m := ⟨_, rfl⟩
                rw [← hg] at c2
                have O2 := Lib.hid ((O1.out.keep (FA.out _)).keep hf)
                have F2 := Lib.hid ((F1.out.trans (FA.out _)).trans hf)
                have HG := Lib.hid hg
                clear hf hg
                go_wp2
                have O2D := Lib.hid (O2.out.keep (Fr.drew w2 []))
                go_region_law (refine step_append_lies _ (by rfl) _ _ _ (by rfl) w.heap.size 32 i0 _ 3 24 Tryd.underlying38 hi hz0 hz1 hz2 rfl (by omega) _ _ _ (by rfl) (World.ownsRow.alloc O2D.out _) ⟨w2.heap.size, 0, none⟩ 1 1 [.int .i64 _, .int .i64 _, .int .i64 g] (by rfl) (by rfl) (World.news_of_block (cs := #[.int .i64 _, .int .i64 _, .int .i64 g]) (t := 32) (fr := (0, 0)) (heap_alloc_new w2.drew _)) (by simp [Value.oneCell']) (by omega) (by have := HLEN.out; unfold maxLen; omega) (by have := HLEN.out; omega) (by have := F2.out.size; simp; omega) (w2.heap.size + 1) (by simp) ?_; intro gg cap wc hown hgrow hat hlt')
                all_goals
                  have OC := Lib.hid (OwnL.snoc (x := ⟨_, _, g⟩) hown)
                  have FC := Lib.hid (((F2.out.trans (Fr.drew w2 [])).trans (Fr.alloc w2.drew _ [])).grown_own hgrow (fun r hr => .inr (O2.out.block r hr).1))
                  clear hown hgrow hat hlt'
                  go_wp2
                  go_roundw
                  case rel => first | exact ⟨0 + 1, by omega, by go_num, by rw [HSJ.out, HL.out, HLA.out, ← HG.out]; exact OC.out, FC.out⟩ | exact ⟨1 + 1, by omega, by go_num, by rw [HSJ.out, HL.out, HLA.out, ← HG.out]; exact OC.out, FC.out⟩
                  case measure => simp [intOf]
          · have HK := Lib.hid (show mayB s.n ((m / 2 : Nat) : Int) (2 * ((m % 2 : Nat) : Int) - 1) = false by rw [HN.out]; exact may_no n m hmay)
            rw [hmd, ← hmk] at HK
            have hl : s.L m = false := by
              cases e : s.L m with
              | false => rfl
              | true => have := HOK.out.2 m e; rw [HN.out] at this; exact absurd this hmay
            have HL := Lib.hid (s.litTo_no m hl)
            clear hm hmay hmk hmd hm128 hl hd
            rcases hjd with ⟨rfl, rfl⟩ | ⟨rfl, rfl⟩
            all_goals
              go_wp2_with fail
              refine (button_no p s _ _ _ (C1.out.keep (FA.out _)) HN64.out HK.out).mono ?_
              rintro e w2 ⟨rfl, hf⟩
              have O2 := Lib.hid ((O1.out.keep (FA.out _)).keep hf)
              have F2 := Lib.hid ((F1.out.trans (FA.out _)).trans hf)
              clear hf
              go_wp2
              go_roundw
              case rel => first | exact ⟨0 + 1, by omega, by go_num, by rw [HSJ.out, HL.out]; exact O2.out, F2.out⟩ | exact ⟨1 + 1, by omega, by go_num, by rw [HSJ.out, HL.out]; exact O2.out, F2.out⟩
              case measure => simp [intOf]
        · obtain rfl : j = 2 := by omega
          have O2 := O1.out
          rw [show 2 * k + 2 = 2 * (k + 1) by omega] at O2
          have O3 := Lib.hid O2
          clear O2 O1
          go_wp2
          go_roundw
          case rel => exact ⟨k + 1, by omega, by go_num, O3.out, F1.out⟩
          case measure => simp [intOf]; omega
    · obtain rfl : k = n := by omega
      have O1 := O0.out
      rw [show s.litTo (2 * k) = s.lit by unfold RS.lit; rw [HN.out]] at O1
      have HE := Lib.hid O1
      go_wp2
      go_ret
      exact gives ⟨HE.out, F0.out⟩
end Go.Proofs.YtndjmpjgahmnoaaDoor
