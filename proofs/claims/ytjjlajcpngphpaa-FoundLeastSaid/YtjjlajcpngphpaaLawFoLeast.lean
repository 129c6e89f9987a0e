/- The law of the least: of those that hear one another just the least founds, once it has waited; in a ring of just these that goes round nobody does: its walk. -/
import Derived.Test.YtjjlajcpngphpaaFoMath
import Derived.Test.YtjjlajcpngphpaaFd3
import Derived.Test.YtjjlajcpngphpaaRSet
import Derived.Test.YtjjlajcpngphpaaNum
import Derived.Deep.DeepCutAuto
import Derived.Deep.CutBlock
namespace Go.Proofs.Ytjjlajcpngphpaa
open Go.RowKit

theorem own_cells {w : World} {B g n c : Nat} {l : List Int} (h : OwnI w B (.slice (some ⟨g, 0, none⟩) n c) l) (i : Nat) (hi : i < l.length) : w.cell? ⟨g, i, none⟩ = some (.int .i64 (l.getD i 0)) := by
  obtain ⟨a, c', he, _, _, hc⟩ := h.holds
  simp only [Value.slice.injEq] at he
  obtain ⟨rfl, _⟩ := he
  obtain ⟨b, off, e, k⟩ := hc (by omega)
  simp only [Option.some.injEq, Addr.mk.injEq, and_true] at e
  obtain ⟨rfl, rfl⟩ := e
  simpa using k i hi
/-- A box of a case, its ring stored anew. -/
theorem box_ring {w V : World} {g : Nat} {a b c d e f h i v : Value} (k : V.heap[g]? = some (.cells #[a, b, c, d, e, f, h, i] 24 (0, 0))) (hf : Fr w V []) (hg : w.heap.size ≤ g) :
    (V.setCell ⟨g, 5, none⟩ v).heap[g]? = some (.cells #[a, b, c, d, e, v, h, i] 24 (0, 0)) ∧ Fr w (V.setCell ⟨g, 5, none⟩ v) [] := by
  refine ⟨by rw [heap_setCell_same _ g 5 _ _ _ k]; rfl, hf.new (Fr.setCell V g 5 v (S := [g]) (by simp)) (by intro r hr; obtain rfl := List.mem_singleton.1 hr; exact hg)⟩

set_option maxHeartbeats 8000000 in
set_option maxRecDepth 100000 in
theorem foleast_walk (v : Value) (l : List Int) (hwf : ∀ n ∈ l, (Lit.int .i64 n).wf = true) (a1 a2 : Int) (inn : Bool) (w : World) (h1 : (Lit.int .i64 a1).wf = true) (h2 : (Lit.int .i64 a2).wf = true) (h : HInts w v l) :
    Calls Try.prog 4 #[v, .int .i64 a1, .int .i64 a2, .bool inn] w fun e w' => e = .returned (.bool true) ∧ w.grownBy w' none := by
  obtain ⟨i0, hi, hz0, hz1, hz2⟩ := info_parts infoI
  have HH := Lib.hid h
  have HWF := Lib.hid hwf
  obtain ⟨a, cap, rfl, hp, hq, hc⟩ := h
  have HC := Lib.hid hc
  obtain ⟨n, hn⟩ : ∃ n, n = l.length := ⟨_, rfl⟩
  have HN := Lib.hid hn
  unfold maxLen at hq
  have hnm : n ≤ 9223372036854775807 := by omega
  rw [← hn] at HH ⊢
  clear hn hp hq hwf hc
  have FI := Lib.hid (fun W => fofirst_any W)
  by_cases hn0 : n = 0
  · subst hn0
    go_enter Try.func4, Try.ntmps4
    go_wp2_with fail
    with_reducible refine (FI.out _).mono ?_
    rintro e w1 ⟨rfl, hf⟩
    have F1 := Lib.hid hf
    clear hf
    go_wp2
    go_ret
    exact ⟨rfl, F1.out.grown (by simp)⟩
  have en0 : ((n : Int) == 0) = false := by rw [beq_eq_false_iff_ne]; omega
  by_cases hn16 : 16 < n
  · have hb : (n : Int) > 16 := by omega
    go_enter Try.func4, Try.ntmps4
    go_wp2_with fail
    with_reducible refine (FI.out _).mono ?_
    rintro e w1 ⟨rfl, hf⟩
    have F1 := Lib.hid hf
    clear hf
    go_wp2
    go_ret
    exact ⟨rfl, F1.out.grown (by simp)⟩
  obtain ⟨b11, b12⟩ := bounds_i64 h1
  obtain ⟨b21, b22⟩ := bounds_i64 h2
  have N1 := Lib.hid (fun W => numberTo_any a1 200 W (by omega) (by omega) b11 b12)
  have N2 := Lib.hid (fun W => numberTo_any a2 200 W (by omega) (by omega) b21 b22)
  obtain ⟨si, hsi⟩ : ∃ s, s = a1 % 200 := ⟨_, rfl⟩
  obtain ⟨fo, hfo⟩ : ∃ s, s = a2 % 200 := ⟨_, rfl⟩
  have hs0 : 0 ≤ si ∧ si < 200 := by rw [hsi]; omega
  have hf0 : 0 ≤ fo ∧ fo < 200 := by rw [hfo]; omega
  rw [← hsi] at N1
  rw [← hfo] at N2
  clear hsi hfo h1 h2 b11 b12 b21 b22
  go_enter Try.func4, Try.ntmps4
  go_wp2_with fail
  with_reducible refine (FI.out _).mono ?_
  rintro e w1 ⟨rfl, hf⟩
  have F1 := Lib.hid hf
  clear hf FI
  go_wp2_with fail
  with_reducible refine (N1.out _).mono ?_
  rintro e w2 ⟨rfl, rfl⟩
  go_wp2_with fail
  with_reducible refine (N2.out _).mono ?_
  rintro e w2 ⟨rfl, rfl⟩
  clear N1 N2
  go_wp2
  go_loopw [11, 12] (fun out i wr => ∃ k : Nat, k ≤ n ∧ i = .int .i64 k ∧ OwnI wr w.heap.size out (((l.take k).map (· % 16)).foldl putS []) ∧ Fr w wr []) (fun _ i _ => n - (intOf i).toNat)
  case atStart => exact ⟨0, Nat.zero_le _, rfl, OwnI.nil _ _, F1.out⟩
  case round =>
    obtain ⟨k, hk, rfl, ho, hf⟩ := hrel
    have O1 := Lib.hid ho
    have F2 := Lib.hid hf
    clear ho hf
    by_cases hlt : k < n
    · have hkl : k < l.length := by have := HN.out; omega
      obtain ⟨bk, off, rfl, hc2⟩ := HC.out (by omega)
      have g1 := F2.out.cell (hc2 k hkl) (by simp)
      obtain ⟨z, hz⟩ : ∃ z, z = l.getD k 0 := ⟨_, rfl⟩
      have hzl : z ∈ l := by rw [hz]; simp [hkl]
      have hsn := take_snoc l k hkl
      rw [← hz] at g1 hsn
      have HS : Hid (((l.take (k + 1)).map (· % 16)).foldl putS [] = putS (((l.take k).map (· % 16)).foldl putS []) (z % 16)) := by show _ = _; rw [hsn]; simp
      have HL : Hid ((((l.take k).map (· % 16)).foldl putS []).length ≤ 1000000) := by
        show _ ≤ _
        rw [setS_eq]
        have := setOf_length ((l.take k).map (· % 16))
        rw [List.length_map, List.length_take] at this
        omega
      obtain ⟨c1, c2⟩ := bounds_i64 (HWF.out z hzl)
      have NZ := Lib.hid (numberTo_any z 16 wr (by omega) (by omega) c1 c2)
      clear hz hzl hsn hc2 c1 c2
      go_wp2_with fail
      with_reducible refine (NZ.out).mono ?_
      rintro e w3 ⟨rfl, rfl⟩
      go_wp2_with fail
      with_reducible refine (putS_any _ _ (z % 16) wr O1.out.holds O1.out.form HL.out).mono ?_
      rintro e w3 ⟨u, rfl, ho, hg⟩
      have O2 : Hid (OwnI w3 w.heap.size u (((l.take (k + 1)).map (· % 16)).foldl putS [])) := by show _; rw [HS.out]; exact ho.mono F2.out.size
      have F3 := Lib.hid (F2.out.trans (Fr.of_grown hg []))
      clear ho hg
      go_wp2
      go_roundw
      case rel => exact ⟨k + 1, by omega, by go_num, O2.out, F3.out⟩
      case measure => simp [intOf]; omega
    · obtain rfl : k = n := by omega
      have h9 := O1.out
      rw [HN.out, List.take_length, setS_eq] at h9
      obtain ⟨s, hs⟩ : ∃ s, s = setOf (l.map (· % 16)) := ⟨_, rfl⟩
      have HR : Hid (Rises s) := by rw [hs]; exact setOf_rises _
      have hsl : s.length ≤ 16 := by
        rw [hs]
        have := setOf_length (l.map (· % 16))
        rw [List.length_map] at this
        have := HN.out
        omega
      have hpos : 0 < s.length := by
        rw [hs]
        cases l with
        | nil => have := HN.out; simp at this; omega
        | cons x l => exact List.length_pos_of_mem (mem_setOf.2 (List.mem_cons_self (a := x % 16)))
      rw [← hs] at h9
      clear hs O1
      obtain ⟨gs, cc, rfl, _⟩ := row_head h9 hpos
      have O1 := Lib.hid h9
      obtain ⟨m, hm⟩ : ∃ m, m = s.length := ⟨_, rfl⟩
      have HM := Lib.hid hm
      rw [← hm] at O1 hsl hpos ⊢
      clear h9 hm
      obtain ⟨sh, hsh⟩ : ∃ b, b = (longB fo 16 && (!inn || longB si 16)) := ⟨_, rfl⟩
      have HSH := Lib.hid hsh
      clear hsh
      go_wp2
      go_loopw [13, 14] (fun nn i wx => ∃ k : Nat, k ≤ m ∧ i = .int .i64 k ∧ nn = .int .i64 (cntF sh k) ∧ Fr wr wx []) (fun _ i _ => m - (intOf i).toNat)
      case atStart => exact ⟨0, Nat.zero_le _, rfl, by rw [cntF_zero], Fr.refl _ _⟩
      case round =>
        obtain ⟨k, hk, rfl, rfl, hf⟩ := hrel
        have O3 := Lib.hid (O1.out.keep hf)
        have F3 := Lib.hid (F2.out.trans hf)
        have G3 := Lib.hid hf
        clear hf
        by_cases hlt2 : k < m
        · obtain ⟨B, hB⟩ : ∃ B, B = wr.heap.size := ⟨_, rfl⟩
          have HB := Lib.hid hB
          obtain ⟨x, hx⟩ : ∃ x, x = s.getD k 0 := ⟨_, rfl⟩
          have HX := Lib.hid hx
          clear hx
          obtain ⟨NK, hNK⟩ : ∃ c, c = cntF sh k := ⟨_, rfl⟩
          have HNK := Lib.hid hNK
          rw [← hNK]
          clear hNK
          go_wp2
          go_loopw [15, 16] (fun ot i wy => ∃ j : Nat, j ≤ m ∧ i = .int .i64 j ∧ OwnI wy B ot (oth s k j) ∧ Fr wr wy []) (fun _ i _ => m - (intOf i).toNat)
          case atStart => exact ⟨0, Nat.zero_le _, rfl, OwnI.nil _ _, Fr.refl _ _⟩
          case round =>
            obtain ⟨j, hj, rfl, ho, hf⟩ := hrel
            have OO := Lib.hid ho
            have O4 := Lib.hid (O3.out.keep hf)
            have F4 := Lib.hid (F3.out.trans hf)
            have G4 := Lib.hid hf
            have HSZ := Lib.hid (show B ≤ wr.heap.size from hB ▸ hf.size)
            clear ho hf
            by_cases hlt3 : j < m
            · by_cases hjk : j = k
              · subst hjk
                have ejk : ((j : Int) != (j : Int)) = false := by simp
                have OO2 : Hid (OwnI wr B u15 (oth s j (j + 1))) := by show _; rw [oth_same]; exact OO.out
                go_wp2
                go_roundw
                case rel => exact ⟨j + 1, by omega, by go_num, OO2.out, G4.out⟩
                case measure => simp [intOf]; omega
              · have ejk : ((j : Int) != (k : Int)) = true := by simp; omega
                have g1 := own_cells O4.out j (by rw [← HM.out]; exact hlt3)
                obtain ⟨y, hy⟩ : ∃ y, y = s.getD j 0 := ⟨_, rfl⟩
                have HS := Lib.hid (oth_next s hjk)
                rw [← hy] at g1 HS
                have HL := Lib.hid (oth_le s k j)
                clear hy
                go_wp2_with (at_builtin; refine wpList_append_own _ rfl _ _ 22 rfl B 3 i0 (.int .i64 0) 1 8 Try.underlying22 hi hz0 hz1 hz2 rfl (by decide) _ _ _ rfl (World.ownsRow.alloc OO.out _) ⟨wr.heap.size, 0, none⟩ 1 1 [.int .i64 y] rfl rfl (cell_one_new _ _ _) (one_cell _ _) (by have := HL.out; unfold maxLen; omega) (by have := HL.out; omega) (by have := HSZ.out; simp; omega) ?_; intro v' w3 hown3 hg3 _)
                have OO2 : Hid (OwnI w3 B v' (oth s k (j + 1))) := by show _; rw [HS.out]; exact OwnI.snoc hown3
                have G5 := Lib.hid (Fr.of_grown (grown_new (G4.out.grown (by simp)) (grown_trans (World.grownBy_alloc wr _ _) hg3) (fun r hr => by have := (OO.out.block r hr).1; rw [HB.out] at this; exact this)) [])
                clear hown3 hg3
                go_wp2
                go_roundw
                case rel => exact ⟨j + 1, by omega, by go_num, OO2.out, G5.out⟩
                case measure => simp [intOf]; omega
            · obtain rfl : j = m := by omega
              obtain ⟨ua, uc, rfl⟩ := row_shape OO.out
              obtain ⟨q, hq⟩ : ∃ q, q = (oth s k j).length := ⟨_, rfl⟩
              have HQ := Lib.hid hq
              rw [← hq]
              clear hq
              have g1 := own_cells O4.out k (by rw [← HM.out]; exact hlt2)
              rw [← HX.out] at g1
              have hlt4 := hlt2
              have HAL := Lib.hid (show (oth s k j).length ≤ 1000 from by have := oth_le s k j; omega)
              have HD := Lib.hid (show foundB (oth s k j) (if inn = true then s else []) x 16 false inn si fo = (decide (k = 0) && sh) from by
                have := found_oth HR.out (show k < s.length by rw [← HM.out]; exact hlt2) 16 inn si fo
                rw [← HM.out, ← HX.out] at this
                rw [this, HSH.out])
              obtain ⟨d, hd⟩ : ∃ d, d = (decide (k = 0) && sh) := ⟨_, rfl⟩
              have HDD := Lib.hid hd
              rw [← hd] at HD
              clear hd
              obtain ⟨g, hg⟩ : ∃ g, g = wr.heap.size := ⟨_, rfl⟩
              obtain ⟨OX, hOX⟩ : ∃ O, O = Obj.cells #[.int .i64 x, .int .i64 16, .bool false, .bool inn, .slice ua q uc, .slice none 0 0, .int .i64 si, .int .i64 fo] 24 := ⟨_, rfl⟩
              have HOX := Lib.hid (show (wr.alloc OX).heap[g]? = some OX from by rw [hg]; exact heap_alloc_new wr OX)
              have HFX := Lib.hid (Fr.alloc wr OX [])
              have HGS := Lib.hid (show wr.heap.size ≤ g by omega)
              rw [hOX] at HOX HFX
              clear hOX
              rw [← HQ.out] at OO
              go_upto_region 25 with fail
              rw [← hg]
              generalize wr.alloc _ = V at HOX HFX ⊢
              clear hg
              cases inn with
              | false =>
                have HDE : Hid (foundB (oth s k j) [] x 16 false false si fo = d) := by show _ = _; have := HD.out; simpa using this
                clear HD
                have HD := HDE
                clear HDE
                obtain ⟨y0, y1, y2, y3, y4, y5, y6, y7⟩ := row8 HOX.out
                have SH := Lib.hid (should_any x 16 false false (.slice ua q uc) (.slice none 0 0) si fo (oth s k j) [] V (OO.out.keep (HFX.out.trans (Fr.refl _ _))).hif HAL.out (nil_ints _) (by omega) (by omega) d HD.out.symm)
                cases d with
                | true =>
                  have HKS : Hid (k = 0 ∧ sh = true) := by
                    have := HDD.out
                    simp at this
                    exact this
                  have ek0 : ((k : Int) != 0) = false := by rw [HKS.out.1]; rfl
                  obtain rfl : NK = 0 := by rw [HNK.out, HKS.out.1]; simp [cntF]
                  have HN2 : Hid ((1 : Int) = cntF sh (k + 1)) := by show _ = _; rw [HKS.out.1, HKS.out.2]; simp [cntF]
                  go_wp2_with fail
                  with_reducible refine (SH.out).mono ?_
                  rintro e w6 ⟨rfl, hf⟩
                  have G6 := Lib.hid ((G3.out.trans (G4.out.trans HFX.out)).trans hf)
                  clear hf
                  go_wp2
                  go_roundw
                  case rel => exact ⟨k + 1, by omega, by go_num, by rw [← HN2.out], G6.out⟩
                  case measure => simp [intOf]; omega
                | false =>
                  have HN2 : Hid (NK = cntF sh (k + 1)) := by show _ = _; rw [HNK.out, cntF_next HDD.out.symm]
                  go_wp2_with fail
                  with_reducible refine (SH.out).mono ?_
                  rintro e w6 ⟨rfl, hf⟩
                  have G6 := Lib.hid ((G3.out.trans (G4.out.trans HFX.out)).trans hf)
                  clear hf
                  go_wp2
                  go_roundw
                  case rel => exact ⟨k + 1, by omega, by go_num, by rw [← HN2.out], G6.out⟩
                  case measure => simp [intOf]; omega
              | true =>
                have HDE : Hid (foundB (oth s k j) s x 16 false true si fo = d) := by show _ = _; have := HD.out; simpa using this
                clear HD
                have HD := HDE
                clear HDE
                obtain ⟨y0, y1, y2, y3, y4, y5, y6, y7⟩ := row8 HOX.out
                have z5 := frozen_of_row _ _ 5 _ _ HOX.out
                have HB5 := Lib.hid (box_ring (v := .slice (some ⟨gs, 0, none⟩) j cc) HOX.out HFX.out HGS.out)
                go_upto_region 27 with fail
                obtain ⟨W5, hW5⟩ : ∃ W, W = V.setCell ⟨g, 5, none⟩ (.slice (some ⟨gs, 0, none⟩) j cc) := ⟨_, rfl⟩
                rw [← hW5] at HB5 ⊢
                clear hW5 y0 y1 y2 y3 y4 y5 y6 y7 z5
                obtain ⟨y0, y1, y2, y3, y4, y5, y6, y7⟩ := row8 HB5.out.1
                have SH := Lib.hid (should_any x 16 false true (.slice ua q uc) (.slice (some ⟨gs, 0, none⟩) j cc) si fo (oth s k j) s W5 (OO.out.keep HB5.out.2).hif HAL.out (O4.out.keep HB5.out.2).holds (by omega) (by omega) d HD.out.symm)
                cases d with
                | true =>
                  have HKS : Hid (k = 0 ∧ sh = true) := by
                    have := HDD.out
                    simp at this
                    exact this
                  have ek0 : ((k : Int) != 0) = false := by rw [HKS.out.1]; rfl
                  obtain rfl : NK = 0 := by rw [HNK.out, HKS.out.1]; simp [cntF]
                  have HN2 : Hid ((1 : Int) = cntF sh (k + 1)) := by show _ = _; rw [HKS.out.1, HKS.out.2]; simp [cntF]
                  go_wp2_with fail
                  with_reducible refine (SH.out).mono ?_
                  rintro e w6 ⟨rfl, hf⟩
                  have G6 := Lib.hid ((G3.out.trans (G4.out.trans HB5.out.2)).trans hf)
                  clear hf
                  go_wp2
                  go_roundw
                  case rel => exact ⟨k + 1, by omega, by go_num, by rw [← HN2.out], G6.out⟩
                  case measure => simp [intOf]; omega
                | false =>
                  have HN2 : Hid (NK = cntF sh (k + 1)) := by show _ = _; rw [HNK.out, cntF_next HDD.out.symm]
                  go_wp2_with fail
                  with_reducible refine (SH.out).mono ?_
                  rintro e w6 ⟨rfl, hf⟩
                  have G6 := Lib.hid ((G3.out.trans (G4.out.trans HB5.out.2)).trans hf)
                  clear hf
                  go_wp2
                  go_roundw
                  case rel => exact ⟨k + 1, by omega, by go_num, by rw [← HN2.out], G6.out⟩
                  case measure => simp [intOf]; omega
        · obtain rfl : k = m := by omega
          have PA := Lib.hid (fun W => (show Calls Try.prog 12 #[.int .i64 16] W fun e w' => e = .returned (.int .i64 72) ∧ w' = W from patience_any 16 (by omega) W))
          have HCE := Lib.hid (cntF_end (b := sh) hpos)
          obtain ⟨NK, hNK⟩ : ∃ c, c = cntF sh k := ⟨_, rfl⟩
          rw [← hNK] at HCE ⊢
          clear hNK
          have HL72 : Hid (longB fo 16 = decide (72 < fo) ∧ longB si 16 = decide (72 < si)) := ⟨rfl, rfl⟩
          rw [HL72.out.1, HL72.out.2] at HSH
          by_cases q1 : fo > 72
          · cases inn with
            | false =>
              obtain rfl : sh = true := by rw [HSH.out]; simp; omega
              obtain rfl : NK = 1 := HCE.out
              go_wp2_with fail
              with_reducible refine (PA.out _).mono ?_
              rintro e w6 ⟨rfl, rfl⟩
              go_wp2
              go_ret
              exact ⟨rfl, F3.out.grown (by simp)⟩
            | true =>
              by_cases q2 : si > 72
              · obtain rfl : sh = true := by rw [HSH.out]; simp; omega
                obtain rfl : NK = 1 := HCE.out
                go_wp2_with fail
                with_reducible refine (PA.out _).mono ?_
                rintro e w6 ⟨rfl, rfl⟩
                go_wp2_with fail
                with_reducible refine (PA.out _).mono ?_
                rintro e w6 ⟨rfl, rfl⟩
                go_wp2
                go_ret
                exact ⟨rfl, F3.out.grown (by simp)⟩
              · obtain rfl : sh = false := by rw [HSH.out]; simp; omega
                obtain rfl : NK = 0 := HCE.out
                go_wp2_with fail
                with_reducible refine (PA.out _).mono ?_
                rintro e w6 ⟨rfl, rfl⟩
                go_wp2_with fail
                with_reducible refine (PA.out _).mono ?_
                rintro e w6 ⟨rfl, rfl⟩
                go_wp2
                go_ret
                have e7 : (!decide (72 < si)) = true := by simp; omega
                exact ⟨by show Ending.returned (Value.bool !decide (72 < si)) = _; rw [e7], F3.out.grown (by simp)⟩
          · obtain rfl : sh = false := by rw [HSH.out]; simp; omega
            obtain rfl : NK = 0 := HCE.out
            go_wp2_with fail
            with_reducible refine (PA.out _).mono ?_
            rintro e w6 ⟨rfl, rfl⟩
            go_wp2
            go_ret
            exact ⟨rfl, F3.out.grown (by simp)⟩
end Go.Proofs.Ytjjlajcpngphpaa
