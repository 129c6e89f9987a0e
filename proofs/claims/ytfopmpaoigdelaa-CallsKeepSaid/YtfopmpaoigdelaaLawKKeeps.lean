/- CallsKeep: what is kept is among what was there and what is named; what is handed out is nobody's. -/
import Derived.Test.YtfopmpaoigdelaaKFirst
import Derived.Test.YtfopmpaoigdelaaKHas
namespace Go.Proofs.Ytfopmpaoigdelaa
open Go.RowKit

theorem laC_setg (L : List La) (i : Nat) (z : Int) (hi : i < L.length) : laC (L.set i ⟨(L.getD i zLa).f, (L.getD i zLa).d, z⟩) = (laC L).set (i * 3 + 2) (.int .i64 z) := by
  induction L generalizing i with
  | nil => simp at hi
  | cons y L ih =>
    cases i with
    | zero => simp [laC_cons]
    | succ i =>
      rw [List.set_cons_succ, laC_cons, laC_cons, List.getD_cons_succ, ih i (by simpa using hi), show (i + 1) * 3 = i * 3 + 1 + 1 + 1 by omega]
      rfl
theorem own_setg {w : World} {B g c i : Nat} {L : List La} (h : OwnL w B (.slice (some ⟨g, 0, none⟩) L.length c) L) (hi : i < L.length) (z : Int) :
    ∃ L', L'.length = L.length ∧ OwnL (w.setCell ⟨g, i * 3 + 2, none⟩ (.int .i64 z)) B (.slice (some ⟨g, 0, none⟩) L.length c) L' := by
  obtain ⟨cs, hg, hB, hnc, hcm, hsz, htk⟩ := row_at h
  refine ⟨L.set i ⟨(L.getD i zLa).f, (L.getD i zLa).d, z⟩, by simp, by rw [laC_len], .inr ⟨g, c, _, by rw [List.length_set], hB, heap_setCell_same w g (i * 3 + 2) _ _ (.int .i64 z) hg, by rw [List.length_set]; exact hnc, hcm, by simpa using hsz, ?_⟩⟩
  rw [laC_setg L i z hi, ← htk]
  simp only [Array.toList_setIfInBounds, List.length_set]
  simp only [List.take_set]
/-- How many of the first k are named. -/
def cntK (L K : List La) (k : Nat) : Nat := ((L.take k).filter fun x => decide (x ∈ K)).length
theorem cntK_succ (L K : List La) (k : Nat) (hk : k < L.length) : cntK L K (k + 1) = cntK L K k + (if L.getD k zLa ∈ K then 1 else 0) := by
  unfold cntK
  rw [la_snoc L k hk, List.filter_append, List.length_append]
  obtain ⟨x, hx⟩ : ∃ x, x = L.getD k zLa := ⟨_, rfl⟩
  rw [← hx]
  by_cases h : x ∈ K <;> simp [h]
theorem cntK_all (L K : List La) : cntK L K L.length = (keepL L K).length := by unfold cntK keepL; rw [List.take_length]
theorem cntK_le (L K : List La) (k : Nat) : cntK L K k ≤ L.length := by
  unfold cntK
  exact Nat.le_trans (List.length_filter_le _ _) (by rw [List.length_take]; omega)

set_option maxHeartbeats 2000000 in
set_option maxRecDepth 100000 in
theorem keeps_true (v1 : Value) (l : List La) (v2 : Value) (K : List La) (w : World) (h1 : HLs w v1 l) (h2 : HLs w v2 K) :
    Calls Try.prog 6 #[v1, v2] w fun e w' => e = .returned (.bool true) ∧ Fr w w' [] := by
  have HL2 := Lib.hid h2
  obtain ⟨va, vc, rfl, p1, m1, r1⟩ := h1
  obtain ⟨wa, wc, rfl, p2, m2, r2⟩ := h2
  unfold maxLen at m1 m2
  have HLS := Lib.hid r1
  obtain ⟨n, hn⟩ : ∃ n, n = l.length := ⟨_, rfl⟩
  obtain ⟨nk, hnk⟩ : ∃ nk, nk = K.length := ⟨_, rfl⟩
  rw [← hn] at p1 HLS ⊢
  rw [← hnk] at p2 HL2 ⊢
  clear r1 r2 hn hnk
  by_cases hs1 : n ≤ 20
  · by_cases hs2 : nk ≤ 20
    · go_enter Try.func6, Try.ntmps6
      go_wp2_with fail
      refine (first_any _).mono ?_
      rintro e w1 ⟨rfl, hf⟩
      obtain ⟨q, hq⟩ : ∃ q, q = w1.heap.size := ⟨_, rfl⟩
      have hA1 := Fr.alloc w1 (.cells #[.slice none 0 0] 29) []
      have HF2 := Lib.hid (hf.trans hA1)
      have hS1 := Ss.new w1 q
      rw [← hq] at hS1
      have HS0 := Lib.hid hS1
      have HQ := Lib.hid (show w.heap.size ≤ q from hq ▸ hf.size)
      have HQE := Lib.hid hq
      clear hf hA1 hS1 hq
      go_wp2
      rw [← HQE.out]
      go_loopw [7] (fun s7 wr => ∃ i : Nat, i ≤ n ∧ s7 = .int .i64 i ∧ ∃ s L, L.length ≤ i ∧ Hid (Ss wr q q s L) ∧ Hid (Fr w wr [])) (fun i _ => n - (intOf i).toNat)
      case atStart => exact ⟨0, Nat.zero_le _, rfl, _, [], Nat.le_refl _, HS0.out, HF2.out⟩
      case round =>
        clear HS0 HF2
        obtain ⟨i, hi, rfl, s, L, hL, HS, HF⟩ := hrel
        by_cases hlt : i < n
        · obtain ⟨bk, off, rfl, hc⟩ := HLS.out (by omega)
          obtain ⟨x, hx⟩ : ∃ x, x = l.getD i zLa := ⟨_, rfl⟩
          have hc1 := hc i hlt
          rw [← hx] at hc1
          have x0 := HF.out.cell hc1.1 (by simp)
          have x1 := HF.out.cell hc1.2.1 (by simp)
          have x2 := HF.out.cell hc1.2.2 (by simp)
          have HP1 := Lib.hid (putS_any q q s L x wr HS.out (Nat.le_of_lt HS.out.lt) (by omega) _ rfl)
          have HPL := Lib.hid (put_le L HS.out.2.2 x)
          clear hx hc hc1
          go_wp2_with fail
          refine HP1.out.mono ?_
          rintro e w3 ⟨rfl, s', hs, hf, _⟩
          have HS' := Lib.hid hs
          have HF3 := Lib.hid (HF.out.new hf (fun r hr => Nat.le_trans HQ.out (sbs_new HS.out (Nat.le_refl q) (Nat.le_refl q) r hr)))
          clear hs hf
          go_wp2
          go_roundw
          case rel => exact ⟨i + 1, by omega, by go_num, s', _, by have := HPL.out; omega, HS', HF3⟩
          case measure => simp [intOf]; omega
        · have hL20 : L.length ≤ 20 := by omega
          have HAL := Lib.hid (all_any q q s L wr HS.out (by omega))
          obtain ⟨N, hN⟩ : ∃ N, N = L.length := ⟨_, rfl⟩
          have HN := Lib.hid hN
          clear HLS
          go_wp2_with fail
          refine HAL.out.mono ?_
          rintro e w5 ⟨u1, rfl, hO, hF⟩
          have HU1 := Lib.hid hO
          have HF5 := Lib.hid (HF.out.trans hF)
          have HS5 := Lib.hid (HS.out.keep hF)
          have HUB := Lib.hid (show ∀ r ∈ sbs q s, u1.ownBlock ≠ some r from fun r hr e => by have := HS.out.mem r hr; have := (hO.block r e).1; omega)
          obtain ⟨a1, c1, hu⟩ := hO.shape
          rw [← hN] at hu hL20
          subst hu
          have HK := Lib.hid (keepS_any q q s L _ K w5 HS5.out (HL2.out.keep HF5.out) (Nat.le_of_lt HS5.out.lt) (by omega))
          obtain ⟨N2, hN2⟩ : ∃ N2, N2 = (keepL L K).length := ⟨_, rfl⟩
          have HN2 := Lib.hid hN2
          have h2N : N2 ≤ N := by have := keep_le L K; omega
          rw [← hN2, ← hN] at HK
          clear hO hF HAL hN HS hN2 HF
          go_wp2_with fail
          refine HK.out.mono ?_
          rintro e w6 ⟨rfl, s', hs', hf6, _⟩
          have HU1' := Lib.hid (HU1.out.fr hf6 HUB.out)
          have HF6 := Lib.hid (HF5.out.new hf6 (fun r hr => Nat.le_trans HQ.out (sbs_new HS5.out (Nat.le_refl q) (Nat.le_refl q) r hr)))
          have HS6 := Lib.hid hs'
          have HAL := Lib.hid (all_any q q s' (keepL L K) w6 hs' (by have := keep_le L K; have := HN.out; omega))
          clear hs' hf6 HK HU1 HF5 HS5
          go_wp2_with fail
          refine HAL.out.mono ?_
          rintro e w7 ⟨u2, rfl, hO, hF⟩
          have HU1 := Lib.hid (HU1'.out.keep hF)
          have HU2 := Lib.hid hO
          have HF7 := Lib.hid (HF6.out.trans hF)
          have HS7 := Lib.hid (HS6.out.keep hF)
          have HBQ := Lib.hid (show ∀ r ∈ sbs q s', r < w6.heap.size from HS6.out.mem)
          have HB1 := Lib.hid (show ∀ r, (Value.slice a1 N c1).ownBlock = some r → r < w6.heap.size from fun r e => (HU1'.out.block r e).2)
          have HW0 := Lib.hid (show w.heap.size ≤ w6.heap.size from HF6.out.size)
          obtain ⟨a2, c2, hu⟩ := hO.shape
          rw [← HN2.out] at hu
          subst hu
          obtain ⟨_, _, hx1, hn1, hn2, hr1⟩ := HU1.out.holds
          simp only [Value.slice.injEq] at hx1
          obtain ⟨hxa, _hxl, hxc⟩ := hx1
          subst hxa
          subst hxc
          clear _hxl
          have HR1 := Lib.hid hr1
          rw [← HN.out] at hn1
          unfold maxLen at hn2
          have HH1 := Lib.hid HU1.out.holds
          have HH2 := Lib.hid HU2.out.holds
          obtain ⟨_, _, hx2, hn3, hn4, hr2⟩ := HU2.out.holds
          simp only [Value.slice.injEq] at hx2
          obtain ⟨hxa, _hxl, hxc⟩ := hx2
          subst hxa
          subst hxc
          clear _hxl
          rw [← HN2.out] at hn3
          unfold maxLen at hn4
          clear hO hF HAL HU1' HF6 HS6 hr1 hr2
          go_wp2
          go_loopw [11, 12] (fun s11 s12 wx => ∃ i : Nat, i ≤ N ∧ s12 = .int .i64 i ∧ ∃ cn : Nat, s11 = .int .i64 cn ∧ cn ≤ i ∧ Hid (cn = cntK L K i) ∧ Hid (Fr w7 wx [])) (fun _ i _ => N - (intOf i).toNat)
          case atStart => exact ⟨0, Nat.zero_le _, rfl, 0, rfl, Nat.le_refl _, (by simp [cntK] : 0 = cntK L K 0), (Fr.refl _ _ : Fr _ _ _)⟩
          case round =>
            obtain ⟨i, hi, rfl, cn, rfl, hcn, HC, HG⟩ := hrel
            by_cases hlt : i < N
            · obtain ⟨bk, off, rfl, hc⟩ := HR1.out (by have := HN.out; omega)
              have hiL : i < L.length := by have := HN.out; omega
              have hc1 := hc i hiL
              obtain ⟨x, hx⟩ : ∃ x, x = L.getD i zLa := ⟨_, rfl⟩
              have hsu := cntK_succ L K i hiL
              rw [← hx] at hc1 hsu
              have hin : x ∈ L := by rw [hx, List.getD_eq_getElem?_getD, List.getElem?_eq_getElem hiL]; exact List.getElem_mem _
              have hmk : (x ∈ keepL L K) = (x ∈ K) := by rw [mem_keep]; exact propext ⟨And.right, fun h => ⟨hin, h⟩⟩
              have x0 := HG.out.cell hc1.1 (by simp)
              have x1 := HG.out.cell hc1.2.1 (by simp)
              have x2 := HG.out.cell hc1.2.2 (by simp)
              have HX := Lib.hid hc1
              by_cases hK : x ∈ K
              · have HA := Lib.hid (hasLatch_any _ K x _ (HL2.out.keep (HF7.out.trans HG.out)) true (by simp [hK]))
                have HSU : Hid (cn + 1 = cntK L K (i + 1)) := by show _ = _; rw [hsu, if_pos hK, HC.out]
                have HMK := Lib.hid (show true = decide (x ∈ keepL L K) by simp [hmk, hK])
                clear hx hc hc1 hsu hin hmk hK hiL HC
                go_wp2_with fail
                with_reducible refine HA.out.mono ?_
                rintro e w8 ⟨rfl, hf⟩
                have HG2 := Lib.hid (HG.out.trans hf)
                have HA2 := Lib.hid (hasLatch_any _ (keepL L K) x _ (HH2.out.keep HG2.out) true HMK.out)
                have y0 := HG2.out.cell HX.out.1 (by simp)
                have y1 := HG2.out.cell HX.out.2.1 (by simp)
                have y2 := HG2.out.cell HX.out.2.2 (by simp)
                clear hf x0 x1 x2
                go_wp2_with fail
                with_reducible refine HA2.out.mono ?_
                rintro e w9 ⟨rfl, hf⟩
                have HG3 := Lib.hid (HG2.out.trans hf)
                clear hf y0 y1 y2
                go_wp2
                go_roundw
                case rel => exact ⟨i + 1, by omega, by go_num, cn + 1, by go_num, by omega, HSU, HG3⟩
                case measure => simp [intOf]; omega
              · have HA := Lib.hid (hasLatch_any _ K x _ (HL2.out.keep (HF7.out.trans HG.out)) false (by simp [hK]))
                have HSU : Hid (cn = cntK L K (i + 1)) := by show _ = _; rw [hsu, if_neg hK, HC.out]; rfl
                have HMK := Lib.hid (show false = decide (x ∈ keepL L K) by simp [hmk, hK])
                clear hx hc hc1 hsu hin hmk hK hiL HC
                go_wp2_with fail
                with_reducible refine HA.out.mono ?_
                rintro e w8 ⟨rfl, hf⟩
                have HG2 := Lib.hid (HG.out.trans hf)
                have HA2 := Lib.hid (hasLatch_any _ (keepL L K) x _ (HH2.out.keep HG2.out) false HMK.out)
                have y0 := HG2.out.cell HX.out.1 (by simp)
                have y1 := HG2.out.cell HX.out.2.1 (by simp)
                have y2 := HG2.out.cell HX.out.2.2 (by simp)
                clear hf x0 x1 x2
                go_wp2_with fail
                with_reducible refine HA2.out.mono ?_
                rintro e w9 ⟨rfl, hf⟩
                have HG3 := Lib.hid (HG2.out.trans hf)
                clear hf y0 y1 y2
                go_wp2
                go_roundw
                case rel => exact ⟨i + 1, by omega, by go_num, cn, rfl, by omega, HSU, HG3⟩
                case measure => simp [intOf]; omega
            · obtain rfl : N = i := by omega
              obtain rfl : N2 = cn := by rw [HC.out, HN.out, cntK_all, HN2.out]
              have HF8 := Lib.hid (HF7.out.trans HG.out)
              have HS8 := Lib.hid (HS7.out.keep HG.out)
              have HU18 := Lib.hid (HU1.out.keep HG.out)
              have HU28 := Lib.hid (HU2.out.keep HG.out)
              have HLOW : Hid (∀ r ∈ (Value.ownBlock (.slice a2 N2 c2)).toList, w6.heap.size ≤ r) := fun r hr => (HU2.out.block r (by simpa using hr)).1
              clear HF7 HS7 HU1 HU2 HG HC HR1 HH1 HH2 hcn
              go_wp2
              go_loopw [14] (fun s14 wx => ∃ i : Nat, i ≤ N2 ∧ s14 = .int .i64 i ∧ Hid (∃ M' : List La, M'.length = N2 ∧ OwnL wx w6.heap.size (.slice a2 N2 c2) M') ∧ Hid (Fr wr wx (Value.ownBlock (.slice a2 N2 c2)).toList)) (fun i _ => N2 - (intOf i).toNat)
              case atStart => exact ⟨0, Nat.zero_le _, rfl, (⟨_, HN2.out.symm, HU28.out⟩ : ∃ M' : List La, M'.length = N2 ∧ _), (Fr.refl _ _ : Fr _ _ _)⟩
              case round =>
                obtain ⟨i, hi, rfl, HM, HG⟩ := hrel
                by_cases hlt : i < N2
                · obtain ⟨M', hM, hO⟩ := HM.out
                  have hO' : OwnL wr w6.heap.size (.slice a2 M'.length c2) M' := by rw [hM]; exact hO
                  obtain ⟨g, hg, hgc1, hgc2⟩ := hO'.some_of (by omega)
                  subst hg
                  obtain ⟨cs, hrow, _, _, _, _, _⟩ := row_at hO'
                  obtain ⟨_, _, k2⟩ := row3_at hO' i (by omega)
                  have z2 := frozen_of_row wr g (i * 3 + 2) _ _ hrow
                  have HM2 : Hid (∃ M' : List La, M'.length = N2 ∧ OwnL (wr.setCell ⟨g, i * 3 + 2, none⟩ (.int .i64 (-7))) w6.heap.size (.slice (some ⟨g, 0, none⟩) N2 c2) M') := by
                    obtain ⟨M2, h1, h2⟩ := own_setg hO' (i := i) (by omega) (-7)
                    rw [hM] at h1 h2
                    exact ⟨M2, h1, h2⟩
                  have HG2 := Lib.hid (HG.out.trans (Fr.setCell wr g (i * 3 + 2) (.int .i64 (-7)) (by simp [Value.ownBlock])))
                  clear hO hO' hrow HM hM hgc1
                  go_wp2
                  go_roundw
                  case rel => exact ⟨i + 1, by omega, by go_num, HM2, HG2⟩
                  case measure => simp [intOf]; omega
                · obtain rfl : N2 = i := by omega
                  have HF9 := Lib.hid (HF8.out.new HG.out (fun r hr => Nat.le_trans HW0.out (HLOW.out r hr)))
                  have HS9 := Lib.hid (HS8.out.fr HG.out (fun hm => by have := HLOW.out q hm; have := HBQ.out q (by simp [sbs]); omega) (fun r hr e => by have := HLOW.out r hr; have := HBQ.out r (by simp [sbs, e]); omega))
                  have HU19 := Lib.hid (OwnL.holds (HU18.out.fr HG.out (fun r hr e => by have := HLOW.out r hr; have := HB1.out r e; omega)))
                  have HAL := Lib.hid (all_any q q s' (keepL L K) _ HS9.out (by have := HN2.out; omega))
                  clear HM HF8 HS8 HU18 HU28 HG
                  go_wp2_with fail
                  refine HAL.out.mono ?_
                  rintro e w10 ⟨u3, rfl, hO, hF⟩
                  have HF10 := Lib.hid (HF9.out.trans hF)
                  have HS10 := Lib.hid (HS9.out.keep hF)
                  have HU1A := Lib.hid (HU19.out.keep hF)
                  obtain ⟨a3, c3, hu, hn5, hn6, hr3⟩ := hO.holds
                  rw [← HN2.out] at hu hn5 hr3
                  subst hu
                  unfold maxLen at hn6
                  have HR3 := Lib.hid hr3
                  clear hO hF HAL HF9 HS9 HU19 hr3
                  go_wp2
                  go_loopw [16] (fun s16 wx => ∃ i : Nat, i ≤ N2 ∧ s16 = .int .i64 i ∧ Hid (Fr w10 wx [])) (fun i _ => N2 - (intOf i).toNat)
                  case atStart => exact ⟨0, Nat.zero_le _, rfl, (Fr.refl _ _ : Fr _ _ _)⟩
                  case round =>
                    obtain ⟨i, hi, rfl, HG⟩ := hrel
                    by_cases hlt : i < N2
                    · obtain ⟨bk, off, rfl, hc⟩ := HR3.out (by omega)
                      have hc1 := hc i hlt
                      obtain ⟨x, hx⟩ : ∃ x, x = (keepL L K).getD i zLa := ⟨_, rfl⟩
                      rw [← hx] at hc1
                      have hin : x ∈ L := by
                        have : x ∈ keepL L K := by rw [hx, List.getD_eq_getElem?_getD, List.getElem?_eq_getElem (by have := HN2.out; omega)]; exact List.getElem_mem _
                        exact (mem_keep.1 this).1
                      have x0 := HG.out.cell hc1.1 (by simp)
                      have x1 := HG.out.cell hc1.2.1 (by simp)
                      have x2 := HG.out.cell hc1.2.2 (by simp)
                      have HA := Lib.hid (hasLatch_any _ L x _ (HU1A.out.keep HG.out) true (by simp [hin]))
                      clear hx hc hc1 hin
                      go_wp2_with fail
                      with_reducible refine HA.out.mono ?_
                      rintro e w11 ⟨rfl, hf⟩
                      have HG2 := Lib.hid (HG.out.trans hf)
                      clear hf x0 x1 x2
                      go_wp2
                      go_roundw
                      case rel => exact ⟨i + 1, by omega, by go_num, HG2⟩
                      case measure => simp [intOf]; omega
                    · obtain rfl : N2 = i := by omega
                      have HF11 := Lib.hid (HF10.out.trans HG.out)
                      have HS11 := Lib.hid (HS10.out.keep HG.out)
                      have HLN := Lib.hid (len_any _ _ _ _ _ HS11.out)
                      have HK2 := Lib.hid (keepS_any q q s' (keepL L K) (.slice none 0 0) [] _ HS11.out ⟨none, 0, rfl, Nat.le_refl _, by decide, fun h => absurd h (by simp)⟩ (Nat.le_of_lt HS11.out.lt) (by have := HN2.out; omega))
                      have hk0 : keepL (keepL L K) [] = [] := by simp [keepL]
                      rw [hk0] at HK2
                      have e0 : ((N2 : Int) - (([] : List La).length : Int)) = (N2 : Int) := by simp
                      rw [← HN2.out, e0] at HK2
                      rw [← HN2.out] at HLN
                      have hwr : IntKind.i64.wrap ((N : Int) - (N2 : Int)) = (N : Int) - (N2 : Int) := by rw [IntKind.wrap_i64]; omega
                      clear hk0 e0 HG HF10 HS10 HR3
                      go_wp2_with fail
                      refine HLN.out.mono ?_
                      rintro e w12 ⟨rfl, rfl⟩
                      go_wp2_with fail
                      refine HK2.out.mono ?_
                      rintro e w13 ⟨rfl, s3, hs3, hf3, _⟩
                      have HF13 := Lib.hid (HF11.out.new hf3 (fun r hr => Nat.le_trans HQ.out (sbs_new HS11.out (Nat.le_refl q) (Nat.le_refl q) r hr)))
                      have HL0 := Lib.hid (len_any _ _ _ _ _ hs3)
                      clear hs3 hf3
                      go_wp2_with fail
                      refine HL0.out.mono ?_
                      rintro e w14 ⟨rfl, rfl⟩
                      go_wp2
                      go_ret
                      exact ⟨rfl, HF13.out⟩
    · go_enter Try.func6, Try.ntmps6
      go_wp2_with fail
      refine (first_any _).mono ?_
      rintro e w1 ⟨rfl, hf⟩
      have HF1 := Lib.hid hf
      clear hf
      go_wp2
      go_ret
      exact ⟨rfl, HF1.out⟩
  · go_enter Try.func6, Try.ntmps6
    go_wp2_with fail
    refine (first_any _).mono ?_
    rintro e w1 ⟨rfl, hf⟩
    have HF1 := Lib.hid hf
    clear hf
    go_wp2
    go_ret
    exact ⟨rfl, HF1.out⟩
theorem kkeeps_walk (v1 : Value) (l : List La) (v2 : Value) (K : List La) (w : World) (h1 : HLs w v1 l) (h2 : HLs w v2 K) : Calls Try.prog 6 #[v1, v2] w fun e w' => e = .returned (.bool true) ∧ w.grownBy w' none :=
  (keeps_true v1 l v2 K w h1 h2).mono fun _ _ ⟨he, hf⟩ => ⟨he, hf.grown (by simp)⟩
end Go.Proofs.Ytfopmpaoigdelaa
