/- The law of founding, told: how long is waited, who the members would be, whether a ring is founded: its walk. -/
import Derived.Test.YtjjlajcpngphpaaFd4
import Derived.Test.YtjjlajcpngphpaaRFd
namespace Go.Proofs.Ytjjlajcpngphpaa
open Go.RowKit

/-- Both cases in their boxes. -/
def SCc (g k : Nat) (ca cs : Int) (ou an : Bool) (va vr : Value) (si fo : Int) (a : World) : Prop :=
  C8 g (.int .i64 ca) (.int .i64 cs) (.bool ou) (.bool an) va vr (.int .i64 si) (.int .i64 fo) a ∧ C8 k (.int .i64 ca) (.int .i64 cs) (.bool ou) (.bool an) va vr (.int .i64 si) (.int .i64 fo) a
theorem SCc.fr {g k : Nat} {ca cs : Int} {ou an : Bool} {va vr : Value} {si fo : Int} {a a' : World} (h : SCc g k ca cs ou an va vr si fo a) (hf : Fr a a' []) : SCc g k ca cs ou an va vr si fo a' := ⟨h.1.fr hf, h.2.fr hf⟩

set_option maxHeartbeats 4000000 in
set_option maxRecDepth 100000 in
theorem fosays_walk (ca cs : Int) (ou an : Bool) (va vr : Value) (si fo : Int) (A R : List Int) (w : World) (hA : HIf w va A) (hR : HInts w vr R) (hs : -9223372036854775808 ≤ si ∧ si ≤ 9223372036854775807) (hf : -9223372036854775808 ≤ fo ∧ fo ≤ 9223372036854775807) :
    Calls Try.prog 3 #[.agg #[.int .i64 ca, .int .i64 cs, .bool ou, .bool an, va, vr, .int .i64 si, .int .i64 fo]] w fun e w' => e = .returned (.bool true) ∧ w.grownBy w' none := by
  have HA := Lib.hid hA
  have HR := Lib.hid hR
  obtain ⟨⟨aa, ac, rfl, pa, qa, _⟩, _⟩ := hA
  obtain ⟨ra, rc, rfl, pr, qr, _⟩ := hR
  unfold maxLen at qa qr
  obtain ⟨n, hn⟩ : ∃ n, n = A.length := ⟨_, rfl⟩
  obtain ⟨m, hm⟩ : ∃ m, m = R.length := ⟨_, rfl⟩
  have HN := Lib.hid hn
  have HM := Lib.hid hm
  have hn1 : n ≤ 9223372036854775807 := by omega
  have hm1 : m ≤ 9223372036854775807 := by omega
  have HS := Lib.hid hs
  have HFO := Lib.hid hf
  rw [← hn] at HA ⊢
  rw [← hm] at HR ⊢
  clear hn hm hs hf qa qr pa pr
  obtain ⟨O, hO⟩ : ∃ O, O = Obj.cells #[.int .i64 ca, .int .i64 cs, .bool ou, .bool an, .slice aa n ac, .slice ra m rc, .int .i64 si, .int .i64 fo] 24 := ⟨_, rfl⟩
  have HO := Lib.hid (show (w.alloc O).heap[w.heap.size]? = some O from heap_alloc_new w O)
  have HF := Lib.hid (Fr.alloc w O [])
  rw [hO] at HO HF
  clear hO
  have FI := Lib.hid (fun W => fofirst_any W)
  go_enter Try.func3, Try.ntmps3
  go_upto_region 1 with fail
  generalize w.alloc _ = V at HO HF ⊢
  obtain ⟨g, hg⟩ : ∃ g, g = w.heap.size := ⟨_, rfl⟩
  rw [← hg] at HO ⊢
  clear hg
  go_wp2_with fail
  with_reducible refine (FI.out _).mono ?_
  rintro e w1 ⟨rfl, hf⟩
  have HO1 := Lib.hid (hf.heap HO.out (by simp))
  have HF1 := Lib.hid (HF.out.trans hf)
  clear hf HO HF FI
  obtain ⟨y0, y1, y2, y3, y4, y5, y6, y7⟩ := row8 HO1.out
  by_cases c1 : n ≤ 20
  · by_cases c2 : m ≤ 20
    · by_cases c3 : cs ≤ 1099511627776
      · by_cases c4 : -1099511627776 ≤ cs
        · have hA20 := HN.out
          have hR20 := HM.out
          have SH := Lib.hid (fun W (hW : Fr w W []) => should_any ca cs ou an (.slice aa n ac) (.slice ra m rc) si fo A R W (HA.out.keep hW) (by omega) (HR.out.keep hW) HS.out HFO.out _ rfl)
          have RSH := Lib.hid (fun W (hW : Fr w W []) => rshould_any ca cs ou an (.slice aa n ac) (.slice ra m rc) si fo A R W (HA.out.keep hW) (by omega) (HR.out.keep hW) (by omega) ⟨c4, c3⟩ HS.out HFO.out _ rfl)
          have ME := Lib.hid (fun W (hW : Fr w W []) => members_any ca cs ou an (.slice aa n ac) (.slice ra m rc) si fo A W (HA.out.keep hW) (by omega) ⟨_, _, _, rfl⟩)
          have RME := Lib.hid (fun W (hW : Fr w W []) => rmembers_any ca cs ou an (.slice aa n ac) (.slice ra m rc) si fo A W (HA.out.keep hW).1 (by omega) ⟨_, _, _, rfl⟩)
          have PA := Lib.hid (fun W => patience_any cs ⟨c4, c3⟩ W)
          have RPA := Lib.hid (fun W => rpatience_any cs ⟨c4, c3⟩ W)
          have HML := Lib.hid (show (membs A ca).length ≤ 1000 from by have := membs_le A ca; omega)
          generalize foundB A R ca cs ou an si fo = b at SH RSH
          generalize membs A ca = M at ME RME HML
          have ebb : (b == b) = true := by simp
          have epp : (4 * cs + 8 == 4 * cs + 8) = true := by simp
          clear hA20 hR20
          obtain ⟨O2, hO2⟩ : ∃ O, O = Obj.cells #[.int .i64 ca, .int .i64 cs, .bool ou, .bool an, .slice aa n ac, .slice ra m rc, .int .i64 si, .int .i64 fo] 26 := ⟨_, rfl⟩
          have HO2 := Lib.hid (show (w1.alloc O2).heap[w1.heap.size]? = some O2 from heap_alloc_new w1 O2)
          have HG2 := Lib.hid (Fr.alloc w1 O2 [])
          rw [hO2] at HO2 HG2
          clear hO2
          go_upto_region 7 with fail
          generalize w1.alloc _ = W at HO2 HG2 ⊢
          obtain ⟨k, hk⟩ : ∃ k, k = w1.heap.size := ⟨_, rfl⟩
          rw [← hk] at HO2 ⊢
          clear hk y0 y1 y2 y3 y4 y5 y6 y7
          have HS0 := Lib.hid (show SCc g k ca cs ou an (.slice aa n ac) (.slice ra m rc) si fo W.drew from SCc.fr ⟨row8 (HG2.out.heap HO1.out (by simp)), row8 HO2.out⟩ (Fr.drew W []))
          have HV := Lib.hid ((HF1.out.trans HG2.out).trans (Fr.drew W []))
          clear HF1 HG2 HO1 HO2
          have hS0 := HS0.out
          go_wp2_with fail
          refine wp_region_noPanic ?_
          refine wp_region_held_drew (S := (SCc g k ca cs ou an (.slice aa n ac) (.slice ra m rc) si fo)) (by kernel_rfl) hS0 (fun hHeld => ?_)
          clear hS0
          refine wpAnyH_take (i := 0) (oi := _) (v := ?fv0h1n2) (by simp only [List.getElem?_toArray, List.getElem?_cons_zero]; rfl) (by kernel_rfl) (by kernel_rfl) (by kernel_rfl) (fun _ _ _ h => h) (Or.inl ⟨by rfl, ?fy0h1n2⟩) (by assumption) ?fr0h1n2
          case fy0h1n2 => (intro w hSw; (try dsimp only [SCc, C8] at hSw); go_simp; try with_reducible rfl)
          try simp only [Act.put, List.setIfInBounds_toArray, List.set_cons_zero, List.set_cons_succ]
          refine wpAnyH_take (i := 1) (oi := _) (v := ?fv1h1n2) (by simp only [List.getElem?_toArray, List.getElem?_cons_zero, List.getElem?_cons_succ]; rfl) (by kernel_rfl) (by kernel_rfl) (by kernel_rfl) (fun _ _ _ h => h) (Or.inl ⟨by rfl, ?fy1h1n2⟩) (by assumption) ?fr1h1n2
          case fy1h1n2 => (intro w hSw; (try dsimp only [SCc, C8] at hSw); go_simp; try with_reducible rfl)
          try simp only [Act.put, List.setIfInBounds_toArray, List.set_cons_zero, List.set_cons_succ]
          refine wpAnyH_take (i := 2) (oi := _) (v := ?fv2h1n2) (by simp only [List.getElem?_toArray, List.getElem?_cons_zero, List.getElem?_cons_succ]; rfl) (by kernel_rfl) (by kernel_rfl) (by kernel_rfl) (fun _ _ _ h => h) (Or.inl ⟨by rfl, ?fy2h1n2⟩) (by assumption) ?fr2h1n2
          case fy2h1n2 => (intro w hSw; (try dsimp only [SCc, C8] at hSw); go_simp; try with_reducible rfl)
          try simp only [Act.put, List.setIfInBounds_toArray, List.set_cons_zero, List.set_cons_succ]
          refine wpAnyH_take (i := 4) (oi := _) (v := ?fv4h1n2) (by simp only [List.getElem?_toArray, List.getElem?_cons_zero, List.getElem?_cons_succ]; rfl) (by kernel_rfl) (by kernel_rfl) (by kernel_rfl) (fun _ _ _ h => h) (Or.inl ⟨by rfl, ?fy4h1n2⟩) (by assumption) ?fr4h1n2
          case fy4h1n2 => (intro w hSw; (try dsimp only [SCc, C8] at hSw); go_simp; try with_reducible rfl)
          try simp only [Act.put, List.setIfInBounds_toArray, List.set_cons_zero, List.set_cons_succ]
          refine wpAnyH_ready (rs := [3]) (by kernel_rfl) (by simp) ?_
          refine AllReadyH.cons (o := _) rfl (fun K hK => ?_) AllReadyH.nil
          go_simp
          ((with_reducible refine (SH.out _ HV.out).mono ?_); rintro e v1 ⟨rfl, hf⟩; have HV1 := Lib.hid (HV.out.trans hf); have HS1 := Lib.hid (HS0.out.fr hf); have hS := HS1.out; clear hf)
          go_wp2_with fail
          refine hK.out _ _ hS (fun hHeld => ?_)
          clear hK K
          try simp only [Act.put, List.setIfInBounds_toArray, List.set_cons_zero, List.set_cons_succ]
          clear hS
          refine wpAnyH_ready (rs := [5]) (by kernel_rfl) (by simp) ?_
          refine AllReadyH.cons (o := _) rfl (fun K hK => ?_) AllReadyH.nil
          go_simp
          ((with_reducible refine (RSH.out _ HV1.out).mono ?_); rintro e v2 ⟨rfl, hf⟩; have HV2 := Lib.hid (HV1.out.trans hf); have HS2 := Lib.hid (HS1.out.fr hf); have hS := HS2.out; clear hf)
          go_wp2_with fail
          refine hK.out _ _ hS (fun hHeld => ?_)
          clear hK K
          try simp only [Act.put, List.setIfInBounds_toArray, List.set_cons_zero, List.set_cons_succ]
          clear hS
          refine wpAnyH_take (i := 6) (oi := _) (v := ?fv6h1n3) (by simp only [List.getElem?_toArray, List.getElem?_cons_zero, List.getElem?_cons_succ]; rfl) (by kernel_rfl) (by kernel_rfl) (by kernel_rfl) (fun _ _ _ h => h) (Or.inl ⟨by rfl, ?fy6h1n3⟩) (by assumption) ?fr6h1n3
          case fy6h1n3 => (intro w hSw; (try dsimp only [SCc, C8] at hSw); go_simp; try with_reducible rfl)
          try simp only [Act.put, List.setIfInBounds_toArray, List.set_cons_zero, List.set_cons_succ]
          refine wpAnyH_take (i := 7) (oi := _) (v := ?fv7h1n3) (by simp only [List.getElem?_toArray, List.getElem?_cons_zero, List.getElem?_cons_succ]; rfl) (by kernel_rfl) (by kernel_rfl) (by kernel_rfl) (fun _ _ _ h => h) (Or.inl ⟨by rfl, ?fy7h1n3⟩) (by assumption) ?fr7h1n3
          case fy7h1n3 => (intro w hSw; (try dsimp only [SCc, C8] at hSw); go_simp; try with_reducible rfl)
          try simp only [Act.put, List.setIfInBounds_toArray, List.set_cons_zero, List.set_cons_succ]
          refine wpAnyH_take (i := 8) (oi := _) (v := ?fv8h1n3) (by simp only [List.getElem?_toArray, List.getElem?_cons_zero, List.getElem?_cons_succ]; rfl) (by kernel_rfl) (by kernel_rfl) (by kernel_rfl) (fun _ _ _ h => h) (Or.inl ⟨by rfl, ?fy8h1n3⟩) (by assumption) ?fr8h1n3
          case fy8h1n3 => (intro w hSw; (try dsimp only [SCc, C8] at hSw); go_simp; try with_reducible rfl)
          try simp only [Act.put, List.setIfInBounds_toArray, List.set_cons_zero, List.set_cons_succ]
          refine wpAnyH_take (i := 9) (oi := _) (v := ?fv9h1n3) (by simp only [List.getElem?_toArray, List.getElem?_cons_zero, List.getElem?_cons_succ]; rfl) (by kernel_rfl) (by kernel_rfl) (by kernel_rfl) (fun _ _ _ h => h) (Or.inl ⟨by rfl, ?fy9h1n3⟩) (by assumption) ?fr9h1n3
          case fy9h1n3 => (intro w hSw; (try dsimp only [SCc, C8] at hSw); go_simp; try with_reducible rfl)
          try simp only [Act.put, List.setIfInBounds_toArray, List.set_cons_zero, List.set_cons_succ]
          refine wpAnyH_take (i := 11) (oi := _) (v := ?fv11h1n3) (by simp only [List.getElem?_toArray, List.getElem?_cons_zero, List.getElem?_cons_succ]; rfl) (by kernel_rfl) (by kernel_rfl) (by kernel_rfl) (fun _ _ _ h => h) (Or.inl ⟨by rfl, ?fy11h1n3⟩) (by assumption) ?fr11h1n3
          case fy11h1n3 => (intro w hSw; (try dsimp only [SCc, C8] at hSw); go_simp; try with_reducible rfl)
          try simp only [Act.put, List.setIfInBounds_toArray, List.set_cons_zero, List.set_cons_succ]
          refine wpAnyH_ready (rs := [10]) (by kernel_rfl) (by simp) ?_
          refine AllReadyH.cons (o := _) rfl (fun K hK => ?_) AllReadyH.nil
          go_simp
          ((with_reducible refine (ME.out _ HV2.out).mono ?_); rintro e v3 ⟨u3, rfl, ho, hf⟩; have K3 := Lib.hid ho; have HV3 := Lib.hid (HV2.out.trans hf); have HS3 := Lib.hid (HS2.out.fr hf); have hS := HS3.out; clear hf ho)
          go_wp2_with fail
          refine hK.out _ _ hS (fun hHeld => ?_)
          clear hK K
          try simp only [Act.put, List.setIfInBounds_toArray, List.set_cons_zero, List.set_cons_succ]
          clear hS
          refine wpAnyH_ready (rs := [12]) (by kernel_rfl) (by simp) ?_
          refine AllReadyH.cons (o := _) rfl (fun K hK => ?_) AllReadyH.nil
          go_simp
          ((with_reducible refine (RME.out _ HV3.out).mono ?_); rintro e v4 ⟨u4, rfl, ho, hf⟩; have K4 := Lib.hid ho; have HV4 := Lib.hid (HV3.out.trans hf); have HS4 := Lib.hid (HS3.out.fr hf); have HF4 := Lib.hid hf; have hS := HS4.out; clear hf ho)
          go_wp2_with fail
          refine hK.out _ _ hS (fun hHeld => ?_)
          clear hK K
          try simp only [Act.put, List.setIfInBounds_toArray, List.set_cons_zero, List.set_cons_succ]
          clear hS
          refine wpAnyH_ready (rs := [13]) (by kernel_rfl) (by simp) ?_
          refine AllReadyH.cons (o := _) rfl (fun K hK => ?_) AllReadyH.nil
          go_simp
          ((with_reducible refine (sameI_quiet _ M _ M _ (K3.out.keep HF4.out).holds K4.out.holds (by have := HML.out; omega) true (by simp)).mono ?_); rintro e v5 ⟨rfl, q5, hq5⟩; have hf : Fr v4 v5 [] := hq5 ▸ Fr.drewN v4 q5 []; have HV5 := Lib.hid (HV4.out.trans hf); have HS5 := Lib.hid (HS4.out.fr hf); have hS := HS5.out; clear hf hq5)
          go_wp2_with fail
          refine hK.out _ _ hS (fun hHeld => ?_)
          clear hK K
          try simp only [Act.put, List.setIfInBounds_toArray, List.set_cons_zero, List.set_cons_succ]
          clear hS
          refine wpAnyH_take (i := 14) (oi := _) (v := ?fv14h1n4) (by simp only [List.getElem?_toArray, List.getElem?_cons_zero, List.getElem?_cons_succ]; rfl) (by kernel_rfl) (by kernel_rfl) (by kernel_rfl) (fun _ _ _ h => h) (Or.inl ⟨by rfl, ?fy14h1n4⟩) (by assumption) ?fr14h1n4
          case fy14h1n4 => (intro w hSw; (try dsimp only [SCc, C8] at hSw); go_simp; try with_reducible rfl)
          try simp only [Act.put, List.setIfInBounds_toArray, List.set_cons_zero, List.set_cons_succ]
          refine wpAnyH_take (i := 15) (oi := _) (v := ?fv15h1n4) (by simp only [List.getElem?_toArray, List.getElem?_cons_zero, List.getElem?_cons_succ]; rfl) (by kernel_rfl) (by kernel_rfl) (by kernel_rfl) (fun _ _ _ h => h) (Or.inl ⟨by rfl, ?fy15h1n4⟩) (by assumption) ?fr15h1n4
          case fy15h1n4 => (intro w hSw; (try dsimp only [SCc, C8] at hSw); go_simp; try with_reducible rfl)
          try simp only [Act.put, List.setIfInBounds_toArray, List.set_cons_zero, List.set_cons_succ]
          refine wpAnyH_take (i := 16) (oi := _) (v := ?fv16h1n4) (by simp only [List.getElem?_toArray, List.getElem?_cons_zero, List.getElem?_cons_succ]; rfl) (by kernel_rfl) (by kernel_rfl) (by kernel_rfl) (fun _ _ _ h => h) (Or.inl ⟨by rfl, ?fy16h1n4⟩) (by assumption) ?fr16h1n4
          case fy16h1n4 => (intro w hSw; (try dsimp only [SCc, C8] at hSw); go_simp; try with_reducible rfl)
          try simp only [Act.put, List.setIfInBounds_toArray, List.set_cons_zero, List.set_cons_succ]
          refine wpAnyH_take (i := 17) (oi := _) (v := ?fv17h1n4) (by simp only [List.getElem?_toArray, List.getElem?_cons_zero, List.getElem?_cons_succ]; rfl) (by kernel_rfl) (by kernel_rfl) (by kernel_rfl) (fun _ _ _ h => h) (Or.inl ⟨by rfl, ?fy17h1n4⟩) (by assumption) ?fr17h1n4
          case fy17h1n4 => (intro w hSw; (try dsimp only [SCc, C8] at hSw); go_simp; try with_reducible rfl)
          try simp only [Act.put, List.setIfInBounds_toArray, List.set_cons_zero, List.set_cons_succ]
          refine wpAnyH_take (i := 19) (oi := _) (v := ?fv19h1n4) (by simp only [List.getElem?_toArray, List.getElem?_cons_zero, List.getElem?_cons_succ]; rfl) (by kernel_rfl) (by kernel_rfl) (by kernel_rfl) (fun _ _ _ h => h) (Or.inl ⟨by rfl, ?fy19h1n4⟩) (by assumption) ?fr19h1n4
          case fy19h1n4 => (intro w hSw; (try dsimp only [SCc, C8] at hSw); go_simp; try with_reducible rfl)
          try simp only [Act.put, List.setIfInBounds_toArray, List.set_cons_zero, List.set_cons_succ]
          refine wpAnyH_take (i := 20) (oi := _) (v := ?fv20h1n4) (by simp only [List.getElem?_toArray, List.getElem?_cons_zero, List.getElem?_cons_succ]; rfl) (by kernel_rfl) (by kernel_rfl) (by kernel_rfl) (fun _ _ _ h => h) (Or.inl ⟨by rfl, ?fy20h1n4⟩) (by assumption) ?fr20h1n4
          case fy20h1n4 => (intro w hSw; (try dsimp only [SCc, C8] at hSw); go_simp; try with_reducible rfl)
          try simp only [Act.put, List.setIfInBounds_toArray, List.set_cons_zero, List.set_cons_succ]
          refine wpAnyH_ready (rs := [18]) (by kernel_rfl) (by simp) ?_
          refine AllReadyH.cons (o := _) rfl (fun K hK => ?_) AllReadyH.nil
          go_simp
          ((with_reducible refine (PA.out _).mono ?_); rintro e v6 ⟨rfl, hw6⟩; obtain rfl : v5 = v6 := hw6.symm; clear hw6; have hS := HS5.out)
          go_wp2_with fail
          refine hK.out _ _ hS (fun hHeld => ?_)
          clear hK K
          try simp only [Act.put, List.setIfInBounds_toArray, List.set_cons_zero, List.set_cons_succ]
          clear hS
          refine wpAnyH_ready (rs := [21]) (by kernel_rfl) (by simp) ?_
          refine AllReadyH.cons (o := _) rfl (fun K hK => ?_) AllReadyH.nil
          go_simp
          ((with_reducible refine (RPA.out _).mono ?_); rintro e v7 ⟨rfl, hw7⟩; obtain rfl : v5 = v7 := hw7.symm; clear hw7; have hS := HS5.out)
          go_wp2_with fail
          refine hK.out _ _ hS (fun hHeld => ?_)
          clear hK K
          try simp only [Act.put, List.setIfInBounds_toArray, List.set_cons_zero, List.set_cons_succ]
          clear hS
          refine wpAnyH_take (i := 22) (oi := _) (v := ?fv22h1n5) (by simp only [List.getElem?_toArray, List.getElem?_cons_zero, List.getElem?_cons_succ]; rfl) (by kernel_rfl) (by kernel_rfl) (by kernel_rfl) (fun _ _ _ h => h) (Or.inl ⟨by rfl, ?fy22h1n5⟩) (by assumption) ?fr22h1n5
          case fy22h1n5 => (intro w hSw; (try dsimp only [SCc, C8] at hSw); go_simp; try with_reducible rfl)
          try simp only [Act.put, List.setIfInBounds_toArray, List.set_cons_zero, List.set_cons_succ]
          refine wpAnyH_take (i := 23) (oi := _) (v := ?fv23h1n5) (by simp only [List.getElem?_toArray, List.getElem?_cons_zero, List.getElem?_cons_succ]; rfl) (by kernel_rfl) (by kernel_rfl) (by kernel_rfl) (fun _ _ _ h => h) (Or.inl ⟨by rfl, ?fy23h1n5⟩) (by assumption) ?fr23h1n5
          case fy23h1n5 => (intro w hSw; (try dsimp only [SCc, C8] at hSw); go_simp; try with_reducible rfl)
          try simp only [Act.put, List.setIfInBounds_toArray, List.set_cons_zero, List.set_cons_succ]
          refine wpAnyH_take (i := 24) (oi := _) (v := ?fv24h1n5) (by simp only [List.getElem?_toArray, List.getElem?_cons_zero, List.getElem?_cons_succ]; rfl) (by kernel_rfl) (by kernel_rfl) (by kernel_rfl) (fun _ _ _ h => h) (Or.inl ⟨by rfl, ?fy24h1n5⟩) (by assumption) ?fr24h1n5
          case fy24h1n5 => (intro w hSw; (try dsimp only [SCc, C8] at hSw); go_simp; try with_reducible rfl)
          try simp only [Act.put, List.setIfInBounds_toArray, List.set_cons_zero, List.set_cons_succ]
          refine wpAnyH_done (by kernel_rfl) ?_ _
          refine NoPanic.normal ?_
          clear hHeld
          go_wp2
          go_ret
          exact ⟨rfl, HV5.out.grown (by simp)⟩
        · have c5 : cs < -1099511627776 := by omega
          go_wp2
          go_ret
          exact ⟨rfl, HF1.out.grown (by simp)⟩
      · have c5 : cs > 1099511627776 := by omega
        go_wp2
        go_ret
        exact ⟨rfl, HF1.out.grown (by simp)⟩
    · have c5 : (m : Int) > 20 := by omega
      go_wp2
      go_ret
      exact ⟨rfl, HF1.out.grown (by simp)⟩
  · have c5 : (n : Int) > 20 := by omega
    go_wp2
    go_ret
    exact ⟨rfl, HF1.out.grown (by simp)⟩
end Go.Proofs.Ytjjlajcpngphpaa
