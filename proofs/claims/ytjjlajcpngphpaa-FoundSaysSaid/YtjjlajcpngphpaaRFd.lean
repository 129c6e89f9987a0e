/- The document's: who would be in the ring, whether it is founded. -/
import Derived.Test.YtjjlajcpngphpaaFd3
import Derived.Test.YtjjlajcpngphpaaRSet
import Derived.Test.YtjjlajcpngphpaaDetL
namespace Go.Proofs.Ytjjlajcpngphpaa
open Go.RowKit

theorem rpatience_at (c : Int) (hc : -1099511627776 ≤ c ∧ c ≤ 1099511627776) (w : World) (n : Nat) :
    Calls Try.prog 13 #[.int .i64 c] (w.drewN n) fun e w' => e = .returned (.int .i64 (4 * c + 8)) ∧ ∃ m, w' = w.drewN m :=
  (rpatience_any c hc _).mono fun _ _ ⟨he, hw⟩ => ⟨he, n, hw⟩
theorem putS_membs (A : List Int) (c : Int) : putS (setOf A) c = membs A c := by
  unfold membs
  rw [← setS_eq, ← setS_eq, List.foldl_append]
  rfl
set_option maxHeartbeats 2000000 in
set_option maxRecDepth 100000 in
theorem rmembers_any (ca cs : Int) (ou an : Bool) (va vr : Value) (si fo : Int) (A : List Int) (w : World) (hA : HInts w va A) (hl : A.length ≤ 900) (hr : ∃ a n c, vr = .slice a n c) :
    Calls Try.prog 11 #[.agg #[.int .i64 ca, .int .i64 cs, .bool ou, .bool an, va, vr, .int .i64 si, .int .i64 fo]] w (Gives fun u w' => OwnI w' w.heap.size u (membs A ca) ∧ Fr w w' []) := by
  obtain ⟨ra, rn, rc, rfl⟩ := hr
  obtain ⟨aa, n, ac, hva⟩ := ints_sh hA
  have HA := Lib.hid hA
  clear hA
  subst hva
  obtain ⟨O, hO⟩ : ∃ O, O = Obj.cells #[.int .i64 ca, .int .i64 cs, .bool ou, .bool an, .slice aa n ac, .slice ra rn rc, .int .i64 si, .int .i64 fo] 26 := ⟨_, rfl⟩
  have HO := Lib.hid (show (w.alloc O).heap[w.heap.size]? = some O from heap_alloc_new w O)
  have HF := Lib.hid (Fr.alloc w O [])
  rw [hO] at HO HF
  clear hO
  have HLE := Lib.hid (setOf_length A)
  have SET := Lib.hid (fun W (hW : Fr w W []) => setS_any (.slice aa n ac) A W (HA.out.keep hW) (by omega))
  go_enter Try.func11, Try.ntmps11
  go_upto_region 1 with fail
  generalize w.alloc _ = V at HO HF ⊢
  obtain ⟨g, hg⟩ : ∃ g, g = w.heap.size := ⟨_, rfl⟩
  rw [← hg] at HO ⊢
  clear hg
  have HF1 := Lib.hid (HF.out.trans (Fr.drew V []))
  have hS0 := (row8 HO.out).fr (Fr.drew V [])
  go_wp2_with fail
  refine wp_region_noPanic ?_
  refine wp_region_held_drew (S := (C8 g (.int .i64 ca) (.int .i64 cs) (.bool ou) (.bool an) (.slice aa n ac) (.slice ra rn rc) (.int .i64 si) (.int .i64 fo))) (by kernel_rfl) hS0 (fun hHeld => ?_)
  refine wpAnyH_take (i := 0) (oi := _) (v := ?fv0h1n2) (by simp only [List.getElem?_toArray, List.getElem?_cons_zero]; rfl) (by kernel_rfl) (by kernel_rfl) (by kernel_rfl) (fun _ _ _ h => h) (Or.inl ⟨by rfl, ?fy0h1n2⟩) (by assumption) ?fr0h1n2
  case fy0h1n2 => (intro w hSw; (try dsimp only [C8] at hSw); go_simp; try with_reducible rfl)
  try simp only [Act.put, List.setIfInBounds_toArray, List.set_cons_zero, List.set_cons_succ]
  refine wpAnyH_take (i := 1) (oi := _) (v := ?fv1h1n2) (by simp only [List.getElem?_toArray, List.getElem?_cons_zero, List.getElem?_cons_succ]; rfl) (by kernel_rfl) (by kernel_rfl) (by kernel_rfl) (fun _ _ _ h => h) (Or.inl ⟨by rfl, ?fy1h1n2⟩) (by assumption) ?fr1h1n2
  case fy1h1n2 => (intro w hSw; (try dsimp only [C8] at hSw); go_simp; try with_reducible rfl)
  try simp only [Act.put, List.setIfInBounds_toArray, List.set_cons_zero, List.set_cons_succ]
  refine wpAnyH_take (i := 3) (oi := _) (v := ?fv3h1n2) (by simp only [List.getElem?_toArray, List.getElem?_cons_zero, List.getElem?_cons_succ]; rfl) (by kernel_rfl) (by kernel_rfl) (by kernel_rfl) (fun _ _ _ h => h) (Or.inl ⟨by rfl, ?fy3h1n2⟩) (by assumption) ?fr3h1n2
  case fy3h1n2 => (intro w hSw; (try dsimp only [C8] at hSw); go_simp; try with_reducible rfl)
  try simp only [Act.put, List.setIfInBounds_toArray, List.set_cons_zero, List.set_cons_succ]
  refine wpAnyH_take (i := 4) (oi := _) (v := ?fv4h1n2) (by simp only [List.getElem?_toArray, List.getElem?_cons_zero, List.getElem?_cons_succ]; rfl) (by kernel_rfl) (by kernel_rfl) (by kernel_rfl) (fun _ _ _ h => h) (Or.inl ⟨by rfl, ?fy4h1n2⟩) (by assumption) ?fr4h1n2
  case fy4h1n2 => (intro w hSw; (try dsimp only [C8] at hSw); go_simp; try with_reducible rfl)
  try simp only [Act.put, List.setIfInBounds_toArray, List.set_cons_zero, List.set_cons_succ]
  refine wpAnyH_ready (rs := [2]) (by kernel_rfl) (by simp) ?_
  refine AllReadyH.cons (o := _) rfl (fun K hK => ?_) AllReadyH.nil
  go_simp
  ((with_reducible refine (SET.out _ HF1.out).mono ?_); rintro e w1 ⟨u, rfl, ho, hg⟩; have HO1 := Lib.hid ho; have HF2 := Lib.hid (HF1.out.trans (Fr.of_grown hg [])); have hS := hS0.fr (Fr.of_grown hg []); clear hg ho)
  go_wp2_with fail
  refine hK.out _ _ hS (fun hHeld => ?_)
  clear hK K
  try simp only [Act.put, List.setIfInBounds_toArray, List.set_cons_zero, List.set_cons_succ]
  refine wpAnyH_ready (rs := [5]) (by kernel_rfl) (by simp) ?_
  refine AllReadyH.cons (o := _) rfl (fun K hK => ?_) AllReadyH.nil
  go_simp
  ((with_reducible refine (putS_any _ _ ca w1 HO1.out.holds HO1.out.form (by have := HLE.out; omega)).mono ?_); rintro e w2 ⟨u2, rfl, ho, hg⟩; have HO2 := Lib.hid (ho.mono HF2.out.size); have HF3 := Lib.hid (HF2.out.trans (Fr.of_grown hg [])); have hS2 := hS.fr (Fr.of_grown hg []); clear hg ho)
  go_wp2_with fail
  refine hK.out _ _ hS2 (fun hHeld => ?_)
  clear hK K
  try simp only [Act.put, List.setIfInBounds_toArray, List.set_cons_zero, List.set_cons_succ]
  refine wpAnyH_take (i := 6) (oi := _) (v := ?fv6h1n3) (by simp only [List.getElem?_toArray, List.getElem?_cons_zero, List.getElem?_cons_succ]; rfl) (by kernel_rfl) (by kernel_rfl) (by kernel_rfl) (fun _ _ _ h => h) (Or.inl ⟨by rfl, ?fy6h1n3⟩) (by assumption) ?fr6h1n3
  case fy6h1n3 => (intro w hSw; (try dsimp only [C8] at hSw); go_simp; try with_reducible rfl)
  try simp only [Act.put, List.setIfInBounds_toArray, List.set_cons_zero, List.set_cons_succ]
  refine wpAnyH_done (by kernel_rfl) ?_ _
  refine NoPanic.normal ?_
  clear hS hS0 hS2 hHeld
  go_wp2
  go_ret
  rw [putS_membs] at HO2
  exact gives ⟨HO2.out, HF3.out⟩
set_option maxHeartbeats 4000000 in
set_option maxRecDepth 100000 in
theorem rshould_any (ca cs : Int) (ou an : Bool) (va vr : Value) (si fo : Int) (A R : List Int) (w : World) (hA : HIf w va A) (hl : A.length ≤ 900) (hR : HInts w vr R) (hrl : R.length ≤ 1000) (hc : -1099511627776 ≤ cs ∧ cs ≤ 1099511627776) (hs : -9223372036854775808 ≤ si ∧ si ≤ 9223372036854775807) (hf : -9223372036854775808 ≤ fo ∧ fo ≤ 9223372036854775807) (b : Bool) (hb : b = foundB A R ca cs ou an si fo) :
    Calls Try.prog 8 #[.agg #[.int .i64 ca, .int .i64 cs, .bool ou, .bool an, va, vr, .int .i64 si, .int .i64 fo]] w fun e w' => e = .returned (.bool b) ∧ Fr w w' [] := by
  obtain ⟨ra, rn, rc, hvr⟩ := ints_sh hR
  obtain ⟨aa, n, ac, hva⟩ := hA.sh
  have HA := Lib.hid hA
  have HR := Lib.hid hR
  have HB := Lib.hid hb
  have HS := Lib.hid hs
  have HO' := Lib.hid hf
  have HLE := Lib.hid (membs_le A ca)
  have HPO := Lib.hid (membs_pos A ca)
  clear hA hR hb hs hf
  subst hva hvr
  obtain ⟨O, hO⟩ : ∃ O, O = Obj.cells #[.int .i64 ca, .int .i64 cs, .bool ou, .bool an, .slice aa n ac, .slice ra rn rc, .int .i64 si, .int .i64 fo] 26 := ⟨_, rfl⟩
  have HO := Lib.hid (show (w.alloc O).heap[w.heap.size]? = some O from heap_alloc_new w O)
  have HF := Lib.hid (Fr.alloc w O [])
  rw [hO] at HO HF
  clear hO
  obtain ⟨M, hM⟩ : ∃ M, M = membs A ca := ⟨_, rfl⟩
  have MB := Lib.hid (fun W (hW : Fr w W []) => rmembers_any ca cs ou an (.slice aa n ac) (.slice ra rn rc) si fo A W (HA.out.1.keep hW) hl ⟨_, _, _, rfl⟩)
  have HBE : Hid (b = (!ou && (decide (M.getD 0 0 = ca) && (longB fo cs && (!an || (!decide (R = M) || longB si cs)))))) := by
    show _ = _; rw [HB.out, hM]; rfl
  rw [← hM] at HLE HPO MB
  clear hM HB
  go_enter Try.func8, Try.ntmps8
  go_upto_region 1 with fail
  generalize w.alloc _ = V at HO HF ⊢
  obtain ⟨g, hg⟩ : ∃ g, g = w.heap.size := ⟨_, rfl⟩
  rw [← hg] at HO ⊢
  clear hg
  obtain ⟨y0, y1, y2, y3, y4, y5, y6, y7⟩ := row8 HO.out
  have MV := Lib.hid (MB.out V HF.out)
  clear MB
  go_wp2_with fail
  with_reducible refine (MV.out).mono ?_
  rintro e w1 ⟨u, rfl, ho, hf⟩
  have C1 := Lib.hid ((row8 HO.out).fr hf)
  have F1 := Lib.hid (HF.out.trans hf)
  have O1 := Lib.hid ho
  clear hf y0 y1 y2 y3 y4 y5 y6 y7 MV
  obtain ⟨gm, cm, hu, hc0⟩ := own_first ho HPO.out
  subst hu
  clear ho
  obtain ⟨m0, hm0⟩ : ∃ m0, m0 = M.getD 0 0 := ⟨_, rfl⟩
  rw [← hm0] at hc0 HBE
  clear hm0
  obtain ⟨ml, hml⟩ : ∃ ml, ml = M.length := ⟨_, rfl⟩
  have HML := Lib.hid hml
  have hpos := HPO.out
  have hml1 := HLE.out
  rw [← hml] at hpos hml1 ⊢
  have O2 : Hid (OwnI w1 V.heap.size (.slice (some ⟨gm, 0, none⟩) ml cm) M) := by rw [hml]; exact O1
  clear O1 hml
  obtain ⟨y0, y1, y2, y3, y4, y5, y6, y7⟩ := C1.out
  cases ou with
  | true =>
    obtain rfl : b = false := by rw [HBE.out]; rfl
    go_wp2
    go_quiet (fail)
    have HE := Lib.hid (F1.out.trans (Fr.drewN w1 nq []))
    go_wp2
    go_ret
    exact ⟨rfl, HE.out⟩
  | false =>
    by_cases h0 : m0 = ca
    · subst h0
      have e0 : (m0 != m0) = false := by simp
      obtain ⟨q, hq⟩ : ∃ q, q = longB fo cs := ⟨_, rfl⟩
      rw [← hq] at HBE
      unfold longB at hq
      have PA := Lib.hid (fun W k => rpatience_at cs hc W k)
      have SI := Lib.hid (fun W (hW : Fr w W []) (hW1 : Fr w1 W []) n d hd => sameI_at (.slice ra rn rc) R (.slice (some ⟨gm, 0, none⟩) ml cm) M W n (HR.out.keep hW) (O2.out.keep hW1).holds (by omega) d hd)
      cases q with
      | false =>
        have hd : decide (fo ≤ 4 * cs + 8) = true := by
          have := of_decide_eq_false hq.symm
          exact decide_eq_true (by omega)
        obtain rfl : b = false := by rw [HBE.out]; simp
        clear hq SI
        go_wp2
        go_quiet ((go_at_call 13; with_reducible exact PA.out _ _))
        have HE := Lib.hid (F1.out.trans (Fr.drewN w1 nq []))
        go_wp2
        go_ret
        exact ⟨rfl, HE.out⟩
      | true =>
        have hd : decide (fo ≤ 4 * cs + 8) = false := by
          have := of_decide_eq_true hq.symm
          exact decide_eq_false (by omega)
        clear hq
        go_wp2
        go_quiet ((go_at_call 13; with_reducible exact PA.out _ _))
        have HE := Lib.hid (F1.out.trans (Fr.drewN w1 nq []))
        have HN := Lib.hid (Fr.drewN w1 nq [])
        have C2 := Lib.hid (C1.out.fr HN.out)
        generalize w1.drewN nq = w2 at HE HN C2 ⊢
        clear y0 y1 y2 y3 y4 y5 y6 y7
        obtain ⟨y0, y1, y2, y3, y4, y5, y6, y7⟩ := C2.out
        cases an with
        | false =>
          obtain rfl : b = true := by rw [HBE.out]; simp
          go_wp2
          go_quiet (fail)
          have HE2 := Lib.hid (HE.out.trans (Fr.drewN w2 nq []))
          go_wp2
          go_ret
          exact ⟨rfl, HE2.out⟩
        | true =>
          obtain ⟨d, hdd⟩ : ∃ d, d = decide (R = M) := ⟨_, rfl⟩
          have SM := Lib.hid (fun n => SI.out w2 HE.out HN.out n d hdd)
          rw [← hdd] at HBE
          clear hdd SI
          cases d with
          | false =>
            obtain rfl : b = true := by rw [HBE.out]; simp
            go_wp2
            go_quiet ((go_at_call 9; with_reducible exact SM.out _))
            have HE2 := Lib.hid (HE.out.trans (Fr.drewN w2 nq []))
            go_wp2
            go_ret
            exact ⟨rfl, HE2.out⟩
          | true =>
            obtain ⟨q, hq⟩ : ∃ q, q = longB si cs := ⟨_, rfl⟩
            rw [← hq] at HBE
            have hdq : decide (4 * cs + 8 < si) = q := by rw [hq]; rfl
            obtain rfl : b = q := by rw [HBE.out]; simp
            clear hq
            go_wp2
            go_quiet ((first
              | (go_at_call 9; with_reducible exact SM.out _)
              | (go_at_call 13; with_reducible exact PA.out _ _)))
            have HE2 := Lib.hid (HE.out.trans (Fr.drewN w2 nq []))
            go_wp2
            go_ret
            exact ⟨by first | rfl | (simp only [hdq]; rfl), HE2.out⟩
    · have e0 : (m0 != ca) = true := by simp [h0]
      obtain rfl : b = false := by rw [HBE.out]; simp [h0]
      clear h0
      go_wp2
      go_quiet (fail)
      have HE := Lib.hid (F1.out.trans (Fr.drewN w1 nq []))
      go_wp2
      go_ret
      exact ⟨rfl, HE.out⟩
end Go.Proofs.Ytjjlajcpngphpaa
