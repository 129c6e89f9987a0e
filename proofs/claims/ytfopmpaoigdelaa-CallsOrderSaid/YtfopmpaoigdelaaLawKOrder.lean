/- CallsOrder: what is put in whatever order comes by floors, Down ahead of Up; each call once. -/
import Derived.Test.YtfopmpaoigdelaaKFirst
import Derived.Test.YtfopmpaoigdelaaLSame
import Derived.Test.YtfopmpaoigdelaaNum
namespace Go.Proofs.Ytfopmpaoigdelaa
open Go.RowKit

/-- The latch of a call, for the third time. -/
def th (x : La) : La := ⟨x.f, x.d, 3⟩
/-- What has been put of a list, taken in the order f. -/
def Set3 (l : List La) (f : Nat → Nat) (i : Nat) (S : List La) : Prop := Sd S ∧ S.length ≤ i ∧ ∀ y, y ∈ S ↔ ∃ j, j < i ∧ y = th (l.getD (f j) zLa)
theorem Set3.nil (l : List La) (f : Nat → Nat) : Set3 l f 0 [] := ⟨Sd.nil, Nat.le_refl _, fun y => by simp⟩
theorem Set3.step {l : List La} {f : Nat → Nat} {i : Nat} {S : List La} (h : Set3 l f i S) : Set3 l f (i + 1) (putL S (th (l.getD (f i) zLa))) := by
  obtain ⟨h1, h2, h3⟩ := h
  refine ⟨h1.put _, by have := put_le S h1 (th (l.getD (f i) zLa)); omega, fun y => ?_⟩
  rw [mem_put]
  constructor
  · rintro (e | ⟨e, _⟩)
    · exact ⟨i, by omega, e⟩
    · obtain ⟨j, hj, hy⟩ := (h3 y).1 e
      exact ⟨j, by omega, hy⟩
  · rintro ⟨j, hj, hy⟩
    by_cases e : y = th (l.getD (f i) zLa)
    · exact .inl e
    · by_cases hji : j = i
      · subst hji; exact absurd hy e
      · refine .inr ⟨(h3 y).2 ⟨j, by omega, hy⟩, fun k => e ?_⟩
        obtain ⟨k1, k2⟩ := k
        rw [hy] at k1 k2 ⊢
        simp only [th, La.mk.injEq, and_true] at k1 k2 ⊢
        exact ⟨k1, k2⟩
theorem Set3.same {l : List La} {n k : Nat} {S T : List La} (hk : k ≤ n) (h : Set3 l id n S) (h' : Set3 l (fun j => (j + k) % n) n T) : S = T := by
  refine sd_unique h.1 h'.1 fun y => ?_
  rw [h.2.2, h'.2.2]
  constructor
  · rintro ⟨j, hj, hy⟩
    refine ⟨(j + (n - k)) % n, Nat.mod_lt _ (by omega), ?_⟩
    have e : ((j + (n - k)) % n + k) % n = j := by
      rw [Nat.mod_add_mod, show j + (n - k) + k = j + n by omega, Nat.add_mod_right, Nat.mod_eq_of_lt hj]
    simp only [e]
    exact hy
  · rintro ⟨j, hj, hy⟩
    exact ⟨(j + k) % n, Nat.mod_lt _ (by omega), hy⟩
/-- Two sets lie apart. -/
def Ap (s1 s2 : Value) : Prop := ∀ r, s1.ownBlock = some r → s2.ownBlock ≠ some r
theorem Ap.symm {s1 s2 : Value} (h : Ap s1 s2) : Ap s2 s1 := fun r h2 h1 => h r h1 h2
theorem Ss.other {w w' : World} {B q1 q2 : Nat} {s1 s2 : Value} {L T : List La} (h2 : Ss w B q2 s2 T) (h1 : Ss w B q1 s1 L) (hq : q1 ≠ q2) (ha : Ap s1 s2) (hf : Fr w w' (sbs q1 s1)) : Ss w' B q2 s2 T := by
  refine h2.fr hf (fun hm => ?_) (fun r hr e => ?_)
  · rcases mem_sbs.1 hm with e | e
    · exact hq e.symm
    · exact row_ne h1.2.1 h2.1 (by decide) e
  · rcases mem_sbs.1 hr with e' | e'
    · subst e'; exact row_ne h2.2.1 h1.1 (by decide) e
    · exact ha r e' e
theorem Ap.turned {w : World} {B q2 : Nat} {s1 s1' s2 : Value} {T : List La} (ha : Ap s1 s2) (h2 : Ss w B q2 s2 T) (ht : ∀ r, s1'.ownBlock = some r → s1.ownBlock = some r ∨ w.heap.size ≤ r) : Ap s1' s2 := by
  intro r hr e
  rcases ht r hr with k | k
  · exact ha r k e
  · have := (h2.own r e).2; omega
set_option maxHeartbeats 1000000 in
set_option maxRecDepth 100000 in
theorem order_true (v : Value) (l : List La) (a : Int) (hw : (Lit.int .i64 a).wf = true) (w : World) (hv : HLs w v l) :
    Calls Try.prog 5 #[v, .int .i64 a] w fun e w' => e = .returned (.bool true) ∧ Fr w w' [] := by
  obtain ⟨va, vc, rfl, p1, m1, r1⟩ := hv
  unfold maxLen at m1
  have HLS := Lib.hid r1
  obtain ⟨n, hn⟩ : ∃ n, n = l.length := ⟨_, rfl⟩
  have HN := Lib.hid hn
  rw [← hn] at p1 HLS ⊢
  clear r1 hn
  by_cases hsmall : n ≤ 30
  · obtain ⟨k, hkn, hkm, hnum⟩ := numberTo_nat a (n + 1) (by omega) (by omega) hw
    have HNUM := Lib.hid hnum
    have hadd : ((n : Int) + 1) = ((n + 1 : Nat) : Int) := by omega
    rw [← hadd] at HNUM
    clear hnum hkm hadd
    go_enter Try.func5, Try.ntmps5
    go_wp2_with fail
    refine (first_any _).mono ?_
    rintro e w1 ⟨rfl, hf⟩
    obtain ⟨q1, hq1⟩ : ∃ q1, q1 = w1.heap.size := ⟨_, rfl⟩
    have hA1 := Fr.alloc w1 (.cells #[.slice none 0 0] 29) []
    have hA2 := Fr.alloc (w1.alloc (.cells #[.slice none 0 0] 29)) (.cells #[.slice none 0 0] 29) []
    have HF2 := Lib.hid ((hf.trans hA1).trans hA2)
    have hS1 := (Ss.new w1 q1).keep hA2
    have hS2 := Ss.new (w1.alloc (.cells #[.slice none 0 0] 29)) q1
    rw [show (w1.alloc (.cells #[.slice none 0 0] 29)).heap.size = q1 + 1 by rw [hq1]; simp] at hS2
    rw [← hq1] at hS1
    have HS1 := Lib.hid hS1
    have HS2 := Lib.hid hS2
    have HQ1 := Lib.hid (show w.heap.size ≤ q1 from hq1 ▸ hf.size)
    have HQE := Lib.hid hq1
    clear hf hA1 hA2 hS1 hS2 hq1
    go_wp2_with fail
    rw [← HQE.out]
    refine (HNUM.out _).mono ?_
    rintro e w2 ⟨rfl, rfl⟩
    go_wp2
    go_loopw [9] (fun s9 wr => ∃ i : Nat, i ≤ n ∧ s9 = .int .i64 i ∧ ∃ s1 s2 S T, Hid (Ss wr q1 q1 s1 S) ∧ Hid (Ss wr q1 (q1 + 1) s2 T) ∧ Hid (Ap s1 s2) ∧ Hid (Set3 l id i S) ∧ Hid (Set3 l (fun j => (j + k) % n) i T) ∧ Hid (Fr w wr [])) (fun i _ => n - (intOf i).toNat)
    case atStart => exact ⟨0, Nat.zero_le _, rfl, _, _, [], [], HS1.out, HS2.out, (fun r hr => by simp [Value.ownBlock] at hr : Ap _ _), Set3.nil _ _, Set3.nil _ _, HF2.out⟩
    case round =>
      clear HS1 HS2 HF2
      obtain ⟨i, hi, rfl, s1, s2, S, T, HS1, HS2, HAP, H31, H32, HF⟩ := hrel
      by_cases hlt : i < n
      · obtain ⟨bk, off, rfl, hc⟩ := HLS.out (by omega)
        obtain ⟨m, hm⟩ : ∃ m, m = (i + k) % n := ⟨_, rfl⟩
        have hmn : m < n := by rw [hm]; exact Nat.mod_lt _ (by omega)
        have hrem' : ((i : Int) + (k : Int)) % (n : Int) = (m : Int) := by rw [hm, Int.natCast_emod, Int.natCast_add]
        have hrem : ((i : Int) + (k : Int)).tmod (n : Int) = (m : Int) := by
          rw [Int.tmod_eq_emod_of_nonneg (by omega), hrem']
        obtain ⟨x, hx⟩ : ∃ x, x = l.getD i zLa := ⟨_, rfl⟩
        obtain ⟨y, hy⟩ : ∃ y, y = l.getD m zLa := ⟨_, rfl⟩
        have h31 := H31.out.step
        have h32 := H32.out.step
        simp only [id] at h31
        rw [← hx] at h31
        rw [← hm, ← hy] at h32
        have H31' := Lib.hid h31
        have H32' := Lib.hid h32
        have hc1 := hc i hlt
        have hc2 := hc m hmn
        rw [← hx] at hc1
        rw [← hy] at hc2
        have x0 := HF.out.cell hc1.1 (by simp)
        have x1 := HF.out.cell hc1.2.1 (by simp)
        have HY := Lib.hid hc2
        have hB : q1 ≤ wr.heap.size := Nat.le_of_lt HS1.out.lt
        have HP1 := Lib.hid (putS_any q1 q1 s1 S (th x) wr HS1.out hB (by have := H31.out.2.1; omega) _ rfl)
        clear hx hy hc hc1 hc2 hm h31 h32 hB
        go_wp2_with fail
        refine HP1.out.mono ?_
        rintro e w3 ⟨rfl, s1', hs1, hf1, ho1⟩
        have HS1' := Lib.hid hs1
        have HS2' := Lib.hid (HS2.out.other HS1.out (by omega) HAP.out hf1)
        have HAP' := Lib.hid (HAP.out.turned HS2.out ho1)
        have HF3 := Lib.hid (HF.out.new hf1 (fun r hr => Nat.le_trans HQ1.out (sbs_new HS1.out (Nat.le_refl q1) (Nat.le_refl q1) r hr)))
        have y0 := HF3.out.cell HY.out.1 (by simp)
        have y1 := HF3.out.cell HY.out.2.1 (by simp)
        have HP2 := Lib.hid (putS_any q1 (q1 + 1) s2 T (th y) w3 HS2'.out (Nat.le_of_lt HS1'.out.lt) (by have := H32.out.2.1; omega) _ rfl)
        clear hs1 hf1 ho1 x0 x1
        go_wp2_with fail
        refine HP2.out.mono ?_
        rintro e w4 ⟨rfl, s2', hs2, hf2, ho2⟩
        have HS2'' := Lib.hid hs2
        have HS1'' := Lib.hid (HS1'.out.other HS2'.out (by omega) HAP'.out.symm hf2)
        have HAP'' := Lib.hid ((HAP'.out.symm).turned HS1'.out ho2).symm
        have HF4 := Lib.hid (HF3.out.new hf2 (fun r hr => Nat.le_trans HQ1.out (sbs_new HS2'.out (by omega) (Nat.le_refl q1) r hr)))
        clear hs2 hf2 ho2 y0 y1
        go_wp2
        go_roundw
        case rel => exact ⟨i + 1, by omega, by go_num, s1', s2', _, _, HS1'', HS2'', HAP'', H31', H32', HF4⟩
        case measure => simp [intOf]; omega
      · obtain rfl : n = i := by omega
        have HST := Lib.hid (Set3.same (by omega) H31.out H32.out)
        have HSM := Lib.hid H31.out.2.2
        have HSD := Lib.hid H31.out.1
        have hSn := H31.out.2.1
        have HAL := Lib.hid (all_any q1 q1 s1 S wr HS1.out (by omega))
        clear HAP H31 H32 HNUM
        go_wp2_with fail
        refine HAL.out.mono ?_
        rintro e w5 ⟨u, rfl, hO, hF⟩
        have HO := Lib.hid hO
        have HF5 := Lib.hid (HF.out.trans hF)
        have HS15 := Lib.hid (HS1.out.keep hF)
        have HS25 := Lib.hid (HS2.out.keep hF)
        obtain ⟨ua, uc, hu, u1, u2, ur⟩ := hO.holds
        unfold maxLen at u2
        obtain ⟨N, hN⟩ : ∃ N, N = S.length := ⟨_, rfl⟩
        have HNN := Lib.hid hN
        rw [← hN] at hu u1 ur hSn
        subst hu
        have HUR := Lib.hid ur
        clear hO hF ur hN HAL HS1 HS2 HF
        go_wp2
        go_loopw [11] (fun s11 wx => ∃ i : Nat, i ≤ N ∧ s11 = .int .i64 i ∧ Hid (Fr w5 wx [])) (fun i _ => N - (intOf i).toNat)
        case atStart => exact ⟨0, Nat.zero_le _, rfl, (Fr.refl _ _ : Fr _ _ _)⟩
        case round =>
          obtain ⟨i, hi, rfl, HG⟩ := hrel
          by_cases hlt : i < N
          · obtain ⟨bk, off, rfl, hc⟩ := HUR.out (by omega)
            have hin : S.getD i zLa ∈ S := by rw [List.getD_eq_getElem?_getD, List.getElem?_eq_getElem (by have := HNN.out; omega)]; exact List.getElem_mem _
            obtain ⟨yf, yd, hy⟩ : ∃ yf yd, (⟨yf, yd, 3⟩ : La) = S.getD i zLa := by
              obtain ⟨j, _, hj⟩ := (HSM.out _).1 hin
              exact ⟨_, _, hj.symm⟩
            have hc2 := hc i hlt
            rw [← hy] at hc2
            by_cases h0 : 0 < i
            · obtain ⟨j, hj⟩ : ∃ j, j + 1 = i := ⟨i - 1, by omega⟩
              have hji : ((i : Int) - 1) = (j : Int) := by omega
              have hwr : IntKind.i64.wrap (j : Int) = (j : Int) := by rw [IntKind.wrap_i64]; omega
              have hg : decide ((0 : Int) < (i : Int)) = true := by simp; omega
              have hjn : j < N := by omega
              obtain ⟨x, hx⟩ : ∃ x, x = S.getD j zLa := ⟨_, rfl⟩
              have hc1 := hc j (by omega)
              rw [← hx] at hc1
              have hlx : Lt2 x.f x.d yf yd := by
                have h1 := List.pairwise_iff_getElem.1 HSD.out j i (by have := HNN.out; omega) (by have := HNN.out; omega) (by omega)
                have e1 : S.getD j zLa = S[j]'(by have := HNN.out; omega) := by rw [List.getD_eq_getElem?_getD, List.getElem?_eq_getElem]; rfl
                have e2 : S.getD i zLa = S[i]'(by have := HNN.out; omega) := by rw [List.getD_eq_getElem?_getD, List.getElem?_eq_getElem]; rfl
                rw [← e1, ← e2, ← hx, ← hy] at h1
                exact h1
              have HLE := Lib.hid (fun W => less_any x.f x.d yf yd W true (by simp [hlx]))
              have HK := Lib.hid (HG.out.trans (Fr.drew wr []))
              have HSL := Lib.hid (show SL w5 bk (off + j * 3) bk (off + i * 3) x ⟨yf, yd, 3⟩ wr.drew from ⟨HK.out, ⟨HK.out.cell hc1.1 (by simp), HK.out.cell hc1.2.1 (by simp), HK.out.cell hc1.2.2 (by simp)⟩, HK.out.cell hc2.1 (by simp), HK.out.cell hc2.2.1 (by simp), HK.out.cell hc2.2.2 (by simp)⟩)
              clear hx hy hc hc1 hc2 hin hlx hj
              go_wp2
              refine wp_region_det (S := SL w5 bk (off + j * 3) bk (off + i * 3) x ⟨yf, yd, 3⟩) (by kernel_rfl) HSL.out ?_
              refine wpDet_take (i := 0) (oi := _) (v := ?dv1) (by simp only [List.getElem?_toArray, List.getElem?_cons_zero]; rfl) (by kernel_rfl) (by kernel_rfl) (by kernel_rfl) (Or.inl ⟨by rfl, ?dy1⟩) ?dr1
              case dy1 => (intro w hSw; have hS0 := hSw; (try dsimp only [SL] at hSw); go_simp; refine Came.value ?_ hS0; with_reducible rfl)
              try simp only [Act.put, List.setIfInBounds_toArray, List.set_cons_zero, List.set_cons_succ]
              refine wpDet_take (i := 1) (oi := _) (v := ?dv2) (by simp only [List.getElem?_toArray, List.getElem?_cons_zero, List.getElem?_cons_succ]; rfl) (by kernel_rfl) (by kernel_rfl) (by kernel_rfl) (Or.inl ⟨by rfl, ?dy2⟩) ?dr2
              case dy2 => (intro w hSw; have hS0 := hSw; (try dsimp only [SL] at hSw); go_simp; refine Came.value ?_ hS0; with_reducible rfl)
              try simp only [Act.put, List.setIfInBounds_toArray, List.set_cons_zero, List.set_cons_succ]
              refine wpDet_take (i := 2) (oi := _) (v := ?dv3) (by simp only [List.getElem?_toArray, List.getElem?_cons_zero, List.getElem?_cons_succ]; rfl) (by kernel_rfl) (by kernel_rfl) (by kernel_rfl) (Or.inl ⟨by rfl, ?dy3⟩) ?dr3
              case dy3 => (intro w hSw; have hS0 := hSw; (try dsimp only [SL] at hSw); go_simp; refine Came.value ?_ hS0; with_reducible rfl)
              try simp only [Act.put, List.setIfInBounds_toArray, List.set_cons_zero, List.set_cons_succ]
              refine wpDet_take (i := 3) (oi := _) (v := ?dv4) (by simp only [List.getElem?_toArray, List.getElem?_cons_zero, List.getElem?_cons_succ]; rfl) (by kernel_rfl) (by kernel_rfl) (by kernel_rfl) (Or.inl ⟨by rfl, ?dy4⟩) ?dr4
              case dy4 => (intro w hSw; have hS0 := hSw; (try dsimp only [SL] at hSw); go_simp; refine Came.value ?_ hS0; with_reducible rfl)
              try simp only [Act.put, List.setIfInBounds_toArray, List.set_cons_zero, List.set_cons_succ]
              refine wpDet_take (i := 4) (oi := _) (v := ?dv5) (by simp only [List.getElem?_toArray, List.getElem?_cons_zero, List.getElem?_cons_succ]; rfl) (by kernel_rfl) (by kernel_rfl) (by kernel_rfl) (Or.inl ⟨by rfl, ?dy5⟩) ?dr5
              case dy5 => (intro w hSw; have hS0 := hSw; (try dsimp only [SL] at hSw); go_simp; refine Came.value ?_ hS0; with_reducible rfl)
              try simp only [Act.put, List.setIfInBounds_toArray, List.set_cons_zero, List.set_cons_succ]
              refine wpDet_take (i := 5) (oi := _) (v := ?dv6) (by simp only [List.getElem?_toArray, List.getElem?_cons_zero, List.getElem?_cons_succ]; rfl) (by kernel_rfl) (by kernel_rfl) (by kernel_rfl) (Or.inl ⟨by rfl, ?dy6⟩) ?dr6
              case dy6 => (intro w hSw; have hS0 := hSw; (try dsimp only [SL] at hSw); go_simp; refine Came.value ?_ hS0; with_reducible rfl)
              try simp only [Act.put, List.setIfInBounds_toArray, List.set_cons_zero, List.set_cons_succ]
              refine wpDet_take (i := 6) (oi := _) (v := ?dv7) (by simp only [List.getElem?_toArray, List.getElem?_cons_zero, List.getElem?_cons_succ]; rfl) (by kernel_rfl) (by kernel_rfl) (by kernel_rfl) (Or.inl ⟨by rfl, ?dy7⟩) ?dr7
              case dy7 => (intro w hSw; have hS0 := hSw; (try dsimp only [SL] at hSw); go_simp; refine Came.value ?_ hS0; with_reducible rfl)
              try simp only [Act.put, List.setIfInBounds_toArray, List.set_cons_zero, List.set_cons_succ]
              refine wpDet_take (i := 7) (oi := _) (v := ?dv8) (by simp only [List.getElem?_toArray, List.getElem?_cons_zero, List.getElem?_cons_succ]; rfl) (by kernel_rfl) (by kernel_rfl) (by kernel_rfl) (Or.inl ⟨by rfl, ?dy8⟩) ?dr8
              case dy8 => (intro w hSw; have hS0 := hSw; (try dsimp only [SL] at hSw); go_simp; refine Came.value ?_ hS0; with_reducible rfl)
              try simp only [Act.put, List.setIfInBounds_toArray, List.set_cons_zero, List.set_cons_succ]
              refine wpDet_take (i := 8) (oi := _) (v := ?dv9) (by simp only [List.getElem?_toArray, List.getElem?_cons_zero, List.getElem?_cons_succ]; rfl) (by kernel_rfl) (by kernel_rfl) (by kernel_rfl) (Or.inl ⟨by rfl, ?dy9⟩) ?dr9
              case dy9 => (intro w hSw; have hS0 := hSw; (try dsimp only [SL] at hSw); go_simp; refine Came.value ?_ hS0; with_reducible rfl)
              try simp only [Act.put, List.setIfInBounds_toArray, List.set_cons_zero, List.set_cons_succ]
              refine wpDet_take (i := 9) (oi := _) (v := ?dv10) (by simp only [List.getElem?_toArray, List.getElem?_cons_zero, List.getElem?_cons_succ]; rfl) (by kernel_rfl) (by kernel_rfl) (by kernel_rfl) (Or.inl ⟨by rfl, ?dy10⟩) ?dr10
              case dy10 => (intro w hSw; have hS0 := hSw; (try dsimp only [SL] at hSw); go_simp; refine Came.value ?_ hS0; with_reducible rfl)
              try simp only [Act.put, List.setIfInBounds_toArray, List.set_cons_zero, List.set_cons_succ]
              refine wpDet_take (i := 10) (oi := _) (v := ?dv11) (by simp only [List.getElem?_toArray, List.getElem?_cons_zero, List.getElem?_cons_succ]; rfl) (by kernel_rfl) (by kernel_rfl) (by kernel_rfl) (Or.inl ⟨by rfl, ?dy11⟩) ?dr11
              case dy11 => (intro w hSw; have hS0 := hSw; (try dsimp only [SL] at hSw); go_simp; refine Came.value ?_ hS0; with_reducible rfl)
              try simp only [Act.put, List.setIfInBounds_toArray, List.set_cons_zero, List.set_cons_succ]
              refine wpDet_take (i := 11) (oi := _) (v := ?dv12) (by simp only [List.getElem?_toArray, List.getElem?_cons_zero, List.getElem?_cons_succ]; rfl) (by kernel_rfl) (by kernel_rfl) (by kernel_rfl) (Or.inl ⟨by rfl, ?dy12⟩) ?dr12
              case dy12 => (intro w hSw; have hS0 := hSw; (try dsimp only [SL] at hSw); go_simp; refine Came.value ?_ hS0; with_reducible rfl)
              try simp only [Act.put, List.setIfInBounds_toArray, List.set_cons_zero, List.set_cons_succ]
              refine wpDet_take (i := 12) (oi := _) (v := ?dv13) (by simp only [List.getElem?_toArray, List.getElem?_cons_zero, List.getElem?_cons_succ]; rfl) (by kernel_rfl) (by kernel_rfl) (by kernel_rfl) (Or.inl ⟨by rfl, ?dy13⟩) ?dr13
              case dy13 => (intro w hSw; have hS0 := hSw; (try dsimp only [SL] at hSw); go_simp; refine Came.value ?_ hS0; with_reducible rfl)
              try simp only [Act.put, List.setIfInBounds_toArray, List.set_cons_zero, List.set_cons_succ]
              refine wpDet_take (i := 13) (oi := _) (v := ?dv14) (by simp only [List.getElem?_toArray, List.getElem?_cons_zero, List.getElem?_cons_succ]; rfl) (by kernel_rfl) (by kernel_rfl) (by kernel_rfl) (Or.inl ⟨by rfl, ?dy14⟩) ?dr14
              case dy14 => (intro w hSw; have hS0 := hSw; (try dsimp only [SL] at hSw); go_simp; refine Came.value ?_ hS0; with_reducible rfl)
              try simp only [Act.put, List.setIfInBounds_toArray, List.set_cons_zero, List.set_cons_succ]
              refine wpDet_take (i := 14) (oi := _) (v := ?dv15) (by simp only [List.getElem?_toArray, List.getElem?_cons_zero, List.getElem?_cons_succ]; rfl) (by kernel_rfl) (by kernel_rfl) (by kernel_rfl) (Or.inl ⟨by rfl, ?dy15⟩) ?dr15
              case dy15 => (intro w hSw; go_simp; exact Came.call ((HLE.out w).mono fun e w' ⟨he, hf⟩ => ⟨he, hSw.fr hf⟩) (by with_reducible rfl))
              try simp only [Act.put, List.setIfInBounds_toArray, List.set_cons_zero, List.set_cons_succ]
              refine wpDet_take (i := 15) (oi := _) (v := ?dv16) (by simp only [List.getElem?_toArray, List.getElem?_cons_zero, List.getElem?_cons_succ]; rfl) (by kernel_rfl) (by kernel_rfl) (by kernel_rfl) (Or.inl ⟨by rfl, ?dy16⟩) ?dr16
              case dy16 => (intro w hSw; have hS0 := hSw; (try dsimp only [SL] at hSw); go_simp; refine Came.value ?_ hS0; with_reducible rfl)
              try simp only [Act.put, List.setIfInBounds_toArray, List.set_cons_zero, List.set_cons_succ]
              refine wpDet_take (i := 16) (oi := _) (v := ?dv17) (by simp only [List.getElem?_toArray, List.getElem?_cons_zero, List.getElem?_cons_succ]; rfl) (by kernel_rfl) (by kernel_rfl) (by kernel_rfl) (Or.inl ⟨by rfl, ?dy17⟩) ?dr17
              case dy17 => (intro w hSw; have hS0 := hSw; (try dsimp only [SL] at hSw); go_simp; refine Came.value ?_ hS0; with_reducible rfl)
              try simp only [Act.put, List.setIfInBounds_toArray, List.set_cons_zero, List.set_cons_succ]
              refine wpDet_take (i := 17) (oi := _) (v := ?dv18) (by simp only [List.getElem?_toArray, List.getElem?_cons_zero, List.getElem?_cons_succ]; rfl) (by kernel_rfl) (by kernel_rfl) (by kernel_rfl) (Or.inl ⟨by rfl, ?dy18⟩) ?dr18
              case dy18 => (intro w hSw; have hS0 := hSw; (try dsimp only [SL] at hSw); go_simp; refine Came.value ?_ hS0; with_reducible rfl)
              try simp only [Act.put, List.setIfInBounds_toArray, List.set_cons_zero, List.set_cons_succ]
              refine wpDet_take (i := 18) (oi := _) (v := ?dv19) (by simp only [List.getElem?_toArray, List.getElem?_cons_zero, List.getElem?_cons_succ]; rfl) (by kernel_rfl) (by kernel_rfl) (by kernel_rfl) (Or.inl ⟨by rfl, ?dy19⟩) ?dr19
              case dy19 => (intro w hSw; have hS0 := hSw; (try dsimp only [SL] at hSw); go_simp; refine Came.value ?_ hS0; with_reducible rfl)
              try simp only [Act.put, List.setIfInBounds_toArray, List.set_cons_zero, List.set_cons_succ]
              refine wpDet_take (i := 19) (oi := _) (v := ?dv20) (by simp only [List.getElem?_toArray, List.getElem?_cons_zero, List.getElem?_cons_succ]; rfl) (by kernel_rfl) (by kernel_rfl) (by kernel_rfl) (Or.inl ⟨by rfl, ?dy20⟩) ?dr20
              case dy20 => (intro w hSw; have hS0 := hSw; (try dsimp only [SL] at hSw); go_simp; refine Came.value ?_ hS0; with_reducible rfl)
              try simp only [Act.put, List.setIfInBounds_toArray, List.set_cons_zero, List.set_cons_succ]
              refine wpDet_take (i := 20) (oi := _) (v := ?dv21) (by simp only [List.getElem?_toArray, List.getElem?_cons_zero, List.getElem?_cons_succ]; rfl) (by kernel_rfl) (by kernel_rfl) (by kernel_rfl) (Or.inl ⟨by rfl, ?dy21⟩) ?dr21
              case dy21 => (intro w hSw; have hS0 := hSw; (try dsimp only [SL] at hSw); go_simp; refine Came.value ?_ hS0; with_reducible rfl)
              try simp only [Act.put, List.setIfInBounds_toArray, List.set_cons_zero, List.set_cons_succ]
              refine wpDet_take (i := 21) (oi := _) (v := ?dv22) (by simp only [List.getElem?_toArray, List.getElem?_cons_zero, List.getElem?_cons_succ]; rfl) (by kernel_rfl) (by kernel_rfl) (by kernel_rfl) (Or.inl ⟨by rfl, ?dy22⟩) ?dr22
              case dy22 => (intro w hSw; have hS0 := hSw; (try dsimp only [SL] at hSw); go_simp; refine Came.value ?_ hS0; with_reducible rfl)
              try simp only [Act.put, List.setIfInBounds_toArray, List.set_cons_zero, List.set_cons_succ]
              refine wpDet_take (i := 22) (oi := _) (v := ?dv23) (by simp only [List.getElem?_toArray, List.getElem?_cons_zero, List.getElem?_cons_succ]; rfl) (by kernel_rfl) (by kernel_rfl) (by kernel_rfl) (Or.inl ⟨by rfl, ?dy23⟩) ?dr23
              case dy23 => (intro w hSw; have hS0 := hSw; (try dsimp only [SL] at hSw); go_simp; refine Came.value ?_ hS0; with_reducible rfl)
              try simp only [Act.put, List.setIfInBounds_toArray, List.set_cons_zero, List.set_cons_succ]
              refine wpDet_take (i := 23) (oi := _) (v := ?dv24) (by simp only [List.getElem?_toArray, List.getElem?_cons_zero, List.getElem?_cons_succ]; rfl) (by kernel_rfl) (by kernel_rfl) (by kernel_rfl) (Or.inl ⟨by rfl, ?dy24⟩) ?dr24
              case dy24 => (intro w hSw; have hS0 := hSw; (try dsimp only [SL] at hSw); go_simp; refine Came.value ?_ hS0; with_reducible rfl)
              try simp only [Act.put, List.setIfInBounds_toArray, List.set_cons_zero, List.set_cons_succ]
              refine wpDet_take (i := 24) (oi := _) (v := ?dv25) (by simp only [List.getElem?_toArray, List.getElem?_cons_zero, List.getElem?_cons_succ]; rfl) (by kernel_rfl) (by kernel_rfl) (by kernel_rfl) (Or.inl ⟨by rfl, ?dy25⟩) ?dr25
              case dy25 => (intro w hSw; have hS0 := hSw; (try dsimp only [SL] at hSw); go_simp; refine Came.value ?_ hS0; with_reducible rfl)
              try simp only [Act.put, List.setIfInBounds_toArray, List.set_cons_zero, List.set_cons_succ]
              refine wpDet_done (by kernel_rfl) ?_ _
              rintro w6 ⟨hF, _, _⟩
              have HG2 := Lib.hid hF
              clear hF
              go_wp2
              go_roundw
              case rel => exact ⟨i + 1, by omega, by go_num, HG2⟩
              case measure => simp [intOf]; omega
            · obtain rfl : i = 0 := by omega
              have hg : decide ((0 : Int) < ((0 : Nat) : Int)) = false := by simp
              have HK := Lib.hid (HG.out.trans (Fr.drew wr []))
              have HSL := Lib.hid (show SL w5 bk (off + 0 * 3) bk (off + 0 * 3) ⟨yf, yd, 3⟩ ⟨yf, yd, 3⟩ wr.drew from ⟨HK.out, ⟨HK.out.cell hc2.1 (by simp), HK.out.cell hc2.2.1 (by simp), HK.out.cell hc2.2.2 (by simp)⟩, HK.out.cell hc2.1 (by simp), HK.out.cell hc2.2.1 (by simp), HK.out.cell hc2.2.2 (by simp)⟩)
              rw [show off + 0 * 3 = off by omega] at HSL
              clear hy hc hc2 hin h0
              rw [show ((0 : Nat) : Int) = 0 from rfl]
              go_wp2
              refine wp_region_det (S := SL w5 bk off bk off ⟨yf, yd, 3⟩ ⟨yf, yd, 3⟩) (by kernel_rfl) HSL.out ?_
              refine wpDet_take (i := 0) (oi := _) (v := ?dv26) (by simp only [List.getElem?_toArray, List.getElem?_cons_zero]; rfl) (by kernel_rfl) (by kernel_rfl) (by kernel_rfl) (Or.inl ⟨by rfl, ?dy26⟩) ?dr26
              case dy26 => (intro w hSw; have hS0 := hSw; (try dsimp only [SL] at hSw); go_simp; refine Came.value ?_ hS0; with_reducible rfl)
              try simp only [Act.put, List.setIfInBounds_toArray, List.set_cons_zero, List.set_cons_succ]
              refine wpDet_take (i := 1) (oi := _) (v := ?dv27) (by simp only [List.getElem?_toArray, List.getElem?_cons_zero, List.getElem?_cons_succ]; rfl) (by kernel_rfl) (by kernel_rfl) (by kernel_rfl) (Or.inl ⟨by rfl, ?dy27⟩) ?dr27
              case dy27 => (intro w hSw; have hS0 := hSw; (try dsimp only [SL] at hSw); go_simp; refine Came.value ?_ hS0; with_reducible rfl)
              try simp only [Act.put, List.setIfInBounds_toArray, List.set_cons_zero, List.set_cons_succ]
              refine wpDet_take (i := 2) (oi := _) (v := ?dv28) (by simp only [List.getElem?_toArray, List.getElem?_cons_zero, List.getElem?_cons_succ]; rfl) (by kernel_rfl) (by kernel_rfl) (by kernel_rfl) (Or.inl ⟨by rfl, ?dy28⟩) ?dr28
              case dy28 => (intro w hSw; have hS0 := hSw; (try dsimp only [SL] at hSw); go_simp; refine Came.value ?_ hS0; with_reducible rfl)
              try simp only [Act.put, List.setIfInBounds_toArray, List.set_cons_zero, List.set_cons_succ]
              refine wpDet_take (i := 3) (oi := _) (v := undef) (by simp only [List.getElem?_toArray, List.getElem?_cons_zero, List.getElem?_cons_succ]; rfl) (by kernel_rfl) (by kernel_rfl) (by kernel_rfl) (Or.inr ⟨by rfl, rfl⟩) ?_
              try simp only [Act.put, List.setIfInBounds_toArray, List.set_cons_zero, List.set_cons_succ]
              refine wpDet_take (i := 4) (oi := _) (v := undef) (by simp only [List.getElem?_toArray, List.getElem?_cons_zero, List.getElem?_cons_succ]; rfl) (by kernel_rfl) (by kernel_rfl) (by kernel_rfl) (Or.inr ⟨by rfl, rfl⟩) ?_
              try simp only [Act.put, List.setIfInBounds_toArray, List.set_cons_zero, List.set_cons_succ]
              refine wpDet_take (i := 5) (oi := _) (v := undef) (by simp only [List.getElem?_toArray, List.getElem?_cons_zero, List.getElem?_cons_succ]; rfl) (by kernel_rfl) (by kernel_rfl) (by kernel_rfl) (Or.inr ⟨by rfl, rfl⟩) ?_
              try simp only [Act.put, List.setIfInBounds_toArray, List.set_cons_zero, List.set_cons_succ]
              refine wpDet_take (i := 6) (oi := _) (v := undef) (by simp only [List.getElem?_toArray, List.getElem?_cons_zero, List.getElem?_cons_succ]; rfl) (by kernel_rfl) (by kernel_rfl) (by kernel_rfl) (Or.inr ⟨by rfl, rfl⟩) ?_
              try simp only [Act.put, List.setIfInBounds_toArray, List.set_cons_zero, List.set_cons_succ]
              refine wpDet_take (i := 7) (oi := _) (v := undef) (by simp only [List.getElem?_toArray, List.getElem?_cons_zero, List.getElem?_cons_succ]; rfl) (by kernel_rfl) (by kernel_rfl) (by kernel_rfl) (Or.inr ⟨by rfl, rfl⟩) ?_
              try simp only [Act.put, List.setIfInBounds_toArray, List.set_cons_zero, List.set_cons_succ]
              refine wpDet_take (i := 8) (oi := _) (v := undef) (by simp only [List.getElem?_toArray, List.getElem?_cons_zero, List.getElem?_cons_succ]; rfl) (by kernel_rfl) (by kernel_rfl) (by kernel_rfl) (Or.inr ⟨by rfl, rfl⟩) ?_
              try simp only [Act.put, List.setIfInBounds_toArray, List.set_cons_zero, List.set_cons_succ]
              refine wpDet_take (i := 9) (oi := _) (v := undef) (by simp only [List.getElem?_toArray, List.getElem?_cons_zero, List.getElem?_cons_succ]; rfl) (by kernel_rfl) (by kernel_rfl) (by kernel_rfl) (Or.inr ⟨by rfl, rfl⟩) ?_
              try simp only [Act.put, List.setIfInBounds_toArray, List.set_cons_zero, List.set_cons_succ]
              refine wpDet_take (i := 10) (oi := _) (v := undef) (by simp only [List.getElem?_toArray, List.getElem?_cons_zero, List.getElem?_cons_succ]; rfl) (by kernel_rfl) (by kernel_rfl) (by kernel_rfl) (Or.inr ⟨by rfl, rfl⟩) ?_
              try simp only [Act.put, List.setIfInBounds_toArray, List.set_cons_zero, List.set_cons_succ]
              refine wpDet_take (i := 11) (oi := _) (v := undef) (by simp only [List.getElem?_toArray, List.getElem?_cons_zero, List.getElem?_cons_succ]; rfl) (by kernel_rfl) (by kernel_rfl) (by kernel_rfl) (Or.inr ⟨by rfl, rfl⟩) ?_
              try simp only [Act.put, List.setIfInBounds_toArray, List.set_cons_zero, List.set_cons_succ]
              refine wpDet_take (i := 12) (oi := _) (v := undef) (by simp only [List.getElem?_toArray, List.getElem?_cons_zero, List.getElem?_cons_succ]; rfl) (by kernel_rfl) (by kernel_rfl) (by kernel_rfl) (Or.inr ⟨by rfl, rfl⟩) ?_
              try simp only [Act.put, List.setIfInBounds_toArray, List.set_cons_zero, List.set_cons_succ]
              refine wpDet_take (i := 13) (oi := _) (v := undef) (by simp only [List.getElem?_toArray, List.getElem?_cons_zero, List.getElem?_cons_succ]; rfl) (by kernel_rfl) (by kernel_rfl) (by kernel_rfl) (Or.inr ⟨by rfl, rfl⟩) ?_
              try simp only [Act.put, List.setIfInBounds_toArray, List.set_cons_zero, List.set_cons_succ]
              refine wpDet_take (i := 14) (oi := _) (v := undef) (by simp only [List.getElem?_toArray, List.getElem?_cons_zero, List.getElem?_cons_succ]; rfl) (by kernel_rfl) (by kernel_rfl) (by kernel_rfl) (Or.inr ⟨by rfl, rfl⟩) ?_
              try simp only [Act.put, List.setIfInBounds_toArray, List.set_cons_zero, List.set_cons_succ]
              refine wpDet_take (i := 15) (oi := _) (v := undef) (by simp only [List.getElem?_toArray, List.getElem?_cons_zero, List.getElem?_cons_succ]; rfl) (by kernel_rfl) (by kernel_rfl) (by kernel_rfl) (Or.inr ⟨by rfl, rfl⟩) ?_
              try simp only [Act.put, List.setIfInBounds_toArray, List.set_cons_zero, List.set_cons_succ]
              refine wpDet_take (i := 16) (oi := _) (v := ?dv42) (by simp only [List.getElem?_toArray, List.getElem?_cons_zero, List.getElem?_cons_succ]; rfl) (by kernel_rfl) (by kernel_rfl) (by kernel_rfl) (Or.inl ⟨by rfl, ?dy42⟩) ?dr42
              case dy42 => (intro w hSw; have hS0 := hSw; (try dsimp only [SL] at hSw); go_simp; refine Came.value ?_ hS0; with_reducible rfl)
              try simp only [Act.put, List.setIfInBounds_toArray, List.set_cons_zero, List.set_cons_succ]
              refine wpDet_take (i := 17) (oi := _) (v := ?dv43) (by simp only [List.getElem?_toArray, List.getElem?_cons_zero, List.getElem?_cons_succ]; rfl) (by kernel_rfl) (by kernel_rfl) (by kernel_rfl) (Or.inl ⟨by rfl, ?dy43⟩) ?dr43
              case dy43 => (intro w hSw; have hS0 := hSw; (try dsimp only [SL] at hSw); go_simp; refine Came.value ?_ hS0; with_reducible rfl)
              try simp only [Act.put, List.setIfInBounds_toArray, List.set_cons_zero, List.set_cons_succ]
              refine wpDet_take (i := 18) (oi := _) (v := ?dv44) (by simp only [List.getElem?_toArray, List.getElem?_cons_zero, List.getElem?_cons_succ]; rfl) (by kernel_rfl) (by kernel_rfl) (by kernel_rfl) (Or.inl ⟨by rfl, ?dy44⟩) ?dr44
              case dy44 => (intro w hSw; have hS0 := hSw; (try dsimp only [SL] at hSw); go_simp; refine Came.value ?_ hS0; with_reducible rfl)
              try simp only [Act.put, List.setIfInBounds_toArray, List.set_cons_zero, List.set_cons_succ]
              refine wpDet_take (i := 19) (oi := _) (v := ?dv45) (by simp only [List.getElem?_toArray, List.getElem?_cons_zero, List.getElem?_cons_succ]; rfl) (by kernel_rfl) (by kernel_rfl) (by kernel_rfl) (Or.inl ⟨by rfl, ?dy45⟩) ?dr45
              case dy45 => (intro w hSw; have hS0 := hSw; (try dsimp only [SL] at hSw); go_simp; refine Came.value ?_ hS0; with_reducible rfl)
              try simp only [Act.put, List.setIfInBounds_toArray, List.set_cons_zero, List.set_cons_succ]
              refine wpDet_take (i := 20) (oi := _) (v := ?dv46) (by simp only [List.getElem?_toArray, List.getElem?_cons_zero, List.getElem?_cons_succ]; rfl) (by kernel_rfl) (by kernel_rfl) (by kernel_rfl) (Or.inl ⟨by rfl, ?dy46⟩) ?dr46
              case dy46 => (intro w hSw; have hS0 := hSw; (try dsimp only [SL] at hSw); go_simp; refine Came.value ?_ hS0; with_reducible rfl)
              try simp only [Act.put, List.setIfInBounds_toArray, List.set_cons_zero, List.set_cons_succ]
              refine wpDet_take (i := 21) (oi := _) (v := ?dv47) (by simp only [List.getElem?_toArray, List.getElem?_cons_zero, List.getElem?_cons_succ]; rfl) (by kernel_rfl) (by kernel_rfl) (by kernel_rfl) (Or.inl ⟨by rfl, ?dy47⟩) ?dr47
              case dy47 => (intro w hSw; have hS0 := hSw; (try dsimp only [SL] at hSw); go_simp; refine Came.value ?_ hS0; with_reducible rfl)
              try simp only [Act.put, List.setIfInBounds_toArray, List.set_cons_zero, List.set_cons_succ]
              refine wpDet_take (i := 22) (oi := _) (v := ?dv48) (by simp only [List.getElem?_toArray, List.getElem?_cons_zero, List.getElem?_cons_succ]; rfl) (by kernel_rfl) (by kernel_rfl) (by kernel_rfl) (Or.inl ⟨by rfl, ?dy48⟩) ?dr48
              case dy48 => (intro w hSw; have hS0 := hSw; (try dsimp only [SL] at hSw); go_simp; refine Came.value ?_ hS0; with_reducible rfl)
              try simp only [Act.put, List.setIfInBounds_toArray, List.set_cons_zero, List.set_cons_succ]
              refine wpDet_take (i := 23) (oi := _) (v := ?dv49) (by simp only [List.getElem?_toArray, List.getElem?_cons_zero, List.getElem?_cons_succ]; rfl) (by kernel_rfl) (by kernel_rfl) (by kernel_rfl) (Or.inl ⟨by rfl, ?dy49⟩) ?dr49
              case dy49 => (intro w hSw; have hS0 := hSw; (try dsimp only [SL] at hSw); go_simp; refine Came.value ?_ hS0; with_reducible rfl)
              try simp only [Act.put, List.setIfInBounds_toArray, List.set_cons_zero, List.set_cons_succ]
              refine wpDet_take (i := 24) (oi := _) (v := ?dv50) (by simp only [List.getElem?_toArray, List.getElem?_cons_zero, List.getElem?_cons_succ]; rfl) (by kernel_rfl) (by kernel_rfl) (by kernel_rfl) (Or.inl ⟨by rfl, ?dy50⟩) ?dr50
              case dy50 => (intro w hSw; have hS0 := hSw; (try dsimp only [SL] at hSw); go_simp; refine Came.value ?_ hS0; with_reducible rfl)
              try simp only [Act.put, List.setIfInBounds_toArray, List.set_cons_zero, List.set_cons_succ]
              refine wpDet_done (by kernel_rfl) ?_ _
              rintro w6 ⟨hF, _, _⟩
              have HG2 := Lib.hid hF
              clear hF
              go_wp2
              go_roundw
              case rel => exact ⟨1, by omega, by go_num, HG2⟩
              case measure => simp [intOf]; omega
          · obtain rfl : N = i := by omega
            have HF6 := Lib.hid (HF5.out.trans HG.out)
            have HS16 := Lib.hid (HS15.out.keep HG.out)
            have HS26 := Lib.hid (HS25.out.keep HG.out)
            have HO6 := Lib.hid (HO.out.holds.keep HG.out)
            clear HF5 HS15 HS25 HO HG HUR
            go_wp2
            go_loopw [12] (fun s12 wx => ∃ i : Nat, i ≤ n ∧ s12 = .int .i64 i ∧ Hid (Fr wr wx [])) (fun i _ => n - (intOf i).toNat)
            case atStart => exact ⟨0, Nat.zero_le _, rfl, (Fr.refl _ _ : Fr _ _ _)⟩
            case round =>
              obtain ⟨i, hi, rfl, HG⟩ := hrel
              by_cases hlt : i < n
              · obtain ⟨bk, off, rfl, hc⟩ := HLS.out (by omega)
                obtain ⟨x, hx⟩ : ∃ x, x = l.getD i zLa := ⟨_, rfl⟩
                have hc1 := hc i hlt
                rw [← hx] at hc1
                have hF := HF6.out.trans HG.out
                have x0 := hF.cell hc1.1 (by simp)
                have x1 := hF.cell hc1.2.1 (by simp)
                have hh : hasL S x.f x.d = true := has_iff.2 ⟨th x, (HSM.out _).2 ⟨i, hlt, by rw [hx]; rfl⟩, rfl, rfl⟩
                have HHA := Lib.hid (has_any q1 q1 s1 S x.f x.d _ (HS16.out.keep HG.out) (by have := HNN.out; omega) true hh.symm)
                clear hx hc hc1 hF hh
                go_wp2_with fail
                refine HHA.out.mono ?_
                rintro e w7 ⟨rfl, hf⟩
                have HG2 := Lib.hid (HG.out.trans hf)
                clear hf
                go_wp2
                go_roundw
                case rel => exact ⟨i + 1, by omega, by go_num, HG2⟩
                case measure => simp [intOf]; omega
              · obtain rfl : n = i := by omega
                have HF7 := Lib.hid (HF6.out.trans HG.out)
                have HALL := Lib.hid (all_any q1 (q1 + 1) s2 T _ (HS26.out.keep HG.out) (by rw [← HST.out, ← HNN.out]; omega))
                have HO7 := Lib.hid (HO6.out.keep HG.out)
                have HLE2 := Lib.hid (fun W => less_any 2 (-1) 2 1 W true (by simp [Lt2]))
                clear HF6 HS26 HO6 HG HS16
                go_wp2_with fail
                refine HALL.out.mono ?_
                rintro e w8 ⟨u2', rfl, hO2, hF2⟩
                have HF8 := Lib.hid (HF7.out.trans hF2)
                have HSAME := Lib.hid (latchs_same _ S _ T w8 (HO7.out.keep hF2) hO2.holds true (by rw [HST.out]; simp))
                clear hO2 hF2
                go_wp2_with fail
                refine HSAME.out.mono ?_
                rintro e w9 ⟨rfl, hf⟩
                have HF9 := Lib.hid (HF8.out.trans hf)
                clear hf
                go_wp2_with fail
                refine (HLE2.out _).mono ?_
                rintro e w10 ⟨rfl, hf⟩
                have HF10 := Lib.hid (HF9.out.trans hf)
                clear hf
                go_wp2
                go_ret
                exact ⟨rfl, HF10.out⟩
  · go_enter Try.func5, Try.ntmps5
    go_wp2_with fail
    refine (first_any _).mono ?_
    rintro e w1 ⟨rfl, hf⟩
    have HF1 := Lib.hid hf
    clear hf
    go_wp2
    go_ret
    exact ⟨rfl, HF1.out⟩
theorem korder_walk (v : Value) (l : List La) (a : Int) (hw : (Lit.int .i64 a).wf = true) (w : World) (hv : HLs w v l) : Calls Try.prog 5 #[v, .int .i64 a] w fun e w' => e = .returned (.bool true) ∧ w.grownBy w' none :=
  (order_true v l a hw w hv).mono fun _ _ ⟨he, hf⟩ => ⟨he, hf.grown (by simp)⟩
end Go.Proofs.Ytfopmpaoigdelaa
