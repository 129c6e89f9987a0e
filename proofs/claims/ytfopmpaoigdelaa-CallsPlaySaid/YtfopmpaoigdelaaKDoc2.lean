/- The document's sets of calls: Del, Keep. -/
import Derived.Test.YtfopmpaoigdelaaKDoc
namespace Go.Proofs.Ytfopmpaoigdelaa
open Go.RowKit

theorem del_snoc (l : List La) (f d : Int) (k : Nat) (hk : k < l.length) : delL (l.take (k + 1)) f d = delL (l.take k) f d ++ (if (l.getD k zLa).at f d then [] else [l.getD k zLa]) := by
  unfold delL
  rw [la_snoc l k hk, List.filter_append]
  obtain ⟨x, hx⟩ : ∃ x, x = l.getD k zLa := ⟨_, rfl⟩
  rw [← hx]
  by_cases h : x.at f d <;> simp [isAt, h]
theorem keep_snoc (l K : List La) (k : Nat) (hk : k < l.length) : keepL (l.take (k + 1)) K = keepL (l.take k) K ++ (if l.getD k zLa ∈ K then [l.getD k zLa] else []) := by
  unfold keepL
  rw [la_snoc l k hk, List.filter_append]
  obtain ⟨x, hx⟩ : ∃ x, x = l.getD k zLa := ⟨_, rfl⟩
  rw [← hx]
  by_cases h : x ∈ K <;> simp [h]
/-- What the document hands back: a list in memory of the call's own. -/
def NewQ (w : World) (L : List La) (u : Value) (w' : World) : Prop := OwnL w' w.heap.size u L ∧ Fr w w' []
set_option maxHeartbeats 1000000 in
set_option maxRecDepth 100000 in
theorem delLatch_any (v : Value) (l : List La) (f d : Int) (w : World) (hv : HLs w v l) (hl : l.length ≤ 1000) (b : Bool) (hb : b = decide ((delL l f d).length < l.length)) :
    Calls Try.prog 18 #[v, .agg #[.int .i64 f, .int .i64 d]] w fun e w' => ∃ u, e = .returned (.tuple #[u, .bool b]) ∧ NewQ w (delL l f d) u w' := by
  obtain ⟨i0, hi0, hz0, hz1, hz2⟩ := info_parts infoL
  obtain ⟨a, c, rfl, p1, q1, r1⟩ := hv
  unfold maxLen at q1
  have HLS := Lib.hid r1
  have HB := Lib.hid hb
  obtain ⟨n, hn⟩ : ∃ n, n = l.length := ⟨_, rfl⟩
  have HN := Lib.hid hn
  rw [← hn] at hl p1 HLS
  clear r1 hb
  rw [← hn]
  clear hn
  have HF0 := Lib.hid (Fr.alloc w (.cells #[.int .i64 f, .int .i64 d] 23) [])
  have HBT := Lib.hid (heap_alloc_new w (.cells #[.int .i64 f, .int .i64 d] 23))
  go_enter Try.func18, Try.ntmps18
  go_wp2
  go_loopw [6, 7] (fun s6 s7 wr => ∃ k : Nat, k ≤ n ∧ s7 = .int .i64 k ∧ Hid (OwnL wr w.heap.size s6 (delL (l.take k) f d)) ∧ Hid (wr.heap[w.heap.size]? = some (.cells #[.int .i64 f, .int .i64 d] 23 (0, 0))) ∧ Hid (Fr w wr [])) (fun _ i _ => n - (intOf i).toNat)
  case atStart => exact ⟨0, Nat.zero_le _, rfl, OwnL.nil _ _, HBT.out, HF0.out⟩
  case round =>
    obtain ⟨k, hk, rfl, HO, HX0, HG⟩ := hrel
    by_cases hlt : k < n
    · obtain ⟨bk, off, rfl, hc⟩ := HLS.out (by omega)
      obtain ⟨x, hx⟩ : ∃ x, x = l.getD k zLa := ⟨_, rfl⟩
      have hc1 := hc k hlt
      have hsn := del_snoc l f d k (by have := HN.out; omega)
      rw [← hx] at hc1 hsn
      obtain ⟨z0, z1⟩ := row2 HX0.out
      have HX := Lib.hid hc1
      have HK := Lib.hid (HG.out.trans (Fr.drew wr []))
      have HSB := Lib.hid (show SB wr bk (off + k * 3) w.heap.size x f d wr.drew from
        ⟨Fr.drew wr [], ⟨HK.out.cell hc1.1 (by simp), HK.out.cell hc1.2.1 (by simp), HK.out.cell hc1.2.2 (by simp)⟩, (Fr.drew wr []).cell z0 (by simp), (Fr.drew wr []).cell z1 (by simp)⟩)
      have HLEN : Hid ((delL (l.take k) f d).length ≤ 1000) := by show _ ≤ 1000; have := del_le (l.take k) f d; rw [List.length_take] at this; omega
      obtain ⟨ua, uc, hu⟩ := HO.out.shape
      by_cases hat : x.at f d
      · have HV := Lib.hid (fun W => call_same x.f x.d f d W true (decide_eq_true hat))
        rw [if_pos hat, List.append_nil] at hsn
        have HSN := Lib.hid hsn
        clear hx hc hc1 hsn z0 z1 hat hu
        go_wp2
        refine wp_region_det (S := SB wr bk (off + k * 3) w.heap.size x f d) (by kernel_rfl) HSB.out ?_
        refine wpDet_take (i := 0) (oi := _) (v := ?dv1) (by simp only [List.getElem?_toArray, List.getElem?_cons_zero]; rfl) (by kernel_rfl) (by kernel_rfl) (by kernel_rfl) (Or.inl ⟨by rfl, ?dy1⟩) ?dr1
        case dy1 => (intro w hSw; have hS0 := hSw; (try dsimp only [SB] at hSw); go_simp; refine Came.value ?_ hS0; with_reducible rfl)
        try simp only [Act.put, List.setIfInBounds_toArray, List.set_cons_zero, List.set_cons_succ]
        refine wpDet_take (i := 1) (oi := _) (v := ?dv2) (by simp only [List.getElem?_toArray, List.getElem?_cons_zero, List.getElem?_cons_succ]; rfl) (by kernel_rfl) (by kernel_rfl) (by kernel_rfl) (Or.inl ⟨by rfl, ?dy2⟩) ?dr2
        case dy2 => (intro w hSw; have hS0 := hSw; (try dsimp only [SB] at hSw); go_simp; refine Came.value ?_ hS0; with_reducible rfl)
        try simp only [Act.put, List.setIfInBounds_toArray, List.set_cons_zero, List.set_cons_succ]
        refine wpDet_take (i := 2) (oi := _) (v := ?dv3) (by simp only [List.getElem?_toArray, List.getElem?_cons_zero, List.getElem?_cons_succ]; rfl) (by kernel_rfl) (by kernel_rfl) (by kernel_rfl) (Or.inl ⟨by rfl, ?dy3⟩) ?dr3
        case dy3 => (intro w hSw; have hS0 := hSw; (try dsimp only [SB] at hSw); go_simp; refine Came.value ?_ hS0; with_reducible rfl)
        try simp only [Act.put, List.setIfInBounds_toArray, List.set_cons_zero, List.set_cons_succ]
        refine wpDet_take (i := 3) (oi := _) (v := ?dv4) (by simp only [List.getElem?_toArray, List.getElem?_cons_zero, List.getElem?_cons_succ]; rfl) (by kernel_rfl) (by kernel_rfl) (by kernel_rfl) (Or.inl ⟨by rfl, ?dy4⟩) ?dr4
        case dy4 => (intro w hSw; have hS0 := hSw; (try dsimp only [SB] at hSw); go_simp; refine Came.value ?_ hS0; with_reducible rfl)
        try simp only [Act.put, List.setIfInBounds_toArray, List.set_cons_zero, List.set_cons_succ]
        refine wpDet_take (i := 4) (oi := _) (v := ?dv5) (by simp only [List.getElem?_toArray, List.getElem?_cons_zero, List.getElem?_cons_succ]; rfl) (by kernel_rfl) (by kernel_rfl) (by kernel_rfl) (Or.inl ⟨by rfl, ?dy5⟩) ?dr5
        case dy5 => (intro w hSw; have hS0 := hSw; (try dsimp only [SB] at hSw); go_simp; refine Came.value ?_ hS0; with_reducible rfl)
        try simp only [Act.put, List.setIfInBounds_toArray, List.set_cons_zero, List.set_cons_succ]
        refine wpDet_take (i := 5) (oi := _) (v := ?dv6) (by simp only [List.getElem?_toArray, List.getElem?_cons_zero, List.getElem?_cons_succ]; rfl) (by kernel_rfl) (by kernel_rfl) (by kernel_rfl) (Or.inl ⟨by rfl, ?dy6⟩) ?dr6
        case dy6 => (intro w hSw; have hS0 := hSw; (try dsimp only [SB] at hSw); go_simp; refine Came.value ?_ hS0; with_reducible rfl)
        try simp only [Act.put, List.setIfInBounds_toArray, List.set_cons_zero, List.set_cons_succ]
        refine wpDet_take (i := 6) (oi := _) (v := ?dv7) (by simp only [List.getElem?_toArray, List.getElem?_cons_zero, List.getElem?_cons_succ]; rfl) (by kernel_rfl) (by kernel_rfl) (by kernel_rfl) (Or.inl ⟨by rfl, ?dy7⟩) ?dr7
        case dy7 => (intro w hSw; go_simp; exact Came.call ((HV.out w).mono fun e w' ⟨he, hf⟩ => ⟨he, hSw.fr hf⟩) (by with_reducible rfl))
        try simp only [Act.put, List.setIfInBounds_toArray, List.set_cons_zero, List.set_cons_succ]
        refine wpDet_take (i := 7) (oi := _) (v := ?dv8) (by simp only [List.getElem?_toArray, List.getElem?_cons_zero, List.getElem?_cons_succ]; rfl) (by kernel_rfl) (by kernel_rfl) (by kernel_rfl) (Or.inl ⟨by rfl, ?dy8⟩) ?dr8
        case dy8 => (intro w hSw; have hS0 := hSw; (try dsimp only [SB] at hSw); go_simp; refine Came.value ?_ hS0; with_reducible rfl)
        try simp only [Act.put, List.setIfInBounds_toArray, List.set_cons_zero, List.set_cons_succ]
        refine wpDet_done (by kernel_rfl) ?_ _
        rintro w1 ⟨hF, _, _⟩
        have HF := Lib.hid (HG.out.trans hF)
        have HO2 := Lib.hid (HO.out.keep hF)
        have HX2 := Lib.hid (hF.heap HX0.out (by simp))
        clear hF
        go_wp2
        go_roundw
        case rel => exact ⟨k + 1, by omega, by go_num, (by rw [HSN.out]; exact HO2.out : OwnL _ _ _ _), HX2, HF⟩
        case measure => simp [intOf]; omega
      · have HV := Lib.hid (fun W => call_same x.f x.d f d W false (decide_eq_false hat))
        rw [if_neg hat] at hsn
        have HSN := Lib.hid hsn
        clear hx hc hc1 hsn z0 z1 hat
        go_wp2
        refine wp_region_det (S := SB wr bk (off + k * 3) w.heap.size x f d) (by kernel_rfl) HSB.out ?_
        refine wpDet_take (i := 0) (oi := _) (v := ?dv9) (by simp only [List.getElem?_toArray, List.getElem?_cons_zero]; rfl) (by kernel_rfl) (by kernel_rfl) (by kernel_rfl) (Or.inl ⟨by rfl, ?dy9⟩) ?dr9
        case dy9 => (intro w hSw; have hS0 := hSw; (try dsimp only [SB] at hSw); go_simp; refine Came.value ?_ hS0; with_reducible rfl)
        try simp only [Act.put, List.setIfInBounds_toArray, List.set_cons_zero, List.set_cons_succ]
        refine wpDet_take (i := 1) (oi := _) (v := ?dv10) (by simp only [List.getElem?_toArray, List.getElem?_cons_zero, List.getElem?_cons_succ]; rfl) (by kernel_rfl) (by kernel_rfl) (by kernel_rfl) (Or.inl ⟨by rfl, ?dy10⟩) ?dr10
        case dy10 => (intro w hSw; have hS0 := hSw; (try dsimp only [SB] at hSw); go_simp; refine Came.value ?_ hS0; with_reducible rfl)
        try simp only [Act.put, List.setIfInBounds_toArray, List.set_cons_zero, List.set_cons_succ]
        refine wpDet_take (i := 2) (oi := _) (v := ?dv11) (by simp only [List.getElem?_toArray, List.getElem?_cons_zero, List.getElem?_cons_succ]; rfl) (by kernel_rfl) (by kernel_rfl) (by kernel_rfl) (Or.inl ⟨by rfl, ?dy11⟩) ?dr11
        case dy11 => (intro w hSw; have hS0 := hSw; (try dsimp only [SB] at hSw); go_simp; refine Came.value ?_ hS0; with_reducible rfl)
        try simp only [Act.put, List.setIfInBounds_toArray, List.set_cons_zero, List.set_cons_succ]
        refine wpDet_take (i := 3) (oi := _) (v := ?dv12) (by simp only [List.getElem?_toArray, List.getElem?_cons_zero, List.getElem?_cons_succ]; rfl) (by kernel_rfl) (by kernel_rfl) (by kernel_rfl) (Or.inl ⟨by rfl, ?dy12⟩) ?dr12
        case dy12 => (intro w hSw; have hS0 := hSw; (try dsimp only [SB] at hSw); go_simp; refine Came.value ?_ hS0; with_reducible rfl)
        try simp only [Act.put, List.setIfInBounds_toArray, List.set_cons_zero, List.set_cons_succ]
        refine wpDet_take (i := 4) (oi := _) (v := ?dv13) (by simp only [List.getElem?_toArray, List.getElem?_cons_zero, List.getElem?_cons_succ]; rfl) (by kernel_rfl) (by kernel_rfl) (by kernel_rfl) (Or.inl ⟨by rfl, ?dy13⟩) ?dr13
        case dy13 => (intro w hSw; have hS0 := hSw; (try dsimp only [SB] at hSw); go_simp; refine Came.value ?_ hS0; with_reducible rfl)
        try simp only [Act.put, List.setIfInBounds_toArray, List.set_cons_zero, List.set_cons_succ]
        refine wpDet_take (i := 5) (oi := _) (v := ?dv14) (by simp only [List.getElem?_toArray, List.getElem?_cons_zero, List.getElem?_cons_succ]; rfl) (by kernel_rfl) (by kernel_rfl) (by kernel_rfl) (Or.inl ⟨by rfl, ?dy14⟩) ?dr14
        case dy14 => (intro w hSw; have hS0 := hSw; (try dsimp only [SB] at hSw); go_simp; refine Came.value ?_ hS0; with_reducible rfl)
        try simp only [Act.put, List.setIfInBounds_toArray, List.set_cons_zero, List.set_cons_succ]
        refine wpDet_take (i := 6) (oi := _) (v := ?dv15) (by simp only [List.getElem?_toArray, List.getElem?_cons_zero, List.getElem?_cons_succ]; rfl) (by kernel_rfl) (by kernel_rfl) (by kernel_rfl) (Or.inl ⟨by rfl, ?dy15⟩) ?dr15
        case dy15 => (intro w hSw; go_simp; exact Came.call ((HV.out w).mono fun e w' ⟨he, hf⟩ => ⟨he, hSw.fr hf⟩) (by with_reducible rfl))
        try simp only [Act.put, List.setIfInBounds_toArray, List.set_cons_zero, List.set_cons_succ]
        refine wpDet_take (i := 7) (oi := _) (v := ?dv16) (by simp only [List.getElem?_toArray, List.getElem?_cons_zero, List.getElem?_cons_succ]; rfl) (by kernel_rfl) (by kernel_rfl) (by kernel_rfl) (Or.inl ⟨by rfl, ?dy16⟩) ?dr16
        case dy16 => (intro w hSw; have hS0 := hSw; (try dsimp only [SB] at hSw); go_simp; refine Came.value ?_ hS0; with_reducible rfl)
        try simp only [Act.put, List.setIfInBounds_toArray, List.set_cons_zero, List.set_cons_succ]
        refine wpDet_done (by kernel_rfl) ?_ _
        rintro w1 ⟨hF, _, _⟩
        have HGW := Lib.hid (HG.out.trans hF)
        have HX2 := Lib.hid ((hF.trans (Fr.alloc w1 (.cells #[.int .i64 x.f, .int .i64 x.d, .int .i64 x.g] 25) [])).heap HX0.out (by simp))
        have HO2 := Lib.hid (HO.out.keep hF)
        have x0 := HGW.out.cell HX.out.1 (by simp)
        have x1 := HGW.out.cell HX.out.2.1 (by simp)
        have x2 := HGW.out.cell HX.out.2.2 (by simp)
        clear hF
        subst hu
        go_wp2_with (at_builtin; refine wpList_append_own _ rfl _ _ 27 rfl w.heap.size 25 i0 (.agg #[.int .i64 0, .int .i64 0, .int .i64 0]) 3 24 Try.underlying27 hi0 hz0 hz1 hz2 rfl (by decide) _ _ _ rfl (World.ownsRow.alloc HO2.out _) ⟨w1.heap.size, 0, none⟩ 1 1 x.cl rfl rfl (row_new3 _ _ _ _ _) (la_one _) (by have := HLEN.out; unfold maxLen; omega) (by have := HLEN.out; omega) (by have := HGW.out.size; simp; omega) ?_; intro v' w3 hown3 hg3 _)
        have HF3 := Lib.hid ((HGW.out.trans (Fr.alloc w1 (.cells #[.int .i64 x.f, .int .i64 x.d, .int .i64 x.g] 25) [])).grown_own hg3 (fun r hr => .inr (HO2.out.block r hr).1))
        have HX3 := Lib.hid (row_far hg3 (World.ownsRow.alloc HO2.out _) HX2.out (by decide))
        have HO3 := Lib.hid (OwnL.snoc hown3)
        clear hown3 hg3 x0 x1 x2
        go_wp2
        go_roundw
        case rel => exact ⟨k + 1, by omega, by go_num, (by rw [HSN.out]; exact HO3.out : OwnL _ _ _ _), HX3, HF3⟩
        case measure => simp [intOf]; omega
    · obtain rfl : n = k := by omega
      have HO2 : Hid (OwnL wr w.heap.size u6 (delL l f d)) := by
        have := HO.out
        rwa [HN.out, List.take_length] at this
      have hdl := del_le l f d
      obtain ⟨m, hm⟩ : ∃ m, m = (delL l f d).length := ⟨_, rfl⟩
      obtain ⟨ua, uc, hu⟩ := HO2.out.shape
      have HB2 : Hid (b = decide (m < n)) := by show _ = _; rw [HB.out, hm, HN.out]
      rw [← hm] at hu hdl
      subst hu
      clear hm hdl
      go_wp2
      go_ret2
      refine ⟨_, ?_, HO2.out, HG.out⟩
      rw [HB2.out]
      simp
set_option maxHeartbeats 1000000 in
set_option maxRecDepth 100000 in
theorem keepLatch_any (v : Value) (l : List La) (vk : Value) (K : List La) (w : World) (hv : HLs w v l) (hk : HLs w vk K) (hl : l.length ≤ 1000) :
    Calls Try.prog 19 #[v, vk] w (Gives (NewQ w (keepL l K))) := by
  obtain ⟨i0, hi0, hz0, hz1, hz2⟩ := info_parts infoL
  have HKH := Lib.hid hk
  obtain ⟨a, c, rfl, p1, q1, r1⟩ := hv
  obtain ⟨ka, kc, rfl, p2, q2, r2⟩ := hk
  unfold maxLen at q1 q2
  have HLS := Lib.hid r1
  obtain ⟨n, hn⟩ : ∃ n, n = l.length := ⟨_, rfl⟩
  have HN := Lib.hid hn
  rw [← hn] at hl p1 HLS
  clear r1 r2
  rw [← hn]
  clear hn
  go_enter Try.func19, Try.ntmps19
  go_wp2
  go_loopw [5, 6] (fun s5 s6 wr => ∃ k : Nat, k ≤ n ∧ s6 = .int .i64 k ∧ Hid (OwnL wr w.heap.size s5 (keepL (l.take k) K)) ∧ Hid (Fr w wr [])) (fun _ i _ => n - (intOf i).toNat)
  case atStart => exact ⟨0, Nat.zero_le _, rfl, OwnL.nil _ _, (Fr.refl _ _ : Fr _ _ _)⟩
  case round =>
    obtain ⟨k, hk, rfl, HO, HG⟩ := hrel
    by_cases hlt : k < n
    · obtain ⟨bk, off, rfl, hc⟩ := HLS.out (by omega)
      obtain ⟨x, hx⟩ : ∃ x, x = l.getD k zLa := ⟨_, rfl⟩
      have hc1 := hc k hlt
      have hsn := keep_snoc l K k (by have := HN.out; omega)
      rw [← hx] at hc1 hsn
      have HX := Lib.hid hc1
      have y0 := HG.out.cell hc1.1 (by simp)
      have y1 := HG.out.cell hc1.2.1 (by simp)
      have y2 := HG.out.cell hc1.2.2 (by simp)
      have HLEN : Hid ((keepL (l.take k) K).length ≤ 1000) := by show _ ≤ 1000; have := keep_le (l.take k) K; rw [List.length_take] at this; omega
      obtain ⟨ua, uc, hu⟩ := HO.out.shape
      by_cases hat : x ∈ K
      · have HV := Lib.hid (hasLatch_any _ K x wr (HKH.out.keep HG.out) true (by simp [hat]))
        rw [if_pos hat] at hsn
        have HSN := Lib.hid hsn
        clear hx hc hc1 hsn hat
        go_wp2_with fail
        with_reducible refine HV.out.mono ?_
        rintro e w1 ⟨rfl, hF⟩
        have HGW := Lib.hid (HG.out.trans hF)
        have HO2 := Lib.hid (HO.out.keep hF)
        have x0 := HGW.out.cell HX.out.1 (by simp)
        have x1 := HGW.out.cell HX.out.2.1 (by simp)
        have x2 := HGW.out.cell HX.out.2.2 (by simp)
        clear hF y0 y1 y2
        subst hu
        go_wp2_with (at_builtin; refine wpList_append_own _ rfl _ _ 27 rfl w.heap.size 25 i0 (.agg #[.int .i64 0, .int .i64 0, .int .i64 0]) 3 24 Try.underlying27 hi0 hz0 hz1 hz2 rfl (by decide) _ _ _ rfl (World.ownsRow.alloc HO2.out _) ⟨w1.heap.size, 0, none⟩ 1 1 x.cl rfl rfl (row_new3 _ _ _ _ _) (la_one _) (by have := HLEN.out; unfold maxLen; omega) (by have := HLEN.out; omega) (by have := HGW.out.size; simp; omega) ?_; intro v' w3 hown3 hg3 _)
        have HF3 := Lib.hid ((HGW.out.trans (Fr.alloc w1 (.cells #[.int .i64 x.f, .int .i64 x.d, .int .i64 x.g] 25) [])).grown_own hg3 (fun r hr => .inr (HO2.out.block r hr).1))
        have HO3 := Lib.hid (OwnL.snoc hown3)
        clear hown3 hg3 x0 x1 x2
        go_wp2
        go_roundw
        case rel => exact ⟨k + 1, by omega, by go_num, (by rw [HSN.out]; exact HO3.out : OwnL _ _ _ _), HF3⟩
        case measure => simp [intOf]; omega
      · have HV := Lib.hid (hasLatch_any _ K x wr (HKH.out.keep HG.out) false (by simp [hat]))
        rw [if_neg hat, List.append_nil] at hsn
        have HSN := Lib.hid hsn
        clear hx hc hc1 hsn hat hu
        go_wp2_with fail
        with_reducible refine HV.out.mono ?_
        rintro e w1 ⟨rfl, hF⟩
        have HGW := Lib.hid (HG.out.trans hF)
        have HO2 := Lib.hid (HO.out.keep hF)
        clear hF y0 y1 y2
        go_wp2
        go_roundw
        case rel => exact ⟨k + 1, by omega, by go_num, (by rw [HSN.out]; exact HO2.out : OwnL _ _ _ _), HGW⟩
        case measure => simp [intOf]; omega
    · obtain rfl : n = k := by omega
      have HO2 : Hid (OwnL wr w.heap.size u5 (keepL l K)) := by
        have := HO.out
        rwa [HN.out, List.take_length] at this
      go_wp2
      go_ret
      exact gives ⟨HO2.out, HG.out⟩
end Go.Proofs.Ytfopmpaoigdelaa
