/- The document's: is a latch among these? -/
import Derived.Test.YtfopmpaoigdelaaKSet
import Derived.Test.YtfopmpaoigdelaaLSame
namespace Go.Proofs.Ytfopmpaoigdelaa
open Go.RowKit

/-- A latch in its place, another in its box. -/
def SH (W : World) (b o bx : Nat) (x y : La) (a : World) : Prop := Fr W a [] ∧
  (a.cell? ⟨b, o, none⟩ = some (.int .i64 x.f) ∧ a.cell? ⟨b, o + 1, none⟩ = some (.int .i64 x.d) ∧ a.cell? ⟨b, o + 2, none⟩ = some (.int .i64 x.g)) ∧
  (a.cell? ⟨bx, 0, none⟩ = some (.int .i64 y.f) ∧ a.cell? ⟨bx, 1, none⟩ = some (.int .i64 y.d) ∧ a.cell? ⟨bx, 2, none⟩ = some (.int .i64 y.g))
theorem SH.fr {W a a' : World} {b o bx : Nat} {x y : La} (h : SH W b o bx x y a) (k : Fr a a' []) : SH W b o bx x y a' := by
  obtain ⟨h0, ⟨h1, h2, h3⟩, h4, h5, h6⟩ := h
  exact ⟨h0.trans k, ⟨k.cell h1 (by simp), k.cell h2 (by simp), k.cell h3 (by simp)⟩, k.cell h4 (by simp), k.cell h5 (by simp), k.cell h6 (by simp)⟩
set_option maxRecDepth 100000 in
theorem hasLatch_any (v : Value) (l : List La) (y : La) (w : World) (hv : HLs w v l) (b : Bool) (hb : b = decide (y ∈ l)) :
    Calls Try.prog 26 #[v, .agg #[.int .i64 y.f, .int .i64 y.d, .int .i64 y.g]] w fun e w' => e = .returned (.bool b) ∧ Fr w w' [] := by
  obtain ⟨a, c, rfl, p1, q1, r1⟩ := hv
  unfold maxLen at q1
  have HLS := Lib.hid r1
  have HB := Lib.hid hb
  obtain ⟨n, hn⟩ : ∃ n, n = l.length := ⟨_, rfl⟩
  have HN := Lib.hid hn
  rw [← hn] at p1 HLS ⊢
  have HF0 := Lib.hid (Fr.alloc w (.cells #[.int .i64 y.f, .int .i64 y.d, .int .i64 y.g] 25) [])
  have HX := Lib.hid (heap_alloc_new w (.cells #[.int .i64 y.f, .int .i64 y.d, .int .i64 y.g] 25))
  clear r1 hb hn
  go_enter Try.func26, Try.ntmps26
  go_wp2
  go_loopw [5] (fun s5 wr => ∃ k : Nat, k ≤ n ∧ s5 = .int .i64 k ∧ Hid (∀ j, j < k → l.getD j zLa ≠ y) ∧ Hid (Fr (w.alloc (.cells #[.int .i64 y.f, .int .i64 y.d, .int .i64 y.g] 25)) wr [])) (fun i _ => n - (intOf i).toNat)
  case atStart => exact ⟨0, Nat.zero_le _, rfl, fun j hj => absurd hj (Nat.not_lt_zero _), (Fr.refl _ _ : Fr _ _ _)⟩
  case round =>
    obtain ⟨k, hk, rfl, HP, HG⟩ := hrel
    by_cases hlt : k < n
    · obtain ⟨bk, off, rfl, hc⟩ := HLS.out (by omega)
      obtain ⟨x, hx⟩ : ∃ x, x = l.getD k zLa := ⟨_, rfl⟩
      have g1 := hc k hlt
      rw [← hx] at g1
      obtain ⟨z0, z1, z2⟩ := row3 (HG.out.heap HX.out (by simp))
      have HK := Lib.hid ((HF0.out.trans HG.out).trans (Fr.drew wr []))
      have HSH := Lib.hid (show SH (w.alloc (.cells #[.int .i64 y.f, .int .i64 y.d, .int .i64 y.g] 25)) bk (off + k * 3) w.heap.size x y wr.drew from
        ⟨HG.out.trans (Fr.drew wr []), ⟨HK.out.cell g1.1 (by simp), HK.out.cell g1.2.1 (by simp), HK.out.cell g1.2.2 (by simp)⟩, (Fr.drew wr []).cell z0 (by simp), (Fr.drew wr []).cell z1 (by simp), (Fr.drew wr []).cell z2 (by simp)⟩)
      by_cases hxy : x = y
      · have HV := Lib.hid (fun W => latch_same x y W true (by simp [hxy]))
        have HN2 : Hid (b = true) := by
          show _ = _
          rw [HB.out, decide_eq_true_iff, ← hxy, hx, List.getD_eq_getElem?_getD, List.getElem?_eq_getElem (by have := HN.out; omega)]
          exact List.getElem_mem _
        clear hx hc g1 z0 z1 z2 hxy
        go_wp2
        refine wp_region_det (S := SH (w.alloc (.cells #[.int .i64 y.f, .int .i64 y.d, .int .i64 y.g] 25)) bk (off + k * 3) w.heap.size x y) (by kernel_rfl) HSH.out ?_
        refine wpDet_take (i := 0) (oi := _) (v := ?dv1) (by simp only [List.getElem?_toArray, List.getElem?_cons_zero]; rfl) (by kernel_rfl) (by kernel_rfl) (by kernel_rfl) (Or.inl ⟨by rfl, ?dy1⟩) ?dr1
        case dy1 => (intro w hSw; have hS0 := hSw; (try dsimp only [SH] at hSw); go_simp; refine Came.value ?_ hS0; with_reducible rfl)
        try simp only [Act.put, List.setIfInBounds_toArray, List.set_cons_zero, List.set_cons_succ]
        refine wpDet_take (i := 1) (oi := _) (v := ?dv2) (by simp only [List.getElem?_toArray, List.getElem?_cons_zero, List.getElem?_cons_succ]; rfl) (by kernel_rfl) (by kernel_rfl) (by kernel_rfl) (Or.inl ⟨by rfl, ?dy2⟩) ?dr2
        case dy2 => (intro w hSw; have hS0 := hSw; (try dsimp only [SH] at hSw); go_simp; refine Came.value ?_ hS0; with_reducible rfl)
        try simp only [Act.put, List.setIfInBounds_toArray, List.set_cons_zero, List.set_cons_succ]
        refine wpDet_take (i := 2) (oi := _) (v := ?dv3) (by simp only [List.getElem?_toArray, List.getElem?_cons_zero, List.getElem?_cons_succ]; rfl) (by kernel_rfl) (by kernel_rfl) (by kernel_rfl) (Or.inl ⟨by rfl, ?dy3⟩) ?dr3
        case dy3 => (intro w hSw; have hS0 := hSw; (try dsimp only [SH] at hSw); go_simp; refine Came.value ?_ hS0; with_reducible rfl)
        try simp only [Act.put, List.setIfInBounds_toArray, List.set_cons_zero, List.set_cons_succ]
        refine wpDet_take (i := 3) (oi := _) (v := ?dv4) (by simp only [List.getElem?_toArray, List.getElem?_cons_zero, List.getElem?_cons_succ]; rfl) (by kernel_rfl) (by kernel_rfl) (by kernel_rfl) (Or.inl ⟨by rfl, ?dy4⟩) ?dr4
        case dy4 => (intro w hSw; have hS0 := hSw; (try dsimp only [SH] at hSw); go_simp; refine Came.value ?_ hS0; with_reducible rfl)
        try simp only [Act.put, List.setIfInBounds_toArray, List.set_cons_zero, List.set_cons_succ]
        refine wpDet_take (i := 4) (oi := _) (v := ?dv5) (by simp only [List.getElem?_toArray, List.getElem?_cons_zero, List.getElem?_cons_succ]; rfl) (by kernel_rfl) (by kernel_rfl) (by kernel_rfl) (Or.inl ⟨by rfl, ?dy5⟩) ?dr5
        case dy5 => (intro w hSw; have hS0 := hSw; (try dsimp only [SH] at hSw); go_simp; refine Came.value ?_ hS0; with_reducible rfl)
        try simp only [Act.put, List.setIfInBounds_toArray, List.set_cons_zero, List.set_cons_succ]
        refine wpDet_take (i := 5) (oi := _) (v := ?dv6) (by simp only [List.getElem?_toArray, List.getElem?_cons_zero, List.getElem?_cons_succ]; rfl) (by kernel_rfl) (by kernel_rfl) (by kernel_rfl) (Or.inl ⟨by rfl, ?dy6⟩) ?dr6
        case dy6 => (intro w hSw; go_simp; exact Came.call ((HV.out w).mono fun e w' ⟨he, hf⟩ => ⟨he, hSw.fr hf⟩) (by with_reducible rfl))
        try simp only [Act.put, List.setIfInBounds_toArray, List.set_cons_zero, List.set_cons_succ]
        refine wpDet_done (by kernel_rfl) ?_ _
        rintro w1 ⟨hF, _, _⟩
        have HF := Lib.hid (HF0.out.trans hF)
        clear hF
        go_wp2
        go_ret
        exact ⟨by rw [HN2.out]; rfl, HF.out⟩
      · have HV := Lib.hid (fun W => latch_same x y W false (by simp [hxy]))
        have HP2 : Hid (∀ j, j < k + 1 → l.getD j zLa ≠ y) := by
          intro j hj
          by_cases e : j = k
          · rw [e, ← hx]; exact hxy
          · exact HP.out j (by omega)
        clear hx hc g1 z0 z1 z2 hxy
        go_wp2
        refine wp_region_det (S := SH (w.alloc (.cells #[.int .i64 y.f, .int .i64 y.d, .int .i64 y.g] 25)) bk (off + k * 3) w.heap.size x y) (by kernel_rfl) HSH.out ?_
        refine wpDet_take (i := 0) (oi := _) (v := ?dv7) (by simp only [List.getElem?_toArray, List.getElem?_cons_zero]; rfl) (by kernel_rfl) (by kernel_rfl) (by kernel_rfl) (Or.inl ⟨by rfl, ?dy7⟩) ?dr7
        case dy7 => (intro w hSw; have hS0 := hSw; (try dsimp only [SH] at hSw); go_simp; refine Came.value ?_ hS0; with_reducible rfl)
        try simp only [Act.put, List.setIfInBounds_toArray, List.set_cons_zero, List.set_cons_succ]
        refine wpDet_take (i := 1) (oi := _) (v := ?dv8) (by simp only [List.getElem?_toArray, List.getElem?_cons_zero, List.getElem?_cons_succ]; rfl) (by kernel_rfl) (by kernel_rfl) (by kernel_rfl) (Or.inl ⟨by rfl, ?dy8⟩) ?dr8
        case dy8 => (intro w hSw; have hS0 := hSw; (try dsimp only [SH] at hSw); go_simp; refine Came.value ?_ hS0; with_reducible rfl)
        try simp only [Act.put, List.setIfInBounds_toArray, List.set_cons_zero, List.set_cons_succ]
        refine wpDet_take (i := 2) (oi := _) (v := ?dv9) (by simp only [List.getElem?_toArray, List.getElem?_cons_zero, List.getElem?_cons_succ]; rfl) (by kernel_rfl) (by kernel_rfl) (by kernel_rfl) (Or.inl ⟨by rfl, ?dy9⟩) ?dr9
        case dy9 => (intro w hSw; have hS0 := hSw; (try dsimp only [SH] at hSw); go_simp; refine Came.value ?_ hS0; with_reducible rfl)
        try simp only [Act.put, List.setIfInBounds_toArray, List.set_cons_zero, List.set_cons_succ]
        refine wpDet_take (i := 3) (oi := _) (v := ?dv10) (by simp only [List.getElem?_toArray, List.getElem?_cons_zero, List.getElem?_cons_succ]; rfl) (by kernel_rfl) (by kernel_rfl) (by kernel_rfl) (Or.inl ⟨by rfl, ?dy10⟩) ?dr10
        case dy10 => (intro w hSw; have hS0 := hSw; (try dsimp only [SH] at hSw); go_simp; refine Came.value ?_ hS0; with_reducible rfl)
        try simp only [Act.put, List.setIfInBounds_toArray, List.set_cons_zero, List.set_cons_succ]
        refine wpDet_take (i := 4) (oi := _) (v := ?dv11) (by simp only [List.getElem?_toArray, List.getElem?_cons_zero, List.getElem?_cons_succ]; rfl) (by kernel_rfl) (by kernel_rfl) (by kernel_rfl) (Or.inl ⟨by rfl, ?dy11⟩) ?dr11
        case dy11 => (intro w hSw; have hS0 := hSw; (try dsimp only [SH] at hSw); go_simp; refine Came.value ?_ hS0; with_reducible rfl)
        try simp only [Act.put, List.setIfInBounds_toArray, List.set_cons_zero, List.set_cons_succ]
        refine wpDet_take (i := 5) (oi := _) (v := ?dv12) (by simp only [List.getElem?_toArray, List.getElem?_cons_zero, List.getElem?_cons_succ]; rfl) (by kernel_rfl) (by kernel_rfl) (by kernel_rfl) (Or.inl ⟨by rfl, ?dy12⟩) ?dr12
        case dy12 => (intro w hSw; go_simp; exact Came.call ((HV.out w).mono fun e w' ⟨he, hf⟩ => ⟨he, hSw.fr hf⟩) (by with_reducible rfl))
        try simp only [Act.put, List.setIfInBounds_toArray, List.set_cons_zero, List.set_cons_succ]
        refine wpDet_done (by kernel_rfl) ?_ _
        rintro w1 ⟨hF, _, _⟩
        have HF := Lib.hid hF
        clear hF
        go_wp2
        go_roundw
        case rel => exact ⟨k + 1, by omega, by go_num, HP2, HF⟩
        case measure => simp [intOf]; omega
    · obtain rfl : n = k := by omega
      have HN2 : Hid (b = false) := by
        show _ = _
        rw [HB.out, decide_eq_false_iff_not]
        intro hm
        obtain ⟨j, hj, hy⟩ := List.getElem_of_mem hm
        refine HP.out j (by have := HN.out; omega) ?_
        rw [List.getD_eq_getElem?_getD, List.getElem?_eq_getElem hj]
        exact hy
      have HF := Lib.hid (HF0.out.trans HG.out)
      go_wp2
      go_ret
      exact ⟨by rw [HN2.out]; rfl, HF.out⟩
end Go.Proofs.Ytfopmpaoigdelaa
