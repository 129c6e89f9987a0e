/- Where a call's latch stands in a set: slices.BinarySearchFunc, find. -/
import Derived.Test.YtfopmpaoigdelaaKCmp
import Derived.Test.YtfopmpaoigdelaaLSame
import Derived.Deep.LoopGhost
namespace Go.Proofs.Ytfopmpaoigdelaa
open Go.RowKit

/-- A latch in its place, the call in its box. -/
def SB (W : World) (b o bt : Nat) (x : La) (f d : Int) (a : World) : Prop := Fr W a [] ∧
  (a.cell? ⟨b, o, none⟩ = some (.int .i64 x.f) ∧ a.cell? ⟨b, o + 1, none⟩ = some (.int .i64 x.d) ∧ a.cell? ⟨b, o + 2, none⟩ = some (.int .i64 x.g)) ∧
  a.cell? ⟨bt, 0, none⟩ = some (.int .i64 f) ∧ a.cell? ⟨bt, 1, none⟩ = some (.int .i64 d)
theorem SB.fr {W a a' : World} {b o bt : Nat} {x : La} {f d : Int} (h : SB W b o bt x f d a) (k : Fr a a' []) : SB W b o bt x f d a' := by
  obtain ⟨h0, ⟨h1, h2, h3⟩, h4, h5⟩ := h
  exact ⟨h0.trans k, ⟨k.cell h1 (by simp), k.cell h2 (by simp), k.cell h3 (by simp)⟩, k.cell h4 (by simp), k.cell h5 (by simp)⟩
def BsE (L : List La) (f d : Int) (lo hi : Nat) : Prop := (∀ j, j < lo → Lt2 (L.getD j zLa).f (L.getD j zLa).d f d) ∧ (∀ j, hi ≤ j → j < L.length → ¬ Lt2 (L.getD j zLa).f (L.getD j zLa).d f d)

set_option maxHeartbeats 1000000 in
set_option maxRecDepth 100000 in
theorem bsf_any (v : Value) (L : List La) (f d : Int) (w : World) (h : HLs w v L) (hs : Sd L) (hl : L.length ≤ 1000000) (i : Nat) (hi : i = posL L f d) (b : Bool) (hb : b = hasL L f d) :
    Calls Try.prog 32 #[v, .agg #[.int .i64 f, .int .i64 d], .func (.func 33) #[] #[]] w fun e w' => e = .returned (.tuple #[.int .i64 i, .bool b]) ∧ Fr w w' [] := by
  obtain ⟨a, c, rfl, p1, q1, r1⟩ := h
  unfold maxLen at q1
  have HS := Lib.hid hs
  have HI := Lib.hid hi
  have HB := Lib.hid hb
  obtain ⟨n, hn⟩ : ∃ n, n = L.length := ⟨_, rfl⟩
  have HN := Lib.hid hn
  have hBT := row2 (heap_alloc_new w (.cells #[.int .i64 f, .int .i64 d] 23))
  have HBT := Lib.hid hBT
  have HF0 := Lib.hid (Fr.alloc w (.cells #[.int .i64 f, .int .i64 d] 23) [])
  rw [← hn] at hl p1 r1 ⊢
  have HLS := Lib.hid r1
  clear hs hi hb hn hBT r1
  go_enter Try.func32, Try.ntmps32
  go_wp2
  go_loopg [9, 10] n (fun kx s9 s10 wr => ∃ lo hi : Nat, s9 = .int .i64 lo ∧ s10 = .int .i64 hi ∧ lo ≤ hi ∧ hi ≤ n ∧ hi - lo ≤ kx ∧ Hid (BsE L f d lo hi) ∧ Hid (Fr (w.alloc (.cells #[.int .i64 f, .int .i64 d] 23)) wr []))
  case atStart => exact ⟨0, n, rfl, rfl, Nat.zero_le _, Nat.le_refl _, by omega, (⟨fun j hj => absurd hj (Nat.not_lt_zero _), fun j h1 h2 => by have := HN.out; omega⟩ : BsE L f d 0 n), (Fr.refl _ _ : Fr _ _ [])⟩
  case round =>
    obtain ⟨lo, hi, rfl, rfl, hlh, hin, hg, I, G⟩ := hrel
    by_cases hlt : lo < hi
    · obtain ⟨m, hm⟩ : ∃ m, m = (lo + hi) / 2 := ⟨_, rfl⟩
      have hm1 : lo ≤ m := by omega
      have hm2 : m < hi := by omega
      have hme : ((lo : Int) + (hi : Int)) / 2 = (m : Int) := by omega
      clear hm
      obtain ⟨bk, off, rfl, hc⟩ := HLS.out (by omega)
      have g1 := hc m (by omega)
      obtain ⟨x, hx⟩ : ∃ x, x = L.getD m zLa := ⟨_, rfl⟩
      rw [← hx] at g1
      have HX := Lib.hid hx
      have HSB := Lib.hid (show SB (w.alloc (.cells #[.int .i64 f, .int .i64 d] 23)) bk (off + m * 3) w.heap.size x f d wr.drew from
        ⟨G.out.trans (Fr.drew _ []), ⟨((HF0.out.trans G.out).trans (Fr.drew _ [])).cell g1.1 (by simp), ((HF0.out.trans G.out).trans (Fr.drew _ [])).cell g1.2.1 (by simp), ((HF0.out.trans G.out).trans (Fr.drew _ [])).cell g1.2.2 (by simp)⟩,
          (G.out.trans (Fr.drew _ [])).cell HBT.out.1 (by simp), (G.out.trans (Fr.drew _ [])).cell HBT.out.2 (by simp)⟩)
      have HV := Lib.hid (fun W => clos_any x f d W)
      have hmn : m < n := by omega
      obtain ⟨cc, hcc⟩ : ∃ cc, cc = cmp2 x.f x.d f d := ⟨_, rfl⟩
      have HCC := Lib.hid hcc
      rw [← hcc] at HV
      have HLT := Lib.hid (cmp2_lt x.f x.d f d)
      clear hx hc g1 hcc
      by_cases hneg : cc < 0
      · have HI2 : Hid (BsE L f d (m + 1) hi) := by
          have hq : Lt2 x.f x.d f d := by rw [← HLT.out, ← HCC.out]; exact hneg
          refine (⟨fun j hj => ?_, I.out.2⟩ : BsE L f d (m + 1) hi)
          rw [HX.out] at hq
          rcases Nat.lt_trichotomy j m with t | t | t
          · have h1 := List.pairwise_iff_getElem.1 HS.out j m (by have := HN.out; omega) (by have := HN.out; omega) t
            have e1 : L.getD j zLa = L[j]'(by have := HN.out; omega) := by rw [List.getD_eq_getElem?_getD, List.getElem?_eq_getElem]; rfl
            have e2 : L.getD m zLa = L[m]'(by have := HN.out; omega) := by rw [List.getD_eq_getElem?_getD, List.getElem?_eq_getElem]; rfl
            rw [e1]
            rw [e2] at hq
            exact h1.trans hq
          · rw [t]; exact hq
          · omega
        clear I HX
        go_wp2
        refine wp_region_det (S := SB (w.alloc (.cells #[.int .i64 f, .int .i64 d] 23)) bk (off + m * 3) w.heap.size x f d) (by kernel_rfl) HSB.out ?_
        refine wpDet_take (i := 0) (oi := _) (v := ?dv1) (by simp only [List.getElem?_toArray, List.getElem?_cons_zero]; rfl) (by kernel_rfl) (by kernel_rfl) (by kernel_rfl) (Or.inl ⟨by rfl, ?dy1⟩) ?dr1
        case dy1 => (intro w hSw; have hS0 := hSw; (try dsimp only [SB] at hSw); go_simp; refine Came.value ?_ hS0; with_reducible rfl)
        try simp only [Act.put, List.setIfInBounds_toArray, List.set_cons_zero, List.set_cons_succ]
        refine wpDet_take (i := 1) (oi := _) (v := ?dv2) (by simp only [List.getElem?_toArray, List.getElem?_cons_zero, List.getElem?_cons_succ]; rfl) (by kernel_rfl) (by kernel_rfl) (by kernel_rfl) (Or.inl ⟨by rfl, ?dy2⟩) ?dr2
        case dy2 => (intro w hSw; have hS0 := hSw; (try dsimp only [SB] at hSw); go_simp; refine Came.value ?_ hS0; with_reducible rfl)
        try simp only [Act.put, List.setIfInBounds_toArray, List.set_cons_zero, List.set_cons_succ]
        refine wpDet_take (i := 2) (oi := _) (v := ?dv3) (by simp only [List.getElem?_toArray, List.getElem?_cons_zero, List.getElem?_cons_succ]; rfl) (by kernel_rfl) (by kernel_rfl) (by kernel_rfl) (Or.inl ⟨by rfl, ?dy3⟩) ?dr3
        case dy3 => (intro w hSw; have hS0 := hSw; (try dsimp only [SB] at hSw); go_simp; refine Came.value ?_ hS0; with_reducible rfl)
        try simp only [Act.put, List.setIfInBounds_toArray, List.set_cons_zero, List.set_cons_succ]
        refine wpDet_take (i := 3) (oi := _) (v := ?dv4) (by simp only [List.getElem?_toArray, List.getElem?_cons_zero, List.getElem?_cons_succ]; rfl) (by kernel_rfl) (by kernel_rfl) (by kernel_rfl) (Or.inl ⟨by rfl, ?dy4⟩) ?dr4
        case dy4 => (intro w hSw; have hS0 := hSw; (try dsimp only [SB] at hSw); go_simp; refine Came.value ?_ hS0; with_reducible rfl)
        try simp only [Act.put, List.setIfInBounds_toArray, List.set_cons_zero, List.set_cons_succ]
        refine wpDet_take (i := 4) (oi := _) (v := ?dv5) (by simp only [List.getElem?_toArray, List.getElem?_cons_zero, List.getElem?_cons_succ]; rfl) (by kernel_rfl) (by kernel_rfl) (by kernel_rfl) (Or.inl ⟨by rfl, ?dy5⟩) ?dr5
        case dy5 => (intro w hSw; have hS0 := hSw; (try dsimp only [SB] at hSw); go_simp; refine Came.value ?_ hS0; with_reducible rfl)
        try simp only [Act.put, List.setIfInBounds_toArray, List.set_cons_zero, List.set_cons_succ]
        refine wpDet_take (i := 5) (oi := _) (v := ?dv6) (by simp only [List.getElem?_toArray, List.getElem?_cons_zero, List.getElem?_cons_succ]; rfl) (by kernel_rfl) (by kernel_rfl) (by kernel_rfl) (Or.inl ⟨by rfl, ?dy6⟩) ?dr6
        case dy6 => (intro w hSw; have hS0 := hSw; (try dsimp only [SB] at hSw); go_simp; refine Came.value ?_ hS0; with_reducible rfl)
        try simp only [Act.put, List.setIfInBounds_toArray, List.set_cons_zero, List.set_cons_succ]
        refine wpDet_take (i := 6) (oi := _) (v := ?dv7) (by simp only [List.getElem?_toArray, List.getElem?_cons_zero, List.getElem?_cons_succ]; rfl) (by kernel_rfl) (by kernel_rfl) (by kernel_rfl) (Or.inl ⟨by rfl, ?dy7⟩) ?dr7
        case dy7 => (intro w hSw; go_simp; exact Came.call ((HV.out w).mono fun e w' ⟨he, hf⟩ => ⟨he, hSw.fr hf⟩) (by with_reducible rfl))
        try simp only [Act.put, List.setIfInBounds_toArray, List.set_cons_zero, List.set_cons_succ]
        refine wpDet_take (i := 7) (oi := _) (v := ?dv8) (by simp only [List.getElem?_toArray, List.getElem?_cons_zero, List.getElem?_cons_succ]; rfl) (by kernel_rfl) (by kernel_rfl) (by kernel_rfl) (Or.inl ⟨by rfl, ?dy8⟩) ?dr8
        case dy8 => (intro w hSw; have hS0 := hSw; (try dsimp only [SB] at hSw); go_simp; refine Came.value ?_ hS0; with_reducible rfl)
        try simp only [Act.put, List.setIfInBounds_toArray, List.set_cons_zero, List.set_cons_succ]
        refine wpDet_done (by kernel_rfl) ?_ _
        rintro w1 ⟨hF, _, _⟩
        have HF := Lib.hid hF
        clear hF
        go_wp2
        go_roundg (hi - (m + 1))
        case measure => omega
        case rel => exact ⟨m + 1, hi, by go_num, rfl, by omega, hin, Nat.le_refl _, HI2, HF⟩
      · have HI2 : Hid (BsE L f d lo m) := by
          have hq : ¬ Lt2 x.f x.d f d := by rw [← HLT.out, ← HCC.out]; exact hneg
          refine (⟨I.out.1, fun j hj hjl => ?_⟩ : BsE L f d lo m)
          rw [HX.out] at hq
          rcases Nat.lt_trichotomy m j with t | t | t
          · have h1 := List.pairwise_iff_getElem.1 HS.out m j (by have := HN.out; omega) (by have := HN.out; omega) t
            have e1 : L.getD j zLa = L[j]'(by have := HN.out; omega) := by rw [List.getD_eq_getElem?_getD, List.getElem?_eq_getElem]; rfl
            have e2 : L.getD m zLa = L[m]'(by have := HN.out; omega) := by rw [List.getD_eq_getElem?_getD, List.getElem?_eq_getElem]; rfl
            rw [e1]
            rw [e2] at hq
            exact fun k => hq (h1.trans k)
          · rw [← t]; exact hq
          · omega
        clear I HX
        go_wp2
        refine wp_region_det (S := SB (w.alloc (.cells #[.int .i64 f, .int .i64 d] 23)) bk (off + m * 3) w.heap.size x f d) (by kernel_rfl) HSB.out ?_
        refine wpDet_take (i := 0) (oi := _) (v := ?dv9) (by simp only [List.getElem?_toArray, List.getElem?_cons_zero]; rfl) (by kernel_rfl) (by kernel_rfl) (by kernel_rfl) (Or.inl ⟨by rfl, ?dy9⟩) ?dr9
        case dy9 => (intro w hSw; have hS0 := hSw; (try dsimp only [SB] at hSw); go_simp; refine Came.value ?_ hS0; with_reducible rfl)
        try simp only [Act.put, List.setIfInBounds_toArray, List.set_cons_zero, List.set_cons_succ]
        refine wpDet_take (i := 1) (oi := _) (v := ?dv10) (by simp only [List.getElem?_toArray, List.getElem?_cons_zero, List.getElem?_cons_succ]; rfl) (by kernel_rfl) (by kernel_rfl) (by kernel_rfl) (Or.inl ⟨by rfl, ?dy10⟩) ?dr10
        case dy10 => (intro w hSw; have hS0 := hSw; (try dsimp only [SB] at hSw); go_simp; refine Came.value ?_ hS0; with_reducible rfl)
        try simp only [Act.put, List.setIfInBounds_toArray, List.set_cons_zero, List.set_cons_succ]
        refine wpDet_take (i := 2) (oi := _) (v := ?dv11) (by simp only [List.getElem?_toArray, List.getElem?_cons_zero, List.getElem?_cons_succ]; rfl) (by kernel_rfl) (by kernel_rfl) (by kernel_rfl) (Or.inl ⟨by rfl, ?dy11⟩) ?dr11
        case dy11 => (intro w hSw; have hS0 := hSw; (try dsimp only [SB] at hSw); go_simp; refine Came.value ?_ hS0; with_reducible rfl)
        try simp only [Act.put, List.setIfInBounds_toArray, List.set_cons_zero, List.set_cons_succ]
        refine wpDet_take (i := 3) (oi := _) (v := ?dv12) (by simp only [List.getElem?_toArray, List.getElem?_cons_zero, List.getElem?_cons_succ]; rfl) (by kernel_rfl) (by kernel_rfl) (by kernel_rfl) (Or.inl ⟨by rfl, ?dy12⟩) ?dr12
        case dy12 => (intro w hSw; have hS0 := hSw; (try dsimp only [SB] at hSw); go_simp; refine Came.value ?_ hS0; with_reducible rfl)
        try simp only [Act.put, List.setIfInBounds_toArray, List.set_cons_zero, List.set_cons_succ]
        refine wpDet_take (i := 4) (oi := _) (v := ?dv13) (by simp only [List.getElem?_toArray, List.getElem?_cons_zero, List.getElem?_cons_succ]; rfl) (by kernel_rfl) (by kernel_rfl) (by kernel_rfl) (Or.inl ⟨by rfl, ?dy13⟩) ?dr13
        case dy13 => (intro w hSw; have hS0 := hSw; (try dsimp only [SB] at hSw); go_simp; refine Came.value ?_ hS0; with_reducible rfl)
        try simp only [Act.put, List.setIfInBounds_toArray, List.set_cons_zero, List.set_cons_succ]
        refine wpDet_take (i := 5) (oi := _) (v := ?dv14) (by simp only [List.getElem?_toArray, List.getElem?_cons_zero, List.getElem?_cons_succ]; rfl) (by kernel_rfl) (by kernel_rfl) (by kernel_rfl) (Or.inl ⟨by rfl, ?dy14⟩) ?dr14
        case dy14 => (intro w hSw; have hS0 := hSw; (try dsimp only [SB] at hSw); go_simp; refine Came.value ?_ hS0; with_reducible rfl)
        try simp only [Act.put, List.setIfInBounds_toArray, List.set_cons_zero, List.set_cons_succ]
        refine wpDet_take (i := 6) (oi := _) (v := ?dv15) (by simp only [List.getElem?_toArray, List.getElem?_cons_zero, List.getElem?_cons_succ]; rfl) (by kernel_rfl) (by kernel_rfl) (by kernel_rfl) (Or.inl ⟨by rfl, ?dy15⟩) ?dr15
        case dy15 => (intro w hSw; go_simp; exact Came.call ((HV.out w).mono fun e w' ⟨he, hf⟩ => ⟨he, hSw.fr hf⟩) (by with_reducible rfl))
        try simp only [Act.put, List.setIfInBounds_toArray, List.set_cons_zero, List.set_cons_succ]
        refine wpDet_take (i := 7) (oi := _) (v := ?dv16) (by simp only [List.getElem?_toArray, List.getElem?_cons_zero, List.getElem?_cons_succ]; rfl) (by kernel_rfl) (by kernel_rfl) (by kernel_rfl) (Or.inl ⟨by rfl, ?dy16⟩) ?dr16
        case dy16 => (intro w hSw; have hS0 := hSw; (try dsimp only [SB] at hSw); go_simp; refine Came.value ?_ hS0; with_reducible rfl)
        try simp only [Act.put, List.setIfInBounds_toArray, List.set_cons_zero, List.set_cons_succ]
        refine wpDet_done (by kernel_rfl) ?_ _
        rintro w1 ⟨hF, _, _⟩
        have HF := Lib.hid hF
        clear hF
        go_wp2
        go_roundg (m - lo)
        case measure => omega
        case rel => exact ⟨lo, m, rfl, rfl, by omega, by omega, Nat.le_refl _, HI2, HF⟩
    · obtain rfl : hi = lo := by omega
      have HP : Hid (i = hi) := by
        show _ = _
        rw [HI.out]
        exact HS.out.pos_eq (by have := HN.out; omega) I.out.1 I.out.2
      have HA := Lib.hid (HS.out.has_at f d)
      rw [← HB.out, ← HI.out, HP.out, ← HN.out] at HA
      by_cases hin2 : hi < n
      · have hin3 : decide ((hi : Int) < (n : Int)) = true := by simp; omega
        obtain ⟨bk, off, rfl, hc⟩ := HLS.out (by omega)
        have g1 := hc hi hin2
        obtain ⟨x, hx⟩ : ∃ x, x = L.getD hi zLa := ⟨_, rfl⟩
        rw [← hx] at g1 HA
        have HSB := Lib.hid (show SB (w.alloc (.cells #[.int .i64 f, .int .i64 d] 23)) bk (off + hi * 3) w.heap.size x f d wr.drew from
          ⟨G.out.trans (Fr.drew _ []), ⟨((HF0.out.trans G.out).trans (Fr.drew _ [])).cell g1.1 (by simp), ((HF0.out.trans G.out).trans (Fr.drew _ [])).cell g1.2.1 (by simp), ((HF0.out.trans G.out).trans (Fr.drew _ [])).cell g1.2.2 (by simp)⟩,
            (G.out.trans (Fr.drew _ [])).cell HBT.out.1 (by simp), (G.out.trans (Fr.drew _ [])).cell HBT.out.2 (by simp)⟩)
        have HV := Lib.hid (fun W => clos_any x f d W)
        obtain ⟨cc, hcc⟩ : ∃ cc, cc = cmp2 x.f x.d f d := ⟨_, rfl⟩
        rw [← hcc] at HV
        have HB2 : Hid (b = (cc == 0)) := by
          show _ = _
          rw [HA.out, hcc]
          have := cmp2_zero x.f x.d f d
          rw [Bool.eq_iff_iff, beq_iff_eq, this, decide_eq_true_iff]
          exact ⟨fun k => k.2, fun k => ⟨hin2, k⟩⟩
        obtain ⟨bb, hbb⟩ : ∃ bb, (cc == 0) = bb := ⟨_, rfl⟩
        rw [hbb] at HB2
        clear hx hc g1 hcc I HA
        go_wp2
        refine wp_region_det (S := SB (w.alloc (.cells #[.int .i64 f, .int .i64 d] 23)) bk (off + hi * 3) w.heap.size x f d) (by kernel_rfl) HSB.out ?_
        refine wpDet_take (i := 0) (oi := _) (v := ?dv17) (by simp only [List.getElem?_toArray, List.getElem?_cons_zero]; rfl) (by kernel_rfl) (by kernel_rfl) (by kernel_rfl) (Or.inl ⟨by rfl, ?dy17⟩) ?dr17
        case dy17 => (intro w hSw; have hS0 := hSw; (try dsimp only [SB] at hSw); go_simp; refine Came.value ?_ hS0; with_reducible rfl)
        try simp only [Act.put, List.setIfInBounds_toArray, List.set_cons_zero, List.set_cons_succ]
        refine wpDet_take (i := 1) (oi := _) (v := ?dv18) (by simp only [List.getElem?_toArray, List.getElem?_cons_zero, List.getElem?_cons_succ]; rfl) (by kernel_rfl) (by kernel_rfl) (by kernel_rfl) (Or.inl ⟨by rfl, ?dy18⟩) ?dr18
        case dy18 => (intro w hSw; have hS0 := hSw; (try dsimp only [SB] at hSw); go_simp; refine Came.value ?_ hS0; with_reducible rfl)
        try simp only [Act.put, List.setIfInBounds_toArray, List.set_cons_zero, List.set_cons_succ]
        refine wpDet_take (i := 2) (oi := _) (v := ?dv19) (by simp only [List.getElem?_toArray, List.getElem?_cons_zero, List.getElem?_cons_succ]; rfl) (by kernel_rfl) (by kernel_rfl) (by kernel_rfl) (Or.inl ⟨by rfl, ?dy19⟩) ?dr19
        case dy19 => (intro w hSw; have hS0 := hSw; (try dsimp only [SB] at hSw); go_simp; refine Came.value ?_ hS0; with_reducible rfl)
        try simp only [Act.put, List.setIfInBounds_toArray, List.set_cons_zero, List.set_cons_succ]
        refine wpDet_take (i := 3) (oi := _) (v := ?dv20) (by simp only [List.getElem?_toArray, List.getElem?_cons_zero, List.getElem?_cons_succ]; rfl) (by kernel_rfl) (by kernel_rfl) (by kernel_rfl) (Or.inl ⟨by rfl, ?dy20⟩) ?dr20
        case dy20 => (intro w hSw; have hS0 := hSw; (try dsimp only [SB] at hSw); go_simp; refine Came.value ?_ hS0; with_reducible rfl)
        try simp only [Act.put, List.setIfInBounds_toArray, List.set_cons_zero, List.set_cons_succ]
        refine wpDet_take (i := 4) (oi := _) (v := ?dv21) (by simp only [List.getElem?_toArray, List.getElem?_cons_zero, List.getElem?_cons_succ]; rfl) (by kernel_rfl) (by kernel_rfl) (by kernel_rfl) (Or.inl ⟨by rfl, ?dy21⟩) ?dr21
        case dy21 => (intro w hSw; have hS0 := hSw; (try dsimp only [SB] at hSw); go_simp; refine Came.value ?_ hS0; with_reducible rfl)
        try simp only [Act.put, List.setIfInBounds_toArray, List.set_cons_zero, List.set_cons_succ]
        refine wpDet_take (i := 5) (oi := _) (v := ?dv22) (by simp only [List.getElem?_toArray, List.getElem?_cons_zero, List.getElem?_cons_succ]; rfl) (by kernel_rfl) (by kernel_rfl) (by kernel_rfl) (Or.inl ⟨by rfl, ?dy22⟩) ?dr22
        case dy22 => (intro w hSw; have hS0 := hSw; (try dsimp only [SB] at hSw); go_simp; refine Came.value ?_ hS0; with_reducible rfl)
        try simp only [Act.put, List.setIfInBounds_toArray, List.set_cons_zero, List.set_cons_succ]
        refine wpDet_take (i := 6) (oi := _) (v := ?dv23) (by simp only [List.getElem?_toArray, List.getElem?_cons_zero, List.getElem?_cons_succ]; rfl) (by kernel_rfl) (by kernel_rfl) (by kernel_rfl) (Or.inl ⟨by rfl, ?dy23⟩) ?dr23
        case dy23 => (intro w hSw; have hS0 := hSw; (try dsimp only [SB] at hSw); go_simp; refine Came.value ?_ hS0; with_reducible rfl)
        try simp only [Act.put, List.setIfInBounds_toArray, List.set_cons_zero, List.set_cons_succ]
        refine wpDet_take (i := 7) (oi := _) (v := ?dv24) (by simp only [List.getElem?_toArray, List.getElem?_cons_zero, List.getElem?_cons_succ]; rfl) (by kernel_rfl) (by kernel_rfl) (by kernel_rfl) (Or.inl ⟨by rfl, ?dy24⟩) ?dr24
        case dy24 => (intro w hSw; have hS0 := hSw; (try dsimp only [SB] at hSw); go_simp; refine Came.value ?_ hS0; with_reducible rfl)
        try simp only [Act.put, List.setIfInBounds_toArray, List.set_cons_zero, List.set_cons_succ]
        refine wpDet_take (i := 8) (oi := _) (v := ?dv25) (by simp only [List.getElem?_toArray, List.getElem?_cons_zero, List.getElem?_cons_succ]; rfl) (by kernel_rfl) (by kernel_rfl) (by kernel_rfl) (Or.inl ⟨by rfl, ?dy25⟩) ?dr25
        case dy25 => (intro w hSw; have hS0 := hSw; (try dsimp only [SB] at hSw); go_simp; refine Came.value ?_ hS0; with_reducible rfl)
        try simp only [Act.put, List.setIfInBounds_toArray, List.set_cons_zero, List.set_cons_succ]
        refine wpDet_take (i := 9) (oi := _) (v := ?dv26) (by simp only [List.getElem?_toArray, List.getElem?_cons_zero, List.getElem?_cons_succ]; rfl) (by kernel_rfl) (by kernel_rfl) (by kernel_rfl) (Or.inl ⟨by rfl, ?dy26⟩) ?dr26
        case dy26 => (intro w hSw; have hS0 := hSw; (try dsimp only [SB] at hSw); go_simp; refine Came.value ?_ hS0; with_reducible rfl)
        try simp only [Act.put, List.setIfInBounds_toArray, List.set_cons_zero, List.set_cons_succ]
        refine wpDet_take (i := 10) (oi := _) (v := ?dv27) (by simp only [List.getElem?_toArray, List.getElem?_cons_zero, List.getElem?_cons_succ]; rfl) (by kernel_rfl) (by kernel_rfl) (by kernel_rfl) (Or.inl ⟨by rfl, ?dy27⟩) ?dr27
        case dy27 => (intro w hSw; have hS0 := hSw; (try dsimp only [SB] at hSw); go_simp; refine Came.value ?_ hS0; with_reducible rfl)
        try simp only [Act.put, List.setIfInBounds_toArray, List.set_cons_zero, List.set_cons_succ]
        refine wpDet_take (i := 11) (oi := _) (v := ?dv28) (by simp only [List.getElem?_toArray, List.getElem?_cons_zero, List.getElem?_cons_succ]; rfl) (by kernel_rfl) (by kernel_rfl) (by kernel_rfl) (Or.inl ⟨by rfl, ?dy28⟩) ?dr28
        case dy28 => (intro w hSw; go_simp; exact Came.call ((HV.out w).mono fun e w' ⟨he, hf⟩ => ⟨he, hSw.fr hf⟩) (by with_reducible rfl))
        try simp only [Act.put, List.setIfInBounds_toArray, List.set_cons_zero, List.set_cons_succ]
        refine wpDet_take (i := 12) (oi := _) (v := ?dv29) (by simp only [List.getElem?_toArray, List.getElem?_cons_zero, List.getElem?_cons_succ]; rfl) (by kernel_rfl) (by kernel_rfl) (by kernel_rfl) (Or.inl ⟨by rfl, ?dy29⟩) ?dr29
        case dy29 => (intro w hSw; have hS0 := hSw; (try dsimp only [SB] at hSw); go_simp; refine Came.value ?_ hS0; with_reducible rfl)
        try simp only [Act.put, List.setIfInBounds_toArray, List.set_cons_zero, List.set_cons_succ]
        refine wpDet_take (i := 13) (oi := _) (v := ?dv30) (by simp only [List.getElem?_toArray, List.getElem?_cons_zero, List.getElem?_cons_succ]; rfl) (by kernel_rfl) (by kernel_rfl) (by kernel_rfl) (Or.inl ⟨by rfl, ?dy30⟩) ?dr30
        case dy30 => (intro w hSw; have hS0 := hSw; (try dsimp only [SB] at hSw); go_simp; refine Came.value ?_ hS0; with_reducible rfl)
        try simp only [Act.put, List.setIfInBounds_toArray, List.set_cons_zero, List.set_cons_succ]
        refine wpDet_take (i := 14) (oi := _) (v := ?dv31) (by simp only [List.getElem?_toArray, List.getElem?_cons_zero, List.getElem?_cons_succ]; rfl) (by kernel_rfl) (by kernel_rfl) (by kernel_rfl) (Or.inl ⟨by rfl, ?dy31⟩) ?dr31
        case dy31 => (intro w hSw; have hS0 := hSw; (try dsimp only [SB] at hSw); go_simp; refine Came.value ?_ hS0; with_reducible rfl)
        try simp only [Act.put, List.setIfInBounds_toArray, List.set_cons_zero, List.set_cons_succ]
        refine wpDet_take (i := 15) (oi := _) (v := ?dv32) (by simp only [List.getElem?_toArray, List.getElem?_cons_zero, List.getElem?_cons_succ]; rfl) (by kernel_rfl) (by kernel_rfl) (by kernel_rfl) (Or.inl ⟨by rfl, ?dy32⟩) ?dr32
        case dy32 => (intro w hSw; have hS0 := hSw; (try dsimp only [SB] at hSw); go_simp; refine Came.value ?_ hS0; with_reducible rfl)
        try simp only [Act.put, List.setIfInBounds_toArray, List.set_cons_zero, List.set_cons_succ]
        refine wpDet_done (by kernel_rfl) ?_ _
        rintro w1 ⟨hF, _, _⟩
        have HF := Lib.hid (HF0.out.trans hF)
        clear hF
        go_wp2
        go_ret2
        exact ⟨by rw [HP.out, HB2.out]; rfl, HF.out⟩
      · have hin3 : decide ((hi : Int) < (n : Int)) = false := by simp; omega
        have HB2 : Hid (b = false) := by
          show _ = _
          rw [HA.out, decide_eq_false_iff_not]
          exact fun k => hin2 k.1
        have HG : Hid (Fr w wr.drew []) := (HF0.out.trans G.out).trans (Fr.drew _ [])
        clear I HA
        go_wp2
        refine wp_region_det (S := fun a => Fr w a []) (by kernel_rfl) HG.out ?_
        refine wpDet_take (i := 0) (oi := _) (v := ?dv33) (by simp only [List.getElem?_toArray, List.getElem?_cons_zero]; rfl) (by kernel_rfl) (by kernel_rfl) (by kernel_rfl) (Or.inl ⟨by rfl, ?dy33⟩) ?dr33
        case dy33 => (intro w hSw; have hS0 := hSw; (try dsimp only at hSw); go_simp; refine Came.value ?_ hS0; with_reducible rfl)
        try simp only [Act.put, List.setIfInBounds_toArray, List.set_cons_zero, List.set_cons_succ]
        refine wpDet_take (i := 1) (oi := _) (v := ?dv34) (by simp only [List.getElem?_toArray, List.getElem?_cons_zero, List.getElem?_cons_succ]; rfl) (by kernel_rfl) (by kernel_rfl) (by kernel_rfl) (Or.inl ⟨by rfl, ?dy34⟩) ?dr34
        case dy34 => (intro w hSw; have hS0 := hSw; (try dsimp only at hSw); go_simp; refine Came.value ?_ hS0; with_reducible rfl)
        try simp only [Act.put, List.setIfInBounds_toArray, List.set_cons_zero, List.set_cons_succ]
        refine wpDet_take (i := 2) (oi := _) (v := ?dv35) (by simp only [List.getElem?_toArray, List.getElem?_cons_zero, List.getElem?_cons_succ]; rfl) (by kernel_rfl) (by kernel_rfl) (by kernel_rfl) (Or.inl ⟨by rfl, ?dy35⟩) ?dr35
        case dy35 => (intro w hSw; have hS0 := hSw; (try dsimp only at hSw); go_simp; refine Came.value ?_ hS0; with_reducible rfl)
        try simp only [Act.put, List.setIfInBounds_toArray, List.set_cons_zero, List.set_cons_succ]
        refine wpDet_take (i := 3) (oi := _) (v := ?dv36) (by simp only [List.getElem?_toArray, List.getElem?_cons_zero, List.getElem?_cons_succ]; rfl) (by kernel_rfl) (by kernel_rfl) (by kernel_rfl) (Or.inl ⟨by rfl, ?dy36⟩) ?dr36
        case dy36 => (intro w hSw; have hS0 := hSw; (try dsimp only at hSw); go_simp; refine Came.value ?_ hS0; with_reducible rfl)
        try simp only [Act.put, List.setIfInBounds_toArray, List.set_cons_zero, List.set_cons_succ]
        refine wpDet_take (i := 4) (oi := _) (v := ?dv37) (by simp only [List.getElem?_toArray, List.getElem?_cons_zero, List.getElem?_cons_succ]; rfl) (by kernel_rfl) (by kernel_rfl) (by kernel_rfl) (Or.inl ⟨by rfl, ?dy37⟩) ?dr37
        case dy37 => (intro w hSw; have hS0 := hSw; (try dsimp only at hSw); go_simp; refine Came.value ?_ hS0; with_reducible rfl)
        try simp only [Act.put, List.setIfInBounds_toArray, List.set_cons_zero, List.set_cons_succ]
        refine wpDet_take (i := 5) (oi := _) (v := undef) (by simp only [List.getElem?_toArray, List.getElem?_cons_zero, List.getElem?_cons_succ]; rfl) (by kernel_rfl) (by kernel_rfl) (by kernel_rfl) (Or.inr ⟨by rfl, rfl⟩) ?_
        try simp only [Act.put, List.setIfInBounds_toArray, List.set_cons_zero, List.set_cons_succ]
        refine wpDet_take (i := 6) (oi := _) (v := undef) (by simp only [List.getElem?_toArray, List.getElem?_cons_zero, List.getElem?_cons_succ]; rfl) (by kernel_rfl) (by kernel_rfl) (by kernel_rfl) (Or.inr ⟨by rfl, rfl⟩) ?_
        try simp only [Act.put, List.setIfInBounds_toArray, List.set_cons_zero, List.set_cons_succ]
        refine wpDet_take (i := 7) (oi := _) (v := undef) (by simp only [List.getElem?_toArray, List.getElem?_cons_zero, List.getElem?_cons_succ]; rfl) (by kernel_rfl) (by kernel_rfl) (by kernel_rfl) (Or.inr ⟨by rfl, rfl⟩) ?_
        try simp only [Act.put, List.setIfInBounds_toArray, List.set_cons_zero, List.set_cons_succ]
        refine wpDet_take (i := 8) (oi := _) (v := undef) (by simp only [List.getElem?_toArray, List.getElem?_cons_zero, List.getElem?_cons_succ]; rfl) (by kernel_rfl) (by kernel_rfl) (by kernel_rfl) (Or.inr ⟨by rfl, rfl⟩) ?_
        try simp only [Act.put, List.setIfInBounds_toArray, List.set_cons_zero, List.set_cons_succ]
        refine wpDet_take (i := 9) (oi := _) (v := undef) (by simp only [List.getElem?_toArray, List.getElem?_cons_zero, List.getElem?_cons_succ]; rfl) (by kernel_rfl) (by kernel_rfl) (by kernel_rfl) (Or.inr ⟨by rfl, rfl⟩) ?_
        try simp only [Act.put, List.setIfInBounds_toArray, List.set_cons_zero, List.set_cons_succ]
        refine wpDet_take (i := 10) (oi := _) (v := undef) (by simp only [List.getElem?_toArray, List.getElem?_cons_zero, List.getElem?_cons_succ]; rfl) (by kernel_rfl) (by kernel_rfl) (by kernel_rfl) (Or.inr ⟨by rfl, rfl⟩) ?_
        try simp only [Act.put, List.setIfInBounds_toArray, List.set_cons_zero, List.set_cons_succ]
        refine wpDet_take (i := 11) (oi := _) (v := undef) (by simp only [List.getElem?_toArray, List.getElem?_cons_zero, List.getElem?_cons_succ]; rfl) (by kernel_rfl) (by kernel_rfl) (by kernel_rfl) (Or.inr ⟨by rfl, rfl⟩) ?_
        try simp only [Act.put, List.setIfInBounds_toArray, List.set_cons_zero, List.set_cons_succ]
        refine wpDet_take (i := 12) (oi := _) (v := undef) (by simp only [List.getElem?_toArray, List.getElem?_cons_zero, List.getElem?_cons_succ]; rfl) (by kernel_rfl) (by kernel_rfl) (by kernel_rfl) (Or.inr ⟨by rfl, rfl⟩) ?_
        try simp only [Act.put, List.setIfInBounds_toArray, List.set_cons_zero, List.set_cons_succ]
        refine wpDet_take (i := 13) (oi := _) (v := ?dv46) (by simp only [List.getElem?_toArray, List.getElem?_cons_zero, List.getElem?_cons_succ]; rfl) (by kernel_rfl) (by kernel_rfl) (by kernel_rfl) (Or.inl ⟨by rfl, ?dy46⟩) ?dr46
        case dy46 => (intro w hSw; have hS0 := hSw; (try dsimp only at hSw); go_simp; refine Came.value ?_ hS0; with_reducible rfl)
        try simp only [Act.put, List.setIfInBounds_toArray, List.set_cons_zero, List.set_cons_succ]
        refine wpDet_take (i := 14) (oi := _) (v := ?dv47) (by simp only [List.getElem?_toArray, List.getElem?_cons_zero, List.getElem?_cons_succ]; rfl) (by kernel_rfl) (by kernel_rfl) (by kernel_rfl) (Or.inl ⟨by rfl, ?dy47⟩) ?dr47
        case dy47 => (intro w hSw; have hS0 := hSw; (try dsimp only at hSw); go_simp; refine Came.value ?_ hS0; with_reducible rfl)
        try simp only [Act.put, List.setIfInBounds_toArray, List.set_cons_zero, List.set_cons_succ]
        refine wpDet_take (i := 15) (oi := _) (v := ?dv48) (by simp only [List.getElem?_toArray, List.getElem?_cons_zero, List.getElem?_cons_succ]; rfl) (by kernel_rfl) (by kernel_rfl) (by kernel_rfl) (Or.inl ⟨by rfl, ?dy48⟩) ?dr48
        case dy48 => (intro w hSw; have hS0 := hSw; (try dsimp only at hSw); go_simp; refine Came.value ?_ hS0; with_reducible rfl)
        try simp only [Act.put, List.setIfInBounds_toArray, List.set_cons_zero, List.set_cons_succ]
        refine wpDet_done (by kernel_rfl) ?_ _
        rintro w1 hF
        have HF := Lib.hid hF
        clear hF
        go_wp2
        go_ret2
        exact ⟨by rw [HP.out, HB2.out]; rfl, HF.out⟩
end Go.Proofs.Ytfopmpaoigdelaa
