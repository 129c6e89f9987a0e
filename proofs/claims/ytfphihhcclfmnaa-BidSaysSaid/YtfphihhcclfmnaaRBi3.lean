/- The document's bids: one more by cars. -/
import Derived.Test.YtfphihhcclfmnaaRBi2
namespace Go.Proofs.Ytfphihhcclfmnaa
open Go.RowKit

theorem placeB_ahead {c : Int} : ∀ {l : List (Int × Int)} {i : Nat}, i < placeB l c → (l.getD i (0, 0)).1 ≤ c
  | [], i, h => by simp [placeB] at h
  | x :: l, i, h => by
    unfold placeB at h
    rw [List.takeWhile_cons] at h
    split at h
    · rename_i g
      cases i with
      | zero => exact of_decide_eq_true g
      | succ i => exact placeB_ahead (l := l) (i := i) (by unfold placeB; simpa using h)
    · simp at h
theorem placeB_at {c : Int} : ∀ {l : List (Int × Int)}, placeB l c < l.length → c < (l.getD (placeB l c) (0, 0)).1
  | [], h => by simp [placeB] at h
  | x :: l, h => by
    by_cases g : x.1 ≤ c
    · have e : placeB (x :: l) c = placeB l c + 1 := by
        unfold placeB
        rw [List.takeWhile_cons, if_pos (decide_eq_true g), List.length_cons]
      rw [e] at h ⊢
      exact placeB_at (l := l) (by simpa using h)
    · have e : placeB (x :: l) c = 0 := by
        unfold placeB
        rw [List.takeWhile_cons, if_neg (by simpa using g)]; rfl
      rw [e]
      show c < x.1
      omega
/-- What a round reads. -/
def P4 (V : World) (bk o g : Nat) (x : Int) (b : Int × Int) (a : World) : Prop := Fr V a [] ∧ a.cell? ⟨bk, o, none⟩ = some (.int .i64 x) ∧ a.cell? ⟨g, 0, none⟩ = some (.int .i64 b.1) ∧ a.heap[g]? = some (bidBox b)
theorem P4.fr {V : World} {bk o g : Nat} {x : Int} {b : Int × Int} {a a' : World} (h : P4 V bk o g x b a) (k : Fr a a' []) : P4 V bk o g x b a' := ⟨h.1.trans k, k.cell h.2.1 (by simp), k.cell h.2.2.1 (by simp), k.heap h.2.2.2 (by simp)⟩
/-- A bid's box. -/
def SB1 (g : Nat) (b : Int × Int) (a : World) : Prop := a.cell? ⟨g, 0, none⟩ = some (.int .i64 b.1) ∧ a.cell? ⟨g, 1, none⟩ = some (.int .i64 b.2)
theorem SB1.fr {g : Nat} {b : Int × Int} {a a' : World} {S : List Nat} (h : SB1 g b a) (k : Fr a a' S) (hn : g ∉ S) : SB1 g b a' := ⟨k.cell h.1 hn, k.cell h.2 hn⟩
theorem SB1.grown {g : Nat} {b : Int × Int} {a a' : World} {row : Option Nat} (h : SB1 g b a) (k : a.grownBy a' row) (hn : some g ≠ row) : SB1 g b a' := ⟨k.cell h.1 hn, k.cell h.2 hn⟩
theorem bid_cells {w : World} {g : Nat} {b : Int × Int} {T : TypeId} (h : w.heap[g]? = some (.cells #[.int .i64 b.1, .int .i64 b.2] T (0, 0))) : ∀ j u, [Value.int .i64 b.1, .int .i64 b.2][j]? = some u → w.cell? (Addr.add ⟨g, 0, none⟩ j) = some u := by
  intro j u hu
  rw [Addr.add_lit, Nat.zero_add, cell_of_row _ _ _ _ _ _ h]
  simpa using hu
theorem own_put {w w5 w6 : World} {l M : List (Int × Int)} {b : Int × Int} {k : Nat} {v v' : Value} (hM : M = (l.take k ++ [b]) ++ l.drop k) (hk : k ≤ l.length) (ho : w6.ownsRow w.heap.size 24 2 v' (k + 1 + (l.length - k)) (bdc (l.take k ++ [b]) ++ bdc (l.drop k))) (hf : Fr w w5 [])
    (hg : w5.grownBy w6 v.ownBlock) (hb : ∀ r, v.ownBlock = some r → w.heap.size ≤ r) : OwnB w6 w.heap.size v' M ∧ Fr w w6 [] := by
  have hlen : M.length = k + 1 + (l.length - k) := by rw [hM, List.length_append, List.length_append, List.length_take, List.length_drop, List.length_singleton]; omega
  refine ⟨?_, hf.grown_own hg (fun r hr => .inr (hb r hr))⟩
  unfold OwnB
  rw [hlen, hM, bdc_app]
  exact ho

set_option maxHeartbeats 4000000 in
set_option maxRecDepth 100000 in
theorem rput_b (v : Value) (l : List (Int × Int)) (x : Int × Int) (w : World) (h : HB w v l) (hl : l.length ≤ 1000) (r : Bool) (hr : r = (bidOf l x.1).isNone) :
    Calls Try.prog 12 #[v, bidV x] w fun e w' => ∃ u, e = .returned (.tuple #[u, .bool r]) ∧ OwnB w' w.heap.size u (putB l x) ∧ Fr w w' [] := by
  obtain ⟨i0, hi0, hz0, hz1, hz2⟩ := info_parts infoB
  have FI := Lib.hid (fun W (hW : Fr w W []) => rfind_b v l x.1 W (h.keep hW) (by omega))
  have BI := Lib.hid (fun W (hW : Fr w W []) => rbids_b v l W (h.keep hW) hl)
  have HLV := Lib.hid h
  obtain ⟨a, c, rfl, p1, q1, r1⟩ := h
  unfold maxLen at q1
  obtain ⟨n, hn⟩ : ∃ n, n = l.length := ⟨_, rfl⟩
  have HN := Lib.hid hn
  obtain ⟨k, hk⟩ : ∃ k, k = placeB l x.1 := ⟨_, rfl⟩
  have HK := Lib.hid hk
  have hkn : k ≤ n := by rw [hk, hn]; exact placeB_le _ _
  rw [← hn] at hl p1 r1
  have HLS := Lib.hid r1
  have HR := Lib.hid hr
  have HPU := Lib.hid (show putB l x = if r = true then (l.take k ++ [x]) ++ l.drop k else l by
    unfold putB
    rw [hr, insB_split, ← hk]
    cases bidOf l x.1 with
    | none => simp
    | some y => simp)
  clear r1 hk hr
  rw [← hn] at FI BI HLV ⊢
  clear hn
  have HF0 := Lib.hid (Fr.alloc w (bidBox x) [])
  have HX0 := Lib.hid (show (w.alloc (bidBox x)).heap[w.heap.size]? = some (bidBox x) from heap_alloc_new w (bidBox x))
  have HW0 := Lib.hid (show w.heap.size < (w.alloc (bidBox x)).heap.size by simp)
  dsimp only [bidV, bidBox] at *
  go_enter Try.func12, Try.ntmps12
  obtain ⟨y0, y1⟩ := brow HX0.out
  go_wp2_with fail
  with_reducible refine (FI.out _ HF0.out).mono ?_
  rintro e w1 ⟨z, rfl, hz, rfl⟩
  clear FI
  rcases hz with ⟨rfl, hz⟩ | ⟨j, rfl, hj, hz⟩
  rotate_left
  · have HRf : Hid (r = false) := by show _ = _; rw [HR.out, hz]; rfl
    have BI1 := Lib.hid (BI.out _ HF0.out)
    have HM := Lib.hid (show w.heap.size ≤ (w.alloc (.cells #[.int .i64 x.1, .int .i64 x.2] 24)).heap.size by simp)
    clear hz y0 y1
    go_wp2_with fail
    with_reducible refine (BI1.out).mono ?_
    rintro e w2 ⟨u, rfl, ho, hf⟩
    have HO := Lib.hid ho
    have HF := Lib.hid (HF0.out.trans hf)
    clear ho hf
    go_wp2
    go_ret2
    refine ⟨_, by rw [HRf.out]; rfl, ?_, HF.out⟩
    rw [HPU.out, HRf.out]
    exact OwnB.mono HO.out HM.out
  have HRt : Hid (r = true) := by show _ = _; rw [HR.out, hz]; rfl
  clear hz BI
  go_upto_block 0 with fail
  go_cut [6] (fun s6 wx => s6 = .int .i64 k ∧ Hid (wx.heap[w.heap.size]? = some (bidBox x)) ∧ Hid (Fr w wx []))
  case first =>
    go_wp2_with fail
    go_loopw [6] (fun s6 wr => ∃ j : Nat, j ≤ k ∧ s6 = .int .i64 j ∧ Hid (wr.heap[w.heap.size]? = some (bidBox x)) ∧ Hid (Fr w wr [])) (fun i _ => k - (intOf i).toNat)
    case atStart => exact ⟨0, Nat.zero_le _, rfl, HX0.out, HF0.out⟩
    case round =>
      obtain ⟨j, hj, rfl, HXr, HG⟩ := hrel
      by_cases hlt : j < n
      · have hguard : decide ((j : Int) < (n : Int)) = true := by simp; omega
        obtain ⟨bk, off, rfl, hc⟩ := HLS.out (by omega)
        obtain ⟨y, hy⟩ : ∃ y, y = (l.getD j (0, 0)).1 := ⟨_, rfl⟩
        have hc1 := (hc j hlt).1
        rw [← hy] at hc1
        obtain ⟨z0, z1⟩ := brow HXr.out
        have HKF := Lib.hid (HG.out.trans (Fr.drew wr []))
        have HSB := Lib.hid (show P4 w bk (off + j * 2) w.heap.size y x wr.drew from ⟨HKF.out, HKF.out.cell hc1 (by simp), (Fr.drew wr []).cell z0 (by simp), (Fr.drew wr []).heap HXr.out (by simp)⟩)
        by_cases hjk : j < k
        · have hle : decide (y ≤ x.1) = true := decide_eq_true (by rw [hy]; exact placeB_ahead (by rw [← HK.out]; exact hjk))
          clear hy hc hc1 z0 z1
          go_wp2
          refine wp_region_det (S := P4 w bk (off + j * 2) w.heap.size y x) (by kernel_rfl) HSB.out ?_
          refine wpDet_take (i := 0) (oi := _) (v := ?dv1) (by simp only [List.getElem?_toArray, List.getElem?_cons_zero]; rfl) (by kernel_rfl) (by kernel_rfl) (by kernel_rfl) (Or.inl ⟨by rfl, ?dy1⟩) ?dr1
          case dy1 => (intro w hSw; have hS0 := hSw; (try dsimp only [P4] at hSw); go_simp; refine Came.value ?_ hS0; with_reducible rfl)
          try simp only [Act.put, List.setIfInBounds_toArray, List.set_cons_zero, List.set_cons_succ]
          refine wpDet_take (i := 1) (oi := _) (v := ?dv2) (by simp only [List.getElem?_toArray, List.getElem?_cons_zero, List.getElem?_cons_succ]; rfl) (by kernel_rfl) (by kernel_rfl) (by kernel_rfl) (Or.inl ⟨by rfl, ?dy2⟩) ?dr2
          case dy2 => (intro w hSw; have hS0 := hSw; (try dsimp only [P4] at hSw); go_simp; refine Came.value ?_ hS0; with_reducible rfl)
          try simp only [Act.put, List.setIfInBounds_toArray, List.set_cons_zero, List.set_cons_succ]
          refine wpDet_take (i := 2) (oi := _) (v := ?dv3) (by simp only [List.getElem?_toArray, List.getElem?_cons_zero, List.getElem?_cons_succ]; rfl) (by kernel_rfl) (by kernel_rfl) (by kernel_rfl) (Or.inl ⟨by rfl, ?dy3⟩) ?dr3
          case dy3 => (intro w hSw; have hS0 := hSw; (try dsimp only [P4] at hSw); go_simp; refine Came.value ?_ hS0; with_reducible rfl)
          try simp only [Act.put, List.setIfInBounds_toArray, List.set_cons_zero, List.set_cons_succ]
          refine wpDet_take (i := 3) (oi := _) (v := ?dv4) (by simp only [List.getElem?_toArray, List.getElem?_cons_zero, List.getElem?_cons_succ]; rfl) (by kernel_rfl) (by kernel_rfl) (by kernel_rfl) (Or.inl ⟨by rfl, ?dy4⟩) ?dr4
          case dy4 => (intro w hSw; have hS0 := hSw; (try dsimp only [P4] at hSw); go_simp; refine Came.value ?_ hS0; with_reducible rfl)
          try simp only [Act.put, List.setIfInBounds_toArray, List.set_cons_zero, List.set_cons_succ]
          refine wpDet_take (i := 4) (oi := _) (v := ?dv5) (by simp only [List.getElem?_toArray, List.getElem?_cons_zero, List.getElem?_cons_succ]; rfl) (by kernel_rfl) (by kernel_rfl) (by kernel_rfl) (Or.inl ⟨by rfl, ?dy5⟩) ?dr5
          case dy5 => (intro w hSw; have hS0 := hSw; (try dsimp only [P4] at hSw); go_simp; refine Came.value ?_ hS0; with_reducible rfl)
          try simp only [Act.put, List.setIfInBounds_toArray, List.set_cons_zero, List.set_cons_succ]
          refine wpDet_take (i := 5) (oi := _) (v := ?dv6) (by simp only [List.getElem?_toArray, List.getElem?_cons_zero, List.getElem?_cons_succ]; rfl) (by kernel_rfl) (by kernel_rfl) (by kernel_rfl) (Or.inl ⟨by rfl, ?dy6⟩) ?dr6
          case dy6 => (intro w hSw; have hS0 := hSw; (try dsimp only [P4] at hSw); go_simp; refine Came.value ?_ hS0; with_reducible rfl)
          try simp only [Act.put, List.setIfInBounds_toArray, List.set_cons_zero, List.set_cons_succ]
          refine wpDet_take (i := 6) (oi := _) (v := ?dv7) (by simp only [List.getElem?_toArray, List.getElem?_cons_zero, List.getElem?_cons_succ]; rfl) (by kernel_rfl) (by kernel_rfl) (by kernel_rfl) (Or.inl ⟨by rfl, ?dy7⟩) ?dr7
          case dy7 => (intro w hSw; have hS0 := hSw; (try dsimp only [P4] at hSw); go_simp; refine Came.value ?_ hS0; with_reducible rfl)
          try simp only [Act.put, List.setIfInBounds_toArray, List.set_cons_zero, List.set_cons_succ]
          refine wpDet_take (i := 7) (oi := _) (v := ?dv8) (by simp only [List.getElem?_toArray, List.getElem?_cons_zero, List.getElem?_cons_succ]; rfl) (by kernel_rfl) (by kernel_rfl) (by kernel_rfl) (Or.inl ⟨by rfl, ?dy8⟩) ?dr8
          case dy8 => (intro w hSw; have hS0 := hSw; (try dsimp only [P4] at hSw); go_simp; refine Came.value ?_ hS0; with_reducible rfl)
          try simp only [Act.put, List.setIfInBounds_toArray, List.set_cons_zero, List.set_cons_succ]
          refine wpDet_take (i := 8) (oi := _) (v := ?dv9) (by simp only [List.getElem?_toArray, List.getElem?_cons_zero, List.getElem?_cons_succ]; rfl) (by kernel_rfl) (by kernel_rfl) (by kernel_rfl) (Or.inl ⟨by rfl, ?dy9⟩) ?dr9
          case dy9 => (intro w hSw; have hS0 := hSw; (try dsimp only [P4] at hSw); go_simp; refine Came.value ?_ hS0; with_reducible rfl)
          try simp only [Act.put, List.setIfInBounds_toArray, List.set_cons_zero, List.set_cons_succ]
          refine wpDet_take (i := 9) (oi := _) (v := ?dv10) (by simp only [List.getElem?_toArray, List.getElem?_cons_zero, List.getElem?_cons_succ]; rfl) (by kernel_rfl) (by kernel_rfl) (by kernel_rfl) (Or.inl ⟨by rfl, ?dy10⟩) ?dr10
          case dy10 => (intro w hSw; have hS0 := hSw; (try dsimp only [P4] at hSw); go_simp; refine Came.value ?_ hS0; with_reducible rfl)
          try simp only [Act.put, List.setIfInBounds_toArray, List.set_cons_zero, List.set_cons_succ]
          refine wpDet_take (i := 10) (oi := _) (v := ?dv11) (by simp only [List.getElem?_toArray, List.getElem?_cons_zero, List.getElem?_cons_succ]; rfl) (by kernel_rfl) (by kernel_rfl) (by kernel_rfl) (Or.inl ⟨by rfl, ?dy11⟩) ?dr11
          case dy11 => (intro w hSw; have hS0 := hSw; (try dsimp only [P4] at hSw); go_simp; refine Came.value ?_ hS0; with_reducible rfl)
          try simp only [Act.put, List.setIfInBounds_toArray, List.set_cons_zero, List.set_cons_succ]
          refine wpDet_take (i := 11) (oi := _) (v := ?dv12) (by simp only [List.getElem?_toArray, List.getElem?_cons_zero, List.getElem?_cons_succ]; rfl) (by kernel_rfl) (by kernel_rfl) (by kernel_rfl) (Or.inl ⟨by rfl, ?dy12⟩) ?dr12
          case dy12 => (intro w hSw; have hS0 := hSw; (try dsimp only [P4] at hSw); go_simp; refine Came.value ?_ hS0; with_reducible rfl)
          try simp only [Act.put, List.setIfInBounds_toArray, List.set_cons_zero, List.set_cons_succ]
          refine wpDet_take (i := 12) (oi := _) (v := ?dv13) (by simp only [List.getElem?_toArray, List.getElem?_cons_zero, List.getElem?_cons_succ]; rfl) (by kernel_rfl) (by kernel_rfl) (by kernel_rfl) (Or.inl ⟨by rfl, ?dy13⟩) ?dr13
          case dy13 => (intro w hSw; have hS0 := hSw; (try dsimp only [P4] at hSw); go_simp; refine Came.value ?_ hS0; with_reducible rfl)
          try simp only [Act.put, List.setIfInBounds_toArray, List.set_cons_zero, List.set_cons_succ]
          refine wpDet_take (i := 13) (oi := _) (v := ?dv14) (by simp only [List.getElem?_toArray, List.getElem?_cons_zero, List.getElem?_cons_succ]; rfl) (by kernel_rfl) (by kernel_rfl) (by kernel_rfl) (Or.inl ⟨by rfl, ?dy14⟩) ?dr14
          case dy14 => (intro w hSw; have hS0 := hSw; (try dsimp only [P4] at hSw); go_simp; refine Came.value ?_ hS0; with_reducible rfl)
          try simp only [Act.put, List.setIfInBounds_toArray, List.set_cons_zero, List.set_cons_succ]
          refine wpDet_done (by kernel_rfl) ?_ _
          rintro w1 ⟨hF, _, _, hX⟩
          have HF := Lib.hid hF
          have HX1 := Lib.hid hX
          clear hF hX
          go_wp2
          go_roundw
          case rel => exact ⟨j + 1, by omega, by go_num, HX1, HF⟩
          case measure => simp [intOf]; omega
        · obtain rfl : k = j := by omega
          have hle : decide (y ≤ x.1) = false := decide_eq_false (by
            have := placeB_at (l := l) (c := x.1) (by rw [← HK.out, ← HN.out]; exact hlt)
            rw [← HK.out, ← hy] at this
            omega)
          clear hy hc hc1 z0 z1
          go_wp2
          refine wp_region_det (S := P4 w bk (off + k * 2) w.heap.size y x) (by kernel_rfl) HSB.out ?_
          refine wpDet_take (i := 0) (oi := _) (v := ?dv15) (by simp only [List.getElem?_toArray, List.getElem?_cons_zero]; rfl) (by kernel_rfl) (by kernel_rfl) (by kernel_rfl) (Or.inl ⟨by rfl, ?dy15⟩) ?dr15
          case dy15 => (intro w hSw; have hS0 := hSw; (try dsimp only [P4] at hSw); go_simp; refine Came.value ?_ hS0; with_reducible rfl)
          try simp only [Act.put, List.setIfInBounds_toArray, List.set_cons_zero, List.set_cons_succ]
          refine wpDet_take (i := 1) (oi := _) (v := ?dv16) (by simp only [List.getElem?_toArray, List.getElem?_cons_zero, List.getElem?_cons_succ]; rfl) (by kernel_rfl) (by kernel_rfl) (by kernel_rfl) (Or.inl ⟨by rfl, ?dy16⟩) ?dr16
          case dy16 => (intro w hSw; have hS0 := hSw; (try dsimp only [P4] at hSw); go_simp; refine Came.value ?_ hS0; with_reducible rfl)
          try simp only [Act.put, List.setIfInBounds_toArray, List.set_cons_zero, List.set_cons_succ]
          refine wpDet_take (i := 2) (oi := _) (v := ?dv17) (by simp only [List.getElem?_toArray, List.getElem?_cons_zero, List.getElem?_cons_succ]; rfl) (by kernel_rfl) (by kernel_rfl) (by kernel_rfl) (Or.inl ⟨by rfl, ?dy17⟩) ?dr17
          case dy17 => (intro w hSw; have hS0 := hSw; (try dsimp only [P4] at hSw); go_simp; refine Came.value ?_ hS0; with_reducible rfl)
          try simp only [Act.put, List.setIfInBounds_toArray, List.set_cons_zero, List.set_cons_succ]
          refine wpDet_take (i := 3) (oi := _) (v := ?dv18) (by simp only [List.getElem?_toArray, List.getElem?_cons_zero, List.getElem?_cons_succ]; rfl) (by kernel_rfl) (by kernel_rfl) (by kernel_rfl) (Or.inl ⟨by rfl, ?dy18⟩) ?dr18
          case dy18 => (intro w hSw; have hS0 := hSw; (try dsimp only [P4] at hSw); go_simp; refine Came.value ?_ hS0; with_reducible rfl)
          try simp only [Act.put, List.setIfInBounds_toArray, List.set_cons_zero, List.set_cons_succ]
          refine wpDet_take (i := 4) (oi := _) (v := ?dv19) (by simp only [List.getElem?_toArray, List.getElem?_cons_zero, List.getElem?_cons_succ]; rfl) (by kernel_rfl) (by kernel_rfl) (by kernel_rfl) (Or.inl ⟨by rfl, ?dy19⟩) ?dr19
          case dy19 => (intro w hSw; have hS0 := hSw; (try dsimp only [P4] at hSw); go_simp; refine Came.value ?_ hS0; with_reducible rfl)
          try simp only [Act.put, List.setIfInBounds_toArray, List.set_cons_zero, List.set_cons_succ]
          refine wpDet_take (i := 5) (oi := _) (v := ?dv20) (by simp only [List.getElem?_toArray, List.getElem?_cons_zero, List.getElem?_cons_succ]; rfl) (by kernel_rfl) (by kernel_rfl) (by kernel_rfl) (Or.inl ⟨by rfl, ?dy20⟩) ?dr20
          case dy20 => (intro w hSw; have hS0 := hSw; (try dsimp only [P4] at hSw); go_simp; refine Came.value ?_ hS0; with_reducible rfl)
          try simp only [Act.put, List.setIfInBounds_toArray, List.set_cons_zero, List.set_cons_succ]
          refine wpDet_take (i := 6) (oi := _) (v := ?dv21) (by simp only [List.getElem?_toArray, List.getElem?_cons_zero, List.getElem?_cons_succ]; rfl) (by kernel_rfl) (by kernel_rfl) (by kernel_rfl) (Or.inl ⟨by rfl, ?dy21⟩) ?dr21
          case dy21 => (intro w hSw; have hS0 := hSw; (try dsimp only [P4] at hSw); go_simp; refine Came.value ?_ hS0; with_reducible rfl)
          try simp only [Act.put, List.setIfInBounds_toArray, List.set_cons_zero, List.set_cons_succ]
          refine wpDet_take (i := 7) (oi := _) (v := ?dv22) (by simp only [List.getElem?_toArray, List.getElem?_cons_zero, List.getElem?_cons_succ]; rfl) (by kernel_rfl) (by kernel_rfl) (by kernel_rfl) (Or.inl ⟨by rfl, ?dy22⟩) ?dr22
          case dy22 => (intro w hSw; have hS0 := hSw; (try dsimp only [P4] at hSw); go_simp; refine Came.value ?_ hS0; with_reducible rfl)
          try simp only [Act.put, List.setIfInBounds_toArray, List.set_cons_zero, List.set_cons_succ]
          refine wpDet_take (i := 8) (oi := _) (v := ?dv23) (by simp only [List.getElem?_toArray, List.getElem?_cons_zero, List.getElem?_cons_succ]; rfl) (by kernel_rfl) (by kernel_rfl) (by kernel_rfl) (Or.inl ⟨by rfl, ?dy23⟩) ?dr23
          case dy23 => (intro w hSw; have hS0 := hSw; (try dsimp only [P4] at hSw); go_simp; refine Came.value ?_ hS0; with_reducible rfl)
          try simp only [Act.put, List.setIfInBounds_toArray, List.set_cons_zero, List.set_cons_succ]
          refine wpDet_take (i := 9) (oi := _) (v := ?dv24) (by simp only [List.getElem?_toArray, List.getElem?_cons_zero, List.getElem?_cons_succ]; rfl) (by kernel_rfl) (by kernel_rfl) (by kernel_rfl) (Or.inl ⟨by rfl, ?dy24⟩) ?dr24
          case dy24 => (intro w hSw; have hS0 := hSw; (try dsimp only [P4] at hSw); go_simp; refine Came.value ?_ hS0; with_reducible rfl)
          try simp only [Act.put, List.setIfInBounds_toArray, List.set_cons_zero, List.set_cons_succ]
          refine wpDet_take (i := 10) (oi := _) (v := ?dv25) (by simp only [List.getElem?_toArray, List.getElem?_cons_zero, List.getElem?_cons_succ]; rfl) (by kernel_rfl) (by kernel_rfl) (by kernel_rfl) (Or.inl ⟨by rfl, ?dy25⟩) ?dr25
          case dy25 => (intro w hSw; have hS0 := hSw; (try dsimp only [P4] at hSw); go_simp; refine Came.value ?_ hS0; with_reducible rfl)
          try simp only [Act.put, List.setIfInBounds_toArray, List.set_cons_zero, List.set_cons_succ]
          refine wpDet_take (i := 11) (oi := _) (v := ?dv26) (by simp only [List.getElem?_toArray, List.getElem?_cons_zero, List.getElem?_cons_succ]; rfl) (by kernel_rfl) (by kernel_rfl) (by kernel_rfl) (Or.inl ⟨by rfl, ?dy26⟩) ?dr26
          case dy26 => (intro w hSw; have hS0 := hSw; (try dsimp only [P4] at hSw); go_simp; refine Came.value ?_ hS0; with_reducible rfl)
          try simp only [Act.put, List.setIfInBounds_toArray, List.set_cons_zero, List.set_cons_succ]
          refine wpDet_take (i := 12) (oi := _) (v := ?dv27) (by simp only [List.getElem?_toArray, List.getElem?_cons_zero, List.getElem?_cons_succ]; rfl) (by kernel_rfl) (by kernel_rfl) (by kernel_rfl) (Or.inl ⟨by rfl, ?dy27⟩) ?dr27
          case dy27 => (intro w hSw; have hS0 := hSw; (try dsimp only [P4] at hSw); go_simp; refine Came.value ?_ hS0; with_reducible rfl)
          try simp only [Act.put, List.setIfInBounds_toArray, List.set_cons_zero, List.set_cons_succ]
          refine wpDet_take (i := 13) (oi := _) (v := ?dv28) (by simp only [List.getElem?_toArray, List.getElem?_cons_zero, List.getElem?_cons_succ]; rfl) (by kernel_rfl) (by kernel_rfl) (by kernel_rfl) (Or.inl ⟨by rfl, ?dy28⟩) ?dr28
          case dy28 => (intro w hSw; have hS0 := hSw; (try dsimp only [P4] at hSw); go_simp; refine Came.value ?_ hS0; with_reducible rfl)
          try simp only [Act.put, List.setIfInBounds_toArray, List.set_cons_zero, List.set_cons_succ]
          refine wpDet_done (by kernel_rfl) ?_ _
          rintro w1 ⟨hF, _, _, hX⟩
          have HF := Lib.hid hF
          have HX1 := Lib.hid hX
          clear hF hX
          go_wp2
          go_meet
          exact ⟨rfl, HX1, HF⟩
      · have hguard : decide ((j : Int) < (n : Int)) = false := by simp; omega
        obtain rfl : k = j := by omega
        have HS0 : Hid (Fr wr wr.drew []) := Fr.drew wr []
        go_wp2
        refine wp_region_det (S := fun a => Fr wr a []) (by kernel_rfl) HS0.out ?_
        refine wpDet_take (i := 0) (oi := _) (v := ?dv29) (by simp only [List.getElem?_toArray, List.getElem?_cons_zero]; rfl) (by kernel_rfl) (by kernel_rfl) (by kernel_rfl) (Or.inl ⟨by rfl, ?dy29⟩) ?dr29
        case dy29 => (intro w hSw; have hS0 := hSw; (try dsimp only at hSw); go_simp; refine Came.value ?_ hS0; with_reducible rfl)
        try simp only [Act.put, List.setIfInBounds_toArray, List.set_cons_zero, List.set_cons_succ]
        refine wpDet_take (i := 1) (oi := _) (v := ?dv30) (by simp only [List.getElem?_toArray, List.getElem?_cons_zero, List.getElem?_cons_succ]; rfl) (by kernel_rfl) (by kernel_rfl) (by kernel_rfl) (Or.inl ⟨by rfl, ?dy30⟩) ?dr30
        case dy30 => (intro w hSw; have hS0 := hSw; (try dsimp only at hSw); go_simp; refine Came.value ?_ hS0; with_reducible rfl)
        try simp only [Act.put, List.setIfInBounds_toArray, List.set_cons_zero, List.set_cons_succ]
        refine wpDet_take (i := 2) (oi := _) (v := ?dv31) (by simp only [List.getElem?_toArray, List.getElem?_cons_zero, List.getElem?_cons_succ]; rfl) (by kernel_rfl) (by kernel_rfl) (by kernel_rfl) (Or.inl ⟨by rfl, ?dy31⟩) ?dr31
        case dy31 => (intro w hSw; have hS0 := hSw; (try dsimp only at hSw); go_simp; refine Came.value ?_ hS0; with_reducible rfl)
        try simp only [Act.put, List.setIfInBounds_toArray, List.set_cons_zero, List.set_cons_succ]
        refine wpDet_take (i := 3) (oi := _) (v := ?dv32) (by simp only [List.getElem?_toArray, List.getElem?_cons_zero, List.getElem?_cons_succ]; rfl) (by kernel_rfl) (by kernel_rfl) (by kernel_rfl) (Or.inl ⟨by rfl, ?dy32⟩) ?dr32
        case dy32 => (intro w hSw; have hS0 := hSw; (try dsimp only at hSw); go_simp; refine Came.value ?_ hS0; with_reducible rfl)
        try simp only [Act.put, List.setIfInBounds_toArray, List.set_cons_zero, List.set_cons_succ]
        refine wpDet_take (i := 4) (oi := _) (v := ?dv33) (by simp only [List.getElem?_toArray, List.getElem?_cons_zero, List.getElem?_cons_succ]; rfl) (by kernel_rfl) (by kernel_rfl) (by kernel_rfl) (Or.inl ⟨by rfl, ?dy33⟩) ?dr33
        case dy33 => (intro w hSw; have hS0 := hSw; (try dsimp only at hSw); go_simp; refine Came.value ?_ hS0; with_reducible rfl)
        try simp only [Act.put, List.setIfInBounds_toArray, List.set_cons_zero, List.set_cons_succ]
        refine wpDet_take (i := 5) (oi := _) (v := undef) (by simp only [List.getElem?_toArray, List.getElem?_cons_zero, List.getElem?_cons_succ]; rfl) (by kernel_rfl) (by kernel_rfl) (by kernel_rfl) (Or.inr ⟨by rfl, rfl⟩) ?_
        try simp only [Act.put, List.setIfInBounds_toArray, List.set_cons_zero, List.set_cons_succ]
        refine wpDet_take (i := 6) (oi := _) (v := undef) (by simp only [List.getElem?_toArray, List.getElem?_cons_zero, List.getElem?_cons_succ]; rfl) (by kernel_rfl) (by kernel_rfl) (by kernel_rfl) (Or.inr ⟨by rfl, rfl⟩) ?_
        try simp only [Act.put, List.setIfInBounds_toArray, List.set_cons_zero, List.set_cons_succ]
        refine wpDet_take (i := 7) (oi := _) (v := undef) (by simp only [List.getElem?_toArray, List.getElem?_cons_zero, List.getElem?_cons_succ]; rfl) (by kernel_rfl) (by kernel_rfl) (by kernel_rfl) (Or.inr ⟨by rfl, rfl⟩) ?_
        try simp only [Act.put, List.setIfInBounds_toArray, List.set_cons_zero, List.set_cons_succ]
        refine wpDet_take (i := 8) (oi := _) (v := undef) (by simp only [List.getElem?_toArray, List.getElem?_cons_zero, List.getElem?_cons_succ]; rfl) (by kernel_rfl) (by kernel_rfl) (by kernel_rfl) (Or.inr ⟨by rfl, rfl⟩) ?_
        try simp only [Act.put, List.setIfInBounds_toArray, List.set_cons_zero, List.set_cons_succ]
        refine wpDet_take (i := 9) (oi := _) (v := undef) (by simp only [List.getElem?_toArray, List.getElem?_cons_zero, List.getElem?_cons_succ]; rfl) (by kernel_rfl) (by kernel_rfl) (by kernel_rfl) (Or.inr ⟨by rfl, rfl⟩) ?_
        try simp only [Act.put, List.setIfInBounds_toArray, List.set_cons_zero, List.set_cons_succ]
        refine wpDet_take (i := 10) (oi := _) (v := undef) (by simp only [List.getElem?_toArray, List.getElem?_cons_zero, List.getElem?_cons_succ]; rfl) (by kernel_rfl) (by kernel_rfl) (by kernel_rfl) (Or.inr ⟨by rfl, rfl⟩) ?_
        try simp only [Act.put, List.setIfInBounds_toArray, List.set_cons_zero, List.set_cons_succ]
        refine wpDet_take (i := 11) (oi := _) (v := undef) (by simp only [List.getElem?_toArray, List.getElem?_cons_zero, List.getElem?_cons_succ]; rfl) (by kernel_rfl) (by kernel_rfl) (by kernel_rfl) (Or.inr ⟨by rfl, rfl⟩) ?_
        try simp only [Act.put, List.setIfInBounds_toArray, List.set_cons_zero, List.set_cons_succ]
        refine wpDet_take (i := 12) (oi := _) (v := undef) (by simp only [List.getElem?_toArray, List.getElem?_cons_zero, List.getElem?_cons_succ]; rfl) (by kernel_rfl) (by kernel_rfl) (by kernel_rfl) (Or.inr ⟨by rfl, rfl⟩) ?_
        try simp only [Act.put, List.setIfInBounds_toArray, List.set_cons_zero, List.set_cons_succ]
        refine wpDet_take (i := 13) (oi := _) (v := ?dv42) (by simp only [List.getElem?_toArray, List.getElem?_cons_zero, List.getElem?_cons_succ]; rfl) (by kernel_rfl) (by kernel_rfl) (by kernel_rfl) (Or.inl ⟨by rfl, ?dy42⟩) ?dr42
        case dy42 => (intro w hSw; have hS0 := hSw; (try dsimp only at hSw); go_simp; refine Came.value ?_ hS0; with_reducible rfl)
        try simp only [Act.put, List.setIfInBounds_toArray, List.set_cons_zero, List.set_cons_succ]
        refine wpDet_done (by kernel_rfl) ?_ _
        rintro w1 hF
        have HF := Lib.hid (HG.out.trans hF)
        have HX1 := Lib.hid (hF.heap HXr.out (by simp))
        clear hF
        go_wp2
        go_meet
        exact ⟨rfl, HX1, HF⟩
  case rest =>
    obtain ⟨rfl, HXc, HFc⟩ := hcut
    have HTL : Hid ((l.take k).length = k) := by show _ = _; rw [List.length_take]; have := HN.out; omega
    have HLV2 : Hid (HB w (.slice a l.length c) l) := by rw [← HN.out]; exact HLV
    have HLA := Lib.hid (fun W (kf : Fr wc W []) => rbids_b (.slice a k c) (l.take k) W (((HLV2.out.cut k (by have := HN.out; omega)).keep HFc.out).keep kf) (by rw [HTL.out]; omega))
    have HWX := Lib.hid (size_of_row HXc.out)
    have hkc : k ≤ c := by omega
    obtain ⟨y0, y1⟩ := brow HXc.out
    have HSI := Lib.hid (show SB1 w.heap.size x wc.drew from ⟨y0, y1⟩)
    go_upto_region 6 with fail
    go_cut [7] (fun s7 wx => ∃ g cap, s7 = .slice (some ⟨g, 0, none⟩) (k + 1) cap ∧ Hid (wx.ownsRow wc.heap.size 24 2 (.slice (some ⟨g, 0, none⟩) (k + 1) cap) (k + 1) (bdc (l.take k ++ [x]))) ∧ Hid (Fr wc wx []))
    case first =>
      refine wp_region_noPanic ?_
      refine wp_region_held_drew (S := (SB1 w.heap.size x)) (by kernel_rfl) HSI.out (fun hHeld => ?_)
      refine wpAnyH_take (i := 0) (oi := _) (v := ?fv0h43n44) (by simp only [List.getElem?_toArray, List.getElem?_cons_zero]; rfl) (by kernel_rfl) (by kernel_rfl) (by kernel_rfl) (fun _ _ _ h => h) (Or.inl ⟨by rfl, ?fy0h43n44⟩) (by assumption) ?fr0h43n44
      case fy0h43n44 => (intro w hSw; (try dsimp only [SB1] at hSw); go_simp; try with_reducible rfl)
      try simp only [Act.put, List.setIfInBounds_toArray, List.set_cons_zero, List.set_cons_succ]
      refine wpAnyH_take (i := 1) (oi := _) (v := ?fv1h43n44) (by simp only [List.getElem?_toArray, List.getElem?_cons_zero, List.getElem?_cons_succ]; rfl) (by kernel_rfl) (by kernel_rfl) (by kernel_rfl) (fun _ _ _ h => h) (Or.inl ⟨by rfl, ?fy1h43n44⟩) (by assumption) ?fr1h43n44
      case fy1h43n44 => (intro w hSw; (try dsimp only [SB1] at hSw); go_simp; try with_reducible rfl)
      try simp only [Act.put, List.setIfInBounds_toArray, List.set_cons_zero, List.set_cons_succ]
      refine wpAnyH_take (i := 2) (oi := _) (v := ?fv2h43n44) (by simp only [List.getElem?_toArray, List.getElem?_cons_zero, List.getElem?_cons_succ]; rfl) (by kernel_rfl) (by kernel_rfl) (by kernel_rfl) (fun _ _ _ h => h) (Or.inl ⟨by rfl, ?fy2h43n44⟩) (by assumption) ?fr2h43n44
      case fy2h43n44 => (intro w hSw; (try dsimp only [SB1] at hSw); go_simp; try with_reducible rfl)
      try simp only [Act.put, List.setIfInBounds_toArray, List.set_cons_zero, List.set_cons_succ]
      refine wpAnyH_take (i := 4) (oi := _) (v := ?fv4h43n44) (by simp only [List.getElem?_toArray, List.getElem?_cons_zero, List.getElem?_cons_succ]; rfl) (by kernel_rfl) (by kernel_rfl) (by kernel_rfl) (fun _ _ _ h => h) (Or.inl ⟨by rfl, ?fy4h43n44⟩) (by assumption) ?fr4h43n44
      case fy4h43n44 => (intro w hSw; (try dsimp only [SB1] at hSw); go_simp; try with_reducible rfl)
      try simp only [Act.put, List.setIfInBounds_toArray, List.set_cons_zero, List.set_cons_succ]
      refine wpAnyH_ready (rs := [3, 5]) (by kernel_rfl) (by simp) ?_
      refine AllReadyH.cons (o := _) rfl (fun K hK => ?_) ?_
      · go_simp
        ((with_reducible refine (HLA.out _ (Fr.drew wc [])).mono ?_); rintro e w2 ⟨u2, rfl, hO, hF⟩; obtain ⟨ua, uc, hu⟩ := hO.shape; rw [HTL.out] at hu; subst hu; have hS1 := hHeld.fr hF (by simp); have HO2 := Lib.hid hO; have HF2 := Lib.hid ((Fr.drew wc []).trans hF); clear hO hF)
        go_wp2_with fail
        refine hK.out _ _ hS1 (fun hHeld => ?_)
        clear hK K
        try simp only [Act.put, List.setIfInBounds_toArray, List.set_cons_zero, List.set_cons_succ]
        refine wpAnyH_ready (rs := [5]) (by kernel_rfl) (by simp) ?_
        refine AllReadyH.cons (o := _) rfl (fun K hK => ?_) AllReadyH.nil
        go_simp
        have hS2 := hHeld.fr (Fr.alloc w2 (.cells #[.int .i64 x.1, .int .i64 x.2] 24) []) (by simp)
        refine hK.out _ _ hS2 (fun hHeld => ?_)
        clear hK K
        try simp only [Act.put, List.setIfInBounds_toArray, List.set_cons_zero, List.set_cons_succ]
        have HOA := Lib.hid (show (w2.alloc (.cells #[.int .i64 x.1, .int .i64 x.2] 24)).ownsRow wc.heap.size 24 2 (.slice ua k uc) k (bdc (l.take k)) by
          have := World.ownsRow.alloc HO2.out (.cells #[.int .i64 x.1, .int .i64 x.2] 24)
          rw [HTL.out] at this
          exact this)
        refine wpAnyH_ready (rs := [6]) (by kernel_rfl) (by simp) ?_
        refine AllReadyH.cons (o := _) (by simp only [List.getElem?_toArray, List.getElem?_cons_zero, List.getElem?_cons_succ]; rfl) (fun K hK => ?_) AllReadyH.nil
        refine step_append_lies _ (by rfl) _ _ _ (by rfl) wc.heap.size 24 i0 (.agg #[.int .i64 0, .int .i64 0]) 2 16 Try.underlying22 hi0 hz0 hz1 hz2 rfl (by decide) (.slice ua k uc) k (bdc (l.take k)) (by rfl) HOA.out ⟨w2.heap.size, 0, none⟩ 1 1 [.int .i64 x.1, .int .i64 x.2] (by rfl) rfl (row_new2 _ _ _ _) (bid_one x) (by decide) (by unfold maxLen; omega) (by omega) (by have := HF2.out.size; simp; omega) _ rfl ?_
        intro g cap w3 hown3 hg3 _ _
        have hS3 := hHeld.grown hg3 (fun e => by have h1 : wc.heap.size ≤ w.heap.size := (HO2.out.block _ e.symm).1; have := HWX.out; omega)
        refine hK.out _ _ hS3 (fun hHeld => ?_)
        clear hK K
        try simp only [Act.put, List.setIfInBounds_toArray, List.set_cons_zero, List.set_cons_succ]
        refine wpAnyH_take (i := 7) (oi := _) (v := ?fv7h43n45) (by simp only [List.getElem?_toArray, List.getElem?_cons_zero, List.getElem?_cons_succ]; rfl) (by kernel_rfl) (by kernel_rfl) (by kernel_rfl) (fun _ _ _ h => h) (Or.inl ⟨by rfl, ?fy7h43n45⟩) (by assumption) ?fr7h43n45
        case fy7h43n45 => (intro w hSw; (try dsimp only [SB1] at hSw); go_simp; try with_reducible rfl)
        try simp only [Act.put, List.setIfInBounds_toArray, List.set_cons_zero, List.set_cons_succ]
        refine wpAnyH_done (by kernel_rfl) ?_ _
        refine NoPanic.normal ?_
        have HG3 := Lib.hid (show Fr wc w3 [] from (HF2.out.trans (Fr.alloc w2 (.cells #[.int .i64 x.1, .int .i64 x.2] 24) [])).grown_own hg3 (fun r hr => .inr (HO2.out.block r hr).1))
        have HOUT := Lib.hid (show w3.ownsRow wc.heap.size 24 2 (.slice (some ⟨g, 0, none⟩) (k + 1) cap) (k + 1) (bdc (l.take k ++ [x])) by rw [bdc_snoc]; exact hown3)
        clear hHeld hS3 hown3 hg3
        go_wp2_with fail
        go_meet
        exact ⟨g, cap, rfl, HOUT, HG3⟩
      refine AllReadyH.cons (o := _) rfl (fun K hK => ?_) AllReadyH.nil
      · go_simp
        have HFa := Lib.hid (show Fr wc (wc.alloc (.cells #[.int .i64 x.1, .int .i64 x.2] 24)).drew [] from (Fr.alloc wc (.cells #[.int .i64 x.1, .int .i64 x.2] 24) []).trans (Fr.drew _ []))
        have HXa := Lib.hid (show (wc.alloc (.cells #[.int .i64 x.1, .int .i64 x.2] 24)).drew.heap[wc.heap.size]? = some (bidBox x) from heap_alloc_new wc (bidBox x))
        have HSa := Lib.hid (show wc.heap.size ≤ (wc.alloc (.cells #[.int .i64 x.1, .int .i64 x.2] 24)).drew.heap.size from HFa.out.size)
        have hS1 := SB1.fr (a := wc) HSI.out HFa.out (by simp)
        refine hK.out _ _ hS1 (fun hHeld => ?_)
        clear hK K
        try simp only [Act.put, List.setIfInBounds_toArray, List.set_cons_zero, List.set_cons_succ]
        refine wpAnyH_ready (rs := [3]) (by kernel_rfl) (by simp) ?_
        refine AllReadyH.cons (o := _) rfl (fun K hK => ?_) AllReadyH.nil
        go_simp
        ((with_reducible refine (HLA.out _ HFa.out).mono ?_); rintro e w2 ⟨u2, rfl, hO, hF⟩; obtain ⟨ua, uc, hu⟩ := hO.shape; rw [HTL.out] at hu; subst hu; have hS2 := hHeld.fr hF (by simp); have HO2 := Lib.hid (row_mono hO HSa.out); have HF2 := Lib.hid (HFa.out.trans hF); have HCE := Lib.hid (bid_cells (hF.heap HXa.out (by simp))); clear hO hF)
        go_wp2_with fail
        refine hK.out _ _ hS2 (fun hHeld => ?_)
        clear hK K
        try simp only [Act.put, List.setIfInBounds_toArray, List.set_cons_zero, List.set_cons_succ]
        have HOA := Lib.hid (show w2.ownsRow wc.heap.size 24 2 (.slice ua k uc) k (bdc (l.take k)) by
          have := HO2.out
          rw [HTL.out] at this
          exact this)
        refine wpAnyH_ready (rs := [6]) (by kernel_rfl) (by simp) ?_
        refine AllReadyH.cons (o := _) (by simp only [List.getElem?_toArray, List.getElem?_cons_zero, List.getElem?_cons_succ]; rfl) (fun K hK => ?_) AllReadyH.nil
        refine step_append_lies _ (by rfl) _ _ _ (by rfl) wc.heap.size 24 i0 (.agg #[.int .i64 0, .int .i64 0]) 2 16 Try.underlying22 hi0 hz0 hz1 hz2 rfl (by decide) (.slice ua k uc) k (bdc (l.take k)) (by rfl) HOA.out ⟨wc.heap.size, 0, none⟩ 1 1 [.int .i64 x.1, .int .i64 x.2] (by rfl) rfl HCE.out (bid_one x) (by decide) (by unfold maxLen; omega) (by omega) HF2.out.size _ rfl ?_
        intro g cap w3 hown3 hg3 _ _
        have hS3 := hHeld.grown hg3 (fun e => by have := (World.ownsRow.lt HOA.out _ e.symm).1; have := HWX.out; omega)
        go_wp2_with fail
        refine hK.out _ _ hS3 (fun hHeld => ?_)
        clear hK K
        try simp only [Act.put, List.setIfInBounds_toArray, List.set_cons_zero, List.set_cons_succ]
        refine wpAnyH_take (i := 7) (oi := _) (v := ?fv7h43n46) (by simp only [List.getElem?_toArray, List.getElem?_cons_zero, List.getElem?_cons_succ]; rfl) (by kernel_rfl) (by kernel_rfl) (by kernel_rfl) (fun _ _ _ h => h) (Or.inl ⟨by rfl, ?fy7h43n46⟩) (by assumption) ?fr7h43n46
        case fy7h43n46 => (intro w hSw; (try dsimp only [SB1] at hSw); go_simp; try with_reducible rfl)
        try simp only [Act.put, List.setIfInBounds_toArray, List.set_cons_zero, List.set_cons_succ]
        refine wpAnyH_done (by kernel_rfl) ?_ _
        refine NoPanic.normal ?_
        have HG3 := Lib.hid (show Fr wc w3 [] from HF2.out.grown_own hg3 (fun r hr => .inr (World.ownsRow.lt HOA.out r hr).1))
        have HOUT := Lib.hid (show w3.ownsRow wc.heap.size 24 2 (.slice (some ⟨g, 0, none⟩) (k + 1) cap) (k + 1) (bdc (l.take k ++ [x])) by rw [bdc_snoc]; exact hown3)
        clear hHeld hS3 hown3 hg3
        go_wp2_with fail
        go_meet
        exact ⟨g, cap, rfl, HOUT, HG3⟩
    case rest =>
      obtain ⟨g, cap, rfl, HOUT0, HG0⟩ := hcut
      have HF := Lib.hid (HFc.out.trans HG0.out)
      have HOUT := Lib.hid (row_mono HOUT0.out HFc.out.size)
      have HSZ := Lib.hid (show w.heap.size ≤ wc.heap.size from HF.out.size)
      clear HOUT0 HG0 HXc HFc y0 y1 HLA HSI
      have HLD : Hid ((bdc (l.drop k)).length = (n - k) * 2) := by show _ = _; rw [bdc_len, List.length_drop, HN.out]
      by_cases hlt : k < n
      · obtain ⟨bk, off, rfl, _⟩ := HLS.out (by omega)
        have hck : ¬ c = k := by omega
        have hck2 : ¬ (c : Int) = (k : Int) := by omega
        have HCE := Lib.hid ((HLV2.out.keep HF.out).cells k)
        go_wp2_with (at_builtin; refine wpList_append_own _ rfl _ _ 22 rfl w.heap.size 24 i0 (.agg #[.int .i64 0, .int .i64 0]) 2 16 Try.underlying22 hi0 hz0 hz1 hz2 rfl (by decide) (.slice (some ⟨g, 0, none⟩) (k + 1) cap) (k + 1) (bdc (l.take k ++ [x])) rfl HOUT.out ⟨bk, off + k * 2, none⟩ _ _ (bdc (l.drop k)) rfl HLD.out HCE.out (bdc_one _) (by unfold maxLen; omega) (by omega) HSZ.out ?_; intro v' w6 hown6 hg6 _)
        have HQ := Lib.hid (own_put (k := k) (l := l) (b := x) rfl (by have := HN.out; omega) (by rw [← HN.out]; exact hown6) HF.out hg6 (fun r hr => (World.ownsRow.lt HOUT.out r hr).1))
        clear hown6 hg6
        go_wp2
        go_ret2
        refine ⟨_, by rw [HRt.out]; rfl, ?_, HQ.out.2⟩
        rw [HPU.out, if_pos HRt.out]
        exact HQ.out.1
      · obtain rfl : k = n := by omega
        cases a with
        | none =>
          have hl0 : l.length = 0 := by
            obtain ⟨a', c', he, _, _, h3⟩ := HLV2.out
            simp only [Value.slice.injEq] at he
            obtain ⟨rfl, _, _⟩ := he
            refine Decidable.by_contra fun z => ?_
            obtain ⟨b, off, e, _⟩ := h3 (by omega)
            cases e
          have k0 : k = 0 := by have := HN.out; omega
          obtain rfl : c = 0 := p1.2 rfl
          subst k0
          have HQ : Hid (OwnB wc w.heap.size (.slice (some ⟨g, 0, none⟩) (0 + 1) cap) ((l.take 0 ++ [x]) ++ l.drop 0)) := by
            obtain rfl := List.eq_nil_of_length_eq_zero hl0
            exact Lib.hid HOUT.out
          clear HLS HLV HLV2
          go_wp2_with (at_builtin; refine wpList_append_own_none rfl _ _ 22 rfl w.heap.size 24 i0 2 Try.underlying22 hi0 _ _ _ rfl HOUT.out rfl ?_)
          go_ret2
          refine ⟨_, by rw [HRt.out]; rfl, ?_, HF.out⟩
          rw [HPU.out, if_pos HRt.out]
          exact HQ.out
        | some ad =>
          obtain ⟨bk, off, sp⟩ := ad
          have hnil : bdc (l.drop k) = [] := List.eq_nil_of_length_eq_zero (by have := HLD.out; omega)
          have HCE : Hid (∀ (j : Nat) (u : Value), (bdc (l.drop k))[j]? = some u → False) := Lib.hid (fun j u hu => by
            rw [hnil] at hu
            exact absurd hu (by simp))
          have HLD : Hid ((bdc (l.drop k)).length = 0 * 2) := by show _ = _; rw [hnil]; rfl
          by_cases hck : c = k
          · subst hck
            clear hnil
            go_wp2_with (at_builtin; refine wpList_append_own _ rfl _ _ 22 rfl w.heap.size 24 i0 (.agg #[.int .i64 0, .int .i64 0]) 2 16 Try.underlying22 hi0 hz0 hz1 hz2 rfl (by decide) (.slice (some ⟨g, 0, none⟩) (c + 1) cap) (c + 1) (bdc (l.take c ++ [x])) rfl HOUT.out ⟨bk, off, sp⟩ _ _ (bdc (l.drop c)) rfl HLD.out (fun j u hu => (HCE.out j u hu).elim) (bdc_one _) (by unfold maxLen; omega) (by omega) HSZ.out ?_; intro v' w6 hown6 hg6 _)
            have HQ := Lib.hid (own_put (k := c) (l := l) (b := x) rfl (by have := HN.out; omega) (by rw [← HN.out, Nat.sub_self]; exact hown6) HF.out hg6 (fun r hr => (World.ownsRow.lt HOUT.out r hr).1))
            clear hown6 hg6
            go_wp2
            go_ret2
            refine ⟨_, by rw [HRt.out]; rfl, ?_, HQ.out.2⟩
            rw [HPU.out, if_pos HRt.out]
            exact HQ.out.1
          · have hck2 : ¬ (c : Int) = (k : Int) := by omega
            clear hnil
            go_wp2_with (at_builtin; refine wpList_append_own _ rfl _ _ 22 rfl w.heap.size 24 i0 (.agg #[.int .i64 0, .int .i64 0]) 2 16 Try.underlying22 hi0 hz0 hz1 hz2 rfl (by decide) (.slice (some ⟨g, 0, none⟩) (k + 1) cap) (k + 1) (bdc (l.take k ++ [x])) rfl HOUT.out _ _ _ (bdc (l.drop k)) rfl HLD.out (fun j u hu => (HCE.out j u hu).elim) (bdc_one _) (by unfold maxLen; omega) (by omega) HSZ.out ?_; intro v' w6 hown6 hg6 _)
            have HQ := Lib.hid (own_put (k := k) (l := l) (b := x) rfl (by have := HN.out; omega) (by rw [← HN.out, Nat.sub_self]; exact hown6) HF.out hg6 (fun r hr => (World.ownsRow.lt HOUT.out r hr).1))
            clear hown6 hg6
            go_wp2
            go_ret2
            refine ⟨_, by rw [HRt.out]; rfl, ?_, HQ.out.2⟩
            rw [HPU.out, if_pos HRt.out]
            exact HQ.out.1
end Go.Proofs.Ytfphihhcclfmnaa
