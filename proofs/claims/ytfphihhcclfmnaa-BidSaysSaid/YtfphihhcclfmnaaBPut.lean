/- One more bid by cars: Put. -/
import Derived.Test.YtfphihhcclfmnaaBIdx
import Derived.Test.YtfphihhcclfmnaaBCat
import Derived.Test.YtfphihhcclfmnaaBOf
namespace Go.Proofs.Ytfphihhcclfmnaa
open Go.RowKit

theorem hb_of_cells {w : World} {g n : Nat} {l : List (Int × Int)} (hn : l.length = n) (hm : n ≤ maxLen) (h : w.heap[g]? = some (.cells (bdc l).toArray 24 (0, 0))) : HB w (.slice (some ⟨g, 0, none⟩) n n) l := by
  subst hn
  refine ⟨_, _, rfl, ⟨Nat.le_refl _, by simp⟩, hm, fun _ => ⟨g, 0, rfl, fun i hi => ?_⟩⟩
  obtain ⟨a, b⟩ := bdc_get l i hi
  rw [Nat.zero_add, cell_of_row _ _ _ _ _ _ h, cell_of_row _ _ _ _ _ _ h]
  exact ⟨by simpa using a, by simpa using b⟩
/-- What stands behind, as a slice. -/
theorem HB.drop {w : World} {b off n c : Nat} {l : List (Int × Int)} (h : HB w (.slice (some ⟨b, off, none⟩) n c) l) (k : Nat) (hk : k < n) : HB w (.slice (some ⟨b, off + k * 2, none⟩) (n - k) (c - k)) (l.drop k) := by
  obtain ⟨a', c', he, h1, h2, h3⟩ := h
  simp only [Value.slice.injEq] at he
  obtain ⟨rfl, rfl, rfl⟩ := he
  refine ⟨_, _, by rw [List.length_drop], ⟨by rw [List.length_drop]; omega, by simp⟩, by omega, fun _ => ⟨b, off + k * 2, rfl, fun i hi => ?_⟩⟩
  rw [List.length_drop] at hi
  obtain ⟨b', off', e, hc⟩ := h3 (by omega)
  simp only [Option.some.injEq, Addr.mk.injEq, and_true] at e
  obtain ⟨rfl, rfl⟩ := e
  obtain ⟨x0, x1⟩ := hc (k + i) (by omega)
  have e2 : (l.drop k).getD i (0, 0) = l.getD (k + i) (0, 0) := by simp [List.getD]
  rw [e2, show off + k * 2 + i * 2 = off + (k + i) * 2 by omega]
  exact ⟨x0, x1⟩
theorem hb_empty (w : World) (a : Option Addr) (c : Nat) (hc : c ≤ maxLen) (ha : a = none → c = 0) : HB w (.slice a 0 c) [] :=
  ⟨a, c, rfl, ⟨Nat.zero_le _, ha⟩, hc, fun h => absurd h (by simp)⟩
/-- slices.Concat of three. -/
theorem concat3 {w W : World} {g1 g2 k c : Nat} {a : Option Addr} {s3 : Value} {l : List (Int × Int)} {b : Int × Int} (hf : Fr w W []) (hk : k = placeB l b.1) (hl : l.length ≤ 1000) (h1 : HB w (.slice a k c) (l.take k)) (h3 : HB w s3 (l.drop k))
    (hb : W.heap[g1]? = some (bidBox b)) (hr : W.heap[g2]? = some (.cells #[.slice a k c, .slice (some ⟨g1, 0, none⟩) 1 1, s3] 22 (0, 0))) :
    Calls Try.prog 24 #[.slice (some ⟨g2, 0, none⟩) 3 3] W (Gives fun u w' => OwnB w' W.heap.size u (insB b l) ∧ Fr W w' []) := by
  have hB : HB W (.slice (some ⟨g1, 0, none⟩) 1 1) [b] := hb_of_cells rfl (by decide) hb
  have hcat : catL [(.slice a k c, l.take k), (.slice (some ⟨g1, 0, none⟩) 1 1, [b]), (s3, l.drop k)] = insB b l := by
    rw [insB_split, ← hk]; simp [catL]
  have ht : totL [(.slice a k c, l.take k), (.slice (some ⟨g1, 0, none⟩) 1 1, [b]), (s3, l.drop k)] = (insB b l).length := by rw [← catL_len, hcat]
  rw [insB_length] at ht
  have := concat_any g2 [(.slice a k c, l.take k), (.slice (some ⟨g1, 0, none⟩) 1 1, [b]), (s3, l.drop k)] W (by simp) (by rw [ht]; omega)
    (fun i hi => by
      rw [cell_of_row _ _ _ _ _ _ hr]
      match i, hi with
      | 0, _ => rfl
      | 1, _ => rfl
      | 2, _ => rfl
      | i + 3, hi => exact absurd hi (by simp))
    (fun i hi => by
      match i, hi with
      | 0, _ => exact h1.keep hf
      | 1, _ => exact hB
      | 2, _ => exact h3.keep hf
      | i + 3, hi => exact absurd hi (by simp))
  rw [hcat] at this
  exact this
set_option maxHeartbeats 4000000 in
set_option maxRecDepth 100000 in
theorem bput_own (v : Value) (l : List (Int × Int)) (b : Int × Int) (w : World) (h : HB w v l) (hl : l.length ≤ 1000) (r : Bool) (hr : r = (bidOf l b.1).isNone) :
    Calls Try.prog 11 #[v, bidV b] w fun x w' => ∃ u, x = .returned (.tuple #[u, .bool r]) ∧ OwnB w' w.heap.size u (putB l b) ∧ Fr w w' [] := by
  obtain ⟨i0, hi0, hz0, hz1, hz2⟩ := info_parts infoB
  have OFF := Lib.hid (fun W (hW : Fr w W []) y r hy => bof_any v l b.1 W (h.keep hW) hl y r hy)
  have PLA := Lib.hid (fun W (hW : Fr w W []) => place_any v l b.1 W (h.keep hW) (by omega) _ rfl)
  have HLV := Lib.hid h
  obtain ⟨a, c, rfl, p1, q1, r1⟩ := h
  unfold maxLen at q1
  obtain ⟨n, hn⟩ : ∃ n, n = l.length := ⟨_, rfl⟩
  have HN := Lib.hid hn
  obtain ⟨k, hk⟩ : ∃ k, k = placeB l b.1 := ⟨_, rfl⟩
  have HK := Lib.hid hk
  have hkn : k ≤ n := by rw [hk, hn]; exact placeB_le _ _
  rw [← hk] at PLA
  have HLN := Lib.hid hl
  rw [← hn] at hl p1 r1
  have HLS := Lib.hid r1
  have HR := Lib.hid hr
  have O0 := Lib.hid (show OF w b _ from ⟨Fr.alloc w (bidBox b) [], heap_alloc_new w _⟩)
  clear r1 hk hr
  rw [← hn] at OFF PLA HLV ⊢
  clear hn
  obtain ⟨ba, bb⟩ := b
  dsimp only [bidV, bidBox] at *
  obtain ⟨y0, y1⟩ := brow O0.out.2
  cases hbo : bidOf l ba with
  | some y =>
    have HPU : Hid (putB l (ba, bb) = l ∧ r = false) := by
      show _ ∧ _
      refine ⟨?_, by rw [HR.out, hbo]; rfl⟩
      unfold putB
      dsimp only
      rw [hbo]
      rfl
    have OF1 := Lib.hid (OFF.out _ O0.out.1 y true (.inl ⟨hbo, rfl⟩))
    have h0 : 0 < n := by
      rw [HN.out]
      exact List.length_pos_of_mem (bidOf_car hbo).2
    obtain ⟨bk, off, rfl, _⟩ := HLS.out h0
    obtain ⟨ya, yb⟩ := y
    clear hbo PLA OFF HLS
    dsimp only [bidV] at *
    go_enter Try.func11, Try.ntmps11
    go_wp2_with fail
    with_reducible refine (OF1.out).mono ?_
    rintro e w1 ⟨rfl, hf⟩
    have O2 := Lib.hid ((O0.out.fr hf).fr (Fr.alloc w1 (bidBox (ya, yb)) []))
    have HCE := Lib.hid (fun (W : World) (hW : Fr w W []) => (HLV.out.keep hW).args)
    have HSZ := Lib.hid (show w.heap.size ≤ w1.heap.size from (O0.out.fr hf).1.size)
    dsimp only [bidBox] at O2
    clear hf y0 y1 OF1
    go_wp2_with (at_builtin; refine wpList_append_own _ rfl _ _ 22 rfl w.heap.size 24 i0 (.agg #[.int .i64 0, .int .i64 0]) 2 16 Try.underlying22 hi0 hz0 hz1 hz2 rfl (by decide) (.slice none 0 0) 0 [] rfl (OwnB.nil _ w.heap.size) ⟨bk, off, none⟩ n c (bdc l) rfl (by rw [bdc_len, HN.out]) (HCE.out _ O2.out.1) (bdc_one l) (by unfold maxLen; omega) (by omega) O2.out.1.size ?_; intro v' w3 hown3 hg3 _)
    have HO3 : Hid (OwnB w3 w.heap.size v' l ∧ Fr w w3 []) := by
      refine Lib.hid ⟨?_, O2.out.1.trans (Fr.of_grown hg3 [])⟩
      unfold OwnB
      rw [← HN.out]
      simpa using hown3
    clear hown3 hg3
    go_wp2
    go_ret2
    refine ⟨_, by rw [HPU.out.2]; rfl, ?_, HO3.out.2⟩
    rw [HPU.out.1]
    exact HO3.out.1
  | none =>
    have HPU : Hid (putB l (ba, bb) = insB (ba, bb) l ∧ r = true) := by
      show _ ∧ _
      refine ⟨?_, by rw [HR.out, hbo]; rfl⟩
      unfold putB
      dsimp only
      rw [hbo]
      rfl
    have OF1 := Lib.hid (OFF.out _ O0.out.1 (0, 0) false (.inr ⟨hbo, rfl, rfl⟩))
    have HLV2 : Hid (HB w (.slice a l.length c) l) := by rw [← HN.out]; exact HLV
    have HTK := Lib.hid (HLV2.out.cut k (by have := HN.out; omega))
    clear hbo OFF
    dsimp only [bidV] at *
    go_enter Try.func11, Try.ntmps11
    go_wp2_with fail
    with_reducible refine (OF1.out).mono ?_
    rintro e w1 ⟨rfl, hf⟩
    have O2 := Lib.hid ((O0.out.fr hf).fr (Fr.alloc w1 (bidBox (0, 0)) []))
    have PL1 := Lib.hid (PLA.out _ O2.out.1)
    dsimp only [bidBox] at O2 PL1
    obtain ⟨y0, y1⟩ := brow O2.out.2
    clear hf PLA OF1
    go_wp2_with fail
    with_reducible refine (PL1.out).mono ?_
    rintro e w2 ⟨rfl, hf⟩
    have O3 := Lib.hid (O2.out.fr hf)
    have hkc : k ≤ c := by omega
    clear hf PL1 y0 y1
    obtain ⟨y0, y1⟩ := brow O3.out.2
    have HSI := Lib.hid (show SB1 w.heap.size (ba, bb) w2.drew from ⟨y0, y1⟩)
    have F3 := Lib.hid (O3.out.1.trans (Fr.drew w2 []))
    have HSZ := Lib.hid O3.out.1.size
    clear y0 y1 O0 O2
    by_cases hlt : k < n
    · obtain ⟨bk, off, rfl, _⟩ := HLS.out (by omega)
      have hck : ¬ c = k := by omega
      have hck2 : ¬ (c : Int) = (k : Int) := by omega
      have H3 := Lib.hid (HLV.out.drop k hlt)
      go_wp2_with fail
      refine wp_region_noPanic ?_
      refine wp_region_held_drew (S := (SB1 w.heap.size (ba, bb))) (by kernel_rfl) HSI.out (fun hHeld => ?_)
      refine wpAnyH_take (i := 0) (oi := _) (v := ?fv0h1n2) (by simp only [List.getElem?_toArray, List.getElem?_cons_zero]; rfl) (by kernel_rfl) (by kernel_rfl) (by kernel_rfl) (fun _ _ _ h => h) (Or.inl ⟨by rfl, ?fy0h1n2⟩) (by assumption) ?fr0h1n2
      case fy0h1n2 => (intro w hSw; (try dsimp only [SB1] at hSw); go_simp; try with_reducible rfl)
      try simp only [Act.put, List.setIfInBounds_toArray, List.set_cons_zero, List.set_cons_succ]
      refine wpAnyH_take (i := 1) (oi := _) (v := ?fv1h1n2) (by simp only [List.getElem?_toArray, List.getElem?_cons_zero, List.getElem?_cons_succ]; rfl) (by kernel_rfl) (by kernel_rfl) (by kernel_rfl) (fun _ _ _ h => h) (Or.inl ⟨by rfl, ?fy1h1n2⟩) (by assumption) ?fr1h1n2
      case fy1h1n2 => (intro w hSw; (try dsimp only [SB1] at hSw); go_simp; try with_reducible rfl)
      try simp only [Act.put, List.setIfInBounds_toArray, List.set_cons_zero, List.set_cons_succ]
      refine wpAnyH_take (i := 2) (oi := _) (v := ?fv2h1n2) (by simp only [List.getElem?_toArray, List.getElem?_cons_zero, List.getElem?_cons_succ]; rfl) (by kernel_rfl) (by kernel_rfl) (by kernel_rfl) (fun _ _ _ h => h) (Or.inl ⟨by rfl, ?fy2h1n2⟩) (by assumption) ?fr2h1n2
      case fy2h1n2 => (intro w hSw; (try dsimp only [SB1] at hSw); go_simp; try with_reducible rfl)
      try simp only [Act.put, List.setIfInBounds_toArray, List.set_cons_zero, List.set_cons_succ]
      refine wpAnyH_take (i := 3) (oi := _) (v := ?fv3h1n2) (by simp only [List.getElem?_toArray, List.getElem?_cons_zero, List.getElem?_cons_succ]; rfl) (by kernel_rfl) (by kernel_rfl) (by kernel_rfl) (fun _ _ _ h => h) (Or.inl ⟨by rfl, ?fy3h1n2⟩) (by assumption) ?fr3h1n2
      case fy3h1n2 => (intro w hSw; (try dsimp only [SB1] at hSw); go_simp; try with_reducible rfl)
      try simp only [Act.put, List.setIfInBounds_toArray, List.set_cons_zero, List.set_cons_succ]
      refine wpAnyH_take (i := 5) (oi := _) (v := ?fv5h1n2) (by simp only [List.getElem?_toArray, List.getElem?_cons_zero, List.getElem?_cons_succ]; rfl) (by kernel_rfl) (by kernel_rfl) (by kernel_rfl) (fun _ _ _ h => h) (Or.inl ⟨by rfl, ?fy5h1n2⟩) (by assumption) ?fr5h1n2
      case fy5h1n2 => (intro w hSw; (try dsimp only [SB1] at hSw); go_simp; try with_reducible rfl)
      try simp only [Act.put, List.setIfInBounds_toArray, List.set_cons_zero, List.set_cons_succ]
      refine wpAnyH_take (i := 6) (oi := _) (v := ?fv6h1n2) (by simp only [List.getElem?_toArray, List.getElem?_cons_zero, List.getElem?_cons_succ]; rfl) (by kernel_rfl) (by kernel_rfl) (by kernel_rfl) (fun _ _ _ h => h) (Or.inl ⟨by rfl, ?fy6h1n2⟩) (by assumption) ?fr6h1n2
      case fy6h1n2 => (intro w hSw; (try dsimp only [SB1] at hSw); go_simp; try with_reducible rfl)
      try simp only [Act.put, List.setIfInBounds_toArray, List.set_cons_zero, List.set_cons_succ]
      refine wpAnyH_take (i := 7) (oi := _) (v := ?fv7h1n2) (by simp only [List.getElem?_toArray, List.getElem?_cons_zero, List.getElem?_cons_succ]; rfl) (by kernel_rfl) (by kernel_rfl) (by kernel_rfl) (fun _ _ _ h => h) (Or.inl ⟨by rfl, ?fy7h1n2⟩) (by assumption) ?fr7h1n2
      case fy7h1n2 => (intro w hSw; (try dsimp only [SB1] at hSw); go_simp; try with_reducible rfl)
      try simp only [Act.put, List.setIfInBounds_toArray, List.set_cons_zero, List.set_cons_succ]
      refine wpAnyH_ready (rs := [4]) (by kernel_rfl) (by simp) ?_
      refine AllReadyH.cons (o := _) rfl (fun K hK => ?_) AllReadyH.nil
      go_simp
      have hS1 := SB1.fr (a := w2) (a' := (w2.alloc (.cells #[.int .i64 ba, .int .i64 bb] 24)).drew) HSI.out ((Fr.alloc w2 (.cells #[.int .i64 ba, .int .i64 bb] 24) []).trans (Fr.drew _ [])) (by simp)
      refine hK.out _ _ hS1 (fun hHeld => ?_)
      clear hK K
      try simp only [Act.put, List.setIfInBounds_toArray, List.set_cons_zero, List.set_cons_succ]
      refine wpAnyH_ready (rs := [8]) (by kernel_rfl) (by simp) ?_
      refine AllReadyH.cons (o := _) rfl (fun K hK => ?_) AllReadyH.nil
      go_simp
      have HFF := Lib.hid (show Fr w2 ((w2.alloc (.cells #[.int .i64 ba, .int .i64 bb] 24)).alloc (.cells #[.slice (some ⟨bk, off, none⟩) k c, .slice (some ⟨w2.heap.size, 0, none⟩) 1 1, .slice (some ⟨bk, off + k * 2, none⟩) (n - k) (c - k)] 22)).drew [] from ((Fr.alloc w2 _ []).trans (Fr.alloc _ _ [])).trans (Fr.drew _ []))
      have hS2 := SB1.fr (a := w2) HSI.out HFF.out (by simp)
      refine hK.out _ _ hS2 (fun hHeld => ?_)
      clear hK K
      try simp only [Act.put, List.setIfInBounds_toArray, List.set_cons_zero, List.set_cons_succ]
      refine wpAnyH_ready (rs := [9]) (by kernel_rfl) (by simp) ?_
      refine AllReadyH.cons (o := _) rfl (fun K hK => ?_) AllReadyH.nil
      go_simp
      have HR1 := Lib.hid (show ((w2.alloc (.cells #[.int .i64 ba, .int .i64 bb] 24)).alloc (.cells #[.slice (some ⟨bk, off, none⟩) k c, .slice (some ⟨w2.heap.size, 0, none⟩) 1 1, .slice (some ⟨bk, off + k * 2, none⟩) (n - k) (c - k)] 22)).drew.heap[w2.heap.size]? = some (bidBox (ba, bb)) from (Fr.alloc _ _ []).heap (heap_alloc_new w2 (bidBox (ba, bb))) (by simp))
      have HR2 := Lib.hid (show ((w2.alloc (.cells #[.int .i64 ba, .int .i64 bb] 24)).alloc (.cells #[.slice (some ⟨bk, off, none⟩) k c, .slice (some ⟨w2.heap.size, 0, none⟩) 1 1, .slice (some ⟨bk, off + k * 2, none⟩) (n - k) (c - k)] 22)).drew.heap[w2.heap.size + 1]? = some (.cells #[.slice (some ⟨bk, off, none⟩) k c, .slice (some ⟨w2.heap.size, 0, none⟩) 1 1, .slice (some ⟨bk, off + k * 2, none⟩) (n - k) (c - k)] 22 (0, 0)) by
        have := heap_alloc_new (w2.alloc (.cells #[.int .i64 ba, .int .i64 bb] 24)) (.cells #[.slice (some ⟨bk, off, none⟩) k c, .slice (some ⟨w2.heap.size, 0, none⟩) 1 1, .slice (some ⟨bk, off + k * 2, none⟩) (n - k) (c - k)] 22)
        rw [show (w2.alloc (.cells #[.int .i64 ba, .int .i64 bb] 24)).heap.size = w2.heap.size + 1 by simp] at this
        exact this)
      have HCC := Lib.hid (concat3 (O3.out.1.trans HFF.out) HK.out HLN.out HTK.out H3.out HR1.out HR2.out)
      ((with_reducible refine (HCC.out).mono ?_); rintro e w4 ⟨u, rfl, ho, hf⟩; have hT := hHeld.fr hf (by simp); have HO := Lib.hid (OwnB.mono ho (Nat.le_trans HSZ.out HFF.out.size)); have HF := Lib.hid ((O3.out.1.trans HFF.out).trans hf); clear ho hf HCC)
      go_wp2_with fail
      refine hK.out _ _ hT (fun hHeld => ?_)
      clear hK K
      try simp only [Act.put, List.setIfInBounds_toArray, List.set_cons_zero, List.set_cons_succ]
      refine wpAnyH_take (i := 10) (oi := _) (v := ?fv10h1n3) (by simp only [List.getElem?_toArray, List.getElem?_cons_zero, List.getElem?_cons_succ]; rfl) (by kernel_rfl) (by kernel_rfl) (by kernel_rfl) (fun _ _ _ h => h) (Or.inl ⟨by rfl, ?fy10h1n3⟩) (by assumption) ?fr10h1n3
      case fy10h1n3 => (intro w hSw; (try dsimp only [SB1] at hSw); go_simp; try with_reducible rfl)
      try simp only [Act.put, List.setIfInBounds_toArray, List.set_cons_zero, List.set_cons_succ]
      refine wpAnyH_take (i := 11) (oi := _) (v := ?fv11h1n3) (by simp only [List.getElem?_toArray, List.getElem?_cons_zero, List.getElem?_cons_succ]; rfl) (by kernel_rfl) (by kernel_rfl) (by kernel_rfl) (fun _ _ _ h => h) (Or.inl ⟨by rfl, ?fy11h1n3⟩) (by assumption) ?fr11h1n3
      case fy11h1n3 => (intro w hSw; (try dsimp only [SB1] at hSw); go_simp; try with_reducible rfl)
      try simp only [Act.put, List.setIfInBounds_toArray, List.set_cons_zero, List.set_cons_succ]
      refine wpAnyH_done (by kernel_rfl) ?_ _
      refine NoPanic.normal ?_
      go_wp2
      go_ret2
      refine ⟨_, by rw [HPU.out.2]; rfl, ?_, HF.out⟩
      rw [HPU.out.1]
      exact HO.out
    · obtain rfl : k = n := by omega
      have HDR : Hid (l.drop k = []) := by show _ = _; rw [HN.out]; exact List.drop_length
      cases a with
      | none =>
        obtain rfl : c = 0 := p1.2 rfl
        obtain rfl : k = 0 := by omega
        have H3 : Hid (HB w (.slice none 0 0) (l.drop 0)) := by rw [HDR.out]; exact Lib.hid nil_bids
        go_wp2_with fail
        refine wp_region_noPanic ?_
        refine wp_region_held_drew (S := (SB1 w.heap.size (ba, bb))) (by kernel_rfl) HSI.out (fun hHeld => ?_)
        refine wpAnyH_take (i := 0) (oi := _) (v := ?fv0h4n5) (by simp only [List.getElem?_toArray, List.getElem?_cons_zero]; rfl) (by kernel_rfl) (by kernel_rfl) (by kernel_rfl) (fun _ _ _ h => h) (Or.inl ⟨by rfl, ?fy0h4n5⟩) (by assumption) ?fr0h4n5
        case fy0h4n5 => (intro w hSw; (try dsimp only [SB1] at hSw); go_simp; try with_reducible rfl)
        try simp only [Act.put, List.setIfInBounds_toArray, List.set_cons_zero, List.set_cons_succ]
        refine wpAnyH_take (i := 1) (oi := _) (v := ?fv1h4n5) (by simp only [List.getElem?_toArray, List.getElem?_cons_zero, List.getElem?_cons_succ]; rfl) (by kernel_rfl) (by kernel_rfl) (by kernel_rfl) (fun _ _ _ h => h) (Or.inl ⟨by rfl, ?fy1h4n5⟩) (by assumption) ?fr1h4n5
        case fy1h4n5 => (intro w hSw; (try dsimp only [SB1] at hSw); go_simp; try with_reducible rfl)
        try simp only [Act.put, List.setIfInBounds_toArray, List.set_cons_zero, List.set_cons_succ]
        refine wpAnyH_take (i := 2) (oi := _) (v := ?fv2h4n5) (by simp only [List.getElem?_toArray, List.getElem?_cons_zero, List.getElem?_cons_succ]; rfl) (by kernel_rfl) (by kernel_rfl) (by kernel_rfl) (fun _ _ _ h => h) (Or.inl ⟨by rfl, ?fy2h4n5⟩) (by assumption) ?fr2h4n5
        case fy2h4n5 => (intro w hSw; (try dsimp only [SB1] at hSw); go_simp; try with_reducible rfl)
        try simp only [Act.put, List.setIfInBounds_toArray, List.set_cons_zero, List.set_cons_succ]
        refine wpAnyH_take (i := 3) (oi := _) (v := ?fv3h4n5) (by simp only [List.getElem?_toArray, List.getElem?_cons_zero, List.getElem?_cons_succ]; rfl) (by kernel_rfl) (by kernel_rfl) (by kernel_rfl) (fun _ _ _ h => h) (Or.inl ⟨by rfl, ?fy3h4n5⟩) (by assumption) ?fr3h4n5
        case fy3h4n5 => (intro w hSw; (try dsimp only [SB1] at hSw); go_simp; try with_reducible rfl)
        try simp only [Act.put, List.setIfInBounds_toArray, List.set_cons_zero, List.set_cons_succ]
        refine wpAnyH_take (i := 5) (oi := _) (v := ?fv5h4n5) (by simp only [List.getElem?_toArray, List.getElem?_cons_zero, List.getElem?_cons_succ]; rfl) (by kernel_rfl) (by kernel_rfl) (by kernel_rfl) (fun _ _ _ h => h) (Or.inl ⟨by rfl, ?fy5h4n5⟩) (by assumption) ?fr5h4n5
        case fy5h4n5 => (intro w hSw; (try dsimp only [SB1] at hSw); go_simp; try with_reducible rfl)
        try simp only [Act.put, List.setIfInBounds_toArray, List.set_cons_zero, List.set_cons_succ]
        refine wpAnyH_take (i := 6) (oi := _) (v := ?fv6h4n5) (by simp only [List.getElem?_toArray, List.getElem?_cons_zero, List.getElem?_cons_succ]; rfl) (by kernel_rfl) (by kernel_rfl) (by kernel_rfl) (fun _ _ _ h => h) (Or.inl ⟨by rfl, ?fy6h4n5⟩) (by assumption) ?fr6h4n5
        case fy6h4n5 => (intro w hSw; (try dsimp only [SB1] at hSw); go_simp; try with_reducible rfl)
        try simp only [Act.put, List.setIfInBounds_toArray, List.set_cons_zero, List.set_cons_succ]
        refine wpAnyH_take (i := 7) (oi := _) (v := ?fv7h4n5) (by simp only [List.getElem?_toArray, List.getElem?_cons_zero, List.getElem?_cons_succ]; rfl) (by kernel_rfl) (by kernel_rfl) (by kernel_rfl) (fun _ _ _ h => h) (Or.inl ⟨by rfl, ?fy7h4n5⟩) (by assumption) ?fr7h4n5
        case fy7h4n5 => (intro w hSw; (try dsimp only [SB1] at hSw); go_simp; try with_reducible rfl)
        try simp only [Act.put, List.setIfInBounds_toArray, List.set_cons_zero, List.set_cons_succ]
        refine wpAnyH_ready (rs := [4]) (by kernel_rfl) (by simp) ?_
        refine AllReadyH.cons (o := _) rfl (fun K hK => ?_) AllReadyH.nil
        go_simp
        have hS1 := SB1.fr (a := w2) (a' := (w2.alloc (.cells #[.int .i64 ba, .int .i64 bb] 24)).drew) HSI.out ((Fr.alloc w2 (.cells #[.int .i64 ba, .int .i64 bb] 24) []).trans (Fr.drew _ [])) (by simp)
        refine hK.out _ _ hS1 (fun hHeld => ?_)
        clear hK K
        try simp only [Act.put, List.setIfInBounds_toArray, List.set_cons_zero, List.set_cons_succ]
        refine wpAnyH_ready (rs := [8]) (by kernel_rfl) (by simp) ?_
        refine AllReadyH.cons (o := _) rfl (fun K hK => ?_) AllReadyH.nil
        go_simp
        have HFF := Lib.hid (show Fr w2 ((w2.alloc (.cells #[.int .i64 ba, .int .i64 bb] 24)).alloc (.cells #[.slice none 0 0, .slice (some ⟨w2.heap.size, 0, none⟩) 1 1, .slice none 0 0] 22)).drew [] from ((Fr.alloc w2 _ []).trans (Fr.alloc _ _ [])).trans (Fr.drew _ []))
        have hS2 := SB1.fr (a := w2) HSI.out HFF.out (by simp)
        refine hK.out _ _ hS2 (fun hHeld => ?_)
        clear hK K
        try simp only [Act.put, List.setIfInBounds_toArray, List.set_cons_zero, List.set_cons_succ]
        refine wpAnyH_ready (rs := [9]) (by kernel_rfl) (by simp) ?_
        refine AllReadyH.cons (o := _) rfl (fun K hK => ?_) AllReadyH.nil
        go_simp
        have HR1 := Lib.hid (show ((w2.alloc (.cells #[.int .i64 ba, .int .i64 bb] 24)).alloc (.cells #[.slice none 0 0, .slice (some ⟨w2.heap.size, 0, none⟩) 1 1, .slice none 0 0] 22)).drew.heap[w2.heap.size]? = some (bidBox (ba, bb)) from (Fr.alloc _ _ []).heap (heap_alloc_new w2 (bidBox (ba, bb))) (by simp))
        have HR2 := Lib.hid (show ((w2.alloc (.cells #[.int .i64 ba, .int .i64 bb] 24)).alloc (.cells #[.slice none 0 0, .slice (some ⟨w2.heap.size, 0, none⟩) 1 1, .slice none 0 0] 22)).drew.heap[w2.heap.size + 1]? = some (.cells #[.slice none 0 0, .slice (some ⟨w2.heap.size, 0, none⟩) 1 1, .slice none 0 0] 22 (0, 0)) by
          have := heap_alloc_new (w2.alloc (.cells #[.int .i64 ba, .int .i64 bb] 24)) (.cells #[.slice none 0 0, .slice (some ⟨w2.heap.size, 0, none⟩) 1 1, .slice none 0 0] 22)
          rw [show (w2.alloc (.cells #[.int .i64 ba, .int .i64 bb] 24)).heap.size = w2.heap.size + 1 by simp] at this
          exact this)
        have HCC := Lib.hid (concat3 (O3.out.1.trans HFF.out) HK.out HLN.out HTK.out H3.out HR1.out HR2.out)
        ((with_reducible refine (HCC.out).mono ?_); rintro e w4 ⟨u, rfl, ho, hf⟩; have hT := hHeld.fr hf (by simp); have HO := Lib.hid (OwnB.mono ho (Nat.le_trans HSZ.out HFF.out.size)); have HF := Lib.hid ((O3.out.1.trans HFF.out).trans hf); clear ho hf HCC)
        go_wp2_with fail
        refine hK.out _ _ hT (fun hHeld => ?_)
        clear hK K
        try simp only [Act.put, List.setIfInBounds_toArray, List.set_cons_zero, List.set_cons_succ]
        refine wpAnyH_take (i := 10) (oi := _) (v := ?fv10h4n6) (by simp only [List.getElem?_toArray, List.getElem?_cons_zero, List.getElem?_cons_succ]; rfl) (by kernel_rfl) (by kernel_rfl) (by kernel_rfl) (fun _ _ _ h => h) (Or.inl ⟨by rfl, ?fy10h4n6⟩) (by assumption) ?fr10h4n6
        case fy10h4n6 => (intro w hSw; (try dsimp only [SB1] at hSw); go_simp; try with_reducible rfl)
        try simp only [Act.put, List.setIfInBounds_toArray, List.set_cons_zero, List.set_cons_succ]
        refine wpAnyH_take (i := 11) (oi := _) (v := ?fv11h4n6) (by simp only [List.getElem?_toArray, List.getElem?_cons_zero, List.getElem?_cons_succ]; rfl) (by kernel_rfl) (by kernel_rfl) (by kernel_rfl) (fun _ _ _ h => h) (Or.inl ⟨by rfl, ?fy11h4n6⟩) (by assumption) ?fr11h4n6
        case fy11h4n6 => (intro w hSw; (try dsimp only [SB1] at hSw); go_simp; try with_reducible rfl)
        try simp only [Act.put, List.setIfInBounds_toArray, List.set_cons_zero, List.set_cons_succ]
        refine wpAnyH_done (by kernel_rfl) ?_ _
        refine NoPanic.normal ?_
        go_wp2
        go_ret2
        refine ⟨_, by rw [HPU.out.2]; rfl, ?_, HF.out⟩
        rw [HPU.out.1]
        exact HO.out
      | some ad =>
        obtain ⟨bk, off, sp⟩ := ad
        by_cases hck : c = k
        · subst hck
          have H3 : Hid (HB w (.slice (some ⟨bk, off, sp⟩) 0 0) (l.drop c)) := by rw [HDR.out]; exact Lib.hid (hb_empty w _ _ (by decide) (by simp))
          go_wp2_with fail
          refine wp_region_noPanic ?_
          refine wp_region_held_drew (S := (SB1 w.heap.size (ba, bb))) (by kernel_rfl) HSI.out (fun hHeld => ?_)
          refine wpAnyH_take (i := 0) (oi := _) (v := ?fv0h7n8) (by simp only [List.getElem?_toArray, List.getElem?_cons_zero]; rfl) (by kernel_rfl) (by kernel_rfl) (by kernel_rfl) (fun _ _ _ h => h) (Or.inl ⟨by rfl, ?fy0h7n8⟩) (by assumption) ?fr0h7n8
          case fy0h7n8 => (intro w hSw; (try dsimp only [SB1] at hSw); go_simp; try with_reducible rfl)
          try simp only [Act.put, List.setIfInBounds_toArray, List.set_cons_zero, List.set_cons_succ]
          refine wpAnyH_take (i := 1) (oi := _) (v := ?fv1h7n8) (by simp only [List.getElem?_toArray, List.getElem?_cons_zero, List.getElem?_cons_succ]; rfl) (by kernel_rfl) (by kernel_rfl) (by kernel_rfl) (fun _ _ _ h => h) (Or.inl ⟨by rfl, ?fy1h7n8⟩) (by assumption) ?fr1h7n8
          case fy1h7n8 => (intro w hSw; (try dsimp only [SB1] at hSw); go_simp; try with_reducible rfl)
          try simp only [Act.put, List.setIfInBounds_toArray, List.set_cons_zero, List.set_cons_succ]
          refine wpAnyH_take (i := 2) (oi := _) (v := ?fv2h7n8) (by simp only [List.getElem?_toArray, List.getElem?_cons_zero, List.getElem?_cons_succ]; rfl) (by kernel_rfl) (by kernel_rfl) (by kernel_rfl) (fun _ _ _ h => h) (Or.inl ⟨by rfl, ?fy2h7n8⟩) (by assumption) ?fr2h7n8
          case fy2h7n8 => (intro w hSw; (try dsimp only [SB1] at hSw); go_simp; try with_reducible rfl)
          try simp only [Act.put, List.setIfInBounds_toArray, List.set_cons_zero, List.set_cons_succ]
          refine wpAnyH_take (i := 3) (oi := _) (v := ?fv3h7n8) (by simp only [List.getElem?_toArray, List.getElem?_cons_zero, List.getElem?_cons_succ]; rfl) (by kernel_rfl) (by kernel_rfl) (by kernel_rfl) (fun _ _ _ h => h) (Or.inl ⟨by rfl, ?fy3h7n8⟩) (by assumption) ?fr3h7n8
          case fy3h7n8 => (intro w hSw; (try dsimp only [SB1] at hSw); go_simp; try with_reducible rfl)
          try simp only [Act.put, List.setIfInBounds_toArray, List.set_cons_zero, List.set_cons_succ]
          refine wpAnyH_take (i := 5) (oi := _) (v := ?fv5h7n8) (by simp only [List.getElem?_toArray, List.getElem?_cons_zero, List.getElem?_cons_succ]; rfl) (by kernel_rfl) (by kernel_rfl) (by kernel_rfl) (fun _ _ _ h => h) (Or.inl ⟨by rfl, ?fy5h7n8⟩) (by assumption) ?fr5h7n8
          case fy5h7n8 => (intro w hSw; (try dsimp only [SB1] at hSw); go_simp; try with_reducible rfl)
          try simp only [Act.put, List.setIfInBounds_toArray, List.set_cons_zero, List.set_cons_succ]
          refine wpAnyH_take (i := 6) (oi := _) (v := ?fv6h7n8) (by simp only [List.getElem?_toArray, List.getElem?_cons_zero, List.getElem?_cons_succ]; rfl) (by kernel_rfl) (by kernel_rfl) (by kernel_rfl) (fun _ _ _ h => h) (Or.inl ⟨by rfl, ?fy6h7n8⟩) (by assumption) ?fr6h7n8
          case fy6h7n8 => (intro w hSw; (try dsimp only [SB1] at hSw); go_simp; try with_reducible rfl)
          try simp only [Act.put, List.setIfInBounds_toArray, List.set_cons_zero, List.set_cons_succ]
          refine wpAnyH_take (i := 7) (oi := _) (v := ?fv7h7n8) (by simp only [List.getElem?_toArray, List.getElem?_cons_zero, List.getElem?_cons_succ]; rfl) (by kernel_rfl) (by kernel_rfl) (by kernel_rfl) (fun _ _ _ h => h) (Or.inl ⟨by rfl, ?fy7h7n8⟩) (by assumption) ?fr7h7n8
          case fy7h7n8 => (intro w hSw; (try dsimp only [SB1] at hSw); go_simp; try with_reducible rfl)
          try simp only [Act.put, List.setIfInBounds_toArray, List.set_cons_zero, List.set_cons_succ]
          refine wpAnyH_ready (rs := [4]) (by kernel_rfl) (by simp) ?_
          refine AllReadyH.cons (o := _) rfl (fun K hK => ?_) AllReadyH.nil
          go_simp
          have hS1 := SB1.fr (a := w2) (a' := (w2.alloc (.cells #[.int .i64 ba, .int .i64 bb] 24)).drew) HSI.out ((Fr.alloc w2 (.cells #[.int .i64 ba, .int .i64 bb] 24) []).trans (Fr.drew _ [])) (by simp)
          refine hK.out _ _ hS1 (fun hHeld => ?_)
          clear hK K
          try simp only [Act.put, List.setIfInBounds_toArray, List.set_cons_zero, List.set_cons_succ]
          refine wpAnyH_ready (rs := [8]) (by kernel_rfl) (by simp) ?_
          refine AllReadyH.cons (o := _) rfl (fun K hK => ?_) AllReadyH.nil
          go_simp
          have HFF := Lib.hid (show Fr w2 ((w2.alloc (.cells #[.int .i64 ba, .int .i64 bb] 24)).alloc (.cells #[.slice (some ⟨bk, off, sp⟩) c c, .slice (some ⟨w2.heap.size, 0, none⟩) 1 1, .slice (some ⟨bk, off, sp⟩) 0 0] 22)).drew [] from ((Fr.alloc w2 _ []).trans (Fr.alloc _ _ [])).trans (Fr.drew _ []))
          have hS2 := SB1.fr (a := w2) HSI.out HFF.out (by simp)
          refine hK.out _ _ hS2 (fun hHeld => ?_)
          clear hK K
          try simp only [Act.put, List.setIfInBounds_toArray, List.set_cons_zero, List.set_cons_succ]
          refine wpAnyH_ready (rs := [9]) (by kernel_rfl) (by simp) ?_
          refine AllReadyH.cons (o := _) rfl (fun K hK => ?_) AllReadyH.nil
          go_simp
          have HR1 := Lib.hid (show ((w2.alloc (.cells #[.int .i64 ba, .int .i64 bb] 24)).alloc (.cells #[.slice (some ⟨bk, off, sp⟩) c c, .slice (some ⟨w2.heap.size, 0, none⟩) 1 1, .slice (some ⟨bk, off, sp⟩) 0 0] 22)).drew.heap[w2.heap.size]? = some (bidBox (ba, bb)) from (Fr.alloc _ _ []).heap (heap_alloc_new w2 (bidBox (ba, bb))) (by simp))
          have HR2 := Lib.hid (show ((w2.alloc (.cells #[.int .i64 ba, .int .i64 bb] 24)).alloc (.cells #[.slice (some ⟨bk, off, sp⟩) c c, .slice (some ⟨w2.heap.size, 0, none⟩) 1 1, .slice (some ⟨bk, off, sp⟩) 0 0] 22)).drew.heap[w2.heap.size + 1]? = some (.cells #[.slice (some ⟨bk, off, sp⟩) c c, .slice (some ⟨w2.heap.size, 0, none⟩) 1 1, .slice (some ⟨bk, off, sp⟩) 0 0] 22 (0, 0)) by
            have := heap_alloc_new (w2.alloc (.cells #[.int .i64 ba, .int .i64 bb] 24)) (.cells #[.slice (some ⟨bk, off, sp⟩) c c, .slice (some ⟨w2.heap.size, 0, none⟩) 1 1, .slice (some ⟨bk, off, sp⟩) 0 0] 22)
            rw [show (w2.alloc (.cells #[.int .i64 ba, .int .i64 bb] 24)).heap.size = w2.heap.size + 1 by simp] at this
            exact this)
          have HCC := Lib.hid (concat3 (O3.out.1.trans HFF.out) HK.out HLN.out HTK.out H3.out HR1.out HR2.out)
          ((with_reducible refine (HCC.out).mono ?_); rintro e w4 ⟨u, rfl, ho, hf⟩; have hT := hHeld.fr hf (by simp); have HO := Lib.hid (OwnB.mono ho (Nat.le_trans HSZ.out HFF.out.size)); have HF := Lib.hid ((O3.out.1.trans HFF.out).trans hf); clear ho hf HCC)
          go_wp2_with fail
          refine hK.out _ _ hT (fun hHeld => ?_)
          clear hK K
          try simp only [Act.put, List.setIfInBounds_toArray, List.set_cons_zero, List.set_cons_succ]
          refine wpAnyH_take (i := 10) (oi := _) (v := ?fv10h7n9) (by simp only [List.getElem?_toArray, List.getElem?_cons_zero, List.getElem?_cons_succ]; rfl) (by kernel_rfl) (by kernel_rfl) (by kernel_rfl) (fun _ _ _ h => h) (Or.inl ⟨by rfl, ?fy10h7n9⟩) (by assumption) ?fr10h7n9
          case fy10h7n9 => (intro w hSw; (try dsimp only [SB1] at hSw); go_simp; try with_reducible rfl)
          try simp only [Act.put, List.setIfInBounds_toArray, List.set_cons_zero, List.set_cons_succ]
          refine wpAnyH_take (i := 11) (oi := _) (v := ?fv11h7n9) (by simp only [List.getElem?_toArray, List.getElem?_cons_zero, List.getElem?_cons_succ]; rfl) (by kernel_rfl) (by kernel_rfl) (by kernel_rfl) (fun _ _ _ h => h) (Or.inl ⟨by rfl, ?fy11h7n9⟩) (by assumption) ?fr11h7n9
          case fy11h7n9 => (intro w hSw; (try dsimp only [SB1] at hSw); go_simp; try with_reducible rfl)
          try simp only [Act.put, List.setIfInBounds_toArray, List.set_cons_zero, List.set_cons_succ]
          refine wpAnyH_done (by kernel_rfl) ?_ _
          refine NoPanic.normal ?_
          go_wp2
          go_ret2
          refine ⟨_, by rw [HPU.out.2]; rfl, ?_, HF.out⟩
          rw [HPU.out.1]
          exact HO.out
        · have hck2 : ¬ (c : Int) = (k : Int) := by omega
          have H3 : Hid (HB w (.slice (some (Addr.add ⟨bk, off, sp⟩ (k * 2))) 0 (c - k)) (l.drop k)) := by rw [HDR.out]; exact Lib.hid (hb_empty w _ _ (by unfold maxLen; omega) (by simp))
          go_wp2_with fail
          refine wp_region_noPanic ?_
          refine wp_region_held_drew (S := (SB1 w.heap.size (ba, bb))) (by kernel_rfl) HSI.out (fun hHeld => ?_)
          refine wpAnyH_take (i := 0) (oi := _) (v := ?fv0h10n11) (by simp only [List.getElem?_toArray, List.getElem?_cons_zero]; rfl) (by kernel_rfl) (by kernel_rfl) (by kernel_rfl) (fun _ _ _ h => h) (Or.inl ⟨by rfl, ?fy0h10n11⟩) (by assumption) ?fr0h10n11
          case fy0h10n11 => (intro w hSw; (try dsimp only [SB1] at hSw); go_simp; try with_reducible rfl)
          try simp only [Act.put, List.setIfInBounds_toArray, List.set_cons_zero, List.set_cons_succ]
          refine wpAnyH_take (i := 1) (oi := _) (v := ?fv1h10n11) (by simp only [List.getElem?_toArray, List.getElem?_cons_zero, List.getElem?_cons_succ]; rfl) (by kernel_rfl) (by kernel_rfl) (by kernel_rfl) (fun _ _ _ h => h) (Or.inl ⟨by rfl, ?fy1h10n11⟩) (by assumption) ?fr1h10n11
          case fy1h10n11 => (intro w hSw; (try dsimp only [SB1] at hSw); go_simp; try with_reducible rfl)
          try simp only [Act.put, List.setIfInBounds_toArray, List.set_cons_zero, List.set_cons_succ]
          refine wpAnyH_take (i := 2) (oi := _) (v := ?fv2h10n11) (by simp only [List.getElem?_toArray, List.getElem?_cons_zero, List.getElem?_cons_succ]; rfl) (by kernel_rfl) (by kernel_rfl) (by kernel_rfl) (fun _ _ _ h => h) (Or.inl ⟨by rfl, ?fy2h10n11⟩) (by assumption) ?fr2h10n11
          case fy2h10n11 => (intro w hSw; (try dsimp only [SB1] at hSw); go_simp; try with_reducible rfl)
          try simp only [Act.put, List.setIfInBounds_toArray, List.set_cons_zero, List.set_cons_succ]
          refine wpAnyH_take (i := 3) (oi := _) (v := ?fv3h10n11) (by simp only [List.getElem?_toArray, List.getElem?_cons_zero, List.getElem?_cons_succ]; rfl) (by kernel_rfl) (by kernel_rfl) (by kernel_rfl) (fun _ _ _ h => h) (Or.inl ⟨by rfl, ?fy3h10n11⟩) (by assumption) ?fr3h10n11
          case fy3h10n11 => (intro w hSw; (try dsimp only [SB1] at hSw); go_simp; try with_reducible rfl)
          try simp only [Act.put, List.setIfInBounds_toArray, List.set_cons_zero, List.set_cons_succ]
          refine wpAnyH_take (i := 5) (oi := _) (v := ?fv5h10n11) (by simp only [List.getElem?_toArray, List.getElem?_cons_zero, List.getElem?_cons_succ]; rfl) (by kernel_rfl) (by kernel_rfl) (by kernel_rfl) (fun _ _ _ h => h) (Or.inl ⟨by rfl, ?fy5h10n11⟩) (by assumption) ?fr5h10n11
          case fy5h10n11 => (intro w hSw; (try dsimp only [SB1] at hSw); go_simp; try with_reducible rfl)
          try simp only [Act.put, List.setIfInBounds_toArray, List.set_cons_zero, List.set_cons_succ]
          refine wpAnyH_take (i := 6) (oi := _) (v := ?fv6h10n11) (by simp only [List.getElem?_toArray, List.getElem?_cons_zero, List.getElem?_cons_succ]; rfl) (by kernel_rfl) (by kernel_rfl) (by kernel_rfl) (fun _ _ _ h => h) (Or.inl ⟨by rfl, ?fy6h10n11⟩) (by assumption) ?fr6h10n11
          case fy6h10n11 => (intro w hSw; (try dsimp only [SB1] at hSw); go_simp; try with_reducible rfl)
          try simp only [Act.put, List.setIfInBounds_toArray, List.set_cons_zero, List.set_cons_succ]
          refine wpAnyH_take (i := 7) (oi := _) (v := ?fv7h10n11) (by simp only [List.getElem?_toArray, List.getElem?_cons_zero, List.getElem?_cons_succ]; rfl) (by kernel_rfl) (by kernel_rfl) (by kernel_rfl) (fun _ _ _ h => h) (Or.inl ⟨by rfl, ?fy7h10n11⟩) (by assumption) ?fr7h10n11
          case fy7h10n11 => (intro w hSw; (try dsimp only [SB1] at hSw); go_simp; try with_reducible rfl)
          try simp only [Act.put, List.setIfInBounds_toArray, List.set_cons_zero, List.set_cons_succ]
          refine wpAnyH_ready (rs := [4]) (by kernel_rfl) (by simp) ?_
          refine AllReadyH.cons (o := _) rfl (fun K hK => ?_) AllReadyH.nil
          go_simp
          have hS1 := SB1.fr (a := w2) (a' := (w2.alloc (.cells #[.int .i64 ba, .int .i64 bb] 24)).drew) HSI.out ((Fr.alloc w2 (.cells #[.int .i64 ba, .int .i64 bb] 24) []).trans (Fr.drew _ [])) (by simp)
          refine hK.out _ _ hS1 (fun hHeld => ?_)
          clear hK K
          try simp only [Act.put, List.setIfInBounds_toArray, List.set_cons_zero, List.set_cons_succ]
          refine wpAnyH_ready (rs := [8]) (by kernel_rfl) (by simp) ?_
          refine AllReadyH.cons (o := _) rfl (fun K hK => ?_) AllReadyH.nil
          go_simp
          have HFF := Lib.hid (show Fr w2 ((w2.alloc (.cells #[.int .i64 ba, .int .i64 bb] 24)).alloc (.cells #[.slice (some ⟨bk, off, sp⟩) k c, .slice (some ⟨w2.heap.size, 0, none⟩) 1 1, .slice (some (Addr.add ⟨bk, off, sp⟩ (k * 2))) 0 (c - k)] 22)).drew [] from ((Fr.alloc w2 _ []).trans (Fr.alloc _ _ [])).trans (Fr.drew _ []))
          have hS2 := SB1.fr (a := w2) HSI.out HFF.out (by simp)
          refine hK.out _ _ hS2 (fun hHeld => ?_)
          clear hK K
          try simp only [Act.put, List.setIfInBounds_toArray, List.set_cons_zero, List.set_cons_succ]
          refine wpAnyH_ready (rs := [9]) (by kernel_rfl) (by simp) ?_
          refine AllReadyH.cons (o := _) rfl (fun K hK => ?_) AllReadyH.nil
          go_simp
          have HR1 := Lib.hid (show ((w2.alloc (.cells #[.int .i64 ba, .int .i64 bb] 24)).alloc (.cells #[.slice (some ⟨bk, off, sp⟩) k c, .slice (some ⟨w2.heap.size, 0, none⟩) 1 1, .slice (some (Addr.add ⟨bk, off, sp⟩ (k * 2))) 0 (c - k)] 22)).drew.heap[w2.heap.size]? = some (bidBox (ba, bb)) from (Fr.alloc _ _ []).heap (heap_alloc_new w2 (bidBox (ba, bb))) (by simp))
          have HR2 := Lib.hid (show ((w2.alloc (.cells #[.int .i64 ba, .int .i64 bb] 24)).alloc (.cells #[.slice (some ⟨bk, off, sp⟩) k c, .slice (some ⟨w2.heap.size, 0, none⟩) 1 1, .slice (some (Addr.add ⟨bk, off, sp⟩ (k * 2))) 0 (c - k)] 22)).drew.heap[w2.heap.size + 1]? = some (.cells #[.slice (some ⟨bk, off, sp⟩) k c, .slice (some ⟨w2.heap.size, 0, none⟩) 1 1, .slice (some (Addr.add ⟨bk, off, sp⟩ (k * 2))) 0 (c - k)] 22 (0, 0)) by
            have := heap_alloc_new (w2.alloc (.cells #[.int .i64 ba, .int .i64 bb] 24)) (.cells #[.slice (some ⟨bk, off, sp⟩) k c, .slice (some ⟨w2.heap.size, 0, none⟩) 1 1, .slice (some (Addr.add ⟨bk, off, sp⟩ (k * 2))) 0 (c - k)] 22)
            rw [show (w2.alloc (.cells #[.int .i64 ba, .int .i64 bb] 24)).heap.size = w2.heap.size + 1 by simp] at this
            exact this)
          have HCC := Lib.hid (concat3 (O3.out.1.trans HFF.out) HK.out HLN.out HTK.out H3.out HR1.out HR2.out)
          ((with_reducible refine (HCC.out).mono ?_); rintro e w4 ⟨u, rfl, ho, hf⟩; have hT := hHeld.fr hf (by simp); have HO := Lib.hid (OwnB.mono ho (Nat.le_trans HSZ.out HFF.out.size)); have HF := Lib.hid ((O3.out.1.trans HFF.out).trans hf); clear ho hf HCC)
          go_wp2_with fail
          refine hK.out _ _ hT (fun hHeld => ?_)
          clear hK K
          try simp only [Act.put, List.setIfInBounds_toArray, List.set_cons_zero, List.set_cons_succ]
          refine wpAnyH_take (i := 10) (oi := _) (v := ?fv10h10n12) (by simp only [List.getElem?_toArray, List.getElem?_cons_zero, List.getElem?_cons_succ]; rfl) (by kernel_rfl) (by kernel_rfl) (by kernel_rfl) (fun _ _ _ h => h) (Or.inl ⟨by rfl, ?fy10h10n12⟩) (by assumption) ?fr10h10n12
          case fy10h10n12 => (intro w hSw; (try dsimp only [SB1] at hSw); go_simp; try with_reducible rfl)
          try simp only [Act.put, List.setIfInBounds_toArray, List.set_cons_zero, List.set_cons_succ]
          refine wpAnyH_take (i := 11) (oi := _) (v := ?fv11h10n12) (by simp only [List.getElem?_toArray, List.getElem?_cons_zero, List.getElem?_cons_succ]; rfl) (by kernel_rfl) (by kernel_rfl) (by kernel_rfl) (fun _ _ _ h => h) (Or.inl ⟨by rfl, ?fy11h10n12⟩) (by assumption) ?fr11h10n12
          case fy11h10n12 => (intro w hSw; (try dsimp only [SB1] at hSw); go_simp; try with_reducible rfl)
          try simp only [Act.put, List.setIfInBounds_toArray, List.set_cons_zero, List.set_cons_succ]
          refine wpAnyH_done (by kernel_rfl) ?_ _
          refine NoPanic.normal ?_
          go_wp2
          go_ret2
          refine ⟨_, by rw [HPU.out.2]; rfl, ?_, HF.out⟩
          rw [HPU.out.1]
          exact HO.out
end Go.Proofs.Ytfphihhcclfmnaa
