/- The law of founding: what is founded is above the floor, and above all that was taken; a token of it is taken then from its first hop on: its walk. -/
import Derived.Test.YtlkpgpiklfbacaaGFirst
namespace Go.Proofs.Ytlkpgpiklfbacaa
open Go.RowKit

theorem found_any (p : Nat) (s : GS) (c f : Int) (w : World) (hg : Gt w p s) (b : Bool) (hb : fndB s c f = b) :
    Calls Try.prog 13 #[.pointer (some ⟨p, 0, none⟩), .agg #[.int .i64 c, .int .i64 f]] w fun e w' => e = .returned (.bool b) ∧ Gt w' p (bif b then ⟨c, f, 0, s.fl⟩ else s) ∧ Fr w w' [p] := by
  cases b with
  | false => exact (found_no p s c f w hg hb).mono fun e w' ⟨he, hf⟩ => ⟨he, hg.keep hf, hf.mono (by simp)⟩
  | true => exact (found_yes p s c f w hg hb).mono fun e w' ⟨he, hg, hf⟩ => ⟨he, hg, hf⟩
theorem lt_none (c f : Int) (h : epOk c f = true) : epLt 0 0 c f = true := by
  simp only [epOk, decide_eq_true_eq] at h
  simp only [epLt, decide_eq_true_eq]
  omega
theorem lt_self (c f : Int) : epLt c f c f = false := by simp [epLt]
theorem would_in (c f M h : Int) (hok : epOk c f = true) (hgt : M < c) : wouldB ⟨c, f, 0, M⟩ 5 5 ⟨c, f, h, [2, 5]⟩ = decide (0 < h) := by
  unfold wouldB allowsB
  dsimp only
  rw [hok, lt_self, decide_eq_true hgt, decide_eq_true (show c = c ∧ f = f from ⟨rfl, rfl⟩), decide_eq_true (show (5 : Int) ∈ [2, 5] by decide)]
  simp
theorem would_off (s : GS) (r : RN) (car to : Int) (h : ¬ to = car ∨ car ∉ r.ms) : wouldB s car to r = false := by
  unfold wouldB
  by_cases h1 : to = car
  · rw [decide_eq_false (h.resolve_left (fun h => h h1))]; simp
  · rw [decide_eq_false h1]; rfl
/-- What stands while the region is walked. -/
def GFS (W : World) (p q : Nat) (c f M hop : Int) (a : World) : Prop := Fr W a [] ∧
  (a.cell? ⟨q, 0, none⟩ = some (.int .i64 c) ∧ a.cell? ⟨q, 1, none⟩ = some (.int .i64 f)) ∧
  (a.cell? ⟨q + 2, 0, none⟩ = some (.int .i64 c) ∧ a.cell? ⟨q + 2, 1, none⟩ = some (.int .i64 f) ∧ a.cell? ⟨q + 2, 2, none⟩ = some (.int .i64 hop) ∧ a.cell? ⟨q + 2, 3, none⟩ = some (.slice (some ⟨q + 1, 0, none⟩) 2 2) ∧ a.cell? ⟨q + 2, 4, none⟩ = some (.slice none 0 0)) ∧
  HInts a (.slice (some ⟨q + 1, 0, none⟩) 2 2) [2, 5] ∧ Gt a p ⟨c, f, 0, M⟩
theorem GFS.fr {W : World} {p q : Nat} {c f M hop : Int} {a a' : World} (h : GFS W p q c f M hop a) (k : Fr a a' []) : GFS W p q c f M hop a' := by
  obtain ⟨h0, ⟨h1, h2⟩, ⟨g0, g1, g2, g3, g4⟩, h6, h7⟩ := h
  exact ⟨h0.trans k, ⟨k.cell h1 (by simp), k.cell h2 (by simp)⟩, ⟨k.cell g0 (by simp), k.cell g1 (by simp), k.cell g2 (by simp), k.cell g3 (by simp), k.cell g4 (by simp)⟩, h6.keep k, h7.keep k⟩
theorem GFS.of {W : World} {p q : Nat} {c f M hop : Int} {a : World} (hf : Fr W a []) (he : a.heap[q]? = some (.cells #[.int .i64 c, .int .i64 f] 25 (0, 0)))
    (hr : a.heap[q + 2]? = some (.cells #[.int .i64 c, .int .i64 f, .int .i64 hop, .slice (some ⟨q + 1, 0, none⟩) 2 2, .slice none 0 0] 29 (0, 0))) (hm : a.heap[q + 1]? = some (.cells #[.int .i64 2, .int .i64 5] 3 (0, 0))) (hg : Gt a p ⟨c, f, 0, M⟩) : GFS W p q c f M hop a :=
  ⟨hf, row2 he, row5 hr, ⟨_, 2, rfl, by decide, by decide, fun _ => ⟨q + 1, 0, rfl, fun i hi => by
    have hi' : i < 2 := hi
    rw [Nat.zero_add, cell_of_row _ _ _ _ _ _ hm]
    match i, hi' with
    | 0, _ => rfl
    | 1, _ => rfl⟩⟩, hg⟩

set_option maxHeartbeats 4000000 in
set_option maxRecDepth 100000 in
theorem gfounds_walk (n a1 a2 b1 b2 hop : Int) (w : World) :
    Calls Try.prog 6 #[.int .i64 n, .agg #[.int .i64 a1, .int .i64 a2], .agg #[.int .i64 b1, .int .i64 b2], .int .i64 hop] w fun e w' => e = .returned (.bool true) ∧ w.grownBy w' none := by
  obtain ⟨M, hM⟩ : ∃ M, max n 0 = M := ⟨_, rfl⟩
  have HBX := two_new w (.cells #[.int .i64 a1, .int .i64 a2] 25) (.cells #[.int .i64 b1, .int .i64 b2] 25)
  have HXA := Lib.hid HBX.1
  have HXB := Lib.hid HBX.2
  have FA := Lib.hid ((Fr.alloc w (.cells #[.int .i64 a1, .int .i64 a2] 25) []).trans (Fr.alloc (w.alloc (.cells #[.int .i64 a1, .int .i64 a2] 25)) (.cells #[.int .i64 b1, .int .i64 b2] 25) []))
  clear HBX
  go_enter Try.func6, Try.ntmps6
  go_wp2_with fail
  refine (first_any _).mono ?_
  rintro e w1 ⟨rfl, hf⟩
  have HXA1 := Lib.hid (hf.heap HXA.out (by simp))
  have HXB1 := Lib.hid (hf.heap HXB.out (by simp))
  have HF1 := Lib.hid (FA.out.trans hf)
  clear hf
  go_wp2_with fail
  refine (new_any n w1).mono ?_
  rintro e w2 ⟨rfl, hg, hf⟩
  rw [hM] at hg
  have HG2 := Lib.hid hg
  have HXA2 := Lib.hid (hf.heap HXA1.out (by simp))
  have HXB2 := Lib.hid (hf.heap HXB1.out (by simp))
  have HF2 := Lib.hid (HF1.out.trans hf)
  have hpn : w.heap.size + 1 < w1.heap.size := size_of_row HXB1.out
  clear hf hg
  obtain ⟨x0, x1⟩ := row2 HXA2.out
  have hva := ep_rvalid a1 a2
  cases hokA : epOk a1 a2 with
  | false =>
    rw [hokA] at hva
    have HVA := Lib.hid hva
    have his : fndB ⟨0, 0, 0, M⟩ a1 a2 = false := by rw [fndB, allowsB, hokA]; rfl
    go_wp2_with fail
    refine (found_any w1.heap.size _ a1 a2 _ HG2.out false his).mono ?_
    rintro e w3 ⟨rfl, hg, hf⟩
    have HG3 := Lib.hid hg
    have HXA3 := Lib.hid (hf.heap HXA2.out (by simp; omega))
    have HXB3 := Lib.hid (hf.heap HXB2.out (by simp; omega))
    have HF3 := Lib.hid (HF2.out.new hf (by simp; omega))
    clear hf hg x0 x1
    obtain ⟨x0, x1⟩ := row2 HXA3.out
    go_wp2_with fail
    refine (HVA.out _).mono ?_
    rintro e w4 ⟨rfl, hf⟩
    have HG4 := Lib.hid (HG3.out.keep hf)
    have HXA4 := Lib.hid (hf.heap HXA3.out (by simp))
    have HXB4 := Lib.hid (hf.heap HXB3.out (by simp))
    have HF4 := Lib.hid (HF3.out.trans hf)
    clear hf x0 x1
    obtain ⟨x0, x1⟩ := row2 HXA4.out
    have hvb := ep_rvalid b1 b2
    cases hokB : epOk b1 b2 with
    | false =>
      rw [hokB] at hvb
      have HVB := Lib.hid hvb
      have hhas : fndB ⟨0, 0, 0, M⟩ b1 b2 = false := by rw [fndB, allowsB, hokB]; rfl
      obtain ⟨y0, y1⟩ := row2 HXB4.out
      go_wp2_with fail
      refine (found_any w1.heap.size ⟨0, 0, 0, M⟩ b1 b2 _ HG4.out false hhas).mono ?_
      rintro e w5 ⟨rfl, hg, hf⟩
      have HG5 := Lib.hid hg
      have HXA5 := Lib.hid (hf.heap HXA4.out (by simp; omega))
      have HXB5 := Lib.hid (hf.heap HXB4.out (by simp; omega))
      have HF5 := Lib.hid (HF4.out.new hf (by simp; omega))
      clear hf hg x0 x1 y0 y1
      obtain ⟨y0, y1⟩ := row2 HXB5.out
      go_wp2_with fail
      refine (HVB.out _).mono ?_
      rintro e w6 ⟨rfl, hf⟩
      have HG6 := Lib.hid (HG5.out.keep hf)
      have HXA6 := Lib.hid (hf.heap HXA5.out (by simp))
      have HXB6 := Lib.hid (hf.heap HXB5.out (by simp))
      have HF6 := Lib.hid (HF5.out.trans hf)
      clear hf y0 y1
      obtain ⟨x0, x1⟩ := row2 HXA6.out
      obtain ⟨y0, y1⟩ := row2 HXB6.out
      go_wp2_with fail
      refine (HVB.out _).mono ?_
      rintro e w7 ⟨rfl, hf⟩
      have HF7 := Lib.hid (HF6.out.trans hf)
      obtain ⟨z0, z1⟩ := row2 (hf.heap HXB6.out (by simp))
      clear hf x0 x1 y0 y1
      go_wp2
      go_ret
      exact ⟨rfl, HF7.out.grown (by simp)⟩
    | true =>
      rw [hokB] at hvb
      have HVB := Lib.hid hvb
      by_cases hgtB : M < b1
      · have hdb : decide (M < b1) = true := by simp [hgtB]
        have hhas : fndB ⟨0, 0, 0, M⟩ b1 b2 = true := by rw [fndB, allowsB, hokB, hdb, lt_none b1 b2 hokB]; rfl
        obtain ⟨y0, y1⟩ := row2 HXB4.out
        go_wp2_with fail
        refine (found_any w1.heap.size ⟨0, 0, 0, M⟩ b1 b2 _ HG4.out true hhas).mono ?_
        rintro e w5 ⟨rfl, hg, hf⟩
        have HG5 := Lib.hid hg
        have HXA5 := Lib.hid (hf.heap HXA4.out (by simp; omega))
        have HXB5 := Lib.hid (hf.heap HXB4.out (by simp; omega))
        have HF5 := Lib.hid (HF4.out.new hf (by simp; omega))
        clear hf hg x0 x1 y0 y1
        obtain ⟨y0, y1⟩ := row2 HXB5.out
        go_wp2_with fail
        refine (HVB.out _).mono ?_
        rintro e w6 ⟨rfl, hf⟩
        have HG6 := Lib.hid (HG5.out.keep hf)
        have HXA6 := Lib.hid (hf.heap HXA5.out (by simp))
        have HXB6 := Lib.hid (hf.heap HXB5.out (by simp))
        have HF6 := Lib.hid (HF5.out.trans hf)
        clear hf y0 y1
        obtain ⟨x0, x1⟩ := row2 HXA6.out
        obtain ⟨y0, y1⟩ := row2 HXB6.out
        have hlt6 : w.heap.size < w6.heap.size ∧ w.heap.size + 1 < w6.heap.size := ⟨size_of_row HXA6.out, size_of_row HXB6.out⟩
        have hq := two_new (w6.alloc (.cells #[.int .i64 b1, .int .i64 b2] 25)) (.cells #[.int .i64 2, .int .i64 5] 3) (.cells #[.int .i64 b1, .int .i64 b2, .int .i64 hop, .slice (some ⟨w6.heap.size + 1, 0, none⟩) 2 2, .slice none 0 0] 29)
        rw [show (w6.alloc (.cells #[.int .i64 b1, .int .i64 b2] 25)).heap.size = w6.heap.size + 1 by simp] at hq
        have hfa := (Fr.alloc (w6.alloc (.cells #[.int .i64 b1, .int .i64 b2] 25)) (.cells #[.int .i64 2, .int .i64 5] 3) []).trans (Fr.alloc _ (.cells #[.int .i64 b1, .int .i64 b2, .int .i64 hop, .slice (some ⟨w6.heap.size + 1, 0, none⟩) 2 2, .slice none 0 0] 29) [])
        have HS := Lib.hid ((GFS.of (HF6.out.trans ((Fr.alloc w6 (.cells #[.int .i64 b1, .int .i64 b2] 25) []).trans hfa)) (hfa.heap (heap_alloc_new w6 (.cells #[.int .i64 b1, .int .i64 b2] 25)) (by simp)) hq.2 hq.1 (HG6.out.keep ((Fr.alloc w6 (.cells #[.int .i64 b1, .int .i64 b2] 25) []).trans hfa))).fr (Fr.drew _ []))
        have hw1 : wouldB ⟨b1, b2, 0, M⟩ 5 5 ⟨b1, b2, hop, [2, 5]⟩ = decide (0 < hop) := would_in b1 b2 M hop hokB hgtB
        have hsm := ep_same b1 b2 b1 b2
        rw [show decide (b1 = b1 ∧ b2 = b2) = true by simp] at hsm
        have HSM := Lib.hid hsm
        have HW1 := Lib.hid hw1
        clear hq hfa hw1 hsm
        go_wp2
        clear hlt6
        refine wp_region_det (S := GFS w w1.heap.size w6.heap.size b1 b2 M hop) (by kernel_rfl) HS.out ?_
        refine wpDet_take (i := 0) (oi := _) (v := ?dv1) (by simp only [List.getElem?_toArray, List.getElem?_cons_zero]; rfl) (by kernel_rfl) (by kernel_rfl) (by kernel_rfl) (Or.inl ⟨by rfl, ?dy1⟩) ?dr1
        case dy1 => (intro w hSw; have hS0 := hSw; (try dsimp only [GFS] at hSw); go_simp; refine Came.value ?_ hS0; with_reducible rfl)
        try simp only [Act.put, List.setIfInBounds_toArray, List.set_cons_zero, List.set_cons_succ]
        refine wpDet_take (i := 1) (oi := _) (v := ?dv2) (by simp only [List.getElem?_toArray, List.getElem?_cons_zero, List.getElem?_cons_succ]; rfl) (by kernel_rfl) (by kernel_rfl) (by kernel_rfl) (Or.inl ⟨by rfl, ?dy2⟩) ?dr2
        case dy2 => (intro w hSw; have hS0 := hSw; (try dsimp only [GFS] at hSw); go_simp; refine Came.value ?_ hS0; with_reducible rfl)
        try simp only [Act.put, List.setIfInBounds_toArray, List.set_cons_zero, List.set_cons_succ]
        refine wpDet_take (i := 2) (oi := _) (v := ?dv3) (by simp only [List.getElem?_toArray, List.getElem?_cons_zero, List.getElem?_cons_succ]; rfl) (by kernel_rfl) (by kernel_rfl) (by kernel_rfl) (Or.inl ⟨by rfl, ?dy3⟩) ?dr3
        case dy3 => (intro w hSw; have hS0 := hSw; (try dsimp only [GFS] at hSw); go_simp; refine Came.value ?_ hS0; with_reducible rfl)
        try simp only [Act.put, List.setIfInBounds_toArray, List.set_cons_zero, List.set_cons_succ]
        refine wpDet_take (i := 3) (oi := _) (v := ?dv4) (by simp only [List.getElem?_toArray, List.getElem?_cons_zero, List.getElem?_cons_succ]; rfl) (by kernel_rfl) (by kernel_rfl) (by kernel_rfl) (Or.inl ⟨by rfl, ?dy4⟩) ?dr4
        case dy4 => (intro w hSw; go_simp; exact Came.call ((epoch_any _ _ w hSw.2.2.2.2).mono fun e w' ⟨he, hf⟩ => ⟨he, hSw.fr hf⟩) (by with_reducible rfl))
        try simp only [Act.put, List.setIfInBounds_toArray, List.set_cons_zero, List.set_cons_succ]
        refine wpDet_take (i := 4) (oi := _) (v := ?dv5) (by simp only [List.getElem?_toArray, List.getElem?_cons_zero, List.getElem?_cons_succ]; rfl) (by kernel_rfl) (by kernel_rfl) (by kernel_rfl) (Or.inl ⟨by rfl, ?dy5⟩) ?dr5
        case dy5 => (intro w hSw; have hS0 := hSw; (try dsimp only [GFS] at hSw); go_simp; refine Came.value ?_ hS0; with_reducible rfl)
        try simp only [Act.put, List.setIfInBounds_toArray, List.set_cons_zero, List.set_cons_succ]
        refine wpDet_take (i := 5) (oi := _) (v := ?dv6) (by simp only [List.getElem?_toArray, List.getElem?_cons_zero, List.getElem?_cons_succ]; rfl) (by kernel_rfl) (by kernel_rfl) (by kernel_rfl) (Or.inl ⟨by rfl, ?dy6⟩) ?dr6
        case dy6 => (intro w hSw; go_simp; exact Came.call ((HSM.out w).mono fun e w' ⟨he, hf⟩ => ⟨he, hSw.fr hf⟩) (by with_reducible rfl))
        try simp only [Act.put, List.setIfInBounds_toArray, List.set_cons_zero, List.set_cons_succ]
        refine wpDet_take (i := 6) (oi := _) (v := ?dv7) (by simp only [List.getElem?_toArray, List.getElem?_cons_zero, List.getElem?_cons_succ]; rfl) (by kernel_rfl) (by kernel_rfl) (by kernel_rfl) (Or.inl ⟨by rfl, ?dy7⟩) ?dr7
        case dy7 => (intro w hSw; have hS0 := hSw; (try dsimp only [GFS] at hSw); go_simp; refine Came.value ?_ hS0; with_reducible rfl)
        try simp only [Act.put, List.setIfInBounds_toArray, List.set_cons_zero, List.set_cons_succ]
        refine wpDet_take (i := 7) (oi := _) (v := ?dv8) (by simp only [List.getElem?_toArray, List.getElem?_cons_zero, List.getElem?_cons_succ]; rfl) (by kernel_rfl) (by kernel_rfl) (by kernel_rfl) (Or.inl ⟨by rfl, ?dy8⟩) ?dr8
        case dy8 => (intro w hSw; have hS0 := hSw; (try dsimp only [GFS] at hSw); go_simp; refine Came.value ?_ hS0; with_reducible rfl)
        try simp only [Act.put, List.setIfInBounds_toArray, List.set_cons_zero, List.set_cons_succ]
        refine wpDet_take (i := 8) (oi := _) (v := ?dv9) (by simp only [List.getElem?_toArray, List.getElem?_cons_zero, List.getElem?_cons_succ]; rfl) (by kernel_rfl) (by kernel_rfl) (by kernel_rfl) (Or.inl ⟨by rfl, ?dy9⟩) ?dr9
        case dy9 => (intro w hSw; have hS0 := hSw; (try dsimp only [GFS] at hSw); go_simp; refine Came.value ?_ hS0; with_reducible rfl)
        try simp only [Act.put, List.setIfInBounds_toArray, List.set_cons_zero, List.set_cons_succ]
        refine wpDet_take (i := 9) (oi := _) (v := ?dv10) (by simp only [List.getElem?_toArray, List.getElem?_cons_zero, List.getElem?_cons_succ]; rfl) (by kernel_rfl) (by kernel_rfl) (by kernel_rfl) (Or.inl ⟨by rfl, ?dy10⟩) ?dr10
        case dy10 => (intro w hSw; go_simp; exact Came.call ((hop_any _ _ w hSw.2.2.2.2).mono fun e w' ⟨he, hw⟩ => ⟨he, hw ▸ hSw⟩) (by with_reducible rfl))
        try simp only [Act.put, List.setIfInBounds_toArray, List.set_cons_zero, List.set_cons_succ]
        refine wpDet_take (i := 10) (oi := _) (v := ?dv11) (by simp only [List.getElem?_toArray, List.getElem?_cons_zero, List.getElem?_cons_succ]; rfl) (by kernel_rfl) (by kernel_rfl) (by kernel_rfl) (Or.inl ⟨by rfl, ?dy11⟩) ?dr11
        case dy11 => (intro w hSw; have hS0 := hSw; (try dsimp only [GFS] at hSw); go_simp; refine Came.value ?_ hS0; with_reducible rfl)
        try simp only [Act.put, List.setIfInBounds_toArray, List.set_cons_zero, List.set_cons_succ]
        refine wpDet_take (i := 11) (oi := _) (v := ?dv12) (by simp only [List.getElem?_toArray, List.getElem?_cons_zero, List.getElem?_cons_succ]; rfl) (by kernel_rfl) (by kernel_rfl) (by kernel_rfl) (Or.inl ⟨by rfl, ?dy12⟩) ?dr12
        case dy12 => (intro w hSw; have hS0 := hSw; (try dsimp only [GFS] at hSw); go_simp; refine Came.value ?_ hS0; with_reducible rfl)
        try simp only [Act.put, List.setIfInBounds_toArray, List.set_cons_zero, List.set_cons_succ]
        refine wpDet_take (i := 12) (oi := _) (v := ?dv13) (by simp only [List.getElem?_toArray, List.getElem?_cons_zero, List.getElem?_cons_succ]; rfl) (by kernel_rfl) (by kernel_rfl) (by kernel_rfl) (Or.inl ⟨by rfl, ?dy13⟩) ?dr13
        case dy13 => (intro w hSw; have hS0 := hSw; (try dsimp only [GFS] at hSw); go_simp; refine Came.value ?_ hS0; with_reducible rfl)
        try simp only [Act.put, List.setIfInBounds_toArray, List.set_cons_zero, List.set_cons_succ]
        refine wpDet_take (i := 13) (oi := _) (v := ?dv14) (by simp only [List.getElem?_toArray, List.getElem?_cons_zero, List.getElem?_cons_succ]; rfl) (by kernel_rfl) (by kernel_rfl) (by kernel_rfl) (Or.inl ⟨by rfl, ?dy14⟩) ?dr14
        case dy14 => (intro w hSw; have hS0 := hSw; (try dsimp only [GFS] at hSw); go_simp; refine Came.value ?_ hS0; with_reducible rfl)
        try simp only [Act.put, List.setIfInBounds_toArray, List.set_cons_zero, List.set_cons_succ]
        refine wpDet_take (i := 14) (oi := _) (v := ?dv15) (by simp only [List.getElem?_toArray, List.getElem?_cons_zero, List.getElem?_cons_succ]; rfl) (by kernel_rfl) (by kernel_rfl) (by kernel_rfl) (Or.inl ⟨by rfl, ?dy15⟩) ?dr15
        case dy15 => (intro w hSw; have hS0 := hSw; (try dsimp only [GFS] at hSw); go_simp; refine Came.value ?_ hS0; with_reducible rfl)
        try simp only [Act.put, List.setIfInBounds_toArray, List.set_cons_zero, List.set_cons_succ]
        refine wpDet_take (i := 15) (oi := _) (v := ?dv16) (by simp only [List.getElem?_toArray, List.getElem?_cons_zero, List.getElem?_cons_succ]; rfl) (by kernel_rfl) (by kernel_rfl) (by kernel_rfl) (Or.inl ⟨by rfl, ?dy16⟩) ?dr16
        case dy16 => (intro w hSw; go_simp; exact Came.call ((would_any _ _ 5 5 ⟨_, _, hop, [2, 5]⟩ _ _ w hSw.2.2.2.2 hSw.2.2.2.1 (slice_sl _ _ _) _ HW1.out).mono fun e w' ⟨he, hf⟩ => ⟨he, hSw.fr hf⟩) (by with_reducible rfl))
        try simp only [Act.put, List.setIfInBounds_toArray, List.set_cons_zero, List.set_cons_succ]
        refine wpDet_take (i := 16) (oi := _) (v := ?dv17) (by simp only [List.getElem?_toArray, List.getElem?_cons_zero, List.getElem?_cons_succ]; rfl) (by kernel_rfl) (by kernel_rfl) (by kernel_rfl) (Or.inl ⟨by rfl, ?dy17⟩) ?dr17
        case dy17 => (intro w hSw; have hS0 := hSw; (try dsimp only [GFS] at hSw); go_simp; refine Came.value ?_ hS0; with_reducible rfl)
        try simp only [Act.put, List.setIfInBounds_toArray, List.set_cons_zero, List.set_cons_succ]
        refine wpDet_take (i := 17) (oi := _) (v := ?dv18) (by simp only [List.getElem?_toArray, List.getElem?_cons_zero, List.getElem?_cons_succ]; rfl) (by kernel_rfl) (by kernel_rfl) (by kernel_rfl) (Or.inl ⟨by rfl, ?dy18⟩) ?dr18
        case dy18 => (intro w hSw; have hS0 := hSw; (try dsimp only [GFS] at hSw); go_simp; refine Came.value ?_ hS0; with_reducible rfl)
        try simp only [Act.put, List.setIfInBounds_toArray, List.set_cons_zero, List.set_cons_succ]
        refine wpDet_take (i := 18) (oi := _) (v := ?dv19) (by simp only [List.getElem?_toArray, List.getElem?_cons_zero, List.getElem?_cons_succ]; rfl) (by kernel_rfl) (by kernel_rfl) (by kernel_rfl) (Or.inl ⟨by rfl, ?dy19⟩) ?dr19
        case dy19 => (intro w hSw; have hS0 := hSw; (try dsimp only [GFS] at hSw); go_simp; refine Came.value ?_ hS0; with_reducible rfl)
        try simp only [Act.put, List.setIfInBounds_toArray, List.set_cons_zero, List.set_cons_succ]
        refine wpDet_take (i := 19) (oi := _) (v := ?dv20) (by simp only [List.getElem?_toArray, List.getElem?_cons_zero, List.getElem?_cons_succ]; rfl) (by kernel_rfl) (by kernel_rfl) (by kernel_rfl) (Or.inl ⟨by rfl, ?dy20⟩) ?dr20
        case dy20 => (intro w hSw; have hS0 := hSw; (try dsimp only [GFS] at hSw); go_simp; refine Came.value ?_ hS0; with_reducible rfl)
        try simp only [Act.put, List.setIfInBounds_toArray, List.set_cons_zero, List.set_cons_succ]
        refine wpDet_take (i := 20) (oi := _) (v := ?dv21) (by simp only [List.getElem?_toArray, List.getElem?_cons_zero, List.getElem?_cons_succ]; rfl) (by kernel_rfl) (by kernel_rfl) (by kernel_rfl) (Or.inl ⟨by rfl, ?dy21⟩) ?dr21
        case dy21 => (intro w hSw; have hS0 := hSw; (try dsimp only [GFS] at hSw); go_simp; refine Came.value ?_ hS0; with_reducible rfl)
        try simp only [Act.put, List.setIfInBounds_toArray, List.set_cons_zero, List.set_cons_succ]
        refine wpDet_take (i := 21) (oi := _) (v := ?dv22) (by simp only [List.getElem?_toArray, List.getElem?_cons_zero, List.getElem?_cons_succ]; rfl) (by kernel_rfl) (by kernel_rfl) (by kernel_rfl) (Or.inl ⟨by rfl, ?dy22⟩) ?dr22
        case dy22 => (intro w hSw; have hS0 := hSw; (try dsimp only [GFS] at hSw); go_simp; refine Came.value ?_ hS0; with_reducible rfl)
        try simp only [Act.put, List.setIfInBounds_toArray, List.set_cons_zero, List.set_cons_succ]
        refine wpDet_take (i := 22) (oi := _) (v := ?dv23) (by simp only [List.getElem?_toArray, List.getElem?_cons_zero, List.getElem?_cons_succ]; rfl) (by kernel_rfl) (by kernel_rfl) (by kernel_rfl) (Or.inl ⟨by rfl, ?dy23⟩) ?dr23
        case dy23 => (intro w hSw; have hS0 := hSw; (try dsimp only [GFS] at hSw); go_simp; refine Came.value ?_ hS0; with_reducible rfl)
        try simp only [Act.put, List.setIfInBounds_toArray, List.set_cons_zero, List.set_cons_succ]
        refine wpDet_take (i := 23) (oi := _) (v := ?dv24) (by simp only [List.getElem?_toArray, List.getElem?_cons_zero, List.getElem?_cons_succ]; rfl) (by kernel_rfl) (by kernel_rfl) (by kernel_rfl) (Or.inl ⟨by rfl, ?dy24⟩) ?dr24
        case dy24 => (intro w hSw; go_simp; exact Came.call ((would_any _ _ 5 2 ⟨_, _, hop, [2, 5]⟩ _ _ w hSw.2.2.2.2 hSw.2.2.2.1 (slice_sl _ _ _) false (would_off _ _ _ _ (.inl (by decide)))).mono fun e w' ⟨he, hf⟩ => ⟨he, hSw.fr hf⟩) (by with_reducible rfl))
        try simp only [Act.put, List.setIfInBounds_toArray, List.set_cons_zero, List.set_cons_succ]
        refine wpDet_take (i := 24) (oi := _) (v := ?dv25) (by simp only [List.getElem?_toArray, List.getElem?_cons_zero, List.getElem?_cons_succ]; rfl) (by kernel_rfl) (by kernel_rfl) (by kernel_rfl) (Or.inl ⟨by rfl, ?dy25⟩) ?dr25
        case dy25 => (intro w hSw; have hS0 := hSw; (try dsimp only [GFS] at hSw); go_simp; refine Came.value ?_ hS0; with_reducible rfl)
        try simp only [Act.put, List.setIfInBounds_toArray, List.set_cons_zero, List.set_cons_succ]
        refine wpDet_take (i := 25) (oi := _) (v := ?dv26) (by simp only [List.getElem?_toArray, List.getElem?_cons_zero, List.getElem?_cons_succ]; rfl) (by kernel_rfl) (by kernel_rfl) (by kernel_rfl) (Or.inl ⟨by rfl, ?dy26⟩) ?dr26
        case dy26 => (intro w hSw; have hS0 := hSw; (try dsimp only [GFS] at hSw); go_simp; refine Came.value ?_ hS0; with_reducible rfl)
        try simp only [Act.put, List.setIfInBounds_toArray, List.set_cons_zero, List.set_cons_succ]
        refine wpDet_take (i := 26) (oi := _) (v := ?dv27) (by simp only [List.getElem?_toArray, List.getElem?_cons_zero, List.getElem?_cons_succ]; rfl) (by kernel_rfl) (by kernel_rfl) (by kernel_rfl) (Or.inl ⟨by rfl, ?dy27⟩) ?dr27
        case dy27 => (intro w hSw; have hS0 := hSw; (try dsimp only [GFS] at hSw); go_simp; refine Came.value ?_ hS0; with_reducible rfl)
        try simp only [Act.put, List.setIfInBounds_toArray, List.set_cons_zero, List.set_cons_succ]
        refine wpDet_take (i := 27) (oi := _) (v := ?dv28) (by simp only [List.getElem?_toArray, List.getElem?_cons_zero, List.getElem?_cons_succ]; rfl) (by kernel_rfl) (by kernel_rfl) (by kernel_rfl) (Or.inl ⟨by rfl, ?dy28⟩) ?dr28
        case dy28 => (intro w hSw; have hS0 := hSw; (try dsimp only [GFS] at hSw); go_simp; refine Came.value ?_ hS0; with_reducible rfl)
        try simp only [Act.put, List.setIfInBounds_toArray, List.set_cons_zero, List.set_cons_succ]
        refine wpDet_take (i := 28) (oi := _) (v := ?dv29) (by simp only [List.getElem?_toArray, List.getElem?_cons_zero, List.getElem?_cons_succ]; rfl) (by kernel_rfl) (by kernel_rfl) (by kernel_rfl) (Or.inl ⟨by rfl, ?dy29⟩) ?dr29
        case dy29 => (intro w hSw; have hS0 := hSw; (try dsimp only [GFS] at hSw); go_simp; refine Came.value ?_ hS0; with_reducible rfl)
        try simp only [Act.put, List.setIfInBounds_toArray, List.set_cons_zero, List.set_cons_succ]
        refine wpDet_take (i := 29) (oi := _) (v := ?dv30) (by simp only [List.getElem?_toArray, List.getElem?_cons_zero, List.getElem?_cons_succ]; rfl) (by kernel_rfl) (by kernel_rfl) (by kernel_rfl) (Or.inl ⟨by rfl, ?dy30⟩) ?dr30
        case dy30 => (intro w hSw; go_simp; exact Came.call ((would_any _ _ 3 3 ⟨_, _, hop, [2, 5]⟩ _ _ w hSw.2.2.2.2 hSw.2.2.2.1 (slice_sl _ _ _) false (would_off _ _ _ _ (.inr (by simp)))).mono fun e w' ⟨he, hf⟩ => ⟨he, hSw.fr hf⟩) (by with_reducible rfl))
        try simp only [Act.put, List.setIfInBounds_toArray, List.set_cons_zero, List.set_cons_succ]
        refine wpDet_take (i := 30) (oi := _) (v := ?dv31) (by simp only [List.getElem?_toArray, List.getElem?_cons_zero, List.getElem?_cons_succ]; rfl) (by kernel_rfl) (by kernel_rfl) (by kernel_rfl) (Or.inl ⟨by rfl, ?dy31⟩) ?dr31
        case dy31 => (intro w hSw; have hS0 := hSw; (try dsimp only [GFS] at hSw); go_simp; refine Came.value ?_ hS0; with_reducible rfl)
        try simp only [Act.put, List.setIfInBounds_toArray, List.set_cons_zero, List.set_cons_succ]
        refine wpDet_take (i := 31) (oi := _) (v := ?dv32) (by simp only [List.getElem?_toArray, List.getElem?_cons_zero, List.getElem?_cons_succ]; rfl) (by kernel_rfl) (by kernel_rfl) (by kernel_rfl) (Or.inl ⟨by rfl, ?dy32⟩) ?dr32
        case dy32 => (intro w hSw; have hS0 := hSw; (try dsimp only [GFS] at hSw); go_simp; refine Came.value ?_ hS0; with_reducible rfl)
        try simp only [Act.put, List.setIfInBounds_toArray, List.set_cons_zero, List.set_cons_succ]
        refine wpDet_take (i := 32) (oi := _) (v := ?dv33) (by simp only [List.getElem?_toArray, List.getElem?_cons_zero, List.getElem?_cons_succ]; rfl) (by kernel_rfl) (by kernel_rfl) (by kernel_rfl) (Or.inl ⟨by rfl, ?dy33⟩) ?dr33
        case dy33 => (intro w hSw; have hS0 := hSw; (try dsimp only [GFS] at hSw); go_simp; refine Came.value ?_ hS0; with_reducible rfl)
        try simp only [Act.put, List.setIfInBounds_toArray, List.set_cons_zero, List.set_cons_succ]
        refine wpDet_done (by kernel_rfl) ?_ _
        rintro w7 ⟨hF, _⟩
        go_wp2
        go_ret
        exact ⟨rfl, hF.grown (by simp)⟩
      · have hdb : decide (M < b1) = false := by simp [hgtB]
        have hhas : fndB ⟨0, 0, 0, M⟩ b1 b2 = false := by rw [fndB, allowsB, hokB, hdb]; rfl
        obtain ⟨y0, y1⟩ := row2 HXB4.out
        go_wp2_with fail
        refine (found_any w1.heap.size ⟨0, 0, 0, M⟩ b1 b2 _ HG4.out false hhas).mono ?_
        rintro e w5 ⟨rfl, hg, hf⟩
        have HG5 := Lib.hid hg
        have HXA5 := Lib.hid (hf.heap HXA4.out (by simp; omega))
        have HXB5 := Lib.hid (hf.heap HXB4.out (by simp; omega))
        have HF5 := Lib.hid (HF4.out.new hf (by simp; omega))
        clear hf hg x0 x1 y0 y1
        obtain ⟨y0, y1⟩ := row2 HXB5.out
        go_wp2_with fail
        refine (HVB.out _).mono ?_
        rintro e w6 ⟨rfl, hf⟩
        have HG6 := Lib.hid (HG5.out.keep hf)
        have HXA6 := Lib.hid (hf.heap HXA5.out (by simp))
        have HXB6 := Lib.hid (hf.heap HXB5.out (by simp))
        have HF6 := Lib.hid (HF5.out.trans hf)
        clear hf y0 y1
        obtain ⟨x0, x1⟩ := row2 HXA6.out
        obtain ⟨y0, y1⟩ := row2 HXB6.out
        go_wp2_with fail
        refine (HVB.out _).mono ?_
        rintro e w7 ⟨rfl, hf⟩
        have HF7 := Lib.hid (HF6.out.trans hf)
        obtain ⟨z0, z1⟩ := row2 (hf.heap HXB6.out (by simp))
        clear hf x0 x1 y0 y1
        go_wp2
        go_ret
        exact ⟨rfl, HF7.out.grown (by simp)⟩
  | true =>
    rw [hokA] at hva
    have HVA := Lib.hid hva
    by_cases hgtA : M < a1
    · have hda : decide (M < a1) = true := by simp [hgtA]
      have his : fndB ⟨0, 0, 0, M⟩ a1 a2 = true := by rw [fndB, allowsB, hokA, hda, lt_none a1 a2 hokA]; rfl
      go_wp2_with fail
      refine (found_any w1.heap.size _ a1 a2 _ HG2.out true his).mono ?_
      rintro e w3 ⟨rfl, hg, hf⟩
      have HG3 := Lib.hid hg
      have HXA3 := Lib.hid (hf.heap HXA2.out (by simp; omega))
      have HXB3 := Lib.hid (hf.heap HXB2.out (by simp; omega))
      have HF3 := Lib.hid (HF2.out.new hf (by simp; omega))
      clear hf hg x0 x1
      obtain ⟨x0, x1⟩ := row2 HXA3.out
      go_wp2_with fail
      refine (HVA.out _).mono ?_
      rintro e w4 ⟨rfl, hf⟩
      have HG4 := Lib.hid (HG3.out.keep hf)
      have HXA4 := Lib.hid (hf.heap HXA3.out (by simp))
      have HXB4 := Lib.hid (hf.heap HXB3.out (by simp))
      have HF4 := Lib.hid (HF3.out.trans hf)
      clear hf x0 x1
      obtain ⟨x0, x1⟩ := row2 HXA4.out
      have hvb := ep_rvalid b1 b2
      cases hokB : epOk b1 b2 with
      | false =>
        rw [hokB] at hvb
        have HVB := Lib.hid hvb
        have hhas : fndB ⟨a1, a2, 0, M⟩ b1 b2 = false := by rw [fndB, allowsB, hokB]; rfl
        obtain ⟨y0, y1⟩ := row2 HXB4.out
        go_wp2_with fail
        refine (found_any w1.heap.size ⟨a1, a2, 0, M⟩ b1 b2 _ HG4.out false hhas).mono ?_
        rintro e w5 ⟨rfl, hg, hf⟩
        have HG5 := Lib.hid hg
        have HXA5 := Lib.hid (hf.heap HXA4.out (by simp; omega))
        have HXB5 := Lib.hid (hf.heap HXB4.out (by simp; omega))
        have HF5 := Lib.hid (HF4.out.new hf (by simp; omega))
        clear hf hg x0 x1 y0 y1
        obtain ⟨y0, y1⟩ := row2 HXB5.out
        go_wp2_with fail
        refine (HVB.out _).mono ?_
        rintro e w6 ⟨rfl, hf⟩
        have HG6 := Lib.hid (HG5.out.keep hf)
        have HXA6 := Lib.hid (hf.heap HXA5.out (by simp))
        have HXB6 := Lib.hid (hf.heap HXB5.out (by simp))
        have HF6 := Lib.hid (HF5.out.trans hf)
        clear hf y0 y1
        obtain ⟨x0, x1⟩ := row2 HXA6.out
        obtain ⟨y0, y1⟩ := row2 HXB6.out
        have hlt6 : w.heap.size < w6.heap.size ∧ w.heap.size + 1 < w6.heap.size := ⟨size_of_row HXA6.out, size_of_row HXB6.out⟩
        have hq := two_new (w6.alloc (.cells #[.int .i64 a1, .int .i64 a2] 25)) (.cells #[.int .i64 2, .int .i64 5] 3) (.cells #[.int .i64 a1, .int .i64 a2, .int .i64 hop, .slice (some ⟨w6.heap.size + 1, 0, none⟩) 2 2, .slice none 0 0] 29)
        rw [show (w6.alloc (.cells #[.int .i64 a1, .int .i64 a2] 25)).heap.size = w6.heap.size + 1 by simp] at hq
        have hfa := (Fr.alloc (w6.alloc (.cells #[.int .i64 a1, .int .i64 a2] 25)) (.cells #[.int .i64 2, .int .i64 5] 3) []).trans (Fr.alloc _ (.cells #[.int .i64 a1, .int .i64 a2, .int .i64 hop, .slice (some ⟨w6.heap.size + 1, 0, none⟩) 2 2, .slice none 0 0] 29) [])
        have HS := Lib.hid ((GFS.of (HF6.out.trans ((Fr.alloc w6 (.cells #[.int .i64 a1, .int .i64 a2] 25) []).trans hfa)) (hfa.heap (heap_alloc_new w6 (.cells #[.int .i64 a1, .int .i64 a2] 25)) (by simp)) hq.2 hq.1 (HG6.out.keep ((Fr.alloc w6 (.cells #[.int .i64 a1, .int .i64 a2] 25) []).trans hfa))).fr (Fr.drew _ []))
        have hw1 : wouldB ⟨a1, a2, 0, M⟩ 5 5 ⟨a1, a2, hop, [2, 5]⟩ = decide (0 < hop) := would_in a1 a2 M hop hokA hgtA
        have hsm := ep_same a1 a2 a1 a2
        rw [show decide (a1 = a1 ∧ a2 = a2) = true by simp] at hsm
        have HSM := Lib.hid hsm
        have HW1 := Lib.hid hw1
        clear hq hfa hw1 hsm
        go_wp2
        clear hlt6
        refine wp_region_det (S := GFS w w1.heap.size w6.heap.size a1 a2 M hop) (by kernel_rfl) HS.out ?_
        refine wpDet_take (i := 0) (oi := _) (v := ?dv34) (by simp only [List.getElem?_toArray, List.getElem?_cons_zero]; rfl) (by kernel_rfl) (by kernel_rfl) (by kernel_rfl) (Or.inl ⟨by rfl, ?dy34⟩) ?dr34
        case dy34 => (intro w hSw; have hS0 := hSw; (try dsimp only [GFS] at hSw); go_simp; refine Came.value ?_ hS0; with_reducible rfl)
        try simp only [Act.put, List.setIfInBounds_toArray, List.set_cons_zero, List.set_cons_succ]
        refine wpDet_take (i := 1) (oi := _) (v := ?dv35) (by simp only [List.getElem?_toArray, List.getElem?_cons_zero, List.getElem?_cons_succ]; rfl) (by kernel_rfl) (by kernel_rfl) (by kernel_rfl) (Or.inl ⟨by rfl, ?dy35⟩) ?dr35
        case dy35 => (intro w hSw; have hS0 := hSw; (try dsimp only [GFS] at hSw); go_simp; refine Came.value ?_ hS0; with_reducible rfl)
        try simp only [Act.put, List.setIfInBounds_toArray, List.set_cons_zero, List.set_cons_succ]
        refine wpDet_take (i := 2) (oi := _) (v := ?dv36) (by simp only [List.getElem?_toArray, List.getElem?_cons_zero, List.getElem?_cons_succ]; rfl) (by kernel_rfl) (by kernel_rfl) (by kernel_rfl) (Or.inl ⟨by rfl, ?dy36⟩) ?dr36
        case dy36 => (intro w hSw; have hS0 := hSw; (try dsimp only [GFS] at hSw); go_simp; refine Came.value ?_ hS0; with_reducible rfl)
        try simp only [Act.put, List.setIfInBounds_toArray, List.set_cons_zero, List.set_cons_succ]
        refine wpDet_take (i := 3) (oi := _) (v := ?dv37) (by simp only [List.getElem?_toArray, List.getElem?_cons_zero, List.getElem?_cons_succ]; rfl) (by kernel_rfl) (by kernel_rfl) (by kernel_rfl) (Or.inl ⟨by rfl, ?dy37⟩) ?dr37
        case dy37 => (intro w hSw; go_simp; exact Came.call ((epoch_any _ _ w hSw.2.2.2.2).mono fun e w' ⟨he, hf⟩ => ⟨he, hSw.fr hf⟩) (by with_reducible rfl))
        try simp only [Act.put, List.setIfInBounds_toArray, List.set_cons_zero, List.set_cons_succ]
        refine wpDet_take (i := 4) (oi := _) (v := ?dv38) (by simp only [List.getElem?_toArray, List.getElem?_cons_zero, List.getElem?_cons_succ]; rfl) (by kernel_rfl) (by kernel_rfl) (by kernel_rfl) (Or.inl ⟨by rfl, ?dy38⟩) ?dr38
        case dy38 => (intro w hSw; have hS0 := hSw; (try dsimp only [GFS] at hSw); go_simp; refine Came.value ?_ hS0; with_reducible rfl)
        try simp only [Act.put, List.setIfInBounds_toArray, List.set_cons_zero, List.set_cons_succ]
        refine wpDet_take (i := 5) (oi := _) (v := ?dv39) (by simp only [List.getElem?_toArray, List.getElem?_cons_zero, List.getElem?_cons_succ]; rfl) (by kernel_rfl) (by kernel_rfl) (by kernel_rfl) (Or.inl ⟨by rfl, ?dy39⟩) ?dr39
        case dy39 => (intro w hSw; go_simp; exact Came.call ((HSM.out w).mono fun e w' ⟨he, hf⟩ => ⟨he, hSw.fr hf⟩) (by with_reducible rfl))
        try simp only [Act.put, List.setIfInBounds_toArray, List.set_cons_zero, List.set_cons_succ]
        refine wpDet_take (i := 6) (oi := _) (v := ?dv40) (by simp only [List.getElem?_toArray, List.getElem?_cons_zero, List.getElem?_cons_succ]; rfl) (by kernel_rfl) (by kernel_rfl) (by kernel_rfl) (Or.inl ⟨by rfl, ?dy40⟩) ?dr40
        case dy40 => (intro w hSw; have hS0 := hSw; (try dsimp only [GFS] at hSw); go_simp; refine Came.value ?_ hS0; with_reducible rfl)
        try simp only [Act.put, List.setIfInBounds_toArray, List.set_cons_zero, List.set_cons_succ]
        refine wpDet_take (i := 7) (oi := _) (v := ?dv41) (by simp only [List.getElem?_toArray, List.getElem?_cons_zero, List.getElem?_cons_succ]; rfl) (by kernel_rfl) (by kernel_rfl) (by kernel_rfl) (Or.inl ⟨by rfl, ?dy41⟩) ?dr41
        case dy41 => (intro w hSw; have hS0 := hSw; (try dsimp only [GFS] at hSw); go_simp; refine Came.value ?_ hS0; with_reducible rfl)
        try simp only [Act.put, List.setIfInBounds_toArray, List.set_cons_zero, List.set_cons_succ]
        refine wpDet_take (i := 8) (oi := _) (v := ?dv42) (by simp only [List.getElem?_toArray, List.getElem?_cons_zero, List.getElem?_cons_succ]; rfl) (by kernel_rfl) (by kernel_rfl) (by kernel_rfl) (Or.inl ⟨by rfl, ?dy42⟩) ?dr42
        case dy42 => (intro w hSw; have hS0 := hSw; (try dsimp only [GFS] at hSw); go_simp; refine Came.value ?_ hS0; with_reducible rfl)
        try simp only [Act.put, List.setIfInBounds_toArray, List.set_cons_zero, List.set_cons_succ]
        refine wpDet_take (i := 9) (oi := _) (v := ?dv43) (by simp only [List.getElem?_toArray, List.getElem?_cons_zero, List.getElem?_cons_succ]; rfl) (by kernel_rfl) (by kernel_rfl) (by kernel_rfl) (Or.inl ⟨by rfl, ?dy43⟩) ?dr43
        case dy43 => (intro w hSw; go_simp; exact Came.call ((hop_any _ _ w hSw.2.2.2.2).mono fun e w' ⟨he, hw⟩ => ⟨he, hw ▸ hSw⟩) (by with_reducible rfl))
        try simp only [Act.put, List.setIfInBounds_toArray, List.set_cons_zero, List.set_cons_succ]
        refine wpDet_take (i := 10) (oi := _) (v := ?dv44) (by simp only [List.getElem?_toArray, List.getElem?_cons_zero, List.getElem?_cons_succ]; rfl) (by kernel_rfl) (by kernel_rfl) (by kernel_rfl) (Or.inl ⟨by rfl, ?dy44⟩) ?dr44
        case dy44 => (intro w hSw; have hS0 := hSw; (try dsimp only [GFS] at hSw); go_simp; refine Came.value ?_ hS0; with_reducible rfl)
        try simp only [Act.put, List.setIfInBounds_toArray, List.set_cons_zero, List.set_cons_succ]
        refine wpDet_take (i := 11) (oi := _) (v := ?dv45) (by simp only [List.getElem?_toArray, List.getElem?_cons_zero, List.getElem?_cons_succ]; rfl) (by kernel_rfl) (by kernel_rfl) (by kernel_rfl) (Or.inl ⟨by rfl, ?dy45⟩) ?dr45
        case dy45 => (intro w hSw; have hS0 := hSw; (try dsimp only [GFS] at hSw); go_simp; refine Came.value ?_ hS0; with_reducible rfl)
        try simp only [Act.put, List.setIfInBounds_toArray, List.set_cons_zero, List.set_cons_succ]
        refine wpDet_take (i := 12) (oi := _) (v := ?dv46) (by simp only [List.getElem?_toArray, List.getElem?_cons_zero, List.getElem?_cons_succ]; rfl) (by kernel_rfl) (by kernel_rfl) (by kernel_rfl) (Or.inl ⟨by rfl, ?dy46⟩) ?dr46
        case dy46 => (intro w hSw; have hS0 := hSw; (try dsimp only [GFS] at hSw); go_simp; refine Came.value ?_ hS0; with_reducible rfl)
        try simp only [Act.put, List.setIfInBounds_toArray, List.set_cons_zero, List.set_cons_succ]
        refine wpDet_take (i := 13) (oi := _) (v := ?dv47) (by simp only [List.getElem?_toArray, List.getElem?_cons_zero, List.getElem?_cons_succ]; rfl) (by kernel_rfl) (by kernel_rfl) (by kernel_rfl) (Or.inl ⟨by rfl, ?dy47⟩) ?dr47
        case dy47 => (intro w hSw; have hS0 := hSw; (try dsimp only [GFS] at hSw); go_simp; refine Came.value ?_ hS0; with_reducible rfl)
        try simp only [Act.put, List.setIfInBounds_toArray, List.set_cons_zero, List.set_cons_succ]
        refine wpDet_take (i := 14) (oi := _) (v := ?dv48) (by simp only [List.getElem?_toArray, List.getElem?_cons_zero, List.getElem?_cons_succ]; rfl) (by kernel_rfl) (by kernel_rfl) (by kernel_rfl) (Or.inl ⟨by rfl, ?dy48⟩) ?dr48
        case dy48 => (intro w hSw; have hS0 := hSw; (try dsimp only [GFS] at hSw); go_simp; refine Came.value ?_ hS0; with_reducible rfl)
        try simp only [Act.put, List.setIfInBounds_toArray, List.set_cons_zero, List.set_cons_succ]
        refine wpDet_take (i := 15) (oi := _) (v := ?dv49) (by simp only [List.getElem?_toArray, List.getElem?_cons_zero, List.getElem?_cons_succ]; rfl) (by kernel_rfl) (by kernel_rfl) (by kernel_rfl) (Or.inl ⟨by rfl, ?dy49⟩) ?dr49
        case dy49 => (intro w hSw; go_simp; exact Came.call ((would_any _ _ 5 5 ⟨_, _, hop, [2, 5]⟩ _ _ w hSw.2.2.2.2 hSw.2.2.2.1 (slice_sl _ _ _) _ HW1.out).mono fun e w' ⟨he, hf⟩ => ⟨he, hSw.fr hf⟩) (by with_reducible rfl))
        try simp only [Act.put, List.setIfInBounds_toArray, List.set_cons_zero, List.set_cons_succ]
        refine wpDet_take (i := 16) (oi := _) (v := ?dv50) (by simp only [List.getElem?_toArray, List.getElem?_cons_zero, List.getElem?_cons_succ]; rfl) (by kernel_rfl) (by kernel_rfl) (by kernel_rfl) (Or.inl ⟨by rfl, ?dy50⟩) ?dr50
        case dy50 => (intro w hSw; have hS0 := hSw; (try dsimp only [GFS] at hSw); go_simp; refine Came.value ?_ hS0; with_reducible rfl)
        try simp only [Act.put, List.setIfInBounds_toArray, List.set_cons_zero, List.set_cons_succ]
        refine wpDet_take (i := 17) (oi := _) (v := ?dv51) (by simp only [List.getElem?_toArray, List.getElem?_cons_zero, List.getElem?_cons_succ]; rfl) (by kernel_rfl) (by kernel_rfl) (by kernel_rfl) (Or.inl ⟨by rfl, ?dy51⟩) ?dr51
        case dy51 => (intro w hSw; have hS0 := hSw; (try dsimp only [GFS] at hSw); go_simp; refine Came.value ?_ hS0; with_reducible rfl)
        try simp only [Act.put, List.setIfInBounds_toArray, List.set_cons_zero, List.set_cons_succ]
        refine wpDet_take (i := 18) (oi := _) (v := ?dv52) (by simp only [List.getElem?_toArray, List.getElem?_cons_zero, List.getElem?_cons_succ]; rfl) (by kernel_rfl) (by kernel_rfl) (by kernel_rfl) (Or.inl ⟨by rfl, ?dy52⟩) ?dr52
        case dy52 => (intro w hSw; have hS0 := hSw; (try dsimp only [GFS] at hSw); go_simp; refine Came.value ?_ hS0; with_reducible rfl)
        try simp only [Act.put, List.setIfInBounds_toArray, List.set_cons_zero, List.set_cons_succ]
        refine wpDet_take (i := 19) (oi := _) (v := ?dv53) (by simp only [List.getElem?_toArray, List.getElem?_cons_zero, List.getElem?_cons_succ]; rfl) (by kernel_rfl) (by kernel_rfl) (by kernel_rfl) (Or.inl ⟨by rfl, ?dy53⟩) ?dr53
        case dy53 => (intro w hSw; have hS0 := hSw; (try dsimp only [GFS] at hSw); go_simp; refine Came.value ?_ hS0; with_reducible rfl)
        try simp only [Act.put, List.setIfInBounds_toArray, List.set_cons_zero, List.set_cons_succ]
        refine wpDet_take (i := 20) (oi := _) (v := ?dv54) (by simp only [List.getElem?_toArray, List.getElem?_cons_zero, List.getElem?_cons_succ]; rfl) (by kernel_rfl) (by kernel_rfl) (by kernel_rfl) (Or.inl ⟨by rfl, ?dy54⟩) ?dr54
        case dy54 => (intro w hSw; have hS0 := hSw; (try dsimp only [GFS] at hSw); go_simp; refine Came.value ?_ hS0; with_reducible rfl)
        try simp only [Act.put, List.setIfInBounds_toArray, List.set_cons_zero, List.set_cons_succ]
        refine wpDet_take (i := 21) (oi := _) (v := ?dv55) (by simp only [List.getElem?_toArray, List.getElem?_cons_zero, List.getElem?_cons_succ]; rfl) (by kernel_rfl) (by kernel_rfl) (by kernel_rfl) (Or.inl ⟨by rfl, ?dy55⟩) ?dr55
        case dy55 => (intro w hSw; have hS0 := hSw; (try dsimp only [GFS] at hSw); go_simp; refine Came.value ?_ hS0; with_reducible rfl)
        try simp only [Act.put, List.setIfInBounds_toArray, List.set_cons_zero, List.set_cons_succ]
        refine wpDet_take (i := 22) (oi := _) (v := ?dv56) (by simp only [List.getElem?_toArray, List.getElem?_cons_zero, List.getElem?_cons_succ]; rfl) (by kernel_rfl) (by kernel_rfl) (by kernel_rfl) (Or.inl ⟨by rfl, ?dy56⟩) ?dr56
        case dy56 => (intro w hSw; have hS0 := hSw; (try dsimp only [GFS] at hSw); go_simp; refine Came.value ?_ hS0; with_reducible rfl)
        try simp only [Act.put, List.setIfInBounds_toArray, List.set_cons_zero, List.set_cons_succ]
        refine wpDet_take (i := 23) (oi := _) (v := ?dv57) (by simp only [List.getElem?_toArray, List.getElem?_cons_zero, List.getElem?_cons_succ]; rfl) (by kernel_rfl) (by kernel_rfl) (by kernel_rfl) (Or.inl ⟨by rfl, ?dy57⟩) ?dr57
        case dy57 => (intro w hSw; go_simp; exact Came.call ((would_any _ _ 5 2 ⟨_, _, hop, [2, 5]⟩ _ _ w hSw.2.2.2.2 hSw.2.2.2.1 (slice_sl _ _ _) false (would_off _ _ _ _ (.inl (by decide)))).mono fun e w' ⟨he, hf⟩ => ⟨he, hSw.fr hf⟩) (by with_reducible rfl))
        try simp only [Act.put, List.setIfInBounds_toArray, List.set_cons_zero, List.set_cons_succ]
        refine wpDet_take (i := 24) (oi := _) (v := ?dv58) (by simp only [List.getElem?_toArray, List.getElem?_cons_zero, List.getElem?_cons_succ]; rfl) (by kernel_rfl) (by kernel_rfl) (by kernel_rfl) (Or.inl ⟨by rfl, ?dy58⟩) ?dr58
        case dy58 => (intro w hSw; have hS0 := hSw; (try dsimp only [GFS] at hSw); go_simp; refine Came.value ?_ hS0; with_reducible rfl)
        try simp only [Act.put, List.setIfInBounds_toArray, List.set_cons_zero, List.set_cons_succ]
        refine wpDet_take (i := 25) (oi := _) (v := ?dv59) (by simp only [List.getElem?_toArray, List.getElem?_cons_zero, List.getElem?_cons_succ]; rfl) (by kernel_rfl) (by kernel_rfl) (by kernel_rfl) (Or.inl ⟨by rfl, ?dy59⟩) ?dr59
        case dy59 => (intro w hSw; have hS0 := hSw; (try dsimp only [GFS] at hSw); go_simp; refine Came.value ?_ hS0; with_reducible rfl)
        try simp only [Act.put, List.setIfInBounds_toArray, List.set_cons_zero, List.set_cons_succ]
        refine wpDet_take (i := 26) (oi := _) (v := ?dv60) (by simp only [List.getElem?_toArray, List.getElem?_cons_zero, List.getElem?_cons_succ]; rfl) (by kernel_rfl) (by kernel_rfl) (by kernel_rfl) (Or.inl ⟨by rfl, ?dy60⟩) ?dr60
        case dy60 => (intro w hSw; have hS0 := hSw; (try dsimp only [GFS] at hSw); go_simp; refine Came.value ?_ hS0; with_reducible rfl)
        try simp only [Act.put, List.setIfInBounds_toArray, List.set_cons_zero, List.set_cons_succ]
        refine wpDet_take (i := 27) (oi := _) (v := ?dv61) (by simp only [List.getElem?_toArray, List.getElem?_cons_zero, List.getElem?_cons_succ]; rfl) (by kernel_rfl) (by kernel_rfl) (by kernel_rfl) (Or.inl ⟨by rfl, ?dy61⟩) ?dr61
        case dy61 => (intro w hSw; have hS0 := hSw; (try dsimp only [GFS] at hSw); go_simp; refine Came.value ?_ hS0; with_reducible rfl)
        try simp only [Act.put, List.setIfInBounds_toArray, List.set_cons_zero, List.set_cons_succ]
        refine wpDet_take (i := 28) (oi := _) (v := ?dv62) (by simp only [List.getElem?_toArray, List.getElem?_cons_zero, List.getElem?_cons_succ]; rfl) (by kernel_rfl) (by kernel_rfl) (by kernel_rfl) (Or.inl ⟨by rfl, ?dy62⟩) ?dr62
        case dy62 => (intro w hSw; have hS0 := hSw; (try dsimp only [GFS] at hSw); go_simp; refine Came.value ?_ hS0; with_reducible rfl)
        try simp only [Act.put, List.setIfInBounds_toArray, List.set_cons_zero, List.set_cons_succ]
        refine wpDet_take (i := 29) (oi := _) (v := ?dv63) (by simp only [List.getElem?_toArray, List.getElem?_cons_zero, List.getElem?_cons_succ]; rfl) (by kernel_rfl) (by kernel_rfl) (by kernel_rfl) (Or.inl ⟨by rfl, ?dy63⟩) ?dr63
        case dy63 => (intro w hSw; go_simp; exact Came.call ((would_any _ _ 3 3 ⟨_, _, hop, [2, 5]⟩ _ _ w hSw.2.2.2.2 hSw.2.2.2.1 (slice_sl _ _ _) false (would_off _ _ _ _ (.inr (by simp)))).mono fun e w' ⟨he, hf⟩ => ⟨he, hSw.fr hf⟩) (by with_reducible rfl))
        try simp only [Act.put, List.setIfInBounds_toArray, List.set_cons_zero, List.set_cons_succ]
        refine wpDet_take (i := 30) (oi := _) (v := ?dv64) (by simp only [List.getElem?_toArray, List.getElem?_cons_zero, List.getElem?_cons_succ]; rfl) (by kernel_rfl) (by kernel_rfl) (by kernel_rfl) (Or.inl ⟨by rfl, ?dy64⟩) ?dr64
        case dy64 => (intro w hSw; have hS0 := hSw; (try dsimp only [GFS] at hSw); go_simp; refine Came.value ?_ hS0; with_reducible rfl)
        try simp only [Act.put, List.setIfInBounds_toArray, List.set_cons_zero, List.set_cons_succ]
        refine wpDet_take (i := 31) (oi := _) (v := ?dv65) (by simp only [List.getElem?_toArray, List.getElem?_cons_zero, List.getElem?_cons_succ]; rfl) (by kernel_rfl) (by kernel_rfl) (by kernel_rfl) (Or.inl ⟨by rfl, ?dy65⟩) ?dr65
        case dy65 => (intro w hSw; have hS0 := hSw; (try dsimp only [GFS] at hSw); go_simp; refine Came.value ?_ hS0; with_reducible rfl)
        try simp only [Act.put, List.setIfInBounds_toArray, List.set_cons_zero, List.set_cons_succ]
        refine wpDet_take (i := 32) (oi := _) (v := ?dv66) (by simp only [List.getElem?_toArray, List.getElem?_cons_zero, List.getElem?_cons_succ]; rfl) (by kernel_rfl) (by kernel_rfl) (by kernel_rfl) (Or.inl ⟨by rfl, ?dy66⟩) ?dr66
        case dy66 => (intro w hSw; have hS0 := hSw; (try dsimp only [GFS] at hSw); go_simp; refine Came.value ?_ hS0; with_reducible rfl)
        try simp only [Act.put, List.setIfInBounds_toArray, List.set_cons_zero, List.set_cons_succ]
        refine wpDet_done (by kernel_rfl) ?_ _
        rintro w7 ⟨hF, _⟩
        go_wp2
        go_ret
        exact ⟨rfl, hF.grown (by simp)⟩
      | true =>
        rw [hokB] at hvb
        have HVB := Lib.hid hvb
        by_cases hgtB : M < b1
        · have hdb : decide (M < b1) = true := by simp [hgtB]
          have hl := ep_rless a1 a2 b1 b2
          cases hlt : epLt a1 a2 b1 b2 with
          | false =>
            rw [hlt] at hl
            have HLT := Lib.hid hl
            have hhas : fndB ⟨a1, a2, 0, M⟩ b1 b2 = false := by rw [fndB, allowsB, hokB, hdb, hlt]; rfl
            obtain ⟨y0, y1⟩ := row2 HXB4.out
            go_wp2_with fail
            refine (found_any w1.heap.size ⟨a1, a2, 0, M⟩ b1 b2 _ HG4.out false hhas).mono ?_
            rintro e w5 ⟨rfl, hg, hf⟩
            have HG5 := Lib.hid hg
            have HXA5 := Lib.hid (hf.heap HXA4.out (by simp; omega))
            have HXB5 := Lib.hid (hf.heap HXB4.out (by simp; omega))
            have HF5 := Lib.hid (HF4.out.new hf (by simp; omega))
            clear hf hg x0 x1 y0 y1
            obtain ⟨y0, y1⟩ := row2 HXB5.out
            go_wp2_with fail
            refine (HVB.out _).mono ?_
            rintro e w6 ⟨rfl, hf⟩
            have HG6 := Lib.hid (HG5.out.keep hf)
            have HXA6 := Lib.hid (hf.heap HXA5.out (by simp))
            have HXB6 := Lib.hid (hf.heap HXB5.out (by simp))
            have HF6 := Lib.hid (HF5.out.trans hf)
            clear hf y0 y1
            obtain ⟨x0, x1⟩ := row2 HXA6.out
            obtain ⟨y0, y1⟩ := row2 HXB6.out
            go_wp2_with fail
            refine (HLT.out _).mono ?_
            rintro e w6a ⟨rfl, hf⟩
            have HG6a := Lib.hid (HG6.out.keep hf)
            have HXA6a := Lib.hid (hf.heap HXA6.out (by simp))
            have HXB6a := Lib.hid (hf.heap HXB6.out (by simp))
            have HF6a := Lib.hid (HF6.out.trans hf)
            clear hf x0 x1 y0 y1
            obtain ⟨x0, x1⟩ := row2 HXA6a.out
            obtain ⟨y0, y1⟩ := row2 HXB6a.out
            have hlt6 : w.heap.size < w6a.heap.size ∧ w.heap.size + 1 < w6a.heap.size := ⟨size_of_row HXA6a.out, size_of_row HXB6a.out⟩
            have hq := two_new (w6a.alloc (.cells #[.int .i64 a1, .int .i64 a2] 25)) (.cells #[.int .i64 2, .int .i64 5] 3) (.cells #[.int .i64 a1, .int .i64 a2, .int .i64 hop, .slice (some ⟨w6a.heap.size + 1, 0, none⟩) 2 2, .slice none 0 0] 29)
            rw [show (w6a.alloc (.cells #[.int .i64 a1, .int .i64 a2] 25)).heap.size = w6a.heap.size + 1 by simp] at hq
            have hfa := (Fr.alloc (w6a.alloc (.cells #[.int .i64 a1, .int .i64 a2] 25)) (.cells #[.int .i64 2, .int .i64 5] 3) []).trans (Fr.alloc _ (.cells #[.int .i64 a1, .int .i64 a2, .int .i64 hop, .slice (some ⟨w6a.heap.size + 1, 0, none⟩) 2 2, .slice none 0 0] 29) [])
            have HS := Lib.hid ((GFS.of (HF6a.out.trans ((Fr.alloc w6a (.cells #[.int .i64 a1, .int .i64 a2] 25) []).trans hfa)) (hfa.heap (heap_alloc_new w6a (.cells #[.int .i64 a1, .int .i64 a2] 25)) (by simp)) hq.2 hq.1 (HG6a.out.keep ((Fr.alloc w6a (.cells #[.int .i64 a1, .int .i64 a2] 25) []).trans hfa))).fr (Fr.drew _ []))
            have hw1 : wouldB ⟨a1, a2, 0, M⟩ 5 5 ⟨a1, a2, hop, [2, 5]⟩ = decide (0 < hop) := would_in a1 a2 M hop hokA hgtA
            have hsm := ep_same a1 a2 a1 a2
            rw [show decide (a1 = a1 ∧ a2 = a2) = true by simp] at hsm
            have HSM := Lib.hid hsm
            have HW1 := Lib.hid hw1
            clear hq hfa hw1 hsm
            go_wp2
            clear hlt6
            refine wp_region_det (S := GFS w w1.heap.size w6a.heap.size a1 a2 M hop) (by kernel_rfl) HS.out ?_
            refine wpDet_take (i := 0) (oi := _) (v := ?dv67) (by simp only [List.getElem?_toArray, List.getElem?_cons_zero]; rfl) (by kernel_rfl) (by kernel_rfl) (by kernel_rfl) (Or.inl ⟨by rfl, ?dy67⟩) ?dr67
            case dy67 => (intro w hSw; have hS0 := hSw; (try dsimp only [GFS] at hSw); go_simp; refine Came.value ?_ hS0; with_reducible rfl)
            try simp only [Act.put, List.setIfInBounds_toArray, List.set_cons_zero, List.set_cons_succ]
            refine wpDet_take (i := 1) (oi := _) (v := ?dv68) (by simp only [List.getElem?_toArray, List.getElem?_cons_zero, List.getElem?_cons_succ]; rfl) (by kernel_rfl) (by kernel_rfl) (by kernel_rfl) (Or.inl ⟨by rfl, ?dy68⟩) ?dr68
            case dy68 => (intro w hSw; have hS0 := hSw; (try dsimp only [GFS] at hSw); go_simp; refine Came.value ?_ hS0; with_reducible rfl)
            try simp only [Act.put, List.setIfInBounds_toArray, List.set_cons_zero, List.set_cons_succ]
            refine wpDet_take (i := 2) (oi := _) (v := ?dv69) (by simp only [List.getElem?_toArray, List.getElem?_cons_zero, List.getElem?_cons_succ]; rfl) (by kernel_rfl) (by kernel_rfl) (by kernel_rfl) (Or.inl ⟨by rfl, ?dy69⟩) ?dr69
            case dy69 => (intro w hSw; have hS0 := hSw; (try dsimp only [GFS] at hSw); go_simp; refine Came.value ?_ hS0; with_reducible rfl)
            try simp only [Act.put, List.setIfInBounds_toArray, List.set_cons_zero, List.set_cons_succ]
            refine wpDet_take (i := 3) (oi := _) (v := ?dv70) (by simp only [List.getElem?_toArray, List.getElem?_cons_zero, List.getElem?_cons_succ]; rfl) (by kernel_rfl) (by kernel_rfl) (by kernel_rfl) (Or.inl ⟨by rfl, ?dy70⟩) ?dr70
            case dy70 => (intro w hSw; go_simp; exact Came.call ((epoch_any _ _ w hSw.2.2.2.2).mono fun e w' ⟨he, hf⟩ => ⟨he, hSw.fr hf⟩) (by with_reducible rfl))
            try simp only [Act.put, List.setIfInBounds_toArray, List.set_cons_zero, List.set_cons_succ]
            refine wpDet_take (i := 4) (oi := _) (v := ?dv71) (by simp only [List.getElem?_toArray, List.getElem?_cons_zero, List.getElem?_cons_succ]; rfl) (by kernel_rfl) (by kernel_rfl) (by kernel_rfl) (Or.inl ⟨by rfl, ?dy71⟩) ?dr71
            case dy71 => (intro w hSw; have hS0 := hSw; (try dsimp only [GFS] at hSw); go_simp; refine Came.value ?_ hS0; with_reducible rfl)
            try simp only [Act.put, List.setIfInBounds_toArray, List.set_cons_zero, List.set_cons_succ]
            refine wpDet_take (i := 5) (oi := _) (v := ?dv72) (by simp only [List.getElem?_toArray, List.getElem?_cons_zero, List.getElem?_cons_succ]; rfl) (by kernel_rfl) (by kernel_rfl) (by kernel_rfl) (Or.inl ⟨by rfl, ?dy72⟩) ?dr72
            case dy72 => (intro w hSw; go_simp; exact Came.call ((HSM.out w).mono fun e w' ⟨he, hf⟩ => ⟨he, hSw.fr hf⟩) (by with_reducible rfl))
            try simp only [Act.put, List.setIfInBounds_toArray, List.set_cons_zero, List.set_cons_succ]
            refine wpDet_take (i := 6) (oi := _) (v := ?dv73) (by simp only [List.getElem?_toArray, List.getElem?_cons_zero, List.getElem?_cons_succ]; rfl) (by kernel_rfl) (by kernel_rfl) (by kernel_rfl) (Or.inl ⟨by rfl, ?dy73⟩) ?dr73
            case dy73 => (intro w hSw; have hS0 := hSw; (try dsimp only [GFS] at hSw); go_simp; refine Came.value ?_ hS0; with_reducible rfl)
            try simp only [Act.put, List.setIfInBounds_toArray, List.set_cons_zero, List.set_cons_succ]
            refine wpDet_take (i := 7) (oi := _) (v := ?dv74) (by simp only [List.getElem?_toArray, List.getElem?_cons_zero, List.getElem?_cons_succ]; rfl) (by kernel_rfl) (by kernel_rfl) (by kernel_rfl) (Or.inl ⟨by rfl, ?dy74⟩) ?dr74
            case dy74 => (intro w hSw; have hS0 := hSw; (try dsimp only [GFS] at hSw); go_simp; refine Came.value ?_ hS0; with_reducible rfl)
            try simp only [Act.put, List.setIfInBounds_toArray, List.set_cons_zero, List.set_cons_succ]
            refine wpDet_take (i := 8) (oi := _) (v := ?dv75) (by simp only [List.getElem?_toArray, List.getElem?_cons_zero, List.getElem?_cons_succ]; rfl) (by kernel_rfl) (by kernel_rfl) (by kernel_rfl) (Or.inl ⟨by rfl, ?dy75⟩) ?dr75
            case dy75 => (intro w hSw; have hS0 := hSw; (try dsimp only [GFS] at hSw); go_simp; refine Came.value ?_ hS0; with_reducible rfl)
            try simp only [Act.put, List.setIfInBounds_toArray, List.set_cons_zero, List.set_cons_succ]
            refine wpDet_take (i := 9) (oi := _) (v := ?dv76) (by simp only [List.getElem?_toArray, List.getElem?_cons_zero, List.getElem?_cons_succ]; rfl) (by kernel_rfl) (by kernel_rfl) (by kernel_rfl) (Or.inl ⟨by rfl, ?dy76⟩) ?dr76
            case dy76 => (intro w hSw; go_simp; exact Came.call ((hop_any _ _ w hSw.2.2.2.2).mono fun e w' ⟨he, hw⟩ => ⟨he, hw ▸ hSw⟩) (by with_reducible rfl))
            try simp only [Act.put, List.setIfInBounds_toArray, List.set_cons_zero, List.set_cons_succ]
            refine wpDet_take (i := 10) (oi := _) (v := ?dv77) (by simp only [List.getElem?_toArray, List.getElem?_cons_zero, List.getElem?_cons_succ]; rfl) (by kernel_rfl) (by kernel_rfl) (by kernel_rfl) (Or.inl ⟨by rfl, ?dy77⟩) ?dr77
            case dy77 => (intro w hSw; have hS0 := hSw; (try dsimp only [GFS] at hSw); go_simp; refine Came.value ?_ hS0; with_reducible rfl)
            try simp only [Act.put, List.setIfInBounds_toArray, List.set_cons_zero, List.set_cons_succ]
            refine wpDet_take (i := 11) (oi := _) (v := ?dv78) (by simp only [List.getElem?_toArray, List.getElem?_cons_zero, List.getElem?_cons_succ]; rfl) (by kernel_rfl) (by kernel_rfl) (by kernel_rfl) (Or.inl ⟨by rfl, ?dy78⟩) ?dr78
            case dy78 => (intro w hSw; have hS0 := hSw; (try dsimp only [GFS] at hSw); go_simp; refine Came.value ?_ hS0; with_reducible rfl)
            try simp only [Act.put, List.setIfInBounds_toArray, List.set_cons_zero, List.set_cons_succ]
            refine wpDet_take (i := 12) (oi := _) (v := ?dv79) (by simp only [List.getElem?_toArray, List.getElem?_cons_zero, List.getElem?_cons_succ]; rfl) (by kernel_rfl) (by kernel_rfl) (by kernel_rfl) (Or.inl ⟨by rfl, ?dy79⟩) ?dr79
            case dy79 => (intro w hSw; have hS0 := hSw; (try dsimp only [GFS] at hSw); go_simp; refine Came.value ?_ hS0; with_reducible rfl)
            try simp only [Act.put, List.setIfInBounds_toArray, List.set_cons_zero, List.set_cons_succ]
            refine wpDet_take (i := 13) (oi := _) (v := ?dv80) (by simp only [List.getElem?_toArray, List.getElem?_cons_zero, List.getElem?_cons_succ]; rfl) (by kernel_rfl) (by kernel_rfl) (by kernel_rfl) (Or.inl ⟨by rfl, ?dy80⟩) ?dr80
            case dy80 => (intro w hSw; have hS0 := hSw; (try dsimp only [GFS] at hSw); go_simp; refine Came.value ?_ hS0; with_reducible rfl)
            try simp only [Act.put, List.setIfInBounds_toArray, List.set_cons_zero, List.set_cons_succ]
            refine wpDet_take (i := 14) (oi := _) (v := ?dv81) (by simp only [List.getElem?_toArray, List.getElem?_cons_zero, List.getElem?_cons_succ]; rfl) (by kernel_rfl) (by kernel_rfl) (by kernel_rfl) (Or.inl ⟨by rfl, ?dy81⟩) ?dr81
            case dy81 => (intro w hSw; have hS0 := hSw; (try dsimp only [GFS] at hSw); go_simp; refine Came.value ?_ hS0; with_reducible rfl)
            try simp only [Act.put, List.setIfInBounds_toArray, List.set_cons_zero, List.set_cons_succ]
            refine wpDet_take (i := 15) (oi := _) (v := ?dv82) (by simp only [List.getElem?_toArray, List.getElem?_cons_zero, List.getElem?_cons_succ]; rfl) (by kernel_rfl) (by kernel_rfl) (by kernel_rfl) (Or.inl ⟨by rfl, ?dy82⟩) ?dr82
            case dy82 => (intro w hSw; go_simp; exact Came.call ((would_any _ _ 5 5 ⟨_, _, hop, [2, 5]⟩ _ _ w hSw.2.2.2.2 hSw.2.2.2.1 (slice_sl _ _ _) _ HW1.out).mono fun e w' ⟨he, hf⟩ => ⟨he, hSw.fr hf⟩) (by with_reducible rfl))
            try simp only [Act.put, List.setIfInBounds_toArray, List.set_cons_zero, List.set_cons_succ]
            refine wpDet_take (i := 16) (oi := _) (v := ?dv83) (by simp only [List.getElem?_toArray, List.getElem?_cons_zero, List.getElem?_cons_succ]; rfl) (by kernel_rfl) (by kernel_rfl) (by kernel_rfl) (Or.inl ⟨by rfl, ?dy83⟩) ?dr83
            case dy83 => (intro w hSw; have hS0 := hSw; (try dsimp only [GFS] at hSw); go_simp; refine Came.value ?_ hS0; with_reducible rfl)
            try simp only [Act.put, List.setIfInBounds_toArray, List.set_cons_zero, List.set_cons_succ]
            refine wpDet_take (i := 17) (oi := _) (v := ?dv84) (by simp only [List.getElem?_toArray, List.getElem?_cons_zero, List.getElem?_cons_succ]; rfl) (by kernel_rfl) (by kernel_rfl) (by kernel_rfl) (Or.inl ⟨by rfl, ?dy84⟩) ?dr84
            case dy84 => (intro w hSw; have hS0 := hSw; (try dsimp only [GFS] at hSw); go_simp; refine Came.value ?_ hS0; with_reducible rfl)
            try simp only [Act.put, List.setIfInBounds_toArray, List.set_cons_zero, List.set_cons_succ]
            refine wpDet_take (i := 18) (oi := _) (v := ?dv85) (by simp only [List.getElem?_toArray, List.getElem?_cons_zero, List.getElem?_cons_succ]; rfl) (by kernel_rfl) (by kernel_rfl) (by kernel_rfl) (Or.inl ⟨by rfl, ?dy85⟩) ?dr85
            case dy85 => (intro w hSw; have hS0 := hSw; (try dsimp only [GFS] at hSw); go_simp; refine Came.value ?_ hS0; with_reducible rfl)
            try simp only [Act.put, List.setIfInBounds_toArray, List.set_cons_zero, List.set_cons_succ]
            refine wpDet_take (i := 19) (oi := _) (v := ?dv86) (by simp only [List.getElem?_toArray, List.getElem?_cons_zero, List.getElem?_cons_succ]; rfl) (by kernel_rfl) (by kernel_rfl) (by kernel_rfl) (Or.inl ⟨by rfl, ?dy86⟩) ?dr86
            case dy86 => (intro w hSw; have hS0 := hSw; (try dsimp only [GFS] at hSw); go_simp; refine Came.value ?_ hS0; with_reducible rfl)
            try simp only [Act.put, List.setIfInBounds_toArray, List.set_cons_zero, List.set_cons_succ]
            refine wpDet_take (i := 20) (oi := _) (v := ?dv87) (by simp only [List.getElem?_toArray, List.getElem?_cons_zero, List.getElem?_cons_succ]; rfl) (by kernel_rfl) (by kernel_rfl) (by kernel_rfl) (Or.inl ⟨by rfl, ?dy87⟩) ?dr87
            case dy87 => (intro w hSw; have hS0 := hSw; (try dsimp only [GFS] at hSw); go_simp; refine Came.value ?_ hS0; with_reducible rfl)
            try simp only [Act.put, List.setIfInBounds_toArray, List.set_cons_zero, List.set_cons_succ]
            refine wpDet_take (i := 21) (oi := _) (v := ?dv88) (by simp only [List.getElem?_toArray, List.getElem?_cons_zero, List.getElem?_cons_succ]; rfl) (by kernel_rfl) (by kernel_rfl) (by kernel_rfl) (Or.inl ⟨by rfl, ?dy88⟩) ?dr88
            case dy88 => (intro w hSw; have hS0 := hSw; (try dsimp only [GFS] at hSw); go_simp; refine Came.value ?_ hS0; with_reducible rfl)
            try simp only [Act.put, List.setIfInBounds_toArray, List.set_cons_zero, List.set_cons_succ]
            refine wpDet_take (i := 22) (oi := _) (v := ?dv89) (by simp only [List.getElem?_toArray, List.getElem?_cons_zero, List.getElem?_cons_succ]; rfl) (by kernel_rfl) (by kernel_rfl) (by kernel_rfl) (Or.inl ⟨by rfl, ?dy89⟩) ?dr89
            case dy89 => (intro w hSw; have hS0 := hSw; (try dsimp only [GFS] at hSw); go_simp; refine Came.value ?_ hS0; with_reducible rfl)
            try simp only [Act.put, List.setIfInBounds_toArray, List.set_cons_zero, List.set_cons_succ]
            refine wpDet_take (i := 23) (oi := _) (v := ?dv90) (by simp only [List.getElem?_toArray, List.getElem?_cons_zero, List.getElem?_cons_succ]; rfl) (by kernel_rfl) (by kernel_rfl) (by kernel_rfl) (Or.inl ⟨by rfl, ?dy90⟩) ?dr90
            case dy90 => (intro w hSw; go_simp; exact Came.call ((would_any _ _ 5 2 ⟨_, _, hop, [2, 5]⟩ _ _ w hSw.2.2.2.2 hSw.2.2.2.1 (slice_sl _ _ _) false (would_off _ _ _ _ (.inl (by decide)))).mono fun e w' ⟨he, hf⟩ => ⟨he, hSw.fr hf⟩) (by with_reducible rfl))
            try simp only [Act.put, List.setIfInBounds_toArray, List.set_cons_zero, List.set_cons_succ]
            refine wpDet_take (i := 24) (oi := _) (v := ?dv91) (by simp only [List.getElem?_toArray, List.getElem?_cons_zero, List.getElem?_cons_succ]; rfl) (by kernel_rfl) (by kernel_rfl) (by kernel_rfl) (Or.inl ⟨by rfl, ?dy91⟩) ?dr91
            case dy91 => (intro w hSw; have hS0 := hSw; (try dsimp only [GFS] at hSw); go_simp; refine Came.value ?_ hS0; with_reducible rfl)
            try simp only [Act.put, List.setIfInBounds_toArray, List.set_cons_zero, List.set_cons_succ]
            refine wpDet_take (i := 25) (oi := _) (v := ?dv92) (by simp only [List.getElem?_toArray, List.getElem?_cons_zero, List.getElem?_cons_succ]; rfl) (by kernel_rfl) (by kernel_rfl) (by kernel_rfl) (Or.inl ⟨by rfl, ?dy92⟩) ?dr92
            case dy92 => (intro w hSw; have hS0 := hSw; (try dsimp only [GFS] at hSw); go_simp; refine Came.value ?_ hS0; with_reducible rfl)
            try simp only [Act.put, List.setIfInBounds_toArray, List.set_cons_zero, List.set_cons_succ]
            refine wpDet_take (i := 26) (oi := _) (v := ?dv93) (by simp only [List.getElem?_toArray, List.getElem?_cons_zero, List.getElem?_cons_succ]; rfl) (by kernel_rfl) (by kernel_rfl) (by kernel_rfl) (Or.inl ⟨by rfl, ?dy93⟩) ?dr93
            case dy93 => (intro w hSw; have hS0 := hSw; (try dsimp only [GFS] at hSw); go_simp; refine Came.value ?_ hS0; with_reducible rfl)
            try simp only [Act.put, List.setIfInBounds_toArray, List.set_cons_zero, List.set_cons_succ]
            refine wpDet_take (i := 27) (oi := _) (v := ?dv94) (by simp only [List.getElem?_toArray, List.getElem?_cons_zero, List.getElem?_cons_succ]; rfl) (by kernel_rfl) (by kernel_rfl) (by kernel_rfl) (Or.inl ⟨by rfl, ?dy94⟩) ?dr94
            case dy94 => (intro w hSw; have hS0 := hSw; (try dsimp only [GFS] at hSw); go_simp; refine Came.value ?_ hS0; with_reducible rfl)
            try simp only [Act.put, List.setIfInBounds_toArray, List.set_cons_zero, List.set_cons_succ]
            refine wpDet_take (i := 28) (oi := _) (v := ?dv95) (by simp only [List.getElem?_toArray, List.getElem?_cons_zero, List.getElem?_cons_succ]; rfl) (by kernel_rfl) (by kernel_rfl) (by kernel_rfl) (Or.inl ⟨by rfl, ?dy95⟩) ?dr95
            case dy95 => (intro w hSw; have hS0 := hSw; (try dsimp only [GFS] at hSw); go_simp; refine Came.value ?_ hS0; with_reducible rfl)
            try simp only [Act.put, List.setIfInBounds_toArray, List.set_cons_zero, List.set_cons_succ]
            refine wpDet_take (i := 29) (oi := _) (v := ?dv96) (by simp only [List.getElem?_toArray, List.getElem?_cons_zero, List.getElem?_cons_succ]; rfl) (by kernel_rfl) (by kernel_rfl) (by kernel_rfl) (Or.inl ⟨by rfl, ?dy96⟩) ?dr96
            case dy96 => (intro w hSw; go_simp; exact Came.call ((would_any _ _ 3 3 ⟨_, _, hop, [2, 5]⟩ _ _ w hSw.2.2.2.2 hSw.2.2.2.1 (slice_sl _ _ _) false (would_off _ _ _ _ (.inr (by simp)))).mono fun e w' ⟨he, hf⟩ => ⟨he, hSw.fr hf⟩) (by with_reducible rfl))
            try simp only [Act.put, List.setIfInBounds_toArray, List.set_cons_zero, List.set_cons_succ]
            refine wpDet_take (i := 30) (oi := _) (v := ?dv97) (by simp only [List.getElem?_toArray, List.getElem?_cons_zero, List.getElem?_cons_succ]; rfl) (by kernel_rfl) (by kernel_rfl) (by kernel_rfl) (Or.inl ⟨by rfl, ?dy97⟩) ?dr97
            case dy97 => (intro w hSw; have hS0 := hSw; (try dsimp only [GFS] at hSw); go_simp; refine Came.value ?_ hS0; with_reducible rfl)
            try simp only [Act.put, List.setIfInBounds_toArray, List.set_cons_zero, List.set_cons_succ]
            refine wpDet_take (i := 31) (oi := _) (v := ?dv98) (by simp only [List.getElem?_toArray, List.getElem?_cons_zero, List.getElem?_cons_succ]; rfl) (by kernel_rfl) (by kernel_rfl) (by kernel_rfl) (Or.inl ⟨by rfl, ?dy98⟩) ?dr98
            case dy98 => (intro w hSw; have hS0 := hSw; (try dsimp only [GFS] at hSw); go_simp; refine Came.value ?_ hS0; with_reducible rfl)
            try simp only [Act.put, List.setIfInBounds_toArray, List.set_cons_zero, List.set_cons_succ]
            refine wpDet_take (i := 32) (oi := _) (v := ?dv99) (by simp only [List.getElem?_toArray, List.getElem?_cons_zero, List.getElem?_cons_succ]; rfl) (by kernel_rfl) (by kernel_rfl) (by kernel_rfl) (Or.inl ⟨by rfl, ?dy99⟩) ?dr99
            case dy99 => (intro w hSw; have hS0 := hSw; (try dsimp only [GFS] at hSw); go_simp; refine Came.value ?_ hS0; with_reducible rfl)
            try simp only [Act.put, List.setIfInBounds_toArray, List.set_cons_zero, List.set_cons_succ]
            refine wpDet_done (by kernel_rfl) ?_ _
            rintro w7 ⟨hF, _⟩
            go_wp2
            go_ret
            exact ⟨rfl, hF.grown (by simp)⟩
          | true =>
            rw [hlt] at hl
            have HLT := Lib.hid hl
            have hhas : fndB ⟨a1, a2, 0, M⟩ b1 b2 = true := by rw [fndB, allowsB, hokB, hdb, hlt]; rfl
            obtain ⟨y0, y1⟩ := row2 HXB4.out
            go_wp2_with fail
            refine (found_any w1.heap.size ⟨a1, a2, 0, M⟩ b1 b2 _ HG4.out true hhas).mono ?_
            rintro e w5 ⟨rfl, hg, hf⟩
            have HG5 := Lib.hid hg
            have HXA5 := Lib.hid (hf.heap HXA4.out (by simp; omega))
            have HXB5 := Lib.hid (hf.heap HXB4.out (by simp; omega))
            have HF5 := Lib.hid (HF4.out.new hf (by simp; omega))
            clear hf hg x0 x1 y0 y1
            obtain ⟨y0, y1⟩ := row2 HXB5.out
            go_wp2_with fail
            refine (HVB.out _).mono ?_
            rintro e w6 ⟨rfl, hf⟩
            have HG6 := Lib.hid (HG5.out.keep hf)
            have HXA6 := Lib.hid (hf.heap HXA5.out (by simp))
            have HXB6 := Lib.hid (hf.heap HXB5.out (by simp))
            have HF6 := Lib.hid (HF5.out.trans hf)
            clear hf y0 y1
            obtain ⟨x0, x1⟩ := row2 HXA6.out
            obtain ⟨y0, y1⟩ := row2 HXB6.out
            go_wp2_with fail
            refine (HLT.out _).mono ?_
            rintro e w6a ⟨rfl, hf⟩
            have HG6a := Lib.hid (HG6.out.keep hf)
            have HXA6a := Lib.hid (hf.heap HXA6.out (by simp))
            have HXB6a := Lib.hid (hf.heap HXB6.out (by simp))
            have HF6a := Lib.hid (HF6.out.trans hf)
            clear hf x0 x1 y0 y1
            obtain ⟨x0, x1⟩ := row2 HXA6a.out
            obtain ⟨y0, y1⟩ := row2 HXB6a.out
            have hlt6 : w.heap.size < w6a.heap.size ∧ w.heap.size + 1 < w6a.heap.size := ⟨size_of_row HXA6a.out, size_of_row HXB6a.out⟩
            have hq := two_new (w6a.alloc (.cells #[.int .i64 b1, .int .i64 b2] 25)) (.cells #[.int .i64 2, .int .i64 5] 3) (.cells #[.int .i64 b1, .int .i64 b2, .int .i64 hop, .slice (some ⟨w6a.heap.size + 1, 0, none⟩) 2 2, .slice none 0 0] 29)
            rw [show (w6a.alloc (.cells #[.int .i64 b1, .int .i64 b2] 25)).heap.size = w6a.heap.size + 1 by simp] at hq
            have hfa := (Fr.alloc (w6a.alloc (.cells #[.int .i64 b1, .int .i64 b2] 25)) (.cells #[.int .i64 2, .int .i64 5] 3) []).trans (Fr.alloc _ (.cells #[.int .i64 b1, .int .i64 b2, .int .i64 hop, .slice (some ⟨w6a.heap.size + 1, 0, none⟩) 2 2, .slice none 0 0] 29) [])
            have HS := Lib.hid ((GFS.of (HF6a.out.trans ((Fr.alloc w6a (.cells #[.int .i64 b1, .int .i64 b2] 25) []).trans hfa)) (hfa.heap (heap_alloc_new w6a (.cells #[.int .i64 b1, .int .i64 b2] 25)) (by simp)) hq.2 hq.1 (HG6a.out.keep ((Fr.alloc w6a (.cells #[.int .i64 b1, .int .i64 b2] 25) []).trans hfa))).fr (Fr.drew _ []))
            have hw1 : wouldB ⟨b1, b2, 0, M⟩ 5 5 ⟨b1, b2, hop, [2, 5]⟩ = decide (0 < hop) := would_in b1 b2 M hop hokB hgtB
            have hsm := ep_same b1 b2 b1 b2
            rw [show decide (b1 = b1 ∧ b2 = b2) = true by simp] at hsm
            have HSM := Lib.hid hsm
            have HW1 := Lib.hid hw1
            clear hq hfa hw1 hsm
            go_wp2
            clear hlt6
            refine wp_region_det (S := GFS w w1.heap.size w6a.heap.size b1 b2 M hop) (by kernel_rfl) HS.out ?_
            refine wpDet_take (i := 0) (oi := _) (v := ?dv100) (by simp only [List.getElem?_toArray, List.getElem?_cons_zero]; rfl) (by kernel_rfl) (by kernel_rfl) (by kernel_rfl) (Or.inl ⟨by rfl, ?dy100⟩) ?dr100
            case dy100 => (intro w hSw; have hS0 := hSw; (try dsimp only [GFS] at hSw); go_simp; refine Came.value ?_ hS0; with_reducible rfl)
            try simp only [Act.put, List.setIfInBounds_toArray, List.set_cons_zero, List.set_cons_succ]
            refine wpDet_take (i := 1) (oi := _) (v := ?dv101) (by simp only [List.getElem?_toArray, List.getElem?_cons_zero, List.getElem?_cons_succ]; rfl) (by kernel_rfl) (by kernel_rfl) (by kernel_rfl) (Or.inl ⟨by rfl, ?dy101⟩) ?dr101
            case dy101 => (intro w hSw; have hS0 := hSw; (try dsimp only [GFS] at hSw); go_simp; refine Came.value ?_ hS0; with_reducible rfl)
            try simp only [Act.put, List.setIfInBounds_toArray, List.set_cons_zero, List.set_cons_succ]
            refine wpDet_take (i := 2) (oi := _) (v := ?dv102) (by simp only [List.getElem?_toArray, List.getElem?_cons_zero, List.getElem?_cons_succ]; rfl) (by kernel_rfl) (by kernel_rfl) (by kernel_rfl) (Or.inl ⟨by rfl, ?dy102⟩) ?dr102
            case dy102 => (intro w hSw; have hS0 := hSw; (try dsimp only [GFS] at hSw); go_simp; refine Came.value ?_ hS0; with_reducible rfl)
            try simp only [Act.put, List.setIfInBounds_toArray, List.set_cons_zero, List.set_cons_succ]
            refine wpDet_take (i := 3) (oi := _) (v := ?dv103) (by simp only [List.getElem?_toArray, List.getElem?_cons_zero, List.getElem?_cons_succ]; rfl) (by kernel_rfl) (by kernel_rfl) (by kernel_rfl) (Or.inl ⟨by rfl, ?dy103⟩) ?dr103
            case dy103 => (intro w hSw; go_simp; exact Came.call ((epoch_any _ _ w hSw.2.2.2.2).mono fun e w' ⟨he, hf⟩ => ⟨he, hSw.fr hf⟩) (by with_reducible rfl))
            try simp only [Act.put, List.setIfInBounds_toArray, List.set_cons_zero, List.set_cons_succ]
            refine wpDet_take (i := 4) (oi := _) (v := ?dv104) (by simp only [List.getElem?_toArray, List.getElem?_cons_zero, List.getElem?_cons_succ]; rfl) (by kernel_rfl) (by kernel_rfl) (by kernel_rfl) (Or.inl ⟨by rfl, ?dy104⟩) ?dr104
            case dy104 => (intro w hSw; have hS0 := hSw; (try dsimp only [GFS] at hSw); go_simp; refine Came.value ?_ hS0; with_reducible rfl)
            try simp only [Act.put, List.setIfInBounds_toArray, List.set_cons_zero, List.set_cons_succ]
            refine wpDet_take (i := 5) (oi := _) (v := ?dv105) (by simp only [List.getElem?_toArray, List.getElem?_cons_zero, List.getElem?_cons_succ]; rfl) (by kernel_rfl) (by kernel_rfl) (by kernel_rfl) (Or.inl ⟨by rfl, ?dy105⟩) ?dr105
            case dy105 => (intro w hSw; go_simp; exact Came.call ((HSM.out w).mono fun e w' ⟨he, hf⟩ => ⟨he, hSw.fr hf⟩) (by with_reducible rfl))
            try simp only [Act.put, List.setIfInBounds_toArray, List.set_cons_zero, List.set_cons_succ]
            refine wpDet_take (i := 6) (oi := _) (v := ?dv106) (by simp only [List.getElem?_toArray, List.getElem?_cons_zero, List.getElem?_cons_succ]; rfl) (by kernel_rfl) (by kernel_rfl) (by kernel_rfl) (Or.inl ⟨by rfl, ?dy106⟩) ?dr106
            case dy106 => (intro w hSw; have hS0 := hSw; (try dsimp only [GFS] at hSw); go_simp; refine Came.value ?_ hS0; with_reducible rfl)
            try simp only [Act.put, List.setIfInBounds_toArray, List.set_cons_zero, List.set_cons_succ]
            refine wpDet_take (i := 7) (oi := _) (v := ?dv107) (by simp only [List.getElem?_toArray, List.getElem?_cons_zero, List.getElem?_cons_succ]; rfl) (by kernel_rfl) (by kernel_rfl) (by kernel_rfl) (Or.inl ⟨by rfl, ?dy107⟩) ?dr107
            case dy107 => (intro w hSw; have hS0 := hSw; (try dsimp only [GFS] at hSw); go_simp; refine Came.value ?_ hS0; with_reducible rfl)
            try simp only [Act.put, List.setIfInBounds_toArray, List.set_cons_zero, List.set_cons_succ]
            refine wpDet_take (i := 8) (oi := _) (v := ?dv108) (by simp only [List.getElem?_toArray, List.getElem?_cons_zero, List.getElem?_cons_succ]; rfl) (by kernel_rfl) (by kernel_rfl) (by kernel_rfl) (Or.inl ⟨by rfl, ?dy108⟩) ?dr108
            case dy108 => (intro w hSw; have hS0 := hSw; (try dsimp only [GFS] at hSw); go_simp; refine Came.value ?_ hS0; with_reducible rfl)
            try simp only [Act.put, List.setIfInBounds_toArray, List.set_cons_zero, List.set_cons_succ]
            refine wpDet_take (i := 9) (oi := _) (v := ?dv109) (by simp only [List.getElem?_toArray, List.getElem?_cons_zero, List.getElem?_cons_succ]; rfl) (by kernel_rfl) (by kernel_rfl) (by kernel_rfl) (Or.inl ⟨by rfl, ?dy109⟩) ?dr109
            case dy109 => (intro w hSw; go_simp; exact Came.call ((hop_any _ _ w hSw.2.2.2.2).mono fun e w' ⟨he, hw⟩ => ⟨he, hw ▸ hSw⟩) (by with_reducible rfl))
            try simp only [Act.put, List.setIfInBounds_toArray, List.set_cons_zero, List.set_cons_succ]
            refine wpDet_take (i := 10) (oi := _) (v := ?dv110) (by simp only [List.getElem?_toArray, List.getElem?_cons_zero, List.getElem?_cons_succ]; rfl) (by kernel_rfl) (by kernel_rfl) (by kernel_rfl) (Or.inl ⟨by rfl, ?dy110⟩) ?dr110
            case dy110 => (intro w hSw; have hS0 := hSw; (try dsimp only [GFS] at hSw); go_simp; refine Came.value ?_ hS0; with_reducible rfl)
            try simp only [Act.put, List.setIfInBounds_toArray, List.set_cons_zero, List.set_cons_succ]
            refine wpDet_take (i := 11) (oi := _) (v := ?dv111) (by simp only [List.getElem?_toArray, List.getElem?_cons_zero, List.getElem?_cons_succ]; rfl) (by kernel_rfl) (by kernel_rfl) (by kernel_rfl) (Or.inl ⟨by rfl, ?dy111⟩) ?dr111
            case dy111 => (intro w hSw; have hS0 := hSw; (try dsimp only [GFS] at hSw); go_simp; refine Came.value ?_ hS0; with_reducible rfl)
            try simp only [Act.put, List.setIfInBounds_toArray, List.set_cons_zero, List.set_cons_succ]
            refine wpDet_take (i := 12) (oi := _) (v := ?dv112) (by simp only [List.getElem?_toArray, List.getElem?_cons_zero, List.getElem?_cons_succ]; rfl) (by kernel_rfl) (by kernel_rfl) (by kernel_rfl) (Or.inl ⟨by rfl, ?dy112⟩) ?dr112
            case dy112 => (intro w hSw; have hS0 := hSw; (try dsimp only [GFS] at hSw); go_simp; refine Came.value ?_ hS0; with_reducible rfl)
            try simp only [Act.put, List.setIfInBounds_toArray, List.set_cons_zero, List.set_cons_succ]
            refine wpDet_take (i := 13) (oi := _) (v := ?dv113) (by simp only [List.getElem?_toArray, List.getElem?_cons_zero, List.getElem?_cons_succ]; rfl) (by kernel_rfl) (by kernel_rfl) (by kernel_rfl) (Or.inl ⟨by rfl, ?dy113⟩) ?dr113
            case dy113 => (intro w hSw; have hS0 := hSw; (try dsimp only [GFS] at hSw); go_simp; refine Came.value ?_ hS0; with_reducible rfl)
            try simp only [Act.put, List.setIfInBounds_toArray, List.set_cons_zero, List.set_cons_succ]
            refine wpDet_take (i := 14) (oi := _) (v := ?dv114) (by simp only [List.getElem?_toArray, List.getElem?_cons_zero, List.getElem?_cons_succ]; rfl) (by kernel_rfl) (by kernel_rfl) (by kernel_rfl) (Or.inl ⟨by rfl, ?dy114⟩) ?dr114
            case dy114 => (intro w hSw; have hS0 := hSw; (try dsimp only [GFS] at hSw); go_simp; refine Came.value ?_ hS0; with_reducible rfl)
            try simp only [Act.put, List.setIfInBounds_toArray, List.set_cons_zero, List.set_cons_succ]
            refine wpDet_take (i := 15) (oi := _) (v := ?dv115) (by simp only [List.getElem?_toArray, List.getElem?_cons_zero, List.getElem?_cons_succ]; rfl) (by kernel_rfl) (by kernel_rfl) (by kernel_rfl) (Or.inl ⟨by rfl, ?dy115⟩) ?dr115
            case dy115 => (intro w hSw; go_simp; exact Came.call ((would_any _ _ 5 5 ⟨_, _, hop, [2, 5]⟩ _ _ w hSw.2.2.2.2 hSw.2.2.2.1 (slice_sl _ _ _) _ HW1.out).mono fun e w' ⟨he, hf⟩ => ⟨he, hSw.fr hf⟩) (by with_reducible rfl))
            try simp only [Act.put, List.setIfInBounds_toArray, List.set_cons_zero, List.set_cons_succ]
            refine wpDet_take (i := 16) (oi := _) (v := ?dv116) (by simp only [List.getElem?_toArray, List.getElem?_cons_zero, List.getElem?_cons_succ]; rfl) (by kernel_rfl) (by kernel_rfl) (by kernel_rfl) (Or.inl ⟨by rfl, ?dy116⟩) ?dr116
            case dy116 => (intro w hSw; have hS0 := hSw; (try dsimp only [GFS] at hSw); go_simp; refine Came.value ?_ hS0; with_reducible rfl)
            try simp only [Act.put, List.setIfInBounds_toArray, List.set_cons_zero, List.set_cons_succ]
            refine wpDet_take (i := 17) (oi := _) (v := ?dv117) (by simp only [List.getElem?_toArray, List.getElem?_cons_zero, List.getElem?_cons_succ]; rfl) (by kernel_rfl) (by kernel_rfl) (by kernel_rfl) (Or.inl ⟨by rfl, ?dy117⟩) ?dr117
            case dy117 => (intro w hSw; have hS0 := hSw; (try dsimp only [GFS] at hSw); go_simp; refine Came.value ?_ hS0; with_reducible rfl)
            try simp only [Act.put, List.setIfInBounds_toArray, List.set_cons_zero, List.set_cons_succ]
            refine wpDet_take (i := 18) (oi := _) (v := ?dv118) (by simp only [List.getElem?_toArray, List.getElem?_cons_zero, List.getElem?_cons_succ]; rfl) (by kernel_rfl) (by kernel_rfl) (by kernel_rfl) (Or.inl ⟨by rfl, ?dy118⟩) ?dr118
            case dy118 => (intro w hSw; have hS0 := hSw; (try dsimp only [GFS] at hSw); go_simp; refine Came.value ?_ hS0; with_reducible rfl)
            try simp only [Act.put, List.setIfInBounds_toArray, List.set_cons_zero, List.set_cons_succ]
            refine wpDet_take (i := 19) (oi := _) (v := ?dv119) (by simp only [List.getElem?_toArray, List.getElem?_cons_zero, List.getElem?_cons_succ]; rfl) (by kernel_rfl) (by kernel_rfl) (by kernel_rfl) (Or.inl ⟨by rfl, ?dy119⟩) ?dr119
            case dy119 => (intro w hSw; have hS0 := hSw; (try dsimp only [GFS] at hSw); go_simp; refine Came.value ?_ hS0; with_reducible rfl)
            try simp only [Act.put, List.setIfInBounds_toArray, List.set_cons_zero, List.set_cons_succ]
            refine wpDet_take (i := 20) (oi := _) (v := ?dv120) (by simp only [List.getElem?_toArray, List.getElem?_cons_zero, List.getElem?_cons_succ]; rfl) (by kernel_rfl) (by kernel_rfl) (by kernel_rfl) (Or.inl ⟨by rfl, ?dy120⟩) ?dr120
            case dy120 => (intro w hSw; have hS0 := hSw; (try dsimp only [GFS] at hSw); go_simp; refine Came.value ?_ hS0; with_reducible rfl)
            try simp only [Act.put, List.setIfInBounds_toArray, List.set_cons_zero, List.set_cons_succ]
            refine wpDet_take (i := 21) (oi := _) (v := ?dv121) (by simp only [List.getElem?_toArray, List.getElem?_cons_zero, List.getElem?_cons_succ]; rfl) (by kernel_rfl) (by kernel_rfl) (by kernel_rfl) (Or.inl ⟨by rfl, ?dy121⟩) ?dr121
            case dy121 => (intro w hSw; have hS0 := hSw; (try dsimp only [GFS] at hSw); go_simp; refine Came.value ?_ hS0; with_reducible rfl)
            try simp only [Act.put, List.setIfInBounds_toArray, List.set_cons_zero, List.set_cons_succ]
            refine wpDet_take (i := 22) (oi := _) (v := ?dv122) (by simp only [List.getElem?_toArray, List.getElem?_cons_zero, List.getElem?_cons_succ]; rfl) (by kernel_rfl) (by kernel_rfl) (by kernel_rfl) (Or.inl ⟨by rfl, ?dy122⟩) ?dr122
            case dy122 => (intro w hSw; have hS0 := hSw; (try dsimp only [GFS] at hSw); go_simp; refine Came.value ?_ hS0; with_reducible rfl)
            try simp only [Act.put, List.setIfInBounds_toArray, List.set_cons_zero, List.set_cons_succ]
            refine wpDet_take (i := 23) (oi := _) (v := ?dv123) (by simp only [List.getElem?_toArray, List.getElem?_cons_zero, List.getElem?_cons_succ]; rfl) (by kernel_rfl) (by kernel_rfl) (by kernel_rfl) (Or.inl ⟨by rfl, ?dy123⟩) ?dr123
            case dy123 => (intro w hSw; go_simp; exact Came.call ((would_any _ _ 5 2 ⟨_, _, hop, [2, 5]⟩ _ _ w hSw.2.2.2.2 hSw.2.2.2.1 (slice_sl _ _ _) false (would_off _ _ _ _ (.inl (by decide)))).mono fun e w' ⟨he, hf⟩ => ⟨he, hSw.fr hf⟩) (by with_reducible rfl))
            try simp only [Act.put, List.setIfInBounds_toArray, List.set_cons_zero, List.set_cons_succ]
            refine wpDet_take (i := 24) (oi := _) (v := ?dv124) (by simp only [List.getElem?_toArray, List.getElem?_cons_zero, List.getElem?_cons_succ]; rfl) (by kernel_rfl) (by kernel_rfl) (by kernel_rfl) (Or.inl ⟨by rfl, ?dy124⟩) ?dr124
            case dy124 => (intro w hSw; have hS0 := hSw; (try dsimp only [GFS] at hSw); go_simp; refine Came.value ?_ hS0; with_reducible rfl)
            try simp only [Act.put, List.setIfInBounds_toArray, List.set_cons_zero, List.set_cons_succ]
            refine wpDet_take (i := 25) (oi := _) (v := ?dv125) (by simp only [List.getElem?_toArray, List.getElem?_cons_zero, List.getElem?_cons_succ]; rfl) (by kernel_rfl) (by kernel_rfl) (by kernel_rfl) (Or.inl ⟨by rfl, ?dy125⟩) ?dr125
            case dy125 => (intro w hSw; have hS0 := hSw; (try dsimp only [GFS] at hSw); go_simp; refine Came.value ?_ hS0; with_reducible rfl)
            try simp only [Act.put, List.setIfInBounds_toArray, List.set_cons_zero, List.set_cons_succ]
            refine wpDet_take (i := 26) (oi := _) (v := ?dv126) (by simp only [List.getElem?_toArray, List.getElem?_cons_zero, List.getElem?_cons_succ]; rfl) (by kernel_rfl) (by kernel_rfl) (by kernel_rfl) (Or.inl ⟨by rfl, ?dy126⟩) ?dr126
            case dy126 => (intro w hSw; have hS0 := hSw; (try dsimp only [GFS] at hSw); go_simp; refine Came.value ?_ hS0; with_reducible rfl)
            try simp only [Act.put, List.setIfInBounds_toArray, List.set_cons_zero, List.set_cons_succ]
            refine wpDet_take (i := 27) (oi := _) (v := ?dv127) (by simp only [List.getElem?_toArray, List.getElem?_cons_zero, List.getElem?_cons_succ]; rfl) (by kernel_rfl) (by kernel_rfl) (by kernel_rfl) (Or.inl ⟨by rfl, ?dy127⟩) ?dr127
            case dy127 => (intro w hSw; have hS0 := hSw; (try dsimp only [GFS] at hSw); go_simp; refine Came.value ?_ hS0; with_reducible rfl)
            try simp only [Act.put, List.setIfInBounds_toArray, List.set_cons_zero, List.set_cons_succ]
            refine wpDet_take (i := 28) (oi := _) (v := ?dv128) (by simp only [List.getElem?_toArray, List.getElem?_cons_zero, List.getElem?_cons_succ]; rfl) (by kernel_rfl) (by kernel_rfl) (by kernel_rfl) (Or.inl ⟨by rfl, ?dy128⟩) ?dr128
            case dy128 => (intro w hSw; have hS0 := hSw; (try dsimp only [GFS] at hSw); go_simp; refine Came.value ?_ hS0; with_reducible rfl)
            try simp only [Act.put, List.setIfInBounds_toArray, List.set_cons_zero, List.set_cons_succ]
            refine wpDet_take (i := 29) (oi := _) (v := ?dv129) (by simp only [List.getElem?_toArray, List.getElem?_cons_zero, List.getElem?_cons_succ]; rfl) (by kernel_rfl) (by kernel_rfl) (by kernel_rfl) (Or.inl ⟨by rfl, ?dy129⟩) ?dr129
            case dy129 => (intro w hSw; go_simp; exact Came.call ((would_any _ _ 3 3 ⟨_, _, hop, [2, 5]⟩ _ _ w hSw.2.2.2.2 hSw.2.2.2.1 (slice_sl _ _ _) false (would_off _ _ _ _ (.inr (by simp)))).mono fun e w' ⟨he, hf⟩ => ⟨he, hSw.fr hf⟩) (by with_reducible rfl))
            try simp only [Act.put, List.setIfInBounds_toArray, List.set_cons_zero, List.set_cons_succ]
            refine wpDet_take (i := 30) (oi := _) (v := ?dv130) (by simp only [List.getElem?_toArray, List.getElem?_cons_zero, List.getElem?_cons_succ]; rfl) (by kernel_rfl) (by kernel_rfl) (by kernel_rfl) (Or.inl ⟨by rfl, ?dy130⟩) ?dr130
            case dy130 => (intro w hSw; have hS0 := hSw; (try dsimp only [GFS] at hSw); go_simp; refine Came.value ?_ hS0; with_reducible rfl)
            try simp only [Act.put, List.setIfInBounds_toArray, List.set_cons_zero, List.set_cons_succ]
            refine wpDet_take (i := 31) (oi := _) (v := ?dv131) (by simp only [List.getElem?_toArray, List.getElem?_cons_zero, List.getElem?_cons_succ]; rfl) (by kernel_rfl) (by kernel_rfl) (by kernel_rfl) (Or.inl ⟨by rfl, ?dy131⟩) ?dr131
            case dy131 => (intro w hSw; have hS0 := hSw; (try dsimp only [GFS] at hSw); go_simp; refine Came.value ?_ hS0; with_reducible rfl)
            try simp only [Act.put, List.setIfInBounds_toArray, List.set_cons_zero, List.set_cons_succ]
            refine wpDet_take (i := 32) (oi := _) (v := ?dv132) (by simp only [List.getElem?_toArray, List.getElem?_cons_zero, List.getElem?_cons_succ]; rfl) (by kernel_rfl) (by kernel_rfl) (by kernel_rfl) (Or.inl ⟨by rfl, ?dy132⟩) ?dr132
            case dy132 => (intro w hSw; have hS0 := hSw; (try dsimp only [GFS] at hSw); go_simp; refine Came.value ?_ hS0; with_reducible rfl)
            try simp only [Act.put, List.setIfInBounds_toArray, List.set_cons_zero, List.set_cons_succ]
            refine wpDet_done (by kernel_rfl) ?_ _
            rintro w7 ⟨hF, _⟩
            go_wp2
            go_ret
            exact ⟨rfl, hF.grown (by simp)⟩
        · have hdb : decide (M < b1) = false := by simp [hgtB]
          have hhas : fndB ⟨a1, a2, 0, M⟩ b1 b2 = false := by rw [fndB, allowsB, hokB, hdb]; rfl
          obtain ⟨y0, y1⟩ := row2 HXB4.out
          go_wp2_with fail
          refine (found_any w1.heap.size ⟨a1, a2, 0, M⟩ b1 b2 _ HG4.out false hhas).mono ?_
          rintro e w5 ⟨rfl, hg, hf⟩
          have HG5 := Lib.hid hg
          have HXA5 := Lib.hid (hf.heap HXA4.out (by simp; omega))
          have HXB5 := Lib.hid (hf.heap HXB4.out (by simp; omega))
          have HF5 := Lib.hid (HF4.out.new hf (by simp; omega))
          clear hf hg x0 x1 y0 y1
          obtain ⟨y0, y1⟩ := row2 HXB5.out
          go_wp2_with fail
          refine (HVB.out _).mono ?_
          rintro e w6 ⟨rfl, hf⟩
          have HG6 := Lib.hid (HG5.out.keep hf)
          have HXA6 := Lib.hid (hf.heap HXA5.out (by simp))
          have HXB6 := Lib.hid (hf.heap HXB5.out (by simp))
          have HF6 := Lib.hid (HF5.out.trans hf)
          clear hf y0 y1
          obtain ⟨x0, x1⟩ := row2 HXA6.out
          obtain ⟨y0, y1⟩ := row2 HXB6.out
          have hlt6 : w.heap.size < w6.heap.size ∧ w.heap.size + 1 < w6.heap.size := ⟨size_of_row HXA6.out, size_of_row HXB6.out⟩
          have hq := two_new (w6.alloc (.cells #[.int .i64 a1, .int .i64 a2] 25)) (.cells #[.int .i64 2, .int .i64 5] 3) (.cells #[.int .i64 a1, .int .i64 a2, .int .i64 hop, .slice (some ⟨w6.heap.size + 1, 0, none⟩) 2 2, .slice none 0 0] 29)
          rw [show (w6.alloc (.cells #[.int .i64 a1, .int .i64 a2] 25)).heap.size = w6.heap.size + 1 by simp] at hq
          have hfa := (Fr.alloc (w6.alloc (.cells #[.int .i64 a1, .int .i64 a2] 25)) (.cells #[.int .i64 2, .int .i64 5] 3) []).trans (Fr.alloc _ (.cells #[.int .i64 a1, .int .i64 a2, .int .i64 hop, .slice (some ⟨w6.heap.size + 1, 0, none⟩) 2 2, .slice none 0 0] 29) [])
          have HS := Lib.hid ((GFS.of (HF6.out.trans ((Fr.alloc w6 (.cells #[.int .i64 a1, .int .i64 a2] 25) []).trans hfa)) (hfa.heap (heap_alloc_new w6 (.cells #[.int .i64 a1, .int .i64 a2] 25)) (by simp)) hq.2 hq.1 (HG6.out.keep ((Fr.alloc w6 (.cells #[.int .i64 a1, .int .i64 a2] 25) []).trans hfa))).fr (Fr.drew _ []))
          have hw1 : wouldB ⟨a1, a2, 0, M⟩ 5 5 ⟨a1, a2, hop, [2, 5]⟩ = decide (0 < hop) := would_in a1 a2 M hop hokA hgtA
          have hsm := ep_same a1 a2 a1 a2
          rw [show decide (a1 = a1 ∧ a2 = a2) = true by simp] at hsm
          have HSM := Lib.hid hsm
          have HW1 := Lib.hid hw1
          clear hq hfa hw1 hsm
          go_wp2
          clear hlt6
          refine wp_region_det (S := GFS w w1.heap.size w6.heap.size a1 a2 M hop) (by kernel_rfl) HS.out ?_
          refine wpDet_take (i := 0) (oi := _) (v := ?dv133) (by simp only [List.getElem?_toArray, List.getElem?_cons_zero]; rfl) (by kernel_rfl) (by kernel_rfl) (by kernel_rfl) (Or.inl ⟨by rfl, ?dy133⟩) ?dr133
          case dy133 => (intro w hSw; have hS0 := hSw; (try dsimp only [GFS] at hSw); go_simp; refine Came.value ?_ hS0; with_reducible rfl)
          try simp only [Act.put, List.setIfInBounds_toArray, List.set_cons_zero, List.set_cons_succ]
          refine wpDet_take (i := 1) (oi := _) (v := ?dv134) (by simp only [List.getElem?_toArray, List.getElem?_cons_zero, List.getElem?_cons_succ]; rfl) (by kernel_rfl) (by kernel_rfl) (by kernel_rfl) (Or.inl ⟨by rfl, ?dy134⟩) ?dr134
          case dy134 => (intro w hSw; have hS0 := hSw; (try dsimp only [GFS] at hSw); go_simp; refine Came.value ?_ hS0; with_reducible rfl)
          try simp only [Act.put, List.setIfInBounds_toArray, List.set_cons_zero, List.set_cons_succ]
          refine wpDet_take (i := 2) (oi := _) (v := ?dv135) (by simp only [List.getElem?_toArray, List.getElem?_cons_zero, List.getElem?_cons_succ]; rfl) (by kernel_rfl) (by kernel_rfl) (by kernel_rfl) (Or.inl ⟨by rfl, ?dy135⟩) ?dr135
          case dy135 => (intro w hSw; have hS0 := hSw; (try dsimp only [GFS] at hSw); go_simp; refine Came.value ?_ hS0; with_reducible rfl)
          try simp only [Act.put, List.setIfInBounds_toArray, List.set_cons_zero, List.set_cons_succ]
          refine wpDet_take (i := 3) (oi := _) (v := ?dv136) (by simp only [List.getElem?_toArray, List.getElem?_cons_zero, List.getElem?_cons_succ]; rfl) (by kernel_rfl) (by kernel_rfl) (by kernel_rfl) (Or.inl ⟨by rfl, ?dy136⟩) ?dr136
          case dy136 => (intro w hSw; go_simp; exact Came.call ((epoch_any _ _ w hSw.2.2.2.2).mono fun e w' ⟨he, hf⟩ => ⟨he, hSw.fr hf⟩) (by with_reducible rfl))
          try simp only [Act.put, List.setIfInBounds_toArray, List.set_cons_zero, List.set_cons_succ]
          refine wpDet_take (i := 4) (oi := _) (v := ?dv137) (by simp only [List.getElem?_toArray, List.getElem?_cons_zero, List.getElem?_cons_succ]; rfl) (by kernel_rfl) (by kernel_rfl) (by kernel_rfl) (Or.inl ⟨by rfl, ?dy137⟩) ?dr137
          case dy137 => (intro w hSw; have hS0 := hSw; (try dsimp only [GFS] at hSw); go_simp; refine Came.value ?_ hS0; with_reducible rfl)
          try simp only [Act.put, List.setIfInBounds_toArray, List.set_cons_zero, List.set_cons_succ]
          refine wpDet_take (i := 5) (oi := _) (v := ?dv138) (by simp only [List.getElem?_toArray, List.getElem?_cons_zero, List.getElem?_cons_succ]; rfl) (by kernel_rfl) (by kernel_rfl) (by kernel_rfl) (Or.inl ⟨by rfl, ?dy138⟩) ?dr138
          case dy138 => (intro w hSw; go_simp; exact Came.call ((HSM.out w).mono fun e w' ⟨he, hf⟩ => ⟨he, hSw.fr hf⟩) (by with_reducible rfl))
          try simp only [Act.put, List.setIfInBounds_toArray, List.set_cons_zero, List.set_cons_succ]
          refine wpDet_take (i := 6) (oi := _) (v := ?dv139) (by simp only [List.getElem?_toArray, List.getElem?_cons_zero, List.getElem?_cons_succ]; rfl) (by kernel_rfl) (by kernel_rfl) (by kernel_rfl) (Or.inl ⟨by rfl, ?dy139⟩) ?dr139
          case dy139 => (intro w hSw; have hS0 := hSw; (try dsimp only [GFS] at hSw); go_simp; refine Came.value ?_ hS0; with_reducible rfl)
          try simp only [Act.put, List.setIfInBounds_toArray, List.set_cons_zero, List.set_cons_succ]
          refine wpDet_take (i := 7) (oi := _) (v := ?dv140) (by simp only [List.getElem?_toArray, List.getElem?_cons_zero, List.getElem?_cons_succ]; rfl) (by kernel_rfl) (by kernel_rfl) (by kernel_rfl) (Or.inl ⟨by rfl, ?dy140⟩) ?dr140
          case dy140 => (intro w hSw; have hS0 := hSw; (try dsimp only [GFS] at hSw); go_simp; refine Came.value ?_ hS0; with_reducible rfl)
          try simp only [Act.put, List.setIfInBounds_toArray, List.set_cons_zero, List.set_cons_succ]
          refine wpDet_take (i := 8) (oi := _) (v := ?dv141) (by simp only [List.getElem?_toArray, List.getElem?_cons_zero, List.getElem?_cons_succ]; rfl) (by kernel_rfl) (by kernel_rfl) (by kernel_rfl) (Or.inl ⟨by rfl, ?dy141⟩) ?dr141
          case dy141 => (intro w hSw; have hS0 := hSw; (try dsimp only [GFS] at hSw); go_simp; refine Came.value ?_ hS0; with_reducible rfl)
          try simp only [Act.put, List.setIfInBounds_toArray, List.set_cons_zero, List.set_cons_succ]
          refine wpDet_take (i := 9) (oi := _) (v := ?dv142) (by simp only [List.getElem?_toArray, List.getElem?_cons_zero, List.getElem?_cons_succ]; rfl) (by kernel_rfl) (by kernel_rfl) (by kernel_rfl) (Or.inl ⟨by rfl, ?dy142⟩) ?dr142
          case dy142 => (intro w hSw; go_simp; exact Came.call ((hop_any _ _ w hSw.2.2.2.2).mono fun e w' ⟨he, hw⟩ => ⟨he, hw ▸ hSw⟩) (by with_reducible rfl))
          try simp only [Act.put, List.setIfInBounds_toArray, List.set_cons_zero, List.set_cons_succ]
          refine wpDet_take (i := 10) (oi := _) (v := ?dv143) (by simp only [List.getElem?_toArray, List.getElem?_cons_zero, List.getElem?_cons_succ]; rfl) (by kernel_rfl) (by kernel_rfl) (by kernel_rfl) (Or.inl ⟨by rfl, ?dy143⟩) ?dr143
          case dy143 => (intro w hSw; have hS0 := hSw; (try dsimp only [GFS] at hSw); go_simp; refine Came.value ?_ hS0; with_reducible rfl)
          try simp only [Act.put, List.setIfInBounds_toArray, List.set_cons_zero, List.set_cons_succ]
          refine wpDet_take (i := 11) (oi := _) (v := ?dv144) (by simp only [List.getElem?_toArray, List.getElem?_cons_zero, List.getElem?_cons_succ]; rfl) (by kernel_rfl) (by kernel_rfl) (by kernel_rfl) (Or.inl ⟨by rfl, ?dy144⟩) ?dr144
          case dy144 => (intro w hSw; have hS0 := hSw; (try dsimp only [GFS] at hSw); go_simp; refine Came.value ?_ hS0; with_reducible rfl)
          try simp only [Act.put, List.setIfInBounds_toArray, List.set_cons_zero, List.set_cons_succ]
          refine wpDet_take (i := 12) (oi := _) (v := ?dv145) (by simp only [List.getElem?_toArray, List.getElem?_cons_zero, List.getElem?_cons_succ]; rfl) (by kernel_rfl) (by kernel_rfl) (by kernel_rfl) (Or.inl ⟨by rfl, ?dy145⟩) ?dr145
          case dy145 => (intro w hSw; have hS0 := hSw; (try dsimp only [GFS] at hSw); go_simp; refine Came.value ?_ hS0; with_reducible rfl)
          try simp only [Act.put, List.setIfInBounds_toArray, List.set_cons_zero, List.set_cons_succ]
          refine wpDet_take (i := 13) (oi := _) (v := ?dv146) (by simp only [List.getElem?_toArray, List.getElem?_cons_zero, List.getElem?_cons_succ]; rfl) (by kernel_rfl) (by kernel_rfl) (by kernel_rfl) (Or.inl ⟨by rfl, ?dy146⟩) ?dr146
          case dy146 => (intro w hSw; have hS0 := hSw; (try dsimp only [GFS] at hSw); go_simp; refine Came.value ?_ hS0; with_reducible rfl)
          try simp only [Act.put, List.setIfInBounds_toArray, List.set_cons_zero, List.set_cons_succ]
          refine wpDet_take (i := 14) (oi := _) (v := ?dv147) (by simp only [List.getElem?_toArray, List.getElem?_cons_zero, List.getElem?_cons_succ]; rfl) (by kernel_rfl) (by kernel_rfl) (by kernel_rfl) (Or.inl ⟨by rfl, ?dy147⟩) ?dr147
          case dy147 => (intro w hSw; have hS0 := hSw; (try dsimp only [GFS] at hSw); go_simp; refine Came.value ?_ hS0; with_reducible rfl)
          try simp only [Act.put, List.setIfInBounds_toArray, List.set_cons_zero, List.set_cons_succ]
          refine wpDet_take (i := 15) (oi := _) (v := ?dv148) (by simp only [List.getElem?_toArray, List.getElem?_cons_zero, List.getElem?_cons_succ]; rfl) (by kernel_rfl) (by kernel_rfl) (by kernel_rfl) (Or.inl ⟨by rfl, ?dy148⟩) ?dr148
          case dy148 => (intro w hSw; go_simp; exact Came.call ((would_any _ _ 5 5 ⟨_, _, hop, [2, 5]⟩ _ _ w hSw.2.2.2.2 hSw.2.2.2.1 (slice_sl _ _ _) _ HW1.out).mono fun e w' ⟨he, hf⟩ => ⟨he, hSw.fr hf⟩) (by with_reducible rfl))
          try simp only [Act.put, List.setIfInBounds_toArray, List.set_cons_zero, List.set_cons_succ]
          refine wpDet_take (i := 16) (oi := _) (v := ?dv149) (by simp only [List.getElem?_toArray, List.getElem?_cons_zero, List.getElem?_cons_succ]; rfl) (by kernel_rfl) (by kernel_rfl) (by kernel_rfl) (Or.inl ⟨by rfl, ?dy149⟩) ?dr149
          case dy149 => (intro w hSw; have hS0 := hSw; (try dsimp only [GFS] at hSw); go_simp; refine Came.value ?_ hS0; with_reducible rfl)
          try simp only [Act.put, List.setIfInBounds_toArray, List.set_cons_zero, List.set_cons_succ]
          refine wpDet_take (i := 17) (oi := _) (v := ?dv150) (by simp only [List.getElem?_toArray, List.getElem?_cons_zero, List.getElem?_cons_succ]; rfl) (by kernel_rfl) (by kernel_rfl) (by kernel_rfl) (Or.inl ⟨by rfl, ?dy150⟩) ?dr150
          case dy150 => (intro w hSw; have hS0 := hSw; (try dsimp only [GFS] at hSw); go_simp; refine Came.value ?_ hS0; with_reducible rfl)
          try simp only [Act.put, List.setIfInBounds_toArray, List.set_cons_zero, List.set_cons_succ]
          refine wpDet_take (i := 18) (oi := _) (v := ?dv151) (by simp only [List.getElem?_toArray, List.getElem?_cons_zero, List.getElem?_cons_succ]; rfl) (by kernel_rfl) (by kernel_rfl) (by kernel_rfl) (Or.inl ⟨by rfl, ?dy151⟩) ?dr151
          case dy151 => (intro w hSw; have hS0 := hSw; (try dsimp only [GFS] at hSw); go_simp; refine Came.value ?_ hS0; with_reducible rfl)
          try simp only [Act.put, List.setIfInBounds_toArray, List.set_cons_zero, List.set_cons_succ]
          refine wpDet_take (i := 19) (oi := _) (v := ?dv152) (by simp only [List.getElem?_toArray, List.getElem?_cons_zero, List.getElem?_cons_succ]; rfl) (by kernel_rfl) (by kernel_rfl) (by kernel_rfl) (Or.inl ⟨by rfl, ?dy152⟩) ?dr152
          case dy152 => (intro w hSw; have hS0 := hSw; (try dsimp only [GFS] at hSw); go_simp; refine Came.value ?_ hS0; with_reducible rfl)
          try simp only [Act.put, List.setIfInBounds_toArray, List.set_cons_zero, List.set_cons_succ]
          refine wpDet_take (i := 20) (oi := _) (v := ?dv153) (by simp only [List.getElem?_toArray, List.getElem?_cons_zero, List.getElem?_cons_succ]; rfl) (by kernel_rfl) (by kernel_rfl) (by kernel_rfl) (Or.inl ⟨by rfl, ?dy153⟩) ?dr153
          case dy153 => (intro w hSw; have hS0 := hSw; (try dsimp only [GFS] at hSw); go_simp; refine Came.value ?_ hS0; with_reducible rfl)
          try simp only [Act.put, List.setIfInBounds_toArray, List.set_cons_zero, List.set_cons_succ]
          refine wpDet_take (i := 21) (oi := _) (v := ?dv154) (by simp only [List.getElem?_toArray, List.getElem?_cons_zero, List.getElem?_cons_succ]; rfl) (by kernel_rfl) (by kernel_rfl) (by kernel_rfl) (Or.inl ⟨by rfl, ?dy154⟩) ?dr154
          case dy154 => (intro w hSw; have hS0 := hSw; (try dsimp only [GFS] at hSw); go_simp; refine Came.value ?_ hS0; with_reducible rfl)
          try simp only [Act.put, List.setIfInBounds_toArray, List.set_cons_zero, List.set_cons_succ]
          refine wpDet_take (i := 22) (oi := _) (v := ?dv155) (by simp only [List.getElem?_toArray, List.getElem?_cons_zero, List.getElem?_cons_succ]; rfl) (by kernel_rfl) (by kernel_rfl) (by kernel_rfl) (Or.inl ⟨by rfl, ?dy155⟩) ?dr155
          case dy155 => (intro w hSw; have hS0 := hSw; (try dsimp only [GFS] at hSw); go_simp; refine Came.value ?_ hS0; with_reducible rfl)
          try simp only [Act.put, List.setIfInBounds_toArray, List.set_cons_zero, List.set_cons_succ]
          refine wpDet_take (i := 23) (oi := _) (v := ?dv156) (by simp only [List.getElem?_toArray, List.getElem?_cons_zero, List.getElem?_cons_succ]; rfl) (by kernel_rfl) (by kernel_rfl) (by kernel_rfl) (Or.inl ⟨by rfl, ?dy156⟩) ?dr156
          case dy156 => (intro w hSw; go_simp; exact Came.call ((would_any _ _ 5 2 ⟨_, _, hop, [2, 5]⟩ _ _ w hSw.2.2.2.2 hSw.2.2.2.1 (slice_sl _ _ _) false (would_off _ _ _ _ (.inl (by decide)))).mono fun e w' ⟨he, hf⟩ => ⟨he, hSw.fr hf⟩) (by with_reducible rfl))
          try simp only [Act.put, List.setIfInBounds_toArray, List.set_cons_zero, List.set_cons_succ]
          refine wpDet_take (i := 24) (oi := _) (v := ?dv157) (by simp only [List.getElem?_toArray, List.getElem?_cons_zero, List.getElem?_cons_succ]; rfl) (by kernel_rfl) (by kernel_rfl) (by kernel_rfl) (Or.inl ⟨by rfl, ?dy157⟩) ?dr157
          case dy157 => (intro w hSw; have hS0 := hSw; (try dsimp only [GFS] at hSw); go_simp; refine Came.value ?_ hS0; with_reducible rfl)
          try simp only [Act.put, List.setIfInBounds_toArray, List.set_cons_zero, List.set_cons_succ]
          refine wpDet_take (i := 25) (oi := _) (v := ?dv158) (by simp only [List.getElem?_toArray, List.getElem?_cons_zero, List.getElem?_cons_succ]; rfl) (by kernel_rfl) (by kernel_rfl) (by kernel_rfl) (Or.inl ⟨by rfl, ?dy158⟩) ?dr158
          case dy158 => (intro w hSw; have hS0 := hSw; (try dsimp only [GFS] at hSw); go_simp; refine Came.value ?_ hS0; with_reducible rfl)
          try simp only [Act.put, List.setIfInBounds_toArray, List.set_cons_zero, List.set_cons_succ]
          refine wpDet_take (i := 26) (oi := _) (v := ?dv159) (by simp only [List.getElem?_toArray, List.getElem?_cons_zero, List.getElem?_cons_succ]; rfl) (by kernel_rfl) (by kernel_rfl) (by kernel_rfl) (Or.inl ⟨by rfl, ?dy159⟩) ?dr159
          case dy159 => (intro w hSw; have hS0 := hSw; (try dsimp only [GFS] at hSw); go_simp; refine Came.value ?_ hS0; with_reducible rfl)
          try simp only [Act.put, List.setIfInBounds_toArray, List.set_cons_zero, List.set_cons_succ]
          refine wpDet_take (i := 27) (oi := _) (v := ?dv160) (by simp only [List.getElem?_toArray, List.getElem?_cons_zero, List.getElem?_cons_succ]; rfl) (by kernel_rfl) (by kernel_rfl) (by kernel_rfl) (Or.inl ⟨by rfl, ?dy160⟩) ?dr160
          case dy160 => (intro w hSw; have hS0 := hSw; (try dsimp only [GFS] at hSw); go_simp; refine Came.value ?_ hS0; with_reducible rfl)
          try simp only [Act.put, List.setIfInBounds_toArray, List.set_cons_zero, List.set_cons_succ]
          refine wpDet_take (i := 28) (oi := _) (v := ?dv161) (by simp only [List.getElem?_toArray, List.getElem?_cons_zero, List.getElem?_cons_succ]; rfl) (by kernel_rfl) (by kernel_rfl) (by kernel_rfl) (Or.inl ⟨by rfl, ?dy161⟩) ?dr161
          case dy161 => (intro w hSw; have hS0 := hSw; (try dsimp only [GFS] at hSw); go_simp; refine Came.value ?_ hS0; with_reducible rfl)
          try simp only [Act.put, List.setIfInBounds_toArray, List.set_cons_zero, List.set_cons_succ]
          refine wpDet_take (i := 29) (oi := _) (v := ?dv162) (by simp only [List.getElem?_toArray, List.getElem?_cons_zero, List.getElem?_cons_succ]; rfl) (by kernel_rfl) (by kernel_rfl) (by kernel_rfl) (Or.inl ⟨by rfl, ?dy162⟩) ?dr162
          case dy162 => (intro w hSw; go_simp; exact Came.call ((would_any _ _ 3 3 ⟨_, _, hop, [2, 5]⟩ _ _ w hSw.2.2.2.2 hSw.2.2.2.1 (slice_sl _ _ _) false (would_off _ _ _ _ (.inr (by simp)))).mono fun e w' ⟨he, hf⟩ => ⟨he, hSw.fr hf⟩) (by with_reducible rfl))
          try simp only [Act.put, List.setIfInBounds_toArray, List.set_cons_zero, List.set_cons_succ]
          refine wpDet_take (i := 30) (oi := _) (v := ?dv163) (by simp only [List.getElem?_toArray, List.getElem?_cons_zero, List.getElem?_cons_succ]; rfl) (by kernel_rfl) (by kernel_rfl) (by kernel_rfl) (Or.inl ⟨by rfl, ?dy163⟩) ?dr163
          case dy163 => (intro w hSw; have hS0 := hSw; (try dsimp only [GFS] at hSw); go_simp; refine Came.value ?_ hS0; with_reducible rfl)
          try simp only [Act.put, List.setIfInBounds_toArray, List.set_cons_zero, List.set_cons_succ]
          refine wpDet_take (i := 31) (oi := _) (v := ?dv164) (by simp only [List.getElem?_toArray, List.getElem?_cons_zero, List.getElem?_cons_succ]; rfl) (by kernel_rfl) (by kernel_rfl) (by kernel_rfl) (Or.inl ⟨by rfl, ?dy164⟩) ?dr164
          case dy164 => (intro w hSw; have hS0 := hSw; (try dsimp only [GFS] at hSw); go_simp; refine Came.value ?_ hS0; with_reducible rfl)
          try simp only [Act.put, List.setIfInBounds_toArray, List.set_cons_zero, List.set_cons_succ]
          refine wpDet_take (i := 32) (oi := _) (v := ?dv165) (by simp only [List.getElem?_toArray, List.getElem?_cons_zero, List.getElem?_cons_succ]; rfl) (by kernel_rfl) (by kernel_rfl) (by kernel_rfl) (Or.inl ⟨by rfl, ?dy165⟩) ?dr165
          case dy165 => (intro w hSw; have hS0 := hSw; (try dsimp only [GFS] at hSw); go_simp; refine Came.value ?_ hS0; with_reducible rfl)
          try simp only [Act.put, List.setIfInBounds_toArray, List.set_cons_zero, List.set_cons_succ]
          refine wpDet_done (by kernel_rfl) ?_ _
          rintro w7 ⟨hF, _⟩
          go_wp2
          go_ret
          exact ⟨rfl, hF.grown (by simp)⟩
    · have hda : decide (M < a1) = false := by simp [hgtA]
      have his : fndB ⟨0, 0, 0, M⟩ a1 a2 = false := by rw [fndB, allowsB, hokA, hda]; rfl
      go_wp2_with fail
      refine (found_any w1.heap.size _ a1 a2 _ HG2.out false his).mono ?_
      rintro e w3 ⟨rfl, hg, hf⟩
      have HG3 := Lib.hid hg
      have HXA3 := Lib.hid (hf.heap HXA2.out (by simp; omega))
      have HXB3 := Lib.hid (hf.heap HXB2.out (by simp; omega))
      have HF3 := Lib.hid (HF2.out.new hf (by simp; omega))
      clear hf hg x0 x1
      obtain ⟨x0, x1⟩ := row2 HXA3.out
      go_wp2_with fail
      refine (HVA.out _).mono ?_
      rintro e w4 ⟨rfl, hf⟩
      have HG4 := Lib.hid (HG3.out.keep hf)
      have HXA4 := Lib.hid (hf.heap HXA3.out (by simp))
      have HXB4 := Lib.hid (hf.heap HXB3.out (by simp))
      have HF4 := Lib.hid (HF3.out.trans hf)
      clear hf x0 x1
      obtain ⟨x0, x1⟩ := row2 HXA4.out
      have hvb := ep_rvalid b1 b2
      cases hokB : epOk b1 b2 with
      | false =>
        rw [hokB] at hvb
        have HVB := Lib.hid hvb
        have hhas : fndB ⟨0, 0, 0, M⟩ b1 b2 = false := by rw [fndB, allowsB, hokB]; rfl
        obtain ⟨y0, y1⟩ := row2 HXB4.out
        go_wp2_with fail
        refine (found_any w1.heap.size ⟨0, 0, 0, M⟩ b1 b2 _ HG4.out false hhas).mono ?_
        rintro e w5 ⟨rfl, hg, hf⟩
        have HG5 := Lib.hid hg
        have HXA5 := Lib.hid (hf.heap HXA4.out (by simp; omega))
        have HXB5 := Lib.hid (hf.heap HXB4.out (by simp; omega))
        have HF5 := Lib.hid (HF4.out.new hf (by simp; omega))
        clear hf hg x0 x1 y0 y1
        obtain ⟨y0, y1⟩ := row2 HXB5.out
        go_wp2_with fail
        refine (HVB.out _).mono ?_
        rintro e w6 ⟨rfl, hf⟩
        have HG6 := Lib.hid (HG5.out.keep hf)
        have HXA6 := Lib.hid (hf.heap HXA5.out (by simp))
        have HXB6 := Lib.hid (hf.heap HXB5.out (by simp))
        have HF6 := Lib.hid (HF5.out.trans hf)
        clear hf y0 y1
        obtain ⟨x0, x1⟩ := row2 HXA6.out
        obtain ⟨y0, y1⟩ := row2 HXB6.out
        go_wp2_with fail
        refine (HVB.out _).mono ?_
        rintro e w7 ⟨rfl, hf⟩
        have HF7 := Lib.hid (HF6.out.trans hf)
        obtain ⟨z0, z1⟩ := row2 (hf.heap HXB6.out (by simp))
        clear hf x0 x1 y0 y1
        go_wp2
        go_ret
        exact ⟨rfl, HF7.out.grown (by simp)⟩
      | true =>
        rw [hokB] at hvb
        have HVB := Lib.hid hvb
        by_cases hgtB : M < b1
        · have hdb : decide (M < b1) = true := by simp [hgtB]
          have hhas : fndB ⟨0, 0, 0, M⟩ b1 b2 = true := by rw [fndB, allowsB, hokB, hdb, lt_none b1 b2 hokB]; rfl
          obtain ⟨y0, y1⟩ := row2 HXB4.out
          go_wp2_with fail
          refine (found_any w1.heap.size ⟨0, 0, 0, M⟩ b1 b2 _ HG4.out true hhas).mono ?_
          rintro e w5 ⟨rfl, hg, hf⟩
          have HG5 := Lib.hid hg
          have HXA5 := Lib.hid (hf.heap HXA4.out (by simp; omega))
          have HXB5 := Lib.hid (hf.heap HXB4.out (by simp; omega))
          have HF5 := Lib.hid (HF4.out.new hf (by simp; omega))
          clear hf hg x0 x1 y0 y1
          obtain ⟨y0, y1⟩ := row2 HXB5.out
          go_wp2_with fail
          refine (HVB.out _).mono ?_
          rintro e w6 ⟨rfl, hf⟩
          have HG6 := Lib.hid (HG5.out.keep hf)
          have HXA6 := Lib.hid (hf.heap HXA5.out (by simp))
          have HXB6 := Lib.hid (hf.heap HXB5.out (by simp))
          have HF6 := Lib.hid (HF5.out.trans hf)
          clear hf y0 y1
          obtain ⟨x0, x1⟩ := row2 HXA6.out
          obtain ⟨y0, y1⟩ := row2 HXB6.out
          have hlt6 : w.heap.size < w6.heap.size ∧ w.heap.size + 1 < w6.heap.size := ⟨size_of_row HXA6.out, size_of_row HXB6.out⟩
          have hq := two_new (w6.alloc (.cells #[.int .i64 b1, .int .i64 b2] 25)) (.cells #[.int .i64 2, .int .i64 5] 3) (.cells #[.int .i64 b1, .int .i64 b2, .int .i64 hop, .slice (some ⟨w6.heap.size + 1, 0, none⟩) 2 2, .slice none 0 0] 29)
          rw [show (w6.alloc (.cells #[.int .i64 b1, .int .i64 b2] 25)).heap.size = w6.heap.size + 1 by simp] at hq
          have hfa := (Fr.alloc (w6.alloc (.cells #[.int .i64 b1, .int .i64 b2] 25)) (.cells #[.int .i64 2, .int .i64 5] 3) []).trans (Fr.alloc _ (.cells #[.int .i64 b1, .int .i64 b2, .int .i64 hop, .slice (some ⟨w6.heap.size + 1, 0, none⟩) 2 2, .slice none 0 0] 29) [])
          have HS := Lib.hid ((GFS.of (HF6.out.trans ((Fr.alloc w6 (.cells #[.int .i64 b1, .int .i64 b2] 25) []).trans hfa)) (hfa.heap (heap_alloc_new w6 (.cells #[.int .i64 b1, .int .i64 b2] 25)) (by simp)) hq.2 hq.1 (HG6.out.keep ((Fr.alloc w6 (.cells #[.int .i64 b1, .int .i64 b2] 25) []).trans hfa))).fr (Fr.drew _ []))
          have hw1 : wouldB ⟨b1, b2, 0, M⟩ 5 5 ⟨b1, b2, hop, [2, 5]⟩ = decide (0 < hop) := would_in b1 b2 M hop hokB hgtB
          have hsm := ep_same b1 b2 b1 b2
          rw [show decide (b1 = b1 ∧ b2 = b2) = true by simp] at hsm
          have HSM := Lib.hid hsm
          have HW1 := Lib.hid hw1
          clear hq hfa hw1 hsm
          go_wp2
          clear hlt6
          refine wp_region_det (S := GFS w w1.heap.size w6.heap.size b1 b2 M hop) (by kernel_rfl) HS.out ?_
          refine wpDet_take (i := 0) (oi := _) (v := ?dv166) (by simp only [List.getElem?_toArray, List.getElem?_cons_zero]; rfl) (by kernel_rfl) (by kernel_rfl) (by kernel_rfl) (Or.inl ⟨by rfl, ?dy166⟩) ?dr166
          case dy166 => (intro w hSw; have hS0 := hSw; (try dsimp only [GFS] at hSw); go_simp; refine Came.value ?_ hS0; with_reducible rfl)
          try simp only [Act.put, List.setIfInBounds_toArray, List.set_cons_zero, List.set_cons_succ]
          refine wpDet_take (i := 1) (oi := _) (v := ?dv167) (by simp only [List.getElem?_toArray, List.getElem?_cons_zero, List.getElem?_cons_succ]; rfl) (by kernel_rfl) (by kernel_rfl) (by kernel_rfl) (Or.inl ⟨by rfl, ?dy167⟩) ?dr167
          case dy167 => (intro w hSw; have hS0 := hSw; (try dsimp only [GFS] at hSw); go_simp; refine Came.value ?_ hS0; with_reducible rfl)
          try simp only [Act.put, List.setIfInBounds_toArray, List.set_cons_zero, List.set_cons_succ]
          refine wpDet_take (i := 2) (oi := _) (v := ?dv168) (by simp only [List.getElem?_toArray, List.getElem?_cons_zero, List.getElem?_cons_succ]; rfl) (by kernel_rfl) (by kernel_rfl) (by kernel_rfl) (Or.inl ⟨by rfl, ?dy168⟩) ?dr168
          case dy168 => (intro w hSw; have hS0 := hSw; (try dsimp only [GFS] at hSw); go_simp; refine Came.value ?_ hS0; with_reducible rfl)
          try simp only [Act.put, List.setIfInBounds_toArray, List.set_cons_zero, List.set_cons_succ]
          refine wpDet_take (i := 3) (oi := _) (v := ?dv169) (by simp only [List.getElem?_toArray, List.getElem?_cons_zero, List.getElem?_cons_succ]; rfl) (by kernel_rfl) (by kernel_rfl) (by kernel_rfl) (Or.inl ⟨by rfl, ?dy169⟩) ?dr169
          case dy169 => (intro w hSw; go_simp; exact Came.call ((epoch_any _ _ w hSw.2.2.2.2).mono fun e w' ⟨he, hf⟩ => ⟨he, hSw.fr hf⟩) (by with_reducible rfl))
          try simp only [Act.put, List.setIfInBounds_toArray, List.set_cons_zero, List.set_cons_succ]
          refine wpDet_take (i := 4) (oi := _) (v := ?dv170) (by simp only [List.getElem?_toArray, List.getElem?_cons_zero, List.getElem?_cons_succ]; rfl) (by kernel_rfl) (by kernel_rfl) (by kernel_rfl) (Or.inl ⟨by rfl, ?dy170⟩) ?dr170
          case dy170 => (intro w hSw; have hS0 := hSw; (try dsimp only [GFS] at hSw); go_simp; refine Came.value ?_ hS0; with_reducible rfl)
          try simp only [Act.put, List.setIfInBounds_toArray, List.set_cons_zero, List.set_cons_succ]
          refine wpDet_take (i := 5) (oi := _) (v := ?dv171) (by simp only [List.getElem?_toArray, List.getElem?_cons_zero, List.getElem?_cons_succ]; rfl) (by kernel_rfl) (by kernel_rfl) (by kernel_rfl) (Or.inl ⟨by rfl, ?dy171⟩) ?dr171
          case dy171 => (intro w hSw; go_simp; exact Came.call ((HSM.out w).mono fun e w' ⟨he, hf⟩ => ⟨he, hSw.fr hf⟩) (by with_reducible rfl))
          try simp only [Act.put, List.setIfInBounds_toArray, List.set_cons_zero, List.set_cons_succ]
          refine wpDet_take (i := 6) (oi := _) (v := ?dv172) (by simp only [List.getElem?_toArray, List.getElem?_cons_zero, List.getElem?_cons_succ]; rfl) (by kernel_rfl) (by kernel_rfl) (by kernel_rfl) (Or.inl ⟨by rfl, ?dy172⟩) ?dr172
          case dy172 => (intro w hSw; have hS0 := hSw; (try dsimp only [GFS] at hSw); go_simp; refine Came.value ?_ hS0; with_reducible rfl)
          try simp only [Act.put, List.setIfInBounds_toArray, List.set_cons_zero, List.set_cons_succ]
          refine wpDet_take (i := 7) (oi := _) (v := ?dv173) (by simp only [List.getElem?_toArray, List.getElem?_cons_zero, List.getElem?_cons_succ]; rfl) (by kernel_rfl) (by kernel_rfl) (by kernel_rfl) (Or.inl ⟨by rfl, ?dy173⟩) ?dr173
          case dy173 => (intro w hSw; have hS0 := hSw; (try dsimp only [GFS] at hSw); go_simp; refine Came.value ?_ hS0; with_reducible rfl)
          try simp only [Act.put, List.setIfInBounds_toArray, List.set_cons_zero, List.set_cons_succ]
          refine wpDet_take (i := 8) (oi := _) (v := ?dv174) (by simp only [List.getElem?_toArray, List.getElem?_cons_zero, List.getElem?_cons_succ]; rfl) (by kernel_rfl) (by kernel_rfl) (by kernel_rfl) (Or.inl ⟨by rfl, ?dy174⟩) ?dr174
          case dy174 => (intro w hSw; have hS0 := hSw; (try dsimp only [GFS] at hSw); go_simp; refine Came.value ?_ hS0; with_reducible rfl)
          try simp only [Act.put, List.setIfInBounds_toArray, List.set_cons_zero, List.set_cons_succ]
          refine wpDet_take (i := 9) (oi := _) (v := ?dv175) (by simp only [List.getElem?_toArray, List.getElem?_cons_zero, List.getElem?_cons_succ]; rfl) (by kernel_rfl) (by kernel_rfl) (by kernel_rfl) (Or.inl ⟨by rfl, ?dy175⟩) ?dr175
          case dy175 => (intro w hSw; go_simp; exact Came.call ((hop_any _ _ w hSw.2.2.2.2).mono fun e w' ⟨he, hw⟩ => ⟨he, hw ▸ hSw⟩) (by with_reducible rfl))
          try simp only [Act.put, List.setIfInBounds_toArray, List.set_cons_zero, List.set_cons_succ]
          refine wpDet_take (i := 10) (oi := _) (v := ?dv176) (by simp only [List.getElem?_toArray, List.getElem?_cons_zero, List.getElem?_cons_succ]; rfl) (by kernel_rfl) (by kernel_rfl) (by kernel_rfl) (Or.inl ⟨by rfl, ?dy176⟩) ?dr176
          case dy176 => (intro w hSw; have hS0 := hSw; (try dsimp only [GFS] at hSw); go_simp; refine Came.value ?_ hS0; with_reducible rfl)
          try simp only [Act.put, List.setIfInBounds_toArray, List.set_cons_zero, List.set_cons_succ]
          refine wpDet_take (i := 11) (oi := _) (v := ?dv177) (by simp only [List.getElem?_toArray, List.getElem?_cons_zero, List.getElem?_cons_succ]; rfl) (by kernel_rfl) (by kernel_rfl) (by kernel_rfl) (Or.inl ⟨by rfl, ?dy177⟩) ?dr177
          case dy177 => (intro w hSw; have hS0 := hSw; (try dsimp only [GFS] at hSw); go_simp; refine Came.value ?_ hS0; with_reducible rfl)
          try simp only [Act.put, List.setIfInBounds_toArray, List.set_cons_zero, List.set_cons_succ]
          refine wpDet_take (i := 12) (oi := _) (v := ?dv178) (by simp only [List.getElem?_toArray, List.getElem?_cons_zero, List.getElem?_cons_succ]; rfl) (by kernel_rfl) (by kernel_rfl) (by kernel_rfl) (Or.inl ⟨by rfl, ?dy178⟩) ?dr178
          case dy178 => (intro w hSw; have hS0 := hSw; (try dsimp only [GFS] at hSw); go_simp; refine Came.value ?_ hS0; with_reducible rfl)
          try simp only [Act.put, List.setIfInBounds_toArray, List.set_cons_zero, List.set_cons_succ]
          refine wpDet_take (i := 13) (oi := _) (v := ?dv179) (by simp only [List.getElem?_toArray, List.getElem?_cons_zero, List.getElem?_cons_succ]; rfl) (by kernel_rfl) (by kernel_rfl) (by kernel_rfl) (Or.inl ⟨by rfl, ?dy179⟩) ?dr179
          case dy179 => (intro w hSw; have hS0 := hSw; (try dsimp only [GFS] at hSw); go_simp; refine Came.value ?_ hS0; with_reducible rfl)
          try simp only [Act.put, List.setIfInBounds_toArray, List.set_cons_zero, List.set_cons_succ]
          refine wpDet_take (i := 14) (oi := _) (v := ?dv180) (by simp only [List.getElem?_toArray, List.getElem?_cons_zero, List.getElem?_cons_succ]; rfl) (by kernel_rfl) (by kernel_rfl) (by kernel_rfl) (Or.inl ⟨by rfl, ?dy180⟩) ?dr180
          case dy180 => (intro w hSw; have hS0 := hSw; (try dsimp only [GFS] at hSw); go_simp; refine Came.value ?_ hS0; with_reducible rfl)
          try simp only [Act.put, List.setIfInBounds_toArray, List.set_cons_zero, List.set_cons_succ]
          refine wpDet_take (i := 15) (oi := _) (v := ?dv181) (by simp only [List.getElem?_toArray, List.getElem?_cons_zero, List.getElem?_cons_succ]; rfl) (by kernel_rfl) (by kernel_rfl) (by kernel_rfl) (Or.inl ⟨by rfl, ?dy181⟩) ?dr181
          case dy181 => (intro w hSw; go_simp; exact Came.call ((would_any _ _ 5 5 ⟨_, _, hop, [2, 5]⟩ _ _ w hSw.2.2.2.2 hSw.2.2.2.1 (slice_sl _ _ _) _ HW1.out).mono fun e w' ⟨he, hf⟩ => ⟨he, hSw.fr hf⟩) (by with_reducible rfl))
          try simp only [Act.put, List.setIfInBounds_toArray, List.set_cons_zero, List.set_cons_succ]
          refine wpDet_take (i := 16) (oi := _) (v := ?dv182) (by simp only [List.getElem?_toArray, List.getElem?_cons_zero, List.getElem?_cons_succ]; rfl) (by kernel_rfl) (by kernel_rfl) (by kernel_rfl) (Or.inl ⟨by rfl, ?dy182⟩) ?dr182
          case dy182 => (intro w hSw; have hS0 := hSw; (try dsimp only [GFS] at hSw); go_simp; refine Came.value ?_ hS0; with_reducible rfl)
          try simp only [Act.put, List.setIfInBounds_toArray, List.set_cons_zero, List.set_cons_succ]
          refine wpDet_take (i := 17) (oi := _) (v := ?dv183) (by simp only [List.getElem?_toArray, List.getElem?_cons_zero, List.getElem?_cons_succ]; rfl) (by kernel_rfl) (by kernel_rfl) (by kernel_rfl) (Or.inl ⟨by rfl, ?dy183⟩) ?dr183
          case dy183 => (intro w hSw; have hS0 := hSw; (try dsimp only [GFS] at hSw); go_simp; refine Came.value ?_ hS0; with_reducible rfl)
          try simp only [Act.put, List.setIfInBounds_toArray, List.set_cons_zero, List.set_cons_succ]
          refine wpDet_take (i := 18) (oi := _) (v := ?dv184) (by simp only [List.getElem?_toArray, List.getElem?_cons_zero, List.getElem?_cons_succ]; rfl) (by kernel_rfl) (by kernel_rfl) (by kernel_rfl) (Or.inl ⟨by rfl, ?dy184⟩) ?dr184
          case dy184 => (intro w hSw; have hS0 := hSw; (try dsimp only [GFS] at hSw); go_simp; refine Came.value ?_ hS0; with_reducible rfl)
          try simp only [Act.put, List.setIfInBounds_toArray, List.set_cons_zero, List.set_cons_succ]
          refine wpDet_take (i := 19) (oi := _) (v := ?dv185) (by simp only [List.getElem?_toArray, List.getElem?_cons_zero, List.getElem?_cons_succ]; rfl) (by kernel_rfl) (by kernel_rfl) (by kernel_rfl) (Or.inl ⟨by rfl, ?dy185⟩) ?dr185
          case dy185 => (intro w hSw; have hS0 := hSw; (try dsimp only [GFS] at hSw); go_simp; refine Came.value ?_ hS0; with_reducible rfl)
          try simp only [Act.put, List.setIfInBounds_toArray, List.set_cons_zero, List.set_cons_succ]
          refine wpDet_take (i := 20) (oi := _) (v := ?dv186) (by simp only [List.getElem?_toArray, List.getElem?_cons_zero, List.getElem?_cons_succ]; rfl) (by kernel_rfl) (by kernel_rfl) (by kernel_rfl) (Or.inl ⟨by rfl, ?dy186⟩) ?dr186
          case dy186 => (intro w hSw; have hS0 := hSw; (try dsimp only [GFS] at hSw); go_simp; refine Came.value ?_ hS0; with_reducible rfl)
          try simp only [Act.put, List.setIfInBounds_toArray, List.set_cons_zero, List.set_cons_succ]
          refine wpDet_take (i := 21) (oi := _) (v := ?dv187) (by simp only [List.getElem?_toArray, List.getElem?_cons_zero, List.getElem?_cons_succ]; rfl) (by kernel_rfl) (by kernel_rfl) (by kernel_rfl) (Or.inl ⟨by rfl, ?dy187⟩) ?dr187
          case dy187 => (intro w hSw; have hS0 := hSw; (try dsimp only [GFS] at hSw); go_simp; refine Came.value ?_ hS0; with_reducible rfl)
          try simp only [Act.put, List.setIfInBounds_toArray, List.set_cons_zero, List.set_cons_succ]
          refine wpDet_take (i := 22) (oi := _) (v := ?dv188) (by simp only [List.getElem?_toArray, List.getElem?_cons_zero, List.getElem?_cons_succ]; rfl) (by kernel_rfl) (by kernel_rfl) (by kernel_rfl) (Or.inl ⟨by rfl, ?dy188⟩) ?dr188
          case dy188 => (intro w hSw; have hS0 := hSw; (try dsimp only [GFS] at hSw); go_simp; refine Came.value ?_ hS0; with_reducible rfl)
          try simp only [Act.put, List.setIfInBounds_toArray, List.set_cons_zero, List.set_cons_succ]
          refine wpDet_take (i := 23) (oi := _) (v := ?dv189) (by simp only [List.getElem?_toArray, List.getElem?_cons_zero, List.getElem?_cons_succ]; rfl) (by kernel_rfl) (by kernel_rfl) (by kernel_rfl) (Or.inl ⟨by rfl, ?dy189⟩) ?dr189
          case dy189 => (intro w hSw; go_simp; exact Came.call ((would_any _ _ 5 2 ⟨_, _, hop, [2, 5]⟩ _ _ w hSw.2.2.2.2 hSw.2.2.2.1 (slice_sl _ _ _) false (would_off _ _ _ _ (.inl (by decide)))).mono fun e w' ⟨he, hf⟩ => ⟨he, hSw.fr hf⟩) (by with_reducible rfl))
          try simp only [Act.put, List.setIfInBounds_toArray, List.set_cons_zero, List.set_cons_succ]
          refine wpDet_take (i := 24) (oi := _) (v := ?dv190) (by simp only [List.getElem?_toArray, List.getElem?_cons_zero, List.getElem?_cons_succ]; rfl) (by kernel_rfl) (by kernel_rfl) (by kernel_rfl) (Or.inl ⟨by rfl, ?dy190⟩) ?dr190
          case dy190 => (intro w hSw; have hS0 := hSw; (try dsimp only [GFS] at hSw); go_simp; refine Came.value ?_ hS0; with_reducible rfl)
          try simp only [Act.put, List.setIfInBounds_toArray, List.set_cons_zero, List.set_cons_succ]
          refine wpDet_take (i := 25) (oi := _) (v := ?dv191) (by simp only [List.getElem?_toArray, List.getElem?_cons_zero, List.getElem?_cons_succ]; rfl) (by kernel_rfl) (by kernel_rfl) (by kernel_rfl) (Or.inl ⟨by rfl, ?dy191⟩) ?dr191
          case dy191 => (intro w hSw; have hS0 := hSw; (try dsimp only [GFS] at hSw); go_simp; refine Came.value ?_ hS0; with_reducible rfl)
          try simp only [Act.put, List.setIfInBounds_toArray, List.set_cons_zero, List.set_cons_succ]
          refine wpDet_take (i := 26) (oi := _) (v := ?dv192) (by simp only [List.getElem?_toArray, List.getElem?_cons_zero, List.getElem?_cons_succ]; rfl) (by kernel_rfl) (by kernel_rfl) (by kernel_rfl) (Or.inl ⟨by rfl, ?dy192⟩) ?dr192
          case dy192 => (intro w hSw; have hS0 := hSw; (try dsimp only [GFS] at hSw); go_simp; refine Came.value ?_ hS0; with_reducible rfl)
          try simp only [Act.put, List.setIfInBounds_toArray, List.set_cons_zero, List.set_cons_succ]
          refine wpDet_take (i := 27) (oi := _) (v := ?dv193) (by simp only [List.getElem?_toArray, List.getElem?_cons_zero, List.getElem?_cons_succ]; rfl) (by kernel_rfl) (by kernel_rfl) (by kernel_rfl) (Or.inl ⟨by rfl, ?dy193⟩) ?dr193
          case dy193 => (intro w hSw; have hS0 := hSw; (try dsimp only [GFS] at hSw); go_simp; refine Came.value ?_ hS0; with_reducible rfl)
          try simp only [Act.put, List.setIfInBounds_toArray, List.set_cons_zero, List.set_cons_succ]
          refine wpDet_take (i := 28) (oi := _) (v := ?dv194) (by simp only [List.getElem?_toArray, List.getElem?_cons_zero, List.getElem?_cons_succ]; rfl) (by kernel_rfl) (by kernel_rfl) (by kernel_rfl) (Or.inl ⟨by rfl, ?dy194⟩) ?dr194
          case dy194 => (intro w hSw; have hS0 := hSw; (try dsimp only [GFS] at hSw); go_simp; refine Came.value ?_ hS0; with_reducible rfl)
          try simp only [Act.put, List.setIfInBounds_toArray, List.set_cons_zero, List.set_cons_succ]
          refine wpDet_take (i := 29) (oi := _) (v := ?dv195) (by simp only [List.getElem?_toArray, List.getElem?_cons_zero, List.getElem?_cons_succ]; rfl) (by kernel_rfl) (by kernel_rfl) (by kernel_rfl) (Or.inl ⟨by rfl, ?dy195⟩) ?dr195
          case dy195 => (intro w hSw; go_simp; exact Came.call ((would_any _ _ 3 3 ⟨_, _, hop, [2, 5]⟩ _ _ w hSw.2.2.2.2 hSw.2.2.2.1 (slice_sl _ _ _) false (would_off _ _ _ _ (.inr (by simp)))).mono fun e w' ⟨he, hf⟩ => ⟨he, hSw.fr hf⟩) (by with_reducible rfl))
          try simp only [Act.put, List.setIfInBounds_toArray, List.set_cons_zero, List.set_cons_succ]
          refine wpDet_take (i := 30) (oi := _) (v := ?dv196) (by simp only [List.getElem?_toArray, List.getElem?_cons_zero, List.getElem?_cons_succ]; rfl) (by kernel_rfl) (by kernel_rfl) (by kernel_rfl) (Or.inl ⟨by rfl, ?dy196⟩) ?dr196
          case dy196 => (intro w hSw; have hS0 := hSw; (try dsimp only [GFS] at hSw); go_simp; refine Came.value ?_ hS0; with_reducible rfl)
          try simp only [Act.put, List.setIfInBounds_toArray, List.set_cons_zero, List.set_cons_succ]
          refine wpDet_take (i := 31) (oi := _) (v := ?dv197) (by simp only [List.getElem?_toArray, List.getElem?_cons_zero, List.getElem?_cons_succ]; rfl) (by kernel_rfl) (by kernel_rfl) (by kernel_rfl) (Or.inl ⟨by rfl, ?dy197⟩) ?dr197
          case dy197 => (intro w hSw; have hS0 := hSw; (try dsimp only [GFS] at hSw); go_simp; refine Came.value ?_ hS0; with_reducible rfl)
          try simp only [Act.put, List.setIfInBounds_toArray, List.set_cons_zero, List.set_cons_succ]
          refine wpDet_take (i := 32) (oi := _) (v := ?dv198) (by simp only [List.getElem?_toArray, List.getElem?_cons_zero, List.getElem?_cons_succ]; rfl) (by kernel_rfl) (by kernel_rfl) (by kernel_rfl) (Or.inl ⟨by rfl, ?dy198⟩) ?dr198
          case dy198 => (intro w hSw; have hS0 := hSw; (try dsimp only [GFS] at hSw); go_simp; refine Came.value ?_ hS0; with_reducible rfl)
          try simp only [Act.put, List.setIfInBounds_toArray, List.set_cons_zero, List.set_cons_succ]
          refine wpDet_done (by kernel_rfl) ?_ _
          rintro w7 ⟨hF, _⟩
          go_wp2
          go_ret
          exact ⟨rfl, hF.grown (by simp)⟩
        · have hdb : decide (M < b1) = false := by simp [hgtB]
          have hhas : fndB ⟨0, 0, 0, M⟩ b1 b2 = false := by rw [fndB, allowsB, hokB, hdb]; rfl
          obtain ⟨y0, y1⟩ := row2 HXB4.out
          go_wp2_with fail
          refine (found_any w1.heap.size ⟨0, 0, 0, M⟩ b1 b2 _ HG4.out false hhas).mono ?_
          rintro e w5 ⟨rfl, hg, hf⟩
          have HG5 := Lib.hid hg
          have HXA5 := Lib.hid (hf.heap HXA4.out (by simp; omega))
          have HXB5 := Lib.hid (hf.heap HXB4.out (by simp; omega))
          have HF5 := Lib.hid (HF4.out.new hf (by simp; omega))
          clear hf hg x0 x1 y0 y1
          obtain ⟨y0, y1⟩ := row2 HXB5.out
          go_wp2_with fail
          refine (HVB.out _).mono ?_
          rintro e w6 ⟨rfl, hf⟩
          have HG6 := Lib.hid (HG5.out.keep hf)
          have HXA6 := Lib.hid (hf.heap HXA5.out (by simp))
          have HXB6 := Lib.hid (hf.heap HXB5.out (by simp))
          have HF6 := Lib.hid (HF5.out.trans hf)
          clear hf y0 y1
          obtain ⟨x0, x1⟩ := row2 HXA6.out
          obtain ⟨y0, y1⟩ := row2 HXB6.out
          go_wp2_with fail
          refine (HVB.out _).mono ?_
          rintro e w7 ⟨rfl, hf⟩
          have HF7 := Lib.hid (HF6.out.trans hf)
          obtain ⟨z0, z1⟩ := row2 (hf.heap HXB6.out (by simp))
          clear hf x0 x1 y0 y1
          go_wp2
          go_ret
          exact ⟨rfl, HF7.out.grown (by simp)⟩
end Go.Proofs.Ytlkpgpiklfbacaa
