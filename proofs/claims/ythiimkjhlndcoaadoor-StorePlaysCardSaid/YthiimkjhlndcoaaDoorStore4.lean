/- Package store: Open. -/
import Derived.Test.YthiimkjhlndcoaaDoorStore3
import Derived.Deep.RegionHeld3
import Derived.Deep.DeepCutAuto
import Derived.Deep.CutBlock
namespace Go.Proofs.YthiimkjhlndcoaaDoor
open Go.RowKit

/-- The store at block sp, its cell at block p. -/
def Sr (w : World) (sp p : Nat) (R : SR) : Prop :=
  w.heap[sp]? = some (.cells #[.pointer (some ⟨p, 0, none⟩), .int .i64 R.c, .int .i64 R.n, .int .i64 R.k] 69 (0, 0))
theorem Sr.fr {w w' : World} {sp p : Nat} {R : SR} {S : List Nat} (h : Sr w sp p R) (hf : Fr w w' S) (hp : sp ∉ S) : Sr w' sp p R := hf.heap h hp
theorem Sr.lt {w : World} {sp p : Nat} {R : SR} (h : Sr w sp p R) : sp < w.heap.size := (Array.getElem?_eq_some_iff.1 h).1
theorem Sr.cells {w : World} {sp p : Nat} {R : SR} (h : Sr w sp p R) : w.cell? ⟨sp, 0, none⟩ = some (.pointer (some ⟨p, 0, none⟩)) ∧ w.cell? ⟨sp, 1, none⟩ = some (.int .i64 R.c) ∧ w.cell? ⟨sp, 2, none⟩ = some (.int .i64 R.n) ∧ w.cell? ⟨sp, 3, none⟩ = some (.int .i64 R.k) := by
  refine ⟨?_, ?_, ?_, ?_⟩ <;> (rw [cell_of_row w sp _ _ _ _ h]; rfl)
theorem Sr.frozen {w : World} {sp p : Nat} {R : SR} (h : Sr w sp p R) (j : Nat) : w.frozen? ⟨sp, j, none⟩ = false := frozen_of_row w sp j _ _ h
/-- The record is written. -/
theorem Sr.wr {w : World} {sp p : Nat} {R : SR} (h : Sr w sp p R) (c n k : Int) : Sr (((w.setCell ⟨sp, 1, none⟩ (.int .i64 c)).setCell ⟨sp, 2, none⟩ (.int .i64 n)).setCell ⟨sp, 3, none⟩ (.int .i64 k)) sp p ⟨c, n, k⟩ := by
  have h1 := heap_setCell_same w sp 1 _ _ (Value.int .i64 c) h
  have h2 := heap_setCell_same _ sp 2 _ _ (Value.int .i64 n) h1
  have h3 := heap_setCell_same _ sp 3 _ _ (Value.int .i64 k) h2
  unfold Sr; rw [h3]; simp

/-- A store that is new, of the cell at p. -/
def NewSr (w : World) (p : Nat) (R : SR) (u : Value) (w' : World) : Prop := ∃ sp, u = .tuple #[.pointer (some ⟨sp, 0, none⟩), .nilIface] ∧ Sr w' sp p R ∧ w.heap.size ≤ sp ∧ Fr w w' []
/-- What was found behind k slots. -/
def foundAt (l : List Int) : Nat → SR | 0 => SR.none | k + 1 => (foundAt l k).step l k
theorem foundAt_in {l : List Int} (hl : By8 l) : ∀ k, k ≤ 2 → (foundAt l k).in
  | 0, _ => SR.none_in
  | k + 1, h => SR.step_in (foundAt_in hl k (by omega)) hl k (by omega)

set_option maxHeartbeats 4000000 in
set_option maxRecDepth 100000 in
theorem open_any {is : List Nat} (p g : Nat) (s : CS) (w : World) (A : Nat → Addr) (B : Nat) (h : Cl w p g s) (hd : s.d = false) (hlen : 26 ≤ s.l.length) (hb : By8 s.l) (hE : EV is w A B) (hB : B ≤ w.heap.size) (hs : ∀ i ∈ [4, 5], i ∈ is := by decide) :
    Calls Tryd.prog 13 #[.pointer (some ⟨p, 0, none⟩)] w (Gives (NewSr w p (openOf s.l))) := by
  have hsz := cellSize_any p g s w h
  have hlt := h.lt
  have ho := h.2.2
  obtain ⟨L, hL⟩ : ∃ L, L = s.l.length := ⟨_, rfl⟩
  rw [← hL] at hsz
  have hL1 : 26 ≤ L := by omega
  have hL2 : L ≤ 4096 := by have := ho.2.1; omega
  have H := Lib.hid h
  have HE := Lib.hid hE
  have HD := Lib.hid hd
  have HLEN := Lib.hid hlen
  have HB := Lib.hid hb
  have HSZ := Lib.hid hsz
  have HLT := Lib.hid hlt
  clear h hE hd hlen hb hsz hlt ho hL
  go_enter Tryd.func13, Tryd.ntmps13
  go_wp2_with fail
  refine HSZ.out.mono ?_
  rintro e w0 ⟨rfl, rfl⟩
  go_wp2
  generalize hW1 : World.alloc w _ = W1
  have hs1 : Sr W1 w.heap.size p (foundAt s.l 0) := by rw [← hW1]; exact heap_alloc_new w _
  have hf1 : Fr w W1 [] := by rw [← hW1]; exact Fr.alloc _ _ _
  have HS1 := Lib.hid hs1
  have HF1 := Lib.hid hf1
  have HW1 := Lib.hid (show W1.heap.size = w.heap.size + 1 by rw [← hW1]; simp)
  clear hs1 hf1 hW1
  go_loopw [16] (fun x wr => ∃ (k : Nat), k ≤ 2 ∧ x = .int .i64 k ∧ Sr wr w.heap.size p (foundAt s.l k) ∧ Fr W1 wr [w.heap.size]) (fun x _ => 2 - (intOf x).toNat)
  case atStart => exact ⟨0, Nat.zero_le _, rfl, HS1.out, Fr.refl _ _⟩
  case round =>
    obtain ⟨k, hk, rfl, hs, hf⟩ := hrel
    have HS := Lib.hid hs
    have HFW := Lib.hid hf
    have HF := Lib.hid (HF1.out.new hf (by simp))
    clear hs hf
    by_cases hlt : k < 2
    · obtain ⟨m, hm⟩ : ∃ m, m = decide (s.l.getD (13 * k) 0 = 1) := ⟨_, rfl⟩
      have hrd := read_any p g s k wr A B (H.out.fr HF.out (by simp) (by simp)) HD.out HLEN.out hlt HB.out (HE.out.fr HF.out (by simp)) (Nat.le_trans hB HF.out.size) m hm hs
      have hin := foundAt_in HB.out k hk
      have hr1 := numAt_range HB.out (13 * k + 1)
      have hr2 := numAt_range HB.out (13 * k + 7)
      have hstep : foundAt s.l (k + 1) = (foundAt s.l k).step s.l k := rfl
      unfold SR.step SR.beat at hstep
      obtain ⟨R, hR⟩ : ∃ R, R = foundAt s.l k := ⟨_, rfl⟩
      obtain ⟨c, hc⟩ : ∃ c, c = numAt s.l (13 * k + 1) := ⟨_, rfl⟩
      obtain ⟨n, hn⟩ : ∃ c, c = numAt s.l (13 * k + 7) := ⟨_, rfl⟩
      rw [← hR] at hin hstep
      rw [← hc] at hr1 hstep hrd
      rw [← hn] at hr2 hstep hrd
      have hsr := HS.out
      rw [← hR] at hsr
      have HST := Lib.hid hstep
      have HRD := Lib.hid hrd
      have HM := Lib.hid hm
      have HIN := Lib.hid (show (0 ≤ R.c ∧ R.c ≤ 281474976710655) ∧ (0 ≤ R.n ∧ R.n ≤ 281474976710655) from ⟨⟨hin.1, hin.2.1⟩, hin.2.2.1, hin.2.2.2.1⟩)
      have HSR := Lib.hid hsr
      have HR1 := Lib.hid hr1
      have HR2 := Lib.hid hr2
      clear hrd hstep hm hin hsr hR hc hn hr1 hr2
      cases m with
      | false =>
        have hrd := HRD.out
        rw [if_neg (by simp)] at hrd
        have HRD2 := Lib.hid hrd
        clear hrd
        go_wp2_with fail
        refine HRD2.out.mono ?_
        rintro e w2 ⟨rfl, hf2⟩
        have ha := heap_alloc_new w2 (.cells #[.int .i64 0, .int .i64 0] 35)
        have r0 := cell_of_row _ _ 0 _ _ _ ha
        have r1 := cell_of_row _ _ 1 _ _ _ ha
        have y0 := frozen_of_row _ _ 0 _ _ ha
        have y1 := frozen_of_row _ _ 1 _ _ ha
        simp at r0 r1
        have HF2 := Lib.hid hf2
        have HA := Lib.hid ha
        clear hf2 ha
        go_upto_region 10 with fail
        generalize hWX : World.alloc w2 _ = WX
        have HX := Lib.hid (show Fr w2 WX [] by rw [← hWX]; exact Fr.alloc _ _ _)
        have hrx : WX.heap[w2.heap.size]? = some (.cells #[.int .i64 0, .int .i64 0] 35 (0, 0)) := by rw [← hWX]; exact heap_alloc_new w2 _
        clear hWX r0 r1 y0 y1
        have hsx := (HSR.out.fr HF2.out (by simp)).fr HX.out (by simp)
        have HE0 : Hid (foundAt s.l (k + 1) = R) := by show _ = _; rw [HST.out, if_neg]; have := of_decide_eq_false HM.out.symm; simp only [decide_eq_true_eq]; exact fun h => this h.1
        have HSX := Lib.hid hsx
        clear hrx hsx
        go_quiet (fail)
        go_wp2
        have HEND := Lib.hid (show Sr _ w.heap.size p (foundAt s.l (k + 1)) by rw [HE0.out]; exact HSX.out.fr (Fr.drewN WX nq []) (by simp))
        have HFE := Lib.hid (HFW.out.new (((HF2.out.trans HX.out).trans (Fr.drewN WX nq [])) : Fr wr _ []) (by simp))
        go_roundw
        case rel => exact ⟨k + 1, by omega, by go_num, HEND.out, HFE.out⟩
        case measure => simp [intOf]; omega
      | true =>
        have hrd := HRD.out
        rw [if_pos rfl] at hrd
        have HRD2 := Lib.hid hrd
        have hm1 := of_decide_eq_true HM.out.symm
        clear hrd
        by_cases hk1 : R.k = -1
        · have HE0 : Hid (foundAt s.l (k + 1) = ⟨c, n, (k : Int)⟩) := by show _ = _; rw [HST.out, if_pos]; simp only [decide_eq_true_eq]; exact ⟨hm1, .inl hk1⟩
          clear hm1
          go_wp2_with fail
          refine HRD2.out.mono ?_
          rintro e w2 ⟨rfl, hf2⟩
          have ha := heap_alloc_new w2 (.cells #[.int .i64 0, .int .i64 0] 35)
          have r0 := cell_of_row _ _ 0 _ _ _ ha
          have r1 := cell_of_row _ _ 1 _ _ _ ha
          have y0 := frozen_of_row _ _ 0 _ _ ha
          have y1 := frozen_of_row _ _ 1 _ _ ha
          simp at r0 r1
          have HF2 := Lib.hid hf2
          have HA := Lib.hid ha
          clear hf2 ha
          go_upto_region 10 with fail
          generalize hWX : World.alloc w2 _ = WX
          have HX := Lib.hid (show Fr w2 WX [] by rw [← hWX]; exact Fr.alloc _ _ _)
          have hrx : WX.heap[w2.heap.size]? = some (.cells #[.int .i64 c, .int .i64 n] 35 (0, 0)) := by rw [← hWX]; exact heap_alloc_new w2 _
          clear hWX r0 r1 y0 y1
          have hsx := (HSR.out.fr HF2.out (by simp)).fr HX.out (by simp)
          obtain ⟨s0, s1, s2, s3⟩ := hsx.cells
          rw [hk1] at s3
          have z1 := hsx.frozen 1
          have z2 := hsx.frozen 2
          have z3 := hsx.frozen 3
          have x0 := cell_of_row _ _ 0 _ _ _ hrx
          have x1 := cell_of_row _ _ 1 _ _ _ hrx
          simp at x0 x1
          have HSX := Lib.hid hsx
          have hnes : w2.heap.size ≠ w.heap.size := by have := HSR.out.lt; have := HF2.out.size; omega
          clear hrx hsx hk1
          go_quiet (fail)
          go_wp2
          have HEND := Lib.hid (show Sr _ w.heap.size p (foundAt s.l (k + 1)) by rw [HE0.out]; exact (HSX.out.fr (Fr.drewN WX nq []) (by simp)).wr c n k)
          have HFE := Lib.hid (Fr.trans (HFW.out.trans (((HF2.out.trans HX.out).mono (by simp)).trans (Fr.drewN WX nq [w.heap.size]))) (Fr.trans (Fr.trans (Fr.setCell _ _ 1 (.int .i64 c) (List.mem_singleton.2 rfl)) (Fr.setCell _ _ 2 (.int .i64 n) (List.mem_singleton.2 rfl))) (Fr.setCell _ _ 3 (.int .i64 (k : Int)) (List.mem_singleton.2 rfl))))
          go_roundw
          case rel => exact ⟨k + 1, by omega, by go_num, HEND.out, HFE.out⟩
          case measure => simp [intOf]; omega
        · have kb : (R.k == -1) = false := by simpa using hk1
          by_cases hlt2 : R.c + R.n < c + n
          · have HE0 : Hid (foundAt s.l (k + 1) = ⟨c, n, (k : Int)⟩) := by show _ = _; rw [HST.out, if_pos]; simp only [decide_eq_true_eq]; exact ⟨hm1, .inr hlt2⟩
            clear hm1 hk1
            go_wp2_with fail
            refine HRD2.out.mono ?_
            rintro e w2 ⟨rfl, hf2⟩
            have ha := heap_alloc_new w2 (.cells #[.int .i64 0, .int .i64 0] 35)
            have r0 := cell_of_row _ _ 0 _ _ _ ha
            have r1 := cell_of_row _ _ 1 _ _ _ ha
            have y0 := frozen_of_row _ _ 0 _ _ ha
            have y1 := frozen_of_row _ _ 1 _ _ ha
            simp at r0 r1
            have HF2 := Lib.hid hf2
            have HA := Lib.hid ha
            clear hf2 ha
            go_upto_region 10 with fail
            generalize hWX : World.alloc w2 _ = WX
            have HX := Lib.hid (show Fr w2 WX [] by rw [← hWX]; exact Fr.alloc _ _ _)
            have hrx : WX.heap[w2.heap.size]? = some (.cells #[.int .i64 c, .int .i64 n] 35 (0, 0)) := by rw [← hWX]; exact heap_alloc_new w2 _
            clear hWX r0 r1 y0 y1
            have hsx := (HSR.out.fr HF2.out (by simp)).fr HX.out (by simp)
            obtain ⟨s0, s1, s2, s3⟩ := hsx.cells
            have z1 := hsx.frozen 1
            have z2 := hsx.frozen 2
            have z3 := hsx.frozen 3
            have x0 := cell_of_row _ _ 0 _ _ _ hrx
            have x1 := cell_of_row _ _ 1 _ _ _ hrx
            simp at x0 x1
            have HSX := Lib.hid hsx
            have hnes : w2.heap.size ≠ w.heap.size := by have := HSR.out.lt; have := HF2.out.size; omega
            clear hrx hsx
            go_region_held3 (fun w' => w'.cell? ⟨w2.heap.size, 0, none⟩ = some (.int .i64 c) ∧ w'.cell? ⟨w2.heap.size, 1, none⟩ = some (.int .i64 n) ∧ w'.cell? ⟨w.heap.size, 1, none⟩ = some (.int .i64 R.c) ∧ w'.cell? ⟨w.heap.size, 2, none⟩ = some (.int .i64 R.n) ∧ w'.cell? ⟨w.heap.size, 3, none⟩ = some (.int .i64 R.k))
              (first | exact ⟨x0, x1, s1, s2, s3⟩ | exact ⟨x0b, x1b, s1b, s2b, s3b⟩ | exact ⟨x0a, x1a, s1a, s2a, s3a⟩)
              (first
                | (go_at_call 31; ((with_reducible refine (sum_any c n _ HR1.out HR2.out).mono ?_); rintro e wa ⟨rfl, hfa⟩; have hfa0 := (Fr.drew WX []).trans hfa; have x0a := hfa0.cell x0 (by simp); have x1a := hfa0.cell x1 (by simp); have s1a := hfa0.cell s1 (by simp); have s2a := hfa0.cell s2 (by simp); have s3a := hfa0.cell s3 (by simp)))
                | (go_at_call 31; ((with_reducible refine (sum_any R.c R.n _ HIN.out.1 HIN.out.2).mono ?_); rintro e wb ⟨rfl, hfb⟩; have hfb0 := hfa0.trans hfb; have x0b := hfb.cell x0a (by simp); have x1b := hfb.cell x1a (by simp); have s1b := hfb.cell s1a (by simp); have s2b := hfb.cell s2a (by simp); have s3b := hfb.cell s3a (by simp))))
            all_goals
              have hsb := HSX.out.fr hfb0 (by simp)
              have z1 := hsb.frozen 1
              have z2 := hsb.frozen 2
              have z3 := hsb.frozen 3
              have HSB := Lib.hid hsb
              have HFB := Lib.hid hfb0
              clear hsb hfb0 hfa0 hfa hfb x0 x1 s1 s2 s3 x0a x1a s1a s2a s3a s0
              go_wp2
              have HEND := Lib.hid (show Sr _ w.heap.size p (foundAt s.l (k + 1)) by rw [HE0.out]; exact HSB.out.wr c n k)
              have HFE := Lib.hid (Fr.trans (HFW.out.trans (((HF2.out.trans HX.out).trans HFB.out).mono (by simp))) (Fr.trans (Fr.trans (Fr.setCell _ _ 1 (.int .i64 c) (List.mem_singleton.2 rfl)) (Fr.setCell _ _ 2 (.int .i64 n) (List.mem_singleton.2 rfl))) (Fr.setCell _ _ 3 (.int .i64 (k : Int)) (List.mem_singleton.2 rfl))))
              go_roundw
              case rel => exact ⟨k + 1, by omega, by go_num, HEND.out, HFE.out⟩
              case measure => simp [intOf]; omega
          · have HE0 : Hid (foundAt s.l (k + 1) = R) := by show _ = _; rw [HST.out, if_neg]; simp only [decide_eq_true_eq]; exact fun h => h.2.elim hk1 hlt2
            clear hm1 hk1
            go_wp2_with fail
            refine HRD2.out.mono ?_
            rintro e w2 ⟨rfl, hf2⟩
            have ha := heap_alloc_new w2 (.cells #[.int .i64 0, .int .i64 0] 35)
            have r0 := cell_of_row _ _ 0 _ _ _ ha
            have r1 := cell_of_row _ _ 1 _ _ _ ha
            have y0 := frozen_of_row _ _ 0 _ _ ha
            have y1 := frozen_of_row _ _ 1 _ _ ha
            simp at r0 r1
            have HF2 := Lib.hid hf2
            have HA := Lib.hid ha
            clear hf2 ha
            go_upto_region 10 with fail
            generalize hWX : World.alloc w2 _ = WX
            have HX := Lib.hid (show Fr w2 WX [] by rw [← hWX]; exact Fr.alloc _ _ _)
            have hrx : WX.heap[w2.heap.size]? = some (.cells #[.int .i64 c, .int .i64 n] 35 (0, 0)) := by rw [← hWX]; exact heap_alloc_new w2 _
            clear hWX r0 r1 y0 y1
            have hsx := (HSR.out.fr HF2.out (by simp)).fr HX.out (by simp)
            obtain ⟨s0, s1, s2, s3⟩ := hsx.cells
            have z1 := hsx.frozen 1
            have z2 := hsx.frozen 2
            have z3 := hsx.frozen 3
            have x0 := cell_of_row _ _ 0 _ _ _ hrx
            have x1 := cell_of_row _ _ 1 _ _ _ hrx
            simp at x0 x1
            have HSX := Lib.hid hsx
            have hnes : w2.heap.size ≠ w.heap.size := by have := HSR.out.lt; have := HF2.out.size; omega
            clear hrx hsx
            go_region_held3 (fun w' => w'.cell? ⟨w2.heap.size, 0, none⟩ = some (.int .i64 c) ∧ w'.cell? ⟨w2.heap.size, 1, none⟩ = some (.int .i64 n) ∧ w'.cell? ⟨w.heap.size, 1, none⟩ = some (.int .i64 R.c) ∧ w'.cell? ⟨w.heap.size, 2, none⟩ = some (.int .i64 R.n) ∧ w'.cell? ⟨w.heap.size, 3, none⟩ = some (.int .i64 R.k))
              (first | exact ⟨x0, x1, s1, s2, s3⟩ | exact ⟨x0b, x1b, s1b, s2b, s3b⟩ | exact ⟨x0a, x1a, s1a, s2a, s3a⟩)
              (first
                | (go_at_call 31; ((with_reducible refine (sum_any c n _ HR1.out HR2.out).mono ?_); rintro e wa ⟨rfl, hfa⟩; have hfa0 := (Fr.drew WX []).trans hfa; have x0a := hfa0.cell x0 (by simp); have x1a := hfa0.cell x1 (by simp); have s1a := hfa0.cell s1 (by simp); have s2a := hfa0.cell s2 (by simp); have s3a := hfa0.cell s3 (by simp)))
                | (go_at_call 31; ((with_reducible refine (sum_any R.c R.n _ HIN.out.1 HIN.out.2).mono ?_); rintro e wb ⟨rfl, hfb⟩; have hfb0 := hfa0.trans hfb; have x0b := hfb.cell x0a (by simp); have x1b := hfb.cell x1a (by simp); have s1b := hfb.cell s1a (by simp); have s2b := hfb.cell s2a (by simp); have s3b := hfb.cell s3a (by simp))))
            all_goals
              have hsb := HSX.out.fr hfb0 (by simp)
              have z1 := hsb.frozen 1
              have z2 := hsb.frozen 2
              have z3 := hsb.frozen 3
              have HSB := Lib.hid hsb
              have HFB := Lib.hid hfb0
              clear hsb hfb0 hfa0 hfa hfb x0 x1 s1 s2 s3 x0a x1a s1a s2a s3a s0
              go_wp2
              have HEND := Lib.hid (show Sr _ w.heap.size p (foundAt s.l (k + 1)) by rw [HE0.out]; exact HSB.out)
              have HFE := Lib.hid (HFW.out.trans (((HF2.out.trans HX.out).trans HFB.out).mono (by simp)))
              go_roundw
              case rel => exact ⟨k + 1, by omega, by go_num, HEND.out, HFE.out⟩
              case measure => simp [intOf]; omega
    · obtain rfl : k = 2 := by omega
      go_wp2
      go_ret2
      exact gives ⟨w.heap.size, rfl, HS.out, Nat.le_refl _, HF.out⟩
end Go.Proofs.YthiimkjhlndcoaaDoor
