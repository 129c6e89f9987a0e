/- The document's ReadFrame. -/
import Derived.Test.YtpeocdcciecpoaaDoorFRRing
import Derived.Test.YtpeocdcciecpoaaDoorFRFrame
import Derived.Test.YtpeocdcciecpoaaDoorFRBytes
import Derived.Test.YtpeocdcciecpoaaDoorFRead5
import Derived.Deep.RegionHeld3
import Derived.Deep.DeepCutAuto
namespace Go.Proofs.YtpeocdcciecpoaaDoor
open Go.RowKit Fm

/-- What the document's ReadFrame hands back. -/
def RReadE (r : F × Nat × Bool × Nat) (w0 : World) (e : Ending) (w' : World) : Prop :=
  Fr w0 w' [] ∧ ∃ vm ve, e = .returned (.tuple #[frV r.1 vm ve, flt (dcode r.2.1) r.2.2.1 (if r.2.2.1 then (r.2.2.2 : Int) else 0)]) ∧ Holds .i64 w' vm r.1.rg.ms ∧ HE w' ve r.1.rg.es
theorem row3 {w : World} {g : Nat} {a b c : Value} {T : TypeId} (h : w.heap[g]? = some (.cells #[a, b, c] T (0, 0))) :
    w.cell? ⟨g, 0, none⟩ = some a ∧ w.cell? ⟨g, 1, none⟩ = some b ∧ w.cell? ⟨g, 2, none⟩ = some c :=
  ⟨by rw [cell_of_row w g 0 _ _ _ h]; rfl, by rw [cell_of_row w g 1 _ _ _ h]; rfl, by rw [cell_of_row w g 2 _ _ _ h]; rfl⟩
theorem set3 (w : World) (g : Nat) (a b c : Value) : Fr w (((w.setCell ⟨g, 0, none⟩ a).setCell ⟨g, 1, none⟩ b).setCell ⟨g, 2, none⟩ c) [g] :=
  ((Fr.setCell w g 0 a (by simp)).trans (Fr.setCell _ g 1 b (by simp))).trans (Fr.setCell _ g 2 c (by simp))
theorem set3_row {w : World} {g : Nat} {T : TypeId} {x y z : Value} (h : w.heap[g]? = some (.cells #[x, y, z] T (0, 0))) (a b c : Value) : (((w.setCell ⟨g, 0, none⟩ a).setCell ⟨g, 1, none⟩ b).setCell ⟨g, 2, none⟩ c).heap[g]? = some (.cells #[a, b, c] T (0, 0)) := by
  have h0 : (w.setCell ⟨g, 0, none⟩ a).heap[g]? = some (.cells #[a, y, z] T (0, 0)) := setc h 0 a
  have h1 : ((w.setCell ⟨g, 0, none⟩ a).setCell ⟨g, 1, none⟩ b).heap[g]? = some (.cells #[a, b, z] T (0, 0)) := setc h0 1 b
  exact setc h1 2 c
theorem rr_new {w : World} {v : Value} {l : List Int} (hb : Bytes w v l) (h2 : 2 ≤ l.length) : RR (w.alloc (.cells #[v, .int .i64 2, .int .i64 0, .bool false, .int .i64 0] 85)) w.heap.size w.heap.size l 2 0 := by
  obtain ⟨b, off, cap, rfl, hlt, hc⟩ := hb.lt (by omega)
  refine ⟨_, heap_alloc_new w _, hb.keep (Fr.alloc w _ []), ⟨?_, fun r hr => ?_, Nat.le_refl _⟩, h2, by omega⟩
  · simp only [Value.ownBlock, ne_eq, Option.some.injEq]; omega
  · simp only [Value.ownBlock, Option.some.injEq] at hr; omega
theorem rbare (code : Int) (w : World) : Calls Tryd.prog 30 #[.int .i64 code] w fun e w' => e = .returned (flt code false 0) ∧ Fr w w' [] :=
  (bare_any code w).mono fun _ _ ⟨he, hg⟩ => ⟨he, Fr.of_grown hg []⟩

set_option maxHeartbeats 16000000 in
set_option maxRecDepth 100000 in
theorem rread_frame (v : Value) (l : List Int) (w : World) (h : Bytes w v l) (hb : Wm.Byte l) (hl : l.length ≤ 140737488355328) :
    Calls Tryd.prog 20 #[v] w (RReadE (readF l) w) := by
  have HV := Lib.hid h
  have HBY := Lib.hid hb
  have HLL := Lib.hid hl
  have HTB := Lib.hid (two_boxes w (.cells #[.int .i64 0, .int .i64 0, .int .i64 0, .int .i64 0, .int .i64 0, .bool false, .int .i64 0, .int .i64 0, .int .i64 0, .slice none 0 0, .slice none 0 0] 29) (.cells #[.int .i64 0, .bool false, .int .i64 0] 47))
  have HF0 := Lib.hid ((Fr.alloc w (.cells #[.int .i64 0, .int .i64 0, .int .i64 0, .int .i64 0, .int .i64 0, .bool false, .int .i64 0, .int .i64 0, .int .i64 0, .slice none 0 0, .slice none 0 0] 29) []).trans (Fr.alloc _ (.cells #[.int .i64 0, .bool false, .int .i64 0] 47) []))
  obtain ⟨av, cv, rfl⟩ := h.shape
  clear h hb hl
  by_cases hA : l.length < 1 ∨ l.getD 0 0 ≠ 80
  · have HEQ : Hid (readF l = (zeroF, 2, false, 0)) := by show _ = _; unfold readF; rw [if_pos hA]
    by_cases h1 : l.length < 1
    · have q1 : (l.length : Int) < 1 := by omega
      clear hA h1
      go_enter Tryd.func20, Tryd.ntmps20
      go_wp2_with fail
      refine (rbare 102 _).mono ?_
      rintro e wz ⟨rfl, hfz⟩
      unfold flt
      have FZ := Lib.hid (HF0.out.trans hfz)
      have Z0 := Lib.hid (hfz.heap HTB.out.1 (by simp))
      have Z1 := Lib.hid (hfz.heap HTB.out.2 (by simp))
      have r11 := row11 Z0.out
      have r3 := row3 Z1.out
      have za0 := frozen_of_row _ _ 0 _ _ Z0.out
      have za1 := frozen_of_row _ _ 1 _ _ Z0.out
      have za2 := frozen_of_row _ _ 2 _ _ Z0.out
      have za3 := frozen_of_row _ _ 3 _ _ Z0.out
      have za4 := frozen_of_row _ _ 4 _ _ Z0.out
      have za5 := frozen_of_row _ _ 5 _ _ Z0.out
      have za6 := frozen_of_row _ _ 6 _ _ Z0.out
      have za7 := frozen_of_row _ _ 7 _ _ Z0.out
      have za8 := frozen_of_row _ _ 8 _ _ Z0.out
      have za9 := frozen_of_row _ _ 9 _ _ Z0.out
      have za10 := frozen_of_row _ _ 10 _ _ Z0.out
      have zb0 := frozen_of_row _ _ 0 _ _ Z1.out
      have zb1 := frozen_of_row _ _ 1 _ _ Z1.out
      have zb2 := frozen_of_row _ _ 2 _ _ Z1.out
      clear hfz
      go_wp2
      have g11 := set11_row Z0.out (.int .i64 0) (.int .i64 0) (.int .i64 0) (.int .i64 0) (.int .i64 0) (.bool false) (.int .i64 0) (.int .i64 0) (.int .i64 0) (.slice none 0 0) (.slice none 0 0)
      have f11 := set11 wz w.heap.size (.int .i64 0) (.int .i64 0) (.int .i64 0) (.int .i64 0) (.int .i64 0) (.bool false) (.int .i64 0) (.int .i64 0) (.int .i64 0) (.slice none 0 0) (.slice none 0 0)
      have g1 := f11.heap Z1.out (by simp)
      have g3 := set3_row g1 (.int .i64 102) (.bool false) (.int .i64 0)
      have f3 := set3 (((((((((((wz.setCell ⟨w.heap.size, 0, none⟩ (.int .i64 0)).setCell ⟨w.heap.size, 1, none⟩ (.int .i64 0)).setCell ⟨w.heap.size, 2, none⟩ (.int .i64 0)).setCell ⟨w.heap.size, 3, none⟩ (.int .i64 0)).setCell ⟨w.heap.size, 4, none⟩ (.int .i64 0)).setCell ⟨w.heap.size, 5, none⟩ (.bool false)).setCell ⟨w.heap.size, 6, none⟩ (.int .i64 0)).setCell ⟨w.heap.size, 7, none⟩ (.int .i64 0)).setCell ⟨w.heap.size, 8, none⟩ (.int .i64 0)).setCell ⟨w.heap.size, 9, none⟩ (.slice none 0 0)).setCell ⟨w.heap.size, 10, none⟩ (.slice none 0 0)) (w.heap.size + 1) (.int .i64 102) (.bool false) (.int .i64 0)
      have g12 := f3.heap g11 (by simp)
      have hk := row11 g12
      have hk3 := row3 g3
      have HFF := Lib.hid (FZ.out.new (f11.comb f3 (U := [w.heap.size, w.heap.size + 1]) (by simp) (by simp)) (by simp))
      have HR : Hid (RReadE (readF l) w (.returned (.tuple #[.agg #[.int .i64 0, .int .i64 0, .int .i64 0, .int .i64 0, .int .i64 0, .bool false, .int .i64 0, .int .i64 0, .int .i64 0, .slice none 0 0, .slice none 0 0], .agg #[.int .i64 102, .bool false, .int .i64 0]])) ((((((((((((((wz.setCell ⟨w.heap.size, 0, none⟩ (.int .i64 0)).setCell ⟨w.heap.size, 1, none⟩ (.int .i64 0)).setCell ⟨w.heap.size, 2, none⟩ (.int .i64 0)).setCell ⟨w.heap.size, 3, none⟩ (.int .i64 0)).setCell ⟨w.heap.size, 4, none⟩ (.int .i64 0)).setCell ⟨w.heap.size, 5, none⟩ (.bool false)).setCell ⟨w.heap.size, 6, none⟩ (.int .i64 0)).setCell ⟨w.heap.size, 7, none⟩ (.int .i64 0)).setCell ⟨w.heap.size, 8, none⟩ (.int .i64 0)).setCell ⟨w.heap.size, 9, none⟩ (.slice none 0 0)).setCell ⟨w.heap.size, 10, none⟩ (.slice none 0 0)).setCell ⟨w.heap.size + 1, 0, none⟩ (.int .i64 102)).setCell ⟨w.heap.size + 1, 1, none⟩ (.bool false)).setCell ⟨w.heap.size + 1, 2, none⟩ (.int .i64 0))) := by
        show RReadE _ _ _ _
        rw [HEQ.out]
        exact ⟨HFF.out, _, _, rfl, nil_ints, nil_ents⟩
      clear g11 f11 g1 g3 f3 g12
      exact bodyPost_ret (v := .tuple #[.agg #[.int .i64 0, .int .i64 0, .int .i64 0, .int .i64 0, .int .i64 0, .bool false, .int .i64 0, .int .i64 0, .int .i64 0, .slice none 0 0, .slice none 0 0], .agg #[.int .i64 102, .bool false, .int .i64 0]]) (by simp [results, Tryd.results20, go_sem, hk, hk3]) rfl HR.out
    · obtain ⟨bl, off, cap', he', g1, g2, x0⟩ := Holds.at HV.out (k := 0) (by omega)
      simp only [Value.slice.injEq, true_and] at he'
      obtain ⟨rfl, rfl⟩ := he'
      have c0 := HF0.out.cell x0 (by simp)
      obtain ⟨y, hy⟩ : ∃ y, y = l.getD 0 0 := ⟨_, rfl⟩
      rw [← hy] at c0
      have q1 : ¬ (l.length : Int) < 1 := by omega
      have q2 : (y != 80) = true := bne_iff_ne.2 (by omega)
      have q3 : (0 : Int) < (l.length : Int) := by omega
      rw [Nat.add_zero] at c0
      clear hA h1 hy x0
      go_enter Tryd.func20, Tryd.ntmps20
      go_wp2_with fail
      refine (rbare 102 _).mono ?_
      rintro e wz ⟨rfl, hfz⟩
      unfold flt
      have FZ := Lib.hid (HF0.out.trans hfz)
      have Z0 := Lib.hid (hfz.heap HTB.out.1 (by simp))
      have Z1 := Lib.hid (hfz.heap HTB.out.2 (by simp))
      have r11 := row11 Z0.out
      have r3 := row3 Z1.out
      have za0 := frozen_of_row _ _ 0 _ _ Z0.out
      have za1 := frozen_of_row _ _ 1 _ _ Z0.out
      have za2 := frozen_of_row _ _ 2 _ _ Z0.out
      have za3 := frozen_of_row _ _ 3 _ _ Z0.out
      have za4 := frozen_of_row _ _ 4 _ _ Z0.out
      have za5 := frozen_of_row _ _ 5 _ _ Z0.out
      have za6 := frozen_of_row _ _ 6 _ _ Z0.out
      have za7 := frozen_of_row _ _ 7 _ _ Z0.out
      have za8 := frozen_of_row _ _ 8 _ _ Z0.out
      have za9 := frozen_of_row _ _ 9 _ _ Z0.out
      have za10 := frozen_of_row _ _ 10 _ _ Z0.out
      have zb0 := frozen_of_row _ _ 0 _ _ Z1.out
      have zb1 := frozen_of_row _ _ 1 _ _ Z1.out
      have zb2 := frozen_of_row _ _ 2 _ _ Z1.out
      clear hfz
      go_wp2
      have g11 := set11_row Z0.out (.int .i64 0) (.int .i64 0) (.int .i64 0) (.int .i64 0) (.int .i64 0) (.bool false) (.int .i64 0) (.int .i64 0) (.int .i64 0) (.slice none 0 0) (.slice none 0 0)
      have f11 := set11 wz w.heap.size (.int .i64 0) (.int .i64 0) (.int .i64 0) (.int .i64 0) (.int .i64 0) (.bool false) (.int .i64 0) (.int .i64 0) (.int .i64 0) (.slice none 0 0) (.slice none 0 0)
      have g1 := f11.heap Z1.out (by simp)
      have g3 := set3_row g1 (.int .i64 102) (.bool false) (.int .i64 0)
      have f3 := set3 (((((((((((wz.setCell ⟨w.heap.size, 0, none⟩ (.int .i64 0)).setCell ⟨w.heap.size, 1, none⟩ (.int .i64 0)).setCell ⟨w.heap.size, 2, none⟩ (.int .i64 0)).setCell ⟨w.heap.size, 3, none⟩ (.int .i64 0)).setCell ⟨w.heap.size, 4, none⟩ (.int .i64 0)).setCell ⟨w.heap.size, 5, none⟩ (.bool false)).setCell ⟨w.heap.size, 6, none⟩ (.int .i64 0)).setCell ⟨w.heap.size, 7, none⟩ (.int .i64 0)).setCell ⟨w.heap.size, 8, none⟩ (.int .i64 0)).setCell ⟨w.heap.size, 9, none⟩ (.slice none 0 0)).setCell ⟨w.heap.size, 10, none⟩ (.slice none 0 0)) (w.heap.size + 1) (.int .i64 102) (.bool false) (.int .i64 0)
      have g12 := f3.heap g11 (by simp)
      have hk := row11 g12
      have hk3 := row3 g3
      have HFF := Lib.hid (FZ.out.new (f11.comb f3 (U := [w.heap.size, w.heap.size + 1]) (by simp) (by simp)) (by simp))
      have HR : Hid (RReadE (readF l) w (.returned (.tuple #[.agg #[.int .i64 0, .int .i64 0, .int .i64 0, .int .i64 0, .int .i64 0, .bool false, .int .i64 0, .int .i64 0, .int .i64 0, .slice none 0 0, .slice none 0 0], .agg #[.int .i64 102, .bool false, .int .i64 0]])) ((((((((((((((wz.setCell ⟨w.heap.size, 0, none⟩ (.int .i64 0)).setCell ⟨w.heap.size, 1, none⟩ (.int .i64 0)).setCell ⟨w.heap.size, 2, none⟩ (.int .i64 0)).setCell ⟨w.heap.size, 3, none⟩ (.int .i64 0)).setCell ⟨w.heap.size, 4, none⟩ (.int .i64 0)).setCell ⟨w.heap.size, 5, none⟩ (.bool false)).setCell ⟨w.heap.size, 6, none⟩ (.int .i64 0)).setCell ⟨w.heap.size, 7, none⟩ (.int .i64 0)).setCell ⟨w.heap.size, 8, none⟩ (.int .i64 0)).setCell ⟨w.heap.size, 9, none⟩ (.slice none 0 0)).setCell ⟨w.heap.size, 10, none⟩ (.slice none 0 0)).setCell ⟨w.heap.size + 1, 0, none⟩ (.int .i64 102)).setCell ⟨w.heap.size + 1, 1, none⟩ (.bool false)).setCell ⟨w.heap.size + 1, 2, none⟩ (.int .i64 0))) := by
        show RReadE _ _ _ _
        rw [HEQ.out]
        exact ⟨HFF.out, _, _, rfl, nil_ints, nil_ents⟩
      clear g11 f11 g1 g3 f3 g12
      exact bodyPost_ret (v := .tuple #[.agg #[.int .i64 0, .int .i64 0, .int .i64 0, .int .i64 0, .int .i64 0, .bool false, .int .i64 0, .int .i64 0, .int .i64 0, .slice none 0 0, .slice none 0 0], .agg #[.int .i64 102, .bool false, .int .i64 0]]) (by simp [results, Tryd.results20, go_sem, hk, hk3]) rfl HR.out
  by_cases hB : l.length < 2 ∨ ¬ (l.getD 1 0 = 1 ∨ l.getD 1 0 = 2)
  · have HEQ : Hid (readF l = (zeroF, 7, false, 0)) := by show _ = _; unfold readF; rw [if_neg hA, if_pos hB]
    obtain ⟨bl, off, cap', he', g1, g2, x0⟩ := Holds.at HV.out (k := 0) (by omega)
    simp only [Value.slice.injEq, true_and] at he'
    obtain ⟨rfl, rfl⟩ := he'
    have c0 := HF0.out.cell x0 (by simp)
    have q1 : ¬ (l.length : Int) < 1 := by omega
    have q3 : (0 : Int) < (l.length : Int) := by omega
    rw [Nat.add_zero, show l.getD 0 0 = 80 by omega] at c0
    by_cases h2 : l.length < 2
    · have q4 : (l.length : Int) < 2 := by omega
      clear hA hB h2 x0
      go_enter Tryd.func20, Tryd.ntmps20
      go_wp2_with fail
      refine (rbare 107 _).mono ?_
      rintro e wz ⟨rfl, hfz⟩
      unfold flt
      have FZ := Lib.hid (HF0.out.trans hfz)
      have Z0 := Lib.hid (hfz.heap HTB.out.1 (by simp))
      have Z1 := Lib.hid (hfz.heap HTB.out.2 (by simp))
      have r11 := row11 Z0.out
      have r3 := row3 Z1.out
      have za0 := frozen_of_row _ _ 0 _ _ Z0.out
      have za1 := frozen_of_row _ _ 1 _ _ Z0.out
      have za2 := frozen_of_row _ _ 2 _ _ Z0.out
      have za3 := frozen_of_row _ _ 3 _ _ Z0.out
      have za4 := frozen_of_row _ _ 4 _ _ Z0.out
      have za5 := frozen_of_row _ _ 5 _ _ Z0.out
      have za6 := frozen_of_row _ _ 6 _ _ Z0.out
      have za7 := frozen_of_row _ _ 7 _ _ Z0.out
      have za8 := frozen_of_row _ _ 8 _ _ Z0.out
      have za9 := frozen_of_row _ _ 9 _ _ Z0.out
      have za10 := frozen_of_row _ _ 10 _ _ Z0.out
      have zb0 := frozen_of_row _ _ 0 _ _ Z1.out
      have zb1 := frozen_of_row _ _ 1 _ _ Z1.out
      have zb2 := frozen_of_row _ _ 2 _ _ Z1.out
      clear hfz
      go_wp2
      have g11 := set11_row Z0.out (.int .i64 0) (.int .i64 0) (.int .i64 0) (.int .i64 0) (.int .i64 0) (.bool false) (.int .i64 0) (.int .i64 0) (.int .i64 0) (.slice none 0 0) (.slice none 0 0)
      have f11 := set11 wz w.heap.size (.int .i64 0) (.int .i64 0) (.int .i64 0) (.int .i64 0) (.int .i64 0) (.bool false) (.int .i64 0) (.int .i64 0) (.int .i64 0) (.slice none 0 0) (.slice none 0 0)
      have g1 := f11.heap Z1.out (by simp)
      have g3 := set3_row g1 (.int .i64 107) (.bool false) (.int .i64 0)
      have f3 := set3 (((((((((((wz.setCell ⟨w.heap.size, 0, none⟩ (.int .i64 0)).setCell ⟨w.heap.size, 1, none⟩ (.int .i64 0)).setCell ⟨w.heap.size, 2, none⟩ (.int .i64 0)).setCell ⟨w.heap.size, 3, none⟩ (.int .i64 0)).setCell ⟨w.heap.size, 4, none⟩ (.int .i64 0)).setCell ⟨w.heap.size, 5, none⟩ (.bool false)).setCell ⟨w.heap.size, 6, none⟩ (.int .i64 0)).setCell ⟨w.heap.size, 7, none⟩ (.int .i64 0)).setCell ⟨w.heap.size, 8, none⟩ (.int .i64 0)).setCell ⟨w.heap.size, 9, none⟩ (.slice none 0 0)).setCell ⟨w.heap.size, 10, none⟩ (.slice none 0 0)) (w.heap.size + 1) (.int .i64 107) (.bool false) (.int .i64 0)
      have g12 := f3.heap g11 (by simp)
      have hk := row11 g12
      have hk3 := row3 g3
      have HFF := Lib.hid (FZ.out.new (f11.comb f3 (U := [w.heap.size, w.heap.size + 1]) (by simp) (by simp)) (by simp))
      have HR : Hid (RReadE (readF l) w (.returned (.tuple #[.agg #[.int .i64 0, .int .i64 0, .int .i64 0, .int .i64 0, .int .i64 0, .bool false, .int .i64 0, .int .i64 0, .int .i64 0, .slice none 0 0, .slice none 0 0], .agg #[.int .i64 107, .bool false, .int .i64 0]])) ((((((((((((((wz.setCell ⟨w.heap.size, 0, none⟩ (.int .i64 0)).setCell ⟨w.heap.size, 1, none⟩ (.int .i64 0)).setCell ⟨w.heap.size, 2, none⟩ (.int .i64 0)).setCell ⟨w.heap.size, 3, none⟩ (.int .i64 0)).setCell ⟨w.heap.size, 4, none⟩ (.int .i64 0)).setCell ⟨w.heap.size, 5, none⟩ (.bool false)).setCell ⟨w.heap.size, 6, none⟩ (.int .i64 0)).setCell ⟨w.heap.size, 7, none⟩ (.int .i64 0)).setCell ⟨w.heap.size, 8, none⟩ (.int .i64 0)).setCell ⟨w.heap.size, 9, none⟩ (.slice none 0 0)).setCell ⟨w.heap.size, 10, none⟩ (.slice none 0 0)).setCell ⟨w.heap.size + 1, 0, none⟩ (.int .i64 107)).setCell ⟨w.heap.size + 1, 1, none⟩ (.bool false)).setCell ⟨w.heap.size + 1, 2, none⟩ (.int .i64 0))) := by
        show RReadE _ _ _ _
        rw [HEQ.out]
        exact ⟨HFF.out, _, _, rfl, nil_ints, nil_ents⟩
      clear g11 f11 g1 g3 f3 g12
      exact bodyPost_ret (v := .tuple #[.agg #[.int .i64 0, .int .i64 0, .int .i64 0, .int .i64 0, .int .i64 0, .bool false, .int .i64 0, .int .i64 0, .int .i64 0, .slice none 0 0, .slice none 0 0], .agg #[.int .i64 107, .bool false, .int .i64 0]]) (by simp [results, Tryd.results20, go_sem, hk, hk3]) rfl HR.out
    · obtain ⟨bl', off', cap'', he', g1, g2, x1⟩ := Holds.at HV.out (k := 1) (by omega)
      simp only [Value.slice.injEq, true_and, Option.some.injEq, Addr.mk.injEq, and_true] at he'
      obtain ⟨⟨rfl, rfl⟩, rfl⟩ := he'
      have c1 := HF0.out.cell x1 (by simp)
      obtain ⟨y, hy⟩ : ∃ y, y = l.getD 1 0 := ⟨_, rfl⟩
      rw [← hy] at c1
      have q4 : ¬ (l.length : Int) < 2 := by omega
      have q5 : (y != 1) = true := bne_iff_ne.2 (by omega)
      have q6 : (y != 2) = true := bne_iff_ne.2 (by omega)
      have q7 : (1 : Int) < (l.length : Int) := by omega
      clear hA hB h2 hy x0 x1
      go_enter Tryd.func20, Tryd.ntmps20
      go_wp2_with fail
      refine (rbare 107 _).mono ?_
      rintro e wz ⟨rfl, hfz⟩
      unfold flt
      have FZ := Lib.hid (HF0.out.trans hfz)
      have Z0 := Lib.hid (hfz.heap HTB.out.1 (by simp))
      have Z1 := Lib.hid (hfz.heap HTB.out.2 (by simp))
      have r11 := row11 Z0.out
      have r3 := row3 Z1.out
      have za0 := frozen_of_row _ _ 0 _ _ Z0.out
      have za1 := frozen_of_row _ _ 1 _ _ Z0.out
      have za2 := frozen_of_row _ _ 2 _ _ Z0.out
      have za3 := frozen_of_row _ _ 3 _ _ Z0.out
      have za4 := frozen_of_row _ _ 4 _ _ Z0.out
      have za5 := frozen_of_row _ _ 5 _ _ Z0.out
      have za6 := frozen_of_row _ _ 6 _ _ Z0.out
      have za7 := frozen_of_row _ _ 7 _ _ Z0.out
      have za8 := frozen_of_row _ _ 8 _ _ Z0.out
      have za9 := frozen_of_row _ _ 9 _ _ Z0.out
      have za10 := frozen_of_row _ _ 10 _ _ Z0.out
      have zb0 := frozen_of_row _ _ 0 _ _ Z1.out
      have zb1 := frozen_of_row _ _ 1 _ _ Z1.out
      have zb2 := frozen_of_row _ _ 2 _ _ Z1.out
      clear hfz
      go_wp2
      have g11 := set11_row Z0.out (.int .i64 0) (.int .i64 0) (.int .i64 0) (.int .i64 0) (.int .i64 0) (.bool false) (.int .i64 0) (.int .i64 0) (.int .i64 0) (.slice none 0 0) (.slice none 0 0)
      have f11 := set11 wz w.heap.size (.int .i64 0) (.int .i64 0) (.int .i64 0) (.int .i64 0) (.int .i64 0) (.bool false) (.int .i64 0) (.int .i64 0) (.int .i64 0) (.slice none 0 0) (.slice none 0 0)
      have g1 := f11.heap Z1.out (by simp)
      have g3 := set3_row g1 (.int .i64 107) (.bool false) (.int .i64 0)
      have f3 := set3 (((((((((((wz.setCell ⟨w.heap.size, 0, none⟩ (.int .i64 0)).setCell ⟨w.heap.size, 1, none⟩ (.int .i64 0)).setCell ⟨w.heap.size, 2, none⟩ (.int .i64 0)).setCell ⟨w.heap.size, 3, none⟩ (.int .i64 0)).setCell ⟨w.heap.size, 4, none⟩ (.int .i64 0)).setCell ⟨w.heap.size, 5, none⟩ (.bool false)).setCell ⟨w.heap.size, 6, none⟩ (.int .i64 0)).setCell ⟨w.heap.size, 7, none⟩ (.int .i64 0)).setCell ⟨w.heap.size, 8, none⟩ (.int .i64 0)).setCell ⟨w.heap.size, 9, none⟩ (.slice none 0 0)).setCell ⟨w.heap.size, 10, none⟩ (.slice none 0 0)) (w.heap.size + 1) (.int .i64 107) (.bool false) (.int .i64 0)
      have g12 := f3.heap g11 (by simp)
      have hk := row11 g12
      have hk3 := row3 g3
      have HFF := Lib.hid (FZ.out.new (f11.comb f3 (U := [w.heap.size, w.heap.size + 1]) (by simp) (by simp)) (by simp))
      have HR : Hid (RReadE (readF l) w (.returned (.tuple #[.agg #[.int .i64 0, .int .i64 0, .int .i64 0, .int .i64 0, .int .i64 0, .bool false, .int .i64 0, .int .i64 0, .int .i64 0, .slice none 0 0, .slice none 0 0], .agg #[.int .i64 107, .bool false, .int .i64 0]])) ((((((((((((((wz.setCell ⟨w.heap.size, 0, none⟩ (.int .i64 0)).setCell ⟨w.heap.size, 1, none⟩ (.int .i64 0)).setCell ⟨w.heap.size, 2, none⟩ (.int .i64 0)).setCell ⟨w.heap.size, 3, none⟩ (.int .i64 0)).setCell ⟨w.heap.size, 4, none⟩ (.int .i64 0)).setCell ⟨w.heap.size, 5, none⟩ (.bool false)).setCell ⟨w.heap.size, 6, none⟩ (.int .i64 0)).setCell ⟨w.heap.size, 7, none⟩ (.int .i64 0)).setCell ⟨w.heap.size, 8, none⟩ (.int .i64 0)).setCell ⟨w.heap.size, 9, none⟩ (.slice none 0 0)).setCell ⟨w.heap.size, 10, none⟩ (.slice none 0 0)).setCell ⟨w.heap.size + 1, 0, none⟩ (.int .i64 107)).setCell ⟨w.heap.size + 1, 1, none⟩ (.bool false)).setCell ⟨w.heap.size + 1, 2, none⟩ (.int .i64 0))) := by
        show RReadE _ _ _ _
        rw [HEQ.out]
        exact ⟨HFF.out, _, _, rfl, nil_ints, nil_ents⟩
      clear g11 f11 g1 g3 f3 g12
      exact bodyPost_ret (v := .tuple #[.agg #[.int .i64 0, .int .i64 0, .int .i64 0, .int .i64 0, .int .i64 0, .bool false, .int .i64 0, .int .i64 0, .int .i64 0, .slice none 0 0, .slice none 0 0], .agg #[.int .i64 107, .bool false, .int .i64 0]]) (by simp [results, Tryd.results20, go_sem, hk, hk3]) rfl HR.out
  obtain ⟨bl, off, cap', he', g1, g2, x0⟩ := Holds.at HV.out (k := 0) (by omega)
  simp only [Value.slice.injEq, true_and] at he'
  obtain ⟨rfl, rfl⟩ := he'
  have c0 := HF0.out.cell x0 (by simp)
  rw [Nat.add_zero, show l.getD 0 0 = 80 by omega] at c0
  obtain ⟨bl', off', cap'', he', g3, g4, x1c⟩ := Holds.at HV.out (k := 1) (by omega)
  simp only [Value.slice.injEq, true_and, Option.some.injEq, Addr.mk.injEq, and_true] at he'
  obtain ⟨⟨rfl, rfl⟩, rfl⟩ := he'
  have c1 := HF0.out.cell x1c (by simp)
  obtain ⟨y, hy⟩ : ∃ y, y = l.getD 1 0 := ⟨_, rfl⟩
  rw [← hy] at c1
  have q1 : ¬ (l.length : Int) < 1 := by omega
  have q3 : (0 : Int) < (l.length : Int) := by omega
  have q4 : ¬ (l.length : Int) < 2 := by omega
  have q7 : (1 : Int) < (l.length : Int) := by omega
  have hyc : ((y != 1) = false ∧ (y == 1) = true ∧ y = 1) ∨ ((y != 1) = true ∧ (y != 2) = false ∧ (y == 1) = false ∧ y = 2) := by
    rcases (show y = 1 ∨ y = 2 by omega) with h | h <;> simp [h]
  have HAB := Lib.hid (And.intro hA hB)
  have HY := Lib.hid hy
  have HL2 := Lib.hid (show 2 ≤ l.length by omega)
  have AR := Lib.hid (Fr.alloc ((w.alloc (.cells #[.int .i64 0, .int .i64 0, .int .i64 0, .int .i64 0, .int .i64 0, .bool false, .int .i64 0, .int .i64 0, .int .i64 0, .slice none 0 0, .slice none 0 0] 29)).alloc (.cells #[.int .i64 0, .bool false, .int .i64 0] 47)) (.cells #[.slice (some ⟨bl, off, none⟩) l.length cv, .int .i64 2, .int .i64 0, .bool false, .int .i64 0] 85) [])
  have SR3 := Lib.hid (show RR (((w.alloc (.cells #[.int .i64 0, .int .i64 0, .int .i64 0, .int .i64 0, .int .i64 0, .bool false, .int .i64 0, .int .i64 0, .int .i64 0, .slice none 0 0, .slice none 0 0] 29)).alloc (.cells #[.int .i64 0, .bool false, .int .i64 0] 47)).alloc (.cells #[.slice (some ⟨bl, off, none⟩) l.length cv, .int .i64 2, .int .i64 0, .bool false, .int .i64 0] 85)) (w.heap.size + 1 + 1) (w.heap.size + 1 + 1) l 2 0 from by
    have h := rr_new (HV.out.keep (HF0.out)) HL2.out
    rw [show ((w.alloc (.cells #[.int .i64 0, .int .i64 0, .int .i64 0, .int .i64 0, .int .i64 0, .bool false, .int .i64 0, .int .i64 0, .int .i64 0, .slice none 0 0, .slice none 0 0] 29)).alloc (.cells #[.int .i64 0, .bool false, .int .i64 0] 47)).heap.size = w.heap.size + 1 + 1 by simp] at h
    exact h)
  obtain ⟨x1, k1, c1', n1⟩ : ∃ x k' c', Fm.num 0 15 l 2 0 = (x, k', c') := ⟨_, _, _, rfl⟩
  obtain ⟨x2, k2, c2, n2⟩ : ∃ x k' c', Fm.num 0 15 l k1 c1' = (x, k', c') := ⟨_, _, _, rfl⟩
  have N1 := Lib.hid n1
  have N2 := Lib.hid n2
  have hbl : bl < w.heap.size := World.block_lt_of_cell? w _ x1c
  clear hA hB x0 x1c hy n1 n2
  rcases hyc with ⟨e1, e2, rfl⟩ | ⟨e1, e2, e3, rfl⟩
  · skip
    go_enter Tryd.func20, Tryd.ntmps20
    go_wp2_with fail
    go_cut [6] (fun s6 wx => ∃ be : Nat, s6 = .pointer (some ⟨be, 0, none⟩) ∧ wx.heap[be]? = some (.cells #[.int .i64 1, .int .i64 x1, .int .i64 x2, .int .i64 0, .int .i64 0, .bool false, .int .i64 0, .int .i64 0, .int .i64 0, .slice none 0 0, .slice none 0 0] 29 (0, 0)) ∧ w.heap.size + 1 + 1 + 1 ≤ be ∧ RR wx (w.heap.size + 1 + 1) (w.heap.size + 1 + 1) l k2 c2 ∧ Fr (((w.alloc (.cells #[.int .i64 0, .int .i64 0, .int .i64 0, .int .i64 0, .int .i64 0, .bool false, .int .i64 0, .int .i64 0, .int .i64 0, .slice none 0 0, .slice none 0 0] 29)).alloc (.cells #[.int .i64 0, .bool false, .int .i64 0] 47)).alloc (.cells #[.slice (some ⟨bl, off, none⟩) l.length cv, .int .i64 2, .int .i64 0, .bool false, .int .i64 0] 85)) wx [(w.heap.size + 1 + 1)])
    case first =>
      refine wp_region_noPanic ?_
      refine wp_region_held_drew (S := fun a => a.cell? ⟨bl, off + 1, none⟩ = some (.int .u8 1)) (by kernel_rfl) ((Fr.drew _ []).cell (AR.out.cell c1 (by simp)) (by simp)) (fun hHeld => ?_)
      have cy := (Fr.drew (((w.alloc (.cells #[.int .i64 0, .int .i64 0, .int .i64 0, .int .i64 0, .int .i64 0, .bool false, .int .i64 0, .int .i64 0, .int .i64 0, .slice none 0 0, .slice none 0 0] 29)).alloc (.cells #[.int .i64 0, .bool false, .int .i64 0] 47)).alloc (.cells #[.slice (some ⟨bl, off, none⟩) l.length cv, .int .i64 2, .int .i64 0, .bool false, .int .i64 0] 85)) []).cell (AR.out.cell c1 (by simp)) (by simp)
      have R0 := Lib.hid (SR3.out.keep (Fr.drew _ []))
      have F0 := Lib.hid (Fr.drew (((w.alloc (.cells #[.int .i64 0, .int .i64 0, .int .i64 0, .int .i64 0, .int .i64 0, .bool false, .int .i64 0, .int .i64 0, .int .i64 0, .slice none 0 0, .slice none 0 0] 29)).alloc (.cells #[.int .i64 0, .bool false, .int .i64 0] 47)).alloc (.cells #[.slice (some ⟨bl, off, none⟩) l.length cv, .int .i64 2, .int .i64 0, .bool false, .int .i64 0] 85)) [(w.heap.size + 1 + 1)])
      refine wpAnyH_take (i := 0) (oi := _) (v := ?fv0q10) (by simp only [List.getElem?_toArray, List.getElem?_cons_zero]; rfl) (by kernel_rfl) (by kernel_rfl) (by kernel_rfl) (fun _ _ _ h => h) (Or.inl ⟨by rfl, ?fy0q10⟩) (by assumption) ?fr0q10
      case fy0q10 => (intro w hSw; (try dsimp only at hSw); go_simp; try with_reducible rfl)
      try simp only [Act.put, List.setIfInBounds_toArray, List.set_cons_zero, List.set_cons_succ]
      refine wpAnyH_take (i := 1) (oi := _) (v := ?fv1q10) (by simp only [List.getElem?_toArray, List.getElem?_cons_zero, List.getElem?_cons_succ]; rfl) (by kernel_rfl) (by kernel_rfl) (by kernel_rfl) (fun _ _ _ h => h) (Or.inl ⟨by rfl, ?fy1q10⟩) (by assumption) ?fr1q10
      case fy1q10 => (intro w hSw; (try dsimp only at hSw); go_simp; try with_reducible rfl)
      try simp only [Act.put, List.setIfInBounds_toArray, List.set_cons_zero, List.set_cons_succ]
      refine wpAnyH_take (i := 2) (oi := _) (v := ?fv2q10) (by simp only [List.getElem?_toArray, List.getElem?_cons_zero, List.getElem?_cons_succ]; rfl) (by kernel_rfl) (by kernel_rfl) (by kernel_rfl) (fun _ _ _ h => h) (Or.inl ⟨by rfl, ?fy2q10⟩) (by assumption) ?fr2q10
      case fy2q10 => (intro w hSw; (try dsimp only at hSw); go_simp; try with_reducible rfl)
      try simp only [Act.put, List.setIfInBounds_toArray, List.set_cons_zero, List.set_cons_succ]
      refine wpAnyH_take (i := 3) (oi := _) (v := ?fv3q10) (by simp only [List.getElem?_toArray, List.getElem?_cons_zero, List.getElem?_cons_succ]; rfl) (by kernel_rfl) (by kernel_rfl) (by kernel_rfl) (fun _ _ _ h => h) (Or.inl ⟨by rfl, ?fy3q10⟩) (by assumption) ?fr3q10
      case fy3q10 => (intro w hSw; (try dsimp only at hSw); go_simp; try with_reducible rfl)
      try simp only [Act.put, List.setIfInBounds_toArray, List.set_cons_zero, List.set_cons_succ]
      refine wpAnyH_take (i := 4) (oi := _) (v := ?fv4q10) (by simp only [List.getElem?_toArray, List.getElem?_cons_zero, List.getElem?_cons_succ]; rfl) (by kernel_rfl) (by kernel_rfl) (by kernel_rfl) (fun _ _ _ h => h) (Or.inl ⟨by rfl, ?fy4q10⟩) (by assumption) ?fr4q10
      case fy4q10 => (intro w hSw; (try dsimp only at hSw); go_simp; try with_reducible rfl)
      try simp only [Act.put, List.setIfInBounds_toArray, List.set_cons_zero, List.set_cons_succ]
      refine wpAnyH_take (i := 5) (oi := _) (v := ?fv5q10) (by simp only [List.getElem?_toArray, List.getElem?_cons_zero, List.getElem?_cons_succ]; rfl) (by kernel_rfl) (by kernel_rfl) (by kernel_rfl) (fun _ _ _ h => h) (Or.inl ⟨by rfl, ?fy5q10⟩) (by assumption) ?fr5q10
      case fy5q10 => (intro w hSw; (try dsimp only at hSw); go_simp; try with_reducible rfl)
      try simp only [Act.put, List.setIfInBounds_toArray, List.set_cons_zero, List.set_cons_succ]
      refine wpAnyH_take (i := 7) (oi := _) (v := ?fv7q10) (by simp only [List.getElem?_toArray, List.getElem?_cons_zero, List.getElem?_cons_succ]; rfl) (by kernel_rfl) (by kernel_rfl) (by kernel_rfl) (fun _ _ _ h => h) (Or.inl ⟨by rfl, ?fy7q10⟩) (by assumption) ?fr7q10
      case fy7q10 => (intro w hSw; (try dsimp only at hSw); go_simp; try with_reducible rfl)
      try simp only [Act.put, List.setIfInBounds_toArray, List.set_cons_zero, List.set_cons_succ]
      refine wpAnyH_take (i := 8) (oi := _) (v := ?fv8q10) (by simp only [List.getElem?_toArray, List.getElem?_cons_zero, List.getElem?_cons_succ]; rfl) (by kernel_rfl) (by kernel_rfl) (by kernel_rfl) (fun _ _ _ h => h) (Or.inl ⟨by rfl, ?fy8q10⟩) (by assumption) ?fr8q10
      case fy8q10 => (intro w hSw; (try dsimp only at hSw); go_simp; try with_reducible rfl)
      try simp only [Act.put, List.setIfInBounds_toArray, List.set_cons_zero, List.set_cons_succ]
      refine wpAnyH_ready (rs := [6, 11]) (by kernel_rfl) (by simp) ?_
      refine AllReadyH.cons (o := _) rfl (fun K hK => ?_) ?_
      · go_simp
        refine (rnum (w.heap.size + 1 + 1) (w.heap.size + 1 + 1) l 2 0 0 15 _ R0.out HBY.out HLL.out x1 k1 c1' N1.out).mono ?_
        rintro e wa ⟨rfl, hra, hfa⟩
        have RA := Lib.hid hra
        have FA := Lib.hid (F0.out.trans hfa)
        have ca := hfa.cell (cy) (by simp <;> omega)
        clear hra hfa
        go_wp2_with fail
        refine hK.out _ _ ca (fun hHeld => ?_)
        clear hK K
        try simp only [Act.put, List.setIfInBounds_toArray, List.set_cons_zero, List.set_cons_succ]
        refine wpAnyH_ready (rs := [9, 11]) (by kernel_rfl) (by simp) ?_
        refine AllReadyH.cons (o := _) rfl (fun K hK => ?_) ?_
        · go_simp
          refine (rnum (w.heap.size + 1 + 1) (w.heap.size + 1 + 1) l k1 c1' 0 15 _ RA.out HBY.out HLL.out x2 k2 c2 N2.out).mono ?_
          rintro e wb ⟨rfl, hrb, hfb⟩
          have RB := Lib.hid hrb
          have FB := Lib.hid (FA.out.trans hfb)
          have cb := hfb.cell (ca) (by simp <;> omega)
          clear hrb hfb
          go_wp2_with fail
          refine hK.out _ _ cb (fun hHeld => ?_)
          clear hK K
          try simp only [Act.put, List.setIfInBounds_toArray, List.set_cons_zero, List.set_cons_succ]
          refine wpAnyH_take (i := 10) (oi := _) (v := ?fv10q11) (by simp only [List.getElem?_toArray, List.getElem?_cons_zero, List.getElem?_cons_succ]; rfl) (by kernel_rfl) (by kernel_rfl) (by kernel_rfl) (fun _ _ _ h => h) (Or.inl ⟨by rfl, ?fy10q11⟩) (by assumption) ?fr10q11
          case fy10q11 => (intro w hSw; (try dsimp only at hSw); go_simp; try with_reducible rfl)
          try simp only [Act.put, List.setIfInBounds_toArray, List.set_cons_zero, List.set_cons_succ]
          refine wpAnyH_ready (rs := [11]) (by kernel_rfl) (by simp) ?_
          refine AllReadyH.cons (o := _) rfl (fun K hK => ?_) ?_
          · go_simp
            have RXb := Lib.hid (RB.out.keep (Fr.alloc wb (.cells #[.int .i64 0, .int .i64 0, .int .i64 0, .int .i64 0, .int .i64 0, .bool false, .int .i64 0, .int .i64 0, .int .i64 0, .slice none 0 0, .slice none 0 0] 29) []))
            have FXb := Lib.hid (FB.out.trans (Fr.alloc wb (.cells #[.int .i64 0, .int .i64 0, .int .i64 0, .int .i64 0, .int .i64 0, .bool false, .int .i64 0, .int .i64 0, .int .i64 0, .slice none 0 0, .slice none 0 0] 29) [(w.heap.size + 1 + 1)]))
            have cxb := (Fr.alloc wb (.cells #[.int .i64 0, .int .i64 0, .int .i64 0, .int .i64 0, .int .i64 0, .bool false, .int .i64 0, .int .i64 0, .int .i64 0, .slice none 0 0, .slice none 0 0] 29) []).cell (cb) (by simp)
            have BXb := Lib.hid (heap_alloc_new wb (.cells #[.int .i64 0, .int .i64 0, .int .i64 0, .int .i64 0, .int .i64 0, .bool false, .int .i64 0, .int .i64 0, .int .i64 0, .slice none 0 0, .slice none 0 0] 29))
            refine hK.out _ _ cxb (fun hHeld => ?_)
            clear hK K
            try simp only [Act.put, List.setIfInBounds_toArray, List.set_cons_zero, List.set_cons_succ]
            have hsz : w.heap.size + 1 + 1 + 1 ≤ wb.heap.size := by have h := FB.out.size; simpa using h
            have RRW := Lib.hid (RB.out.keep (Fr.alloc wb (.cells #[.int .i64 1, .int .i64 x1, .int .i64 x2, .int .i64 0, .int .i64 0, .bool false, .int .i64 0, .int .i64 0, .int .i64 0, .slice none 0 0, .slice none 0 0] 29) []))
            have FRW := Lib.hid (FB.out.trans (Fr.alloc wb (.cells #[.int .i64 1, .int .i64 x1, .int .i64 x2, .int .i64 0, .int .i64 0, .bool false, .int .i64 0, .int .i64 0, .int .i64 0, .slice none 0 0, .slice none 0 0] 29) _))
            refine wpAnyH_ready (rs := [12]) (by kernel_rfl) (by simp) ?_
            refine AllReadyH.cons (o := _) rfl (fun K hK => ?_) ?_
            · go_simp
              refine hK.out _ _ ((Fr.alloc wb (.cells #[.int .i64 1, .int .i64 x1, .int .i64 x2, .int .i64 0, .int .i64 0, .bool false, .int .i64 0, .int .i64 0, .int .i64 0, .slice none 0 0, .slice none 0 0] 29) []).cell cb (by simp)) (fun hHeld => ?_)
              clear hK K
              try simp only [Act.put, List.setIfInBounds_toArray, List.set_cons_zero, List.set_cons_succ]
              refine wpAnyH_done (by kernel_rfl) ?_ _
              refine NoPanic.normal ?_
              go_wp2_with fail
              go_meet
              exact ⟨wb.heap.size, rfl, heap_alloc_new wb (.cells #[.int .i64 1, .int .i64 x1, .int .i64 x2, .int .i64 0, .int .i64 0, .bool false, .int .i64 0, .int .i64 0, .int .i64 0, .slice none 0 0, .slice none 0 0] 29), (by omega), RRW.out, FRW.out⟩
            exact AllReadyH.nil
          exact AllReadyH.nil
        refine AllReadyH.cons (o := _) rfl (fun K hK => ?_) ?_
        · go_simp
          have RXa := Lib.hid (RA.out.keep (Fr.alloc wa (.cells #[.int .i64 0, .int .i64 0, .int .i64 0, .int .i64 0, .int .i64 0, .bool false, .int .i64 0, .int .i64 0, .int .i64 0, .slice none 0 0, .slice none 0 0] 29) []))
          have FXa := Lib.hid (FA.out.trans (Fr.alloc wa (.cells #[.int .i64 0, .int .i64 0, .int .i64 0, .int .i64 0, .int .i64 0, .bool false, .int .i64 0, .int .i64 0, .int .i64 0, .slice none 0 0, .slice none 0 0] 29) [(w.heap.size + 1 + 1)]))
          have cxa := (Fr.alloc wa (.cells #[.int .i64 0, .int .i64 0, .int .i64 0, .int .i64 0, .int .i64 0, .bool false, .int .i64 0, .int .i64 0, .int .i64 0, .slice none 0 0, .slice none 0 0] 29) []).cell (ca) (by simp)
          have BXa := Lib.hid (heap_alloc_new wa (.cells #[.int .i64 0, .int .i64 0, .int .i64 0, .int .i64 0, .int .i64 0, .bool false, .int .i64 0, .int .i64 0, .int .i64 0, .slice none 0 0, .slice none 0 0] 29))
          refine hK.out _ _ cxa (fun hHeld => ?_)
          clear hK K
          try simp only [Act.put, List.setIfInBounds_toArray, List.set_cons_zero, List.set_cons_succ]
          have hsz : w.heap.size + 1 + 1 + 1 ≤ wa.heap.size := by have h := FA.out.size; simpa using h
          refine wpAnyH_ready (rs := [9]) (by kernel_rfl) (by simp) ?_
          refine AllReadyH.cons (o := _) rfl (fun K hK => ?_) ?_
          · go_simp
            refine (rnum (w.heap.size + 1 + 1) (w.heap.size + 1 + 1) l k1 c1' 0 15 _ RXa.out HBY.out HLL.out x2 k2 c2 N2.out).mono ?_
            rintro e wb ⟨rfl, hrb, hfb⟩
            have RB := Lib.hid hrb
            have FB := Lib.hid (FXa.out.trans hfb)
            have cb := hfb.cell (cxa) (by simp <;> omega)
            have BB := Lib.hid (hfb.heap BXa.out (by simp <;> omega))
            clear hrb hfb
            go_wp2_with fail
            refine hK.out _ _ cb (fun hHeld => ?_)
            clear hK K
            try simp only [Act.put, List.setIfInBounds_toArray, List.set_cons_zero, List.set_cons_succ]
            refine wpAnyH_take (i := 10) (oi := _) (v := ?fv10q12) (by simp only [List.getElem?_toArray, List.getElem?_cons_zero, List.getElem?_cons_succ]; rfl) (by kernel_rfl) (by kernel_rfl) (by kernel_rfl) (fun _ _ _ h => h) (Or.inl ⟨by rfl, ?fy10q12⟩) (by assumption) ?fr10q12
            case fy10q12 => (intro w hSw; (try dsimp only at hSw); go_simp; try with_reducible rfl)
            try simp only [Act.put, List.setIfInBounds_toArray, List.set_cons_zero, List.set_cons_succ]
            have r11 := row11 BB.out
            have za0 := frozen_of_row _ _ 0 _ _ BB.out
            have za1 := frozen_of_row _ _ 1 _ _ BB.out
            have za2 := frozen_of_row _ _ 2 _ _ BB.out
            have za3 := frozen_of_row _ _ 3 _ _ BB.out
            have za4 := frozen_of_row _ _ 4 _ _ BB.out
            have za5 := frozen_of_row _ _ 5 _ _ BB.out
            have za6 := frozen_of_row _ _ 6 _ _ BB.out
            have za7 := frozen_of_row _ _ 7 _ _ BB.out
            have za8 := frozen_of_row _ _ 8 _ _ BB.out
            have za9 := frozen_of_row _ _ 9 _ _ BB.out
            have za10 := frozen_of_row _ _ 10 _ _ BB.out
            have SRW := Lib.hid (set11_row BB.out (.int .i64 1) (.int .i64 x1) (.int .i64 x2) (.int .i64 0) (.int .i64 0) (.bool false) (.int .i64 0) (.int .i64 0) (.int .i64 0) (.slice none 0 0) (.slice none 0 0))
            have RRW := Lib.hid (RB.out.fr (set11 wb wa.heap.size (.int .i64 1) (.int .i64 x1) (.int .i64 x2) (.int .i64 0) (.int .i64 0) (.bool false) (.int .i64 0) (.int .i64 0) (.int .i64 0) (.slice none 0 0) (.slice none 0 0)) (by simp <;> omega) (by intro r hr; obtain rfl := List.mem_singleton.1 hr; omega))
            have FRW := Lib.hid (FB.out.new (set11 wb wa.heap.size (.int .i64 1) (.int .i64 x1) (.int .i64 x2) (.int .i64 0) (.int .i64 0) (.bool false) (.int .i64 0) (.int .i64 0) (.int .i64 0) (.slice none 0 0) (.slice none 0 0)) (by simp <;> omega))
            refine wpAnyH_ready (rs := [12]) (by kernel_rfl) (by simp) ?_
            refine AllReadyH.cons (o := _) rfl (fun K hK => ?_) ?_
            · go_simp
              refine hK.out _ _ ((set11 wb wa.heap.size (.int .i64 1) (.int .i64 x1) (.int .i64 x2) (.int .i64 0) (.int .i64 0) (.bool false) (.int .i64 0) (.int .i64 0) (.int .i64 0) (.slice none 0 0) (.slice none 0 0)).cell (cb) (by simp <;> omega)) (fun hHeld => ?_)
              clear hK K
              try simp only [Act.put, List.setIfInBounds_toArray, List.set_cons_zero, List.set_cons_succ]
              refine wpAnyH_done (by kernel_rfl) ?_ _
              refine NoPanic.normal ?_
              clear r11 za0 za1 za2 za3 za4 za5 za6 za7 za8 za9 za10
              go_wp2_with fail
              go_meet
              exact ⟨wa.heap.size, rfl, SRW.out, (by omega), RRW.out, FRW.out⟩
            exact AllReadyH.nil
          exact AllReadyH.nil
        exact AllReadyH.nil
      refine AllReadyH.cons (o := _) rfl (fun K hK => ?_) ?_
      · go_simp
        have RX := Lib.hid ((SR3.out.keep (Fr.alloc (((w.alloc (.cells #[.int .i64 0, .int .i64 0, .int .i64 0, .int .i64 0, .int .i64 0, .bool false, .int .i64 0, .int .i64 0, .int .i64 0, .slice none 0 0, .slice none 0 0] 29)).alloc (.cells #[.int .i64 0, .bool false, .int .i64 0] 47)).alloc (.cells #[.slice (some ⟨bl, off, none⟩) l.length cv, .int .i64 2, .int .i64 0, .bool false, .int .i64 0] 85)) (.cells #[.int .i64 0, .int .i64 0, .int .i64 0, .int .i64 0, .int .i64 0, .bool false, .int .i64 0, .int .i64 0, .int .i64 0, .slice none 0 0, .slice none 0 0] 29) [])).keep (Fr.drew _ []))
        have FX := Lib.hid ((Fr.alloc (((w.alloc (.cells #[.int .i64 0, .int .i64 0, .int .i64 0, .int .i64 0, .int .i64 0, .bool false, .int .i64 0, .int .i64 0, .int .i64 0, .slice none 0 0, .slice none 0 0] 29)).alloc (.cells #[.int .i64 0, .bool false, .int .i64 0] 47)).alloc (.cells #[.slice (some ⟨bl, off, none⟩) l.length cv, .int .i64 2, .int .i64 0, .bool false, .int .i64 0] 85)) (.cells #[.int .i64 0, .int .i64 0, .int .i64 0, .int .i64 0, .int .i64 0, .bool false, .int .i64 0, .int .i64 0, .int .i64 0, .slice none 0 0, .slice none 0 0] 29) [(w.heap.size + 1 + 1)]).trans (Fr.drew _ _))
        have cx := (Fr.drew ((((w.alloc (.cells #[.int .i64 0, .int .i64 0, .int .i64 0, .int .i64 0, .int .i64 0, .bool false, .int .i64 0, .int .i64 0, .int .i64 0, .slice none 0 0, .slice none 0 0] 29)).alloc (.cells #[.int .i64 0, .bool false, .int .i64 0] 47)).alloc (.cells #[.slice (some ⟨bl, off, none⟩) l.length cv, .int .i64 2, .int .i64 0, .bool false, .int .i64 0] 85)).alloc (.cells #[.int .i64 0, .int .i64 0, .int .i64 0, .int .i64 0, .int .i64 0, .bool false, .int .i64 0, .int .i64 0, .int .i64 0, .slice none 0 0, .slice none 0 0] 29)) []).cell ((Fr.alloc (((w.alloc (.cells #[.int .i64 0, .int .i64 0, .int .i64 0, .int .i64 0, .int .i64 0, .bool false, .int .i64 0, .int .i64 0, .int .i64 0, .slice none 0 0, .slice none 0 0] 29)).alloc (.cells #[.int .i64 0, .bool false, .int .i64 0] 47)).alloc (.cells #[.slice (some ⟨bl, off, none⟩) l.length cv, .int .i64 2, .int .i64 0, .bool false, .int .i64 0] 85)) (.cells #[.int .i64 0, .int .i64 0, .int .i64 0, .int .i64 0, .int .i64 0, .bool false, .int .i64 0, .int .i64 0, .int .i64 0, .slice none 0 0, .slice none 0 0] 29) []).cell (AR.out.cell c1 (by simp)) (by simp)) (by simp)
        have BX0 := heap_alloc_new (((w.alloc (.cells #[.int .i64 0, .int .i64 0, .int .i64 0, .int .i64 0, .int .i64 0, .bool false, .int .i64 0, .int .i64 0, .int .i64 0, .slice none 0 0, .slice none 0 0] 29)).alloc (.cells #[.int .i64 0, .bool false, .int .i64 0] 47)).alloc (.cells #[.slice (some ⟨bl, off, none⟩) l.length cv, .int .i64 2, .int .i64 0, .bool false, .int .i64 0] 85)) (.cells #[.int .i64 0, .int .i64 0, .int .i64 0, .int .i64 0, .int .i64 0, .bool false, .int .i64 0, .int .i64 0, .int .i64 0, .slice none 0 0, .slice none 0 0] 29)
        rw [show (((w.alloc (.cells #[.int .i64 0, .int .i64 0, .int .i64 0, .int .i64 0, .int .i64 0, .bool false, .int .i64 0, .int .i64 0, .int .i64 0, .slice none 0 0, .slice none 0 0] 29)).alloc (.cells #[.int .i64 0, .bool false, .int .i64 0] 47)).alloc (.cells #[.slice (some ⟨bl, off, none⟩) l.length cv, .int .i64 2, .int .i64 0, .bool false, .int .i64 0] 85)).heap.size = w.heap.size + 1 + 1 + 1 by simp] at BX0
        have BX := Lib.hid ((Fr.drew ((((w.alloc (.cells #[.int .i64 0, .int .i64 0, .int .i64 0, .int .i64 0, .int .i64 0, .bool false, .int .i64 0, .int .i64 0, .int .i64 0, .slice none 0 0, .slice none 0 0] 29)).alloc (.cells #[.int .i64 0, .bool false, .int .i64 0] 47)).alloc (.cells #[.slice (some ⟨bl, off, none⟩) l.length cv, .int .i64 2, .int .i64 0, .bool false, .int .i64 0] 85)).alloc (.cells #[.int .i64 0, .int .i64 0, .int .i64 0, .int .i64 0, .int .i64 0, .bool false, .int .i64 0, .int .i64 0, .int .i64 0, .slice none 0 0, .slice none 0 0] 29)) []).heap BX0 (by simp))
        clear BX0
        refine hK.out _ _ cx (fun hHeld => ?_)
        clear hK K
        try simp only [Act.put, List.setIfInBounds_toArray, List.set_cons_zero, List.set_cons_succ]
        refine wpAnyH_ready (rs := [6]) (by kernel_rfl) (by simp) ?_
        refine AllReadyH.cons (o := _) rfl (fun K hK => ?_) ?_
        · go_simp
          refine (rnum (w.heap.size + 1 + 1) (w.heap.size + 1 + 1) l 2 0 0 15 _ RX.out HBY.out HLL.out x1 k1 c1' N1.out).mono ?_
          rintro e wa ⟨rfl, hra, hfa⟩
          have RA := Lib.hid hra
          have FA := Lib.hid (FX.out.trans hfa)
          have ca := hfa.cell (cx) (by simp <;> omega)
          have BA := Lib.hid (hfa.heap BX.out (by simp))
          clear hra hfa
          go_wp2_with fail
          refine hK.out _ _ ca (fun hHeld => ?_)
          clear hK K
          try simp only [Act.put, List.setIfInBounds_toArray, List.set_cons_zero, List.set_cons_succ]
          refine wpAnyH_ready (rs := [9]) (by kernel_rfl) (by simp) ?_
          refine AllReadyH.cons (o := _) rfl (fun K hK => ?_) ?_
          · go_simp
            refine (rnum (w.heap.size + 1 + 1) (w.heap.size + 1 + 1) l k1 c1' 0 15 _ RA.out HBY.out HLL.out x2 k2 c2 N2.out).mono ?_
            rintro e wb ⟨rfl, hrb, hfb⟩
            have RB := Lib.hid hrb
            have FB := Lib.hid (FA.out.trans hfb)
            have cb := hfb.cell (ca) (by simp <;> omega)
            have BB := Lib.hid (hfb.heap BA.out (by simp))
            clear hrb hfb
            go_wp2_with fail
            refine hK.out _ _ cb (fun hHeld => ?_)
            clear hK K
            try simp only [Act.put, List.setIfInBounds_toArray, List.set_cons_zero, List.set_cons_succ]
            refine wpAnyH_take (i := 10) (oi := _) (v := ?fv10q13) (by simp only [List.getElem?_toArray, List.getElem?_cons_zero, List.getElem?_cons_succ]; rfl) (by kernel_rfl) (by kernel_rfl) (by kernel_rfl) (fun _ _ _ h => h) (Or.inl ⟨by rfl, ?fy10q13⟩) (by assumption) ?fr10q13
            case fy10q13 => (intro w hSw; (try dsimp only at hSw); go_simp; try with_reducible rfl)
            try simp only [Act.put, List.setIfInBounds_toArray, List.set_cons_zero, List.set_cons_succ]
            have r11 := row11 BB.out
            have za0 := frozen_of_row _ _ 0 _ _ BB.out
            have za1 := frozen_of_row _ _ 1 _ _ BB.out
            have za2 := frozen_of_row _ _ 2 _ _ BB.out
            have za3 := frozen_of_row _ _ 3 _ _ BB.out
            have za4 := frozen_of_row _ _ 4 _ _ BB.out
            have za5 := frozen_of_row _ _ 5 _ _ BB.out
            have za6 := frozen_of_row _ _ 6 _ _ BB.out
            have za7 := frozen_of_row _ _ 7 _ _ BB.out
            have za8 := frozen_of_row _ _ 8 _ _ BB.out
            have za9 := frozen_of_row _ _ 9 _ _ BB.out
            have za10 := frozen_of_row _ _ 10 _ _ BB.out
            have SRW := Lib.hid (set11_row BB.out (.int .i64 1) (.int .i64 x1) (.int .i64 x2) (.int .i64 0) (.int .i64 0) (.bool false) (.int .i64 0) (.int .i64 0) (.int .i64 0) (.slice none 0 0) (.slice none 0 0))
            have RRW := Lib.hid (RB.out.fr (set11 wb (w.heap.size + 1 + 1 + 1) (.int .i64 1) (.int .i64 x1) (.int .i64 x2) (.int .i64 0) (.int .i64 0) (.bool false) (.int .i64 0) (.int .i64 0) (.int .i64 0) (.slice none 0 0) (.slice none 0 0)) (by simp <;> omega) (by intro r hr; obtain rfl := List.mem_singleton.1 hr; omega))
            have FRW := Lib.hid (FB.out.new (set11 wb (w.heap.size + 1 + 1 + 1) (.int .i64 1) (.int .i64 x1) (.int .i64 x2) (.int .i64 0) (.int .i64 0) (.bool false) (.int .i64 0) (.int .i64 0) (.int .i64 0) (.slice none 0 0) (.slice none 0 0)) (by simp <;> omega))
            refine wpAnyH_ready (rs := [12]) (by kernel_rfl) (by simp) ?_
            refine AllReadyH.cons (o := _) rfl (fun K hK => ?_) ?_
            · go_simp
              refine hK.out _ _ ((set11 wb (w.heap.size + 1 + 1 + 1) (.int .i64 1) (.int .i64 x1) (.int .i64 x2) (.int .i64 0) (.int .i64 0) (.bool false) (.int .i64 0) (.int .i64 0) (.int .i64 0) (.slice none 0 0) (.slice none 0 0)).cell (cb) (by simp <;> omega)) (fun hHeld => ?_)
              clear hK K
              try simp only [Act.put, List.setIfInBounds_toArray, List.set_cons_zero, List.set_cons_succ]
              refine wpAnyH_done (by kernel_rfl) ?_ _
              refine NoPanic.normal ?_
              clear r11 za0 za1 za2 za3 za4 za5 za6 za7 za8 za9 za10
              go_wp2_with fail
              go_meet
              exact ⟨(w.heap.size + 1 + 1 + 1), rfl, SRW.out, (by omega), RRW.out, FRW.out⟩
            exact AllReadyH.nil
          exact AllReadyH.nil
        exact AllReadyH.nil
      exact AllReadyH.nil
    case rest =>
      obtain ⟨be, rfl, hrow, hbe, hrr, hfr⟩ := hcut
      have BX := Lib.hid hrow
      have RX := Lib.hid hrr
      have FX := Lib.hid hfr
      have k11 := row11 hrow
      clear hrow hrr hfr
      obtain ⟨x3, k3, c3, n3⟩ : ∃ x k' c', Fm.num 0 281474976710655 l k2 c2 = (x, k', c') := ⟨_, _, _, rfl⟩
      obtain ⟨x4, k4, c4, n4⟩ : ∃ x k' c', Fm.num 0 281474976710655 l k3 c3 = (x, k', c') := ⟨_, _, _, rfl⟩
      obtain ⟨x5, k5, c5, n5⟩ : ∃ x k' c', Fm.num 0 1 l k4 c4 = (x, k', c') := ⟨_, _, _, rfl⟩
      have N3 := Lib.hid n3
      have N4 := Lib.hid n4
      have N5 := Lib.hid n5
      have HBD : Hid (rdBody (l.getD 1 0) l 2 0 = ((⟨1, x1, x2, x3, x4, x5 == 1, zeroR⟩ : F), k5, c5)) := by
        show _ = _
        rw [← HY.out]
        simp only [rdBody, rdBeat, Fm.bind, N1.out, N2.out, if_true, N3.out, N4.out, N5.out, Fm.ret]
      clear n3 n4 n5
      go_wp2_with fail
      refine (rnum (w.heap.size + 1 + 1) (w.heap.size + 1 + 1) l k2 c2 0 281474976710655 _ RX.out HBY.out HLL.out x3 k3 c3 N3.out).mono ?_
      rintro e v3 ⟨rfl, hs, hf⟩
      have S3 := Lib.hid hs
      have F3 := Lib.hid (FX.out.trans hf)
      have B3 := Lib.hid (hf.heap BX.out (by simp <;> omega))
      have q3 := row11 B3.out
      have y3 := frozen_of_row _ _ 3 _ _ B3.out
      have X3 := Lib.hid (Fr.setCell v3 be 3 (.int .i64 x3) (S := [be]) (by simp))
      have T3 := Lib.hid (S3.out.set B3.out (by omega) (by decide) 3 (.int .i64 x3))
      have E3 := Lib.hid (F3.out.new X3.out (by simp <;> omega))
      have C3 : Hid ((v3.setCell ⟨be, 3, none⟩ (.int .i64 x3)).heap[be]? = some (.cells #[.int .i64 1, .int .i64 x1, .int .i64 x2, .int .i64 x3, .int .i64 0, .bool false, .int .i64 0, .int .i64 0, .int .i64 0, .slice none 0 0, .slice none 0 0] 29 (0, 0))) := heap_setCell_same _ be 3 _ _ (.int .i64 x3) B3.out
      clear hs hf k11
      go_wp2_with fail
      refine (rnum (w.heap.size + 1 + 1) (w.heap.size + 1 + 1) l k3 c3 0 281474976710655 _ T3.out HBY.out HLL.out x4 k4 c4 N4.out).mono ?_
      rintro e v4 ⟨rfl, hs, hf⟩
      have S4 := Lib.hid hs
      have F4 := Lib.hid (E3.out.trans hf)
      have B4 := Lib.hid (hf.heap C3.out (by simp <;> omega))
      have q4 := row11 B4.out
      have y4 := frozen_of_row _ _ 4 _ _ B4.out
      have X4 := Lib.hid (Fr.setCell v4 be 4 (.int .i64 x4) (S := [be]) (by simp))
      have T4 := Lib.hid (S4.out.set B4.out (by omega) (by decide) 4 (.int .i64 x4))
      have E4 := Lib.hid (F4.out.new X4.out (by simp <;> omega))
      have C4 : Hid ((v4.setCell ⟨be, 4, none⟩ (.int .i64 x4)).heap[be]? = some (.cells #[.int .i64 1, .int .i64 x1, .int .i64 x2, .int .i64 x3, .int .i64 x4, .bool false, .int .i64 0, .int .i64 0, .int .i64 0, .slice none 0 0, .slice none 0 0] 29 (0, 0))) := heap_setCell_same _ be 4 _ _ (.int .i64 x4) B4.out
      clear hs hf q3 y3
      go_wp2_with fail
      refine (rbool (w.heap.size + 1 + 1) (w.heap.size + 1 + 1) l k4 c4 _ T4.out HBY.out HLL.out x5 k5 c5 N5.out).mono ?_
      rintro e v5 ⟨rfl, hs, hf⟩
      have S5 := Lib.hid hs
      have F5 := Lib.hid (E4.out.trans hf)
      have B5 := Lib.hid (hf.heap C4.out (by simp <;> omega))
      have q5 := row11 B5.out
      have y5 := frozen_of_row _ _ 5 _ _ B5.out
      have X5 := Lib.hid (Fr.setCell v5 be 5 (.bool (x5 == 1)) (S := [be]) (by simp))
      have T5 := Lib.hid (S5.out.set B5.out (by omega) (by decide) 5 (.bool (x5 == 1)))
      have E5 := Lib.hid (F5.out.new X5.out (by simp <;> omega))
      have C5 : Hid ((v5.setCell ⟨be, 5, none⟩ (.bool (x5 == 1))).heap[be]? = some (.cells #[.int .i64 1, .int .i64 x1, .int .i64 x2, .int .i64 x3, .int .i64 x4, .bool (x5 == 1), .int .i64 0, .int .i64 0, .int .i64 0, .slice none 0 0, .slice none 0 0] 29 (0, 0))) := heap_setCell_same _ be 5 _ _ (.bool (x5 == 1)) B5.out
      clear hs hf q4 y4
      go_wp2_with fail
      clear q5 y5
      have TQ := T5
      have CQ := C5
      have EQ := E5
      clear T5 C5 E5 X5 S5 F5 B5 T3 T4 C3 C4 E3 E4 X3 X4 S3 S4 F3 F4 B3 B4 BX RX FX
      generalize (v5.setCell ⟨be, 5, none⟩ (.bool (x5 == 1))) = wq at TQ CQ EQ ⊢
      have HMQ : Hid (Holds .i64 wq (.slice none 0 0) []) := nil_ints
      have HEQ0 : Hid (HE wq (.slice none 0 0) []) := nil_ents
      have FW := Lib.hid ((HF0.out.trans AR.out).new EQ.out (by simp <;> omega))
      have G0 := Lib.hid (EQ.out.heap (AR.out.heap HTB.out.1 (by simp)) (by simp <;> omega))
      have G1 := Lib.hid (EQ.out.heap (AR.out.heap HTB.out.2 (by simp)) (by simp <;> omega))
      by_cases hC : c5 = 0
      · subst hC
        refine (rok (w.heap.size + 1 + 1) (w.heap.size + 1 + 1) l k5 0 _ TQ.out true (yes rfl)).mono ?_
        rintro e we ⟨rfl, rfl⟩
        obtain ⟨D, hD⟩ : ∃ D : Nat, D = l.length - k5 := ⟨_, rfl⟩
        go_wp2_with fail
        refine (rleft (w.heap.size + 1 + 1) (w.heap.size + 1 + 1) l k5 0 _ TQ.out HLL.out).mono ?_
        rw [← hD]
        rintro e wf ⟨rfl, hff⟩
        have FWf := Lib.hid (FW.out.trans hff)
        have G0f := Lib.hid (hff.heap G0.out (by simp))
        have G1f := Lib.hid (hff.heap G1.out (by simp))
        have CQf := Lib.hid (hff.heap CQ.out (by simp))
        have HMf := Lib.hid (HMQ.out.keep hff)
        have HEf := Lib.hid (HEQ0.out.keep hff)
        clear hff
        by_cases hK : k5 < l.length
        · have HEQ : Hid (readF l = (zeroF, 2, false, 0)) := by
            show _ = _
            unfold readF
            rw [if_neg HAB.out.1, if_neg HAB.out.2, HBD.out, if_neg (by simp), if_pos hK]
          have qd : (0 : Int) < (D : Int) := by omega
          clear hK hD
          go_wp2_with fail
          refine (rbare 102 _).mono ?_
          rintro e wz ⟨rfl, hfz⟩
          unfold flt
          have FZ := Lib.hid (FWf.out.trans hfz)
          have Z0 := Lib.hid (hfz.heap G0f.out (by simp))
          have Z1 := Lib.hid (hfz.heap G1f.out (by simp))
          have r11 := row11 Z0.out
          have r3 := row3 Z1.out
          have za0 := frozen_of_row _ _ 0 _ _ Z0.out
          have za1 := frozen_of_row _ _ 1 _ _ Z0.out
          have za2 := frozen_of_row _ _ 2 _ _ Z0.out
          have za3 := frozen_of_row _ _ 3 _ _ Z0.out
          have za4 := frozen_of_row _ _ 4 _ _ Z0.out
          have za5 := frozen_of_row _ _ 5 _ _ Z0.out
          have za6 := frozen_of_row _ _ 6 _ _ Z0.out
          have za7 := frozen_of_row _ _ 7 _ _ Z0.out
          have za8 := frozen_of_row _ _ 8 _ _ Z0.out
          have za9 := frozen_of_row _ _ 9 _ _ Z0.out
          have za10 := frozen_of_row _ _ 10 _ _ Z0.out
          have zb0 := frozen_of_row _ _ 0 _ _ Z1.out
          have zb1 := frozen_of_row _ _ 1 _ _ Z1.out
          have zb2 := frozen_of_row _ _ 2 _ _ Z1.out
          clear hfz
          go_wp2
          have g11 := set11_row Z0.out (.int .i64 0) (.int .i64 0) (.int .i64 0) (.int .i64 0) (.int .i64 0) (.bool false) (.int .i64 0) (.int .i64 0) (.int .i64 0) (.slice none 0 0) (.slice none 0 0)
          have f11 := set11 wz w.heap.size (.int .i64 0) (.int .i64 0) (.int .i64 0) (.int .i64 0) (.int .i64 0) (.bool false) (.int .i64 0) (.int .i64 0) (.int .i64 0) (.slice none 0 0) (.slice none 0 0)
          have g1 := f11.heap Z1.out (by simp)
          have g3 := set3_row g1 (.int .i64 102) (.bool false) (.int .i64 0)
          have f3 := set3 (((((((((((wz.setCell ⟨w.heap.size, 0, none⟩ (.int .i64 0)).setCell ⟨w.heap.size, 1, none⟩ (.int .i64 0)).setCell ⟨w.heap.size, 2, none⟩ (.int .i64 0)).setCell ⟨w.heap.size, 3, none⟩ (.int .i64 0)).setCell ⟨w.heap.size, 4, none⟩ (.int .i64 0)).setCell ⟨w.heap.size, 5, none⟩ (.bool false)).setCell ⟨w.heap.size, 6, none⟩ (.int .i64 0)).setCell ⟨w.heap.size, 7, none⟩ (.int .i64 0)).setCell ⟨w.heap.size, 8, none⟩ (.int .i64 0)).setCell ⟨w.heap.size, 9, none⟩ (.slice none 0 0)).setCell ⟨w.heap.size, 10, none⟩ (.slice none 0 0)) (w.heap.size + 1) (.int .i64 102) (.bool false) (.int .i64 0)
          have g12 := f3.heap g11 (by simp)
          have hk := row11 g12
          have hk3 := row3 g3
          have HFF := Lib.hid (FZ.out.new (f11.comb f3 (U := [w.heap.size, w.heap.size + 1]) (by simp) (by simp)) (by simp))
          have HR : Hid (RReadE (readF l) w (.returned (.tuple #[.agg #[.int .i64 0, .int .i64 0, .int .i64 0, .int .i64 0, .int .i64 0, .bool false, .int .i64 0, .int .i64 0, .int .i64 0, .slice none 0 0, .slice none 0 0], .agg #[.int .i64 102, .bool false, .int .i64 0]])) ((((((((((((((wz.setCell ⟨w.heap.size, 0, none⟩ (.int .i64 0)).setCell ⟨w.heap.size, 1, none⟩ (.int .i64 0)).setCell ⟨w.heap.size, 2, none⟩ (.int .i64 0)).setCell ⟨w.heap.size, 3, none⟩ (.int .i64 0)).setCell ⟨w.heap.size, 4, none⟩ (.int .i64 0)).setCell ⟨w.heap.size, 5, none⟩ (.bool false)).setCell ⟨w.heap.size, 6, none⟩ (.int .i64 0)).setCell ⟨w.heap.size, 7, none⟩ (.int .i64 0)).setCell ⟨w.heap.size, 8, none⟩ (.int .i64 0)).setCell ⟨w.heap.size, 9, none⟩ (.slice none 0 0)).setCell ⟨w.heap.size, 10, none⟩ (.slice none 0 0)).setCell ⟨w.heap.size + 1, 0, none⟩ (.int .i64 102)).setCell ⟨w.heap.size + 1, 1, none⟩ (.bool false)).setCell ⟨w.heap.size + 1, 2, none⟩ (.int .i64 0))) := by
            show RReadE _ _ _ _
            rw [HEQ.out]
            exact ⟨HFF.out, _, _, rfl, nil_ints, nil_ents⟩
          clear g11 f11 g1 g3 f3 g12
          exact bodyPost_ret (v := .tuple #[.agg #[.int .i64 0, .int .i64 0, .int .i64 0, .int .i64 0, .int .i64 0, .bool false, .int .i64 0, .int .i64 0, .int .i64 0, .slice none 0 0, .slice none 0 0], .agg #[.int .i64 102, .bool false, .int .i64 0]]) (by simp [results, Tryd.results20, go_sem, hk, hk3]) rfl HR.out
        · obtain rfl : D = 0 := by omega
          have kq := row11 CQf.out
          have HKK := Lib.hid hK
          clear hD hK
          go_wp2_with fail
          have HVF := rvalid_frame (⟨1, x1, x2, x3, x4, x5 == 1, zeroR⟩ : F) (.slice none 0 0) (.slice none 0 0) _ HMf.out HEf.out
          unfold frV at HVF
          refine HVF.mono ?_
          clear HVF
          rintro e wg ⟨rfl, hfg⟩
          have FWg := Lib.hid (FWf.out.trans hfg)
          have G0g := Lib.hid (hfg.heap G0f.out (by simp))
          have G1g := Lib.hid (hfg.heap G1f.out (by simp))
          have CQg := Lib.hid (hfg.heap CQf.out (by simp))
          have HMg := Lib.hid (HMf.out.keep hfg)
          have HEg := Lib.hid (HEf.out.keep hfg)
          clear hfg kq
          obtain ⟨cd, hcd⟩ : ∃ cd, cd = frameC (⟨1, x1, x2, x3, x4, x5 == 1, zeroR⟩ : F) := ⟨_, rfl⟩
          rw [← hcd]
          have HCD := Lib.hid hcd
          clear hcd
          by_cases hfc : cd = 0
          · subst hfc
            rw [show dcode 0 = 0 from rfl]
            have HEQ : Hid (readF l = ((⟨1, x1, x2, x3, x4, x5 == 1, zeroR⟩ : F), 0, false, 0)) := by
              show _ = _
              unfold readF
              rw [if_neg HAB.out.1, if_neg HAB.out.2, HBD.out, if_neg (by simp), if_neg HKK.out, if_neg (by rw [← HCD.out]; simp)]
            go_wp2_with fail
            refine wp_region_noPanic ?_
            refine wp_region_held_drew (S := (fun a => C11 a be (⟨1, x1, x2, x3, x4, x5 == 1, ⟨0, 0, 0, [], []⟩⟩ : F) (.slice none 0 0) (.slice none 0 0))) (by kernel_rfl) (C11.of (f := (⟨1, x1, x2, x3, x4, x5 == 1, ⟨0, 0, 0, [], []⟩⟩ : F)) ((Fr.drew wg []).heap CQg.out (by simp))) (fun hHeld => ?_)
            refine wpAnyH_take (i := 0) (oi := _) (v := ?fv0q9) (by simp only [List.getElem?_toArray, List.getElem?_cons_zero]; rfl) (by kernel_rfl) (by kernel_rfl) (by kernel_rfl) (fun _ _ _ h => h) (Or.inl ⟨by rfl, ?fy0q9⟩) (by assumption) ?fr0q9
            case fy0q9 => (intro w hSw; (try dsimp only [C11] at hSw); go_simp; try with_reducible rfl)
            try simp only [Act.put, List.setIfInBounds_toArray, List.set_cons_zero, List.set_cons_succ]
            refine wpAnyH_ready (rs := [1]) (by kernel_rfl) (by simp) ?_
            refine AllReadyH.cons (o := _) rfl (fun K hK => ?_) ?_
            · go_simp
              refine (noFault_any _).mono ?_
              rintro e wn ⟨rfl, hgn⟩
              unfold flt
              have hfn := (Fr.drew wg []).trans (Fr.of_grown hgn [])
              have FWn := Lib.hid (FWg.out.trans hfn)
              have G0n := Lib.hid (hfn.heap G0g.out (by simp))
              have G1n := Lib.hid (hfn.heap G1g.out (by simp))
              have CQn := Lib.hid (hfn.heap CQg.out (by simp))
              clear hgn hfn
              have r11 := row11 G0n.out
              have za0 := frozen_of_row _ _ 0 _ _ G0n.out
              have za1 := frozen_of_row _ _ 1 _ _ G0n.out
              have za2 := frozen_of_row _ _ 2 _ _ G0n.out
              have za3 := frozen_of_row _ _ 3 _ _ G0n.out
              have za4 := frozen_of_row _ _ 4 _ _ G0n.out
              have za5 := frozen_of_row _ _ 5 _ _ G0n.out
              have za6 := frozen_of_row _ _ 6 _ _ G0n.out
              have za7 := frozen_of_row _ _ 7 _ _ G0n.out
              have za8 := frozen_of_row _ _ 8 _ _ G0n.out
              have za9 := frozen_of_row _ _ 9 _ _ G0n.out
              have za10 := frozen_of_row _ _ 10 _ _ G0n.out
              go_wp2_with fail
              refine hK.out _ _ (C11.of (f := (⟨1, x1, x2, x3, x4, x5 == 1, ⟨0, 0, 0, [], []⟩⟩ : F)) CQn.out) (fun hHeld => ?_)
              clear hK K
              try simp only [Act.put, List.setIfInBounds_toArray, List.set_cons_zero, List.set_cons_succ]
              refine wpAnyH_ready (rs := [2]) (by kernel_rfl) (by simp) ?_
              refine AllReadyH.cons (o := _) rfl (fun K hK => ?_) ?_
              · go_simp
                have CQ2 := Lib.hid ((set11 wn w.heap.size (.int .i64 1) (.int .i64 x1) (.int .i64 x2) (.int .i64 x3) (.int .i64 x4) (.bool (x5 == 1)) (.int .i64 0) (.int .i64 0) (.int .i64 0) (.slice none 0 0) (.slice none 0 0)).heap CQn.out (by simp <;> omega))
                have G12 := Lib.hid ((set11 wn w.heap.size (.int .i64 1) (.int .i64 x1) (.int .i64 x2) (.int .i64 x3) (.int .i64 x4) (.bool (x5 == 1)) (.int .i64 0) (.int .i64 0) (.int .i64 0) (.slice none 0 0) (.slice none 0 0)).heap G1n.out (by simp))
                have r3 := row3 G12.out
                have zb0 := frozen_of_row _ _ 0 _ _ G12.out
                have zb1 := frozen_of_row _ _ 1 _ _ G12.out
                have zb2 := frozen_of_row _ _ 2 _ _ G12.out
                refine hK.out _ _ (C11.of (f := (⟨1, x1, x2, x3, x4, x5 == 1, ⟨0, 0, 0, [], []⟩⟩ : F)) CQ2.out) (fun hHeld => ?_)
                clear hK K
                try simp only [Act.put, List.setIfInBounds_toArray, List.set_cons_zero, List.set_cons_succ]
                refine wpAnyH_ready (rs := [3]) (by kernel_rfl) (by simp) ?_
                refine AllReadyH.cons (o := _) rfl (fun K hK => ?_) ?_
                · go_simp
                  refine hK.out _ _ (C11.of (f := (⟨1, x1, x2, x3, x4, x5 == 1, ⟨0, 0, 0, [], []⟩⟩ : F)) ((set3 (((((((((((wn.setCell ⟨w.heap.size, 0, none⟩ (.int .i64 1)).setCell ⟨w.heap.size, 1, none⟩ (.int .i64 x1)).setCell ⟨w.heap.size, 2, none⟩ (.int .i64 x2)).setCell ⟨w.heap.size, 3, none⟩ (.int .i64 x3)).setCell ⟨w.heap.size, 4, none⟩ (.int .i64 x4)).setCell ⟨w.heap.size, 5, none⟩ (.bool (x5 == 1))).setCell ⟨w.heap.size, 6, none⟩ (.int .i64 0)).setCell ⟨w.heap.size, 7, none⟩ (.int .i64 0)).setCell ⟨w.heap.size, 8, none⟩ (.int .i64 0)).setCell ⟨w.heap.size, 9, none⟩ (.slice none 0 0)).setCell ⟨w.heap.size, 10, none⟩ (.slice none 0 0)) (w.heap.size + 1) (.int .i64 0) (.bool false) (.int .i64 0)).heap CQ2.out (by simp <;> omega))) (fun hHeld => ?_)
                  clear hK K
                  try simp only [Act.put, List.setIfInBounds_toArray, List.set_cons_zero, List.set_cons_succ]
                  refine wpAnyH_done (by kernel_rfl) ?_ _
                  refine NoPanic.normal ?_
                  clear r11 r3 za0 za1 za2 za3 za4 za5 za6 za7 za8 za9 za10 zb0 zb1 zb2
                  go_wp2
                  have g11 := set11_row G0n.out (.int .i64 1) (.int .i64 x1) (.int .i64 x2) (.int .i64 x3) (.int .i64 x4) (.bool (x5 == 1)) (.int .i64 0) (.int .i64 0) (.int .i64 0) (.slice none 0 0) (.slice none 0 0)
                  have f11 := set11 wn w.heap.size (.int .i64 1) (.int .i64 x1) (.int .i64 x2) (.int .i64 x3) (.int .i64 x4) (.bool (x5 == 1)) (.int .i64 0) (.int .i64 0) (.int .i64 0) (.slice none 0 0) (.slice none 0 0)
                  have g1 := f11.heap G1n.out (by simp)
                  have g3 := set3_row g1 (.int .i64 0) (.bool false) (.int .i64 0)
                  have f3 := set3 (((((((((((wn.setCell ⟨w.heap.size, 0, none⟩ (.int .i64 1)).setCell ⟨w.heap.size, 1, none⟩ (.int .i64 x1)).setCell ⟨w.heap.size, 2, none⟩ (.int .i64 x2)).setCell ⟨w.heap.size, 3, none⟩ (.int .i64 x3)).setCell ⟨w.heap.size, 4, none⟩ (.int .i64 x4)).setCell ⟨w.heap.size, 5, none⟩ (.bool (x5 == 1))).setCell ⟨w.heap.size, 6, none⟩ (.int .i64 0)).setCell ⟨w.heap.size, 7, none⟩ (.int .i64 0)).setCell ⟨w.heap.size, 8, none⟩ (.int .i64 0)).setCell ⟨w.heap.size, 9, none⟩ (.slice none 0 0)).setCell ⟨w.heap.size, 10, none⟩ (.slice none 0 0)) (w.heap.size + 1) (.int .i64 0) (.bool false) (.int .i64 0)
                  have g12 := f3.heap g11 (by simp)
                  have hk := row11 g12
                  have hk3 := row3 g3
                  have HFF := Lib.hid (FWn.out.new (f11.comb f3 (U := [w.heap.size, w.heap.size + 1]) (by simp) (by simp)) (by simp))
                  have HR : Hid (RReadE (readF l) w (.returned (.tuple #[.agg #[.int .i64 1, .int .i64 x1, .int .i64 x2, .int .i64 x3, .int .i64 x4, .bool (x5 == 1), .int .i64 0, .int .i64 0, .int .i64 0, .slice none 0 0, .slice none 0 0], .agg #[.int .i64 0, .bool false, .int .i64 0]])) ((((((((((((((wn.setCell ⟨w.heap.size, 0, none⟩ (.int .i64 1)).setCell ⟨w.heap.size, 1, none⟩ (.int .i64 x1)).setCell ⟨w.heap.size, 2, none⟩ (.int .i64 x2)).setCell ⟨w.heap.size, 3, none⟩ (.int .i64 x3)).setCell ⟨w.heap.size, 4, none⟩ (.int .i64 x4)).setCell ⟨w.heap.size, 5, none⟩ (.bool (x5 == 1))).setCell ⟨w.heap.size, 6, none⟩ (.int .i64 0)).setCell ⟨w.heap.size, 7, none⟩ (.int .i64 0)).setCell ⟨w.heap.size, 8, none⟩ (.int .i64 0)).setCell ⟨w.heap.size, 9, none⟩ (.slice none 0 0)).setCell ⟨w.heap.size, 10, none⟩ (.slice none 0 0)).setCell ⟨w.heap.size + 1, 0, none⟩ (.int .i64 0)).setCell ⟨w.heap.size + 1, 1, none⟩ (.bool false)).setCell ⟨w.heap.size + 1, 2, none⟩ (.int .i64 0))) := by
                    show RReadE _ _ _ _
                    rw [HEQ.out]
                    exact ⟨HFF.out, (.slice none 0 0), (.slice none 0 0), rfl, nil_ints, nil_ents⟩
                  clear g11 f11 g1 g3 f3 g12
                  exact bodyPost_ret (v := .tuple #[.agg #[.int .i64 1, .int .i64 x1, .int .i64 x2, .int .i64 x3, .int .i64 x4, .bool (x5 == 1), .int .i64 0, .int .i64 0, .int .i64 0, .slice none 0 0, .slice none 0 0], .agg #[.int .i64 0, .bool false, .int .i64 0]]) (by simp [results, Tryd.results20, go_sem, hk, hk3]) rfl HR.out
                exact AllReadyH.nil
              exact AllReadyH.nil
            exact AllReadyH.nil
          · have HEQ : Hid (readF l = (zeroF, cd, false, 0)) := by
              show _ = _
              unfold readF
              rw [if_neg HAB.out.1, if_neg HAB.out.2, HBD.out, if_neg (by simp), if_neg HKK.out]
              simp only
              rw [if_pos (by rw [← HCD.out]; exact hfc), HCD.out]
            have hdc := dcode_ne hfc
            clear hfc
            obtain ⟨dc, hdd⟩ : ∃ dc, dc = dcode cd := ⟨_, rfl⟩
            rw [← hdd] at hdc ⊢
            have HDD := Lib.hid hdd
            clear hdd
            go_wp2_with fail
            refine (rbare dc _).mono ?_
            rintro e wz ⟨rfl, hfz⟩
            unfold flt
            have FZ := Lib.hid (FWg.out.trans hfz)
            have Z0 := Lib.hid (hfz.heap G0g.out (by simp))
            have Z1 := Lib.hid (hfz.heap G1g.out (by simp))
            have r11 := row11 Z0.out
            have r3 := row3 Z1.out
            have za0 := frozen_of_row _ _ 0 _ _ Z0.out
            have za1 := frozen_of_row _ _ 1 _ _ Z0.out
            have za2 := frozen_of_row _ _ 2 _ _ Z0.out
            have za3 := frozen_of_row _ _ 3 _ _ Z0.out
            have za4 := frozen_of_row _ _ 4 _ _ Z0.out
            have za5 := frozen_of_row _ _ 5 _ _ Z0.out
            have za6 := frozen_of_row _ _ 6 _ _ Z0.out
            have za7 := frozen_of_row _ _ 7 _ _ Z0.out
            have za8 := frozen_of_row _ _ 8 _ _ Z0.out
            have za9 := frozen_of_row _ _ 9 _ _ Z0.out
            have za10 := frozen_of_row _ _ 10 _ _ Z0.out
            have zb0 := frozen_of_row _ _ 0 _ _ Z1.out
            have zb1 := frozen_of_row _ _ 1 _ _ Z1.out
            have zb2 := frozen_of_row _ _ 2 _ _ Z1.out
            clear hfz
            go_wp2
            have g11 := set11_row Z0.out (.int .i64 0) (.int .i64 0) (.int .i64 0) (.int .i64 0) (.int .i64 0) (.bool false) (.int .i64 0) (.int .i64 0) (.int .i64 0) (.slice none 0 0) (.slice none 0 0)
            have f11 := set11 wz w.heap.size (.int .i64 0) (.int .i64 0) (.int .i64 0) (.int .i64 0) (.int .i64 0) (.bool false) (.int .i64 0) (.int .i64 0) (.int .i64 0) (.slice none 0 0) (.slice none 0 0)
            have g1 := f11.heap Z1.out (by simp)
            have g3 := set3_row g1 (.int .i64 dc) (.bool false) (.int .i64 0)
            have f3 := set3 (((((((((((wz.setCell ⟨w.heap.size, 0, none⟩ (.int .i64 0)).setCell ⟨w.heap.size, 1, none⟩ (.int .i64 0)).setCell ⟨w.heap.size, 2, none⟩ (.int .i64 0)).setCell ⟨w.heap.size, 3, none⟩ (.int .i64 0)).setCell ⟨w.heap.size, 4, none⟩ (.int .i64 0)).setCell ⟨w.heap.size, 5, none⟩ (.bool false)).setCell ⟨w.heap.size, 6, none⟩ (.int .i64 0)).setCell ⟨w.heap.size, 7, none⟩ (.int .i64 0)).setCell ⟨w.heap.size, 8, none⟩ (.int .i64 0)).setCell ⟨w.heap.size, 9, none⟩ (.slice none 0 0)).setCell ⟨w.heap.size, 10, none⟩ (.slice none 0 0)) (w.heap.size + 1) (.int .i64 dc) (.bool false) (.int .i64 0)
            have g12 := f3.heap g11 (by simp)
            have hk := row11 g12
            have hk3 := row3 g3
            have HFF := Lib.hid (FZ.out.new (f11.comb f3 (U := [w.heap.size, w.heap.size + 1]) (by simp) (by simp)) (by simp))
            have HR : Hid (RReadE (readF l) w (.returned (.tuple #[.agg #[.int .i64 0, .int .i64 0, .int .i64 0, .int .i64 0, .int .i64 0, .bool false, .int .i64 0, .int .i64 0, .int .i64 0, .slice none 0 0, .slice none 0 0], .agg #[.int .i64 dc, .bool false, .int .i64 0]])) ((((((((((((((wz.setCell ⟨w.heap.size, 0, none⟩ (.int .i64 0)).setCell ⟨w.heap.size, 1, none⟩ (.int .i64 0)).setCell ⟨w.heap.size, 2, none⟩ (.int .i64 0)).setCell ⟨w.heap.size, 3, none⟩ (.int .i64 0)).setCell ⟨w.heap.size, 4, none⟩ (.int .i64 0)).setCell ⟨w.heap.size, 5, none⟩ (.bool false)).setCell ⟨w.heap.size, 6, none⟩ (.int .i64 0)).setCell ⟨w.heap.size, 7, none⟩ (.int .i64 0)).setCell ⟨w.heap.size, 8, none⟩ (.int .i64 0)).setCell ⟨w.heap.size, 9, none⟩ (.slice none 0 0)).setCell ⟨w.heap.size, 10, none⟩ (.slice none 0 0)).setCell ⟨w.heap.size + 1, 0, none⟩ (.int .i64 dc)).setCell ⟨w.heap.size + 1, 1, none⟩ (.bool false)).setCell ⟨w.heap.size + 1, 2, none⟩ (.int .i64 0))) := by
              show RReadE _ _ _ _
              rw [HEQ.out]
              refine ⟨HFF.out, .slice none 0 0, .slice none 0 0, ?_, nil_ints, nil_ents⟩
              show _ = Ending.returned (.tuple #[frV zeroF _ _, flt (dcode cd) false 0])
              rw [← HDD.out]
              rfl
            clear g11 f11 g1 g3 f3 g12
            exact bodyPost_ret (v := .tuple #[.agg #[.int .i64 0, .int .i64 0, .int .i64 0, .int .i64 0, .int .i64 0, .bool false, .int .i64 0, .int .i64 0, .int .i64 0, .slice none 0 0, .slice none 0 0], .agg #[.int .i64 dc, .bool false, .int .i64 0]]) (by simp [results, Tryd.results20, go_sem, hk, hk3]) rfl HR.out
      · have HNO := Lib.hid (no hC)
        have HEQ : Hid (readF l = (zeroF, c5, true, k5)) := by
          show _ = _
          unfold readF
          rw [if_neg HAB.out.1, if_neg HAB.out.2, HBD.out, if_pos hC]
        refine (rok (w.heap.size + 1 + 1) (w.heap.size + 1 + 1) l k5 c5 _ TQ.out false HNO.out).mono ?_
        rintro e we ⟨rfl, rfl⟩
        obtain ⟨vr, hp0, _⟩ := TQ.out
        have hp : wq.heap[w.heap.size + 1 + 1]? = some (.cells #[vr, .int .i64 (k5 : Int), .int .i64 (dcode c5), .bool true, .int .i64 (k5 : Int)] 85 (0, 0)) := by
          have h := hp0
          unfold rrC at h
          rw [if_neg hC, ← HNO.out] at h
          exact h
        obtain ⟨dc, hdd⟩ : ∃ dc, dc = dcode c5 := ⟨_, rfl⟩
        rw [← hdd] at hp
        have HDD := Lib.hid hdd
        have r5 := row5 hp
        have r11 := row11 G0.out
        have r3 := row3 G1.out
        have za0 := frozen_of_row _ _ 0 _ _ G0.out
        have za1 := frozen_of_row _ _ 1 _ _ G0.out
        have za2 := frozen_of_row _ _ 2 _ _ G0.out
        have za3 := frozen_of_row _ _ 3 _ _ G0.out
        have za4 := frozen_of_row _ _ 4 _ _ G0.out
        have za5 := frozen_of_row _ _ 5 _ _ G0.out
        have za6 := frozen_of_row _ _ 6 _ _ G0.out
        have za7 := frozen_of_row _ _ 7 _ _ G0.out
        have za8 := frozen_of_row _ _ 8 _ _ G0.out
        have za9 := frozen_of_row _ _ 9 _ _ G0.out
        have za10 := frozen_of_row _ _ 10 _ _ G0.out
        have zb0 := frozen_of_row _ _ 0 _ _ G1.out
        have zb1 := frozen_of_row _ _ 1 _ _ G1.out
        have zb2 := frozen_of_row _ _ 2 _ _ G1.out
        clear hp hp0 hdd hC
        go_wp2_with fail
        go_region
        clear r5 r11 r3 za0 za1 za2 za3 za4 za5 za6 za7 za8 za9 za10 zb0 zb1 zb2
        go_wp2
        have g11 := set11_row G0.out (.int .i64 0) (.int .i64 0) (.int .i64 0) (.int .i64 0) (.int .i64 0) (.bool false) (.int .i64 0) (.int .i64 0) (.int .i64 0) (.slice none 0 0) (.slice none 0 0)
        have f11 := set11 wq w.heap.size (.int .i64 0) (.int .i64 0) (.int .i64 0) (.int .i64 0) (.int .i64 0) (.bool false) (.int .i64 0) (.int .i64 0) (.int .i64 0) (.slice none 0 0) (.slice none 0 0)
        have g1 := f11.heap G1.out (by simp)
        have g3 := set3_row g1 (.int .i64 dc) (.bool true) (.int .i64 (k5 : Int))
        have f3 := set3 (((((((((((wq.setCell ⟨w.heap.size, 0, none⟩ (.int .i64 0)).setCell ⟨w.heap.size, 1, none⟩ (.int .i64 0)).setCell ⟨w.heap.size, 2, none⟩ (.int .i64 0)).setCell ⟨w.heap.size, 3, none⟩ (.int .i64 0)).setCell ⟨w.heap.size, 4, none⟩ (.int .i64 0)).setCell ⟨w.heap.size, 5, none⟩ (.bool false)).setCell ⟨w.heap.size, 6, none⟩ (.int .i64 0)).setCell ⟨w.heap.size, 7, none⟩ (.int .i64 0)).setCell ⟨w.heap.size, 8, none⟩ (.int .i64 0)).setCell ⟨w.heap.size, 9, none⟩ (.slice none 0 0)).setCell ⟨w.heap.size, 10, none⟩ (.slice none 0 0)) (w.heap.size + 1) (.int .i64 dc) (.bool true) (.int .i64 (k5 : Int))
        have g12 := f3.heap g11 (by simp)
        have g12 := (Fr.drew ((((((((((((((wq.setCell ⟨w.heap.size, 0, none⟩ (.int .i64 0)).setCell ⟨w.heap.size, 1, none⟩ (.int .i64 0)).setCell ⟨w.heap.size, 2, none⟩ (.int .i64 0)).setCell ⟨w.heap.size, 3, none⟩ (.int .i64 0)).setCell ⟨w.heap.size, 4, none⟩ (.int .i64 0)).setCell ⟨w.heap.size, 5, none⟩ (.bool false)).setCell ⟨w.heap.size, 6, none⟩ (.int .i64 0)).setCell ⟨w.heap.size, 7, none⟩ (.int .i64 0)).setCell ⟨w.heap.size, 8, none⟩ (.int .i64 0)).setCell ⟨w.heap.size, 9, none⟩ (.slice none 0 0)).setCell ⟨w.heap.size, 10, none⟩ (.slice none 0 0)).setCell ⟨w.heap.size + 1, 0, none⟩ (.int .i64 dc)).setCell ⟨w.heap.size + 1, 1, none⟩ (.bool true)).setCell ⟨w.heap.size + 1, 2, none⟩ (.int .i64 (k5 : Int))) []).heap g12 (by simp)
        have g3 := (Fr.drew ((((((((((((((wq.setCell ⟨w.heap.size, 0, none⟩ (.int .i64 0)).setCell ⟨w.heap.size, 1, none⟩ (.int .i64 0)).setCell ⟨w.heap.size, 2, none⟩ (.int .i64 0)).setCell ⟨w.heap.size, 3, none⟩ (.int .i64 0)).setCell ⟨w.heap.size, 4, none⟩ (.int .i64 0)).setCell ⟨w.heap.size, 5, none⟩ (.bool false)).setCell ⟨w.heap.size, 6, none⟩ (.int .i64 0)).setCell ⟨w.heap.size, 7, none⟩ (.int .i64 0)).setCell ⟨w.heap.size, 8, none⟩ (.int .i64 0)).setCell ⟨w.heap.size, 9, none⟩ (.slice none 0 0)).setCell ⟨w.heap.size, 10, none⟩ (.slice none 0 0)).setCell ⟨w.heap.size + 1, 0, none⟩ (.int .i64 dc)).setCell ⟨w.heap.size + 1, 1, none⟩ (.bool true)).setCell ⟨w.heap.size + 1, 2, none⟩ (.int .i64 (k5 : Int))) []).heap g3 (by simp)
        have hk := row11 g12
        have hk3 := row3 g3
        have HFF := Lib.hid ((FW.out.new (f11.comb f3 (U := [w.heap.size, w.heap.size + 1]) (by simp) (by simp)) (by simp)).trans (Fr.drew _ []))
        have HR : Hid (RReadE (readF l) w (.returned (.tuple #[.agg #[.int .i64 0, .int .i64 0, .int .i64 0, .int .i64 0, .int .i64 0, .bool false, .int .i64 0, .int .i64 0, .int .i64 0, .slice none 0 0, .slice none 0 0], .agg #[.int .i64 dc, .bool true, .int .i64 (k5 : Int)]])) ((((((((((((((wq.setCell ⟨w.heap.size, 0, none⟩ (.int .i64 0)).setCell ⟨w.heap.size, 1, none⟩ (.int .i64 0)).setCell ⟨w.heap.size, 2, none⟩ (.int .i64 0)).setCell ⟨w.heap.size, 3, none⟩ (.int .i64 0)).setCell ⟨w.heap.size, 4, none⟩ (.int .i64 0)).setCell ⟨w.heap.size, 5, none⟩ (.bool false)).setCell ⟨w.heap.size, 6, none⟩ (.int .i64 0)).setCell ⟨w.heap.size, 7, none⟩ (.int .i64 0)).setCell ⟨w.heap.size, 8, none⟩ (.int .i64 0)).setCell ⟨w.heap.size, 9, none⟩ (.slice none 0 0)).setCell ⟨w.heap.size, 10, none⟩ (.slice none 0 0)).setCell ⟨w.heap.size + 1, 0, none⟩ (.int .i64 dc)).setCell ⟨w.heap.size + 1, 1, none⟩ (.bool true)).setCell ⟨w.heap.size + 1, 2, none⟩ (.int .i64 (k5 : Int))).drew) := by
          show RReadE _ _ _ _
          rw [HEQ.out]
          refine ⟨HFF.out, .slice none 0 0, .slice none 0 0, ?_, nil_ints, nil_ents⟩
          show _ = Ending.returned (.tuple #[frV zeroF _ _, flt (dcode c5) true (k5 : Int)])
          rw [← HDD.out]
          rfl
        clear g11 f11 g1 g3 f3 g12
        exact bodyPost_ret (v := .tuple #[.agg #[.int .i64 0, .int .i64 0, .int .i64 0, .int .i64 0, .int .i64 0, .bool false, .int .i64 0, .int .i64 0, .int .i64 0, .slice none 0 0, .slice none 0 0], .agg #[.int .i64 dc, .bool true, .int .i64 (k5 : Int)]]) (by simp [results, Tryd.results20, go_sem, hk, hk3]) rfl HR.out
  · skip
    go_enter Tryd.func20, Tryd.ntmps20
    go_wp2_with fail
    go_cut [6] (fun s6 wx => ∃ be : Nat, s6 = .pointer (some ⟨be, 0, none⟩) ∧ wx.heap[be]? = some (.cells #[.int .i64 2, .int .i64 x1, .int .i64 x2, .int .i64 0, .int .i64 0, .bool false, .int .i64 0, .int .i64 0, .int .i64 0, .slice none 0 0, .slice none 0 0] 29 (0, 0)) ∧ w.heap.size + 1 + 1 + 1 ≤ be ∧ RR wx (w.heap.size + 1 + 1) (w.heap.size + 1 + 1) l k2 c2 ∧ Fr (((w.alloc (.cells #[.int .i64 0, .int .i64 0, .int .i64 0, .int .i64 0, .int .i64 0, .bool false, .int .i64 0, .int .i64 0, .int .i64 0, .slice none 0 0, .slice none 0 0] 29)).alloc (.cells #[.int .i64 0, .bool false, .int .i64 0] 47)).alloc (.cells #[.slice (some ⟨bl, off, none⟩) l.length cv, .int .i64 2, .int .i64 0, .bool false, .int .i64 0] 85)) wx [(w.heap.size + 1 + 1)])
    case first =>
      refine wp_region_noPanic ?_
      refine wp_region_held_drew (S := fun a => a.cell? ⟨bl, off + 1, none⟩ = some (.int .u8 2)) (by kernel_rfl) ((Fr.drew _ []).cell (AR.out.cell c1 (by simp)) (by simp)) (fun hHeld => ?_)
      have cy := (Fr.drew (((w.alloc (.cells #[.int .i64 0, .int .i64 0, .int .i64 0, .int .i64 0, .int .i64 0, .bool false, .int .i64 0, .int .i64 0, .int .i64 0, .slice none 0 0, .slice none 0 0] 29)).alloc (.cells #[.int .i64 0, .bool false, .int .i64 0] 47)).alloc (.cells #[.slice (some ⟨bl, off, none⟩) l.length cv, .int .i64 2, .int .i64 0, .bool false, .int .i64 0] 85)) []).cell (AR.out.cell c1 (by simp)) (by simp)
      have R0 := Lib.hid (SR3.out.keep (Fr.drew _ []))
      have F0 := Lib.hid (Fr.drew (((w.alloc (.cells #[.int .i64 0, .int .i64 0, .int .i64 0, .int .i64 0, .int .i64 0, .bool false, .int .i64 0, .int .i64 0, .int .i64 0, .slice none 0 0, .slice none 0 0] 29)).alloc (.cells #[.int .i64 0, .bool false, .int .i64 0] 47)).alloc (.cells #[.slice (some ⟨bl, off, none⟩) l.length cv, .int .i64 2, .int .i64 0, .bool false, .int .i64 0] 85)) [(w.heap.size + 1 + 1)])
      refine wpAnyH_take (i := 0) (oi := _) (v := ?fv0q15) (by simp only [List.getElem?_toArray, List.getElem?_cons_zero]; rfl) (by kernel_rfl) (by kernel_rfl) (by kernel_rfl) (fun _ _ _ h => h) (Or.inl ⟨by rfl, ?fy0q15⟩) (by assumption) ?fr0q15
      case fy0q15 => (intro w hSw; (try dsimp only at hSw); go_simp; try with_reducible rfl)
      try simp only [Act.put, List.setIfInBounds_toArray, List.set_cons_zero, List.set_cons_succ]
      refine wpAnyH_take (i := 1) (oi := _) (v := ?fv1q15) (by simp only [List.getElem?_toArray, List.getElem?_cons_zero, List.getElem?_cons_succ]; rfl) (by kernel_rfl) (by kernel_rfl) (by kernel_rfl) (fun _ _ _ h => h) (Or.inl ⟨by rfl, ?fy1q15⟩) (by assumption) ?fr1q15
      case fy1q15 => (intro w hSw; (try dsimp only at hSw); go_simp; try with_reducible rfl)
      try simp only [Act.put, List.setIfInBounds_toArray, List.set_cons_zero, List.set_cons_succ]
      refine wpAnyH_take (i := 2) (oi := _) (v := ?fv2q15) (by simp only [List.getElem?_toArray, List.getElem?_cons_zero, List.getElem?_cons_succ]; rfl) (by kernel_rfl) (by kernel_rfl) (by kernel_rfl) (fun _ _ _ h => h) (Or.inl ⟨by rfl, ?fy2q15⟩) (by assumption) ?fr2q15
      case fy2q15 => (intro w hSw; (try dsimp only at hSw); go_simp; try with_reducible rfl)
      try simp only [Act.put, List.setIfInBounds_toArray, List.set_cons_zero, List.set_cons_succ]
      refine wpAnyH_take (i := 3) (oi := _) (v := ?fv3q15) (by simp only [List.getElem?_toArray, List.getElem?_cons_zero, List.getElem?_cons_succ]; rfl) (by kernel_rfl) (by kernel_rfl) (by kernel_rfl) (fun _ _ _ h => h) (Or.inl ⟨by rfl, ?fy3q15⟩) (by assumption) ?fr3q15
      case fy3q15 => (intro w hSw; (try dsimp only at hSw); go_simp; try with_reducible rfl)
      try simp only [Act.put, List.setIfInBounds_toArray, List.set_cons_zero, List.set_cons_succ]
      refine wpAnyH_take (i := 4) (oi := _) (v := ?fv4q15) (by simp only [List.getElem?_toArray, List.getElem?_cons_zero, List.getElem?_cons_succ]; rfl) (by kernel_rfl) (by kernel_rfl) (by kernel_rfl) (fun _ _ _ h => h) (Or.inl ⟨by rfl, ?fy4q15⟩) (by assumption) ?fr4q15
      case fy4q15 => (intro w hSw; (try dsimp only at hSw); go_simp; try with_reducible rfl)
      try simp only [Act.put, List.setIfInBounds_toArray, List.set_cons_zero, List.set_cons_succ]
      refine wpAnyH_take (i := 5) (oi := _) (v := ?fv5q15) (by simp only [List.getElem?_toArray, List.getElem?_cons_zero, List.getElem?_cons_succ]; rfl) (by kernel_rfl) (by kernel_rfl) (by kernel_rfl) (fun _ _ _ h => h) (Or.inl ⟨by rfl, ?fy5q15⟩) (by assumption) ?fr5q15
      case fy5q15 => (intro w hSw; (try dsimp only at hSw); go_simp; try with_reducible rfl)
      try simp only [Act.put, List.setIfInBounds_toArray, List.set_cons_zero, List.set_cons_succ]
      refine wpAnyH_take (i := 7) (oi := _) (v := ?fv7q15) (by simp only [List.getElem?_toArray, List.getElem?_cons_zero, List.getElem?_cons_succ]; rfl) (by kernel_rfl) (by kernel_rfl) (by kernel_rfl) (fun _ _ _ h => h) (Or.inl ⟨by rfl, ?fy7q15⟩) (by assumption) ?fr7q15
      case fy7q15 => (intro w hSw; (try dsimp only at hSw); go_simp; try with_reducible rfl)
      try simp only [Act.put, List.setIfInBounds_toArray, List.set_cons_zero, List.set_cons_succ]
      refine wpAnyH_take (i := 8) (oi := _) (v := ?fv8q15) (by simp only [List.getElem?_toArray, List.getElem?_cons_zero, List.getElem?_cons_succ]; rfl) (by kernel_rfl) (by kernel_rfl) (by kernel_rfl) (fun _ _ _ h => h) (Or.inl ⟨by rfl, ?fy8q15⟩) (by assumption) ?fr8q15
      case fy8q15 => (intro w hSw; (try dsimp only at hSw); go_simp; try with_reducible rfl)
      try simp only [Act.put, List.setIfInBounds_toArray, List.set_cons_zero, List.set_cons_succ]
      refine wpAnyH_ready (rs := [6, 11]) (by kernel_rfl) (by simp) ?_
      refine AllReadyH.cons (o := _) rfl (fun K hK => ?_) ?_
      · go_simp
        refine (rnum (w.heap.size + 1 + 1) (w.heap.size + 1 + 1) l 2 0 0 15 _ R0.out HBY.out HLL.out x1 k1 c1' N1.out).mono ?_
        rintro e wa ⟨rfl, hra, hfa⟩
        have RA := Lib.hid hra
        have FA := Lib.hid (F0.out.trans hfa)
        have ca := hfa.cell (cy) (by simp <;> omega)
        clear hra hfa
        go_wp2_with fail
        refine hK.out _ _ ca (fun hHeld => ?_)
        clear hK K
        try simp only [Act.put, List.setIfInBounds_toArray, List.set_cons_zero, List.set_cons_succ]
        refine wpAnyH_ready (rs := [9, 11]) (by kernel_rfl) (by simp) ?_
        refine AllReadyH.cons (o := _) rfl (fun K hK => ?_) ?_
        · go_simp
          refine (rnum (w.heap.size + 1 + 1) (w.heap.size + 1 + 1) l k1 c1' 0 15 _ RA.out HBY.out HLL.out x2 k2 c2 N2.out).mono ?_
          rintro e wb ⟨rfl, hrb, hfb⟩
          have RB := Lib.hid hrb
          have FB := Lib.hid (FA.out.trans hfb)
          have cb := hfb.cell (ca) (by simp <;> omega)
          clear hrb hfb
          go_wp2_with fail
          refine hK.out _ _ cb (fun hHeld => ?_)
          clear hK K
          try simp only [Act.put, List.setIfInBounds_toArray, List.set_cons_zero, List.set_cons_succ]
          refine wpAnyH_take (i := 10) (oi := _) (v := ?fv10q16) (by simp only [List.getElem?_toArray, List.getElem?_cons_zero, List.getElem?_cons_succ]; rfl) (by kernel_rfl) (by kernel_rfl) (by kernel_rfl) (fun _ _ _ h => h) (Or.inl ⟨by rfl, ?fy10q16⟩) (by assumption) ?fr10q16
          case fy10q16 => (intro w hSw; (try dsimp only at hSw); go_simp; try with_reducible rfl)
          try simp only [Act.put, List.setIfInBounds_toArray, List.set_cons_zero, List.set_cons_succ]
          refine wpAnyH_ready (rs := [11]) (by kernel_rfl) (by simp) ?_
          refine AllReadyH.cons (o := _) rfl (fun K hK => ?_) ?_
          · go_simp
            have RXb := Lib.hid (RB.out.keep (Fr.alloc wb (.cells #[.int .i64 0, .int .i64 0, .int .i64 0, .int .i64 0, .int .i64 0, .bool false, .int .i64 0, .int .i64 0, .int .i64 0, .slice none 0 0, .slice none 0 0] 29) []))
            have FXb := Lib.hid (FB.out.trans (Fr.alloc wb (.cells #[.int .i64 0, .int .i64 0, .int .i64 0, .int .i64 0, .int .i64 0, .bool false, .int .i64 0, .int .i64 0, .int .i64 0, .slice none 0 0, .slice none 0 0] 29) [(w.heap.size + 1 + 1)]))
            have cxb := (Fr.alloc wb (.cells #[.int .i64 0, .int .i64 0, .int .i64 0, .int .i64 0, .int .i64 0, .bool false, .int .i64 0, .int .i64 0, .int .i64 0, .slice none 0 0, .slice none 0 0] 29) []).cell (cb) (by simp)
            have BXb := Lib.hid (heap_alloc_new wb (.cells #[.int .i64 0, .int .i64 0, .int .i64 0, .int .i64 0, .int .i64 0, .bool false, .int .i64 0, .int .i64 0, .int .i64 0, .slice none 0 0, .slice none 0 0] 29))
            refine hK.out _ _ cxb (fun hHeld => ?_)
            clear hK K
            try simp only [Act.put, List.setIfInBounds_toArray, List.set_cons_zero, List.set_cons_succ]
            have hsz : w.heap.size + 1 + 1 + 1 ≤ wb.heap.size := by have h := FB.out.size; simpa using h
            have RRW := Lib.hid (RB.out.keep (Fr.alloc wb (.cells #[.int .i64 2, .int .i64 x1, .int .i64 x2, .int .i64 0, .int .i64 0, .bool false, .int .i64 0, .int .i64 0, .int .i64 0, .slice none 0 0, .slice none 0 0] 29) []))
            have FRW := Lib.hid (FB.out.trans (Fr.alloc wb (.cells #[.int .i64 2, .int .i64 x1, .int .i64 x2, .int .i64 0, .int .i64 0, .bool false, .int .i64 0, .int .i64 0, .int .i64 0, .slice none 0 0, .slice none 0 0] 29) _))
            refine wpAnyH_ready (rs := [12]) (by kernel_rfl) (by simp) ?_
            refine AllReadyH.cons (o := _) rfl (fun K hK => ?_) ?_
            · go_simp
              refine hK.out _ _ ((Fr.alloc wb (.cells #[.int .i64 2, .int .i64 x1, .int .i64 x2, .int .i64 0, .int .i64 0, .bool false, .int .i64 0, .int .i64 0, .int .i64 0, .slice none 0 0, .slice none 0 0] 29) []).cell cb (by simp)) (fun hHeld => ?_)
              clear hK K
              try simp only [Act.put, List.setIfInBounds_toArray, List.set_cons_zero, List.set_cons_succ]
              refine wpAnyH_done (by kernel_rfl) ?_ _
              refine NoPanic.normal ?_
              go_wp2_with fail
              go_meet
              exact ⟨wb.heap.size, rfl, heap_alloc_new wb (.cells #[.int .i64 2, .int .i64 x1, .int .i64 x2, .int .i64 0, .int .i64 0, .bool false, .int .i64 0, .int .i64 0, .int .i64 0, .slice none 0 0, .slice none 0 0] 29), (by omega), RRW.out, FRW.out⟩
            exact AllReadyH.nil
          exact AllReadyH.nil
        refine AllReadyH.cons (o := _) rfl (fun K hK => ?_) ?_
        · go_simp
          have RXa := Lib.hid (RA.out.keep (Fr.alloc wa (.cells #[.int .i64 0, .int .i64 0, .int .i64 0, .int .i64 0, .int .i64 0, .bool false, .int .i64 0, .int .i64 0, .int .i64 0, .slice none 0 0, .slice none 0 0] 29) []))
          have FXa := Lib.hid (FA.out.trans (Fr.alloc wa (.cells #[.int .i64 0, .int .i64 0, .int .i64 0, .int .i64 0, .int .i64 0, .bool false, .int .i64 0, .int .i64 0, .int .i64 0, .slice none 0 0, .slice none 0 0] 29) [(w.heap.size + 1 + 1)]))
          have cxa := (Fr.alloc wa (.cells #[.int .i64 0, .int .i64 0, .int .i64 0, .int .i64 0, .int .i64 0, .bool false, .int .i64 0, .int .i64 0, .int .i64 0, .slice none 0 0, .slice none 0 0] 29) []).cell (ca) (by simp)
          have BXa := Lib.hid (heap_alloc_new wa (.cells #[.int .i64 0, .int .i64 0, .int .i64 0, .int .i64 0, .int .i64 0, .bool false, .int .i64 0, .int .i64 0, .int .i64 0, .slice none 0 0, .slice none 0 0] 29))
          refine hK.out _ _ cxa (fun hHeld => ?_)
          clear hK K
          try simp only [Act.put, List.setIfInBounds_toArray, List.set_cons_zero, List.set_cons_succ]
          have hsz : w.heap.size + 1 + 1 + 1 ≤ wa.heap.size := by have h := FA.out.size; simpa using h
          refine wpAnyH_ready (rs := [9]) (by kernel_rfl) (by simp) ?_
          refine AllReadyH.cons (o := _) rfl (fun K hK => ?_) ?_
          · go_simp
            refine (rnum (w.heap.size + 1 + 1) (w.heap.size + 1 + 1) l k1 c1' 0 15 _ RXa.out HBY.out HLL.out x2 k2 c2 N2.out).mono ?_
            rintro e wb ⟨rfl, hrb, hfb⟩
            have RB := Lib.hid hrb
            have FB := Lib.hid (FXa.out.trans hfb)
            have cb := hfb.cell (cxa) (by simp <;> omega)
            have BB := Lib.hid (hfb.heap BXa.out (by simp <;> omega))
            clear hrb hfb
            go_wp2_with fail
            refine hK.out _ _ cb (fun hHeld => ?_)
            clear hK K
            try simp only [Act.put, List.setIfInBounds_toArray, List.set_cons_zero, List.set_cons_succ]
            refine wpAnyH_take (i := 10) (oi := _) (v := ?fv10q17) (by simp only [List.getElem?_toArray, List.getElem?_cons_zero, List.getElem?_cons_succ]; rfl) (by kernel_rfl) (by kernel_rfl) (by kernel_rfl) (fun _ _ _ h => h) (Or.inl ⟨by rfl, ?fy10q17⟩) (by assumption) ?fr10q17
            case fy10q17 => (intro w hSw; (try dsimp only at hSw); go_simp; try with_reducible rfl)
            try simp only [Act.put, List.setIfInBounds_toArray, List.set_cons_zero, List.set_cons_succ]
            have r11 := row11 BB.out
            have za0 := frozen_of_row _ _ 0 _ _ BB.out
            have za1 := frozen_of_row _ _ 1 _ _ BB.out
            have za2 := frozen_of_row _ _ 2 _ _ BB.out
            have za3 := frozen_of_row _ _ 3 _ _ BB.out
            have za4 := frozen_of_row _ _ 4 _ _ BB.out
            have za5 := frozen_of_row _ _ 5 _ _ BB.out
            have za6 := frozen_of_row _ _ 6 _ _ BB.out
            have za7 := frozen_of_row _ _ 7 _ _ BB.out
            have za8 := frozen_of_row _ _ 8 _ _ BB.out
            have za9 := frozen_of_row _ _ 9 _ _ BB.out
            have za10 := frozen_of_row _ _ 10 _ _ BB.out
            have SRW := Lib.hid (set11_row BB.out (.int .i64 2) (.int .i64 x1) (.int .i64 x2) (.int .i64 0) (.int .i64 0) (.bool false) (.int .i64 0) (.int .i64 0) (.int .i64 0) (.slice none 0 0) (.slice none 0 0))
            have RRW := Lib.hid (RB.out.fr (set11 wb wa.heap.size (.int .i64 2) (.int .i64 x1) (.int .i64 x2) (.int .i64 0) (.int .i64 0) (.bool false) (.int .i64 0) (.int .i64 0) (.int .i64 0) (.slice none 0 0) (.slice none 0 0)) (by simp <;> omega) (by intro r hr; obtain rfl := List.mem_singleton.1 hr; omega))
            have FRW := Lib.hid (FB.out.new (set11 wb wa.heap.size (.int .i64 2) (.int .i64 x1) (.int .i64 x2) (.int .i64 0) (.int .i64 0) (.bool false) (.int .i64 0) (.int .i64 0) (.int .i64 0) (.slice none 0 0) (.slice none 0 0)) (by simp <;> omega))
            refine wpAnyH_ready (rs := [12]) (by kernel_rfl) (by simp) ?_
            refine AllReadyH.cons (o := _) rfl (fun K hK => ?_) ?_
            · go_simp
              refine hK.out _ _ ((set11 wb wa.heap.size (.int .i64 2) (.int .i64 x1) (.int .i64 x2) (.int .i64 0) (.int .i64 0) (.bool false) (.int .i64 0) (.int .i64 0) (.int .i64 0) (.slice none 0 0) (.slice none 0 0)).cell (cb) (by simp <;> omega)) (fun hHeld => ?_)
              clear hK K
              try simp only [Act.put, List.setIfInBounds_toArray, List.set_cons_zero, List.set_cons_succ]
              refine wpAnyH_done (by kernel_rfl) ?_ _
              refine NoPanic.normal ?_
              clear r11 za0 za1 za2 za3 za4 za5 za6 za7 za8 za9 za10
              go_wp2_with fail
              go_meet
              exact ⟨wa.heap.size, rfl, SRW.out, (by omega), RRW.out, FRW.out⟩
            exact AllReadyH.nil
          exact AllReadyH.nil
        exact AllReadyH.nil
      refine AllReadyH.cons (o := _) rfl (fun K hK => ?_) ?_
      · go_simp
        have RX := Lib.hid ((SR3.out.keep (Fr.alloc (((w.alloc (.cells #[.int .i64 0, .int .i64 0, .int .i64 0, .int .i64 0, .int .i64 0, .bool false, .int .i64 0, .int .i64 0, .int .i64 0, .slice none 0 0, .slice none 0 0] 29)).alloc (.cells #[.int .i64 0, .bool false, .int .i64 0] 47)).alloc (.cells #[.slice (some ⟨bl, off, none⟩) l.length cv, .int .i64 2, .int .i64 0, .bool false, .int .i64 0] 85)) (.cells #[.int .i64 0, .int .i64 0, .int .i64 0, .int .i64 0, .int .i64 0, .bool false, .int .i64 0, .int .i64 0, .int .i64 0, .slice none 0 0, .slice none 0 0] 29) [])).keep (Fr.drew _ []))
        have FX := Lib.hid ((Fr.alloc (((w.alloc (.cells #[.int .i64 0, .int .i64 0, .int .i64 0, .int .i64 0, .int .i64 0, .bool false, .int .i64 0, .int .i64 0, .int .i64 0, .slice none 0 0, .slice none 0 0] 29)).alloc (.cells #[.int .i64 0, .bool false, .int .i64 0] 47)).alloc (.cells #[.slice (some ⟨bl, off, none⟩) l.length cv, .int .i64 2, .int .i64 0, .bool false, .int .i64 0] 85)) (.cells #[.int .i64 0, .int .i64 0, .int .i64 0, .int .i64 0, .int .i64 0, .bool false, .int .i64 0, .int .i64 0, .int .i64 0, .slice none 0 0, .slice none 0 0] 29) [(w.heap.size + 1 + 1)]).trans (Fr.drew _ _))
        have cx := (Fr.drew ((((w.alloc (.cells #[.int .i64 0, .int .i64 0, .int .i64 0, .int .i64 0, .int .i64 0, .bool false, .int .i64 0, .int .i64 0, .int .i64 0, .slice none 0 0, .slice none 0 0] 29)).alloc (.cells #[.int .i64 0, .bool false, .int .i64 0] 47)).alloc (.cells #[.slice (some ⟨bl, off, none⟩) l.length cv, .int .i64 2, .int .i64 0, .bool false, .int .i64 0] 85)).alloc (.cells #[.int .i64 0, .int .i64 0, .int .i64 0, .int .i64 0, .int .i64 0, .bool false, .int .i64 0, .int .i64 0, .int .i64 0, .slice none 0 0, .slice none 0 0] 29)) []).cell ((Fr.alloc (((w.alloc (.cells #[.int .i64 0, .int .i64 0, .int .i64 0, .int .i64 0, .int .i64 0, .bool false, .int .i64 0, .int .i64 0, .int .i64 0, .slice none 0 0, .slice none 0 0] 29)).alloc (.cells #[.int .i64 0, .bool false, .int .i64 0] 47)).alloc (.cells #[.slice (some ⟨bl, off, none⟩) l.length cv, .int .i64 2, .int .i64 0, .bool false, .int .i64 0] 85)) (.cells #[.int .i64 0, .int .i64 0, .int .i64 0, .int .i64 0, .int .i64 0, .bool false, .int .i64 0, .int .i64 0, .int .i64 0, .slice none 0 0, .slice none 0 0] 29) []).cell (AR.out.cell c1 (by simp)) (by simp)) (by simp)
        have BX0 := heap_alloc_new (((w.alloc (.cells #[.int .i64 0, .int .i64 0, .int .i64 0, .int .i64 0, .int .i64 0, .bool false, .int .i64 0, .int .i64 0, .int .i64 0, .slice none 0 0, .slice none 0 0] 29)).alloc (.cells #[.int .i64 0, .bool false, .int .i64 0] 47)).alloc (.cells #[.slice (some ⟨bl, off, none⟩) l.length cv, .int .i64 2, .int .i64 0, .bool false, .int .i64 0] 85)) (.cells #[.int .i64 0, .int .i64 0, .int .i64 0, .int .i64 0, .int .i64 0, .bool false, .int .i64 0, .int .i64 0, .int .i64 0, .slice none 0 0, .slice none 0 0] 29)
        rw [show (((w.alloc (.cells #[.int .i64 0, .int .i64 0, .int .i64 0, .int .i64 0, .int .i64 0, .bool false, .int .i64 0, .int .i64 0, .int .i64 0, .slice none 0 0, .slice none 0 0] 29)).alloc (.cells #[.int .i64 0, .bool false, .int .i64 0] 47)).alloc (.cells #[.slice (some ⟨bl, off, none⟩) l.length cv, .int .i64 2, .int .i64 0, .bool false, .int .i64 0] 85)).heap.size = w.heap.size + 1 + 1 + 1 by simp] at BX0
        have BX := Lib.hid ((Fr.drew ((((w.alloc (.cells #[.int .i64 0, .int .i64 0, .int .i64 0, .int .i64 0, .int .i64 0, .bool false, .int .i64 0, .int .i64 0, .int .i64 0, .slice none 0 0, .slice none 0 0] 29)).alloc (.cells #[.int .i64 0, .bool false, .int .i64 0] 47)).alloc (.cells #[.slice (some ⟨bl, off, none⟩) l.length cv, .int .i64 2, .int .i64 0, .bool false, .int .i64 0] 85)).alloc (.cells #[.int .i64 0, .int .i64 0, .int .i64 0, .int .i64 0, .int .i64 0, .bool false, .int .i64 0, .int .i64 0, .int .i64 0, .slice none 0 0, .slice none 0 0] 29)) []).heap BX0 (by simp))
        clear BX0
        refine hK.out _ _ cx (fun hHeld => ?_)
        clear hK K
        try simp only [Act.put, List.setIfInBounds_toArray, List.set_cons_zero, List.set_cons_succ]
        refine wpAnyH_ready (rs := [6]) (by kernel_rfl) (by simp) ?_
        refine AllReadyH.cons (o := _) rfl (fun K hK => ?_) ?_
        · go_simp
          refine (rnum (w.heap.size + 1 + 1) (w.heap.size + 1 + 1) l 2 0 0 15 _ RX.out HBY.out HLL.out x1 k1 c1' N1.out).mono ?_
          rintro e wa ⟨rfl, hra, hfa⟩
          have RA := Lib.hid hra
          have FA := Lib.hid (FX.out.trans hfa)
          have ca := hfa.cell (cx) (by simp <;> omega)
          have BA := Lib.hid (hfa.heap BX.out (by simp))
          clear hra hfa
          go_wp2_with fail
          refine hK.out _ _ ca (fun hHeld => ?_)
          clear hK K
          try simp only [Act.put, List.setIfInBounds_toArray, List.set_cons_zero, List.set_cons_succ]
          refine wpAnyH_ready (rs := [9]) (by kernel_rfl) (by simp) ?_
          refine AllReadyH.cons (o := _) rfl (fun K hK => ?_) ?_
          · go_simp
            refine (rnum (w.heap.size + 1 + 1) (w.heap.size + 1 + 1) l k1 c1' 0 15 _ RA.out HBY.out HLL.out x2 k2 c2 N2.out).mono ?_
            rintro e wb ⟨rfl, hrb, hfb⟩
            have RB := Lib.hid hrb
            have FB := Lib.hid (FA.out.trans hfb)
            have cb := hfb.cell (ca) (by simp <;> omega)
            have BB := Lib.hid (hfb.heap BA.out (by simp))
            clear hrb hfb
            go_wp2_with fail
            refine hK.out _ _ cb (fun hHeld => ?_)
            clear hK K
            try simp only [Act.put, List.setIfInBounds_toArray, List.set_cons_zero, List.set_cons_succ]
            refine wpAnyH_take (i := 10) (oi := _) (v := ?fv10q18) (by simp only [List.getElem?_toArray, List.getElem?_cons_zero, List.getElem?_cons_succ]; rfl) (by kernel_rfl) (by kernel_rfl) (by kernel_rfl) (fun _ _ _ h => h) (Or.inl ⟨by rfl, ?fy10q18⟩) (by assumption) ?fr10q18
            case fy10q18 => (intro w hSw; (try dsimp only at hSw); go_simp; try with_reducible rfl)
            try simp only [Act.put, List.setIfInBounds_toArray, List.set_cons_zero, List.set_cons_succ]
            have r11 := row11 BB.out
            have za0 := frozen_of_row _ _ 0 _ _ BB.out
            have za1 := frozen_of_row _ _ 1 _ _ BB.out
            have za2 := frozen_of_row _ _ 2 _ _ BB.out
            have za3 := frozen_of_row _ _ 3 _ _ BB.out
            have za4 := frozen_of_row _ _ 4 _ _ BB.out
            have za5 := frozen_of_row _ _ 5 _ _ BB.out
            have za6 := frozen_of_row _ _ 6 _ _ BB.out
            have za7 := frozen_of_row _ _ 7 _ _ BB.out
            have za8 := frozen_of_row _ _ 8 _ _ BB.out
            have za9 := frozen_of_row _ _ 9 _ _ BB.out
            have za10 := frozen_of_row _ _ 10 _ _ BB.out
            have SRW := Lib.hid (set11_row BB.out (.int .i64 2) (.int .i64 x1) (.int .i64 x2) (.int .i64 0) (.int .i64 0) (.bool false) (.int .i64 0) (.int .i64 0) (.int .i64 0) (.slice none 0 0) (.slice none 0 0))
            have RRW := Lib.hid (RB.out.fr (set11 wb (w.heap.size + 1 + 1 + 1) (.int .i64 2) (.int .i64 x1) (.int .i64 x2) (.int .i64 0) (.int .i64 0) (.bool false) (.int .i64 0) (.int .i64 0) (.int .i64 0) (.slice none 0 0) (.slice none 0 0)) (by simp <;> omega) (by intro r hr; obtain rfl := List.mem_singleton.1 hr; omega))
            have FRW := Lib.hid (FB.out.new (set11 wb (w.heap.size + 1 + 1 + 1) (.int .i64 2) (.int .i64 x1) (.int .i64 x2) (.int .i64 0) (.int .i64 0) (.bool false) (.int .i64 0) (.int .i64 0) (.int .i64 0) (.slice none 0 0) (.slice none 0 0)) (by simp <;> omega))
            refine wpAnyH_ready (rs := [12]) (by kernel_rfl) (by simp) ?_
            refine AllReadyH.cons (o := _) rfl (fun K hK => ?_) ?_
            · go_simp
              refine hK.out _ _ ((set11 wb (w.heap.size + 1 + 1 + 1) (.int .i64 2) (.int .i64 x1) (.int .i64 x2) (.int .i64 0) (.int .i64 0) (.bool false) (.int .i64 0) (.int .i64 0) (.int .i64 0) (.slice none 0 0) (.slice none 0 0)).cell (cb) (by simp <;> omega)) (fun hHeld => ?_)
              clear hK K
              try simp only [Act.put, List.setIfInBounds_toArray, List.set_cons_zero, List.set_cons_succ]
              refine wpAnyH_done (by kernel_rfl) ?_ _
              refine NoPanic.normal ?_
              clear r11 za0 za1 za2 za3 za4 za5 za6 za7 za8 za9 za10
              go_wp2_with fail
              go_meet
              exact ⟨(w.heap.size + 1 + 1 + 1), rfl, SRW.out, (by omega), RRW.out, FRW.out⟩
            exact AllReadyH.nil
          exact AllReadyH.nil
        exact AllReadyH.nil
      exact AllReadyH.nil
    case rest =>
      obtain ⟨be, rfl, hrow, hbe, hrr, hfr⟩ := hcut
      have BX := Lib.hid hrow
      have RX := Lib.hid hrr
      have FX := Lib.hid hfr
      have k11 := row11 hrow
      clear hrow hrr hfr
      obtain ⟨R0, k5, c5, n5⟩ : ∃ x k' c', rdRg l k2 c2 = (x, k', c') := ⟨_, _, _, rfl⟩
      have N5 := Lib.hid n5
      have HBD : Hid (rdBody (l.getD 1 0) l 2 0 = ((⟨2, x1, x2, 0, 0, false, R0⟩ : F), k5, c5)) := by
        show _ = _
        rw [← HY.out]
        have e : ¬ (2 : Int) = 1 := by decide
        simp only [rdBody, rdToken, Fm.bind, N1.out, N2.out, if_neg e, N5.out, Fm.ret]
      clear n5
      go_wp2_with fail
      refine (rring_any (w.heap.size + 1 + 1) (w.heap.size + 1 + 1) l k2 c2 _ RX.out HBY.out HLL.out R0 k5 c5 N5.out).mono ?_
      rintro e v5 ⟨u, rfl, R5, vm, ve, xs, rfl, hom, hoe, hxs, hz, hs, hf⟩
      unfold rgV
      obtain ⟨am, cm, rfl⟩ := (OwnI.holds hom).shape
      obtain ⟨ae, ce, rfl⟩ := row_shape hoe.1
      have OM5 := Lib.hid hom
      have OE5 := Lib.hid hoe
      have HXS := Lib.hid hxs
      have HZR := Lib.hid hz
      have S5 := Lib.hid hs
      have F5 := Lib.hid (FX.out.trans hf)
      have B5 := Lib.hid (hf.heap BX.out (by simp <;> omega))
      have q5 := row11 B5.out
      have y6 := frozen_of_row _ _ 6 _ _ B5.out
      have y7 := frozen_of_row _ _ 7 _ _ B5.out
      have y8 := frozen_of_row _ _ 8 _ _ B5.out
      have y9 := frozen_of_row _ _ 9 _ _ B5.out
      have y10 := frozen_of_row _ _ 10 _ _ B5.out
      clear hom hoe hxs hz hs hf k11
      go_wp2_with fail
      clear q5 y6 y7 y8 y9 y10
      have h6 : (v5.setCell ⟨be, 6, none⟩ (.int .i64 R5.co)).heap[be]? = some (.cells #[.int .i64 2, .int .i64 x1, .int .i64 x2, .int .i64 0, .int .i64 0, .bool false, .int .i64 R5.co, .int .i64 0, .int .i64 0, .slice none 0 0, .slice none 0 0] 29 (0, 0)) := setc B5.out 6 (.int .i64 R5.co)
      have h7 : ((v5.setCell ⟨be, 6, none⟩ (.int .i64 R5.co)).setCell ⟨be, 7, none⟩ (.int .i64 R5.fo)).heap[be]? = some (.cells #[.int .i64 2, .int .i64 x1, .int .i64 x2, .int .i64 0, .int .i64 0, .bool false, .int .i64 R5.co, .int .i64 R5.fo, .int .i64 0, .slice none 0 0, .slice none 0 0] 29 (0, 0)) := setc h6 7 (.int .i64 R5.fo)
      have h8 : (((v5.setCell ⟨be, 6, none⟩ (.int .i64 R5.co)).setCell ⟨be, 7, none⟩ (.int .i64 R5.fo)).setCell ⟨be, 8, none⟩ (.int .i64 R5.ho)).heap[be]? = some (.cells #[.int .i64 2, .int .i64 x1, .int .i64 x2, .int .i64 0, .int .i64 0, .bool false, .int .i64 R5.co, .int .i64 R5.fo, .int .i64 R5.ho, .slice none 0 0, .slice none 0 0] 29 (0, 0)) := setc h7 8 (.int .i64 R5.ho)
      have h9 : ((((v5.setCell ⟨be, 6, none⟩ (.int .i64 R5.co)).setCell ⟨be, 7, none⟩ (.int .i64 R5.fo)).setCell ⟨be, 8, none⟩ (.int .i64 R5.ho)).setCell ⟨be, 9, none⟩ (.slice am R5.ms.length cm)).heap[be]? = some (.cells #[.int .i64 2, .int .i64 x1, .int .i64 x2, .int .i64 0, .int .i64 0, .bool false, .int .i64 R5.co, .int .i64 R5.fo, .int .i64 R5.ho, .slice am R5.ms.length cm, .slice none 0 0] 29 (0, 0)) := setc h8 9 (.slice am R5.ms.length cm)
      have h10 : (((((v5.setCell ⟨be, 6, none⟩ (.int .i64 R5.co)).setCell ⟨be, 7, none⟩ (.int .i64 R5.fo)).setCell ⟨be, 8, none⟩ (.int .i64 R5.ho)).setCell ⟨be, 9, none⟩ (.slice am R5.ms.length cm)).setCell ⟨be, 10, none⟩ (.slice ae xs.length ce)).heap[be]? = some (.cells #[.int .i64 2, .int .i64 x1, .int .i64 x2, .int .i64 0, .int .i64 0, .bool false, .int .i64 R5.co, .int .i64 R5.fo, .int .i64 R5.ho, .slice am R5.ms.length cm, .slice ae xs.length ce] 29 (0, 0)) := setc h9 10 (.slice ae xs.length ce)
      have hfs : Fr v5 (((((v5.setCell ⟨be, 6, none⟩ (.int .i64 R5.co)).setCell ⟨be, 7, none⟩ (.int .i64 R5.fo)).setCell ⟨be, 8, none⟩ (.int .i64 R5.ho)).setCell ⟨be, 9, none⟩ (.slice am R5.ms.length cm)).setCell ⟨be, 10, none⟩ (.slice ae xs.length ce)) [be] := (((((Fr.setCell v5 be 6 (.int .i64 R5.co) (S := [be]) (by simp)).trans (Fr.setCell (v5.setCell ⟨be, 6, none⟩ (.int .i64 R5.co)) be 7 (.int .i64 R5.fo) (S := [be]) (by simp))).trans (Fr.setCell ((v5.setCell ⟨be, 6, none⟩ (.int .i64 R5.co)).setCell ⟨be, 7, none⟩ (.int .i64 R5.fo)) be 8 (.int .i64 R5.ho) (S := [be]) (by simp))).trans (Fr.setCell (((v5.setCell ⟨be, 6, none⟩ (.int .i64 R5.co)).setCell ⟨be, 7, none⟩ (.int .i64 R5.fo)).setCell ⟨be, 8, none⟩ (.int .i64 R5.ho)) be 9 (.slice am R5.ms.length cm) (S := [be]) (by simp))).trans (Fr.setCell ((((v5.setCell ⟨be, 6, none⟩ (.int .i64 R5.co)).setCell ⟨be, 7, none⟩ (.int .i64 R5.fo)).setCell ⟨be, 8, none⟩ (.int .i64 R5.ho)).setCell ⟨be, 9, none⟩ (.slice am R5.ms.length cm)) be 10 (.slice ae xs.length ce) (S := [be]) (by simp)))
      have CQ := Lib.hid h10
      have TQ := Lib.hid (S5.out.fr hfs (by simp <;> omega) (by intro r hr; obtain rfl := List.mem_singleton.1 hr; omega))
      have EQ := Lib.hid (F5.out.new hfs (by simp <;> omega))
      have OMQ := Lib.hid (row_fr OM5.out hfs (by intro r hr; obtain rfl := List.mem_singleton.1 hr; exact row_ne OM5.out B5.out (by decide)))
      have OEQ := Lib.hid (OE5.out.fr hfs (by intro r hr; obtain rfl := List.mem_singleton.1 hr; exact ⟨_, _, B5.out, by decide, by decide⟩))
      clear h6 h7 h8 h9 h10 hfs OM5 OE5 S5 F5 B5 BX RX FX
      generalize (((((v5.setCell ⟨be, 6, none⟩ (.int .i64 R5.co)).setCell ⟨be, 7, none⟩ (.int .i64 R5.fo)).setCell ⟨be, 8, none⟩ (.int .i64 R5.ho)).setCell ⟨be, 9, none⟩ (.slice am R5.ms.length cm)).setCell ⟨be, 10, none⟩ (.slice ae xs.length ce)) = wq at CQ TQ EQ OMQ OEQ ⊢
      have HMQ := Lib.hid (OwnI.holds OMQ.out)
      have HEQ0 : Hid (HE wq (.slice ae xs.length ce) R5.es) := by
        have h := OEQ.out.he
        rw [HXS.out] at h
        exact h
      have FW := Lib.hid ((HF0.out.trans AR.out).new EQ.out (by simp <;> omega))
      have G0 := Lib.hid (EQ.out.heap (AR.out.heap HTB.out.1 (by simp)) (by simp <;> omega))
      have G1 := Lib.hid (EQ.out.heap (AR.out.heap HTB.out.2 (by simp)) (by simp <;> omega))
      by_cases hC : c5 = 0
      · subst hC
        obtain rfl := HZR.out rfl
        refine (rok (w.heap.size + 1 + 1) (w.heap.size + 1 + 1) l k5 0 _ TQ.out true (yes rfl)).mono ?_
        rintro e we ⟨rfl, rfl⟩
        obtain ⟨D, hD⟩ : ∃ D : Nat, D = l.length - k5 := ⟨_, rfl⟩
        go_wp2_with fail
        refine (rleft (w.heap.size + 1 + 1) (w.heap.size + 1 + 1) l k5 0 _ TQ.out HLL.out).mono ?_
        rw [← hD]
        rintro e wf ⟨rfl, hff⟩
        have FWf := Lib.hid (FW.out.trans hff)
        have G0f := Lib.hid (hff.heap G0.out (by simp))
        have G1f := Lib.hid (hff.heap G1.out (by simp))
        have CQf := Lib.hid (hff.heap CQ.out (by simp))
        have HMf := Lib.hid (HMQ.out.keep hff)
        have HEf := Lib.hid (HEQ0.out.keep hff)
        have OMf := Lib.hid (row_fr OMQ.out hff (by simp))
        have OEf := Lib.hid (OEQ.out.fr hff (by simp))
        clear hff
        by_cases hK : k5 < l.length
        · have HEQ : Hid (readF l = (zeroF, 2, false, 0)) := by
            show _ = _
            unfold readF
            rw [if_neg HAB.out.1, if_neg HAB.out.2, HBD.out, if_neg (by simp), if_pos hK]
          have qd : (0 : Int) < (D : Int) := by omega
          clear hK hD
          go_wp2_with fail
          refine (rbare 102 _).mono ?_
          rintro e wz ⟨rfl, hfz⟩
          unfold flt
          have FZ := Lib.hid (FWf.out.trans hfz)
          have Z0 := Lib.hid (hfz.heap G0f.out (by simp))
          have Z1 := Lib.hid (hfz.heap G1f.out (by simp))
          have r11 := row11 Z0.out
          have r3 := row3 Z1.out
          have za0 := frozen_of_row _ _ 0 _ _ Z0.out
          have za1 := frozen_of_row _ _ 1 _ _ Z0.out
          have za2 := frozen_of_row _ _ 2 _ _ Z0.out
          have za3 := frozen_of_row _ _ 3 _ _ Z0.out
          have za4 := frozen_of_row _ _ 4 _ _ Z0.out
          have za5 := frozen_of_row _ _ 5 _ _ Z0.out
          have za6 := frozen_of_row _ _ 6 _ _ Z0.out
          have za7 := frozen_of_row _ _ 7 _ _ Z0.out
          have za8 := frozen_of_row _ _ 8 _ _ Z0.out
          have za9 := frozen_of_row _ _ 9 _ _ Z0.out
          have za10 := frozen_of_row _ _ 10 _ _ Z0.out
          have zb0 := frozen_of_row _ _ 0 _ _ Z1.out
          have zb1 := frozen_of_row _ _ 1 _ _ Z1.out
          have zb2 := frozen_of_row _ _ 2 _ _ Z1.out
          clear hfz
          go_wp2
          have g11 := set11_row Z0.out (.int .i64 0) (.int .i64 0) (.int .i64 0) (.int .i64 0) (.int .i64 0) (.bool false) (.int .i64 0) (.int .i64 0) (.int .i64 0) (.slice none 0 0) (.slice none 0 0)
          have f11 := set11 wz w.heap.size (.int .i64 0) (.int .i64 0) (.int .i64 0) (.int .i64 0) (.int .i64 0) (.bool false) (.int .i64 0) (.int .i64 0) (.int .i64 0) (.slice none 0 0) (.slice none 0 0)
          have g1 := f11.heap Z1.out (by simp)
          have g3 := set3_row g1 (.int .i64 102) (.bool false) (.int .i64 0)
          have f3 := set3 (((((((((((wz.setCell ⟨w.heap.size, 0, none⟩ (.int .i64 0)).setCell ⟨w.heap.size, 1, none⟩ (.int .i64 0)).setCell ⟨w.heap.size, 2, none⟩ (.int .i64 0)).setCell ⟨w.heap.size, 3, none⟩ (.int .i64 0)).setCell ⟨w.heap.size, 4, none⟩ (.int .i64 0)).setCell ⟨w.heap.size, 5, none⟩ (.bool false)).setCell ⟨w.heap.size, 6, none⟩ (.int .i64 0)).setCell ⟨w.heap.size, 7, none⟩ (.int .i64 0)).setCell ⟨w.heap.size, 8, none⟩ (.int .i64 0)).setCell ⟨w.heap.size, 9, none⟩ (.slice none 0 0)).setCell ⟨w.heap.size, 10, none⟩ (.slice none 0 0)) (w.heap.size + 1) (.int .i64 102) (.bool false) (.int .i64 0)
          have g12 := f3.heap g11 (by simp)
          have hk := row11 g12
          have hk3 := row3 g3
          have HFF := Lib.hid (FZ.out.new (f11.comb f3 (U := [w.heap.size, w.heap.size + 1]) (by simp) (by simp)) (by simp))
          have HR : Hid (RReadE (readF l) w (.returned (.tuple #[.agg #[.int .i64 0, .int .i64 0, .int .i64 0, .int .i64 0, .int .i64 0, .bool false, .int .i64 0, .int .i64 0, .int .i64 0, .slice none 0 0, .slice none 0 0], .agg #[.int .i64 102, .bool false, .int .i64 0]])) ((((((((((((((wz.setCell ⟨w.heap.size, 0, none⟩ (.int .i64 0)).setCell ⟨w.heap.size, 1, none⟩ (.int .i64 0)).setCell ⟨w.heap.size, 2, none⟩ (.int .i64 0)).setCell ⟨w.heap.size, 3, none⟩ (.int .i64 0)).setCell ⟨w.heap.size, 4, none⟩ (.int .i64 0)).setCell ⟨w.heap.size, 5, none⟩ (.bool false)).setCell ⟨w.heap.size, 6, none⟩ (.int .i64 0)).setCell ⟨w.heap.size, 7, none⟩ (.int .i64 0)).setCell ⟨w.heap.size, 8, none⟩ (.int .i64 0)).setCell ⟨w.heap.size, 9, none⟩ (.slice none 0 0)).setCell ⟨w.heap.size, 10, none⟩ (.slice none 0 0)).setCell ⟨w.heap.size + 1, 0, none⟩ (.int .i64 102)).setCell ⟨w.heap.size + 1, 1, none⟩ (.bool false)).setCell ⟨w.heap.size + 1, 2, none⟩ (.int .i64 0))) := by
            show RReadE _ _ _ _
            rw [HEQ.out]
            exact ⟨HFF.out, _, _, rfl, nil_ints, nil_ents⟩
          clear g11 f11 g1 g3 f3 g12
          exact bodyPost_ret (v := .tuple #[.agg #[.int .i64 0, .int .i64 0, .int .i64 0, .int .i64 0, .int .i64 0, .bool false, .int .i64 0, .int .i64 0, .int .i64 0, .slice none 0 0, .slice none 0 0], .agg #[.int .i64 102, .bool false, .int .i64 0]]) (by simp [results, Tryd.results20, go_sem, hk, hk3]) rfl HR.out
        · obtain rfl : D = 0 := by omega
          have kq := row11 CQf.out
          have HKK := Lib.hid hK
          clear hD hK
          go_wp2_with fail
          have HVF := rvalid_frame (⟨2, x1, x2, 0, 0, false, R5⟩ : F) (.slice am R5.ms.length cm) (.slice ae xs.length ce) _ HMf.out HEf.out
          unfold frV at HVF
          refine HVF.mono ?_
          clear HVF
          rintro e wg ⟨rfl, hfg⟩
          have FWg := Lib.hid (FWf.out.trans hfg)
          have G0g := Lib.hid (hfg.heap G0f.out (by simp))
          have G1g := Lib.hid (hfg.heap G1f.out (by simp))
          have CQg := Lib.hid (hfg.heap CQf.out (by simp))
          have HMg := Lib.hid (HMf.out.keep hfg)
          have HEg := Lib.hid (HEf.out.keep hfg)
          have OMg := Lib.hid (row_fr OMf.out hfg (by simp))
          have OEg := Lib.hid (OEf.out.fr hfg (by simp))
          clear hfg kq
          obtain ⟨cd, hcd⟩ : ∃ cd, cd = frameC (⟨2, x1, x2, 0, 0, false, R5⟩ : F) := ⟨_, rfl⟩
          rw [← hcd]
          have HCD := Lib.hid hcd
          clear hcd
          by_cases hfc : cd = 0
          · subst hfc
            rw [show dcode 0 = 0 from rfl]
            have HEQ : Hid (readF l = ((⟨2, x1, x2, 0, 0, false, R5⟩ : F), 0, false, 0)) := by
              show _ = _
              unfold readF
              rw [if_neg HAB.out.1, if_neg HAB.out.2, HBD.out, if_neg (by simp), if_neg HKK.out, if_neg (by rw [← HCD.out]; simp)]
            go_wp2_with fail
            refine wp_region_noPanic ?_
            refine wp_region_held_drew (S := (fun a => C11 a be (⟨2, x1, x2, 0, 0, false, R5⟩ : F) (.slice am R5.ms.length cm) (.slice ae xs.length ce))) (by kernel_rfl) (C11.of (f := (⟨2, x1, x2, 0, 0, false, R5⟩ : F)) ((Fr.drew wg []).heap CQg.out (by simp))) (fun hHeld => ?_)
            refine wpAnyH_take (i := 0) (oi := _) (v := ?fv0q14) (by simp only [List.getElem?_toArray, List.getElem?_cons_zero]; rfl) (by kernel_rfl) (by kernel_rfl) (by kernel_rfl) (fun _ _ _ h => h) (Or.inl ⟨by rfl, ?fy0q14⟩) (by assumption) ?fr0q14
            case fy0q14 => (intro w hSw; (try dsimp only [C11] at hSw); go_simp; try with_reducible rfl)
            try simp only [Act.put, List.setIfInBounds_toArray, List.set_cons_zero, List.set_cons_succ]
            refine wpAnyH_ready (rs := [1]) (by kernel_rfl) (by simp) ?_
            refine AllReadyH.cons (o := _) rfl (fun K hK => ?_) ?_
            · go_simp
              refine (noFault_any _).mono ?_
              rintro e wn ⟨rfl, hgn⟩
              unfold flt
              have hfn := (Fr.drew wg []).trans (Fr.of_grown hgn [])
              have FWn := Lib.hid (FWg.out.trans hfn)
              have G0n := Lib.hid (hfn.heap G0g.out (by simp))
              have G1n := Lib.hid (hfn.heap G1g.out (by simp))
              have CQn := Lib.hid (hfn.heap CQg.out (by simp))
              have OMn := Lib.hid (row_fr OMg.out hfn (by simp))
              have OEn := Lib.hid (OEg.out.fr hfn (by simp))
              clear hgn hfn
              have r11 := row11 G0n.out
              have za0 := frozen_of_row _ _ 0 _ _ G0n.out
              have za1 := frozen_of_row _ _ 1 _ _ G0n.out
              have za2 := frozen_of_row _ _ 2 _ _ G0n.out
              have za3 := frozen_of_row _ _ 3 _ _ G0n.out
              have za4 := frozen_of_row _ _ 4 _ _ G0n.out
              have za5 := frozen_of_row _ _ 5 _ _ G0n.out
              have za6 := frozen_of_row _ _ 6 _ _ G0n.out
              have za7 := frozen_of_row _ _ 7 _ _ G0n.out
              have za8 := frozen_of_row _ _ 8 _ _ G0n.out
              have za9 := frozen_of_row _ _ 9 _ _ G0n.out
              have za10 := frozen_of_row _ _ 10 _ _ G0n.out
              go_wp2_with fail
              refine hK.out _ _ (C11.of (f := (⟨2, x1, x2, 0, 0, false, R5⟩ : F)) CQn.out) (fun hHeld => ?_)
              clear hK K
              try simp only [Act.put, List.setIfInBounds_toArray, List.set_cons_zero, List.set_cons_succ]
              refine wpAnyH_ready (rs := [2]) (by kernel_rfl) (by simp) ?_
              refine AllReadyH.cons (o := _) rfl (fun K hK => ?_) ?_
              · go_simp
                have CQ2 := Lib.hid ((set11 wn w.heap.size (.int .i64 2) (.int .i64 x1) (.int .i64 x2) (.int .i64 0) (.int .i64 0) (.bool false) (.int .i64 R5.co) (.int .i64 R5.fo) (.int .i64 R5.ho) (.slice am R5.ms.length cm) (.slice ae xs.length ce)).heap CQn.out (by simp <;> omega))
                have G12 := Lib.hid ((set11 wn w.heap.size (.int .i64 2) (.int .i64 x1) (.int .i64 x2) (.int .i64 0) (.int .i64 0) (.bool false) (.int .i64 R5.co) (.int .i64 R5.fo) (.int .i64 R5.ho) (.slice am R5.ms.length cm) (.slice ae xs.length ce)).heap G1n.out (by simp))
                have r3 := row3 G12.out
                have zb0 := frozen_of_row _ _ 0 _ _ G12.out
                have zb1 := frozen_of_row _ _ 1 _ _ G12.out
                have zb2 := frozen_of_row _ _ 2 _ _ G12.out
                refine hK.out _ _ (C11.of (f := (⟨2, x1, x2, 0, 0, false, R5⟩ : F)) CQ2.out) (fun hHeld => ?_)
                clear hK K
                try simp only [Act.put, List.setIfInBounds_toArray, List.set_cons_zero, List.set_cons_succ]
                refine wpAnyH_ready (rs := [3]) (by kernel_rfl) (by simp) ?_
                refine AllReadyH.cons (o := _) rfl (fun K hK => ?_) ?_
                · go_simp
                  refine hK.out _ _ (C11.of (f := (⟨2, x1, x2, 0, 0, false, R5⟩ : F)) ((set3 (((((((((((wn.setCell ⟨w.heap.size, 0, none⟩ (.int .i64 2)).setCell ⟨w.heap.size, 1, none⟩ (.int .i64 x1)).setCell ⟨w.heap.size, 2, none⟩ (.int .i64 x2)).setCell ⟨w.heap.size, 3, none⟩ (.int .i64 0)).setCell ⟨w.heap.size, 4, none⟩ (.int .i64 0)).setCell ⟨w.heap.size, 5, none⟩ (.bool false)).setCell ⟨w.heap.size, 6, none⟩ (.int .i64 R5.co)).setCell ⟨w.heap.size, 7, none⟩ (.int .i64 R5.fo)).setCell ⟨w.heap.size, 8, none⟩ (.int .i64 R5.ho)).setCell ⟨w.heap.size, 9, none⟩ (.slice am R5.ms.length cm)).setCell ⟨w.heap.size, 10, none⟩ (.slice ae xs.length ce)) (w.heap.size + 1) (.int .i64 0) (.bool false) (.int .i64 0)).heap CQ2.out (by simp <;> omega))) (fun hHeld => ?_)
                  clear hK K
                  try simp only [Act.put, List.setIfInBounds_toArray, List.set_cons_zero, List.set_cons_succ]
                  refine wpAnyH_done (by kernel_rfl) ?_ _
                  refine NoPanic.normal ?_
                  clear r11 r3 za0 za1 za2 za3 za4 za5 za6 za7 za8 za9 za10 zb0 zb1 zb2
                  go_wp2
                  have g11 := set11_row G0n.out (.int .i64 2) (.int .i64 x1) (.int .i64 x2) (.int .i64 0) (.int .i64 0) (.bool false) (.int .i64 R5.co) (.int .i64 R5.fo) (.int .i64 R5.ho) (.slice am R5.ms.length cm) (.slice ae xs.length ce)
                  have f11 := set11 wn w.heap.size (.int .i64 2) (.int .i64 x1) (.int .i64 x2) (.int .i64 0) (.int .i64 0) (.bool false) (.int .i64 R5.co) (.int .i64 R5.fo) (.int .i64 R5.ho) (.slice am R5.ms.length cm) (.slice ae xs.length ce)
                  have g1 := f11.heap G1n.out (by simp)
                  have g3 := set3_row g1 (.int .i64 0) (.bool false) (.int .i64 0)
                  have f3 := set3 (((((((((((wn.setCell ⟨w.heap.size, 0, none⟩ (.int .i64 2)).setCell ⟨w.heap.size, 1, none⟩ (.int .i64 x1)).setCell ⟨w.heap.size, 2, none⟩ (.int .i64 x2)).setCell ⟨w.heap.size, 3, none⟩ (.int .i64 0)).setCell ⟨w.heap.size, 4, none⟩ (.int .i64 0)).setCell ⟨w.heap.size, 5, none⟩ (.bool false)).setCell ⟨w.heap.size, 6, none⟩ (.int .i64 R5.co)).setCell ⟨w.heap.size, 7, none⟩ (.int .i64 R5.fo)).setCell ⟨w.heap.size, 8, none⟩ (.int .i64 R5.ho)).setCell ⟨w.heap.size, 9, none⟩ (.slice am R5.ms.length cm)).setCell ⟨w.heap.size, 10, none⟩ (.slice ae xs.length ce)) (w.heap.size + 1) (.int .i64 0) (.bool false) (.int .i64 0)
                  have g12 := f3.heap g11 (by simp)
                  have hk := row11 g12
                  have hk3 := row3 g3
                  have HFF := Lib.hid (FWn.out.new (f11.comb f3 (U := [w.heap.size, w.heap.size + 1]) (by simp) (by simp)) (by simp))
                  have HR : Hid (RReadE (readF l) w (.returned (.tuple #[.agg #[.int .i64 2, .int .i64 x1, .int .i64 x2, .int .i64 0, .int .i64 0, .bool false, .int .i64 R5.co, .int .i64 R5.fo, .int .i64 R5.ho, .slice am R5.ms.length cm, .slice ae xs.length ce], .agg #[.int .i64 0, .bool false, .int .i64 0]])) ((((((((((((((wn.setCell ⟨w.heap.size, 0, none⟩ (.int .i64 2)).setCell ⟨w.heap.size, 1, none⟩ (.int .i64 x1)).setCell ⟨w.heap.size, 2, none⟩ (.int .i64 x2)).setCell ⟨w.heap.size, 3, none⟩ (.int .i64 0)).setCell ⟨w.heap.size, 4, none⟩ (.int .i64 0)).setCell ⟨w.heap.size, 5, none⟩ (.bool false)).setCell ⟨w.heap.size, 6, none⟩ (.int .i64 R5.co)).setCell ⟨w.heap.size, 7, none⟩ (.int .i64 R5.fo)).setCell ⟨w.heap.size, 8, none⟩ (.int .i64 R5.ho)).setCell ⟨w.heap.size, 9, none⟩ (.slice am R5.ms.length cm)).setCell ⟨w.heap.size, 10, none⟩ (.slice ae xs.length ce)).setCell ⟨w.heap.size + 1, 0, none⟩ (.int .i64 0)).setCell ⟨w.heap.size + 1, 1, none⟩ (.bool false)).setCell ⟨w.heap.size + 1, 2, none⟩ (.int .i64 0))) := by
                    show RReadE _ _ _ _
                    rw [HEQ.out]
                    have OMf := row_fr (row_fr OMn.out f11 (by intro r hr; obtain rfl := List.mem_singleton.1 hr; exact row_ne OMn.out G0n.out (by decide))) f3 (by intro r hr; obtain rfl := List.mem_singleton.1 hr; exact row_ne OMn.out G1n.out (by decide))
                    have OEf := ((OEn.out.fr f11 (by intro r hr; obtain rfl := List.mem_singleton.1 hr; exact ⟨_, _, G0n.out, by decide, by decide⟩)).fr f3 (by intro r hr; obtain rfl := List.mem_singleton.1 hr; exact ⟨_, _, g1, by decide, by decide⟩)).he
                    rw [HXS.out] at OEf
                    exact ⟨HFF.out, (.slice am R5.ms.length cm), (.slice ae xs.length ce), rfl, OwnI.holds OMf, OEf⟩
                  clear g11 f11 g1 g3 f3 g12
                  exact bodyPost_ret (v := .tuple #[.agg #[.int .i64 2, .int .i64 x1, .int .i64 x2, .int .i64 0, .int .i64 0, .bool false, .int .i64 R5.co, .int .i64 R5.fo, .int .i64 R5.ho, .slice am R5.ms.length cm, .slice ae xs.length ce], .agg #[.int .i64 0, .bool false, .int .i64 0]]) (by simp [results, Tryd.results20, go_sem, hk, hk3]) rfl HR.out
                exact AllReadyH.nil
              exact AllReadyH.nil
            exact AllReadyH.nil
          · have HEQ : Hid (readF l = (zeroF, cd, false, 0)) := by
              show _ = _
              unfold readF
              rw [if_neg HAB.out.1, if_neg HAB.out.2, HBD.out, if_neg (by simp), if_neg HKK.out]
              simp only
              rw [if_pos (by rw [← HCD.out]; exact hfc), HCD.out]
            have hdc := dcode_ne hfc
            clear hfc
            obtain ⟨dc, hdd⟩ : ∃ dc, dc = dcode cd := ⟨_, rfl⟩
            rw [← hdd] at hdc ⊢
            have HDD := Lib.hid hdd
            clear hdd
            go_wp2_with fail
            refine (rbare dc _).mono ?_
            rintro e wz ⟨rfl, hfz⟩
            unfold flt
            have FZ := Lib.hid (FWg.out.trans hfz)
            have Z0 := Lib.hid (hfz.heap G0g.out (by simp))
            have Z1 := Lib.hid (hfz.heap G1g.out (by simp))
            have r11 := row11 Z0.out
            have r3 := row3 Z1.out
            have za0 := frozen_of_row _ _ 0 _ _ Z0.out
            have za1 := frozen_of_row _ _ 1 _ _ Z0.out
            have za2 := frozen_of_row _ _ 2 _ _ Z0.out
            have za3 := frozen_of_row _ _ 3 _ _ Z0.out
            have za4 := frozen_of_row _ _ 4 _ _ Z0.out
            have za5 := frozen_of_row _ _ 5 _ _ Z0.out
            have za6 := frozen_of_row _ _ 6 _ _ Z0.out
            have za7 := frozen_of_row _ _ 7 _ _ Z0.out
            have za8 := frozen_of_row _ _ 8 _ _ Z0.out
            have za9 := frozen_of_row _ _ 9 _ _ Z0.out
            have za10 := frozen_of_row _ _ 10 _ _ Z0.out
            have zb0 := frozen_of_row _ _ 0 _ _ Z1.out
            have zb1 := frozen_of_row _ _ 1 _ _ Z1.out
            have zb2 := frozen_of_row _ _ 2 _ _ Z1.out
            clear hfz
            go_wp2
            have g11 := set11_row Z0.out (.int .i64 0) (.int .i64 0) (.int .i64 0) (.int .i64 0) (.int .i64 0) (.bool false) (.int .i64 0) (.int .i64 0) (.int .i64 0) (.slice none 0 0) (.slice none 0 0)
            have f11 := set11 wz w.heap.size (.int .i64 0) (.int .i64 0) (.int .i64 0) (.int .i64 0) (.int .i64 0) (.bool false) (.int .i64 0) (.int .i64 0) (.int .i64 0) (.slice none 0 0) (.slice none 0 0)
            have g1 := f11.heap Z1.out (by simp)
            have g3 := set3_row g1 (.int .i64 dc) (.bool false) (.int .i64 0)
            have f3 := set3 (((((((((((wz.setCell ⟨w.heap.size, 0, none⟩ (.int .i64 0)).setCell ⟨w.heap.size, 1, none⟩ (.int .i64 0)).setCell ⟨w.heap.size, 2, none⟩ (.int .i64 0)).setCell ⟨w.heap.size, 3, none⟩ (.int .i64 0)).setCell ⟨w.heap.size, 4, none⟩ (.int .i64 0)).setCell ⟨w.heap.size, 5, none⟩ (.bool false)).setCell ⟨w.heap.size, 6, none⟩ (.int .i64 0)).setCell ⟨w.heap.size, 7, none⟩ (.int .i64 0)).setCell ⟨w.heap.size, 8, none⟩ (.int .i64 0)).setCell ⟨w.heap.size, 9, none⟩ (.slice none 0 0)).setCell ⟨w.heap.size, 10, none⟩ (.slice none 0 0)) (w.heap.size + 1) (.int .i64 dc) (.bool false) (.int .i64 0)
            have g12 := f3.heap g11 (by simp)
            have hk := row11 g12
            have hk3 := row3 g3
            have HFF := Lib.hid (FZ.out.new (f11.comb f3 (U := [w.heap.size, w.heap.size + 1]) (by simp) (by simp)) (by simp))
            have HR : Hid (RReadE (readF l) w (.returned (.tuple #[.agg #[.int .i64 0, .int .i64 0, .int .i64 0, .int .i64 0, .int .i64 0, .bool false, .int .i64 0, .int .i64 0, .int .i64 0, .slice none 0 0, .slice none 0 0], .agg #[.int .i64 dc, .bool false, .int .i64 0]])) ((((((((((((((wz.setCell ⟨w.heap.size, 0, none⟩ (.int .i64 0)).setCell ⟨w.heap.size, 1, none⟩ (.int .i64 0)).setCell ⟨w.heap.size, 2, none⟩ (.int .i64 0)).setCell ⟨w.heap.size, 3, none⟩ (.int .i64 0)).setCell ⟨w.heap.size, 4, none⟩ (.int .i64 0)).setCell ⟨w.heap.size, 5, none⟩ (.bool false)).setCell ⟨w.heap.size, 6, none⟩ (.int .i64 0)).setCell ⟨w.heap.size, 7, none⟩ (.int .i64 0)).setCell ⟨w.heap.size, 8, none⟩ (.int .i64 0)).setCell ⟨w.heap.size, 9, none⟩ (.slice none 0 0)).setCell ⟨w.heap.size, 10, none⟩ (.slice none 0 0)).setCell ⟨w.heap.size + 1, 0, none⟩ (.int .i64 dc)).setCell ⟨w.heap.size + 1, 1, none⟩ (.bool false)).setCell ⟨w.heap.size + 1, 2, none⟩ (.int .i64 0))) := by
              show RReadE _ _ _ _
              rw [HEQ.out]
              refine ⟨HFF.out, .slice none 0 0, .slice none 0 0, ?_, nil_ints, nil_ents⟩
              show _ = Ending.returned (.tuple #[frV zeroF _ _, flt (dcode cd) false 0])
              rw [← HDD.out]
              rfl
            clear g11 f11 g1 g3 f3 g12
            exact bodyPost_ret (v := .tuple #[.agg #[.int .i64 0, .int .i64 0, .int .i64 0, .int .i64 0, .int .i64 0, .bool false, .int .i64 0, .int .i64 0, .int .i64 0, .slice none 0 0, .slice none 0 0], .agg #[.int .i64 dc, .bool false, .int .i64 0]]) (by simp [results, Tryd.results20, go_sem, hk, hk3]) rfl HR.out
      · have HNO := Lib.hid (no hC)
        have HEQ : Hid (readF l = (zeroF, c5, true, k5)) := by
          show _ = _
          unfold readF
          rw [if_neg HAB.out.1, if_neg HAB.out.2, HBD.out, if_pos hC]
        refine (rok (w.heap.size + 1 + 1) (w.heap.size + 1 + 1) l k5 c5 _ TQ.out false HNO.out).mono ?_
        rintro e we ⟨rfl, rfl⟩
        obtain ⟨vr, hp0, _⟩ := TQ.out
        have hp : wq.heap[w.heap.size + 1 + 1]? = some (.cells #[vr, .int .i64 (k5 : Int), .int .i64 (dcode c5), .bool true, .int .i64 (k5 : Int)] 85 (0, 0)) := by
          have h := hp0
          unfold rrC at h
          rw [if_neg hC, ← HNO.out] at h
          exact h
        obtain ⟨dc, hdd⟩ : ∃ dc, dc = dcode c5 := ⟨_, rfl⟩
        rw [← hdd] at hp
        have HDD := Lib.hid hdd
        have r5 := row5 hp
        have r11 := row11 G0.out
        have r3 := row3 G1.out
        have za0 := frozen_of_row _ _ 0 _ _ G0.out
        have za1 := frozen_of_row _ _ 1 _ _ G0.out
        have za2 := frozen_of_row _ _ 2 _ _ G0.out
        have za3 := frozen_of_row _ _ 3 _ _ G0.out
        have za4 := frozen_of_row _ _ 4 _ _ G0.out
        have za5 := frozen_of_row _ _ 5 _ _ G0.out
        have za6 := frozen_of_row _ _ 6 _ _ G0.out
        have za7 := frozen_of_row _ _ 7 _ _ G0.out
        have za8 := frozen_of_row _ _ 8 _ _ G0.out
        have za9 := frozen_of_row _ _ 9 _ _ G0.out
        have za10 := frozen_of_row _ _ 10 _ _ G0.out
        have zb0 := frozen_of_row _ _ 0 _ _ G1.out
        have zb1 := frozen_of_row _ _ 1 _ _ G1.out
        have zb2 := frozen_of_row _ _ 2 _ _ G1.out
        clear hp hp0 hdd hC
        go_wp2_with fail
        go_region
        clear r5 r11 r3 za0 za1 za2 za3 za4 za5 za6 za7 za8 za9 za10 zb0 zb1 zb2
        go_wp2
        have g11 := set11_row G0.out (.int .i64 0) (.int .i64 0) (.int .i64 0) (.int .i64 0) (.int .i64 0) (.bool false) (.int .i64 0) (.int .i64 0) (.int .i64 0) (.slice none 0 0) (.slice none 0 0)
        have f11 := set11 wq w.heap.size (.int .i64 0) (.int .i64 0) (.int .i64 0) (.int .i64 0) (.int .i64 0) (.bool false) (.int .i64 0) (.int .i64 0) (.int .i64 0) (.slice none 0 0) (.slice none 0 0)
        have g1 := f11.heap G1.out (by simp)
        have g3 := set3_row g1 (.int .i64 dc) (.bool true) (.int .i64 (k5 : Int))
        have f3 := set3 (((((((((((wq.setCell ⟨w.heap.size, 0, none⟩ (.int .i64 0)).setCell ⟨w.heap.size, 1, none⟩ (.int .i64 0)).setCell ⟨w.heap.size, 2, none⟩ (.int .i64 0)).setCell ⟨w.heap.size, 3, none⟩ (.int .i64 0)).setCell ⟨w.heap.size, 4, none⟩ (.int .i64 0)).setCell ⟨w.heap.size, 5, none⟩ (.bool false)).setCell ⟨w.heap.size, 6, none⟩ (.int .i64 0)).setCell ⟨w.heap.size, 7, none⟩ (.int .i64 0)).setCell ⟨w.heap.size, 8, none⟩ (.int .i64 0)).setCell ⟨w.heap.size, 9, none⟩ (.slice none 0 0)).setCell ⟨w.heap.size, 10, none⟩ (.slice none 0 0)) (w.heap.size + 1) (.int .i64 dc) (.bool true) (.int .i64 (k5 : Int))
        have g12 := f3.heap g11 (by simp)
        have g12 := (Fr.drew ((((((((((((((wq.setCell ⟨w.heap.size, 0, none⟩ (.int .i64 0)).setCell ⟨w.heap.size, 1, none⟩ (.int .i64 0)).setCell ⟨w.heap.size, 2, none⟩ (.int .i64 0)).setCell ⟨w.heap.size, 3, none⟩ (.int .i64 0)).setCell ⟨w.heap.size, 4, none⟩ (.int .i64 0)).setCell ⟨w.heap.size, 5, none⟩ (.bool false)).setCell ⟨w.heap.size, 6, none⟩ (.int .i64 0)).setCell ⟨w.heap.size, 7, none⟩ (.int .i64 0)).setCell ⟨w.heap.size, 8, none⟩ (.int .i64 0)).setCell ⟨w.heap.size, 9, none⟩ (.slice none 0 0)).setCell ⟨w.heap.size, 10, none⟩ (.slice none 0 0)).setCell ⟨w.heap.size + 1, 0, none⟩ (.int .i64 dc)).setCell ⟨w.heap.size + 1, 1, none⟩ (.bool true)).setCell ⟨w.heap.size + 1, 2, none⟩ (.int .i64 (k5 : Int))) []).heap g12 (by simp)
        have g3 := (Fr.drew ((((((((((((((wq.setCell ⟨w.heap.size, 0, none⟩ (.int .i64 0)).setCell ⟨w.heap.size, 1, none⟩ (.int .i64 0)).setCell ⟨w.heap.size, 2, none⟩ (.int .i64 0)).setCell ⟨w.heap.size, 3, none⟩ (.int .i64 0)).setCell ⟨w.heap.size, 4, none⟩ (.int .i64 0)).setCell ⟨w.heap.size, 5, none⟩ (.bool false)).setCell ⟨w.heap.size, 6, none⟩ (.int .i64 0)).setCell ⟨w.heap.size, 7, none⟩ (.int .i64 0)).setCell ⟨w.heap.size, 8, none⟩ (.int .i64 0)).setCell ⟨w.heap.size, 9, none⟩ (.slice none 0 0)).setCell ⟨w.heap.size, 10, none⟩ (.slice none 0 0)).setCell ⟨w.heap.size + 1, 0, none⟩ (.int .i64 dc)).setCell ⟨w.heap.size + 1, 1, none⟩ (.bool true)).setCell ⟨w.heap.size + 1, 2, none⟩ (.int .i64 (k5 : Int))) []).heap g3 (by simp)
        have hk := row11 g12
        have hk3 := row3 g3
        have HFF := Lib.hid ((FW.out.new (f11.comb f3 (U := [w.heap.size, w.heap.size + 1]) (by simp) (by simp)) (by simp)).trans (Fr.drew _ []))
        have HR : Hid (RReadE (readF l) w (.returned (.tuple #[.agg #[.int .i64 0, .int .i64 0, .int .i64 0, .int .i64 0, .int .i64 0, .bool false, .int .i64 0, .int .i64 0, .int .i64 0, .slice none 0 0, .slice none 0 0], .agg #[.int .i64 dc, .bool true, .int .i64 (k5 : Int)]])) ((((((((((((((wq.setCell ⟨w.heap.size, 0, none⟩ (.int .i64 0)).setCell ⟨w.heap.size, 1, none⟩ (.int .i64 0)).setCell ⟨w.heap.size, 2, none⟩ (.int .i64 0)).setCell ⟨w.heap.size, 3, none⟩ (.int .i64 0)).setCell ⟨w.heap.size, 4, none⟩ (.int .i64 0)).setCell ⟨w.heap.size, 5, none⟩ (.bool false)).setCell ⟨w.heap.size, 6, none⟩ (.int .i64 0)).setCell ⟨w.heap.size, 7, none⟩ (.int .i64 0)).setCell ⟨w.heap.size, 8, none⟩ (.int .i64 0)).setCell ⟨w.heap.size, 9, none⟩ (.slice none 0 0)).setCell ⟨w.heap.size, 10, none⟩ (.slice none 0 0)).setCell ⟨w.heap.size + 1, 0, none⟩ (.int .i64 dc)).setCell ⟨w.heap.size + 1, 1, none⟩ (.bool true)).setCell ⟨w.heap.size + 1, 2, none⟩ (.int .i64 (k5 : Int))).drew) := by
          show RReadE _ _ _ _
          rw [HEQ.out]
          refine ⟨HFF.out, .slice none 0 0, .slice none 0 0, ?_, nil_ints, nil_ents⟩
          show _ = Ending.returned (.tuple #[frV zeroF _ _, flt (dcode c5) true (k5 : Int)])
          rw [← HDD.out]
          rfl
        clear g11 f11 g1 g3 f3 g12
        exact bodyPost_ret (v := .tuple #[.agg #[.int .i64 0, .int .i64 0, .int .i64 0, .int .i64 0, .int .i64 0, .bool false, .int .i64 0, .int .i64 0, .int .i64 0, .slice none 0 0, .slice none 0 0], .agg #[.int .i64 dc, .bool true, .int .i64 (k5 : Int)]]) (by simp [results, Tryd.results20, go_sem, hk, hk3]) rfl HR.out
end Go.Proofs.YtpeocdcciecpoaaDoor
