/- A mail: All. -/
import Derived.Test.YtlkmpmhbidhfcaaMPut
import Derived.Test.YtlkmpmhbidhfcaaMItem
namespace Go.Proofs.Ytlkmpmhbidhfcaa
open Go.RowKit

theorem infoIt : (Try.prog.info? 31).map (fun i => (i.zero, i.size, i.bytes)) = some (some (.agg #[.int .i64 0, .slice none 0 0]), 2, 32) := by kernel_rfl
/-- Of the items in block g the first k are those of the letters. -/
def HI (w : World) (B g : Nat) (L : List Lt) (k : Nat) : Prop :=
  B ≤ g ∧ ∃ cs : Array Value, w.heap[g]? = some (.cells cs 31 (0, 0)) ∧ cs.size = 2 * L.length ∧ ∀ i, i < k → ∃ a b, cs[2 * i]? = some a ∧ cs[2 * i + 1]? = some b ∧ It w B (.agg #[a, b]) (L.getD i dL).1 (numsOf (L.getD i dL).2)
theorem HI.keep {w w' : World} {B g : Nat} {L : List Lt} {k : Nat} {S : List Nat} (h : HI w B g L k) (hf : Fr w w' S) (hg : g ∉ S) (hS : ∀ r ∈ S, ∀ cs fz, w.heap[r]? ≠ some (.cells cs 5 fz)) : HI w' B g L k := by
  obtain ⟨hB, cs, h1, h2, h3⟩ := h
  refine ⟨hB, cs, hf.heap h1 hg, h2, fun i hi => ?_⟩
  obtain ⟨a, b, ha, hb, hit⟩ := h3 i hi
  exact ⟨a, b, ha, hb, hit.keep hf hS⟩
theorem HI.fr {w w' : World} {B g : Nat} {L : List Lt} {k : Nat} (h : HI w B g L k) (hf : Fr w w' []) : HI w' B g L k := h.keep hf (by simp) (by simp)
/-- The i-th item's cells. -/
theorem HI.at {w : World} {B g : Nat} {L : List Lt} {k : Nat} (h : HI w B g L k) (i : Nat) (hi : i < k) : ∃ b, w.cell? ⟨g, 2 * i, none⟩ = some (.int .i64 (L.getD i dL).1) ∧ w.cell? ⟨g, 2 * i + 1, none⟩ = some b ∧ Bytes w b (numsOf (L.getD i dL).2) := by
  obtain ⟨hB, cs, h1, h2, h3⟩ := h
  obtain ⟨a, b, ha, hb, g', c, cs', fz, he, _, hby, _⟩ := h3 i hi
  simp only [Value.agg.injEq, Array.mk.injEq, List.cons.injEq, and_true] at he
  obtain ⟨rfl, rfl⟩ := he
  exact ⟨_, by rw [cell_of_row w g _ _ _ _ h1, ha], by rw [cell_of_row w g _ _ _ _ h1, hb], hby⟩
theorem HI.put {w : World} {B g : Nat} {L : List Lt} {k : Nat} (h : HI w B g L k) (hk : k < L.length) {a b : Value} (hit : It w B (.agg #[a, b]) (L.getD k dL).1 (numsOf (L.getD k dL).2)) :
    HI ((w.setCell ⟨g, 2 * k, none⟩ a).setCell ⟨g, 2 * k + 1, none⟩ b) B g L (k + 1) := by
  obtain ⟨hB, cs, h1, h2, h3⟩ := h
  have hf : Fr w ((w.setCell ⟨g, 2 * k, none⟩ a).setCell ⟨g, 2 * k + 1, none⟩ b) [g] := (Fr.setCell w g _ _ (by simp)).trans (Fr.setCell _ g _ _ (by simp))
  have hS : ∀ r ∈ [g], ∀ cs fz, w.heap[r]? ≠ some (.cells cs 5 fz) := by
    intro r hr cs' fz' e
    obtain rfl := List.mem_singleton.1 hr
    rw [h1] at e
    simp at e
  refine ⟨hB, (cs.setIfInBounds (2 * k) a).setIfInBounds (2 * k + 1) b, by rw [heap_setCell_same _ g _ _ _ _ (heap_setCell_same w g _ _ _ _ h1)], by simpa using h2, fun i hi => ?_⟩
  by_cases e : i = k
  · subst e
    refine ⟨a, b, ?_, ?_, hit.keep hf hS⟩
    · rw [Array.getElem?_setIfInBounds_ne (by omega), Array.getElem?_setIfInBounds_self_of_lt (by omega)]
    · rw [Array.getElem?_setIfInBounds_self_of_lt (by simp; omega)]
  · obtain ⟨a', b', ha, hb, hi'⟩ := h3 i (by omega)
    refine ⟨a', b', ?_, ?_, hi'.keep hf hS⟩
    · rw [Array.getElem?_setIfInBounds_ne (by omega), Array.getElem?_setIfInBounds_ne (by omega), ha]
    · rw [Array.getElem?_setIfInBounds_ne (by omega), Array.getElem?_setIfInBounds_ne (by omega), hb]

/-- 'make([]Item, n)' -/
theorem make_items (w : World) (n : Nat) (hc : n ≤ 1000000) : ∃ cs : Array Value, cs.size = 2 * n ∧ 
    (Instr.makeSlice 50 (.int .i64 (n : Int)) (.int .i64 (n : Int))).run Try.prog w = .ok (.slice (some ⟨w.heap.size, 0, none⟩) n n) (w.alloc (.cells cs 31)) := by
  obtain ⟨i0, hi, hz0, hz1, hz2⟩ := info_parts infoIt
  have hr := run_make (P := Try.prog) w 50 31 i0 _ Try.underlying50 hi hz0 .i64 .i64 (n : Int) (n : Int) (by omega) (by omega) (by rw [hz2]; omega) (by omega)
  refine ⟨_, ?_, hr⟩
  rw [Int.toNat_natCast, hz1]
  simp [madeCells]
  omega
/-- What All gives: the items, of memory of their own. -/
def AllQ (w : World) (L : List Lt) (u : Value) (w' : World) : Prop := ∃ g, u = .slice (some ⟨g, 0, none⟩) L.length L.length ∧ HI w' w.heap.size g L L.length ∧ Fr w w' []
set_option maxRecDepth 100000 in
theorem all_any (B p : Nat) (v : Value) (L : List Lt) (n : Nat) (w : World) (h : Ml w B p v L n) (hr : L.length ≤ 4096) (hs : ∀ i, i < L.length → (L.getD i dL).2.size ≤ 1000000) :
    Calls Try.prog 21 #[.pointer (some ⟨p, 0, none⟩)] w (Gives (AllQ w L)) := by
  obtain ⟨cs, hcs, hmk⟩ := make_items w L.length (by omega)
  obtain ⟨a, c, rfl⟩ := h.shape
  obtain ⟨c0, _⟩ := h.cells
  have H := Lib.hid h
  obtain ⟨W1, hW1⟩ : ∃ W1, W1 = w.alloc (.cells cs 31) := ⟨_, rfl⟩
  have F1 := Lib.hid (show Fr w W1 [] by rw [hW1]; exact Fr.alloc _ _ [])
  have I1 := Lib.hid (show HI W1 w.heap.size w.heap.size L 0 from ⟨Nat.le_refl _, cs, by rw [hW1]; exact heap_alloc_new _ _, hcs, fun i hi => by omega⟩)
  rw [← hW1] at hmk
  have c1 := (h.keep F1.out).cells.1
  have HS := Lib.hid hs
  have HN := Lib.hid hr
  clear hW1 hcs h hs
  go_enter Try.func21, Try.ntmps21
  go_wp2
  go_loopw [17] (fun i wr => ∃ k : Nat, k ≤ L.length ∧ i = .int .i64 k ∧ HI wr w.heap.size w.heap.size L k ∧ Fr w wr []) (fun i _ => L.length - (intOf i).toNat)
  case atStart => exact ⟨0, Nat.zero_le _, rfl, I1.out, F1.out⟩
  case round =>
    obtain ⟨k, hk, rfl, hi, hf⟩ := hrel
    have I := Lib.hid hi
    have F := Lib.hid hf
    clear hi hf
    by_cases hlt : k < L.length
    · obtain ⟨g, cc, he, h1, h2, e0, e1⟩ := (H.out.keep F.out).at k hlt
      simp only [Value.slice.injEq, true_and] at he
      obtain ⟨rfl, rfl⟩ := he
      obtain ⟨x, hx⟩ : ∃ x, x = L.getD k dL := ⟨_, rfl⟩
      have hsx := HS.out k hlt
      rw [← hx] at e0 e1 hsx
      have HX := Lib.hid hx
      unfold maxLen at h2
      have HB := Lib.hid (heap_alloc_new wr (.cells #[.int .i64 x.1, .string x.2] 55))
      obtain ⟨b0, b1⟩ := row2 HB.out
      have IA := Lib.hid (I.out.fr (Fr.alloc wr (.cells #[.int .i64 x.1, .string x.2] 55) []))
      clear hx
      go_wp2_with fail
      refine (item_any x.1 x.2 _ hsx).mono ?_
      rintro e w2 ⟨u, rfl, hu, hf⟩
      have I2 := Lib.hid (IA.out.fr hf)
      have F2 := Lib.hid ((F.out.trans (Fr.alloc wr _ [])).trans hf)
      obtain ⟨g2, c2, cs2, fz, rfl, hB2, hby, hrow, hfz, hle⟩ := hu
      have IT2 := Lib.hid (show It w2 w.heap.size (.agg #[.int .i64 x.1, .slice (some ⟨g2, 0, none⟩) (numsOf x.2).length c2]) x.1 (numsOf x.2) from ⟨g2, c2, cs2, fz, rfl, by have := F.out.size; simp at hB2; omega, hby, hrow, hfz, hle⟩)
      obtain ⟨_, cs3, r1, r2, _⟩ := I2.out
      have q0 : ∃ y, w2.cell? ⟨w.heap.size, k * 2, none⟩ = some y := ⟨cs3[k * 2], by rw [cell_of_row w2 _ _ _ _ _ r1, Array.getElem?_eq_getElem (by omega)]⟩
      have q1 : ∃ y, w2.cell? ⟨w.heap.size, k * 2 + 1, none⟩ = some y := ⟨cs3[k * 2 + 1], by rw [cell_of_row w2 _ _ _ _ _ r1, Array.getElem?_eq_getElem (by omega)]⟩
      obtain ⟨y0, q0⟩ := q0
      obtain ⟨y1, q1⟩ := q1
      have z0 := frozen_of_row _ _ (k * 2) _ _ r1
      have z1 := frozen_of_row _ _ (k * 2 + 1) _ _ r1
      clear hf hB2 hby hrow hfz hle r1 r2
      go_wp2
      go_roundw
      case rel =>
        have hp := I2.out.put hlt (a := .int .i64 x.1) (b := .slice (some ⟨g2, 0, none⟩) (numsOf x.2).length c2) (by rw [← HX.out]; exact IT2.out)
        rw [Nat.mul_comm 2 k] at hp
        exact ⟨k + 1, by omega, by go_num, hp, F2.out.new ((Fr.setCell w2 w.heap.size _ _ (S := [w.heap.size]) (by simp)).trans (Fr.setCell _ w.heap.size _ _ (by simp))) (by simp)⟩
      case measure => simp [intOf]; omega
    · obtain rfl : k = L.length := by omega
      go_wp2
      go_ret
      exact gives ⟨_, rfl, I.out, F.out⟩
end Go.Proofs.Ytlkmpmhbidhfcaa
