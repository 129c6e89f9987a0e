/- A mail: Take. -/
import Derived.Test.YtlkmpmhbidhfcaaMPut
import Derived.Test.YtlkmpmhbidhfcaaMItem
import Derived.Test.YtlkmpmhbidhfcaaMDel
namespace Go.Proofs.Ytlkmpmhbidhfcaa
open Go.RowKit

theorem Ml.keeps {w w' : World} {B p : Nat} {v : Value} {L : List Lt} {n : Nat} (h : Ml w B p v L n) (hf : Fr w w' (mbs p v)) {B' : Nat} {u : Value} {t : Int} {l : List Int} (hi : It w B' u t l) : It w' B' u t l :=
  hi.keep hf (fun r hr cs fz e => h.apart e (by decide) (by decide) hr)

theorem take_none (B p : Nat) (v : Value) (L : List Lt) (n : Nat) (i : Int) (w : World) (h : Ml w B p v L n) (hi : ¬ (0 ≤ i ∧ i < (L.length : Int))) :
    Calls Try.prog 11 #[.pointer (some ⟨p, 0, none⟩), .int .i64 i] w fun e w' => e = .returned (.tuple #[.agg #[.int .i64 0, .slice none 0 0], .bool false]) ∧ Fr w w' [] := by
  have HA := Lib.hid (Fr.alloc w (.cells #[.int .i64 0, .slice none 0 0] 31) [])
  have H1 := Lib.hid (h.keep HA.out)
  have HD := Lib.hid (decide_eq_false hi)
  have HN := heap_alloc_new w (.cells #[.int .i64 0, .slice none 0 0] 31)
  have z0 := frozen_of_row _ _ 0 _ _ HN
  have z1 := frozen_of_row _ _ 1 _ _ HN
  obtain ⟨r0, r1⟩ := row2 HN
  clear h hi HN
  go_enter Try.func11, Try.ntmps11
  go_wp2_with fail
  refine (has_any B p v L n i _ H1.out false HD.out).mono ?_
  rintro e w1 ⟨rfl, rfl⟩
  go_wp2
  exact bodyPost_ret (v := .tuple #[.agg #[.int .i64 0, .slice none 0 0], .bool false]) (by simp [results, Try.results11, go_sem, r0, r1]) rfl ⟨rfl, HA.out⟩

/-- What a Take gives: the item, of memory of its own, the letters that are left. -/
def TakeQ (w : World) (B p : Nat) (v : Value) (L : List Lt) (n i : Nat) (u : Value) (w' : World) : Prop :=
  ∃ x, u = .tuple #[x, .bool true] ∧ It w' w.heap.size x (L.getD i dL).1 (numsOf (L.getD i dL).2) ∧ Mi w w' B p v (L.eraseIdx i) n

set_option maxRecDepth 100000 in
theorem take_any (B p : Nat) (v : Value) (L : List Lt) (n i : Nat) (w : World) (h : Ml w B p v L n) (hi : i < L.length) (hs : (L.getD i dL).2.size ≤ 1000000) :
    Calls Try.prog 11 #[.pointer (some ⟨p, 0, none⟩), .int .i64 i] w (Gives (TakeQ w B p v L n i)) := by
  obtain ⟨W1, hW1⟩ : ∃ W1, W1 = w.alloc (.cells #[.int .i64 0, .slice none 0 0] 31) := ⟨_, rfl⟩
  have HA := Lib.hid (show Fr w W1 [] by rw [hW1]; exact Fr.alloc w (.cells #[.int .i64 0, .slice none 0 0] 31) [])
  have HN := Lib.hid (show W1.heap[w.heap.size]? = some (.cells #[.int .i64 0, .slice none 0 0] 31 (0, 0)) by rw [hW1]; exact heap_alloc_new w _)
  have H1 := Lib.hid (h.keep HA.out)
  have HP := Lib.hid h.lt
  have HD := Lib.hid (decide_eq_true (show 0 ≤ (i : Int) ∧ (i : Int) < (L.length : Int) by omega))
  obtain ⟨g, c, rfl, h1, h2, e0, e1⟩ := H1.out.at i hi
  obtain ⟨x, hx⟩ : ∃ x, x = L.getD i dL := ⟨_, rfl⟩
  rw [← hx] at e0 e1 hs
  obtain ⟨c0, _⟩ := H1.out.cells
  have HX := Lib.hid hx
  have HW := Lib.hid hW1
  have HI := Lib.hid hi
  clear h hx hW1 hi
  unfold maxLen at h2
  go_enter Try.func11, Try.ntmps11
  go_wp2_with fail
  rw [← HW.out]
  refine (has_any B p _ L n i _ H1.out true HD.out).mono ?_
  rintro e w1 ⟨rfl, rfl⟩
  have hi := HI.out
  go_wp2_with fail
  refine (item_any x.1 x.2 _ hs).mono ?_
  rintro e w2 ⟨u, rfl, hu, hf⟩
  have H2 := Lib.hid (H1.out.keep hf)
  have N2 := Lib.hid (hf.heap HN.out (by simp))
  have F2 := Lib.hid (HA.out.trans hf)
  obtain ⟨g2, c2, cs, fz, rfl, hB2, hby, hrow, hfz, hle⟩ := hu
  have IT2 := Lib.hid (show It w2 w.heap.size (.agg #[.int .i64 x.1, .slice (some ⟨g2, 0, none⟩) (numsOf x.2).length c2]) x.1 (numsOf x.2) from ⟨g2, c2, cs, fz, rfl, by have := HA.out.size; omega, hby, hrow, hfz, hle⟩)
  clear hf hB2 hby hrow hfz hle c0 e0 e1
  obtain ⟨W3, hW3⟩ : ∃ W3, W3 = w2.alloc (.cells #[.int .i64 x.1, .slice (some ⟨g2, 0, none⟩) (numsOf x.2).length c2] 31) := ⟨_, rfl⟩
  have FA := Lib.hid (show Fr w2 W3 [] by rw [hW3]; exact Fr.alloc _ _ [])
  have H3 := Lib.hid (H2.out.keep FA.out)
  have N3 := Lib.hid (FA.out.heap N2.out (by simp))
  have F3 := Lib.hid (F2.out.trans FA.out)
  have IT3 := Lib.hid (IT2.out.keep FA.out (by simp))
  have B3 := Lib.hid (show W3.heap[w2.heap.size]? = some (.cells #[.int .i64 x.1, .slice (some ⟨g2, 0, none⟩) (numsOf x.2).length c2] 31 (0, 0)) by rw [hW3]; exact heap_alloc_new _ _)
  obtain ⟨d0, _⟩ := (H2.out.keep (Fr.alloc w2 (.cells #[.int .i64 x.1, .slice (some ⟨g2, 0, none⟩) (numsOf x.2).length c2] 31) [])).cells
  have HV := Lib.hid hW3
  clear hW3
  go_wp2_with fail
  rw [← HV.out]
  refine (delete_any B g c i L W3 H3.out.2.2 hi).mono ?_
  rintro e w4 ⟨rfl, ho, hf⟩
  have hgp : g ≠ p := fun e => row_ne H3.out.2.2 H3.out.2.1 (by decide) (by rw [← e]; rfl)
  have hgN : g ≠ w.heap.size := fun e => row_ne H3.out.2.2 N3.out (by decide) (by rw [← e]; rfl)
  have hgM : g ≠ w2.heap.size := fun e => row_ne H3.out.2.2 B3.out (by decide) (by rw [← e]; rfl)
  have P4 := Lib.hid (hf.heap H3.out.2.1 (by simpa using hgp.symm))
  have N4 := Lib.hid (hf.heap N3.out (by simpa using hgN.symm))
  have B4 := Lib.hid (hf.heap B3.out (by simpa using hgM.symm))
  have O4 := Lib.hid ho
  have F4 := Lib.hid (show Fr w w4 (mbs p (.slice (some ⟨g, 0, none⟩) L.length c)) from (F3.out.mono (by simp)).trans (hf.mono (by simp [mbs, Value.ownBlock])))
  have IT4 := Lib.hid (IT3.out.keep hf (by intro r hr cs' fz' e; obtain rfl := List.mem_singleton.1 hr; exact row_ne H3.out.2.2 e (by decide) rfl))
  have hNM : w.heap.size < w2.heap.size := size_of_row N2.out
  have hpN := HP.out
  have hMp : w2.heap.size ≠ p := by omega
  have hNp : w.heap.size ≠ p := by omega
  have hMN : w2.heap.size ≠ w.heap.size := by omega
  obtain ⟨k0, _⟩ := row2 P4.out
  obtain ⟨n0, n1⟩ := row2 N4.out
  obtain ⟨b0, b1⟩ := row2 B4.out
  have y0 := frozen_of_row _ _ 0 _ _ P4.out
  have z0 := frozen_of_row _ _ 0 _ _ N4.out
  have z1 := frozen_of_row _ _ 1 _ _ N4.out
  have HNE := Lib.hid hNp
  clear ho hf d0 hgp hgN hgM hNM hpN
  go_wp2
  obtain ⟨W5, hW5⟩ : ∃ W5, W5 = w4.setCell ⟨p, 0, none⟩ (.slice (some ⟨g, 0, none⟩) (L.length - 1) c) := ⟨_, rfl⟩
  have M5 := Lib.hid (show Ml W5 B p (.slice (some ⟨g, 0, none⟩) (L.length - 1) c) (L.eraseIdx i) n by
    rw [hW5]
    exact ⟨H1.out.1, by rw [heap_setCell_same _ p 0 _ _ _ P4.out]; rfl, row_set O4.out P4.out (by decide) _ _⟩)
  have F5 := Lib.hid (show Fr w W5 (mbs p (.slice (some ⟨g, 0, none⟩) L.length c)) by rw [hW5]; exact F4.out.trans (Fr.setCell _ _ _ _ (by simp [mbs])))
  have IT5 := Lib.hid (show It W5 w.heap.size (.agg #[.int .i64 x.1, .slice (some ⟨g2, 0, none⟩) (numsOf x.2).length c2]) x.1 (numsOf x.2) by
    rw [hW5]
    exact IT4.out.keep (Fr.setCell w4 p 0 _ (S := [p]) (by simp)) (by intro r hr cs' fz' e; obtain rfl := List.mem_singleton.1 hr; rw [P4.out] at e; simp at e))
  have N5 := Lib.hid (show W5.heap[w.heap.size]? = some (.cells #[.int .i64 0, .slice none 0 0] 31 (0, 0)) by rw [hW5]; exact (Fr.setCell w4 p 0 _ (S := [p]) (by simp)).heap N4.out (by simpa using HNE.out))
  rw [← hW5]
  have FE := Lib.hid ((Fr.setCell W5 w.heap.size 0 (.int .i64 x.1) (S := [w.heap.size]) (by simp)).trans (Fr.setCell _ w.heap.size 1 (.slice (some ⟨g2, 0, none⟩) (numsOf x.2).length c2) (S := [w.heap.size]) (by simp)))
  obtain ⟨n0', n1'⟩ := row2 N5.out
  refine bodyPost_ret (v := .tuple #[.agg #[.int .i64 x.1, .slice (some ⟨g2, 0, none⟩) (numsOf x.2).length c2], .bool true]) (by simp [results, Try.results11, go_sem, n0', n1']) rfl (gives ⟨_, rfl, ?_, .slice (some ⟨g, 0, none⟩) (L.length - 1) c, ?_, F5.out.new FE.out (by simp)⟩)
  · rw [← HX.out]
    exact IT5.out.keep FE.out (by intro r hr cs' fz' e; obtain rfl := List.mem_singleton.1 hr; rw [N5.out] at e; simp at e)
  · exact M5.out.fr FE.out (by simpa using fun e => HNE.out e.symm) (by intro r hr; obtain rfl := List.mem_singleton.1 hr; exact row_ne M5.out.2.2 N5.out (by decide))
end Go.Proofs.Ytlkmpmhbidhfcaa
