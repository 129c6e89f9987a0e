/- Package found: who would be in the ring; whether it is founded. -/
import Derived.Test.YtjjlajcpngphpaaFdCat
import Derived.Test.YtjjlajcpngphpaaFd1
import Derived.Test.YtjjlajcpngphpaaOrder
namespace Go.Proofs.Ytjjlajcpngphpaa
open Go.RowKit

/-- Who would be in the ring. -/
def membs (A : List Int) (c : Int) : List Int := setOf (A ++ [c])
theorem mem_membs {A : List Int} {c x : Int} : x ∈ membs A c ↔ x ∈ A ∨ x = c := by unfold membs; rw [mem_setOf]; simp
theorem membs_rises (A : List Int) (c : Int) : Rises (membs A c) := setOf_rises _
theorem membs_le (A : List Int) (c : Int) : (membs A c).length ≤ A.length + 1 := by
  have := setOf_length (A ++ [c]); unfold membs; simpa using this
theorem membs_pos (A : List Int) (c : Int) : 0 < (membs A c).length := List.length_pos_of_mem (mem_membs.2 (.inr rfl))
/-- Whether a ring is founded. -/
def foundB (A R : List Int) (ca cs : Int) (ou an : Bool) (si fo : Int) : Bool :=
  !ou && (decide ((membs A ca).getD 0 0 = ca) && (longB fo cs && (!an || (!decide (R = membs A ca) || longB si cs))))

/-- Eight cells. -/
def C8 (g : Nat) (a b c d e f h i : Value) (w : World) : Prop :=
  w.cell? ⟨g, 0, none⟩ = some a ∧ w.cell? ⟨g, 1, none⟩ = some b ∧ w.cell? ⟨g, 2, none⟩ = some c ∧ w.cell? ⟨g, 3, none⟩ = some d ∧ w.cell? ⟨g, 4, none⟩ = some e ∧ w.cell? ⟨g, 5, none⟩ = some f ∧ w.cell? ⟨g, 6, none⟩ = some h ∧ w.cell? ⟨g, 7, none⟩ = some i
theorem row8 {w : World} {g : Nat} {a b c d e f h i : Value} {T : TypeId} (k : w.heap[g]? = some (.cells #[a, b, c, d, e, f, h, i] T (0, 0))) : C8 g a b c d e f h i w :=
  ⟨by rw [cell_of_row w g 0 _ _ _ k]; rfl, by rw [cell_of_row w g 1 _ _ _ k]; rfl, by rw [cell_of_row w g 2 _ _ _ k]; rfl, by rw [cell_of_row w g 3 _ _ _ k]; rfl, by rw [cell_of_row w g 4 _ _ _ k]; rfl, by rw [cell_of_row w g 5 _ _ _ k]; rfl, by rw [cell_of_row w g 6 _ _ _ k]; rfl, by rw [cell_of_row w g 7 _ _ _ k]; rfl⟩
theorem C8.fr {g : Nat} {a b c d e f h i : Value} {w w' : World} (k : C8 g a b c d e f h i w) (hf : Fr w w' []) : C8 g a b c d e f h i w' :=
  ⟨hf.cell k.1 (by simp), hf.cell k.2.1 (by simp), hf.cell k.2.2.1 (by simp), hf.cell k.2.2.2.1 (by simp), hf.cell k.2.2.2.2.1 (by simp), hf.cell k.2.2.2.2.2.1 (by simp), hf.cell k.2.2.2.2.2.2.1 (by simp), hf.cell k.2.2.2.2.2.2.2 (by simp)⟩
theorem HIf.sh {w : World} {v : Value} {l : List Int} (h : HIf w v l) : ∃ a n c, v = .slice a n c := by
  obtain ⟨⟨a, c, rfl, _⟩, _⟩ := h; exact ⟨_, _, _, rfl⟩
theorem ints_sh {w : World} {v : Value} {l : List Int} (h : HInts w v l) : ∃ a n c, v = .slice a n c := by
  obtain ⟨a, c, rfl, _⟩ := h; exact ⟨_, _, _, rfl⟩
theorem hints_of_cells {w : World} {g n : Nat} {l : List Int} (hn : l.length = n) (hm : n ≤ maxLen) (h : w.heap[g]? = some (.cells (i64s l).toArray 3 (0, 0))) : HIf w (.slice (some ⟨g, 0, none⟩) n n) l := by
  subst hn
  refine ⟨⟨_, _, rfl, Nat.le_refl _, hm, fun _ => ⟨g, 0, rfl, fun i hi => ?_⟩⟩, .inr ⟨_, _, rfl⟩⟩
  rw [Nat.zero_add, cell_of_row _ _ _ _ _ _ h]
  simp [i64s, hi]
/-- slices.Concat of a slice and one number. -/
theorem concat2 {W : World} {g1 g2 : Nat} {va : Value} {A : List Int} {x : Int} (hl : A.length ≤ 1000) (h1 : HIf W va A) (hb : W.heap[g1]? = some (.cells #[.int .i64 x] 3 (0, 0))) (hr : W.heap[g2]? = some (.cells #[va, .slice (some ⟨g1, 0, none⟩) 1 1] 22 (0, 0))) :
    Calls Try.prog 19 #[.slice (some ⟨g2, 0, none⟩) 2 2] W (Gives fun u w' => OwnI w' W.heap.size u (A ++ [x]) ∧ Fr W w' []) := by
  have hB : HIf W (.slice (some ⟨g1, 0, none⟩) 1 1) [x] := hints_of_cells (l := [x]) rfl (by decide) hb
  have hcat : catL [(va, A), (.slice (some ⟨g1, 0, none⟩) 1 1, [x])] = A ++ [x] := by simp [catL]
  have ht : totL [(va, A), (.slice (some ⟨g1, 0, none⟩) 1 1, [x])] = A.length + 1 := by rw [← catL_len, hcat]; simp
  have := concat_any g2 [(va, A), (.slice (some ⟨g1, 0, none⟩) 1 1, [x])] W (by simp) (by rw [ht]; omega)
    (fun i hi => by
      rw [cell_of_row _ _ _ _ _ _ hr]
      match i, hi with
      | 0, _ => rfl
      | 1, _ => rfl
      | i + 2, hi => exact absurd hi (by simp))
    (fun i hi => by
      match i, hi with
      | 0, _ => exact h1
      | 1, _ => exact hB
      | i + 2, hi => exact absurd hi (by simp))
  rw [hcat] at this
  exact this
set_option maxHeartbeats 2000000 in
set_option maxRecDepth 100000 in
theorem members_any (ca cs : Int) (ou an : Bool) (va vr : Value) (si fo : Int) (A : List Int) (w : World) (hA : HIf w va A) (hl : A.length ≤ 1000) (hr : ∃ a n c, vr = .slice a n c) :
    Calls Try.prog 10 #[.agg #[.int .i64 ca, .int .i64 cs, .bool ou, .bool an, va, vr, .int .i64 si, .int .i64 fo]] w (Gives fun u w' => OwnI w' w.heap.size u (membs A ca) ∧ Fr w w' []) := by
  obtain ⟨ra, rn, rc, rfl⟩ := hr
  obtain ⟨aa, an', ac, hva⟩ := hA.sh
  have HA := Lib.hid hA
  clear hA
  subst hva
  obtain ⟨O, hO⟩ : ∃ O, O = Obj.cells #[.int .i64 ca, .int .i64 cs, .bool ou, .bool an, .slice aa an' ac, .slice ra rn rc, .int .i64 si, .int .i64 fo] 24 := ⟨_, rfl⟩
  have HO := Lib.hid (show (w.alloc O).heap[w.heap.size]? = some O from heap_alloc_new w O)
  have HF := Lib.hid (Fr.alloc w O [])
  rw [hO] at HO HF
  clear hO
  go_enter Try.func10, Try.ntmps10
  go_upto_region 1 with fail
  generalize w.alloc _ = V at HO HF ⊢
  obtain ⟨y0, y1, y2, y3, y4, y5, y6, y7⟩ := row8 HO.out
  obtain ⟨W1, hW1⟩ : ∃ W1, W1 = V.alloc (.cells #[.int .i64 ca] 3) := ⟨_, rfl⟩
  have HK1 := Lib.hid (show W1.heap[V.heap.size]? = some (.cells #[.int .i64 ca] 3 (0, 0)) ∧ Fr V W1 [] ∧ W1.heap.size = V.heap.size + 1 from by rw [hW1]; exact ⟨heap_alloc_new V _, Fr.alloc V _ [], by simp⟩)
  obtain ⟨W2, hW2⟩ : ∃ W2, W2 = W1.alloc (.cells #[.slice aa an' ac, .slice (some ⟨V.heap.size, 0, none⟩) 1 1] 22) := ⟨_, rfl⟩
  have HK2 := Lib.hid (show W2.heap[V.heap.size + 1]? = some (.cells #[.slice aa an' ac, .slice (some ⟨V.heap.size, 0, none⟩) 1 1] 22 (0, 0)) ∧ Fr W1 W2 [] from by rw [hW2, ← HK1.out.2.2]; exact ⟨heap_alloc_new W1 _, Fr.alloc W1 _ []⟩)
  have HFW := Lib.hid (HF.out.trans (HK1.out.2.1.trans HK2.out.2))
  have CC := Lib.hid (concat2 hl (HA.out.keep HFW.out) (HK2.out.2.heap HK1.out.1 (by simp)) HK2.out.1)
  rw [hW2, hW1] at CC
  go_wp2_with fail
  with_reducible refine (CC.out).mono ?_
  rintro e w3 ⟨u, rfl, ho, hf⟩
  rw [← hW1, ← hW2] at ho hf
  clear hW1 hW2 CC
  have HO3 := Lib.hid ho
  have HF3 := Lib.hid (HFW.out.trans hf)
  clear ho hf
  go_wp2_with fail
  with_reducible refine (set_any u (A ++ [ca]) w3 HO3.out.holds HO3.out.form (by simp; omega)).mono ?_
  rintro e w4 ⟨u2, rfl, ho, hf⟩
  have HO4 := Lib.hid (ho.mono HF3.out.size)
  have HF4 := Lib.hid (HF3.out.trans hf)
  clear ho hf
  go_wp2
  go_ret
  exact gives ⟨HO4.out, HF4.out⟩
end Go.Proofs.Ytjjlajcpngphpaa
