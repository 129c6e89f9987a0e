/- A letter as an item. -/
import Derived.Test.YtlkmpmhbidhfcaaMail
namespace Go.Proofs.Ytlkmpmhbidhfcaa
open Go.RowKit

/-- An item: to whom, and bytes of the call's own (from block B on) that may be written. -/
def It (w : World) (B : Nat) (v : Value) (t : Int) (l : List Int) : Prop :=
  ∃ g c cs fz, v = .agg #[.int .i64 t, .slice (some ⟨g, 0, none⟩) l.length c] ∧ B ≤ g ∧ Bytes w (.slice (some ⟨g, 0, none⟩) l.length c) l ∧ w.heap[g]? = some (.cells cs 5 fz) ∧ fz.1 = cs.size ∧ l.length ≤ cs.size
theorem It.keep {w w' : World} {B : Nat} {v : Value} {t : Int} {l : List Int} {S : List Nat} (h : It w B v t l) (hf : Fr w w' S) (hS : ∀ r ∈ S, ∀ cs fz, w.heap[r]? ≠ some (.cells cs 5 fz)) : It w' B v t l := by
  obtain ⟨g, c, cs, fz, rfl, hB, hb, hg, h1, h2⟩ := h
  have hn : g ∉ S := fun hm => hS g hm cs fz hg
  exact ⟨g, c, cs, fz, rfl, hB, hb.fr hf (by intro r hr e; simp [Value.ownBlock] at e; exact hn (e ▸ hr)), hf.heap hg hn, h1, h2⟩

theorem item_any (t : Int) (s : ByteArray) (w : World) (hs : s.size ≤ 1000000) :
    Calls Try.prog 24 #[.agg #[.int .i64 t, .string s]] w (Gives fun u w' => It w' w.heap.size u t (numsOf s) ∧ Fr w w' []) := by
  obtain ⟨W2, hW2⟩ : ∃ W2, W2 = (w.alloc (.cells #[.int .i64 t, .string s] 55)).alloc (.cells #[.int .i64 0, .slice none 0 0] 31) := ⟨_, rfl⟩
  have HW := Lib.hid hW2
  have HF := Lib.hid (show Fr w W2 [] by rw [hW2]; exact (Fr.alloc w _ []).trans (Fr.alloc _ _ []))
  have HS := Lib.hid (show W2.heap.size = w.heap.size + 2 by rw [hW2]; simp)
  have HL := Lib.hid (show W2.heap[w.heap.size]? = some (.cells #[.int .i64 t, .string s] 55 (0, 0)) by rw [hW2]; exact (Fr.alloc _ _ []).heap (heap_alloc_new w _) (by simp))
  have HR := Lib.hid (show W2.heap[w.heap.size + 1]? = some (.cells #[.int .i64 0, .slice none 0 0] 31 (0, 0)) by
    rw [hW2]
    have h := heap_alloc_new (w.alloc (.cells #[.int .i64 t, .string s] 55)) (.cells #[.int .i64 0, .slice none 0 0] 31)
    rwa [show (w.alloc (.cells #[.int .i64 t, .string s] 55)).heap.size = w.heap.size + 1 by simp] at h)
  obtain ⟨cap, W3, hcv, hby, hfr, hsz, cs, fz, hrow, hfz, hle⟩ := convert_back W2 s hs
  obtain ⟨b0, b1⟩ := row2 HL.out
  have HR3 := Lib.hid (hfr.heap HR.out (by simp))
  obtain ⟨r0, r1⟩ := row2 HR3.out
  have z0 := frozen_of_row _ _ 0 _ _ HR3.out
  have z1 := frozen_of_row _ _ 1 _ _ HR3.out
  have FB := Lib.hid hby
  have FF := Lib.hid hfr
  have FR := Lib.hid hrow
  have FS := Lib.hid hsz
  clear hW2 hby hfr hrow hsz
  go_enter Try.func24, Try.ntmps24
  go_wp2_with fail
  rw [← HW.out]
  go_wp2
  rw [hcv]
  go_wp2
  have F5 := Lib.hid ((Fr.setCell W3 (w.heap.size + 1) 0 (.int .i64 t) (S := [w.heap.size + 1]) (by simp)).trans (Fr.setCell _ (w.heap.size + 1) 1 (.slice (some ⟨W2.heap.size, 0, none⟩) s.size cap) (S := [w.heap.size + 1]) (by simp)))
  have HNE := Lib.hid (show W2.heap.size ≠ w.heap.size + 1 by have := HS.out; omega)
  refine bodyPost_ret (v := .agg #[.int .i64 t, .slice (some ⟨W2.heap.size, 0, none⟩) s.size cap]) (by simp [results, Try.results24, go_sem, r0, r1]) rfl (gives ⟨⟨W2.heap.size, cap, cs, fz, by rw [numsOf_len], by have := HS.out; omega, ?_, ?_, hfz, by rw [numsOf_len]; exact hle⟩, ?_⟩)
  · rw [numsOf_len]; exact FB.out.fr F5.out (by intro r hr e; obtain rfl := List.mem_singleton.1 hr; exact HNE.out (by simpa [Value.ownBlock] using e))
  · exact F5.out.heap FR.out (by simpa using HNE.out)
  · exact (HF.out.trans FF.out).new F5.out (by simp)
end Go.Proofs.Ytlkmpmhbidhfcaa
