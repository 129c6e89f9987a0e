/- A mail: add, Put, Copy. -/
import Derived.Test.YtlkmpmhbidhfcaaMail
namespace Go.Proofs.Ytlkmpmhbidhfcaa
open Go.RowKit

theorem ltC_snoc (L : List Lt) (t : Int) (s : ByteArray) : ltC (L ++ [(t, s)]) = ltC L ++ [.int .i64 t, .string s] := by rw [ltC_app]; simp [ltC]
/-- Is there room? The letters with one more, if there is; how many were lost. -/
def room (L : List Lt) : Bool := decide (L.length < 4096)
def putL (L : List Lt) (x : Lt) : List Lt := if L.length < 4096 then L ++ [x] else L
def putN (L : List Lt) (n : Nat) : Nat := if L.length < 4096 then n else n + 1
/-- A mail behind a call. -/
def Mi (w w' : World) (B p : Nat) (v : Value) (L : List Lt) (n : Nat) : Prop := ∃ v', Ml w' B p v' L n ∧ Fr w w' (mbs p v)
theorem add_full (B p : Nat) (v : Value) (L : List Lt) (n : Nat) (t : Int) (s : ByteArray) (w : World) (h : Ml w B p v L n) (hL : ¬ L.length < 4096) (hn : n ≤ 1000000) :
    Calls Try.prog 22 #[.pointer (some ⟨p, 0, none⟩), .agg #[.int .i64 t, .string s]] w fun e w' => e = .returned (.bool false) ∧ Ml w' B p v L (n + 1) ∧ Fr w w' [p] := by
  have HA := Lib.hid (Fr.alloc w (.cells #[.int .i64 t, .string s] 55) [])
  have H1 := Lib.hid (h.keep HA.out)
  obtain ⟨a, c, rfl⟩ := h.shape
  have hge : (L.length : Int) ≥ 4096 := by omega
  obtain ⟨c0, c1⟩ := H1.out.cells
  have f1 := H1.out.frozen 1
  clear h hL
  go_enter Try.func22, Try.ntmps22
  go_wp2
  go_ret
  refine ⟨rfl, ⟨H1.out.1, ?_, ?_⟩, (HA.out.mono (by simp)).trans (Fr.setCell _ _ _ _ (by simp))⟩
  · rw [heap_setCell_same _ p 1 _ _ _ H1.out.2.1]; rfl
  · exact row_set H1.out.2.2 H1.out.2.1 (by decide) _ _

set_option maxRecDepth 100000 in
theorem add_room (B p : Nat) (v : Value) (L : List Lt) (n : Nat) (t : Int) (s : ByteArray) (w : World) (h : Ml w B p v L n) (hL : L.length < 4096) :
    Calls Try.prog 22 #[.pointer (some ⟨p, 0, none⟩), .agg #[.int .i64 t, .string s]] w fun e w' => e = .returned (.bool true) ∧ ∃ v', Ml w' B p v' (L ++ [(t, s)]) n ∧ Fr w w' (mbs p v) := by
  obtain ⟨W1, hW1⟩ : ∃ W1, W1 = w.alloc (.cells #[.int .i64 t, .string s] 55) := ⟨_, rfl⟩
  have HA := Lib.hid (show Fr w W1 [] by rw [hW1]; exact Fr.alloc w (.cells #[.int .i64 t, .string s] 55) [])
  have HN := Lib.hid (show W1.heap[w.heap.size]? = some (.cells #[.int .i64 t, .string s] 55 (0, 0)) by rw [hW1]; exact heap_alloc_new w _)
  have H1 := Lib.hid (h.keep HA.out)
  have HBL := Lib.hid (show B ≤ w.heap.size by have := h.1; have := h.lt; omega)
  have HWS := Lib.hid (show W1.heap.size = w.heap.size + 1 by rw [hW1]; simp)
  obtain ⟨a, c, rfl⟩ := h.shape
  have hge : ¬ (L.length : Int) ≥ 4096 := by omega
  obtain ⟨c0, c1⟩ := (h.keep (Fr.alloc w (.cells #[.int .i64 t, .string s] 55) [])).cells
  obtain ⟨d0, d1⟩ := H1.out.cells
  obtain ⟨b0, b1⟩ := row2 HN.out
  obtain ⟨d2, d3⟩ := row2 ((Fr.alloc W1 (.cells #[.int .i64 t, .string s] 55) []).heap H1.out.2.1 (by simp))
  have f0 := H1.out.frozen 0
  have hne : w.heap.size ≠ p := by have := h.lt; omega
  obtain ⟨i0, hi, hz0, hz1, hz2⟩ := info_parts infoLt
  have HHL := Lib.hid hL
  have HP := Lib.hid h.lt
  have HW := Lib.hid hW1
  clear h hL hW1
  go_enter Try.func22, Try.ntmps22
  go_wp2
  rw [← HW.out]
  clear c0 c1
  go_region_law (refine step_append_lies _ (by rfl) _ _ _ (by rfl) B 55 i0 _ 2 24 Try.underlying24 hi hz0 hz1 hz2 rfl (by omega) (.slice a L.length c) L.length (ltC L) (by rfl) (World.ownsRow.alloc (row_keep H1.out.2.2 (Fr.drew W1 [])) _) ⟨W1.heap.size, 0, none⟩ 1 1 [.int .i64 t, .string s] (by rfl) (by rfl) (World.news_of_block (cs := #[.int .i64 t, .string s]) (t := 55) (fr := (0, 0)) (heap_alloc_new _ _)) (by simp [Value.oneCell']) (by omega) (by have := HHL.out; unfold maxLen; omega) (by have := HHL.out; omega) (by have h1 := HBL.out; have h2 := HWS.out; simp at h2 ⊢; omega) (W1.heap.size + 1) (by simp) ?_; intro gg cap wc hown hgrow hat hlt'; have OC := Lib.hid hown; have GC := Lib.hid hgrow; have PC := Lib.hid (row_far hgrow (World.ownsRow.alloc (row_keep H1.out.2.2 (Fr.drew W1 [])) _) ((Fr.alloc W1.drew (.cells #[.int .i64 t, .string s] 55) []).heap H1.out.2.1 (by simp)) (by decide)); have fc := frozen_of_row _ _ 0 _ _ PC.out; have k0 := (row2 PC.out).1; clear hown hgrow hat hlt')
  all_goals
    go_wp2
    go_ret
    have HF : Hid (Fr w wc (mbs p (.slice a L.length c))) := ((HA.out.trans ((Fr.drew W1 []).trans (Fr.alloc _ _ []))).mono (by simp)).grown_own GC.out (fun r hr => .inl (by simp [mbs, hr]))
    exact ⟨rfl, _, ⟨H1.out.1, by rw [heap_setCell_same _ p 0 _ _ _ PC.out]; rfl, by unfold OwnL; rw [ltC_snoc, List.length_append]; exact row_set OC.out PC.out (by decide) _ _⟩, HF.out.trans (Fr.setCell _ _ _ _ (by simp [mbs]))⟩

/-- What is put in: the letters, how many were lost, the answer. -/
theorem add_any (B p : Nat) (v : Value) (L : List Lt) (n : Nat) (t : Int) (s : ByteArray) (w : World) (h : Ml w B p v L n) (hn : n ≤ 1000000) :
    Calls Try.prog 22 #[.pointer (some ⟨p, 0, none⟩), .agg #[.int .i64 t, .string s]] w fun e w' => e = .returned (.bool (room L)) ∧ Mi w w' B p v (putL L (t, s)) (putN L n) := by
  unfold room putL putN
  by_cases hL : L.length < 4096
  · rw [if_pos hL, if_pos hL, decide_eq_true hL]
    exact add_room B p v L n t s w h hL
  · rw [if_neg hL, if_neg hL, decide_eq_false hL]
    refine (add_full B p v L n t s w h hL hn).mono ?_
    rintro e w' ⟨rfl, h1, h2⟩
    exact ⟨rfl, v, h1, h2.mono (by simp [mbs])⟩

theorem put_any (B p : Nat) (v : Value) (L : List Lt) (n : Nat) (t : Int) (u : Value) (l : List Int) (w : World) (h : Ml w B p v L n) (hb : Bytes w u l) (hn : n ≤ 1000000) :
    Calls Try.prog 9 #[.pointer (some ⟨p, 0, none⟩), .int .i64 t, u] w fun e w' => e = .returned (.bool (room L)) ∧ Mi w w' B p v (putL L (t, strOfNums l)) (putN L n) := by
  have hcv := convert_any w u l hb
  have H := Lib.hid h
  clear h hb
  go_enter Try.func9, Try.ntmps9
  go_wp2_with fail
  refine (add_any B p v L n t (strOfNums l) w H.out hn).mono ?_
  rintro e w1 ⟨rfl, h1⟩
  have H1 := Lib.hid h1
  clear h1 hcv
  go_wp2
  go_ret
  exact ⟨rfl, H1.out⟩

theorem copy_none (B p : Nat) (v : Value) (L : List Lt) (n : Nat) (i : Int) (w : World) (h : Ml w B p v L n) (hi : ¬ (0 ≤ i ∧ i < (L.length : Int))) :
    Calls Try.prog 10 #[.pointer (some ⟨p, 0, none⟩), .int .i64 i] w fun e w' => e = .returned (.bool false) ∧ w = w' := by
  have H := Lib.hid h
  have HD := Lib.hid (decide_eq_false hi)
  clear h hi
  go_enter Try.func10, Try.ntmps10
  go_wp2_with fail
  refine (has_any B p v L n i w H.out false HD.out).mono ?_
  rintro e w1 ⟨rfl, rfl⟩
  go_wp2
  go_ret
  exact ⟨rfl, rfl⟩
theorem copy_any (B p : Nat) (v : Value) (L : List Lt) (n : Nat) (i : Nat) (w : World) (h : Ml w B p v L n) (hi : i < L.length) (hn : n ≤ 1000000) :
    Calls Try.prog 10 #[.pointer (some ⟨p, 0, none⟩), .int .i64 i] w fun e w' => e = .returned (.bool (room L)) ∧ Mi w w' B p v (putL L (L.getD i dL)) (putN L n) := by
  have H := Lib.hid h
  have HD := Lib.hid (decide_eq_true (show 0 ≤ (i : Int) ∧ (i : Int) < (L.length : Int) by omega))
  obtain ⟨c0, _⟩ := h.cells
  obtain ⟨g, c, rfl, h1, h2, e0, e1⟩ := h.at i hi
  obtain ⟨x, hx⟩ : ∃ x, x = L.getD i dL := ⟨_, rfl⟩
  rw [← hx] at e0 e1
  have HX := Lib.hid hx
  clear h hx
  go_enter Try.func10, Try.ntmps10
  go_wp2_with fail
  refine (has_any B p _ L n i w H.out true HD.out).mono ?_
  rintro e w1 ⟨rfl, rfl⟩
  go_wp2_with fail
  refine (add_any B p _ L n x.1 x.2 w H.out hn).mono ?_
  rintro e w1 ⟨rfl, k1⟩
  rw [show (x.1, x.2) = x from rfl, HX.out] at k1
  have H1 := Lib.hid k1
  clear k1 HX
  go_wp2
  go_ret
  exact ⟨rfl, H1.out⟩
end Go.Proofs.Ytlkmpmhbidhfcaa
