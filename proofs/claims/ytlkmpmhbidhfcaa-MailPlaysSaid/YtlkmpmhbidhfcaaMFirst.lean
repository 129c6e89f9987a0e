/- The chapter's example: Put, Copy(0): two. -/
import Derived.Test.YtlkmpmhbidhfcaaMPut
namespace Go.Proofs.Ytlkmpmhbidhfcaa
open Go.RowKit

/-- A new mail holds nothing. -/
theorem new_mail (w : World) : Ml (w.alloc (.cells #[.slice none 0 0, .int .i64 0] 26)) w.heap.size w.heap.size (.slice none 0 0) [] 0 :=
  ⟨Nat.le_refl _, heap_alloc_new _ _, rfl, .inl ⟨rfl, rfl⟩⟩
theorem Mi.step {w0 w w' : World} {B p : Nat} {v : Value} {L L' : List Lt} {n n' : Nat} (h : Ml w B p v L n) (hB : w0.heap.size ≤ B) {S : List Nat} (hf : Fr w0 w S) (hm : Mi w w' B p v L' n') : Fr w0 w' S := by
  obtain ⟨v', _, hg⟩ := hm
  exact h.new hB hf hg
theorem room_yes {L : List Lt} (h : L.length < 4096) (x : Lt) (n : Nat) : room L = true ∧ putL L x = L ++ [x] ∧ putN L n = n := by simp [room, putL, putN, h]
theorem room_no {L : List Lt} (h : ¬ L.length < 4096) (x : Lt) (n : Nat) : room L = false ∧ putL L x = L ∧ putN L n = n + 1 := by simp [room, putL, putN, h]
theorem bytes_new {w : World} {g : Nat} {l : List Int} (h : w.heap[g]? = some (.cells (u8s l).toArray 5 (0, 0))) (hl : l.length ≤ 1000000) : Bytes w (.slice (some ⟨g, 0, none⟩) l.length l.length) l := by
  refine ⟨_, _, rfl, Nat.le_refl _, by unfold maxLen; omega, fun _ => ⟨g, 0, rfl, fun i hi => ?_⟩⟩
  rw [Nat.zero_add, cell_of_row w g i _ _ _ h]
  simp [u8s, hi]

theorem put_yes (B p : Nat) (v : Value) (L : List Lt) (n : Nat) (t : Int) (u : Value) (l : List Int) (w : World) (h : Ml w B p v L n) (hb : Bytes w u l) (hn : n ≤ 1000000) (hL : L.length < 4096) :
    Calls Try.prog 9 #[.pointer (some ⟨p, 0, none⟩), .int .i64 t, u] w fun e w' => e = .returned (.bool true) ∧ Mi w w' B p v (L ++ [(t, strOfNums l)]) n := by
  have := put_any B p v L n t u l w h hb hn
  obtain ⟨h1, h2, h3⟩ := room_yes hL (t, strOfNums l) n
  rwa [h1, h2, h3] at this
theorem put_no (B p : Nat) (v : Value) (L : List Lt) (n : Nat) (t : Int) (u : Value) (l : List Int) (w : World) (h : Ml w B p v L n) (hb : Bytes w u l) (hn : n ≤ 1000000) (hL : ¬ L.length < 4096) :
    Calls Try.prog 9 #[.pointer (some ⟨p, 0, none⟩), .int .i64 t, u] w fun e w' => e = .returned (.bool false) ∧ Mi w w' B p v L (n + 1) := by
  have := put_any B p v L n t u l w h hb hn
  obtain ⟨h1, h2, h3⟩ := room_no hL (t, strOfNums l) n
  rwa [h1, h2, h3] at this
theorem copy_yes (B p : Nat) (v : Value) (L : List Lt) (n : Nat) (i : Nat) (w : World) (h : Ml w B p v L n) (hi : i < L.length) (hn : n ≤ 1000000) (hL : L.length < 4096) :
    Calls Try.prog 10 #[.pointer (some ⟨p, 0, none⟩), .int .i64 i] w fun e w' => e = .returned (.bool true) ∧ Mi w w' B p v (L ++ [L.getD i dL]) n := by
  have := copy_any B p v L n i w h hi hn
  obtain ⟨h1, h2, h3⟩ := room_yes hL (L.getD i dL) n
  rwa [h1, h2, h3] at this

set_option maxRecDepth 100000 in
theorem first_any (w : World) : Calls Try.prog 7 #[] w fun e w' => e = .returned (.bool true) ∧ Fr w w' [] := by
  have F2 := Lib.hid ((Fr.alloc w (.cells #[.slice none 0 0, .int .i64 0] 26) []).trans (Fr.alloc (w.alloc (.cells #[.slice none 0 0, .int .i64 0] 26)) (.cells (u8s [5]).toArray 5) []))
  have M2 := Lib.hid ((new_mail w).keep (Fr.alloc (w.alloc (.cells #[.slice none 0 0, .int .i64 0] 26)) (.cells (u8s [5]).toArray 5) []))
  have B2 := Lib.hid (bytes_new (heap_alloc_new (w.alloc (.cells #[.slice none 0 0, .int .i64 0] 26)) (.cells (u8s [5]).toArray 5)) (by simp))
  go_enter Try.func7, Try.ntmps7
  go_wp2_with fail
  refine (put_yes w.heap.size w.heap.size _ [] 0 1 _ [5] _ M2.out (by simpa using B2.out) (by omega) (by simp)).mono ?_
  rintro e w3 ⟨rfl, h⟩
  have F3 := Lib.hid (h.step M2.out (by omega) F2.out)
  obtain ⟨v3, m3, _⟩ := h
  have M3 := Lib.hid m3
  clear m3
  go_wp2_with fail
  refine (copy_yes w.heap.size w.heap.size _ [(1, strOfNums [5])] 0 0 _ M3.out (by simp) (by omega) (by simp)).mono ?_
  rintro e w4 ⟨rfl, h⟩
  have F4 := Lib.hid (h.step M3.out (by omega) F3.out)
  obtain ⟨v4, m4, _⟩ := h
  have M4 := Lib.hid m4
  clear m4
  go_wp2_with fail
  refine (len_any w.heap.size w.heap.size _ _ 0 _ M4.out).mono ?_
  rintro e w5 ⟨rfl, rfl⟩
  go_wp2
  go_ret
  exact ⟨rfl, F4.out⟩

/-- So many letters by a rule. -/
def mkL (f : Nat → Lt) (n : Nat) : List Lt := (List.range n).map f
theorem mkL_len (f : Nat → Lt) (n : Nat) : (mkL f n).length = n := by simp [mkL]
theorem mkL_snoc (f : Nat → Lt) (n : Nat) : mkL f n ++ [f n] = mkL f (n + 1) := by simp [mkL, List.range_succ]
theorem mkL_get (f : Nat → Lt) (n i : Nat) (h : i < n) : (mkL f n).getD i dL = f i := by simp [mkL, h]
theorem small_of {L : List Lt} {m : Nat} (h : ∀ x ∈ L, x.2.size ≤ m) (i : Nat) : (L.getD i dL).2.size ≤ m := by
  by_cases hi : i < L.length
  · rw [List.getD_eq_getElem?_getD, List.getElem?_eq_getElem hi]
    exact h _ (List.getElem_mem hi)
  · rw [List.getD_eq_getElem?_getD, List.getElem?_eq_none (by omega)]
    exact Nat.zero_le _
theorem str_size (l : List Int) : (strOfNums l).size = l.length := by
  show (strOfNums l).data.size = _
  rw [← Array.length_toList, strOfNums_data, List.length_map]
theorem u8_of_nat (i : Nat) : IntKind.u8.wrap (i : Int) = ((i % 256 : Nat) : Int) := by
  rw [IntKind.wrap_u8]; omega
/-- A mail behind a frame that turns its own blocks alone. -/
theorem Ml.other {w w' : World} {B p : Nat} {v : Value} {L : List Lt} {n : Nat} (h : Ml w B p v L n) (hf : Fr w w' (mbs p v)) {g : Nat} {cs : Array Value} {T : TypeId} {fz : Nat × Nat} (hg : w.heap[g]? = some (.cells cs T fz)) (h1 : T ≠ 26 := by decide) (h2 : T ≠ 55 := by decide) : w'.heap[g]? = some (.cells cs T fz) :=
  hf.heap hg (h.apart hg h1 h2)
end Go.Proofs.Ytlkmpmhbidhfcaa
