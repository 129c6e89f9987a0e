/- A mail: Clone. -/
import Derived.Test.YtlkmpmhbidhfcaaMPut
namespace Go.Proofs.Ytlkmpmhbidhfcaa
open Go.RowKit

set_option maxHeartbeats 1000000 in
set_option maxRecDepth 100000 in
theorem cloneL_any (B : Nat) (v : Value) (L : List Lt) (w : World) (h : OwnL w B v L) (hr : L.length ≤ 4096) :
    Calls Try.prog 26 #[v] w (Gives fun u w' => OwnL w' w.heap.size u L ∧ Fr w w' []) := by
  obtain ⟨i0, hi, hz0, hz1, hz2⟩ := info_parts infoLt
  obtain ⟨a, cap, rfl⟩ := row_shape h
  cases a with
  | none =>
    have h0 : L = [] := by
      rcases h.2 with ⟨h1, h0⟩ | ⟨g, c, cur, h1, _⟩
      · exact List.eq_nil_of_length_eq_zero h0
      · simp at h1
    subst h0
    have hn : ∀ W, (binOp .eql 24 (.slice none 0 cap) (.slice none 0 0)).run Try.prog W = .ok (.bool true) W := fun W => Lib.run_eql_slice_nil W _ _ _ _ _ _ _ Try.underlying24
    clear h
    go_enter Try.func26, Try.ntmps26
    go_wp2
    go_ret
    exact gives ⟨⟨rfl, .inl ⟨rfl, rfl⟩⟩, Fr.refl _ _⟩
  | some x =>
    have hn : ∀ W, (binOp .eql 24 (.slice (some x) L.length cap) (.slice none 0 0)).run Try.prog W = .ok (.bool false) W := fun W => Lib.run_eql_slice_nil W _ _ _ _ _ _ _ Try.underlying24
    have HO := Lib.hid (own_empty w 55 2)
    have HC := Lib.hid (row_cells (row_keep h (Fr.alloc w (.cells #[] 55) [])))
    have HL1 := ltC_len L
    clear h
    go_enter Try.func26, Try.ntmps26
    go_wp2_with (at_builtin; refine wpList_append_own _ rfl _ _ 24 rfl w.heap.size 55 i0 (.agg #[.int .i64 0, .string ByteArray.empty]) 2 24 Try.underlying24 hi hz0 hz1 hz2 rfl (by decide) _ _ _ rfl HO.out x L.length cap (ltC L) rfl HL1 HC.out (ltC_one _) (by unfold maxLen; omega) (by omega) (by simp) ?_; intro v' w' hown hg _)
    go_ret
    refine gives ⟨?_, ?_⟩
    · unfold OwnL
      simpa using hown
    · exact Fr.of_grown (grown_new (World.grownBy_alloc w _ none) hg (fun r hr => by cases hr; exact Nat.le_refl _)) []

/-- What a Clone gives: another mail, of memory of its own. -/
def CloneQ (w : World) (L : List Lt) (n : Nat) (u : Value) (w' : World) : Prop := ∃ q v, u = .pointer (some ⟨q, 0, none⟩) ∧ Ml w' w.heap.size q v L n ∧ Fr w w' []
set_option maxRecDepth 100000 in
theorem clone_any (B p : Nat) (v : Value) (L : List Lt) (n : Nat) (w : World) (h : Ml w B p v L n) (hr : L.length ≤ 4096) :
    Calls Try.prog 15 #[.pointer (some ⟨p, 0, none⟩)] w (Gives (CloneQ w L n)) := by
  have H1 := Lib.hid (h.keep (Fr.drew w []))
  obtain ⟨c0, c1⟩ := h.cells
  clear h
  go_enter Try.func15, Try.ntmps15
  go_wp2
  go_region_law (go_simp; go_at_call 26; refine (cloneL_any B v L _ H1.out.2.2 hr).mono ?_; rintro e wa ⟨u, rfl, ha, hfa⟩; obtain ⟨ua, uc, rfl⟩ := row_shape ha; have OA := Lib.hid ha; have FA := Lib.hid hfa; have k1 := ((H1.out.keep hfa).cells).2; clear ha hfa)
  all_goals
    go_wp2
    have HQ := Lib.hid (show CloneQ w L n (.pointer (some ⟨wa.heap.size, 0, none⟩)) (wa.alloc (.cells #[.slice ua L.length uc, .int .i64 (n : Int)] 26)) from
      ⟨wa.heap.size, .slice ua L.length uc, rfl, ⟨FA.out.size, heap_alloc_new wa _, row_keep OA.out (Fr.alloc wa _ [])⟩, ((Fr.drew w []).trans FA.out).trans (Fr.alloc wa _ [])⟩)
    go_ret
    exact gives HQ.out
end Go.Proofs.Ytlkmpmhbidhfcaa
