/- A mail: Swap. -/
import Derived.Test.YtlkmpmhbidhfcaaMPut
import Derived.BigRegion
namespace Go.Proofs.Ytlkmpmhbidhfcaa
open Go.RowKit

theorem swap_none (B p : Nat) (v : Value) (L : List Lt) (n : Nat) (i k : Int) (w : World) (h : Ml w B p v L n) (hi : ¬ ((0 ≤ i ∧ i < (L.length : Int)) ∧ 0 ≤ k ∧ k < (L.length : Int))) :
    Calls Try.prog 19 #[.pointer (some ⟨p, 0, none⟩), .int .i64 i, .int .i64 k] w fun e w' => e = .returned (.bool false) ∧ w = w' := by
  have H := Lib.hid h
  clear h
  by_cases h1 : 0 ≤ i ∧ i < (L.length : Int)
  · have HD := Lib.hid (decide_eq_true h1)
    have HE := Lib.hid (decide_eq_false (show ¬ (0 ≤ k ∧ k < (L.length : Int)) from fun h => hi ⟨h1, h⟩))
    clear hi h1
    go_enter Try.func19, Try.ntmps19
    go_wp2_with fail
    refine (has_any B p v L n i w H.out true HD.out).mono ?_
    rintro e w1 ⟨rfl, rfl⟩
    go_wp2_with fail
    refine (has_any B p v L n k w H.out false HE.out).mono ?_
    rintro e w1 ⟨rfl, rfl⟩
    go_wp2
    go_ret
    exact ⟨rfl, rfl⟩
  · have HD := Lib.hid (decide_eq_false h1)
    clear hi h1
    go_enter Try.func19, Try.ntmps19
    go_wp2_with fail
    refine (has_any B p v L n i w H.out false HD.out).mono ?_
    rintro e w1 ⟨rfl, rfl⟩
    go_wp2
    go_ret
    exact ⟨rfl, rfl⟩

/-- The i-th and the k-th in each other's place. -/
def swp (L : List Lt) (i k : Nat) : List Lt := (L.set i (L.getD k dL)).set k (L.getD i dL)
theorem swp_len (L : List Lt) (i k : Nat) : (swp L i k).length = L.length := by simp [swp]
theorem ltC_set (L : List Lt) (i : Nat) (x : Lt) : ltC (L.set i x) = ((ltC L).set (i * 2) (.int .i64 x.1)).set (i * 2 + 1) (.string x.2) := by
  induction L generalizing i with
  | nil => simp [ltC]
  | cons b l ih =>
    cases i with
    | zero => simp [ltC]
    | succ i => rw [List.set_cons_succ, ltC_cons, ltC_cons, ih, show (i + 1) * 2 = i * 2 + 1 + 1 by omega]; simp
theorem OwnL.set {w : World} {B g c m : Nat} {L : List Lt} (h : OwnL w B (.slice (some ⟨g, 0, none⟩) m c) L) (i : Nat) (x : Lt) :
    OwnL ((w.setCell ⟨g, i * 2, none⟩ (.int .i64 x.1)).setCell ⟨g, i * 2 + 1, none⟩ (.string x.2)) B (.slice (some ⟨g, 0, none⟩) m c) (L.set i x) := by
  obtain rfl := row_n h
  unfold OwnL
  rw [List.length_set, ltC_set]
  exact (World.ownsRow.stored (World.ownsRow.stored h (i * 2) (.int .i64 x.1)).1 (i * 2 + 1) (.string x.2)).1
set_option maxHeartbeats 2000000 in
set_option maxRecDepth 100000 in
theorem swap_any (B p : Nat) (v : Value) (L : List Lt) (n i k : Nat) (w : World) (h : Ml w B p v L n) (hi : i < L.length) (hk : k < L.length) :
    Calls Try.prog 19 #[.pointer (some ⟨p, 0, none⟩), .int .i64 i, .int .i64 k] w fun e w' => e = .returned (.bool true) ∧ Mi w w' B p v (swp L i k) n := by
  have H := Lib.hid h
  have HD := Lib.hid (decide_eq_true (show 0 ≤ (i : Int) ∧ (i : Int) < (L.length : Int) by omega))
  have HE := Lib.hid (decide_eq_true (show 0 ≤ (k : Int) ∧ (k : Int) < (L.length : Int) by omega))
  obtain ⟨g, c, rfl, h1, h2, e0, e1⟩ := h.at i hi
  obtain ⟨g', c', he, _, _, e2, e3⟩ := h.at k hk
  simp only [Value.slice.injEq, Option.some.injEq, Addr.mk.injEq, and_true, true_and] at he
  obtain ⟨rfl, rfl⟩ := he
  obtain ⟨x, hx⟩ : ∃ x, x = L.getD i dL := ⟨_, rfl⟩
  obtain ⟨y, hy⟩ : ∃ y, y = L.getD k dL := ⟨_, rfl⟩
  rw [← hx] at e0 e1
  rw [← hy] at e2 e3
  obtain ⟨c0, _⟩ := h.cells
  have z := fun j => World.ownsRow.frozenAt h.2.2 j
  have HX := Lib.hid hx
  have HY := Lib.hid hy
  unfold maxLen at h2
  clear h hx hy
  by_cases hik : i = k
  · subst hik
    obtain rfl : x = y := HX.out.trans HY.out.symm
    go_enter Try.func19, Try.ntmps19
    go_wp2_with fail
    refine (has_any B p _ L n i w H.out true HD.out).mono ?_
    rintro e w1 ⟨rfl, rfl⟩
    go_wp2_with fail
    refine (has_any B p _ L n i w H.out true HD.out).mono ?_
    rintro e w1 ⟨rfl, rfl⟩
    go_wp2
    go_region
    all_goals
      go_wp2
      go_ret
      have HO := Lib.hid ((H.out.2.2.set i x).set i x)
      have HF := Lib.hid ((((Fr.setCell w g (i * 2) (.int .i64 x.1) (S := [g]) (by simp)).trans (Fr.setCell _ g (i * 2 + 1) (.string x.2) (by simp))).trans (Fr.setCell _ g (i * 2) (.int .i64 x.1) (by simp))).trans (Fr.setCell _ g (i * 2 + 1) (.string x.2) (by simp)))
      refine ⟨rfl, .slice (some ⟨g, 0, none⟩) L.length c, ⟨H.out.1, (HF.out.trans (Fr.drew _ [g])).heap H.out.2.1 (by intro hm; obtain rfl := List.mem_singleton.1 hm; exact row_ne H.out.2.2 H.out.2.1 (by decide) rfl), ?_⟩, ((HF.out.trans (Fr.drew _ [g])).mono (T := mbs p (.slice (some ⟨g, 0, none⟩) L.length c)) (by simp [mbs, Value.ownBlock]))⟩
      rw [show swp L i i = (L.set i x).set i x by unfold swp; rw [← HX.out]]
      exact row_keep HO.out (Fr.drew _ [])
  · have hne1 : i * 2 ≠ k * 2 := by omega
    have hne2 : i * 2 + 1 ≠ k * 2 + 1 := by omega
    have hne3 : i * 2 ≠ k * 2 + 1 := by omega
    have hne4 : i * 2 + 1 ≠ k * 2 := by omega
    go_enter Try.func19, Try.ntmps19
    go_wp2_with fail
    refine (has_any B p _ L n i w H.out true HD.out).mono ?_
    rintro e w1 ⟨rfl, rfl⟩
    go_wp2_with fail
    refine (has_any B p _ L n k w H.out true HE.out).mono ?_
    rintro e w1 ⟨rfl, rfl⟩
    go_wp2
    go_region
    all_goals
      go_wp2
      go_ret
      have HO := Lib.hid ((H.out.2.2.set i y).set k x)
      have HF := Lib.hid ((((Fr.setCell w g (i * 2) (.int .i64 y.1) (S := [g]) (by simp)).trans (Fr.setCell _ g (i * 2 + 1) (.string y.2) (by simp))).trans (Fr.setCell _ g (k * 2) (.int .i64 x.1) (by simp))).trans (Fr.setCell _ g (k * 2 + 1) (.string x.2) (by simp)))
      refine ⟨rfl, .slice (some ⟨g, 0, none⟩) L.length c, ⟨H.out.1, (HF.out.trans (Fr.drew _ [g])).heap H.out.2.1 (by intro hm; obtain rfl := List.mem_singleton.1 hm; exact row_ne H.out.2.2 H.out.2.1 (by decide) rfl), ?_⟩, ((HF.out.trans (Fr.drew _ [g])).mono (T := mbs p (.slice (some ⟨g, 0, none⟩) L.length c)) (by simp [mbs, Value.ownBlock]))⟩
      rw [show swp L i k = (L.set i y).set k x by unfold swp; rw [← HX.out, ← HY.out]]
      exact row_keep HO.out (Fr.drew _ [])
end Go.Proofs.Ytlkmpmhbidhfcaa
