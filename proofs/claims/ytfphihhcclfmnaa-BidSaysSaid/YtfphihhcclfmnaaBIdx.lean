/- Where a bid stands by its car: slices.IndexFunc, place. -/
import Derived.Test.YtfphihhcclfmnaaBMin
import Derived.Test.YtfphihhcclfmnaaRBi3
namespace Go.Proofs.Ytfphihhcclfmnaa
open Go.RowKit

/-- A number in a box of the call's own. -/
theorem nrow {w : World} {g : Nat} {a : Value} {T : TypeId} (h : w.heap[g]? = some (.cells #[a] T (0, 0))) : w.cell? ⟨g, 0, none⟩ = some a := by
  rw [cell_of_row w g 0 _ _ _ h]; rfl
set_option maxRecDepth 100000 in
theorem clos_any (x : Int × Int) (c : Int) (g : Nat) (w : World) (hg : w.cell? ⟨g, 0, none⟩ = some (.int .i64 c)) (r : Bool) (hr : r = decide (c < x.1)) :
    Calls Try.prog 32 #[bidV x, .pointer (some ⟨g, 0, none⟩)] w fun e w' => e = .returned (.bool r) ∧ Fr w w' [] := by
  obtain ⟨a, b⟩ := x
  have F1 := Lib.hid (Fr.alloc w (bidBox (a, b)) [])
  obtain ⟨x0, x1⟩ := brow (heap_alloc_new w (bidBox (a, b)))
  have hg := F1.out.cell hg (by simp)
  have HR := Lib.hid hr
  clear hr
  dsimp only [bidV, bidBox] at *
  go_enter Try.func32, Try.ntmps32
  go_wp2
  go_ret
  exact ⟨by rw [HR.out]; rfl, F1.out⟩
/-- Where the first of a greater car stands; -1. -/
def placeZ (l : List (Int × Int)) (c : Int) : Int := if placeB l c < l.length then (placeB l c : Int) else -1
set_option maxHeartbeats 1000000 in
set_option maxRecDepth 100000 in
theorem idx_any (v : Value) (l : List (Int × Int)) (c : Int) (g : Nat) (w : World) (h : HB w v l) (hl : l.length ≤ 1000000) (hg : w.cell? ⟨g, 0, none⟩ = some (.int .i64 c)) (z : Int) (hz : z = placeZ l c) :
    Calls Try.prog 31 #[v, .func (.func 32) #[] #[.pointer (some ⟨g, 0, none⟩)]] w fun e w' => e = .returned (.int .i64 z) ∧ Fr w w' [] := by
  obtain ⟨a, cap, rfl, p1, q1, r1⟩ := h
  unfold maxLen at q1
  have CL := Lib.hid (fun (x : Int × Int) W (hW : Fr w W []) r hr => clos_any x c g W (hW.cell hg (by simp)) r hr)
  obtain ⟨n, hn⟩ : ∃ n, n = l.length := ⟨_, rfl⟩
  have HN := Lib.hid hn
  have HCE := Lib.hid r1
  have HZ := Lib.hid hz
  rw [← hn] at hl p1 ⊢
  rw [← hn] at HCE
  clear r1 hn hz hg
  go_enter Try.func31, Try.ntmps31
  go_wp2
  go_loopw [5, 8] (fun _ s8 wx => ∃ k : Nat, s8 = .int .i64 k ∧ Hid (k ≤ n) ∧ Hid (∀ i, i < k → (l.getD i (0, 0)).1 ≤ c) ∧ Hid (Fr w wx [])) (fun _ s8 _ => n - (intOf s8).toNat)
  case atStart => exact ⟨0, rfl, Lib.hid (Nat.zero_le _), Lib.hid (fun i hi => by omega), Lib.hid (Fr.refl _ _)⟩
  case round =>
    obtain ⟨k, rfl, HK, HA, HF⟩ := hrel
    have hk := HK.out
    by_cases hlt : k < n
    · obtain ⟨b, off, rfl, hc⟩ := HCE.out (by omega)
      obtain ⟨x, hx⟩ : ∃ x, x = l.getD k (0, 0) := ⟨_, rfl⟩
      have HX := Lib.hid hx
      obtain ⟨z0, z1⟩ := hc k hlt
      rw [← hx] at z0 z1
      have z0 := HF.out.cell z0 (by simp)
      have z1 := HF.out.cell z1 (by simp)
      clear hc hx
      by_cases hg : c < x.1
      · have HP : Hid (z = (k : Int)) := by
          show _ = _
          have e : placeB l c = k := placeB_is (by have := HN.out; omega) HA.out (fun _ => by rw [← HX.out]; exact hg)
          rw [HZ.out]
          unfold placeZ
          rw [e, if_pos (by have := HN.out; omega)]
        have C1 := Lib.hid (CL.out x wr HF.out true (decide_eq_true hg).symm)
        obtain ⟨xa, xb⟩ := x
        dsimp only [bidV] at *
        clear HA HX hg CL
        go_wp2_with fail
        with_reducible refine (C1.out).mono ?_
        rintro e w1 ⟨rfl, hf⟩
        have HF1 := Lib.hid (HF.out.trans hf)
        clear hf C1
        go_wp2
        go_ret
        exact ⟨by rw [HP.out]; rfl, HF1.out⟩
      · have HA2 : Hid (∀ i, i < k + 1 → (l.getD i (0, 0)).1 ≤ c) := Lib.hid (fun i hi => by
          by_cases e : i = k
          · subst e; rw [← HX.out]; omega
          · exact HA.out i (by omega))
        have C1 := Lib.hid (CL.out x wr HF.out false (decide_eq_false hg).symm)
        obtain ⟨xa, xb⟩ := x
        dsimp only [bidV] at *
        clear HA HX hg
        go_wp2_with fail
        with_reducible refine (C1.out).mono ?_
        rintro e w1 ⟨rfl, hf⟩
        have HF1 := Lib.hid (HF.out.trans hf)
        clear hf C1
        go_wp2
        go_roundw
        case rel => exact ⟨k + 1, by go_num, Lib.hid (by omega), HA2, HF1⟩
        case measure => simp [intOf]; omega
    · obtain rfl : k = n := by omega
      have HP : Hid (z = -1) := by
        show _ = _
        have e : placeB l c = l.length := placeB_is (Nat.le_refl _) (by rw [← HN.out]; exact HA.out) (fun h => absurd h (Nat.lt_irrefl _))
        rw [HZ.out]
        unfold placeZ
        rw [e, if_neg (Nat.lt_irrefl _)]
      clear HA CL HCE
      go_wp2
      go_ret
      exact ⟨by rw [HP.out]; rfl, HF.out⟩
set_option maxRecDepth 100000 in
theorem place_any (v : Value) (l : List (Int × Int)) (c : Int) (w : World) (h : HB w v l) (hl : l.length ≤ 1000000) (k : Nat) (hk : k = placeB l c) :
    Calls Try.prog 23 #[v, .int .i64 c] w fun e w' => e = .returned (.int .i64 k) ∧ Fr w w' [] := by
  have F1 := Lib.hid (Fr.alloc w (.cells #[.int .i64 c] 3) [])
  have R1 := Lib.hid (heap_alloc_new w (.cells #[.int .i64 c] 3))
  obtain ⟨z, hz⟩ : ∃ z, z = placeZ l c := ⟨_, rfl⟩
  have IX := Lib.hid (idx_any v l c w.heap.size _ (h.keep F1.out) hl (nrow R1.out) z hz)
  obtain ⟨a, cap, rfl, p1, q1, r1⟩ := h
  unfold maxLen at q1
  have hle := placeB_le l c
  clear r1
  unfold placeZ at hz
  rw [← hk] at hz hle
  clear hk
  by_cases hlt : k < l.length
  · rw [if_pos hlt] at hz
    subst hz
    go_enter Try.func23, Try.ntmps23
    go_wp2_with fail
    with_reducible refine (IX.out).mono ?_
    rintro e w1 ⟨rfl, hf⟩
    have HF1 := Lib.hid (F1.out.trans hf)
    clear hf IX
    go_wp2
    go_ret
    exact ⟨rfl, HF1.out⟩
  · rw [if_neg hlt] at hz
    subst hz
    have HK := Lib.hid (show l.length = k by omega)
    go_enter Try.func23, Try.ntmps23
    go_wp2_with fail
    with_reducible refine (IX.out).mono ?_
    rintro e w1 ⟨rfl, hf⟩
    have HF1 := Lib.hid (F1.out.trans hf)
    clear hf IX
    go_wp2
    go_ret
    exact ⟨by rw [HK.out]; rfl, HF1.out⟩
end Go.Proofs.Ytfphihhcclfmnaa
