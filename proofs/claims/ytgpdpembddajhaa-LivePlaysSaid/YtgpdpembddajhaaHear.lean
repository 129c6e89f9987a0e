/- A table: Hear. -/
import Derived.Test.YtgpdpembddajhaaTbl
namespace Go.Proofs.Ytgpdpembddajhaa
open Go.RowKit

theorem hear_no (p : Nat) (f : Nat → Pe) (s c l n : Int) (o : Bool) (w : World) (h : Tb w p f s) (hn : ¬ (0 ≤ c ∧ c < 16 ∧ 0 ≤ l ∧ 0 ≤ n ∧ (f c.toNat).li ≤ l)) :
    Calls Try.prog 9 #[.pointer (some ⟨p, 0, none⟩), .int .i64 c, .int .i64 l, .int .i64 n, .bool o] w fun e w' => e = .returned (.bool false) ∧ w = w' := by
  by_cases hc : 0 ≤ c ∧ c < 16
  · obtain ⟨h0, h1⟩ := hc
    obtain ⟨k, rfl⟩ := Int.eq_ofNat_of_zero_le h0
    obtain ⟨_, _, c2, _⟩ := h.at k (by omega)
    rw [Int.toNat_natCast] at hn
    clear h
    by_cases hl : l < 0
    · clear hn c2
      go_enter Try.func9, Try.ntmps9
      go_wp2_with fail
      refine (isCar_yes _ _ h0 h1).mono ?_
      rintro e w' ⟨rfl, rfl⟩
      go_wp2
      go_ret
      exact ⟨rfl, rfl⟩
    · by_cases hs : n < 0
      · clear hn c2
        go_enter Try.func9, Try.ntmps9
        go_wp2_with fail
        refine (isCar_yes _ _ h0 h1).mono ?_
        rintro e w' ⟨rfl, rfl⟩
        go_wp2
        go_ret
        exact ⟨rfl, rfl⟩
      · have hlt : l < (f k).li := by omega
        clear hn
        go_enter Try.func9, Try.ntmps9
        go_wp2_with fail
        refine (isCar_yes _ _ h0 h1).mono ?_
        rintro e w' ⟨rfl, rfl⟩
        go_wp2
        go_ret
        exact ⟨rfl, rfl⟩
  · clear h hn
    go_enter Try.func9, Try.ntmps9
    go_wp2_with fail
    refine (isCar_no _ _ hc).mono ?_
    rintro e w' ⟨rfl, rfl⟩
    go_wp2
    go_ret
    exact ⟨rfl, rfl⟩

/-- The greater one. -/
def mx (a b : Int) : Int := if a < b then b else a
theorem hear_yes (p : Nat) (f : Nat → Pe) (s : Int) (k : Nat) (l n : Int) (o : Bool) (w : World) (h : Tb w p f s) (hk : k < 16) (hl : 0 ≤ l) (hn : 0 ≤ n) (hf : (f k).li ≤ l) :
    Calls Try.prog 9 #[.pointer (some ⟨p, 0, none⟩), .int .i64 (k : Int), .int .i64 l, .int .i64 n, .bool o] w fun e w' => e = .returned (.bool true) ∧ Tb w' p (upP f k ⟨true, o, l, 0⟩) (mx s n) ∧ Fr w w' [p] := by
  obtain ⟨c0, c1, c2, c3⟩ := h.at k hk
  have z0 := h.fz (k * 4)
  have z1 := h.fz (k * 4 + 1)
  have z2 := h.fz (k * 4 + 2)
  have z3 := h.fz (k * 4 + 3)
  have z4 := h.fz 64
  have c4 := h.sn
  have H1 := Lib.hid (h.setPe k hk ⟨true, o, l, 0⟩)
  clear h
  have h1 : ¬ l < (f k).li := by omega
  have h2 : ¬ l < 0 := by omega
  have h3 : ¬ n < 0 := by omega
  have h4 : (64 : Nat) ≠ k * 4 := by omega
  have h5 : (64 : Nat) ≠ k * 4 + 1 := by omega
  have h6 : (64 : Nat) ≠ k * 4 + 2 := by omega
  have h7 : (64 : Nat) ≠ k * 4 + 3 := by omega
  clear hf
  go_enter Try.func9, Try.ntmps9
  go_wp2_with fail
  refine (isCar_yes _ _ (by omega) (by omega)).mono ?_
  rintro e w' ⟨rfl, rfl⟩
  go_wp2
  · have hg : s < n := by assumption
    go_ret
    exact ⟨rfl, by rw [show mx s n = n by simp [mx, hg]]; exact H1.out.setSn n, ((((Fr.setCell w p _ _ (by simp)).trans (Fr.setCell _ p _ _ (by simp))).trans (Fr.setCell _ p _ _ (by simp))).trans (Fr.setCell _ p _ _ (by simp))).trans (Fr.setCell _ p _ _ (by simp))⟩
  · have hg : ¬ s < n := by omega
    go_ret
    exact ⟨rfl, by rw [show mx s n = s by simp [mx, hg]]; exact H1.out.setSn s, ((((Fr.setCell w p _ _ (by simp)).trans (Fr.setCell _ p _ _ (by simp))).trans (Fr.setCell _ p _ _ (by simp))).trans (Fr.setCell _ p _ _ (by simp))).trans (Fr.setCell _ p _ _ (by simp))⟩
end Go.Proofs.Ytgpdpembddajhaa
