/- The document's door. -/
import Derived.Test.YtdmomnhacijmpaaGreatDoorGDoor
namespace Go.Proofs.YtdmomnhacijmpaaGreatDoor
open Go.RowKit

set_option maxRecDepth 100000 in
theorem ropen_any (n : Int) (w : World) (r : Int) (hr : min (max n 1) 8 = r) : Calls Tryz.prog 35 #[.int .i64 n] w fun e w' => e = .returned (dv r 0) ∧ Fr w w' [] := by
  obtain ⟨m, hm⟩ : ∃ m, max n 1 = m := ⟨_, rfl⟩
  rw [hm] at hr
  have FA := Lib.hid (Fr.alloc w (dbox 79 r 0) [])
  obtain ⟨x0, x1⟩ := drow (heap_alloc_new w (dbox 79 r 0))
  dsimp only [dv, dbox] at *
  go_enter Tryz.func35, Tryz.ntmps35
  go_wp2
  exact bodyPost_ret (v := .agg #[.int .i64 r, .int .i64 0]) (by simp [results, Tryz.results35, go_sem, x0, x1]) rfl ⟨rfl, FA.out⟩

set_option maxHeartbeats 1000000 in
set_option maxRecDepth 100000 in
theorem rtick_any (l h : Int) (o : Bool) (w : World) (x y : Int) (b : Bool) (hx : x = tickL l o) (hy : y = tickH l h o) (hb : b = tickB l o) (h0 : -9223372036854775808 ≤ h) (h1 : h ≤ 1152921504606846976) (h2 : l ≤ 9223372036854775807) :
    Calls Tryz.prog 29 #[dv l h, .bool o] w fun e w' => e = .returned (.tuple #[dv x y, .bool b]) ∧ Fr w w' [] := by
  obtain ⟨N1, N2⟩ := two_new w (dbox 79 l h) (dbox 79 0 0)
  obtain ⟨s0, s1⟩ := drow N1
  obtain ⟨r0, r1⟩ := drow N2
  have z0 := frozen_of_row _ _ 0 _ _ N2
  have z1 := frozen_of_row _ _ 1 _ _ N2
  clear N1 N2
  by_cases c0 : l ≤ 0
  · rw [tickL, if_pos c0] at hx
    rw [tickH, if_pos c0] at hy
    rw [tickB, if_pos c0] at hb
    subst hx hy hb
    clear h0 h1 h2
    dsimp only [dv, dbox] at *
    go_enter Tryz.func29, Tryz.ntmps29
    go_wp2
    exact bodyPost_ret (v := .tuple #[.agg #[.int .i64 0, .int .i64 0], .bool false]) (by simp [results, Tryz.results29, go_sem]) rfl ⟨rfl, (Fr.alloc w _ []).trans (Fr.alloc _ _ [])⟩
  · rw [tickL, if_neg c0] at hx
    rw [tickH, if_neg c0] at hy
    rw [tickB, if_neg c0] at hb
    by_cases c1 : 1 < l
    · rw [if_pos c1] at hx hy hb
      have wl : IntKind.i64.wrap (l - 1) = x := by rw [hx]; exact IntWalk.i64_in _ (by omega)
      subst hy hb
      clear hx h0 h1 h2
      dsimp only [dv, dbox] at *
      go_enter Tryz.func29, Tryz.ntmps29
      go_wp2
      exact bodyPost_ret (v := .tuple #[.agg #[.int .i64 x, .int .i64 y], .bool false]) (by simp [results, Tryz.results29, go_sem]) rfl ⟨rfl, (Fr.alloc w _ []).trans (Fr.alloc _ _ [])⟩
    · rw [if_neg c1] at hx hy hb
      obtain rfl : l = 1 := by omega
      cases o with
      | false =>
        rw [if_neg (by decide)] at hx hy
        subst hx hy hb
        clear h0 h1 h2
        dsimp only [dv, dbox] at *
        go_enter Tryz.func29, Tryz.ntmps29
        go_wp2
        exact bodyPost_ret (v := .tuple #[.agg #[.int .i64 0, .int .i64 0], .bool true]) (by simp [results, Tryz.results29, go_sem]) rfl ⟨rfl, (Fr.alloc w _ []).trans (Fr.alloc _ _ [])⟩
      | true =>
        rw [if_pos rfl] at hx hy
        have wh : IntKind.i64.wrap (h + 1) = h + 1 := IntWalk.i64_in _ (by omega)
        subst hx hy hb
        clear h0 h1 h2
        dsimp only [dv, dbox] at *
        go_enter Tryz.func29, Tryz.ntmps29
        go_wp2
        exact bodyPost_ret (v := .tuple #[.agg #[.int .i64 1, .int .i64 (h + 1)], .bool false]) (by simp [results, Tryz.results29, go_sem]) rfl ⟨rfl, (Fr.alloc w _ []).trans (Fr.alloc _ _ [])⟩
end Go.Proofs.YtdmomnhacijmpaaGreatDoor
