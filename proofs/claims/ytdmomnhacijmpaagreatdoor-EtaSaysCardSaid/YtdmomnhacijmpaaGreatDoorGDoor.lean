/- A door by value: Is, Open, Tick, Stuck. How often a door is held. Plain. A door by value: Tick. A door by value: Tick, however often it was held. -/
import Derived.Test.YtdmomnhacijmpaaGreatDoorGBase
import Derived.Deep.RegionHeld3
import Derived.Lib.MinMax
namespace Go.Proofs.YtdmomnhacijmpaaGreatDoor
open Go.RowKit

/-- A door's two numbers as a value, as a box. -/
abbrev dv (l h : Int) : Value := .agg #[.int .i64 l, .int .i64 h]
abbrev dbox (T : TypeId) (l h : Int) : Obj := .cells #[.int .i64 l, .int .i64 h] T
theorem drow {w : World} {g : Nat} {a b : Value} {T : TypeId} (h : w.heap[g]? = some (.cells #[a, b] T (0, 0))) :
    w.cell? ⟨g, 0, none⟩ = some a ∧ w.cell? ⟨g, 1, none⟩ = some b :=
  ⟨by rw [cell_of_row w g 0 _ _ _ h]; rfl, by rw [cell_of_row w g 1 _ _ _ h]; rfl⟩
/-- A box whose two cells are stored anew. -/
theorem dset {w : World} {g : Nat} {a b : Value} {T : TypeId} (h : w.heap[g]? = some (.cells #[a, b] T (0, 0))) (x y : Value) :
    ((w.setCell ⟨g, 0, none⟩ x).setCell ⟨g, 1, none⟩ y).heap[g]? = some (.cells #[x, y] T (0, 0)) := by
  have h1 : (w.setCell ⟨g, 0, none⟩ x).heap[g]? = some (.cells #[x, b] T (0, 0)) := by rw [heap_setCell_same _ g 0 _ _ _ h]; rfl
  rw [heap_setCell_same _ g 1 _ _ _ h1]; rfl
theorem dset_fr (w : World) (g : Nat) (x y : Value) : Fr w ((w.setCell ⟨g, 0, none⟩ x).setCell ⟨g, 1, none⟩ y) [g] :=
  (Fr.setCell w g 0 x (S := [g]) (by simp)).trans (Fr.setCell _ g 1 y (S := [g]) (by simp))

set_option maxRecDepth 100000 in
theorem is_any (l h : Int) (w : World) (b : Bool) (hb : b = decide (0 < l)) : Calls Tryz.prog 57 #[dv l h] w fun e w' => e = .returned (.bool b) ∧ Fr w w' [] := by
  have FA := Lib.hid (Fr.alloc w (dbox 112 l h) [])
  have HB := Lib.hid hb
  clear hb
  dsimp only [dv, dbox] at *
  go_enter Tryz.func57, Tryz.ntmps57
  go_wp2
  go_ret
  exact ⟨by rw [HB.out]; rfl, FA.out⟩

set_option maxRecDepth 100000 in
theorem open_any (n : Int) (w : World) (r : Int) (hr : min (max n 1) 8 = r) : Calls Tryz.prog 77 #[.int .i64 n] w fun e w' => e = .returned (dv r 0) ∧ Fr w w' [] := by
  obtain ⟨m, hm⟩ : ∃ m, max n 1 = m := ⟨_, rfl⟩
  rw [hm] at hr
  have FA := Lib.hid (Fr.alloc w (dbox 112 r 0) [])
  obtain ⟨x0, x1⟩ := drow (heap_alloc_new w (dbox 112 r 0))
  dsimp only [dv, dbox] at *
  go_enter Tryz.func77, Tryz.ntmps77
  go_wp2
  exact bodyPost_ret (v := .agg #[.int .i64 r, .int .i64 0]) (by simp [results, Tryz.results77, go_sem, x0, x1]) rfl ⟨rfl, FA.out⟩

set_option maxRecDepth 100000 in
theorem oneMore_any (n : Int) (w : World) (h0 : -9223372036854775808 ≤ n) (h1 : n ≤ 1152921504606846976) : Calls Tryz.prog 86 #[.int .i64 n] w fun e w' => e = .returned (.int .i64 (n + 1)) ∧ w' = w := by
  have hm : min n 9223372036854775806 = n := by omega
  have hw : IntKind.i64.wrap (n + 1) = n + 1 := IntWalk.i64_in _ (by omega)
  go_enter Tryz.func86, Tryz.ntmps86
  go_wp2
  go_ret
  exact ⟨rfl, rfl⟩

/-- A third, rounded up. -/
def thirdB (n : Int) : Int := if 0 < n.tmod 3 then n.tdiv 3 + 1 else n.tdiv 3
theorem thirdB_facts (n : Int) : 3 * n.tdiv 3 + n.tmod 3 = n ∧ -3 < n.tmod 3 ∧ n.tmod 3 < 3 := by
  refine ⟨Int.mul_tdiv_add_tmod n 3, ?_, Int.tmod_lt_of_pos n (by decide)⟩
  have := Int.tmod_lt_of_pos (-n) (show (0 : Int) < 3 by decide)
  rw [Int.neg_tmod] at this; omega
theorem thirdB_lt (n k : Int) : k < thirdB n ↔ 3 * k < n := by
  obtain ⟨h1, h2, h3⟩ := thirdB_facts n
  unfold thirdB
  split <;> constructor <;> intro h <;> omega

end Go.Proofs.YtdmomnhacijmpaaGreatDoor

namespace Go.Proofs.YtdmomnhacijmpaaGreatDoor

/-- How often a door was held, behind a tick: the greatest int stays (whatever Held was). -/
def heldK (l k : Int) (o : Bool) : Int := if l ≤ 0 then 0 else if 1 < l then k else if o = true then min k 9223372036854775806 + 1 else 0
end Go.Proofs.YtdmomnhacijmpaaGreatDoor

namespace Go.Proofs.YtdmomnhacijmpaaGreatDoor
open Go.RowKit

/-- What a tick makes of a door. -/
def tickL (l : Int) (o : Bool) : Int := if l ≤ 0 then 0 else if 1 < l then l - 1 else if o = true then 1 else 0
def tickH (l h : Int) (o : Bool) : Int := if l ≤ 0 then 0 else if 1 < l then h else if o = true then h + 1 else 0
def tickB (l : Int) (o : Bool) : Bool := if l ≤ 0 then false else if 1 < l then false else !o

theorem two_new (w : World) (o1 o2 : Obj) : ((w.alloc o1).alloc o2).heap[w.heap.size]? = some o1 ∧ ((w.alloc o1).alloc o2).heap[w.heap.size + 1]? = some o2 := by
  refine ⟨(Fr.alloc (w.alloc o1) o2 []).heap (heap_alloc_new w o1) (by simp), ?_⟩
  have h := heap_alloc_new (w.alloc o1) o2
  rwa [show (w.alloc o1).heap.size = w.heap.size + 1 by simp] at h

set_option maxHeartbeats 1000000 in
set_option maxRecDepth 100000 in
theorem tick_any (l h : Int) (o : Bool) (w : World) (x y : Int) (b : Bool) (hx : x = tickL l o) (hy : y = tickH l h o) (hb : b = tickB l o) (h0 : -9223372036854775808 ≤ h) (h1 : h ≤ 1152921504606846976) (h2 : l ≤ 9223372036854775807) :
    Calls Tryz.prog 72 #[dv l h, .bool o] w fun e w' => e = .returned (.tuple #[dv x y, .bool b]) ∧ Fr w w' [] := by
  have FA := Lib.hid ((Fr.alloc w (dbox 112 l h) []).trans (Fr.alloc _ (dbox 112 0 0) []))
  obtain ⟨N1, N2⟩ := two_new w (dbox 112 l h) (dbox 112 0 0)
  have N1 := Lib.hid N1
  have N2 := Lib.hid N2
  by_cases c0 : l ≤ 0
  · rw [tickL, if_pos c0] at hx
    rw [tickH, if_pos c0] at hy
    rw [tickB, if_pos c0] at hb
    subst hx hy hb
    have I := Lib.hid (fun W => is_any l h W false (by rw [decide_eq_false]; omega))
    clear h0 h1 h2 c0
    dsimp only [dv, dbox] at *
    go_enter Tryz.func72, Tryz.ntmps72
    go_wp2_with fail
    with_reducible refine (I.out _).mono ?_
    rintro e w2 ⟨rfl, hf⟩
    have M2 := Lib.hid (hf.heap N2.out (by simp))
    have F2 := Lib.hid (FA.out.trans hf)
    obtain ⟨r0, r1⟩ := drow M2.out
    have z0 := frozen_of_row _ _ 0 _ _ M2.out
    have z1 := frozen_of_row _ _ 1 _ _ M2.out
    clear hf
    go_wp2
    have X := dset M2.out (.int .i64 0) (.int .i64 0)
    have Y := F2.out.new (dset_fr w2 (w.heap.size + 1) (.int .i64 0) (.int .i64 0)) (by simp)
    generalize World.setCell (World.setCell w2 _ _) _ _ = W at *
    obtain ⟨x0, x1⟩ := drow X
    exact bodyPost_ret (v := .tuple #[.agg #[.int .i64 0, .int .i64 0], .bool false]) (by simp [results, Tryz.results72, go_sem, x0, x1]) rfl ⟨rfl, Y⟩
  · have I := Lib.hid (fun W => is_any l h W true (by rw [decide_eq_true]; omega))
    rw [tickL, if_neg c0] at hx
    rw [tickH, if_neg c0] at hy
    rw [tickB, if_neg c0] at hb
    by_cases c1 : 1 < l
    · rw [if_pos c1] at hx hy hb
      have wl : IntKind.i64.wrap (l - 1) = x := by rw [hx]; exact IntWalk.i64_in _ (by omega)
      subst hy hb
      clear hx h0 h1 h2 c0
      dsimp only [dv, dbox] at *
      go_enter Tryz.func72, Tryz.ntmps72
      go_wp2_with fail
      with_reducible refine (I.out _).mono ?_
      rintro e w2 ⟨rfl, hf⟩
      have M2 := Lib.hid (hf.heap N2.out (by simp))
      have F2 := Lib.hid (FA.out.trans hf)
      obtain ⟨s0, s1⟩ := drow (hf.heap N1.out (by simp))
      obtain ⟨r0, r1⟩ := drow M2.out
      have z0 := frozen_of_row _ _ 0 _ _ M2.out
      have z1 := frozen_of_row _ _ 1 _ _ M2.out
      clear hf
      go_wp2
      have X := dset M2.out (.int .i64 x) (.int .i64 y)
      have Y := F2.out.new (dset_fr w2 (w.heap.size + 1) (.int .i64 x) (.int .i64 y)) (by simp)
      generalize World.setCell (World.setCell w2 _ _) _ _ = W at *
      obtain ⟨x0, x1⟩ := drow X
      exact bodyPost_ret (v := .tuple #[.agg #[.int .i64 x, .int .i64 y], .bool false]) (by simp [results, Tryz.results72, go_sem, x0, x1]) rfl ⟨rfl, Y⟩
    · rw [if_neg c1] at hx hy hb
      obtain rfl : l = 1 := by omega
      cases o with
      | false =>
        rw [if_neg (by decide)] at hx hy
        subst hx hy hb
        clear h0 h1 h2 c0
        dsimp only [dv, dbox] at *
        go_enter Tryz.func72, Tryz.ntmps72
        go_wp2_with fail
        with_reducible refine (I.out _).mono ?_
        rintro e w2 ⟨rfl, hf⟩
        have M2 := Lib.hid (hf.heap N2.out (by simp))
        have F2 := Lib.hid (FA.out.trans hf)
        obtain ⟨s0, s1⟩ := drow (hf.heap N1.out (by simp))
        obtain ⟨r0, r1⟩ := drow M2.out
        have z0 := frozen_of_row _ _ 0 _ _ M2.out
        have z1 := frozen_of_row _ _ 1 _ _ M2.out
        clear hf
        go_wp2
        have X := dset M2.out (.int .i64 0) (.int .i64 0)
        have Y := F2.out.new (dset_fr w2 (w.heap.size + 1) (.int .i64 0) (.int .i64 0)) (by simp)
        generalize World.setCell (World.setCell w2 _ _) _ _ = W at *
        obtain ⟨x0, x1⟩ := drow X
        exact bodyPost_ret (v := .tuple #[.agg #[.int .i64 0, .int .i64 0], .bool true]) (by simp [results, Tryz.results72, go_sem, x0, x1]) rfl ⟨rfl, Y⟩
      | true =>
        rw [if_pos rfl] at hx hy
        have O := Lib.hid (fun W => oneMore_any h W h0 h1)
        subst hx hy hb
        clear h0 h1 h2 c0
        dsimp only [dv, dbox] at *
        go_enter Tryz.func72, Tryz.ntmps72
        go_wp2_with fail
        with_reducible refine (I.out _).mono ?_
        rintro e w2 ⟨rfl, hf⟩
        have M2 := Lib.hid (hf.heap N2.out (by simp))
        have F2 := Lib.hid (FA.out.trans hf)
        obtain ⟨s0, s1⟩ := drow (hf.heap N1.out (by simp))
        obtain ⟨r0, r1⟩ := drow M2.out
        have z0 := frozen_of_row _ _ 0 _ _ M2.out
        have z1 := frozen_of_row _ _ 1 _ _ M2.out
        clear hf
        go_wp2_with fail
        refine wp_region_noPanic ?_
        refine wp_region_held_drew (S := (fun a => a.cell? ⟨w.heap.size, 0, none⟩ = some (.int .i64 1) ∧ a.cell? ⟨w.heap.size, 1, none⟩ = some (.int .i64 h))) (by kernel_rfl) ⟨s0, s1⟩ (fun hHeld => ?_)
        refine wpAnyH_take (i := 0) (oi := _) (v := ?fv0h1n2) (by simp only [List.getElem?_toArray, List.getElem?_cons_zero]; rfl) (by kernel_rfl) (by kernel_rfl) (by kernel_rfl) (fun _ _ _ h => h) (Or.inl ⟨by rfl, ?fy0h1n2⟩) (by assumption) ?fr0h1n2
        case fy0h1n2 => (intro w hSw; (try dsimp only at hSw); go_simp; try with_reducible rfl)
        try simp only [Act.put, List.setIfInBounds_toArray, List.set_cons_zero, List.set_cons_succ]
        refine wpAnyH_take (i := 1) (oi := _) (v := ?fv1h1n2) (by simp only [List.getElem?_toArray, List.getElem?_cons_zero, List.getElem?_cons_succ]; rfl) (by kernel_rfl) (by kernel_rfl) (by kernel_rfl) (fun _ _ _ h => h) (Or.inl ⟨by rfl, ?fy1h1n2⟩) (by assumption) ?fr1h1n2
        case fy1h1n2 => (intro w hSw; (try dsimp only at hSw); go_simp; try with_reducible rfl)
        try simp only [Act.put, List.setIfInBounds_toArray, List.set_cons_zero, List.set_cons_succ]
        refine wpAnyH_take (i := 2) (oi := _) (v := ?fv2h1n2) (by simp only [List.getElem?_toArray, List.getElem?_cons_zero, List.getElem?_cons_succ]; rfl) (by kernel_rfl) (by kernel_rfl) (by kernel_rfl) (fun _ _ _ h => h) (Or.inl ⟨by rfl, ?fy2h1n2⟩) (by assumption) ?fr2h1n2
        case fy2h1n2 => (intro w hSw; (try dsimp only at hSw); go_simp; try with_reducible rfl)
        try simp only [Act.put, List.setIfInBounds_toArray, List.set_cons_zero, List.set_cons_succ]
        refine wpAnyH_take (i := 3) (oi := _) (v := ?fv3h1n2) (by simp only [List.getElem?_toArray, List.getElem?_cons_zero, List.getElem?_cons_succ]; rfl) (by kernel_rfl) (by kernel_rfl) (by kernel_rfl) (fun _ _ _ h => h) (Or.inl ⟨by rfl, ?fy3h1n2⟩) (by assumption) ?fr3h1n2
        case fy3h1n2 => (intro w hSw; (try dsimp only at hSw); go_simp; try with_reducible rfl)
        try simp only [Act.put, List.setIfInBounds_toArray, List.set_cons_zero, List.set_cons_succ]
        refine wpAnyH_ready (rs := [4]) (by kernel_rfl) (by simp) ?_
        refine AllReadyH.cons (o := _) rfl (fun K hK => ?_) AllReadyH.nil
        go_simp
        ((with_reducible refine (O.out _).mono ?_); rintro e x1 ⟨rfl, rfl⟩)
        go_wp2_with fail
        refine hK.out _ _ ⟨s0, s1⟩ (fun hHeld => ?_)
        clear hK K
        try simp only [Act.put, List.setIfInBounds_toArray, List.set_cons_zero, List.set_cons_succ]
        refine wpAnyH_take (i := 5) (oi := _) (v := ?fv5h1n3) (by simp only [List.getElem?_toArray, List.getElem?_cons_zero, List.getElem?_cons_succ]; rfl) (by kernel_rfl) (by kernel_rfl) (by kernel_rfl) (fun _ _ _ h => h) (Or.inl ⟨by rfl, ?fy5h1n3⟩) (by assumption) ?fr5h1n3
        case fy5h1n3 => (intro w hSw; (try dsimp only at hSw); go_simp; try with_reducible rfl)
        try simp only [Act.put, List.setIfInBounds_toArray, List.set_cons_zero, List.set_cons_succ]
        refine wpAnyH_ready (rs := [6]) (by kernel_rfl) (by simp) ?_
        refine AllReadyH.cons (o := _) rfl (fun K hK => ?_) AllReadyH.nil
        go_simp
        refine hK.out _ _ ⟨(dset_fr w2.drew (w.heap.size + 1) _ _).cell s0 (by simp), (dset_fr w2.drew (w.heap.size + 1) _ _).cell s1 (by simp)⟩ (fun hHeld => ?_)
        clear hK K
        try simp only [Act.put, List.setIfInBounds_toArray, List.set_cons_zero, List.set_cons_succ]
        refine wpAnyH_take (i := 7) (oi := _) (v := ?fv7h1n4) (by simp only [List.getElem?_toArray, List.getElem?_cons_zero, List.getElem?_cons_succ]; rfl) (by kernel_rfl) (by kernel_rfl) (by kernel_rfl) (fun _ _ _ h => h) (Or.inl ⟨by rfl, ?fy7h1n4⟩) (by assumption) ?fr7h1n4
        case fy7h1n4 => (intro w hSw; (try dsimp only at hSw); go_simp; try with_reducible rfl)
        try simp only [Act.put, List.setIfInBounds_toArray, List.set_cons_zero, List.set_cons_succ]
        refine wpAnyH_done (by kernel_rfl) ?_ _
        refine NoPanic.normal ?_
        clear hHeld
        go_wp2
        have X := (Fr.drew _ []).heap (dset M2.out (.int .i64 1) (.int .i64 (h + 1))) (by simp)
        have Y := F2.out.new ((dset_fr w2 (w.heap.size + 1) (.int .i64 1) (.int .i64 (h + 1))).trans (Fr.drew _ _)) (by simp)
        generalize World.drew (World.setCell (World.setCell w2 _ _) _ _) = W at *
        obtain ⟨x0, x1⟩ := drow X
        exact bodyPost_ret (v := .tuple #[.agg #[.int .i64 1, .int .i64 (h + 1)], .bool false]) (by simp [results, Tryz.results72, go_sem, x0, x1]) rfl ⟨rfl, Y⟩
end Go.Proofs.YtdmomnhacijmpaaGreatDoor

namespace Go.Proofs.YtdmomnhacijmpaaGreatDoor
open Go.RowKit

set_option maxRecDepth 100000 in
theorem oneMore_all (n : Int) (w : World) (h0 : -9223372036854775808 ≤ n) (h1 : n ≤ 9223372036854775807) (y : Int) (hy : y = min n 9223372036854775806 + 1) : Calls Tryz.prog 86 #[.int .i64 n] w fun e w' => e = .returned (.int .i64 y) ∧ w' = w := by
  obtain ⟨m, hm⟩ : ∃ m, min n 9223372036854775806 = m := ⟨_, rfl⟩
  have hw : IntKind.i64.wrap (m + 1) = y := by rw [hy, hm]; exact IntWalk.i64_in _ (by omega)
  clear hy h0 h1
  go_enter Tryz.func86, Tryz.ntmps86
  go_wp2
  go_ret
  exact ⟨rfl, rfl⟩

set_option maxHeartbeats 1000000 in
set_option maxRecDepth 100000 in
theorem tick_all (l h : Int) (o : Bool) (w : World) (x y : Int) (b : Bool) (hx : x = tickL l o) (hy : y = heldK l h o) (hb : b = tickB l o) (h0 : -9223372036854775808 ≤ h) (h1 : h ≤ 9223372036854775807) (h2 : l ≤ 9223372036854775807) :
    Calls Tryz.prog 72 #[dv l h, .bool o] w fun e w' => e = .returned (.tuple #[dv x y, .bool b]) ∧ Fr w w' [] := by
  have FA := Lib.hid ((Fr.alloc w (dbox 112 l h) []).trans (Fr.alloc _ (dbox 112 0 0) []))
  obtain ⟨N1, N2⟩ := two_new w (dbox 112 l h) (dbox 112 0 0)
  have N1 := Lib.hid N1
  have N2 := Lib.hid N2
  by_cases c0 : l ≤ 0
  · rw [tickL, if_pos c0] at hx
    rw [heldK, if_pos c0] at hy
    rw [tickB, if_pos c0] at hb
    subst hx hy hb
    have I := Lib.hid (fun W => is_any l h W false (by rw [decide_eq_false]; omega))
    clear h0 h1 h2 c0
    dsimp only [dv, dbox] at *
    go_enter Tryz.func72, Tryz.ntmps72
    go_wp2_with fail
    with_reducible refine (I.out _).mono ?_
    rintro e w2 ⟨rfl, hf⟩
    have M2 := Lib.hid (hf.heap N2.out (by simp))
    have F2 := Lib.hid (FA.out.trans hf)
    obtain ⟨r0, r1⟩ := drow M2.out
    have z0 := frozen_of_row _ _ 0 _ _ M2.out
    have z1 := frozen_of_row _ _ 1 _ _ M2.out
    clear hf
    go_wp2
    have X := dset M2.out (.int .i64 0) (.int .i64 0)
    have Y := F2.out.new (dset_fr w2 (w.heap.size + 1) (.int .i64 0) (.int .i64 0)) (by simp)
    generalize World.setCell (World.setCell w2 _ _) _ _ = W at *
    obtain ⟨x0, x1⟩ := drow X
    exact bodyPost_ret (v := .tuple #[.agg #[.int .i64 0, .int .i64 0], .bool false]) (by simp [results, Tryz.results72, go_sem, x0, x1]) rfl ⟨rfl, Y⟩
  · have I := Lib.hid (fun W => is_any l h W true (by rw [decide_eq_true]; omega))
    rw [tickL, if_neg c0] at hx
    rw [heldK, if_neg c0] at hy
    rw [tickB, if_neg c0] at hb
    by_cases c1 : 1 < l
    · rw [if_pos c1] at hx hy hb
      have wl : IntKind.i64.wrap (l - 1) = x := by rw [hx]; exact IntWalk.i64_in _ (by omega)
      subst hy hb
      clear hx h0 h1 h2 c0
      dsimp only [dv, dbox] at *
      go_enter Tryz.func72, Tryz.ntmps72
      go_wp2_with fail
      with_reducible refine (I.out _).mono ?_
      rintro e w2 ⟨rfl, hf⟩
      have M2 := Lib.hid (hf.heap N2.out (by simp))
      have F2 := Lib.hid (FA.out.trans hf)
      obtain ⟨s0, s1⟩ := drow (hf.heap N1.out (by simp))
      obtain ⟨r0, r1⟩ := drow M2.out
      have z0 := frozen_of_row _ _ 0 _ _ M2.out
      have z1 := frozen_of_row _ _ 1 _ _ M2.out
      clear hf
      go_wp2
      have X := dset M2.out (.int .i64 x) (.int .i64 y)
      have Y := F2.out.new (dset_fr w2 (w.heap.size + 1) (.int .i64 x) (.int .i64 y)) (by simp)
      generalize World.setCell (World.setCell w2 _ _) _ _ = W at *
      obtain ⟨x0, x1⟩ := drow X
      exact bodyPost_ret (v := .tuple #[.agg #[.int .i64 x, .int .i64 y], .bool false]) (by simp [results, Tryz.results72, go_sem, x0, x1]) rfl ⟨rfl, Y⟩
    · rw [if_neg c1] at hx hy hb
      obtain rfl : l = 1 := by omega
      cases o with
      | false =>
        rw [if_neg (by decide)] at hx hy
        subst hx hy hb
        clear h0 h1 h2 c0
        dsimp only [dv, dbox] at *
        go_enter Tryz.func72, Tryz.ntmps72
        go_wp2_with fail
        with_reducible refine (I.out _).mono ?_
        rintro e w2 ⟨rfl, hf⟩
        have M2 := Lib.hid (hf.heap N2.out (by simp))
        have F2 := Lib.hid (FA.out.trans hf)
        obtain ⟨s0, s1⟩ := drow (hf.heap N1.out (by simp))
        obtain ⟨r0, r1⟩ := drow M2.out
        have z0 := frozen_of_row _ _ 0 _ _ M2.out
        have z1 := frozen_of_row _ _ 1 _ _ M2.out
        clear hf
        go_wp2
        have X := dset M2.out (.int .i64 0) (.int .i64 0)
        have Y := F2.out.new (dset_fr w2 (w.heap.size + 1) (.int .i64 0) (.int .i64 0)) (by simp)
        generalize World.setCell (World.setCell w2 _ _) _ _ = W at *
        obtain ⟨x0, x1⟩ := drow X
        exact bodyPost_ret (v := .tuple #[.agg #[.int .i64 0, .int .i64 0], .bool true]) (by simp [results, Tryz.results72, go_sem, x0, x1]) rfl ⟨rfl, Y⟩
      | true =>
        rw [if_pos rfl] at hx hy
        have O := Lib.hid (fun W => oneMore_all h W h0 h1 y hy)
        subst hx hb
        clear h0 h1 h2 c0 hy
        dsimp only [dv, dbox] at *
        go_enter Tryz.func72, Tryz.ntmps72
        go_wp2_with fail
        with_reducible refine (I.out _).mono ?_
        rintro e w2 ⟨rfl, hf⟩
        have M2 := Lib.hid (hf.heap N2.out (by simp))
        have F2 := Lib.hid (FA.out.trans hf)
        obtain ⟨s0, s1⟩ := drow (hf.heap N1.out (by simp))
        obtain ⟨r0, r1⟩ := drow M2.out
        have z0 := frozen_of_row _ _ 0 _ _ M2.out
        have z1 := frozen_of_row _ _ 1 _ _ M2.out
        clear hf
        go_wp2_with fail
        refine wp_region_noPanic ?_
        refine wp_region_held_drew (S := (fun a => a.cell? ⟨w.heap.size, 0, none⟩ = some (.int .i64 1) ∧ a.cell? ⟨w.heap.size, 1, none⟩ = some (.int .i64 h))) (by kernel_rfl) ⟨s0, s1⟩ (fun hHeld => ?_)
        refine wpAnyH_take (i := 0) (oi := _) (v := ?fv0h1n2) (by simp only [List.getElem?_toArray, List.getElem?_cons_zero]; rfl) (by kernel_rfl) (by kernel_rfl) (by kernel_rfl) (fun _ _ _ h => h) (Or.inl ⟨by rfl, ?fy0h1n2⟩) (by assumption) ?fr0h1n2
        case fy0h1n2 => (intro w hSw; (try dsimp only at hSw); go_simp; try with_reducible rfl)
        try simp only [Act.put, List.setIfInBounds_toArray, List.set_cons_zero, List.set_cons_succ]
        refine wpAnyH_take (i := 1) (oi := _) (v := ?fv1h1n2) (by simp only [List.getElem?_toArray, List.getElem?_cons_zero, List.getElem?_cons_succ]; rfl) (by kernel_rfl) (by kernel_rfl) (by kernel_rfl) (fun _ _ _ h => h) (Or.inl ⟨by rfl, ?fy1h1n2⟩) (by assumption) ?fr1h1n2
        case fy1h1n2 => (intro w hSw; (try dsimp only at hSw); go_simp; try with_reducible rfl)
        try simp only [Act.put, List.setIfInBounds_toArray, List.set_cons_zero, List.set_cons_succ]
        refine wpAnyH_take (i := 2) (oi := _) (v := ?fv2h1n2) (by simp only [List.getElem?_toArray, List.getElem?_cons_zero, List.getElem?_cons_succ]; rfl) (by kernel_rfl) (by kernel_rfl) (by kernel_rfl) (fun _ _ _ h => h) (Or.inl ⟨by rfl, ?fy2h1n2⟩) (by assumption) ?fr2h1n2
        case fy2h1n2 => (intro w hSw; (try dsimp only at hSw); go_simp; try with_reducible rfl)
        try simp only [Act.put, List.setIfInBounds_toArray, List.set_cons_zero, List.set_cons_succ]
        refine wpAnyH_take (i := 3) (oi := _) (v := ?fv3h1n2) (by simp only [List.getElem?_toArray, List.getElem?_cons_zero, List.getElem?_cons_succ]; rfl) (by kernel_rfl) (by kernel_rfl) (by kernel_rfl) (fun _ _ _ h => h) (Or.inl ⟨by rfl, ?fy3h1n2⟩) (by assumption) ?fr3h1n2
        case fy3h1n2 => (intro w hSw; (try dsimp only at hSw); go_simp; try with_reducible rfl)
        try simp only [Act.put, List.setIfInBounds_toArray, List.set_cons_zero, List.set_cons_succ]
        refine wpAnyH_ready (rs := [4]) (by kernel_rfl) (by simp) ?_
        refine AllReadyH.cons (o := _) rfl (fun K hK => ?_) AllReadyH.nil
        go_simp
        ((with_reducible refine (O.out _).mono ?_); rintro e x1 ⟨rfl, rfl⟩)
        go_wp2_with fail
        refine hK.out _ _ ⟨s0, s1⟩ (fun hHeld => ?_)
        clear hK K
        try simp only [Act.put, List.setIfInBounds_toArray, List.set_cons_zero, List.set_cons_succ]
        refine wpAnyH_take (i := 5) (oi := _) (v := ?fv5h1n3) (by simp only [List.getElem?_toArray, List.getElem?_cons_zero, List.getElem?_cons_succ]; rfl) (by kernel_rfl) (by kernel_rfl) (by kernel_rfl) (fun _ _ _ h => h) (Or.inl ⟨by rfl, ?fy5h1n3⟩) (by assumption) ?fr5h1n3
        case fy5h1n3 => (intro w hSw; (try dsimp only at hSw); go_simp; try with_reducible rfl)
        try simp only [Act.put, List.setIfInBounds_toArray, List.set_cons_zero, List.set_cons_succ]
        refine wpAnyH_ready (rs := [6]) (by kernel_rfl) (by simp) ?_
        refine AllReadyH.cons (o := _) rfl (fun K hK => ?_) AllReadyH.nil
        go_simp
        refine hK.out _ _ ⟨(dset_fr w2.drew (w.heap.size + 1) _ _).cell s0 (by simp), (dset_fr w2.drew (w.heap.size + 1) _ _).cell s1 (by simp)⟩ (fun hHeld => ?_)
        clear hK K
        try simp only [Act.put, List.setIfInBounds_toArray, List.set_cons_zero, List.set_cons_succ]
        refine wpAnyH_take (i := 7) (oi := _) (v := ?fv7h1n4) (by simp only [List.getElem?_toArray, List.getElem?_cons_zero, List.getElem?_cons_succ]; rfl) (by kernel_rfl) (by kernel_rfl) (by kernel_rfl) (fun _ _ _ h => h) (Or.inl ⟨by rfl, ?fy7h1n4⟩) (by assumption) ?fr7h1n4
        case fy7h1n4 => (intro w hSw; (try dsimp only at hSw); go_simp; try with_reducible rfl)
        try simp only [Act.put, List.setIfInBounds_toArray, List.set_cons_zero, List.set_cons_succ]
        refine wpAnyH_done (by kernel_rfl) ?_ _
        refine NoPanic.normal ?_
        clear hHeld
        go_wp2
        have X := (Fr.drew _ []).heap (dset M2.out (.int .i64 1) (.int .i64 (y))) (by simp)
        have Y := F2.out.new ((dset_fr w2 (w.heap.size + 1) (.int .i64 1) (.int .i64 (y))).trans (Fr.drew _ _)) (by simp)
        generalize World.drew (World.setCell (World.setCell w2 _ _) _ _) = W at *
        obtain ⟨x0, x1⟩ := drow X
        exact bodyPost_ret (v := .tuple #[.agg #[.int .i64 1, .int .i64 (y)], .bool false]) (by simp [results, Tryz.results72, go_sem, x0, x1]) rfl ⟨rfl, Y⟩
end Go.Proofs.YtdmomnhacijmpaaGreatDoor
