/- Bids as the package reckons them: cmp.Compare, cmp.Or, compare, Less. -/
import Derived.Test.YtfphihhcclfmnaaRBi
import Derived.Deep.RegionHeld3
namespace Go.Proofs.Ytfphihhcclfmnaa
open Go.RowKit

theorem nan_any (a : Int) (w : World) : Calls Try.prog 38 #[.int .i64 a] w fun e w' => e = .returned (.bool false) ∧ w' = w := by
  have h : (a != a) = false := by simp
  go_enter Try.func38, Try.ntmps38
  go_wp2
  go_ret
  exact ⟨rfl, rfl⟩
/-- What cmp.Compare says of two numbers. -/
def cmp1 (a b : Int) : Int := if a < b then -1 else if b < a then 1 else 0
theorem cmp1_any (a b : Int) (w : World) : Calls Try.prog 30 #[.int .i64 a, .int .i64 b] w fun e w' => e = .returned (.int .i64 (cmp1 a b)) ∧ w' = w := by
  by_cases h : a < b
  · have HC := Lib.hid (show cmp1 a b = -1 by simp [cmp1, h])
    go_enter Try.func30, Try.ntmps30
    go_wp2_with (go_at_call 38; refine (nan_any _ _).mono ?_; rintro e w' ⟨rfl, rfl⟩)
    go_ret
    exact ⟨by rw [HC.out]; rfl, rfl⟩
  · by_cases h' : b < a
    · have HC := Lib.hid (show cmp1 a b = 1 by simp [cmp1, h, h'])
      go_enter Try.func30, Try.ntmps30
      go_wp2_with (go_at_call 38; refine (nan_any _ _).mono ?_; rintro e w' ⟨rfl, rfl⟩)
      go_ret
      exact ⟨by rw [HC.out]; rfl, rfl⟩
    · have HC := Lib.hid (show cmp1 a b = 0 by simp [cmp1, h, h'])
      go_enter Try.func30, Try.ntmps30
      go_wp2_with (go_at_call 38; refine (nan_any _ _).mono ?_; rintro e w' ⟨rfl, rfl⟩)
      go_ret
      exact ⟨by rw [HC.out]; rfl, rfl⟩
/-- cmp.Or of two numbers that lie in a block. -/
theorem or_any (b : Nat) (x y : Int) (w : World) (h0 : w.cell? ⟨b, 0, none⟩ = some (.int .i64 x)) (h1 : w.cell? ⟨b, 1, none⟩ = some (.int .i64 y)) (r : Int) (hr : r = if x ≠ 0 then x else y) :
    Calls Try.prog 29 #[.slice (some ⟨b, 0, none⟩) 2 2] w fun e w' => e = .returned (.int .i64 r) ∧ w' = w := by
  by_cases hx : x = 0
  · subst hx
    have HR := Lib.hid (show r = y by rw [hr]; simp)
    clear hr
    by_cases hy : y = 0
    · subst hy
      go_enter Try.func29, Try.ntmps29
      go_wp2
      go_loopw [5, 8] (fun v i wr => (i = .int .i64 0 ∨ i = .int .i64 1 ∨ i = .int .i64 2) ∧ wr = w) (fun _ i _ => 2 - (intOf i).toNat)
      case atStart => exact ⟨.inl rfl, rfl⟩
      case round =>
        obtain ⟨rfl | rfl | rfl, rfl⟩ := hrel
        · go_wp2
          go_roundw
          case rel => exact ⟨.inr (.inl rfl), trivial⟩
          case measure => simp [intOf]
        · go_wp2
          go_roundw
          case rel => exact ⟨.inr (.inr rfl), trivial⟩
          case measure => simp [intOf]
        · go_wp2
          go_ret
          exact ⟨by rw [HR.out]; rfl, rfl⟩
    · have hy' : (y != 0) = true := by simp [hy]
      go_enter Try.func29, Try.ntmps29
      go_wp2
      go_loopw [5, 8] (fun v i wr => (i = .int .i64 0 ∨ i = .int .i64 1) ∧ wr = w) (fun _ i _ => 2 - (intOf i).toNat)
      case atStart => exact ⟨.inl rfl, rfl⟩
      case round =>
        obtain ⟨rfl | rfl, rfl⟩ := hrel
        · go_wp2
          go_roundw
          case rel => exact ⟨.inr rfl, trivial⟩
          case measure => simp [intOf]
        · go_wp2
          go_ret
          exact ⟨by rw [HR.out]; rfl, rfl⟩
  · have HR := Lib.hid (show r = x by rw [hr]; simp [hx])
    have hx' : (x != 0) = true := by simp [hx]
    clear hr
    go_enter Try.func29, Try.ntmps29
    go_wp2
    go_loopw [5, 8] (fun v i wr => i = .int .i64 0 ∧ wr = w) (fun _ i _ => 2 - (intOf i).toNat)
    case atStart => exact ⟨rfl, rfl⟩
    case round =>
      obtain ⟨rfl, rfl⟩ := hrel
      go_wp2
      go_ret
      exact ⟨by rw [HR.out]; rfl, rfl⟩
/-- What compare says of two bids. -/
def cmpB (a b : Int × Int) : Int := if cmp1 a.2 b.2 ≠ 0 then cmp1 a.2 b.2 else cmp1 a.1 b.1
theorem cmpB_lt (a b : Int × Int) : decide (cmpB a b < 0) = ltB a b := by
  rw [Bool.eq_iff_iff, decide_eq_true_iff, ltB_iff]
  unfold cmpB cmp1
  by_cases h1 : a.2 < b.2 <;> by_cases h2 : b.2 < a.2 <;> by_cases h3 : a.1 < b.1 <;> by_cases h4 : b.1 < a.1 <;> simp [h1, h2, h3, h4] <;> omega
theorem box2_cells (W : World) (n : Nat) (hn : W.heap.size = n) (a b : Value) (T : TypeId) : (W.alloc (.cells #[a, b] T)).drew.cell? ⟨n, 0, none⟩ = some a ∧ (W.alloc (.cells #[a, b] T)).drew.cell? ⟨n, 1, none⟩ = some b := by
  subst hn
  exact row2 (heap_alloc_new W (.cells #[a, b] T))
/-- The two bids as they lie in boxes of their own. -/
def SC (W : World) (b1 b2 : Nat) (f d f' d' : Int) (a : World) : Prop := Fr W a [] ∧ (a.cell? ⟨b1, 0, none⟩ = some (.int .i64 f) ∧ a.cell? ⟨b1, 1, none⟩ = some (.int .i64 d)) ∧ a.cell? ⟨b2, 0, none⟩ = some (.int .i64 f') ∧ a.cell? ⟨b2, 1, none⟩ = some (.int .i64 d')
theorem SC.fr {W a a' : World} {b1 b2 : Nat} {f d f' d' : Int} (h : SC W b1 b2 f d f' d' a) (k : Fr a a' []) : SC W b1 b2 f d f' d' a' := by
  obtain ⟨h0, ⟨h1, h2⟩, h3, h4⟩ := h
  exact ⟨h0.trans k, ⟨k.cell h1 (by simp), k.cell h2 (by simp)⟩, k.cell h3 (by simp), k.cell h4 (by simp)⟩
theorem SC.boxes (w : World) (f d f' d' : Int) : SC w w.heap.size (w.heap.size + 1) f d f' d' (((w.alloc (.cells #[.int .i64 f, .int .i64 d] 24)).alloc (.cells #[.int .i64 f', .int .i64 d'] 24))) := by
  obtain ⟨h0, h1, h2⟩ := two_bids w (f, d) (f', d')
  exact ⟨h0, row2 h1, row2 h2⟩
set_option maxRecDepth 100000 in
theorem bcompare_any (f d f' d' : Int) (w : World) : Calls Try.prog 22 #[.agg #[.int .i64 f, .int .i64 d], .agg #[.int .i64 f', .int .i64 d']] w fun e w' => e = .returned (.int .i64 (cmpB (f, d) (f', d'))) ∧ Fr w w' [] := by
  have HS := Lib.hid ((SC.boxes w f d f' d').fr (Fr.drew _ []))
  obtain ⟨c1, e1⟩ : ∃ c, c = cmp1 d d' := ⟨_, rfl⟩
  obtain ⟨c2, e2⟩ : ∃ c, c = cmp1 f f' := ⟨_, rfl⟩
  have C1 := Lib.hid (fun W => (e1 ▸ cmp1_any d d' W : Calls Try.prog 30 #[.int .i64 d, .int .i64 d'] W fun e w' => e = .returned (.int .i64 c1) ∧ w' = W))
  have C2 := Lib.hid (fun W => (e2 ▸ cmp1_any f f' W : Calls Try.prog 30 #[.int .i64 f, .int .i64 f'] W fun e w' => e = .returned (.int .i64 c2) ∧ w' = W))
  have HR : Hid (cmpB (f, d) (f', d') = if c1 ≠ 0 then c1 else c2) := by show _ = _; rw [e1, e2]; rfl
  clear e1 e2
  go_enter Try.func22, Try.ntmps22
  go_wp2_with fail
  refine wp_region_noPanic ?_
  refine wp_region_held_drew (S := (SC w w.heap.size (w.heap.size + 1) f d f' d')) (by kernel_rfl) HS.out (fun hHeld => ?_)
  refine wpAnyH_take (i := 0) (oi := _) (v := ?fv0h1n2) (by simp only [List.getElem?_toArray, List.getElem?_cons_zero]; rfl) (by kernel_rfl) (by kernel_rfl) (by kernel_rfl) (fun _ _ _ h => h) (Or.inl ⟨by rfl, ?fy0h1n2⟩) (by assumption) ?fr0h1n2
  case fy0h1n2 => (intro w hSw; (try dsimp only [SC] at hSw); go_simp; try with_reducible rfl)
  try simp only [Act.put, List.setIfInBounds_toArray, List.set_cons_zero, List.set_cons_succ]
  refine wpAnyH_take (i := 1) (oi := _) (v := ?fv1h1n2) (by simp only [List.getElem?_toArray, List.getElem?_cons_zero, List.getElem?_cons_succ]; rfl) (by kernel_rfl) (by kernel_rfl) (by kernel_rfl) (fun _ _ _ h => h) (Or.inl ⟨by rfl, ?fy1h1n2⟩) (by assumption) ?fr1h1n2
  case fy1h1n2 => (intro w hSw; (try dsimp only [SC] at hSw); go_simp; try with_reducible rfl)
  try simp only [Act.put, List.setIfInBounds_toArray, List.set_cons_zero, List.set_cons_succ]
  refine wpAnyH_take (i := 2) (oi := _) (v := ?fv2h1n2) (by simp only [List.getElem?_toArray, List.getElem?_cons_zero, List.getElem?_cons_succ]; rfl) (by kernel_rfl) (by kernel_rfl) (by kernel_rfl) (fun _ _ _ h => h) (Or.inl ⟨by rfl, ?fy2h1n2⟩) (by assumption) ?fr2h1n2
  case fy2h1n2 => (intro w hSw; (try dsimp only [SC] at hSw); go_simp; try with_reducible rfl)
  try simp only [Act.put, List.setIfInBounds_toArray, List.set_cons_zero, List.set_cons_succ]
  refine wpAnyH_take (i := 3) (oi := _) (v := ?fv3h1n2) (by simp only [List.getElem?_toArray, List.getElem?_cons_zero, List.getElem?_cons_succ]; rfl) (by kernel_rfl) (by kernel_rfl) (by kernel_rfl) (fun _ _ _ h => h) (Or.inl ⟨by rfl, ?fy3h1n2⟩) (by assumption) ?fr3h1n2
  case fy3h1n2 => (intro w hSw; (try dsimp only [SC] at hSw); go_simp; try with_reducible rfl)
  try simp only [Act.put, List.setIfInBounds_toArray, List.set_cons_zero, List.set_cons_succ]
  refine wpAnyH_take (i := 5) (oi := _) (v := ?fv5h1n2) (by simp only [List.getElem?_toArray, List.getElem?_cons_zero, List.getElem?_cons_succ]; rfl) (by kernel_rfl) (by kernel_rfl) (by kernel_rfl) (fun _ _ _ h => h) (Or.inl ⟨by rfl, ?fy5h1n2⟩) (by assumption) ?fr5h1n2
  case fy5h1n2 => (intro w hSw; (try dsimp only [SC] at hSw); go_simp; try with_reducible rfl)
  try simp only [Act.put, List.setIfInBounds_toArray, List.set_cons_zero, List.set_cons_succ]
  refine wpAnyH_take (i := 6) (oi := _) (v := ?fv6h1n2) (by simp only [List.getElem?_toArray, List.getElem?_cons_zero, List.getElem?_cons_succ]; rfl) (by kernel_rfl) (by kernel_rfl) (by kernel_rfl) (fun _ _ _ h => h) (Or.inl ⟨by rfl, ?fy6h1n2⟩) (by assumption) ?fr6h1n2
  case fy6h1n2 => (intro w hSw; (try dsimp only [SC] at hSw); go_simp; try with_reducible rfl)
  try simp only [Act.put, List.setIfInBounds_toArray, List.set_cons_zero, List.set_cons_succ]
  refine wpAnyH_take (i := 7) (oi := _) (v := ?fv7h1n2) (by simp only [List.getElem?_toArray, List.getElem?_cons_zero, List.getElem?_cons_succ]; rfl) (by kernel_rfl) (by kernel_rfl) (by kernel_rfl) (fun _ _ _ h => h) (Or.inl ⟨by rfl, ?fy7h1n2⟩) (by assumption) ?fr7h1n2
  case fy7h1n2 => (intro w hSw; (try dsimp only [SC] at hSw); go_simp; try with_reducible rfl)
  try simp only [Act.put, List.setIfInBounds_toArray, List.set_cons_zero, List.set_cons_succ]
  refine wpAnyH_take (i := 8) (oi := _) (v := ?fv8h1n2) (by simp only [List.getElem?_toArray, List.getElem?_cons_zero, List.getElem?_cons_succ]; rfl) (by kernel_rfl) (by kernel_rfl) (by kernel_rfl) (fun _ _ _ h => h) (Or.inl ⟨by rfl, ?fy8h1n2⟩) (by assumption) ?fr8h1n2
  case fy8h1n2 => (intro w hSw; (try dsimp only [SC] at hSw); go_simp; try with_reducible rfl)
  try simp only [Act.put, List.setIfInBounds_toArray, List.set_cons_zero, List.set_cons_succ]
  refine wpAnyH_ready (rs := [4]) (by kernel_rfl) (by simp) ?_
  refine AllReadyH.cons (o := _) rfl (fun K hK => ?_) AllReadyH.nil
  go_simp
  ((with_reducible refine (C1.out _).mono ?_); rintro e x1 ⟨rfl, rfl⟩; have hS2 := hHeld)
  go_wp2_with fail
  refine hK.out _ _ hS2 (fun hHeld => ?_)
  clear hK K
  try simp only [Act.put, List.setIfInBounds_toArray, List.set_cons_zero, List.set_cons_succ]
  refine wpAnyH_ready (rs := [9]) (by kernel_rfl) (by simp) ?_
  refine AllReadyH.cons (o := _) rfl (fun K hK => ?_) AllReadyH.nil
  go_simp
  ((with_reducible refine (C2.out _).mono ?_); rintro e x2 ⟨rfl, rfl⟩; have hS3 := hHeld)
  go_wp2_with fail
  refine hK.out _ _ hS3 (fun hHeld => ?_)
  clear hK K
  try simp only [Act.put, List.setIfInBounds_toArray, List.set_cons_zero, List.set_cons_succ]
  refine wpAnyH_ready (rs := [10]) (by kernel_rfl) (by simp) ?_
  refine AllReadyH.cons (o := _) rfl (fun K hK => ?_) AllReadyH.nil
  go_simp
  have hS4 := hHeld.fr (Fr.alloc _ (.cells #[.int .i64 c1, .int .i64 c2] 3) [])
  refine hK.out _ _ hS4 (fun hHeld => ?_)
  clear hK K
  try simp only [Act.put, List.setIfInBounds_toArray, List.set_cons_zero, List.set_cons_succ]
  refine wpAnyH_ready (rs := [11]) (by kernel_rfl) (by simp) ?_
  refine AllReadyH.cons (o := _) rfl (fun K hK => ?_) AllReadyH.nil
  go_simp
  ((with_reducible refine (or_any _ c1 c2 _ (box2_cells _ _ (by simp) _ _ _).1 (box2_cells _ _ (by simp) _ _ _).2 _ HR.out).mono ?_); rintro e x3 ⟨rfl, rfl⟩; have hS5 := hHeld)
  go_wp2_with fail
  refine hK.out _ _ hS5 (fun hHeld => ?_)
  clear hK K
  try simp only [Act.put, List.setIfInBounds_toArray, List.set_cons_zero, List.set_cons_succ]
  refine wpAnyH_take (i := 12) (oi := _) (v := ?fv12h1n3) (by simp only [List.getElem?_toArray, List.getElem?_cons_zero, List.getElem?_cons_succ]; rfl) (by kernel_rfl) (by kernel_rfl) (by kernel_rfl) (fun _ _ _ h => h) (Or.inl ⟨by rfl, ?fy12h1n3⟩) (by assumption) ?fr12h1n3
  case fy12h1n3 => (intro w hSw; (try dsimp only [SC] at hSw); go_simp; try with_reducible rfl)
  try simp only [Act.put, List.setIfInBounds_toArray, List.set_cons_zero, List.set_cons_succ]
  refine wpAnyH_done (by kernel_rfl) ?_ _
  refine NoPanic.normal ?_
  go_wp2
  go_ret
  exact ⟨rfl, hHeld.1⟩
theorem bless_any (a b : Int × Int) (w : World) (r : Bool) (hr : r = ltB a b) : Calls Try.prog 15 #[bidV a, bidV b] w fun x w' => x = .returned (.bool r) ∧ Fr w w' [] := by
  obtain ⟨f, d⟩ := a
  obtain ⟨f', d'⟩ := b
  dsimp only [bidV] at *
  have HS := Lib.hid (SC.boxes w f d f' d')
  obtain ⟨hF, ⟨k1, k2⟩, k3, k4⟩ := HS.out
  obtain ⟨c, hc⟩ : ∃ c, c = cmpB (f, d) (f', d') := ⟨_, rfl⟩
  have HC : Hid (∀ W, Calls Try.prog 22 #[.agg #[.int .i64 f, .int .i64 d], .agg #[.int .i64 f', .int .i64 d']] W fun e w' => e = .returned (.int .i64 c) ∧ Fr W w' []) := by rw [hc]; exact bcompare_any f d f' d'
  have HB2 : Hid (r = decide (c < 0)) := by show _ = _; rw [hr, hc, cmpB_lt]
  clear hr hc hF
  go_enter Try.func15, Try.ntmps15
  go_wp2_with fail
  refine (HC.out _).mono ?_
  rintro e w1 ⟨rfl, hf⟩
  have HF := Lib.hid (HS.out.1.trans hf)
  clear hf
  go_wp2
  go_ret
  exact ⟨by rw [HB2.out]; rfl, HF.out⟩
end Go.Proofs.Ytfphihhcclfmnaa
