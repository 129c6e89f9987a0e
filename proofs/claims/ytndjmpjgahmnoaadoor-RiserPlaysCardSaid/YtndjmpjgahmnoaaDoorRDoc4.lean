/- The document's riser: Clear, Lit. -/
import Derived.Test.YtndjmpjgahmnoaaDoorRDoc3
namespace Go.Proofs.YtndjmpjgahmnoaaDoor
open Go.RowKit

set_option maxRecDepth 100000 in
theorem rclear_no (q : Nat) (s : RS) (f d x : Int) (w : World) (hs : Rd w q s) (hn : s.n ≤ 64) (hb : s.isB f d x = false) :
    Calls Tryd.prog 20 #[.pointer (some ⟨q, 0, none⟩), .agg #[.int .i64 f, .int .i64 d, .int .i64 x]] w fun e w' => e = .returned (.bool false) ∧ Fr w w' [] := by
  have HF := Lib.hid (Fr.alloc w (.cells #[.int .i64 f, .int .i64 d, .int .i64 x] 32) [])
  have HS := Lib.hid (hs.keep HF.out)
  clear hs
  go_enter Tryd.func20, Tryd.ntmps20
  go_wp2_with fail
  refine (rlights_any q s f d x _ HS.out hn false hb).mono ?_
  rintro e w1 ⟨rfl, hf⟩
  have HF1 := Lib.hid (HF.out.trans hf)
  clear hf
  go_wp2
  go_ret
  exact ⟨rfl, HF1.out⟩

set_option maxHeartbeats 1000000 in
set_option maxRecDepth 100000 in
theorem rclear_yes (q : Nat) (s : RS) (f d : Int) (k : Nat) (x : Int) (w : World) (hs : Rd w q s) (hn : s.n ≤ 64) (hk : Key s.n f d k) (hl : s.L k = true) (hg : s.G k = x) :
    Calls Tryd.prog 20 #[.pointer (some ⟨q, 0, none⟩), .agg #[.int .i64 f, .int .i64 d, .int .i64 x]] w fun e w' => e = .returned (.bool true) ∧ Rd w' q (s.clear k) ∧ Fr w w' [q] := by
  have HF := Lib.hid (Fr.alloc w (.cells #[.int .i64 f, .int .i64 d, .int .i64 x] 32) [])
  have HX := Lib.hid (heap_alloc_new w (.cells #[.int .i64 f, .int .i64 d, .int .i64 x] 32))
  have hb : s.isB f d x = true := by simp [RS.isB, hk.may, hk.is, hl, hg]
  have HS := Lib.hid (hs.keep HF.out)
  have HQ := Lib.hid hs.lt
  have q3 : ¬ w.heap.size = q := by have := HQ.out; omega
  obtain ⟨j, rfl, hj, hk128, hd⟩ := key_way hk hn
  have HKK := Lib.hid hk128
  clear hs hk hl hg hk128
  rcases hd with ⟨rfl, hkj⟩ | ⟨rfl, hkj⟩
  · have HD := Lib.hid side_down
    have HK2 := Lib.hid (show 129 + j * 2 = 129 + k by omega)
    clear hkj
    go_enter Tryd.func20, Tryd.ntmps20
    go_wp2_with fail
    refine (rlights_any q s _ _ x _ HS.out hn true hb).mono ?_
    rintro e w1 ⟨rfl, hf⟩
    have HF1 := Lib.hid (HF.out.trans hf)
    have HS1 := Lib.hid (HS.out.keep hf)
    obtain ⟨k0, k1, _⟩ := row3 (hf.heap HX.out (by simp))
    have zl := HS1.out.fz (129 + j * 2)
    have cl := HS1.out.l k (129 + j * 2) HKK.out HK2.out
    clear hf
    go_wp2_with fail
    refine wp_region_noPanic ?_
    refine wp_region_held_drew (S := (fun a => a.cell? ⟨w.heap.size, 0, none⟩ = some (.int .i64 (j : Int)) ∧ a.cell? ⟨w.heap.size, 1, none⟩ = some (.int .i64 (-1)))) (by kernel_rfl) ⟨k0, k1⟩ (fun hHeld => ?_)
    refine wpAnyH_take (i := 0) (oi := _) (v := ?fv0h1) (by simp only [List.getElem?_toArray, List.getElem?_cons_zero]; rfl) (by kernel_rfl) (by kernel_rfl) (by kernel_rfl) (fun _ _ _ h => h) (Or.inl ⟨by rfl, ?fy0h1⟩) (by assumption) ?fr0h1
    case fy0h1 => (intro w hSw; (try dsimp only at hSw); go_simp; try with_reducible rfl)
    try simp only [Act.put, List.setIfInBounds_toArray, List.set_cons_zero, List.set_cons_succ]
    refine wpAnyH_take (i := 1) (oi := _) (v := ?fv1h1) (by simp only [List.getElem?_toArray, List.getElem?_cons_zero, List.getElem?_cons_succ]; rfl) (by kernel_rfl) (by kernel_rfl) (by kernel_rfl) (fun _ _ _ h => h) (Or.inl ⟨by rfl, ?fy1h1⟩) (by assumption) ?fr1h1
    case fy1h1 => (intro w hSw; (try dsimp only at hSw); go_simp; try with_reducible rfl)
    try simp only [Act.put, List.setIfInBounds_toArray, List.set_cons_zero, List.set_cons_succ]
    refine wpAnyH_take (i := 2) (oi := _) (v := ?fv2h1) (by simp only [List.getElem?_toArray, List.getElem?_cons_zero, List.getElem?_cons_succ]; rfl) (by kernel_rfl) (by kernel_rfl) (by kernel_rfl) (fun _ _ _ h => h) (Or.inl ⟨by rfl, ?fy2h1⟩) (by assumption) ?fr2h1
    case fy2h1 => (intro w hSw; (try dsimp only at hSw); go_simp; try with_reducible rfl)
    try simp only [Act.put, List.setIfInBounds_toArray, List.set_cons_zero, List.set_cons_succ]
    refine wpAnyH_take (i := 3) (oi := _) (v := ?fv3h1) (by simp only [List.getElem?_toArray, List.getElem?_cons_zero, List.getElem?_cons_succ]; rfl) (by kernel_rfl) (by kernel_rfl) (by kernel_rfl) (fun _ _ _ h => h) (Or.inl ⟨by rfl, ?fy3h1⟩) (by assumption) ?fr3h1
    case fy3h1 => (intro w hSw; (try dsimp only at hSw); go_simp; try with_reducible rfl)
    try simp only [Act.put, List.setIfInBounds_toArray, List.set_cons_zero, List.set_cons_succ]
    refine wpAnyH_take (i := 4) (oi := _) (v := ?fv4h1) (by simp only [List.getElem?_toArray, List.getElem?_cons_zero, List.getElem?_cons_succ]; rfl) (by kernel_rfl) (by kernel_rfl) (by kernel_rfl) (fun _ _ _ h => h) (Or.inl ⟨by rfl, ?fy4h1⟩) (by assumption) ?fr4h1
    case fy4h1 => (intro w hSw; (try dsimp only at hSw); go_simp; try with_reducible rfl)
    try simp only [Act.put, List.setIfInBounds_toArray, List.set_cons_zero, List.set_cons_succ]
    refine wpAnyH_take (i := 5) (oi := _) (v := ?fv5h1) (by simp only [List.getElem?_toArray, List.getElem?_cons_zero, List.getElem?_cons_succ]; rfl) (by kernel_rfl) (by kernel_rfl) (by kernel_rfl) (fun _ _ _ h => h) (Or.inl ⟨by rfl, ?fy5h1⟩) (by assumption) ?fr5h1
    case fy5h1 => (intro w hSw; (try dsimp only at hSw); go_simp; try with_reducible rfl)
    try simp only [Act.put, List.setIfInBounds_toArray, List.set_cons_zero, List.set_cons_succ]
    refine wpAnyH_take (i := 6) (oi := _) (v := ?fv6h1) (by simp only [List.getElem?_toArray, List.getElem?_cons_zero, List.getElem?_cons_succ]; rfl) (by kernel_rfl) (by kernel_rfl) (by kernel_rfl) (fun _ _ _ h => h) (Or.inl ⟨by rfl, ?fy6h1⟩) (by assumption) ?fr6h1
    case fy6h1 => (intro w hSw; (try dsimp only at hSw); go_simp; try with_reducible rfl)
    try simp only [Act.put, List.setIfInBounds_toArray, List.set_cons_zero, List.set_cons_succ]
    refine wpAnyH_take (i := 8) (oi := _) (v := ?fv8h1) (by simp only [List.getElem?_toArray, List.getElem?_cons_zero, List.getElem?_cons_succ]; rfl) (by kernel_rfl) (by kernel_rfl) (by kernel_rfl) (fun _ _ _ h => h) (Or.inl ⟨by rfl, ?fy8h1⟩) (by assumption) ?fr8h1
    case fy8h1 => (intro w hSw; (try dsimp only at hSw); go_simp; try with_reducible rfl)
    try simp only [Act.put, List.setIfInBounds_toArray, List.set_cons_zero, List.set_cons_succ]
    refine wpAnyH_take (i := 9) (oi := _) (v := ?fv9h1) (by simp only [List.getElem?_toArray, List.getElem?_cons_zero, List.getElem?_cons_succ]; rfl) (by kernel_rfl) (by kernel_rfl) (by kernel_rfl) (fun _ _ _ h => h) (Or.inl ⟨by rfl, ?fy9h1⟩) (by assumption) ?fr9h1
    case fy9h1 => (intro w hSw; (try dsimp only at hSw); go_simp; try with_reducible rfl)
    try simp only [Act.put, List.setIfInBounds_toArray, List.set_cons_zero, List.set_cons_succ]
    refine wpAnyH_take (i := 10) (oi := _) (v := ?fv10h1) (by simp only [List.getElem?_toArray, List.getElem?_cons_zero, List.getElem?_cons_succ]; rfl) (by kernel_rfl) (by kernel_rfl) (by kernel_rfl) (fun _ _ _ h => h) (Or.inl ⟨by rfl, ?fy10h1⟩) (by assumption) ?fr10h1
    case fy10h1 => (intro w hSw; (try dsimp only at hSw); go_simp; try with_reducible rfl)
    try simp only [Act.put, List.setIfInBounds_toArray, List.set_cons_zero, List.set_cons_succ]
    refine wpAnyH_ready (rs := [7]) (by kernel_rfl) (by simp) ?_
    refine AllReadyH.cons (o := _) rfl (fun K hK => ?_) AllReadyH.nil
    go_simp
    ((with_reducible refine (HD.out _).mono ?_); rintro e x1 ⟨rfl, rfl⟩)
    go_wp2_with fail
    refine hK.out _ _ ⟨k0, k1⟩ (fun hHeld => ?_)
    clear hK K
    try simp only [Act.put, List.setIfInBounds_toArray, List.set_cons_zero, List.set_cons_succ]
    refine wpAnyH_take (i := 11) (oi := _) (v := ?fv11h1) (by simp only [List.getElem?_toArray, List.getElem?_cons_zero, List.getElem?_cons_succ]; rfl) (by kernel_rfl) (by kernel_rfl) (by kernel_rfl) (fun _ _ _ h => h) (Or.inl ⟨by rfl, ?fy11h1⟩) (by assumption) ?fr11h1
    case fy11h1 => (intro w hSw; (try dsimp only at hSw); go_simp; try with_reducible rfl)
    try simp only [Act.put, List.setIfInBounds_toArray, List.set_cons_zero, List.set_cons_succ]
    refine wpAnyH_ready (rs := [12]) (by kernel_rfl) (by simp) ?_
    refine AllReadyH.cons (o := _) rfl (fun K hK => ?_) AllReadyH.nil
    go_simp
    refine hK.out _ _ ⟨(Fr.setCell _ q _ _ (S := [q]) (by simp)).cell k0 (by simpa using q3), (Fr.setCell _ q _ _ (S := [q]) (by simp)).cell k1 (by simpa using q3)⟩ (fun hHeld => ?_)
    clear hK K
    try simp only [Act.put, List.setIfInBounds_toArray, List.set_cons_zero, List.set_cons_succ]
    refine wpAnyH_done (by kernel_rfl) ?_ _
    refine NoPanic.normal ?_
    clear hHeld
    go_wp2
    go_ret
    exact ⟨rfl, (HS1.out.setL k (129 + j * 2) HKK.out HK2.out false).keep (Fr.drew _ []), ((HF1.out.mono (by simp)).trans (Fr.setCell w1 q (129 + j * 2) (.bool false) (S := [q]) (by simp))).trans (Fr.drew _ [q])⟩
  · have HD := Lib.hid side_up
    have HK2 := Lib.hid (show 129 + j * 2 + 1 = 129 + k by omega)
    clear hkj
    go_enter Tryd.func20, Tryd.ntmps20
    go_wp2_with fail
    refine (rlights_any q s _ _ x _ HS.out hn true hb).mono ?_
    rintro e w1 ⟨rfl, hf⟩
    have HF1 := Lib.hid (HF.out.trans hf)
    have HS1 := Lib.hid (HS.out.keep hf)
    obtain ⟨k0, k1, _⟩ := row3 (hf.heap HX.out (by simp))
    have zl := HS1.out.fz (129 + j * 2 + 1)
    have cl := HS1.out.l k (129 + j * 2 + 1) HKK.out HK2.out
    clear hf
    go_wp2_with fail
    refine wp_region_noPanic ?_
    refine wp_region_held_drew (S := (fun a => a.cell? ⟨w.heap.size, 0, none⟩ = some (.int .i64 (j : Int)) ∧ a.cell? ⟨w.heap.size, 1, none⟩ = some (.int .i64 1))) (by kernel_rfl) ⟨k0, k1⟩ (fun hHeld => ?_)
    refine wpAnyH_take (i := 0) (oi := _) (v := ?fv0h2) (by simp only [List.getElem?_toArray, List.getElem?_cons_zero]; rfl) (by kernel_rfl) (by kernel_rfl) (by kernel_rfl) (fun _ _ _ h => h) (Or.inl ⟨by rfl, ?fy0h2⟩) (by assumption) ?fr0h2
    case fy0h2 => (intro w hSw; (try dsimp only at hSw); go_simp; try with_reducible rfl)
    try simp only [Act.put, List.setIfInBounds_toArray, List.set_cons_zero, List.set_cons_succ]
    refine wpAnyH_take (i := 1) (oi := _) (v := ?fv1h2) (by simp only [List.getElem?_toArray, List.getElem?_cons_zero, List.getElem?_cons_succ]; rfl) (by kernel_rfl) (by kernel_rfl) (by kernel_rfl) (fun _ _ _ h => h) (Or.inl ⟨by rfl, ?fy1h2⟩) (by assumption) ?fr1h2
    case fy1h2 => (intro w hSw; (try dsimp only at hSw); go_simp; try with_reducible rfl)
    try simp only [Act.put, List.setIfInBounds_toArray, List.set_cons_zero, List.set_cons_succ]
    refine wpAnyH_take (i := 2) (oi := _) (v := ?fv2h2) (by simp only [List.getElem?_toArray, List.getElem?_cons_zero, List.getElem?_cons_succ]; rfl) (by kernel_rfl) (by kernel_rfl) (by kernel_rfl) (fun _ _ _ h => h) (Or.inl ⟨by rfl, ?fy2h2⟩) (by assumption) ?fr2h2
    case fy2h2 => (intro w hSw; (try dsimp only at hSw); go_simp; try with_reducible rfl)
    try simp only [Act.put, List.setIfInBounds_toArray, List.set_cons_zero, List.set_cons_succ]
    refine wpAnyH_take (i := 3) (oi := _) (v := ?fv3h2) (by simp only [List.getElem?_toArray, List.getElem?_cons_zero, List.getElem?_cons_succ]; rfl) (by kernel_rfl) (by kernel_rfl) (by kernel_rfl) (fun _ _ _ h => h) (Or.inl ⟨by rfl, ?fy3h2⟩) (by assumption) ?fr3h2
    case fy3h2 => (intro w hSw; (try dsimp only at hSw); go_simp; try with_reducible rfl)
    try simp only [Act.put, List.setIfInBounds_toArray, List.set_cons_zero, List.set_cons_succ]
    refine wpAnyH_take (i := 4) (oi := _) (v := ?fv4h2) (by simp only [List.getElem?_toArray, List.getElem?_cons_zero, List.getElem?_cons_succ]; rfl) (by kernel_rfl) (by kernel_rfl) (by kernel_rfl) (fun _ _ _ h => h) (Or.inl ⟨by rfl, ?fy4h2⟩) (by assumption) ?fr4h2
    case fy4h2 => (intro w hSw; (try dsimp only at hSw); go_simp; try with_reducible rfl)
    try simp only [Act.put, List.setIfInBounds_toArray, List.set_cons_zero, List.set_cons_succ]
    refine wpAnyH_take (i := 5) (oi := _) (v := ?fv5h2) (by simp only [List.getElem?_toArray, List.getElem?_cons_zero, List.getElem?_cons_succ]; rfl) (by kernel_rfl) (by kernel_rfl) (by kernel_rfl) (fun _ _ _ h => h) (Or.inl ⟨by rfl, ?fy5h2⟩) (by assumption) ?fr5h2
    case fy5h2 => (intro w hSw; (try dsimp only at hSw); go_simp; try with_reducible rfl)
    try simp only [Act.put, List.setIfInBounds_toArray, List.set_cons_zero, List.set_cons_succ]
    refine wpAnyH_take (i := 6) (oi := _) (v := ?fv6h2) (by simp only [List.getElem?_toArray, List.getElem?_cons_zero, List.getElem?_cons_succ]; rfl) (by kernel_rfl) (by kernel_rfl) (by kernel_rfl) (fun _ _ _ h => h) (Or.inl ⟨by rfl, ?fy6h2⟩) (by assumption) ?fr6h2
    case fy6h2 => (intro w hSw; (try dsimp only at hSw); go_simp; try with_reducible rfl)
    try simp only [Act.put, List.setIfInBounds_toArray, List.set_cons_zero, List.set_cons_succ]
    refine wpAnyH_take (i := 8) (oi := _) (v := ?fv8h2) (by simp only [List.getElem?_toArray, List.getElem?_cons_zero, List.getElem?_cons_succ]; rfl) (by kernel_rfl) (by kernel_rfl) (by kernel_rfl) (fun _ _ _ h => h) (Or.inl ⟨by rfl, ?fy8h2⟩) (by assumption) ?fr8h2
    case fy8h2 => (intro w hSw; (try dsimp only at hSw); go_simp; try with_reducible rfl)
    try simp only [Act.put, List.setIfInBounds_toArray, List.set_cons_zero, List.set_cons_succ]
    refine wpAnyH_take (i := 9) (oi := _) (v := ?fv9h2) (by simp only [List.getElem?_toArray, List.getElem?_cons_zero, List.getElem?_cons_succ]; rfl) (by kernel_rfl) (by kernel_rfl) (by kernel_rfl) (fun _ _ _ h => h) (Or.inl ⟨by rfl, ?fy9h2⟩) (by assumption) ?fr9h2
    case fy9h2 => (intro w hSw; (try dsimp only at hSw); go_simp; try with_reducible rfl)
    try simp only [Act.put, List.setIfInBounds_toArray, List.set_cons_zero, List.set_cons_succ]
    refine wpAnyH_take (i := 10) (oi := _) (v := ?fv10h2) (by simp only [List.getElem?_toArray, List.getElem?_cons_zero, List.getElem?_cons_succ]; rfl) (by kernel_rfl) (by kernel_rfl) (by kernel_rfl) (fun _ _ _ h => h) (Or.inl ⟨by rfl, ?fy10h2⟩) (by assumption) ?fr10h2
    case fy10h2 => (intro w hSw; (try dsimp only at hSw); go_simp; try with_reducible rfl)
    try simp only [Act.put, List.setIfInBounds_toArray, List.set_cons_zero, List.set_cons_succ]
    refine wpAnyH_ready (rs := [7]) (by kernel_rfl) (by simp) ?_
    refine AllReadyH.cons (o := _) rfl (fun K hK => ?_) AllReadyH.nil
    go_simp
    ((with_reducible refine (HD.out _).mono ?_); rintro e x1 ⟨rfl, rfl⟩)
    go_wp2_with fail
    refine hK.out _ _ ⟨k0, k1⟩ (fun hHeld => ?_)
    clear hK K
    try simp only [Act.put, List.setIfInBounds_toArray, List.set_cons_zero, List.set_cons_succ]
    refine wpAnyH_take (i := 11) (oi := _) (v := ?fv11h2) (by simp only [List.getElem?_toArray, List.getElem?_cons_zero, List.getElem?_cons_succ]; rfl) (by kernel_rfl) (by kernel_rfl) (by kernel_rfl) (fun _ _ _ h => h) (Or.inl ⟨by rfl, ?fy11h2⟩) (by assumption) ?fr11h2
    case fy11h2 => (intro w hSw; (try dsimp only at hSw); go_simp; try with_reducible rfl)
    try simp only [Act.put, List.setIfInBounds_toArray, List.set_cons_zero, List.set_cons_succ]
    refine wpAnyH_ready (rs := [12]) (by kernel_rfl) (by simp) ?_
    refine AllReadyH.cons (o := _) rfl (fun K hK => ?_) AllReadyH.nil
    go_simp
    refine hK.out _ _ ⟨(Fr.setCell _ q _ _ (S := [q]) (by simp)).cell k0 (by simpa using q3), (Fr.setCell _ q _ _ (S := [q]) (by simp)).cell k1 (by simpa using q3)⟩ (fun hHeld => ?_)
    clear hK K
    try simp only [Act.put, List.setIfInBounds_toArray, List.set_cons_zero, List.set_cons_succ]
    refine wpAnyH_done (by kernel_rfl) ?_ _
    refine NoPanic.normal ?_
    clear hHeld
    go_wp2
    go_ret
    exact ⟨rfl, (HS1.out.setL k (129 + j * 2 + 1) HKK.out HK2.out false).keep (Fr.drew _ []), ((HF1.out.mono (by simp)).trans (Fr.setCell w1 q (129 + j * 2 + 1) (.bool false) (S := [q]) (by simp))).trans (Fr.drew _ [q])⟩

theorem row_new3 (w : World) (a b c : Value) (T : TypeId) : ∀ j u, [a, b, c][j]? = some u → (w.alloc (.cells #[a, b, c] T)).cell? (Addr.add ⟨w.heap.size, 0, none⟩ j) = some u := by
  intro j u hu
  have h := heap_alloc_new w (.cells #[a, b, c] T)
  rw [Addr.add_lit, Nat.zero_add, cell_of_row _ _ _ _ _ _ h]
  simpa using hu
theorem la_one (x : La) : ∀ u ∈ x.cl, u.oneCell' = true := by
  intro u hu
  simp [La.cl] at hu
  rcases hu with rfl | rfl | rfl <;> rfl
set_option maxHeartbeats 2000000 in
set_option maxRecDepth 100000 in
theorem rlit_any (q : Nat) (s : RS) (w : World) (hs : Rd w q s) (hn64 : s.n ≤ 64) :
    Calls Tryd.prog 22 #[.pointer (some ⟨q, 0, none⟩)] w (Gives fun u w' => OwnL w' w.heap.size u s.lit ∧ Fr w w' []) := by
  obtain ⟨i0, hi, hz0, hz1, hz2⟩ := info_parts infoL
  have HS := Lib.hid hs
  obtain ⟨n, hn⟩ : ∃ n, s.n = n := ⟨_, rfl⟩
  rw [hn] at hn64
  have HN := Lib.hid hn
  clear hs hn
  go_enter Tryd.func22, Tryd.ntmps22
  go_wp2
  go_loopw [3, 4] (fun a i wr => ∃ k : Nat, k ≤ n ∧ i = .int .i64 k ∧ OwnL wr w.heap.size a (s.litTo (2 * k)) ∧ Fr w wr []) (fun _ i _ => n - (intOf i).toNat)
  case atStart => exact ⟨0, by omega, rfl, OwnL.nil _ _, Fr.refl _ _⟩
  case round =>
    obtain ⟨k, hk, rfl, ho, hf⟩ := hrel
    have O0 := Lib.hid ho
    have F0 := Lib.hid hf
    have c0 := (HS.out.keep hf).n
    rw [HN.out] at c0
    clear ho hf
    by_cases hlt : k < n
    · go_wp2
      go_loopw [3, 5] (fun a i wr => ∃ j : Nat, j ≤ 2 ∧ i = .int .i64 j ∧ OwnL wr w.heap.size a (s.litTo (2 * k + j)) ∧ Fr w wr []) (fun _ i _ => 2 - (intOf i).toNat)
      case atStart => exact ⟨0, by omega, rfl, O0.out, F0.out⟩
      case round =>
        obtain ⟨j, hj, rfl, ho, hf⟩ := hrel
        have O1 := Lib.hid ho
        have F1 := Lib.hid hf
        clear ho hf O0 F0 c0
        by_cases hlt2 : j < 2
        · obtain ⟨m, hm⟩ : ∃ m, m = 2 * k + j := ⟨_, rfl⟩
          have hk64 : (k : Int) < 64 := by omega
          rw [← hm] at O1
          have HSJ := Lib.hid (show s.litTo (2 * k + (j + 1)) = s.litTo (m + 1) by rw [hm]; rfl)
          have HLA := Lib.hid (show s.la m = ⟨(k : Int), 2 * (j : Int) - 1, s.G m⟩ by
            unfold RS.la
            rw [show (m / 2 : Nat) = k by omega, show (m % 2 : Nat) = j by omega])
          have c1 := (HS.out.keep F1.out).l m (129 + k * 2 + j) (by omega) (by omega)
          have c2 := (HS.out.keep F1.out).g m (1 + k * 2 + j) (by omega) (by omega)
          have HLEN := Lib.hid (show (s.litTo m).length ≤ 128 from Nat.le_trans (s.litTo_len m) (by omega))
          clear hm
          cases hl : s.L m with
          | false =>
            have HL := Lib.hid (s.litTo_no m hl)
            rw [hl] at c1
            clear hl
            go_wp2
            go_roundw
            case rel => exact ⟨j + 1, by omega, by go_num, by rw [HSJ.out, HL.out]; exact O1.out, F1.out⟩
            case measure => simp [intOf]; omega
          | true =>
            have HL := Lib.hid (s.litTo_yes m hl)
            rw [hl] at c1
            obtain ⟨g, hg⟩ : ∃ g, g = s.G m := ⟨_, rfl⟩
            rw [← hg] at c2
            have HG := Lib.hid hg
            clear hl hg
            go_wp2_with (at_builtin; refine wpList_append_own _ rfl _ _ 38 rfl w.heap.size 32 i0 (.agg #[.int .i64 0, .int .i64 0, .int .i64 0]) 3 24 Tryd.underlying38 hi hz0 hz1 hz2 rfl (by decide) _ _ _ rfl (World.ownsRow.alloc O1.out _) ⟨wr.heap.size, 0, none⟩ 1 1 (La.cl ⟨(k : Int), 2 * (j : Int) - 1, g⟩) rfl rfl (row_new3 _ _ _ _ _) (la_one _) (by have := HLEN.out; unfold maxLen; omega) (by have := HLEN.out; omega) (by have := F1.out.size; simp; omega) ?_; intro v' w3 hown3 hg3 _)
            have F3 := Lib.hid ((F1.out.trans (Fr.alloc wr (.cells #[.int .i64 (k : Int), .int .i64 (2 * (j : Int) - 1), .int .i64 g] 32) [])).grown_own hg3 (fun r hr => .inr (O1.out.block r hr).1))
            have O3 := Lib.hid (OwnL.snoc hown3)
            clear hown3 hg3
            go_wp2
            go_roundw
            case rel => exact ⟨j + 1, by omega, by go_num, by rw [HSJ.out, HL.out, HLA.out, ← HG.out]; exact O3.out, F3.out⟩
            case measure => simp [intOf]; omega
        · obtain rfl : j = 2 := by omega
          have O2 := O1.out
          rw [show 2 * k + 2 = 2 * (k + 1) by omega] at O2
          have O3 := Lib.hid O2
          clear O2 O1
          go_wp2
          go_roundw
          case rel => exact ⟨k + 1, by omega, by go_num, O3.out, F1.out⟩
          case measure => simp [intOf]; omega
    · obtain rfl : k = n := by omega
      have O1 := O0.out
      rw [show s.litTo (2 * k) = s.lit by unfold RS.lit; rw [HN.out]] at O1
      have HE := Lib.hid O1
      clear O1
      go_wp2
      go_ret
      exact gives ⟨HE.out, F0.out⟩
end Go.Proofs.YtndjmpjgahmnoaaDoor
