/- Of any door: the package says what the document's door says. -/
import Derived.Test.YtecbjfmdlaajdaaDRef
import Derived.Test.YtecbjfmdlaajdaaDFirst
namespace Go.Proofs.Ytecbjfmdlaajdaa
open Go.RowKit

/-- The cells of the five boxes, in a world that came of W. -/
def DS (W : World) (b0 b1 b2 b3 b4 : Nat) (l h r x y : Int) (a : World) : Prop := Fr W a [] ∧
  (a.cell? ⟨b0, 0, none⟩ = some (.int .i64 l) ∧ a.cell? ⟨b0, 1, none⟩ = some (.int .i64 h)) ∧
  (a.cell? ⟨b1, 0, none⟩ = some (.int .i64 r) ∧ a.cell? ⟨b1, 1, none⟩ = some (.int .i64 0)) ∧
  (a.cell? ⟨b2, 0, none⟩ = some (.int .i64 r) ∧ a.cell? ⟨b2, 1, none⟩ = some (.int .i64 0)) ∧
  (a.cell? ⟨b3, 0, none⟩ = some (.int .i64 x) ∧ a.cell? ⟨b3, 1, none⟩ = some (.int .i64 y)) ∧
  a.cell? ⟨b4, 0, none⟩ = some (.int .i64 x) ∧ a.cell? ⟨b4, 1, none⟩ = some (.int .i64 y)
theorem DS.fr {W : World} {b0 b1 b2 b3 b4 : Nat} {l h r x y : Int} {a a' : World} (q : DS W b0 b1 b2 b3 b4 l h r x y a) (k : Fr a a' []) : DS W b0 b1 b2 b3 b4 l h r x y a' := by
  obtain ⟨h0, ⟨h1, h2⟩, ⟨h3, h4⟩, ⟨h5, h6⟩, ⟨h7, h8⟩, h9, h10⟩ := q
  exact ⟨h0.trans k, ⟨k.cell h1 (by simp), k.cell h2 (by simp)⟩, ⟨k.cell h3 (by simp), k.cell h4 (by simp)⟩, ⟨k.cell h5 (by simp), k.cell h6 (by simp)⟩, ⟨k.cell h7 (by simp), k.cell h8 (by simp)⟩, k.cell h9 (by simp), k.cell h10 (by simp)⟩
/-- A row, some calls later. -/
theorem up {a b : World} {k : Nat} {o : Obj} (h : a.heap[k]? = some o) (hf : Fr a b []) : b.heap[k]? = some o := hf.heap h (by simp)

set_option maxRecDepth 100000 in
theorem says_out (n l h : Int) (o : Bool) (w : World) (hc : 1099511627776 < n ∨ n < -1099511627776 ∨ 1125899906842624 < h ∨ h < -1125899906842624) :
    Calls Try.prog 4 #[.int .i64 n, dv l h, .bool o] w fun e w' => e = .returned (.bool true) ∧ Fr w w' [] := by
  have FA := Lib.hid (Fr.alloc w (dbox 25 l h) [])
  have HN := Lib.hid (heap_alloc_new w (dbox 25 l h))
  dsimp only [dv, dbox] at *
  by_cases h1 : 1099511627776 < n
  · clear hc
    go_enter Try.func4, Try.ntmps4
    go_wp2_with fail
    with_reducible refine (first_any _).mono ?_
    rintro e w1 ⟨rfl, hf⟩
    have F1 := Lib.hid (FA.out.trans hf)
    obtain ⟨c0, c1⟩ := drow (up HN.out hf)
    clear hf
    go_wp2
    go_ret
    exact ⟨rfl, F1.out⟩
  · by_cases h2 : n < -1099511627776
    · clear hc
      go_enter Try.func4, Try.ntmps4
      go_wp2_with fail
      with_reducible refine (first_any _).mono ?_
      rintro e w1 ⟨rfl, hf⟩
      have F1 := Lib.hid (FA.out.trans hf)
      obtain ⟨c0, c1⟩ := drow (up HN.out hf)
      clear hf
      go_wp2
      go_ret
      exact ⟨rfl, F1.out⟩
    · by_cases h3 : 1125899906842624 < h
      · clear hc
        go_enter Try.func4, Try.ntmps4
        go_wp2_with fail
        with_reducible refine (first_any _).mono ?_
        rintro e w1 ⟨rfl, hf⟩
        have F1 := Lib.hid (FA.out.trans hf)
        obtain ⟨c0, c1⟩ := drow (up HN.out hf)
        clear hf
        go_wp2
        go_ret
        exact ⟨rfl, F1.out⟩
      · have h4 : h < -1125899906842624 := by omega
        clear hc
        go_enter Try.func4, Try.ntmps4
        go_wp2_with fail
        with_reducible refine (first_any _).mono ?_
        rintro e w1 ⟨rfl, hf⟩
        have F1 := Lib.hid (FA.out.trans hf)
        obtain ⟨c0, c1⟩ := drow (up HN.out hf)
        clear hf
        go_wp2
        go_ret
        exact ⟨rfl, F1.out⟩

set_option maxHeartbeats 2000000 in
set_option maxRecDepth 100000 in
theorem says_in (n l h : Int) (o : Bool) (w : World) (hl : l ≤ 9223372036854775807) (h1 : ¬ 1099511627776 < n) (h2 : ¬ n < -1099511627776) (h3 : ¬ 1125899906842624 < h) (h4 : ¬ h < -1125899906842624) :
    Calls Try.prog 4 #[.int .i64 n, dv l h, .bool o] w fun e w' => e = .returned (.bool true) ∧ Fr w w' [] := by
  have FA := Lib.hid (Fr.alloc w (dbox 25 l h) [])
  have HN := Lib.hid (heap_alloc_new w (dbox 25 l h))
  obtain ⟨r, hr⟩ : ∃ r, min (max n 1) 8 = r := ⟨_, rfl⟩
  obtain ⟨x, hx⟩ : ∃ x, x = tickL l o := ⟨_, rfl⟩
  obtain ⟨y, hy⟩ : ∃ y, y = tickH l h o := ⟨_, rfl⟩
  obtain ⟨b, hb⟩ : ∃ b, b = tickB l o := ⟨_, rfl⟩
  obtain ⟨s, hs⟩ : ∃ s, s = decide (0 < l ∧ 3 * n < h) := ⟨_, rfl⟩
  have O1 := Lib.hid (fun W => open_any n W r hr)
  have O2 := Lib.hid (fun W => ropen_any n W r hr)
  have T1 := Lib.hid (fun W => tick_any l h o W x y b hx hy hb (by omega) (by omega) hl)
  have T2 := Lib.hid (fun W => rtick_any l h o W x y b hx hy hb (by omega) (by omega) hl)
  have IZ := Lib.hid (fun W => is_any l h W (decide (0 < l)) rfl)
  have K1 := Lib.hid (fun W => stuck_any l h n W s hs (by omega) (by omega))
  have K2 := Lib.hid (fun W => rstuck_any l h n W s hs (by omega) (by omega))
  clear hr hx hy hb hs hl
  have k1 : (r == r) = true := by simp
  have k2 : (x == x) = true := by simp
  have k3 : (y == y) = true := by simp
  have k4 : (b == b) = true := by simp
  have k5 : (s == s) = true := by simp
  have k6 : (decide (0 < l) == decide (0 < l)) = true := by simp
  dsimp only [dv, dbox] at *
  go_enter Try.func4, Try.ntmps4
  go_wp2_with fail
  with_reducible refine (first_any _).mono ?_
  rintro e w1 ⟨rfl, hf⟩
  have F1 := Lib.hid (FA.out.trans hf)
  have B1 := Lib.hid (up HN.out hf)
  obtain ⟨c0, c1⟩ := drow B1.out
  clear hf
  go_wp2_with fail
  with_reducible refine (O1.out _).mono ?_
  rintro e w2 ⟨rfl, hf⟩
  clear h1 h2 h3 h4 c0 c1
  have fa := hf.trans (Fr.alloc w2 (dbox 25 r 0) [])
  have F2 := Lib.hid (F1.out.trans fa)
  have B2 := Lib.hid (up B1.out fa)
  have C2 := Lib.hid (heap_alloc_new w2 (dbox 25 r 0))
  dsimp only [dbox] at F2 B2 C2
  clear hf fa
  go_wp2_with fail
  with_reducible refine (O2.out _).mono ?_
  rintro e w3 ⟨rfl, hf⟩
  have fa := hf.trans (Fr.alloc w3 (dbox 31 r 0) [])
  have F3 := Lib.hid (F2.out.trans fa)
  have B3 := Lib.hid (up B2.out fa)
  have C3 := Lib.hid (up C2.out fa)
  have D3 := Lib.hid (heap_alloc_new w3 (dbox 31 r 0))
  dsimp only [dbox] at F3 B3 C3 D3
  obtain ⟨c0, c1⟩ := drow B3.out
  clear hf fa
  go_wp2_with fail
  with_reducible refine (T1.out _).mono ?_
  rintro e w4 ⟨rfl, hf⟩
  have fa := hf.trans (Fr.alloc w4 (dbox 25 x y) [])
  have F4 := Lib.hid (F3.out.trans fa)
  have B4 := Lib.hid (up B3.out fa)
  have C4 := Lib.hid (up C3.out fa)
  have D4 := Lib.hid (up D3.out fa)
  have E4 := Lib.hid (heap_alloc_new w4 (dbox 25 x y))
  dsimp only [dbox] at F4 B4 C4 D4 E4
  clear hf fa c0 c1
  obtain ⟨c0, c1⟩ := drow B4.out
  go_wp2_with fail
  with_reducible refine (T2.out _).mono ?_
  rintro e w5 ⟨rfl, hf⟩
  have fa := (hf.trans (Fr.alloc w5 (dbox 31 x y) [])).trans (Fr.drew _ [])
  have G := up (heap_alloc_new w5 (dbox 31 x y)) (Fr.drew _ [])
  have H5 := Lib.hid (show DS w w.heap.size w2.heap.size w3.heap.size w4.heap.size w5.heap.size l h r x y _ from
    ⟨F4.out.trans fa, drow (up B4.out fa), drow (up C4.out fa), drow (up D4.out fa), drow (up E4.out fa), drow G⟩)
  dsimp only [dbox] at H5
  clear hf fa G c0 c1
  go_wp2
  refine wp_region_det (S := DS w w.heap.size w2.heap.size w3.heap.size w4.heap.size w5.heap.size l h r x y) (by kernel_rfl) H5.out ?_
  refine wpDet_take (i := 0) (oi := _) (v := ?dv1) (by simp only [List.getElem?_toArray, List.getElem?_cons_zero]; rfl) (by kernel_rfl) (by kernel_rfl) (by kernel_rfl) (Or.inl ⟨by rfl, ?dy1⟩) ?dr1
  case dy1 => (intro w hSw; have hS0 := hSw; (try dsimp only [DS] at hSw); go_simp; refine Came.value ?_ hS0; with_reducible rfl)
  try simp only [Act.put, List.setIfInBounds_toArray, List.set_cons_zero, List.set_cons_succ]
  refine wpDet_take (i := 1) (oi := _) (v := ?dv2) (by simp only [List.getElem?_toArray, List.getElem?_cons_zero, List.getElem?_cons_succ]; rfl) (by kernel_rfl) (by kernel_rfl) (by kernel_rfl) (Or.inl ⟨by rfl, ?dy2⟩) ?dr2
  case dy2 => (intro w hSw; have hS0 := hSw; (try dsimp only [DS] at hSw); go_simp; refine Came.value ?_ hS0; with_reducible rfl)
  try simp only [Act.put, List.setIfInBounds_toArray, List.set_cons_zero, List.set_cons_succ]
  refine wpDet_take (i := 2) (oi := _) (v := ?dv3) (by simp only [List.getElem?_toArray, List.getElem?_cons_zero, List.getElem?_cons_succ]; rfl) (by kernel_rfl) (by kernel_rfl) (by kernel_rfl) (Or.inl ⟨by rfl, ?dy3⟩) ?dr3
  case dy3 => (intro w hSw; have hS0 := hSw; (try dsimp only [DS] at hSw); go_simp; refine Came.value ?_ hS0; with_reducible rfl)
  try simp only [Act.put, List.setIfInBounds_toArray, List.set_cons_zero, List.set_cons_succ]
  refine wpDet_take (i := 3) (oi := _) (v := ?dv4) (by simp only [List.getElem?_toArray, List.getElem?_cons_zero, List.getElem?_cons_succ]; rfl) (by kernel_rfl) (by kernel_rfl) (by kernel_rfl) (Or.inl ⟨by rfl, ?dy4⟩) ?dr4
  case dy4 => (intro w hSw; have hS0 := hSw; (try dsimp only [DS] at hSw); go_simp; refine Came.value ?_ hS0; with_reducible rfl)
  try simp only [Act.put, List.setIfInBounds_toArray, List.set_cons_zero, List.set_cons_succ]
  refine wpDet_take (i := 4) (oi := _) (v := ?dv5) (by simp only [List.getElem?_toArray, List.getElem?_cons_zero, List.getElem?_cons_succ]; rfl) (by kernel_rfl) (by kernel_rfl) (by kernel_rfl) (Or.inl ⟨by rfl, ?dy5⟩) ?dr5
  case dy5 => (intro w hSw; have hS0 := hSw; (try dsimp only [DS] at hSw); go_simp; refine Came.value ?_ hS0; with_reducible rfl)
  try simp only [Act.put, List.setIfInBounds_toArray, List.set_cons_zero, List.set_cons_succ]
  refine wpDet_take (i := 5) (oi := _) (v := ?dv6) (by simp only [List.getElem?_toArray, List.getElem?_cons_zero, List.getElem?_cons_succ]; rfl) (by kernel_rfl) (by kernel_rfl) (by kernel_rfl) (Or.inl ⟨by rfl, ?dy6⟩) ?dr6
  case dy6 => (intro w hSw; have hS0 := hSw; (try dsimp only [DS] at hSw); go_simp; refine Came.value ?_ hS0; with_reducible rfl)
  try simp only [Act.put, List.setIfInBounds_toArray, List.set_cons_zero, List.set_cons_succ]
  refine wpDet_take (i := 6) (oi := _) (v := ?dv7) (by simp only [List.getElem?_toArray, List.getElem?_cons_zero, List.getElem?_cons_succ]; rfl) (by kernel_rfl) (by kernel_rfl) (by kernel_rfl) (Or.inl ⟨by rfl, ?dy7⟩) ?dr7
  case dy7 => (intro w hSw; have hS0 := hSw; (try dsimp only [DS] at hSw); go_simp; refine Came.value ?_ hS0; with_reducible rfl)
  try simp only [Act.put, List.setIfInBounds_toArray, List.set_cons_zero, List.set_cons_succ]
  refine wpDet_take (i := 7) (oi := _) (v := ?dv8) (by simp only [List.getElem?_toArray, List.getElem?_cons_zero, List.getElem?_cons_succ]; rfl) (by kernel_rfl) (by kernel_rfl) (by kernel_rfl) (Or.inl ⟨by rfl, ?dy8⟩) ?dr8
  case dy8 => (intro w hSw; have hS0 := hSw; (try dsimp only [DS] at hSw); go_simp; refine Came.value ?_ hS0; with_reducible rfl)
  try simp only [Act.put, List.setIfInBounds_toArray, List.set_cons_zero, List.set_cons_succ]
  refine wpDet_take (i := 8) (oi := _) (v := ?dv9) (by simp only [List.getElem?_toArray, List.getElem?_cons_zero, List.getElem?_cons_succ]; rfl) (by kernel_rfl) (by kernel_rfl) (by kernel_rfl) (Or.inl ⟨by rfl, ?dy9⟩) ?dr9
  case dy9 => (intro w hSw; have hS0 := hSw; (try dsimp only [DS] at hSw); go_simp; refine Came.value ?_ hS0; with_reducible rfl)
  try simp only [Act.put, List.setIfInBounds_toArray, List.set_cons_zero, List.set_cons_succ]
  refine wpDet_take (i := 9) (oi := _) (v := ?dv10) (by simp only [List.getElem?_toArray, List.getElem?_cons_zero, List.getElem?_cons_succ]; rfl) (by kernel_rfl) (by kernel_rfl) (by kernel_rfl) (Or.inl ⟨by rfl, ?dy10⟩) ?dr10
  case dy10 => (intro w hSw; have hS0 := hSw; (try dsimp only [DS] at hSw); go_simp; refine Came.value ?_ hS0; with_reducible rfl)
  try simp only [Act.put, List.setIfInBounds_toArray, List.set_cons_zero, List.set_cons_succ]
  refine wpDet_take (i := 10) (oi := _) (v := ?dv11) (by simp only [List.getElem?_toArray, List.getElem?_cons_zero, List.getElem?_cons_succ]; rfl) (by kernel_rfl) (by kernel_rfl) (by kernel_rfl) (Or.inl ⟨by rfl, ?dy11⟩) ?dr11
  case dy11 => (intro w hSw; have hS0 := hSw; (try dsimp only [DS] at hSw); go_simp; refine Came.value ?_ hS0; with_reducible rfl)
  try simp only [Act.put, List.setIfInBounds_toArray, List.set_cons_zero, List.set_cons_succ]
  refine wpDet_take (i := 11) (oi := _) (v := ?dv12) (by simp only [List.getElem?_toArray, List.getElem?_cons_zero, List.getElem?_cons_succ]; rfl) (by kernel_rfl) (by kernel_rfl) (by kernel_rfl) (Or.inl ⟨by rfl, ?dy12⟩) ?dr12
  case dy12 => (intro w hSw; have hS0 := hSw; (try dsimp only [DS] at hSw); go_simp; refine Came.value ?_ hS0; with_reducible rfl)
  try simp only [Act.put, List.setIfInBounds_toArray, List.set_cons_zero, List.set_cons_succ]
  refine wpDet_take (i := 12) (oi := _) (v := ?dv13) (by simp only [List.getElem?_toArray, List.getElem?_cons_zero, List.getElem?_cons_succ]; rfl) (by kernel_rfl) (by kernel_rfl) (by kernel_rfl) (Or.inl ⟨by rfl, ?dy13⟩) ?dr13
  case dy13 => (intro w hSw; have hS0 := hSw; (try dsimp only [DS] at hSw); go_simp; refine Came.value ?_ hS0; with_reducible rfl)
  try simp only [Act.put, List.setIfInBounds_toArray, List.set_cons_zero, List.set_cons_succ]
  refine wpDet_take (i := 13) (oi := _) (v := ?dv14) (by simp only [List.getElem?_toArray, List.getElem?_cons_zero, List.getElem?_cons_succ]; rfl) (by kernel_rfl) (by kernel_rfl) (by kernel_rfl) (Or.inl ⟨by rfl, ?dy14⟩) ?dr14
  case dy14 => (intro w hSw; have hS0 := hSw; (try dsimp only [DS] at hSw); go_simp; refine Came.value ?_ hS0; with_reducible rfl)
  try simp only [Act.put, List.setIfInBounds_toArray, List.set_cons_zero, List.set_cons_succ]
  refine wpDet_take (i := 14) (oi := _) (v := ?dv15) (by simp only [List.getElem?_toArray, List.getElem?_cons_zero, List.getElem?_cons_succ]; rfl) (by kernel_rfl) (by kernel_rfl) (by kernel_rfl) (Or.inl ⟨by rfl, ?dy15⟩) ?dr15
  case dy15 => (intro w hSw; have hS0 := hSw; (try dsimp only [DS] at hSw); go_simp; refine Came.value ?_ hS0; with_reducible rfl)
  try simp only [Act.put, List.setIfInBounds_toArray, List.set_cons_zero, List.set_cons_succ]
  refine wpDet_take (i := 15) (oi := _) (v := ?dv16) (by simp only [List.getElem?_toArray, List.getElem?_cons_zero, List.getElem?_cons_succ]; rfl) (by kernel_rfl) (by kernel_rfl) (by kernel_rfl) (Or.inl ⟨by rfl, ?dy16⟩) ?dr16
  case dy16 => (intro w hSw; have hS0 := hSw; (try dsimp only [DS] at hSw); go_simp; refine Came.value ?_ hS0; with_reducible rfl)
  try simp only [Act.put, List.setIfInBounds_toArray, List.set_cons_zero, List.set_cons_succ]
  refine wpDet_take (i := 16) (oi := _) (v := ?dv17) (by simp only [List.getElem?_toArray, List.getElem?_cons_zero, List.getElem?_cons_succ]; rfl) (by kernel_rfl) (by kernel_rfl) (by kernel_rfl) (Or.inl ⟨by rfl, ?dy17⟩) ?dr17
  case dy17 => (intro w hSw; have hS0 := hSw; (try dsimp only [DS] at hSw); go_simp; refine Came.value ?_ hS0; with_reducible rfl)
  try simp only [Act.put, List.setIfInBounds_toArray, List.set_cons_zero, List.set_cons_succ]
  refine wpDet_take (i := 17) (oi := _) (v := ?dv18) (by simp only [List.getElem?_toArray, List.getElem?_cons_zero, List.getElem?_cons_succ]; rfl) (by kernel_rfl) (by kernel_rfl) (by kernel_rfl) (Or.inl ⟨by rfl, ?dy18⟩) ?dr18
  case dy18 => (intro w hSw; have hS0 := hSw; (try dsimp only [DS] at hSw); go_simp; refine Came.value ?_ hS0; with_reducible rfl)
  try simp only [Act.put, List.setIfInBounds_toArray, List.set_cons_zero, List.set_cons_succ]
  refine wpDet_take (i := 18) (oi := _) (v := ?dv19) (by simp only [List.getElem?_toArray, List.getElem?_cons_zero, List.getElem?_cons_succ]; rfl) (by kernel_rfl) (by kernel_rfl) (by kernel_rfl) (Or.inl ⟨by rfl, ?dy19⟩) ?dr19
  case dy19 => (intro w hSw; have hS0 := hSw; (try dsimp only [DS] at hSw); go_simp; refine Came.value ?_ hS0; with_reducible rfl)
  try simp only [Act.put, List.setIfInBounds_toArray, List.set_cons_zero, List.set_cons_succ]
  refine wpDet_take (i := 19) (oi := _) (v := ?dv20) (by simp only [List.getElem?_toArray, List.getElem?_cons_zero, List.getElem?_cons_succ]; rfl) (by kernel_rfl) (by kernel_rfl) (by kernel_rfl) (Or.inl ⟨by rfl, ?dy20⟩) ?dr20
  case dy20 => (intro w hSw; have hS0 := hSw; (try dsimp only [DS] at hSw); go_simp; refine Came.value ?_ hS0; with_reducible rfl)
  try simp only [Act.put, List.setIfInBounds_toArray, List.set_cons_zero, List.set_cons_succ]
  refine wpDet_take (i := 20) (oi := _) (v := ?dv21) (by simp only [List.getElem?_toArray, List.getElem?_cons_zero, List.getElem?_cons_succ]; rfl) (by kernel_rfl) (by kernel_rfl) (by kernel_rfl) (Or.inl ⟨by rfl, ?dy21⟩) ?dr21
  case dy21 => (intro w hSw; have hS0 := hSw; (try dsimp only [DS] at hSw); go_simp; refine Came.value ?_ hS0; with_reducible rfl)
  try simp only [Act.put, List.setIfInBounds_toArray, List.set_cons_zero, List.set_cons_succ]
  refine wpDet_take (i := 21) (oi := _) (v := ?dv22) (by simp only [List.getElem?_toArray, List.getElem?_cons_zero, List.getElem?_cons_succ]; rfl) (by kernel_rfl) (by kernel_rfl) (by kernel_rfl) (Or.inl ⟨by rfl, ?dy22⟩) ?dr22
  case dy22 => (intro w hSw; have hS0 := hSw; (try dsimp only [DS] at hSw); go_simp; refine Came.value ?_ hS0; with_reducible rfl)
  try simp only [Act.put, List.setIfInBounds_toArray, List.set_cons_zero, List.set_cons_succ]
  refine wpDet_take (i := 22) (oi := _) (v := ?dv23) (by simp only [List.getElem?_toArray, List.getElem?_cons_zero, List.getElem?_cons_succ]; rfl) (by kernel_rfl) (by kernel_rfl) (by kernel_rfl) (Or.inl ⟨by rfl, ?dy23⟩) ?dr23
  case dy23 => (intro w hSw; have hS0 := hSw; (try dsimp only [DS] at hSw); go_simp; refine Came.value ?_ hS0; with_reducible rfl)
  try simp only [Act.put, List.setIfInBounds_toArray, List.set_cons_zero, List.set_cons_succ]
  refine wpDet_take (i := 23) (oi := _) (v := ?dv24) (by simp only [List.getElem?_toArray, List.getElem?_cons_zero, List.getElem?_cons_succ]; rfl) (by kernel_rfl) (by kernel_rfl) (by kernel_rfl) (Or.inl ⟨by rfl, ?dy24⟩) ?dr24
  case dy24 => (intro w hSw; have hS0 := hSw; (try dsimp only [DS] at hSw); go_simp; refine Came.value ?_ hS0; with_reducible rfl)
  try simp only [Act.put, List.setIfInBounds_toArray, List.set_cons_zero, List.set_cons_succ]
  refine wpDet_take (i := 24) (oi := _) (v := ?dv25) (by simp only [List.getElem?_toArray, List.getElem?_cons_zero, List.getElem?_cons_succ]; rfl) (by kernel_rfl) (by kernel_rfl) (by kernel_rfl) (Or.inl ⟨by rfl, ?dy25⟩) ?dr25
  case dy25 => (intro w hSw; have hS0 := hSw; (try dsimp only [DS] at hSw); go_simp; refine Came.value ?_ hS0; with_reducible rfl)
  try simp only [Act.put, List.setIfInBounds_toArray, List.set_cons_zero, List.set_cons_succ]
  refine wpDet_take (i := 25) (oi := _) (v := ?dv26) (by simp only [List.getElem?_toArray, List.getElem?_cons_zero, List.getElem?_cons_succ]; rfl) (by kernel_rfl) (by kernel_rfl) (by kernel_rfl) (Or.inl ⟨by rfl, ?dy26⟩) ?dr26
  case dy26 => (intro w hSw; have hS0 := hSw; (try dsimp only [DS] at hSw); go_simp; refine Came.value ?_ hS0; with_reducible rfl)
  try simp only [Act.put, List.setIfInBounds_toArray, List.set_cons_zero, List.set_cons_succ]
  refine wpDet_take (i := 26) (oi := _) (v := ?dv27) (by simp only [List.getElem?_toArray, List.getElem?_cons_zero, List.getElem?_cons_succ]; rfl) (by kernel_rfl) (by kernel_rfl) (by kernel_rfl) (Or.inl ⟨by rfl, ?dy27⟩) ?dr27
  case dy27 => (intro w hSw; have hS0 := hSw; (try dsimp only [DS] at hSw); go_simp; refine Came.value ?_ hS0; with_reducible rfl)
  try simp only [Act.put, List.setIfInBounds_toArray, List.set_cons_zero, List.set_cons_succ]
  refine wpDet_take (i := 27) (oi := _) (v := ?dv28) (by simp only [List.getElem?_toArray, List.getElem?_cons_zero, List.getElem?_cons_succ]; rfl) (by kernel_rfl) (by kernel_rfl) (by kernel_rfl) (Or.inl ⟨by rfl, ?dy28⟩) ?dr28
  case dy28 => (intro w hSw; have hS0 := hSw; (try dsimp only [DS] at hSw); go_simp; refine Came.value ?_ hS0; with_reducible rfl)
  try simp only [Act.put, List.setIfInBounds_toArray, List.set_cons_zero, List.set_cons_succ]
  refine wpDet_take (i := 28) (oi := _) (v := ?dv29) (by simp only [List.getElem?_toArray, List.getElem?_cons_zero, List.getElem?_cons_succ]; rfl) (by kernel_rfl) (by kernel_rfl) (by kernel_rfl) (Or.inl ⟨by rfl, ?dy29⟩) ?dr29
  case dy29 => (intro w hSw; have hS0 := hSw; (try dsimp only [DS] at hSw); go_simp; refine Came.value ?_ hS0; with_reducible rfl)
  try simp only [Act.put, List.setIfInBounds_toArray, List.set_cons_zero, List.set_cons_succ]
  refine wpDet_take (i := 29) (oi := _) (v := ?dv30) (by simp only [List.getElem?_toArray, List.getElem?_cons_zero, List.getElem?_cons_succ]; rfl) (by kernel_rfl) (by kernel_rfl) (by kernel_rfl) (Or.inl ⟨by rfl, ?dy30⟩) ?dr30
  case dy30 => (intro w hSw; have hS0 := hSw; (try dsimp only [DS] at hSw); go_simp; refine Came.value ?_ hS0; with_reducible rfl)
  try simp only [Act.put, List.setIfInBounds_toArray, List.set_cons_zero, List.set_cons_succ]
  refine wpDet_take (i := 30) (oi := _) (v := ?dv31) (by simp only [List.getElem?_toArray, List.getElem?_cons_zero, List.getElem?_cons_succ]; rfl) (by kernel_rfl) (by kernel_rfl) (by kernel_rfl) (Or.inl ⟨by rfl, ?dy31⟩) ?dr31
  case dy31 => (intro w hSw; have hS0 := hSw; (try dsimp only [DS] at hSw); go_simp; refine Came.value ?_ hS0; with_reducible rfl)
  try simp only [Act.put, List.setIfInBounds_toArray, List.set_cons_zero, List.set_cons_succ]
  refine wpDet_take (i := 31) (oi := _) (v := ?dv32) (by simp only [List.getElem?_toArray, List.getElem?_cons_zero, List.getElem?_cons_succ]; rfl) (by kernel_rfl) (by kernel_rfl) (by kernel_rfl) (Or.inl ⟨by rfl, ?dy32⟩) ?dr32
  case dy32 => (intro w hSw; have hS0 := hSw; (try dsimp only [DS] at hSw); go_simp; refine Came.value ?_ hS0; with_reducible rfl)
  try simp only [Act.put, List.setIfInBounds_toArray, List.set_cons_zero, List.set_cons_succ]
  refine wpDet_take (i := 32) (oi := _) (v := ?dv33) (by simp only [List.getElem?_toArray, List.getElem?_cons_zero, List.getElem?_cons_succ]; rfl) (by kernel_rfl) (by kernel_rfl) (by kernel_rfl) (Or.inl ⟨by rfl, ?dy33⟩) ?dr33
  case dy33 => (intro w hSw; have hS0 := hSw; (try dsimp only [DS] at hSw); go_simp; refine Came.value ?_ hS0; with_reducible rfl)
  try simp only [Act.put, List.setIfInBounds_toArray, List.set_cons_zero, List.set_cons_succ]
  refine wpDet_take (i := 33) (oi := _) (v := ?dv34) (by simp only [List.getElem?_toArray, List.getElem?_cons_zero, List.getElem?_cons_succ]; rfl) (by kernel_rfl) (by kernel_rfl) (by kernel_rfl) (Or.inl ⟨by rfl, ?dy34⟩) ?dr34
  case dy34 => (intro w hSw; have hS0 := hSw; (try dsimp only [DS] at hSw); go_simp; refine Came.value ?_ hS0; with_reducible rfl)
  try simp only [Act.put, List.setIfInBounds_toArray, List.set_cons_zero, List.set_cons_succ]
  refine wpDet_take (i := 34) (oi := _) (v := ?dv35) (by simp only [List.getElem?_toArray, List.getElem?_cons_zero, List.getElem?_cons_succ]; rfl) (by kernel_rfl) (by kernel_rfl) (by kernel_rfl) (Or.inl ⟨by rfl, ?dy35⟩) ?dr35
  case dy35 => (intro w hSw; go_simp; exact Came.call ((IZ.out w).mono fun e w' ⟨he, hf⟩ => ⟨he, hSw.fr hf⟩) (by with_reducible rfl))
  try simp only [Act.put, List.setIfInBounds_toArray, List.set_cons_zero, List.set_cons_succ]
  refine wpDet_take (i := 35) (oi := _) (v := ?dv36) (by simp only [List.getElem?_toArray, List.getElem?_cons_zero, List.getElem?_cons_succ]; rfl) (by kernel_rfl) (by kernel_rfl) (by kernel_rfl) (Or.inl ⟨by rfl, ?dy36⟩) ?dr36
  case dy36 => (intro w hSw; have hS0 := hSw; (try dsimp only [DS] at hSw); go_simp; refine Came.value ?_ hS0; with_reducible rfl)
  try simp only [Act.put, List.setIfInBounds_toArray, List.set_cons_zero, List.set_cons_succ]
  refine wpDet_take (i := 36) (oi := _) (v := ?dv37) (by simp only [List.getElem?_toArray, List.getElem?_cons_zero, List.getElem?_cons_succ]; rfl) (by kernel_rfl) (by kernel_rfl) (by kernel_rfl) (Or.inl ⟨by rfl, ?dy37⟩) ?dr37
  case dy37 => (intro w hSw; have hS0 := hSw; (try dsimp only [DS] at hSw); go_simp; refine Came.value ?_ hS0; with_reducible rfl)
  try simp only [Act.put, List.setIfInBounds_toArray, List.set_cons_zero, List.set_cons_succ]
  refine wpDet_take (i := 37) (oi := _) (v := ?dv38) (by simp only [List.getElem?_toArray, List.getElem?_cons_zero, List.getElem?_cons_succ]; rfl) (by kernel_rfl) (by kernel_rfl) (by kernel_rfl) (Or.inl ⟨by rfl, ?dy38⟩) ?dr38
  case dy38 => (intro w hSw; have hS0 := hSw; (try dsimp only [DS] at hSw); go_simp; refine Came.value ?_ hS0; with_reducible rfl)
  try simp only [Act.put, List.setIfInBounds_toArray, List.set_cons_zero, List.set_cons_succ]
  refine wpDet_take (i := 38) (oi := _) (v := ?dv39) (by simp only [List.getElem?_toArray, List.getElem?_cons_zero, List.getElem?_cons_succ]; rfl) (by kernel_rfl) (by kernel_rfl) (by kernel_rfl) (Or.inl ⟨by rfl, ?dy39⟩) ?dr39
  case dy39 => (intro w hSw; have hS0 := hSw; (try dsimp only [DS] at hSw); go_simp; refine Came.value ?_ hS0; with_reducible rfl)
  try simp only [Act.put, List.setIfInBounds_toArray, List.set_cons_zero, List.set_cons_succ]
  refine wpDet_take (i := 39) (oi := _) (v := ?dv40) (by simp only [List.getElem?_toArray, List.getElem?_cons_zero, List.getElem?_cons_succ]; rfl) (by kernel_rfl) (by kernel_rfl) (by kernel_rfl) (Or.inl ⟨by rfl, ?dy40⟩) ?dr40
  case dy40 => (intro w hSw; have hS0 := hSw; (try dsimp only [DS] at hSw); go_simp; refine Came.value ?_ hS0; with_reducible rfl)
  try simp only [Act.put, List.setIfInBounds_toArray, List.set_cons_zero, List.set_cons_succ]
  refine wpDet_take (i := 40) (oi := _) (v := ?dv41) (by simp only [List.getElem?_toArray, List.getElem?_cons_zero, List.getElem?_cons_succ]; rfl) (by kernel_rfl) (by kernel_rfl) (by kernel_rfl) (Or.inl ⟨by rfl, ?dy41⟩) ?dr41
  case dy41 => (intro w hSw; have hS0 := hSw; (try dsimp only [DS] at hSw); go_simp; refine Came.value ?_ hS0; with_reducible rfl)
  try simp only [Act.put, List.setIfInBounds_toArray, List.set_cons_zero, List.set_cons_succ]
  refine wpDet_take (i := 41) (oi := _) (v := ?dv42) (by simp only [List.getElem?_toArray, List.getElem?_cons_zero, List.getElem?_cons_succ]; rfl) (by kernel_rfl) (by kernel_rfl) (by kernel_rfl) (Or.inl ⟨by rfl, ?dy42⟩) ?dr42
  case dy42 => (intro w hSw; have hS0 := hSw; (try dsimp only [DS] at hSw); go_simp; refine Came.value ?_ hS0; with_reducible rfl)
  try simp only [Act.put, List.setIfInBounds_toArray, List.set_cons_zero, List.set_cons_succ]
  refine wpDet_take (i := 42) (oi := _) (v := ?dv43) (by simp only [List.getElem?_toArray, List.getElem?_cons_zero, List.getElem?_cons_succ]; rfl) (by kernel_rfl) (by kernel_rfl) (by kernel_rfl) (Or.inl ⟨by rfl, ?dy43⟩) ?dr43
  case dy43 => (intro w hSw; have hS0 := hSw; (try dsimp only [DS] at hSw); go_simp; refine Came.value ?_ hS0; with_reducible rfl)
  try simp only [Act.put, List.setIfInBounds_toArray, List.set_cons_zero, List.set_cons_succ]
  refine wpDet_take (i := 43) (oi := _) (v := ?dv44) (by simp only [List.getElem?_toArray, List.getElem?_cons_zero, List.getElem?_cons_succ]; rfl) (by kernel_rfl) (by kernel_rfl) (by kernel_rfl) (Or.inl ⟨by rfl, ?dy44⟩) ?dr44
  case dy44 => (intro w hSw; go_simp; exact Came.call ((K1.out w).mono fun e w' ⟨he, hf⟩ => ⟨he, hSw.fr hf⟩) (by with_reducible rfl))
  try simp only [Act.put, List.setIfInBounds_toArray, List.set_cons_zero, List.set_cons_succ]
  refine wpDet_take (i := 44) (oi := _) (v := ?dv45) (by simp only [List.getElem?_toArray, List.getElem?_cons_zero, List.getElem?_cons_succ]; rfl) (by kernel_rfl) (by kernel_rfl) (by kernel_rfl) (Or.inl ⟨by rfl, ?dy45⟩) ?dr45
  case dy45 => (intro w hSw; have hS0 := hSw; (try dsimp only [DS] at hSw); go_simp; refine Came.value ?_ hS0; with_reducible rfl)
  try simp only [Act.put, List.setIfInBounds_toArray, List.set_cons_zero, List.set_cons_succ]
  refine wpDet_take (i := 45) (oi := _) (v := ?dv46) (by simp only [List.getElem?_toArray, List.getElem?_cons_zero, List.getElem?_cons_succ]; rfl) (by kernel_rfl) (by kernel_rfl) (by kernel_rfl) (Or.inl ⟨by rfl, ?dy46⟩) ?dr46
  case dy46 => (intro w hSw; have hS0 := hSw; (try dsimp only [DS] at hSw); go_simp; refine Came.value ?_ hS0; with_reducible rfl)
  try simp only [Act.put, List.setIfInBounds_toArray, List.set_cons_zero, List.set_cons_succ]
  refine wpDet_take (i := 46) (oi := _) (v := ?dv47) (by simp only [List.getElem?_toArray, List.getElem?_cons_zero, List.getElem?_cons_succ]; rfl) (by kernel_rfl) (by kernel_rfl) (by kernel_rfl) (Or.inl ⟨by rfl, ?dy47⟩) ?dr47
  case dy47 => (intro w hSw; have hS0 := hSw; (try dsimp only [DS] at hSw); go_simp; refine Came.value ?_ hS0; with_reducible rfl)
  try simp only [Act.put, List.setIfInBounds_toArray, List.set_cons_zero, List.set_cons_succ]
  refine wpDet_take (i := 47) (oi := _) (v := ?dv48) (by simp only [List.getElem?_toArray, List.getElem?_cons_zero, List.getElem?_cons_succ]; rfl) (by kernel_rfl) (by kernel_rfl) (by kernel_rfl) (Or.inl ⟨by rfl, ?dy48⟩) ?dr48
  case dy48 => (intro w hSw; have hS0 := hSw; (try dsimp only [DS] at hSw); go_simp; refine Came.value ?_ hS0; with_reducible rfl)
  try simp only [Act.put, List.setIfInBounds_toArray, List.set_cons_zero, List.set_cons_succ]
  refine wpDet_take (i := 48) (oi := _) (v := ?dv49) (by simp only [List.getElem?_toArray, List.getElem?_cons_zero, List.getElem?_cons_succ]; rfl) (by kernel_rfl) (by kernel_rfl) (by kernel_rfl) (Or.inl ⟨by rfl, ?dy49⟩) ?dr49
  case dy49 => (intro w hSw; have hS0 := hSw; (try dsimp only [DS] at hSw); go_simp; refine Came.value ?_ hS0; with_reducible rfl)
  try simp only [Act.put, List.setIfInBounds_toArray, List.set_cons_zero, List.set_cons_succ]
  refine wpDet_take (i := 49) (oi := _) (v := ?dv50) (by simp only [List.getElem?_toArray, List.getElem?_cons_zero, List.getElem?_cons_succ]; rfl) (by kernel_rfl) (by kernel_rfl) (by kernel_rfl) (Or.inl ⟨by rfl, ?dy50⟩) ?dr50
  case dy50 => (intro w hSw; have hS0 := hSw; (try dsimp only [DS] at hSw); go_simp; refine Came.value ?_ hS0; with_reducible rfl)
  try simp only [Act.put, List.setIfInBounds_toArray, List.set_cons_zero, List.set_cons_succ]
  refine wpDet_take (i := 50) (oi := _) (v := ?dv51) (by simp only [List.getElem?_toArray, List.getElem?_cons_zero, List.getElem?_cons_succ]; rfl) (by kernel_rfl) (by kernel_rfl) (by kernel_rfl) (Or.inl ⟨by rfl, ?dy51⟩) ?dr51
  case dy51 => (intro w hSw; go_simp; exact Came.call ((K2.out w).mono fun e w' ⟨he, hf⟩ => ⟨he, hSw.fr hf⟩) (by with_reducible rfl))
  try simp only [Act.put, List.setIfInBounds_toArray, List.set_cons_zero, List.set_cons_succ]
  refine wpDet_take (i := 51) (oi := _) (v := ?dv52) (by simp only [List.getElem?_toArray, List.getElem?_cons_zero, List.getElem?_cons_succ]; rfl) (by kernel_rfl) (by kernel_rfl) (by kernel_rfl) (Or.inl ⟨by rfl, ?dy52⟩) ?dr52
  case dy52 => (intro w hSw; have hS0 := hSw; (try dsimp only [DS] at hSw); go_simp; refine Came.value ?_ hS0; with_reducible rfl)
  try simp only [Act.put, List.setIfInBounds_toArray, List.set_cons_zero, List.set_cons_succ]
  refine wpDet_take (i := 52) (oi := _) (v := ?dv53) (by simp only [List.getElem?_toArray, List.getElem?_cons_zero, List.getElem?_cons_succ]; rfl) (by kernel_rfl) (by kernel_rfl) (by kernel_rfl) (Or.inl ⟨by rfl, ?dy53⟩) ?dr53
  case dy53 => (intro w hSw; have hS0 := hSw; (try dsimp only [DS] at hSw); go_simp; refine Came.value ?_ hS0; with_reducible rfl)
  try simp only [Act.put, List.setIfInBounds_toArray, List.set_cons_zero, List.set_cons_succ]
  refine wpDet_take (i := 53) (oi := _) (v := ?dv54) (by simp only [List.getElem?_toArray, List.getElem?_cons_zero, List.getElem?_cons_succ]; rfl) (by kernel_rfl) (by kernel_rfl) (by kernel_rfl) (Or.inl ⟨by rfl, ?dy54⟩) ?dr54
  case dy54 => (intro w hSw; have hS0 := hSw; (try dsimp only [DS] at hSw); go_simp; refine Came.value ?_ hS0; with_reducible rfl)
  try simp only [Act.put, List.setIfInBounds_toArray, List.set_cons_zero, List.set_cons_succ]
  refine wpDet_done (by kernel_rfl) ?_ _
  rintro w6 ⟨hF, _⟩
  go_wp2
  go_ret
  exact ⟨rfl, hF⟩

theorem dsays_walk (n l h : Int) (o : Bool) (w : World) (hl : l ≤ 9223372036854775807) : Calls Try.prog 4 #[.int .i64 n, dv l h, .bool o] w fun e w' => e = .returned (.bool true) ∧ w.grownBy w' none := by
  by_cases hc : 1099511627776 < n ∨ n < -1099511627776 ∨ 1125899906842624 < h ∨ h < -1125899906842624
  · exact (says_out n l h o w hc).mono fun _ _ ⟨he, hf⟩ => ⟨he, hf.grown (by simp)⟩
  · exact (says_in n l h o w hl (by omega) (by omega) (by omega) (by omega)).mono fun _ _ ⟨he, hf⟩ => ⟨he, hf.grown (by simp)⟩
end Go.Proofs.Ytecbjfmdlaajdaa
